import PyProof.Rows.All
import Wide.All
import OpenK.AllK
import Wide.FinOn
import HandS.ForMost
import HandS.ForExc
import HandS.IsInst
import HandS.Strs
import HandS.SetFor
import HandS.SortInts
import HandS.Wide
import HandS.TupAny
import HandS.More
import HandS.Property
import HandS.Walk
import KE.GoesEnum
import HandS.Conv
import HandS.Ends
import HandS.ExcInit
import HandS.ExcField
import HandS.ExcIs
import HandS.ClsMeth
import HandS.FStr
import HandS.ExcCtx
import HandS.HotCalls
import KE.KExcIs
import KE.KCallOwn
import HandS.Zip
import HandS.TryMany
import HandS.NoneIn
import HandS.Flow
import HandS.Deep
import HandS.WideBits
import HandS.WordsDict
import HandS.Rev
import PyProof.AutoSeq1
import HandS.SortRule
import PyProof.ListStr
import KE.KOpsOwn
import HandS.Codes
import PyProof.ReprRoads
import PyProof.CallFns
import PyProof.ReprText
import KE.SortData
import HandS.Style
import PySem.Challenge.RW_fieldrides_k41_whole_needy_rows
set_option Elab.async false
set_option linter.all false
set_option maxRecDepth 100000
namespace My
open PySem PySem.Spec PyProof.Rows L2
structure Df (K : PySem.W.Frag) (mg : Str → Option Value) (x : Str) (st : Stmt) (ps : List Str) : Prop where
  ex : ∃ (f : Addr) (fd : FuncData), Fun K x x st f fd ∧ Binds K fd ps [] ∧ mg x = some (.ref f)
structure Dn (P : Program) (w : World) (K : PySem.W.Frag) (mg : Str → Option Value) (base : Heap) (k : Nat) (x : Str) (sp : Sp) : Prop where
  ex : ∃ (f : Addr) (fd : FuncData) (ps : List Str), FnOk P w K mg base CX0 k f fd ps sp ∧ mg x = some (.ref f) ∧ PySem.W.keepIn K (.ref f) = true ∧ Binds K fd ps []
section
variable {P : Program} {w : World} {K : PySem.W.Frag} {mg : Str → Option Value} {base : Heap}
theorem Df.ok {x : Str} {st : Stmt} {N ps : List Str} {k : Nat} {sp : Sp} (F : Df K mg x st ps) (S : FnScope N ps (defScope st)) (len : ∀ vs H Q E, sp vs H Q E → vs.length = ps.length)
    (body : ∀ (f : Addr) (cdv : Value) (A : Around) (outer : List Env) (s : Shared) (H : Hp) (vs : List V) (Q : VK) (E : XK),
      Room k (A.deeper (envOfC x (defScope st) s.heap.objs.size f cdv)) → sp vs H Q E →
      ∃ t, PSs (cxOf CX0 P w K mg base N x (defScope st) f cdv A outer s H E).nox (defBody st) t ∧
        t { nx := fun _ H' => Q .non H', rt := Q } (start N vs) H) : Dn P w K mg base (k + 1) x sp := by
  obtain ⟨f, fd, F, b, m⟩ := F.ex
  exact ⟨f, fd, ps, F.ok S len (body f), m, F.kp, b⟩
theorem Dn.mono {x : Str} {j k : Nat} {sp : Sp} (D : Dn P w K mg base j x sp) (h : j ≤ k) : Dn P w K mg base k x sp := by
  obtain ⟨f, fd, ps, F, m, q, b⟩ := D.ex
  exact ⟨f, fd, ps, F.mono h, m, q, b⟩
theorem Dn.imp {x : Str} {k : Nat} {sp sp' : Sp} (D : Dn P w K mg base k x sp) (h : ∀ vs H Q E, sp' vs H Q E → sp vs H Q E) : Dn P w K mg base k x sp' := by
  obtain ⟨f, fd, ps, F, m, q, b⟩ := D.ex
  exact ⟨f, fd, ps, F.imp h, m, q, b⟩
/-- nothing is promised of a call that can't be -/
theorem Df.none {x : Str} {st : Stmt} {ps : List Str} {sp : Sp} (F : Df K mg x st ps) (no : ∀ vs H Q E, ¬ sp vs H Q E) (k : Nat) : Dn P w K mg base k x sp := by
  obtain ⟨f, fd, F, b, m⟩ := F.ex
  exact ⟨f, fd, ps, ⟨fun vs H Q E h => absurd h (no vs H Q E), fun A outer s H args us vs Q E _ _ _ _ h => absurd h (no vs H Q E)⟩, m, F.kp, b⟩
end
theorem same_new {H : Hp} {p : Addr} (h : H p = Option.none) (o : HO) : Same H (upd H p o) := fun b u q => by rw [upd_ne (ne_of_none q h)]; exact q
/-- all but what stands at t is as it was -/
def But (t : Addr) (H H' : Hp) : Prop := ∀ b o, b ≠ t → H b = some o → H' b = some o
theorem But.refl (t : Addr) (H : Hp) : But t H H := fun _ _ _ h => h
theorem But.trans {t : Addr} {H H1 H2 : Hp} (a : But t H H1) (b : But t H1 H2) : But t H H2 := fun c o n h => b c o n (a c o n h)
theorem But.of {t : Addr} {H H' : Hp} (h : Same H H') : But t H H' := fun b o _ q => h b o q
theorem But.upd {t : Addr} {H : Hp} (o : HO) : But t H (upd H t o) := fun b u n q => by rw [upd_ne n]; exact q
theorem But.tup {t p : Addr} {H H' : Hp} {l xs : List V} (b : But t H H') (ht : H t = some (.lst l)) (h : H p = some (.tup xs)) : H' p = some (.tup xs) :=
  b p _ (ne_of h ht (by intro z; cases z)) h
/-- from the heap ahead of the list at t -/
theorem But.same {t : Addr} {H0 H' : Hp} {o : HO} (n : H0 t = Option.none) (b : But t (L2.upd H0 t o) H') : Same H0 H' := fun c u q =>
  b c u (ne_of_none q n) (by rw [upd_ne (ne_of_none q n)]; exact q)
theorem _root_.L2.Same.seqT {K : PySem.W.Frag} {H H' : Hp} {a : Addr} {xs : List V} (e : Same H H') (h : SqT K H a xs) : SqT K H' a xs := by
  rcases h with (h | ⟨o, h⟩) | h
  · exact .inl (.inl (e _ _ h))
  · exact .inl (.inr ⟨o, e _ _ h⟩)
  · exact .inr h
theorem nodup_small : ∀ (n : Nat) (ds : List Int), ds.Nodup → (∀ z ∈ ds, 0 ≤ z ∧ z < (n : Int)) → ds.length ≤ n
  | 0, [], _, _ => Nat.le_refl _
  | 0, d :: ds, _, h => by have := h d (List.mem_cons_self ..); omega
  | n + 1, ds, nd, h => by
    have q := nodup_small n (ds.erase (n : Int)) (nd.erase _) fun z hz => by
      have h1 := h z (List.mem_of_mem_erase hz)
      have h2 : z ≠ (n : Int) := fun e => by
        subst e
        exact (nd.not_mem_erase hz)
      omega
    have l := List.length_erase_le (a := (n : Int)) (l := ds)
    by_cases m : (n : Int) ∈ ds
    · rw [List.length_erase_of_mem m] at q
      omega
    · rw [List.erase_of_not_mem m] at q
      omega
theorem SetR.list {w : World} {h : Heap} {a : Addr} {S : Int → Bool} {n : Nat} (R : SetR w h a S n) : ∃ ds : List Int, ds.Nodup ∧ (∀ z, z ∈ ds ↔ S z = true) ∧ ds.length = n := by
  obtain ⟨o, es, ep, t, _, _, _, _, nd, m, _, _, e, _⟩ := R
  exact ⟨es.toList.map keyOf, nd, fun z => (m z).symm, by rw [List.length_map, Array.length_toList]; exact e⟩
end My
set_option Elab.async false
set_option linter.all false
set_option maxRecDepth 100000
namespace My
open PySem PySem.Spec PyProof.Rows L2
theorem small {n : Nat} (h : n ≤ 100000) : n ≤ sizeLine := by rw [sizeLine_eq]; omega
theorem smallLt {n : Nat} (h : n ≤ 100000) : n < sizeLine := by rw [sizeLine_eq]; omega
def Tape (H : Hp) (t : Addr) : Prop := ∃ c k : Int, H t = some (.lst [.int c, .int k]) ∧ 0 ≤ c ∧ 0 ≤ k
theorem Tape.lst {H : Hp} {t : Addr} (h : Tape H t) : ∃ l, H t = some (.lst l) := by
  obtain ⟨c, k, h, _⟩ := h
  exact ⟨_, h⟩
theorem Tape.same {H H' : Hp} {t : Addr} (h : Tape H t) (e : Same H H') : Tape H' t := by
  obtain ⟨c, k, h, q⟩ := h
  exact ⟨c, k, e _ _ h, q⟩
theorem Tape.ne {H : Hp} {t p : Addr} (h : Tape H t) (n : H p = none) : p ≠ t := by
  obtain ⟨l, h⟩ := h.lst
  exact fun e => ne_of_none h n e.symm
theorem Tape.upd {H : Hp} {t D : Addr} {o : HO} (h : Tape H t) (n : D ≠ t) : Tape (L2.upd H D o) t := by
  obtain ⟨c, k, h, q⟩ := h
  exact ⟨c, k, by rw [upd_ne n.symm]; exact h, q⟩
theorem But.free {t D : Addr} {H H' : Hp} (b : But t H H') (n : H' D = none) (ne : D ≠ t) : H D = none := by
  cases q : H D with
  | none => rfl
  | some o => rw [b D o ne q] at n; cases n
section
variable {X : Cx} {K : PySem.W.Frag}
theorem ix_seqK (h : X.K = K) : IxR X (rIx K) := h ▸ ix_seq
end
inductive Tr where
  | leaf (s : Str)
  | ask (f : Int) (a b c : Tr)
  deriving DecidableEq
namespace Tr
def depth : Tr → Nat
  | leaf _ => 0
  | ask _ a b c => max a.depth (max b.depth c.depth) + 1
def fields : Tr → List Int
  | leaf _ => []
  | ask f a b c => [f] ++ a.fields ++ b.fields ++ c.fields
/-- every asked field lies in 0 .. n-1 -/
def Below (n : Int) : Tr → Prop
  | leaf _ => True
  | ask f a b c => 0 ≤ f ∧ f < n ∧ a.Below n ∧ b.Below n ∧ c.Below n
theorem Below.mono : ∀ {t : Tr} {n m : Int}, t.Below n → n ≤ m → t.Below m
  | leaf _, _, _, _, _ => trivial
  | ask f a b c, n, m, ⟨h1, h2, h3, h4, h5⟩, h => ⟨h1, by omega, h3.mono h, h4.mono h, h5.mono h⟩
end Tr
inductive TreeAt (H : Hp) : V → Tr → Prop where
  | leaf (s : Str) : TreeAt H (.str s) (.leaf s)
  | ask {p : Addr} {f : Int} {va vb vc : V} {a b c : Tr} (h : H p = some (.tup [.int f, va, vb, vc])) (ha : TreeAt H va a) (hb : TreeAt H vb b) (hc : TreeAt H vc c) : TreeAt H (.ref p) (.ask f a b c)
theorem TreeAt.keep {H H' : Hp} {v : V} {t : Tr} (k : ∀ p xs, H p = some (.tup xs) → H' p = some (.tup xs)) (h : TreeAt H v t) : TreeAt H' v t := by
  induction h with
  | leaf s => exact .leaf s
  | ask h _ _ _ i1 i2 i3 => exact .ask (k _ _ h) i1 i2 i3
theorem TreeAt.same {H H' : Hp} {v : V} {t : Tr} (h : TreeAt H v t) (e : Same H H') : TreeAt H' v t := h.keep fun p xs q => e p _ q
/-- a tree that is an ask is a tuple -/
theorem TreeAt.inv {H : Hp} {v : V} {f : Int} {a b c : Tr} (h : TreeAt H v (.ask f a b c)) : ∃ p va vb vc, v = .ref p ∧ H p = some (.tup [.int f, va, vb, vc]) ∧ TreeAt H va a ∧ TreeAt H vb b ∧ TreeAt H vc c := by
  cases h with
  | ask h ha hb hc => exact ⟨_, _, _, _, rfl, h, ha, hb, hc⟩
/-- a list of trees -/
abbrev TreesAt (H : Hp) : List V → List Tr → Prop := Paired (TreeAt H)
theorem TreesAt.keep {H H' : Hp} {vs : List V} {ts : List Tr} (k : ∀ p xs, H p = some (.tup xs) → H' p = some (.tup xs)) (h : TreesAt H vs ts) : TreesAt H' vs ts := Paired.mapP h fun _ _ q => q.keep k
theorem dpInts {K : PySem.W.Frag} {H : Hp} : ∀ l : List Int, DpAll K H (l.map V.int) (l.map PyData.int)
  | [] => .nil
  | x :: l => .cons (.int x) (dpInts l)
end My
set_option Elab.async false
set_option linter.all false
set_option maxRecDepth 100000
namespace My
open PySem PySem.Spec PyProof.Rows L2
/-- a method (qual: its qualified name) as the text has it -/
structure DfM (K : PySem.W.Frag) (C : Addr) (m qual : Str) (st : Stmt) (ps : List Str) : Prop where
  ex : ∃ (f : Addr) (fd : FuncData), Fun K m qual st f fd ∧ Binds K fd ps [] ∧ Meth K C m f
structure DfP (K : PySem.W.Frag) (C : Addr) (m qual : Str) (st : Stmt) (ps : List Str) : Prop where
  ex : ∃ (p f : Addr) (fd : FuncData), Fun K m qual st f fd ∧ Binds K fd ps [] ∧ PropOf K C m p f
structure DfI (K : PySem.W.Frag) (mg : Str → Option Value) (x : Str) (C : Addr) (qual : Str) (st : Stmt) (ps : List Str) : Prop where
  ex : ∃ (f : Addr) (fd : FuncData), Fun K "__init__" qual st f fd ∧ Binds K fd ps [] ∧ Mk K C f ∧ mg x = some (.ref C)
structure DnM (P : Program) (w : World) (K : PySem.W.Frag) (mg : Str → Option Value) (base : Heap) (k : Nat) (C : Addr) (m : Str) (sp : Sp) : Prop where
  ex : ∃ (f : Addr) (fd : FuncData) (ps : List Str), FnOk P w K mg base CX0 k f fd ps sp ∧ Meth K C m f ∧ Binds K fd ps []
structure DnP (P : Program) (w : World) (K : PySem.W.Frag) (mg : Str → Option Value) (base : Heap) (k : Nat) (C : Addr) (m : Str) (sp : Sp) : Prop where
  ex : ∃ (p f : Addr) (fd : FuncData) (ps : List Str), FnOk P w K mg base CX0 k f fd ps sp ∧ PropOf K C m p f ∧ Binds K fd ps []
structure DnI (P : Program) (w : World) (K : PySem.W.Frag) (mg : Str → Option Value) (base : Heap) (k : Nat) (x : Str) (C : Addr) (sp : Sp) : Prop where
  ex : ∃ (f : Addr) (fd : FuncData) (ps : List Str), FnOk P w K mg base CX0 k f fd ps sp ∧ Mk K C f ∧ mg x = some (.ref C) ∧ Binds K fd ps []
section
variable {P : Program} {w : World} {K : PySem.W.Frag} {mg : Str → Option Value} {base : Heap} {C : Addr} {m qual x : Str} {st : Stmt} {N ps : List Str} {k : Nat} {sp : Sp}
theorem DfM.ok (F : DfM K C m qual st ps) (S : FnScope N ps (defScope st)) (len : ∀ vs H Q E, sp vs H Q E → vs.length = ps.length)
    (body : ∀ (f : Addr) (cdv : Value) (A : Around) (outer : List Env) (s : Shared) (H : Hp) (vs : List V) (Q : VK) (E : XK),
      Room k (A.deeper (envOfC qual (defScope st) s.heap.objs.size f cdv)) → sp vs H Q E →
      ∃ t, PSs (cxOf CX0 P w K mg base N qual (defScope st) f cdv A outer s H E).nox (defBody st) t ∧
        t { nx := fun _ H' => Q .non H', rt := Q } (start N vs) H) : DnM P w K mg base (k + 1) C m sp := by
  obtain ⟨f, fd, F, b, m⟩ := F.ex
  exact ⟨f, fd, ps, F.ok S len (body f), m, b⟩
theorem DfP.ok (F : DfP K C m qual st ps) (S : FnScope N ps (defScope st)) (len : ∀ vs H Q E, sp vs H Q E → vs.length = ps.length)
    (body : ∀ (f : Addr) (cdv : Value) (A : Around) (outer : List Env) (s : Shared) (H : Hp) (vs : List V) (Q : VK) (E : XK),
      Room k (A.deeper (envOfC qual (defScope st) s.heap.objs.size f cdv)) → sp vs H Q E →
      ∃ t, PSs (cxOf CX0 P w K mg base N qual (defScope st) f cdv A outer s H E).nox (defBody st) t ∧
        t { nx := fun _ H' => Q .non H', rt := Q } (start N vs) H) : DnP P w K mg base (k + 1) C m sp := by
  obtain ⟨p, f, fd, F, b, m⟩ := F.ex
  exact ⟨p, f, fd, ps, F.ok S len (body f), m, b⟩
theorem DfI.ok (F : DfI K mg x C qual st ps) (S : FnScope N ps (defScope st)) (len : ∀ vs H Q E, sp vs H Q E → vs.length = ps.length)
    (body : ∀ (f : Addr) (cdv : Value) (A : Around) (outer : List Env) (s : Shared) (H : Hp) (vs : List V) (Q : VK) (E : XK),
      Room k (A.deeper (envOfC qual (defScope st) s.heap.objs.size f cdv)) → sp vs H Q E →
      ∃ t, PSs (cxOf CX0 P w K mg base N qual (defScope st) f cdv A outer s H E).nox (defBody st) t ∧
        t { nx := fun _ H' => Q .non H', rt := Q } (start N vs) H) : DnI P w K mg base (k + 1) x C sp := by
  obtain ⟨f, fd, F, b, m, g⟩ := F.ex
  exact ⟨f, fd, ps, F.ok S len (body f), m, g, b⟩
end
section
variable {X : Cx} {k : Nat} {x m : Str} {C : Addr} {sp : Sp} {o e : Expr} {es : List Expr} {ta : TE} {t : TA} {p pos apos : Pos}
/-- a number of the module -/
theorem pe_globI {i : Int} (hg : Gl X x) (h : ∃ t, X.mg x = some (.int i t)) (hd : (x == ("__debug__" : Str)) = false := by decide) : PE X (.Name x pos) (tC (.int i)) := by
  obtain ⟨t, h⟩ := h
  exact pe_glob hg h ⟨_, rfl⟩ hd
end
end My
set_option Elab.async false
set_option linter.all false
set_option maxRecDepth 100000
namespace My
open PySem PySem.Spec PyProof.Rows L2
set_option maxHeartbeats 1000000 in
theorem meets_enum_newB {v : Value} {o : Obj} {H : Heap → Prop} (B : Begins v o H) :
    Meets (Builtin.«enumerate.__new__» ⟨[.type "enumerate", v], []⟩) (fun _ R s => H s.heap ∧
      R (.ok (.ret (.ref (s.heap.push o).objs.size))) { s with heap := (s.heap.push o).push { cls := .type "enumerate", data := .fields #[.none, .bool false, .ref s.heap.objs.size, rawInt 0, .none, .none] } }) :=
  .of_wp fun prog w A R s h => by
    obtain ⟨hp, g, d, tk, os⟩ := s; obtain ⟨h1, h⟩ := h
    have hsub := sub_enumerate
    have q1 : ∀ {A' : Around} {E : Value → Shared → Prop} {Q : Value → Shared → Prop}, Q (.ref hp.objs.size) ⟨hp.push o, g, d, tk, os⟩ → wpAny (model prog w) A' (pyIter v) Q E ⟨hp, g, d, tk, os⟩ :=
      fun q => B.iter prog w _ _ ⟨hp, g, d, tk, os⟩ _ h1 q
    wp_walk using q1
    refine wpAny_stack_any fun st => wpAny_pure ?_
    split
    · rename_i c _ _ _ _ _
      cases (c == Value.type "enumerate")
      · wp_walk using q1
        exact ⟨_, rfl, h⟩
      · wp_walk using q1
        exact ⟨_, rfl, h⟩
    · wp_walk using q1
      exact ⟨_, rfl, h⟩
theorem enum_begins1 {prog : Program} {w : World} {A : Around} {E : Value → Shared → Prop} {s : Shared} {v : Value} {o : Obj} {H : Heap → Prop} {Q : Value → Shared → Prop} (B : Begins v o H) (h1 : H s.heap)
    (h : ∀ h', IsEnum h' (s.heap.objs.size + 1) s.heap.objs.size 0 .none → h'.get? s.heap.objs.size = some o → (∀ b o, s.heap.get? b = some o → h'.get? b = some o) → Q (.ref (s.heap.objs.size + 1)) { s with heap := h' }) :
    wpAny (model prog w) A (call (.type "enumerate") [v]) Q E s := by
  refine callType_new F.called_enumerate (by decide) (F.typeCall_enumerate_1 _) (F.newCall_enumerate_1 _) (fun obj => F.args_object_init_2 obj _) F.entry_enumerate_new (meets_enum_newB B) ⟨h1, ?_⟩
  have hz : (s.heap.push o).objs.size = s.heap.objs.size + 1 := Heap.size_push ..
  show _ ∧ _
  rw [hz]
  have he : IsEnum ((s.heap.push o).push { cls := .type "enumerate", data := .fields #[.none, .bool false, .ref s.heap.objs.size, rawInt 0, .none, .none] }) (s.heap.objs.size + 1) s.heap.objs.size 0 .none := by
    have := Heap.get?_push_size (s.heap.push o) (o := { cls := .type "enumerate", data := .fields #[.none, .bool false, .ref s.heap.objs.size, rawInt 0, .none, .none] }) rfl
    rw [hz] at this; exact this
  exact ⟨⟨_, he, rfl⟩, h _ he (Heap.get?_push_of_some _ (Heap.get?_push_size _ B.free)) fun b o x => Heap.get?_push_of_some _ (Heap.get?_push_of_some _ x)⟩
/-- the tuple at a, each item in a new pair -/
def IteT (K : PySem.W.Frag) (a : Addr) : It :=
  ⟨fun i H => ∃ (xs : List V) (x : V), SqT K H a xs ∧ xs[i]? = some x, fun i H v H' => ∃ T x, v = .ref T ∧ H T = none ∧ H' = upd H T (.tup [.int (i : Nat), x]) ∧ ∀ xs, SqT K H a xs → xs[i]? = some x, fun i H => ∃ xs : List V, SqT K H a xs ∧ xs.length = i⟩
theorem turn_enumT {P : Program} {w : World} {K : PySem.W.Frag} {elts : List Expr} {kk : Nat} {tpos : Pos} (a e it : Addr) :
    Turn P w K (.Tuple elts kk tpos) (IteT K a) [e, it] e (fun i h => (∃ old, IsEnum h e it ((i : Nat) : Int) old) ∧ h.IsTupleIter it a i ∧ e ≠ it) where
  mem := by simp
  obj := fun i h st b hb => by
    obtain ⟨⟨old, he⟩, ⟨o, ho, hc, hd⟩, _⟩ := st
    have e' : b = e ∨ b = it := by simpa using hb
    rcases e' with z | z
    · rw [z]; exact ⟨_, he, fun v q => nomatch q⟩
    · rw [z]; exact ⟨o, ho, fun v q => by rw [hd] at q; cases q⟩
  keep := fun i h h' st k => let ⟨⟨old, he⟩, hi, hne⟩ := st; ⟨⟨old, k e (by simp) _ he⟩, hi.at fun o q => k it (by simp) o q, hne⟩
  item := by
    intro X hP hw hK hc i pins s σ H E I hf st hg
    subst hP hw hK
    obtain ⟨⟨old, he⟩, hit, hne⟩ := st
    obtain ⟨xs, x, hq, hx⟩ := hg
    obtain ⟨its, rv, p, hz⟩ := I.tuple hq
    have p : s.heap.IsTuple a its.toArray := p
    obtain ⟨u, hu, ru⟩ := rv.get hx
    have hel : e < s.heap.objs.size := Heap.lt_size he
    have hil : it < s.heap.objs.size := by obtain ⟨_, q, _⟩ := hit; exact Heap.lt_size q
    have hai : a ≠ it := by
      rintro rfl
      obtain ⟨o, q, c, _⟩ := hit
      obtain ⟨o', q', c', _⟩ := p
      rw [q] at q'
      cases q'
      exact absurd (c.symm.trans c') (by decide)
    have hae : a ≠ e := by
      rintro rfl
      obtain ⟨o', q', c', _⟩ := p
      have he' : s.heap.get? a = some _ := he
      rw [he'] at q'
      cases q'
      exact absurd (show Value.type "enumerate" = Value.type "tuple" from c') (by decide)
    have hil' : i < its.length := by
      have := (List.getElem?_eq_some_iff.mp hu).1
      exact this
    refine wpAny_pyNext_enum_itemD (old := old) (Draws.tuple (prog := X.prog) (w := X.w) (A := X.A.in1) (by rw [show X.A.in1.handled = X.A.handled from rfl]; exact I.ok.hd hc) it a hai its.toArray) he ⟨hit, p⟩ (by simpa using hil') hne (by simp [hne, Ne.symm hae]) fun y h' tk hy ho hit' hT hsz hk => ?_
    have hy : its.toArray[i]? = some y := hy
    obtain rfl : y = u := by rw [show its.toArray[i]? = its[i]? by simp] at hy; rw [hu] at hy; exact (Option.some.inj hy).symm
    refine ⟨_, rfl, wpAny_letOwnedTupleGo_enum (s := { s with heap := h', toks := tk + 1 }) ho fun h'' he' sb => ?_⟩
    have hT2 : h''.get? s.heap.objs.size = some { cls := .type "tuple", data := .seq #[.int i tk, y] } := (sb.2 _ (Nat.ne_of_gt hel)).trans hT
    have new : ObjOk X.prog X.w (upd H s.heap.objs.size (.tup [.int (i : Nat), x])) h'' s.heap.objs.size (.tup [.int (i : Nat), x]) :=
      ⟨by show 2 ≤ sizeLine; decide, [.int i tk, y], .cons ⟨_, rfl⟩ (.cons ru .nil), ⟨_, hT2, rfl, _, rfl⟩⟩
    have I1 : Inv X pins σ (upd H s.heap.objs.size (.tup [.int (i : Nat), x])) { s with heap := h'', toks := tk + 1 } :=
      I.turnedNew (ch := [e, it]) (fun b ob hb q => (sb.2 b (fun z => hb (by simp [z]))).trans (hk b ob (fun z => hb (by simp [z])) (fun z => hb (by simp [z])) q)) hf (Nat.le_refl _) new
    refine ⟨.ref s.heap.objs.size, _, I1, rfl, ⟨_, x, rfl, I.hok.fresh (Nat.le_refl _), rfl, fun ys hy => by rw [I.tuple_inj hy hq]; exact hx⟩, ⟨⟨y, ?_⟩, hit'.1.at fun o q => (sb.2 it (Ne.symm hne)).trans q, hne⟩, fun b hb => ?_⟩
    · have e1 : ((i + 1 : Nat) : Int) = (i : Int) + 1 := by omega
      rw [e1]; exact he'
    · have hb' : b < s.heap.objs.size := by
        have e' : b = e ∨ b = it := by simpa using hb
        rcases e' with z | z
        · rw [z]; exact hel
        · rw [z]; exact hil
      rw [upd_ne (Nat.ne_of_lt hb')]
      exact (hf b hb).1
  done := by
    intro X hP hw hK hc i pins s σ H E I hf st hg
    subst hP hw hK
    obtain ⟨⟨old, he⟩, hit, hne⟩ := st
    obtain ⟨xs, hq, hx⟩ := hg
    obtain ⟨its, rv, p, hz⟩ := I.tuple hq
    have p : s.heap.IsTuple a its.toArray := p
    obtain ⟨f0, f1, f2, f3, f4, f5⟩ := hf it (by simp)
    have hai : a ≠ it := by
      rintro rfl
      obtain ⟨o, q, c, _⟩ := hit
      obtain ⟨o', q', c', _⟩ := p
      rw [q] at q'
      cases q'
      exact absurd (c.symm.trans c') (by decide)
    have hae : a ≠ e := by
      rintro rfl
      obtain ⟨o', q', c', _⟩ := p
      have he' : s.heap.get? a = some _ := he
      rw [he'] at q'
      cases q'
      exact absurd (show Value.type "enumerate" = Value.type "tuple" from c') (by decide)
    have hl := rv.length
    have hn : its.toArray.size = i := by simp; omega
    refine wpAny_pyNext_enum_endD (Draws.tuple (prog := X.prog) (w := X.w) (A := X.A.in1) (by rw [show X.A.in1.handled = X.A.handled from rfl]; exact I.ok.hd hc) it a hai its.toArray) he ⟨by rw [hn]; exact hit, p⟩ fun h' eb => ⟨rfl, I.turned (t' := s.toks) (fun b o hb q => eb b o hb q) f0 f1 f3 f4 f5⟩
  self := fun A i s Q E st h => let ⟨⟨_, he⟩, _⟩ := st; wpAny_pyIter_enum he h
def SqX (K : PySem.W.Frag) (H : Hp) (a : Addr) (xs : List V) : Prop := SqL K H a xs ∨ SqT K H a xs
theorem SqX.same {K : PySem.W.Frag} {H H' : Hp} {a : Addr} {xs : List V} (g : Same H H') (h : SqX K H a xs) : SqX K H' a xs := h.imp g.seq g.seqT
end My
set_option Elab.async false
set_option linter.all false
set_option maxRecDepth 100000
namespace My
open PySem PySem.Spec PyProof.Rows L2
def pV : Option Nat → V
  | none => .non
  | some p => .int (p : Int)
def par (ps : List (Option Nat)) (i : Nat) : Option Nat := (ps[i]?).join
theorem par_lt {ps : List (Option Nat)} {i p : Nat} (h : par ps i = some p) : i < ps.length := by
  unfold par at h
  cases e : ps[i]? with
  | none => rw [e] at h; cases h
  | some x => exact (List.getElem?_eq_some_iff.mp e).1
theorem par_get {ps : List (Option Nat)} {i : Nat} (h : i < ps.length) : ps[i]? = some (par ps i) := by
  unfold par
  rw [List.getElem?_eq_getElem h]
  rfl
theorem par_mem {ps : List (Option Nat)} {i p : Nat} (h : par ps i = some p) : some p ∈ ps := by
  have := par_get (par_lt h)
  rw [h] at this
  exact List.mem_of_getElem? this
theorem mem_par {ps : List (Option Nat)} {p : Nat} (h : some p ∈ ps) : ∃ i, par ps i = some p := by
  obtain ⟨i, hi, e⟩ := List.mem_iff_getElem.mp h
  exact ⟨i, by unfold par; rw [List.getElem?_eq_getElem hi, e]; rfl⟩
theorem par_set {ps : List (Option Nat)} {j p : Nat} (h : j < ps.length) (i : Nat) : par (ps.set j (some p)) i = if i = j then some p else par ps i := by
  unfold par
  rw [List.getElem?_set]
  by_cases e : j = i
  · subst e; rw [if_pos rfl, if_pos rfl, if_pos h]; rfl
  · rw [if_neg e, if_neg (fun z => e z.symm)]
theorem eraseIdx_perm {α : Type} : ∀ {l : List α} {i : Nat} (h : i < l.length), (l[i] :: l.eraseIdx i).Perm l
  | [], _, h => by simp at h
  | x :: l, 0, _ => .refl _
  | x :: l, i + 1, h => by
    have h' : i < l.length := by simpa using h
    show (l[i] :: x :: l.eraseIdx i).Perm (x :: l)
    exact (List.Perm.swap x l[i] _).trans ((eraseIdx_perm h').cons x)
theorem eraseIdx_map {α β : Type} (f : α → β) : ∀ (l : List α) (i : Nat), (l.map f).eraseIdx i = (l.eraseIdx i).map f
  | [], _ => rfl
  | x :: l, 0 => rfl
  | x :: l, i + 1 => by
    show f x :: (l.map f).eraseIdx i = f x :: (l.eraseIdx i).map f
    rw [eraseIdx_map f l i]
/-- no way comes round -/
structure Acy (ps : List (Option Nat)) : Prop where
  lt : ∀ {i p : Nat}, par ps i = some p → p < ps.length
  rk : ∃ r : Nat → Nat, (∀ i, i < ps.length → r i < ps.length) ∧ ∀ {i p : Nat}, par ps i = some p → r p < r i
def pathF (ps : List (Option Nat)) : Nat → Nat → List Nat
  | 0, i => [i]
  | k + 1, i => match par ps i with
    | none => [i]
    | some p => pathF ps k p ++ [i]
def path (ps : List (Option Nat)) (i : Nat) : List Nat := pathF ps ps.length i
theorem pathF_eq {ps : List (Option Nat)} {r : Nat → Nat} (hr : ∀ {i p : Nat}, par ps i = some p → r p < r i) : ∀ (k m i : Nat), r i ≤ k → r i ≤ m → pathF ps k i = pathF ps m i
  | 0, 0, i, _, _ => rfl
  | 0, m + 1, i, h, _ => by
    cases e : par ps i with
    | none => simp only [pathF, e]
    | some p => have := hr e; omega
  | k + 1, 0, i, _, h => by
    cases e : par ps i with
    | none => simp only [pathF, e]
    | some p => have := hr e; omega
  | k + 1, m + 1, i, h1, h2 => by
    cases e : par ps i with
    | none => simp only [pathF, e]
    | some p =>
      have := hr e
      simp only [pathF, e]
      rw [pathF_eq hr k m p (by omega) (by omega)]
theorem path_root {ps : List (Option Nat)} {i : Nat} (h : par ps i = none) : path ps i = [i] := by
  unfold path
  cases ps.length with
  | zero => rfl
  | succ k => simp only [pathF, h]
theorem path_step {ps : List (Option Nat)} (A : Acy ps) {i p : Nat} (h : par ps i = some p) : path ps i = path ps p ++ [i] := by
  obtain ⟨r, r1, r2⟩ := A.rk
  have hi := par_lt h
  have hp := A.lt h
  have h1 := r1 i hi
  have h2 := r1 p hp
  have h3 := r2 h
  unfold path
  rw [pathF_eq r2 ps.length (r p + 1 + (ps.length - r p - 1)) i (by omega) (by omega)]
  rw [show r p + 1 + (ps.length - r p - 1) = (ps.length - 1) + 1 by omega]
  simp only [pathF, h]
  rw [pathF_eq r2 (ps.length - 1) ps.length p (by omega) (by omega)]
theorem path_len {ps : List (Option Nat)} (A : Acy ps) {i : Nat} (hi : i < ps.length) : (path ps i).length ≤ ps.length := by
  obtain ⟨r, r1, r2⟩ := A.rk
  have len : ∀ k i, (pathF ps k i).length ≤ k + 1 := fun k => by
    induction k with
    | zero => intro i; exact Nat.le_refl _
    | succ k ih =>
      intro i
      cases e : par ps i with
      | none => simp only [pathF, e, List.length_cons, List.length_nil]; omega
      | some p =>
        have := ih p
        simp only [pathF, e, List.length_append, List.length_cons, List.length_nil]
        omega
  unfold path
  have h1 := r1 i hi
  rw [pathF_eq r2 ps.length (ps.length - 1) i (by omega) (by omega)]
  have := len (ps.length - 1) i
  omega
theorem path_lt {ps : List (Option Nat)} (A : Acy ps) {i : Nat} (hi : i < ps.length) : ∀ j ∈ path ps i, j < ps.length := by
  have key : ∀ k i, i < ps.length → ∀ j ∈ pathF ps k i, j < ps.length := fun k => by
    induction k with
    | zero => intro i hi j hj; rw [List.mem_singleton.mp hj]; exact hi
    | succ k ih =>
      intro i hi j hj
      cases e : par ps i with
      | none => simp only [pathF, e, List.mem_singleton] at hj; rw [hj]; exact hi
      | some p =>
        simp only [pathF, e, List.mem_append, List.mem_singleton] at hj
        rcases hj with hj | hj
        · exact ih p (A.lt e) j hj
        · rw [hj]; exact hi
  exact key _ i hi
theorem path_ne (ps : List (Option Nat)) (i : Nat) : path ps i ≠ [] := by
  unfold path
  cases ps.length with
  | zero => exact List.cons_ne_nil _ _
  | succ k =>
    cases e : par ps i with
    | none => simp [pathF, e]
    | some p => simp [pathF, e]
theorem path_self (ps : List (Option Nat)) (A : Acy ps) (i : Nat) : i ∈ path ps i := by
  cases e : par ps i with
  | none => rw [path_root e]; exact List.mem_singleton.mpr rfl
  | some p => rw [path_step A e]; simp
/-- places in a list without repetitions -/
theorem idx_at {α : Type} [DecidableEq α] : ∀ {ts : List α} {a : Nat} {x : α}, ts.Nodup → ts[a]? = some x → ts.idxOf x = a
  | [], _, _, _, h => by simp at h
  | y :: ts, 0, x, _, h => by simp at h; subst h; exact List.idxOf_cons_self
  | y :: ts, a + 1, x, n, h => by
    obtain ⟨n1, n2⟩ := List.nodup_cons.mp n
    have h : ts[a]? = some x := by simpa using h
    have e : y ≠ x := fun e => n1 (e ▸ List.mem_of_getElem? h)
    rw [List.idxOf_cons, idx_at n2 h, show (y == x) = false from beq_eq_false_iff_ne.mpr e]
    rfl
/-- parents that come earlier in an order of the fields -/
theorem acy_of {ps : List (Option Nat)} {ts : List Nat} (nd : ts.Nodup) (hl : ts.length = ps.length) (hm : ∀ t ∈ ts, t < ps.length) (h : ∀ i p : Nat, par ps i = some p → ∃ a b : Nat, a < b ∧ ts[a]? = some p ∧ ts[b]? = some i) : Acy ps := by
  have full : ∀ i, i < ps.length → i ∈ ts := fun i hi => Classical.byContradiction fun no => by
    have nd' : (i :: ts).Nodup := List.nodup_cons.mpr ⟨no, nd⟩
    have := nodup_small ps.length ((i :: ts).map fun (x : Nat) => (x : Int)) (by
      have inj : ∀ l : List Nat, l.Nodup → (l.map fun (x : Nat) => (x : Int)).Nodup := fun l => by
        induction l with
        | nil => intro _; exact List.nodup_nil
        | cons x l ih =>
          intro n
          obtain ⟨n1, n2⟩ := List.nodup_cons.mp n
          rw [List.map_cons]
          refine List.nodup_cons.mpr ⟨fun z => n1 ?_, ih n2⟩
          obtain ⟨y, hy, e⟩ := List.mem_map.mp z
          have : y = x := by omega
          exact this ▸ hy
      exact inj _ nd') (fun z hz => by
        obtain ⟨y, hy, e⟩ := List.mem_map.mp hz
        have : y < ps.length := by
          rcases List.mem_cons.mp hy with q | q
          · rw [q]; exact hi
          · exact hm y q
        omega)
    rw [List.length_map, List.length_cons] at this
    omega
  refine ⟨fun {i p} e => ?_, fun i => ts.idxOf i, fun i hi => by rw [← hl]; exact List.idxOf_lt_length_of_mem (full i hi), fun {i p} e => ?_⟩
  · obtain ⟨a, b, _, h1, _⟩ := h i p e
    exact hm p (List.mem_of_getElem? h1)
  · obtain ⟨a, b, h0, h1, h2⟩ := h i p e
    show ts.idxOf p < ts.idxOf i
    rw [idx_at nd h1, idx_at nd h2]
    exact h0
/-- a list or a tuple of the heap -/
def SqH (H : Hp) (a : Addr) (xs : List V) : Prop := H a = some (.lst xs) ∨ H a = some (.tup xs)
theorem SqH.same {H H' : Hp} {a : Addr} {xs : List V} (g : Same H H') (h : SqH H a xs) : SqH H' a xs := h.imp (g _ _) (g _ _)
/-- a forest: parents and kinds -/
structure Fo where
  ps : List (Option Nat)
  ks : List Str
def FoAt (C : Addr) (H : Hp) (a : Addr) (φ : Fo) : Prop := ∃ dx pt kt, H a = some (.ins C dx [("fields", .int (φ.ps.length : Int)), ("parents", .ref pt), ("kinds", .ref kt)]) ∧ H pt = some (.tup (φ.ps.map pV)) ∧ H kt = some (.tup (φ.ks.map V.str))
theorem FoAt.same {C : Addr} {H H' : Hp} {a : Addr} {φ : Fo} (g : Same H H') (h : FoAt C H a φ) : FoAt C H' a φ := by
  obtain ⟨dx, pt, kt, h1, h2, h3⟩ := h
  exact ⟨dx, pt, kt, g _ _ h1, g _ _ h2, g _ _ h3⟩
end My
set_option Elab.async false
set_option linter.all false
set_option maxRecDepth 100000
namespace My
open PySem PySem.Spec PyProof.Rows L2
structure RoomG (k : Nat) (A : Around) : Prop extends Room k A where
  gd : A.guards = some []
section
variable {j k : Nat} {A : Around}
theorem RoomG.mono (r : RoomG k A) (h : j ≤ k) : RoomG j A := ⟨r.toRoom.mono h, r.gd⟩
theorem RoomG.deeper (r : RoomG (k + 1) A) (e : Env) : RoomG k (A.deeper e) := ⟨r.toRoom.deeper e, r.gd⟩
theorem RoomG.in1 (r : RoomG (k + 1) A) : RoomG k A.in1 := ⟨r.toRoom.in1, r.gd⟩
theorem RoomG.make (r : RoomG (k + 1) A) (C : Addr) (us : List Value) (kw : List (Str × Value)) : RoomG k (A.under (.builtin "type.__call__" ⟨.ref C :: us, kw⟩)) :=
  ⟨r.toRoom.make C us kw, by
    show pushGuards (Code.guards (.builtin "type.__call__" ⟨.ref C :: us, kw⟩)) A.guards = _
    rw [r.gd]; rfl⟩
end
/-- as FnOk, where nothing shows itself -/
structure FnG (P : Program) (w : World) (K : PySem.W.Frag) (mg : Str → Option Value) (base : Heap) (cx : CXT) (k : Nat) (f : Addr) (fd : FuncData) (ps : List Str) (sp : Sp) : Prop where
  len : ∀ ws G R Z, sp ws G R Z → ws.length = ps.length
  run : ∀ (A : Around) (up : List Env) (z : Shared) (G : Hp) (args : Args) (us : List Value) (ws : List V) (R : VK) (Z : XK), RoomG k A → Env0 P w K mg base A up z G → BindsTo z fd args (ps.zip us) → Vals ws us → sp ws G R Z →
    codeAny (model P w) A (.call (.ref f) args) (CR cx up P w G z R Z) z
section
variable {P : Program} {w : World} {K : PySem.W.Frag} {mg : Str → Option Value} {base : Heap} {cx : CXT} {k : Nat} {f : Addr} {fd : FuncData} {N ps : List Str} {sp : Sp}
theorem FnG.imp {sp' : Sp} (F : FnG P w K mg base cx k f fd ps sp) (h : ∀ ws G R Z, sp' ws G R Z → sp ws G R Z) : FnG P w K mg base cx k f fd ps sp' :=
  ⟨fun _ _ _ _ q => F.len _ _ _ _ (h _ _ _ _ q), fun A up z G args us ws R Z r e b v q => F.run A up z G args us ws R Z r e b v (h _ _ _ _ q)⟩
/-- a def by its body -/
theorem okG {x qual : Str} {st : Stmt} (F : L2.Fun K x qual st f fd) (S : FnScope N ps (defScope st)) (len : ∀ ws G R Z, sp ws G R Z → ws.length = ps.length)
    (body : ∀ (cv : Value) (A : Around) (up : List Env) (z : Shared) (G : Hp) (ws : List V) (R : VK) (Z : XK), RoomG k (A.deeper (envOfC qual (defScope st) z.heap.objs.size f cv)) → sp ws G R Z →
      ∃ t, PSs (cxOf cx P w K mg base N qual (defScope st) f cv A up z G Z) (defBody st) t ∧ t { nx := fun _ G' => R .non G', rt := R } (start N ws) G) : FnG P w K mg base cx (k + 1) f fd ps sp := by
  obtain ⟨oc, od, kV, doc, pm, an, cv, ct, osl, rfl, lk, code⟩ := F.ex
  refine ⟨len, fun A up z G args us ws R Z room env bd vals want => ?_⟩
  have kin : K.In z.heap := env.mod.kin.keeps fun b o e => (env.bs b o e).1
  have nolim : z.heap.NoLimit := env.mod.nolimit.keeps fun b o e => (env.bs b o e).1
  refine codeAny_call_function room.toRoom.depth (kin _ _ lk) rfl S.co S.gen rfl (PySem.W.codeRec_of kin code) (bd _ _ _ _ ?_)
  refine wpAny_newFunctionEnv_cells S.kind (fun y hy => ?_) fun ev hev z1 inn => ?_
  · obtain ⟨y1, y2⟩ := y
    rcases S.par y1 (List.of_mem_zip hy).1 with q | q
    · exact .inl q
    · exact .inr ⟨q, PySem.W.cellsFrom_some _ _ _ (.inl q)⟩
  · subst hev
    obtain ⟨t, rule, holds⟩ := body cv A up z G ws R Z (room.deeper _) want
    have I := inv_start (CX := cx) (N := N) (E := Z) S room.hd env (len _ _ _ _ want) vals inn
    refine ⟨nolim.keeps inn.toInCall.keep, codeAny_func (wpAny_mono (rule.run [] z1 (start N ws) G _ I holds) (fun fl z2 q => ?_) fun _ _ q => q)⟩
    cases fl with
    | brk => exact q.elim fun _ q => q.elim fun _ q => q.2.elim
    | cont => exact q.elim fun _ q => q.elim fun _ q => q.2.elim
    | next =>
      obtain ⟨_, G', J, q⟩ := q
      exact ⟨.non, G', J.os, J.bare, J.base, J.hok, rfl, q⟩
    | ret u =>
      obtain ⟨v, _, G', J, rv, q⟩ := q
      exact ⟨v, G', J.os, J.bare, J.base, J.hok, rv, q⟩
end
section
variable {X : Cx} {cx : CXT} {k : Nat} {f C : Addr} {fd : FuncData} {ps : List Str} {sp : Sp} {E : L2.St → XK} {x m : Str} {p pos apos : Pos} {e o : Expr} {es : List Expr} {ta : TE} {t : TA} {pins : List (Addr × Obj)} {σ : L2.St} {H : Hp} {s : Shared} {Q : VK}
/-- behind a call -/
theorem back_of (hx : PassesAt cx X σ (E σ)) (I : Inv X pins σ H s) {r : Result} {s' : Shared} (h : CR cx X.stack X.prog X.w H s Q (E σ) r s') : callEnd (EP X pins σ Q) X.xe r s' := by
  cases r with
  | error e => exact hx pins H s e s' I h
  | ok fl => cases fl <;> first | exact I.after h | exact False.elim h
theorem run_G {us : List Value} {ws : List V} (F : FnG X.prog X.w X.K X.mg X.base cx k f fd ps sp) (r : RoomG k X.A) (b : Binds X.K fd ps []) (hx : PassesAt cx X σ (E σ)) (I : Inv X pins σ H s) (v : Vals ws us) (h : sp ws H Q (E σ)) :
    wpAny (model X.prog X.w) X.A (call (.ref f) us) (EP X pins σ Q) X.xe s := by
  have bs := b s us I.kIn (by rw [List.append_nil, ← v.length]; exact F.len _ _ _ _ h)
  rw [List.append_nil] at bs
  exact wpAny_call (codeAny_mono (F.run X.A X.stack s H ⟨us, []⟩ us ws Q (E σ) r I.env0 bs v h) fun _ _ q => back_of hx I q)
/-- f(e, ..) -/
theorem pe_callG (F : FnG X.prog X.w X.K X.mg X.base cx k f fd ps sp) (r : RoomG k X.A) (hg : Gl X x) (hm : X.mg x = some (.ref f)) (hk : PySem.W.keepIn X.K (.ref f) = true) (b : Binds X.K fd ps []) (hx : ∀ σ, PassesAt cx X σ (E σ)) (ha : PA X (e :: es) t)
    (hdb : (x == ("__debug__" : Str)) = false := by decide) (h1 : starEach (e :: es) X.env = (false, eval e X.env) :: starEach es X.env := by rfl) (h2 : (backTo pos (starEach es X.env)).any (·.1) = false := by rfl) :
    PE X (.Call (.Name x p) (e :: es) [] pos) (tCallS sp E t) := ⟨fun pins s σ H Q I h => by
  refine wpAny_Call_Name_kw (ld_glob I hg hm ?_ hdb)
  exact PySem.W.callWith_K (h₀ := X.base) I.ok.mod.kin hk (thn (ha.run pos pins s σ H _ I h) fun us z ⟨ws, G, J, v, q⟩ => ⟨J.kIn, run_G F r b (hx σ) J v q⟩) h1 h2⟩
end
section
variable {X : Cx} {cx : CXT} {k : Nat} {C p g a dx : Addr} {fs : List (Str × V)} {f : Str} {fd : FuncData} {ps : List Str} {sp : Sp} {e : Expr} {pos : Pos} {ta : TE}
/-- e.f, a property -/
theorem pe_propG (he : PE X e ta) (c : Cls X.K C) (hp : PropOf X.K C f p g) (F : FnG X.prog X.w X.K X.mg X.base cx k g fd ps sp) (r : RoomG (k + 1) X.A) (b : Binds X.K fd ps []) (hx : Passes cx X.nox E0)
    (hab : attributeBase e f X.env (eval e X.env) = eval e X.env) : PE X (.Attribute e f pos) (tProp C sp [] E0 ta) := ⟨fun pins s σ H Q I h => by
  refine attr_of hab (thn (he.run pins s σ H _ I h) fun u s1 ⟨x, G, J, rx, a, dx, fs, ex, ea, q⟩ => ?_)
  subst ex
  obtain rfl : u = Value.ref a := rx
  obtain ⟨_, O, _⟩ := ins_get J.hok ea
  obtain ⟨od, look, _⟩ := O.look
  obtain ⟨rest, recd⟩ := hp.rec_
  have J1 := J.tok (s1.toks + 1)
  have isC : (PySem.W.clsIn X.K C).isSome = true := by
    obtain ⟨_, z, _⟩ := PySem.W.any_some c.hd
    rw [z]; rfl
  have bs := b _ [Value.ref a] J1.kIn (by rw [← F.len _ _ _ _ q]; rfl)
  refine PySem.W.get_bind J.kIn look (PySem.W.plainGet_of (c.get f)).1 (PySem.W.findObj_data isC hp.at_ hp.get hp.tak) (PySem.W.plainGet_of (c.get f)).2 (wpAny_call (PySem.W.prop_get (s := { s1 with toks := s1.toks + 1 }) J.kIn recd ?_))
  refine codeAny_mono (F.run X.A.in1 X.stack _ G ⟨[.ref a], []⟩ [.ref a] [.ref a] Q E0 r.in1 J1.env0.in1 bs (.cons rfl .nil) q) fun res z hq => ?_
  cases res with
  | error er => exact False.elim (hx pins σ G _ er z (J1.wish _) hq)
  | ok fl =>
    cases fl <;> first | exact False.elim hq | skip
    rename_i u
    obtain ⟨v, G', J3, rv, q3⟩ := J1.after hq
    show wpAny _ _ (handedOut u) _ _ _
    rw [PySem.W.handedOut_of (handed_of rv)]
    exact wpAny_pure ⟨v, G', J3, rv, q3⟩⟩
end
section
variable {P : Program} {w : World} {K : PySem.W.Frag} {mg mb : Str → Option Value} {cx : CXT} {k : Nat} {fa a : Addr} {fd : FuncData} {x : Str} {sp : Sp} {z : Shared} {us : List Value} {ns : List Int}
/-- where at most the script is tracked -/
theorem top_at {G : Hp} (kin : K.In z.heap) (nsm : z.heap.Ns mainGlobals mg) (nsb : z.heap.Ns builtinsNs mb) (bb : ∀ y : Str, y ≠ "__name__" → mb y = bootBuiltins y) (lim : z.heap.NoLimit) (gen : z.gens = #[])
    (at_ : z.heap.get? a = some { cls := .type "list", data := .seq us.toArray }) (room : RoomG k callerA)
    (F : ∀ base : Heap, K.In base → base.Ns mainGlobals mg → FnG P w K mg base cx k fa fd [x] sp) (bd : ∀ (s : Shared) (u : Value), BindsTo s fd ⟨[u], []⟩ [(x, u)])
    (only : Only G) (ok : HOk P w G z.heap) (one : ∀ b u, G b = some u → b = a ∧ K.lookup b = none) (want : sp [.ref a] G (fun v _ => v = .bl true) fun _ _ _ => False)
    (calm : ∀ G e z', cx [] G z (fun _ _ _ => False) e z' → False) :
    codeAny (model P w) callerA (.call (.ref fa) ⟨[.ref a], []⟩) (fun r z' => r = .ok (.ret (.bool true)) ∧ OldK z.heap z'.heap ∧ z'.os = z.os ∧ AllBare z'.gens) z := by
  have rest : ∀ {b : Addr} {o : Obj}, z.heap.get? b = some o → (b = a → False) → (hidT z.heap G).get? b = some o := fun {b o} e n => hidT_get e (by
    cases q : G b with
    | none => rfl
    | some u => exact (n (one b u q).1).elim)
  have table : ∀ {b : Addr} {m : Str → Option Value}, z.heap.Ns b m → (hidT z.heap G).Ns b m := fun {b m} ⟨o, es, n, e, d, r⟩ => ⟨o, es, n, rest e (fun q => by
    subst q
    rw [at_] at e
    cases e
    exact Data.noConfusion (show Data.seq us.toArray _ = Data.dict es n from d)), d, r⟩
  have kin' : K.In (hidT z.heap G) := fun b o e => hidT_get (kin b o e) (by
    cases q : G b with
    | none => rfl
    | some u =>
      have := (one b u q).2
      rw [e] at this; cases this)
  have md : Mod K mg (hidT z.heap G) := ⟨kin', table nsm, ⟨mb, table nsb, bb⟩, let ⟨mc, q1, q2⟩ := lim; ⟨mc, table q1, q2⟩⟩
  have env : Env0 P w K mg (hidT z.heap G) callerA [] z G := ⟨rfl, md, fun b o e => of_hidT e, Nat.le_of_eq (hidT_size _ _), trivial, fun b q => (List.not_mem_nil (show b ∈ ([] : List Addr) from q)).elim, ok, .of_eq gen⟩
  refine codeAny_mono ((F _ kin' (table nsm)).run callerA [] z G _ [.ref a] [.ref a] _ _ room env (bd z (.ref a)) (.cons rfl .nil) want) fun r z' q => ?_
  cases r with
  | error e => exact (calm G e z' q).elim
  | ok fl =>
    cases fl <;> first | exact False.elim q | skip
    rename_i u
    obtain ⟨v, G', os, bare, un, ok', rv, ev⟩ := q
    have ev : v = .bl true := ev
    subst ev
    obtain rfl : u = Value.bool true := rv
    refine ⟨rfl, OldK.of_keep fun b o e => ?_, os, bare⟩
    cases g : G b with
    | none => exact un.keep b o e g (fun q => (List.not_mem_nil (show b ∈ ([] : List Addr) from q)).elim) (by simp)
    | some t =>
      rcases only b with n | ⟨ob, xs, n⟩
      · rw [g] at n; cases n
      · obtain ⟨e1, _⟩ := ok b _ n
        obtain ⟨e2, _⟩ := ok' b _ (un.frzs b ob _ n)
        rw [e] at e1; cases e1
        exact e2
theorem top_call (kin : K.In z.heap) (nsm : z.heap.Ns mainGlobals mg) (nsb : z.heap.Ns builtinsNs mb) (bb : ∀ y : Str, y ≠ "__name__" → mb y = bootBuiltins y) (lim : z.heap.NoLimit) (gen : z.gens = #[])
    (at_ : z.heap.get? a = some { cls := .type "list", data := .seq us.toArray }) (its : IntsAre us ns) (short : ns.length ≤ sizeLine) (room : RoomG k callerA)
    (F : ∀ base : Heap, K.In base → base.Ns mainGlobals mg → FnG P w K mg base cx k fa fd [x] sp) (bd : ∀ (s : Shared) (u : Value), BindsTo s fd ⟨[u], []⟩ [(x, u)])
    (want : ∀ G : Hp, Only G → SqL K G a (ns.map V.int) → sp [.ref a] G (fun v _ => v = .bl true) fun _ _ _ => False)
    (calm : ∀ G e z', cx [] G z (fun _ _ _ => False) e z' → False) :
    codeAny (model P w) callerA (.call (.ref fa) ⟨[.ref a], []⟩) (fun r z' => r = .ok (.ret (.bool true)) ∧ OldK z.heap z'.heap ∧ z'.os = z.os ∧ AllBare z'.gens) z := by
  have vals := vals_ints its
  have long := its.length
  cases hk : K.lookup a with
  | some o =>
    have e := kin a o hk
    rw [at_] at e
    cases e
    have no : Only fun _ => none := fun _ => .inl rfl
    exact top_at kin nsm nsb bb lim gen at_ room F bd no (fun b u q => nomatch (show (none : Option HO) = some u from q)) (fun b u q => nomatch (show (none : Option HO) = some u from q))
      (want _ no (.inr ⟨_, us.toArray, _, hk, rfl, rfl, rfl, by rw [List.size_toArray, long]; exact short, by simpa using vals⟩)) calm
  | none =>
    have here : ∀ {b : Addr} {u : HO}, (if b = a then some (HO.frz { cls := .type "list", data := .seq us.toArray } (.lst (ns.map V.int))) else none) = some u → b = a := fun {b u} q => by
      by_cases c : b = a
      · exact c
      · rw [if_neg c] at q; cases q
    have no : Only fun b => if b = a then some (HO.frz { cls := .type "list", data := .seq us.toArray } (.lst (ns.map V.int))) else none := fun b => by
      by_cases c : b = a
      · exact .inr ⟨_, _, if_pos c⟩
      · exact .inl (if_neg c)
    refine top_at kin nsm nsb bb lim gen at_ room F bd no (fun b u q => ?_) (fun b u q => ?_) (want _ no (.inl (.inr ⟨_, if_pos rfl⟩))) calm
    · have c := here q
      subst c
      have q : (if b = b then some (HO.frz { cls := .type "list", data := .seq us.toArray } (.lst (ns.map V.int))) else none) = some u := q
      rw [if_pos rfl] at q
      cases q
      exact ⟨at_, by rw [List.length_map]; exact short, us, _, vals, at_⟩
    · have c := here q
      subst c
      exact ⟨rfl, hk⟩
end
/-- the walk of a law whose promise knows that nothing shows itself -/
theorem walk_G {l : PySem.W.OpenLaw} {n k : Nat} {q : Program} {loose : List Str} {XP : (Str → Option Value) → Heap → Prop} {YP : World → Heap → Prop} {d : DefRec} {K : Params → PySem.W.Frag} {cx : World → CXT} {sp : World → Sp} {x : Str}
    (most : l.most = some n) (short : n ≤ sizeLine) (plain : d.params.defaults = []) (room : RoomG k callerA) (hY : ∀ (w : World) (h : Heap), YP w h → (K w.params).In h)
    (F : ∀ (w : World) (mg : Str → Option Value) (fa : Addr) (h : Heap), (K w.params).In h → h.Ns mainGlobals mg → mg d.name = some (.ref fa) →
      ∃ fd : FuncData, (∀ (s : Shared) (u : Value), BindsTo s fd ⟨[u], []⟩ [(x, u)]) ∧ ∀ base : Heap, (K w.params).In base → base.Ns mainGlobals mg → FnG l.prog w (K w.params) mg base (cx w) k fa fd [x] (sp w))
    (want : ∀ (w : World) (G : Hp) (a : Addr) (ns : List Int), ns.length ≤ n → Only G → SqL (K w.params) G a (ns.map V.int) → sp w [.ref a] G (fun v _ => v = .bl true) fun _ _ _ => False)
    (calm : ∀ (w : World) (G : Hp) (s : Shared) (e : Value) (s' : Shared), cx w [] G s (fun _ _ _ => False) e s' → False) :
    PySem.W.WalkO q loose XP YP l.row.toRowW d [] (fun f vs => PySem.call f vs) := by
  refine Att.attach_call most plain fun w z0 z mg mb fa o pm cd doc a us ns T Y _ _ _ hmg hob hin hl hgen => ?_
  obtain ⟨fd, bd, F1⟩ := F w mg fa _ (hY w _ Y) T.T.g hmg
  exact top_call (hY w _ Y) T.T.g T.T.b T.T.builtins T.T.nolimit hgen hob hin (Nat.le_trans hl short) room F1 bd (fun G only S => want w G a ns hl only S) fun G e z' => calm w G z e z'
end My
set_option Elab.async false
set_option linter.all false
set_option maxRecDepth 100000
namespace My
open PySem PySem.Spec PyProof.Rows L2
structure FExc (K : PySem.W.Frag) (mg : Str → Option Value) (x : Str) (C0 : Addr) : Prop where
  g : mg x = some (.ref C0)
  rd : PySem.W.readsIn K C0 (.type "type") = true
  ga : PySem.W.specialIn K (.ref C0) "__getattribute__" = some (some (.builtin "type.__getattribute__"))
  vV : PySem.W.findCls K (.ref C0) (.type "type") "__init__" = some (.val (.builtin "ValueError.__init__"))
section
variable {X : Cx} {e : Expr} {es : List Expr} {ta : TA} {te : TE} {x : Str} {p1 p2 pos : Pos} {C0 : Addr}
theorem pe_ownInit {pl : Sem Bool} (T : FExc X.K X.mg x C0) (hg : Gl X x) (ha : PA X (e :: es) ta) (hdb : (x == ("__debug__" : Str)) = false := by decide)
    (hc : eval (.Call (.Attribute (.Name x p1) "__init__" p2) (e :: es) [] pos) X.env = (do
      let ov ← eval (.Name x p1) X.env
      standAt p2.atName
      let (f, first) ← holding [ov] (getMethod ov "__init__" pl)
      callWith pos f first (backTo pos (starEach (e :: es) X.env)) (backToKw pos (keywordEach [] X.env))) := by rfl)
    (he : starEach (e :: es) X.env = (false, eval e X.env) :: starEach es X.env := by rfl) (hpl : (backTo pos (starEach es X.env)).any (·.1) = false := by rfl) :
    PE X (.Call (.Attribute (.Name x p1) "__init__" p2) (e :: es) [] pos) (tVeI X.K ta) := by
  refine ⟨fun pins s σ H Q I h => ?_⟩
  refine PySem.W.methodCall_KW (ld_glob I hg T.g ?_ hdb) hc
  refine PySem.W.method_cls I.kIn T.ga (PySem.W.cls_value I.kIn T.rd T.vV (by decide +kernel) ?_)
  show wpAny _ _ (callWith pos (Value.builtin "ValueError.__init__") [] (backTo pos (starEach (e :: es) X.env)) []) _ _ _
  refine PyProof.Rows.callWith_method1 (thn (ha.run pos pins _ σ H _ (I.tok _) h) fun us s1 ⟨vs, H1, I1, r1, a, C, ws, ev, hl, T, ea, q⟩ => ?_) he hpl
  subst ev
  cases r1 with
  | @cons _ u0 _ ur ra rw' =>
    obtain rfl : u0 = Value.ref a := ra
    have hlen : ur.length ≤ sizeLine := by
      rw [← Paired.length rw', sizeLine_eq]
      omega
    exact oinit_ok T I1 ea hlen fun s' J => ⟨.non, H1, J, rfl, q⟩
/-- {x} of None, a text or a number: some text -/
def FmtOk : V → Prop
  | .non => True
  | .int i => i.natAbs.log2 < 1920
  | .str y => y.length ≤ 2000
  | _ => False
def tFmtO (te : TE) : TE := fun σ H Q => te σ H fun x H1 => FmtOk x ∧ ∀ y : Str, y.length ≤ 2000 → Q (.str y) H1
theorem pe_fmtO (he : PE X e te) : PE X (.FormattedValue e (-1) none pos) (tFmtO te) := by
  refine ⟨fun pins s σ H Q I h => ?_⟩
  refine wpAny_FormattedValue_plain (thn (he.run pins s σ H _ I h) fun v s1 hv => ?_)
  obtain ⟨x, H1, I1, r1, ok, q⟩ := hv
  match x, ok with
  | .non, _ =>
    obtain rfl : v = .none := r1
    exact wpAny_formatField_none ⟨.str "None", H1, I1.tok _, ⟨_, rfl⟩, q _ (by decide +kernel)⟩
  | .int i, hz =>
    obtain ⟨t, rfl⟩ := r1
    exact wpAny_formatField_int hz ⟨.str (toString i), H1, I1.tok _, ⟨_, rfl⟩, q _ (by have := PyProof.Rows.int_text_len_1921 hz; omega)⟩
  | .str y, hz =>
    obtain ⟨t, rfl⟩ := r1
    exact wpAny_formatField_str ⟨.str y, H1, I1, ⟨t, rfl⟩, q _ hz⟩ ⟨.str y, H1, I1.tok _, ⟨_, rfl⟩, q _ hz⟩ (by have := sizeLine_eq; have hz : y.length ≤ 2000 := hz; omega)
end
structure DfE (K : PySem.W.Frag) (mg : Str → Option Value) (x : Str) (C : Addr) (qual : Str) (st : Stmt) (ps : List Str) : Prop where
  ex : ∃ (f : Addr) (fd : FuncData), Fun K "__init__" qual st f fd ∧ Binds K fd ps [] ∧ PySem.W.findIn K (.ref C) "__init__" = some (some (.ref f)) ∧ PySem.W.typeIn K (.ref f) = some (.type "function") ∧ OexC K C ∧ mg x = some (.ref C)
structure DnE (P : Program) (w : World) (K : PySem.W.Frag) (mg : Str → Option Value) (base : Heap) (k : Nat) (x : Str) (C : Addr) (sp : Sp) : Prop where
  ex : ∃ (f : Addr) (fd : FuncData) (ps : List Str), FnOk P w K mg base CX0 k f fd ps sp ∧ Binds K fd ps [] ∧ PySem.W.findIn K (.ref C) "__init__" = some (some (.ref f)) ∧ PySem.W.typeIn K (.ref f) = some (.type "function") ∧ OexC K C ∧ mg x = some (.ref C)
/-- a def that may raise -/
structure DnX (P : Program) (w : World) (K : PySem.W.Frag) (mg : Str → Option Value) (base : Heap) (k : Nat) (x : Str) (sp : Sp) : Prop where
  ex : ∃ (f : Addr) (fd : FuncData) (ps : List Str), FnG P w K mg base (L2N.CX P w) k f fd ps sp ∧ mg x = some (.ref f) ∧ PySem.W.keepIn K (.ref f) = true ∧ Binds K fd ps []
structure DnIX (P : Program) (w : World) (K : PySem.W.Frag) (mg : Str → Option Value) (base : Heap) (k : Nat) (x : Str) (C : Addr) (sp : Sp) : Prop where
  ex : ∃ (f : Addr) (fd : FuncData) (ps : List Str), FnG P w K mg base (L2N.CX P w) k f fd ps sp ∧ Mk K C f ∧ mg x = some (.ref C) ∧ Binds K fd ps []
structure DnMX (P : Program) (w : World) (K : PySem.W.Frag) (mg : Str → Option Value) (base : Heap) (k : Nat) (C : Addr) (m : Str) (sp : Sp) : Prop where
  ex : ∃ (f : Addr) (fd : FuncData) (ps : List Str), FnG P w K mg base (L2N.CX P w) k f fd ps sp ∧ Meth K C m f ∧ Binds K fd ps []
section
variable {P : Program} {w : World} {K : PySem.W.Frag} {mg : Str → Option Value} {base : Heap} {C : Addr} {m qual x : Str} {st : Stmt} {N ps : List Str} {k : Nat} {sp : Sp}
theorem DfE.ok (F : DfE K mg x C qual st ps) (S : FnScope N ps (defScope st)) (len : ∀ vs H Q E, sp vs H Q E → vs.length = ps.length)
    (body : ∀ (f : Addr) (cdv : Value) (A : Around) (outer : List Env) (s : Shared) (H : Hp) (vs : List V) (Q : VK) (E : XK),
      Room k (A.deeper (envOfC qual (defScope st) s.heap.objs.size f cdv)) → sp vs H Q E →
      ∃ t, PSs (cxOf CX0 P w K mg base N qual (defScope st) f cdv A outer s H E).nox (defBody st) t ∧
        t { nx := fun _ H' => Q .non H', rt := Q } (start N vs) H) : DnE P w K mg base (k + 1) x C sp := by
  obtain ⟨f, fd, F, b, m⟩ := F.ex
  exact ⟨f, fd, ps, F.ok S len (body f), b, m⟩
theorem Df.okX (F : Df K mg x st ps) (S : FnScope N ps (defScope st)) (len : ∀ vs H Q E, sp vs H Q E → vs.length = ps.length)
    (body : ∀ (f : Addr) (cdv : Value) (A : Around) (outer : List Env) (s : Shared) (H : Hp) (vs : List V) (Q : VK) (E : XK),
      RoomG k (A.deeper (envOfC x (defScope st) s.heap.objs.size f cdv)) → sp vs H Q E →
      ∃ t, PSs (cxOf (L2N.CX P w) P w K mg base N x (defScope st) f cdv A outer s H E) (defBody st) t ∧
        t { nx := fun _ H' => Q .non H', rt := Q } (start N vs) H) : DnX P w K mg base (k + 1) x sp := by
  obtain ⟨f, fd, F, b, m⟩ := F.ex
  exact ⟨f, fd, ps, okG F S len (body f), m, F.kp, b⟩
theorem DfI.okX (F : DfI K mg x C qual st ps) (S : FnScope N ps (defScope st)) (len : ∀ vs H Q E, sp vs H Q E → vs.length = ps.length)
    (body : ∀ (f : Addr) (cdv : Value) (A : Around) (outer : List Env) (s : Shared) (H : Hp) (vs : List V) (Q : VK) (E : XK),
      RoomG k (A.deeper (envOfC qual (defScope st) s.heap.objs.size f cdv)) → sp vs H Q E →
      ∃ t, PSs (cxOf (L2N.CX P w) P w K mg base N qual (defScope st) f cdv A outer s H E) (defBody st) t ∧
        t { nx := fun _ H' => Q .non H', rt := Q } (start N vs) H) : DnIX P w K mg base (k + 1) x C sp := by
  obtain ⟨f, fd, F, b, m, g⟩ := F.ex
  exact ⟨f, fd, ps, okG F S len (body f), m, g, b⟩
theorem DfM.okX (F : DfM K C m qual st ps) (S : FnScope N ps (defScope st)) (len : ∀ vs H Q E, sp vs H Q E → vs.length = ps.length)
    (body : ∀ (f : Addr) (cdv : Value) (A : Around) (outer : List Env) (s : Shared) (H : Hp) (vs : List V) (Q : VK) (E : XK),
      RoomG k (A.deeper (envOfC qual (defScope st) s.heap.objs.size f cdv)) → sp vs H Q E →
      ∃ t, PSs (cxOf (L2N.CX P w) P w K mg base N qual (defScope st) f cdv A outer s H E) (defBody st) t ∧
        t { nx := fun _ H' => Q .non H', rt := Q } (start N vs) H) : DnMX P w K mg base (k + 1) C m sp := by
  obtain ⟨f, fd, F, b, m⟩ := F.ex
  exact ⟨f, fd, ps, okG F S len (body f), m, b⟩
theorem DnX.imp {sp' : Sp} (D : DnX P w K mg base k x sp) (h : ∀ vs H Q E, sp' vs H Q E → sp vs H Q E) : DnX P w K mg base k x sp' := by
  obtain ⟨f, fd, ps, F, m, q, b⟩ := D.ex
  exact ⟨f, fd, ps, F.imp h, m, q, b⟩
end
/-- arguments, what is wanted of them weakened -/
def tMono (t : TA) : TA := fun σ H R => ∃ R0 : List V → Hp → Prop, t σ H R0 ∧ ∀ vs H1, R0 vs H1 → R vs H1
theorem pa_mono {X : Cx} {es : List Expr} {t : TA} (ha : PA X es t) : PA X es (tMono t) := by
  refine ⟨fun pos pins s σ H R I h => ?_⟩
  obtain ⟨R0, h0, imp⟩ := h
  exact thn (ha.run pos pins s σ H R0 I h0) fun us s1 ⟨vs, H1, I1, r1, q⟩ => ⟨vs, H1, I1, r1, imp _ _ q⟩
/-- C(e, ..), an own error: its context is None -/
theorem pmk_N {X : Cx} {x : Str} {C fI : Addr} {k : Nat} {fd : FuncData} {ps : List Str} {sp : Sp} {e : Expr} {es : List Expr} {ta : TA} {p pos : Pos} (T : OexC X.K C) (ini : PySem.W.findIn X.K (.ref C) "__init__" = some (some (.ref fI))) (tyI : PySem.W.typeIn X.K (.ref fI) = some (.type "function"))
    (F1 : FnOk X.prog X.w X.K X.mg X.base CX0 k fI fd ps sp) (r : Room (k + 1) X.A) (b : Binds X.K fd ps []) (hg : Gl X x) (hm : X.mg x = some (.ref C)) (ha : PA X (e :: es) ta)
    (hdb : (x == ("__debug__" : Str)) = false := by decide) (h1 : starEach (e :: es) X.env = (false, eval e X.env) :: starEach es X.env := by rfl) (h2 : (backTo pos (starEach es X.env)).any (·.1) = false := by rfl) :
    L2N.PMk X (.Call (.Name x p) (e :: es) [] pos) (tMkO C sp [] ta) := by
  intro pins s σ H Q I h
  obtain ⟨nm, q, N, bs, bm, sn, sub, ab, col, dd, k0, k1, k2, k3, k5, atC, ve⟩ := T.cls
  refine wpAny_Call_Name_kw (ld_glob I hg hm ?_ hdb)
  refine PySem.W.callWith_K (h₀ := X.base) I.ok.mod.kin T.kC (thn (ha.run pos pins s σ H _ I h) fun us z ⟨ws, G, J, vals, short, want⟩ => ⟨J.kIn, ?_⟩) h1 h2
  show wpAny _ _ (call (.ref C) us) _ _ _
  obtain ⟨hp, g, dr, tk, os⟩ := z
  have above : hp.objs.size ≤ hp.objs.size + 1 := Nat.le_succ _
  have w1 := want (hp.objs.size + 1) (J.hok.fresh above)
  rw [List.append_nil] at w1
  let hp2 := (hp.push (PySem.W.kdv_tup us)).push (PySem.HandSPX.excO C hp.objs.size)
  have keep : ∀ b o, hp.get? b = some o → hp2.get? b = some o := fun b o e => Heap.get?_push_of_some _ (Heap.get?_push_of_some _ e)
  have made : hp2.get? (hp.objs.size + 1) = some (PySem.HandSPX.excO C hp.objs.size) := by
    show ((hp.push (PySem.W.kdv_tup us)).push (PySem.HandSPX.excO C hp.objs.size)).get? (hp.objs.size + 1) = _
    heap_get
  have J2 : Inv X pins σ (upd G (hp.objs.size + 1) (exo (hp.objs.size + 1) C none)) ⟨hp2, g, dr, tk, os⟩ := J.laid (t' := tk) (o := exo (hp.objs.size + 1) C none) keep above (exo_ok made)
  have vals2 : Vals (V.ref (hp.objs.size + 1) :: ws) (Value.ref (hp.objs.size + 1) :: us) := .cons rfl vals
  have b2 := b _ (Value.ref (hp.objs.size + 1) :: us) J2.kIn (by rw [List.append_nil, ← vals2.length]; exact F1.len _ _ _ _ w1)
  rw [List.append_nil] at b2
  refine wpAny_call (PySem.HandSPX.call_own F.excBase_ValueError (fun Y => PySem.HandSPX.refsVE_contains Y bm ve) (J.kIn _ _ atC) (PySem.W.looks_findIn J.kIn ini) (fun self => PySem.W.bind_fn J.kIn self tyI) (by rw [← vals.length, sizeLine_eq]; omega)
    (codeAny_mono (F1.run _ X.stack _ _ ⟨Value.ref (hp.objs.size + 1) :: us, []⟩ (Value.ref (hp.objs.size + 1) :: us) _ _ (fun _ _ _ => False) (r.make C us []) (J2.env0.make C us []) b2 vals2 w1) fun res z' done => ?_))
  cases res with
  | error er => exact False.elim done
  | ok fl =>
    cases fl <;> first | exact False.elim done | skip
    obtain ⟨v, H2, os2, bare2, un2, ok2, rv, ev, d, fs, ea, ed, nd, q2⟩ := done
    subst ev
    obtain ⟨h2, g2, d2, t2, os'⟩ := z'
    obtain ⟨t0, B, J3, kB, fresh, obj, na⟩ := mk_end0 (d2 := d2) (t2 := t2) J above keep un2 ok2 os2 bare2 ea ed nd
    exact ⟨rv, hp.objs.size + 1, _, _, ⟨B, g2, d2, t2, os'⟩, _, .ref C, some d, rfl, J3, kB, fresh, obj, ⟨rfl, rfl, fun vs e => by cases e; rfl⟩, rfl, rfl, na, rfl, bare2, raises_own T.exC T.tyC, q2⟩
/-- around a body nothing is let out -/
theorem takes0N {X : Cx} : L2N.Takes X (fun _ _ _ _ => False) := fun _ _ ⟨_, _, _, _, _, _, _, _, _, _, _, _, _, _, _, _, n⟩ => n.elim
/-- an error's making, one field: BadX(v) -/
def spErr1 (ok : V → Prop) (nm : Str) (C : Addr) : Sp := fun vs H Q _ => ∃ (a : Addr) (v : V), vs = [.ref a, v] ∧ H a = some (exo a C none) ∧ ok v ∧
  ∀ dx, H dx = none → dx ≠ a → Q .non (upd (upd H dx (exd dx [(nm, v)])) a (exo a C (some dx)))
/-- raise X(e), X with one field -/
def tRaise1 (ok : V → Prop) (C : Addr) (nm : Str) (W : WX) (ta : TA) : TS := fun _ σ H => ta σ H fun vs H1 => ∃ v, vs = [v] ∧ ok v ∧ ∀ (d : Addr) (H' : Hp), Same H1 H' → H1 d = none → H' d = some (.xd [(nm, v)]) → W (.ref C) (some d) σ H'
section
variable {X : Cx} {W : WX} {k : Nat} {x m nm : Str} {C : Addr} {sp : Sp} {o e : Expr} {es : List Expr} {ta : TE} {t : TA} {p pos pos' apos : Pos}
theorem ps_raise1 {okf : V → Prop} (hc : X.calm = true) (tk : L2N.Takes X W) (D : DnE X.prog X.w X.K X.mg X.base k x C (spErr1 okf nm C)) (hr : RoomG (k + 1) X.A) (hg : Gl X x) (ha : PA X (e :: es) t)
    (hdb : (x == ("__debug__" : Str)) = false := by decide) (he : starEach (e :: es) X.env = (false, eval e X.env) :: starEach es X.env := by rfl) (hpl : (backTo pos (starEach es X.env)).any (·.1) = false := by rfl) :
    PS X (.Raise (some (.Call (.Name x p) (e :: es) [] pos)) none pos') (tRaise1 okf C nm W t) := by
  obtain ⟨f, fd, ps, F, b, iC, tI, T, g⟩ := D.ex
  have R := L2N.ps_raise (pos := pos') hc tk (pmk_N (pos := pos) (p := p) T iC tI F hr.toRoom b hg g (pa_mono ha) hdb he hpl)
  refine ⟨fun pins s σ H D' I h => R.run pins s σ H D' I ⟨_, h, fun vs H1 q => ?_⟩⟩
  obtain ⟨v, rfl, ok, q⟩ := q
  refine ⟨by show 1 ≤ 1000; decide, fun a na => ?_⟩
  refine ⟨a, v, rfl, upd_same, ok, fun dx nx ne => ⟨rfl, dx, [(nm, v)], upd_same, ?_, ?_, ?_⟩⟩
  · rw [upd_ne ne]; exact upd_same
  · rw [upd_ne ne] at nx; exact nx
  · rw [upd_ne ne] at nx
    refine q dx _ (fun b o hb => ?_) nx upd_same
    have b1 : b ≠ a := ne_of_none hb na
    have b2 : b ≠ dx := ne_of_none hb nx
    rw [upd_ne b2, del_ne b1, upd_ne b1, upd_ne b2, upd_ne b1]
    exact hb
/-- f(e, ..), f may raise -/
theorem pe_callX (D : DnX X.prog X.w X.K X.mg X.base k x sp) (hr : RoomG k X.A) (hg : Gl X x) (tk : L2N.Takes X W) (ha : PA X (e :: es) t) (hdb : (x == ("__debug__" : Str)) = false := by decide)
    (he : starEach (e :: es) X.env = (false, eval e X.env) :: starEach es X.env := by rfl) (hpl : (backTo pos (starEach es X.env)).any (·.1) = false := by rfl) :
    PE X (.Call (.Name x p) (e :: es) [] pos) (tCallS sp (WE W) t) := by
  obtain ⟨f, fd, ps, F, m, q, b⟩ := D.ex
  exact pe_callG F hr hg m q b (fun σ => L2N.passAt tk σ) ha hdb he hpl
/-- C(e, ..), C's __init__ may raise -/
def tMakeS (C : Addr) (sp : Sp) (E : L2.St → XK) (t : TA) : TE := fun σ H Q => t σ H fun vs H1 => ∀ x dx, H1 x = none → H1 dx = none → dx ≠ x →
  sp (.ref x :: vs) (upd (upd H1 dx (.own x)) x (.ins C dx [])) (fun v H2 => v = .non ∧ Q (.ref x) H2) (E σ)
theorem pe_makeX (D : DnIX X.prog X.w X.K X.mg X.base k x C sp) (hr : RoomG (k + 1) X.A) (hg : Gl X x) (tk : L2N.Takes X W) (ha : PA X (e :: es) t) (hdb : (x == ("__debug__" : Str)) = false := by decide)
    (he : starEach (e :: es) X.env = (false, eval e X.env) :: starEach es X.env := by rfl) (hpl : (backTo pos (starEach es X.env)).any (·.1) = false := by rfl) :
    PE X (.Call (.Name x p) (e :: es) [] pos) (tMakeS C sp (WE W) t) := by
  obtain ⟨f, fd, ps, F, M, g, b⟩ := D.ex
  refine ⟨fun pins s σ H Q I h => ?_⟩
  refine wpAny_Call_Name_kw (ld_glob I hg g ?_ hdb)
  refine PySem.W.callWith_K (h₀ := X.base) I.ok.mod.kin M.kp (thn (ha.run pos pins s σ H _ I h) fun us s1 ⟨vs, H1, I1, r, q⟩ => ⟨I1.kIn, ?_⟩) he hpl
  have hq := q (s1.heap.objs.size + 1) s1.heap.objs.size (I1.hok.fresh (Nat.le_succ _)) (I1.hok.fresh (Nat.le_refl _)) (Nat.ne_of_lt (Nat.lt_succ_self _))
  have I2 := Inv.made (C := C) I1
  have r2 : Vals (V.ref (s1.heap.objs.size + 1) :: vs) (Value.ref (s1.heap.objs.size + 1) :: us) := .cons rfl r
  have hl : (Value.ref (s1.heap.objs.size + 1) :: us).length = ps.length := by
    have e := r2.length
    rw [F.len _ _ _ _ hq] at e
    exact e.symm
  have b2 := b _ (Value.ref (s1.heap.objs.size + 1) :: us) I2.kIn (by rw [List.append_nil]; exact hl)
  rw [List.append_nil] at b2
  refine wpAny_call (make_map (f := f) I1.kIn M.makes M.init (beq_iff_eq.mp M.fn) (codeAny_mono (F.run _ X.stack _ _ ⟨Value.ref (s1.heap.objs.size + 1) :: us, []⟩ (Value.ref (s1.heap.objs.size + 1) :: us) _ _ (WE W σ) (hr.make C us [])
    (I2.env0.make C us []) b2 r2 hq) fun r s' hq' => ?_))
  cases r with
  | error e => exact L2N.passAt tk σ pins _ _ e s' I2 hq'
  | ok fl =>
    cases fl with
    | ret u =>
      obtain ⟨v, H', I3, rv, ev, q3⟩ := I2.after hq'
      subst ev
      exact ⟨rv, ⟨V.ref (s1.heap.objs.size + 1), H', I3, rfl, q3⟩⟩
    | next => exact False.elim hq'
    | brk => exact False.elim hq'
    | cont => exact False.elim hq'
end
end My
set_option Elab.async false
set_option linter.all false
set_option maxRecDepth 100000
namespace My
open PySem PySem.Spec PyProof.Rows L2
/-- the class's __call__ -/
structure MCall (K : PySem.W.Frag) (C f : Addr) : Prop where
  at_ : PySem.W.findIn K (.ref C) "__call__" = some (some (.ref f))
  fn : PySem.W.isFn K (.ref f) = true
  fi : PySem.W.fnIn K f = true
structure DfO (K : PySem.W.Frag) (C : Addr) (qual : Str) (st : Stmt) (ps : List Str) : Prop where
  ex : ∃ (f : Addr) (fd : FuncData), Fun K "__call__" qual st f fd ∧ Binds K fd ps [] ∧ MCall K C f
/-- CX: what may leave it (CX0: nothing; L2N.CX P w: errors) -/
structure DnO (CX : CXT) (P : Program) (w : World) (K : PySem.W.Frag) (mg : Str → Option Value) (base : Heap) (k : Nat) (C : Addr) (sp : Sp) : Prop where
  ex : ∃ (f : Addr) (fd : FuncData) (ps : List Str), FnG P w K mg base CX k f fd ps sp ∧ MCall K C f ∧ Binds K fd ps []
section
variable {P : Program} {w : World} {K : PySem.W.Frag} {mg : Str → Option Value} {base : Heap} {C : Addr} {qual : Str} {st : Stmt} {N ps : List Str} {k : Nat} {sp : Sp}
theorem DfO.okX (F : DfO K C qual st ps) (S : FnScope N ps (defScope st)) (len : ∀ vs H Q E, sp vs H Q E → vs.length = ps.length)
    (body : ∀ (f : Addr) (cdv : Value) (A : Around) (outer : List Env) (s : Shared) (H : Hp) (vs : List V) (Q : VK) (E : XK),
      RoomG k (A.deeper (envOfC qual (defScope st) s.heap.objs.size f cdv)) → sp vs H Q E →
      ∃ t, PSs (cxOf (L2N.CX P w) P w K mg base N qual (defScope st) f cdv A outer s H E) (defBody st) t ∧
        t { nx := fun _ H' => Q .non H', rt := Q } (start N vs) H) : DnO (L2N.CX P w) P w K mg base (k + 1) C sp := by
  obtain ⟨f, fd, F, b, m⟩ := F.ex
  exact ⟨f, fd, ps, okG F S len (body f), m, b⟩
end
end My
set_option Elab.async false
set_option linter.all false
set_option maxRecDepth 100000
set_option maxHeartbeats 2000000
namespace My
open PySem PySem.Spec PyProof.Rows L2
end My
set_option Elab.async false
set_option linter.all false
set_option maxRecDepth 100000
namespace My
open PySem PySem.Spec PyProof.Rows L2
abbrev NK := Option Key
def nkV : NK → V
  | none => .non
  | some k => kV k
def nPhi (P : Program) (w : World) (a : Addr) (kvs : List (NK × V)) : Heap → Prop := fun h => kvs.length ≤ sizeLine ∧ (a == sysModules) = false ∧ ∃ vs, KV kvs vs ∧ h.DictOf (noneKind P w) a vs
def nD (P : Program) (w : World) (a : Addr) (kvs : List (NK × V)) : HO := .ext (nPhi P w a kvs)
def mergeN (kvs more : List (NK × V)) : List (NK × V) := more.foldl (fun acc kv => putK acc kv.1 kv.2) kvs
end My
set_option Elab.async false
set_option linter.all false
set_option maxRecDepth 100000
namespace VL
open PySem PySem.Spec PyProof.Rows L2
/-- fz: never changed again; ow: this def's own; io: a caller's own, lent for the call -/
inductive Fl | fz | ow | io deriving DecidableEq
inductive PV where
  | emp | non | bl (b : Bool) | int (i : Int) | str (x : Str)
  | tup (xs : List PV)
  | lst (o : Fl) (xs : List PV)
  | dK (o : Fl) (ks : List Key) (xs : List PV)
  | dN (o : Fl) (ks : List My.NK) (xs : List PV)
  | obj (o : Fl) (c : String) (xs : List PV)
  | scr (ns : List Int)
  | ty (n : String)
  | cls (c : String)
  /-- a caught error, in a clause's slot; its own dict lies at d -/
  | err (d : Option Addr) (c : String) (xs : List PV)
namespace PV
def fl : PV → Fl
  | lst o _ | dK o _ _ | dN o _ _ | obj o _ _ => o
  | err _ _ _ => .io
  | _ => .fz
def setFl (o : Fl) : PV → PV
  | lst _ xs => lst o xs
  | dK _ ks xs => dK o ks xs
  | dN _ ks xs => dN o ks xs
  | obj _ c xs => obj o c xs
  | err _ _ _ => emp
  | a => a
def isErr : PV → Bool
  | err _ _ _ => true
  | _ => false
def own (a : PV) : Bool := match a.fl with
  | .fz => false
  | _ => true
def isIo (a : PV) : Bool := match a.fl with
  | .io => true
  | _ => false
/-- bears a cell of its own -/
def cell (a : PV) : Bool := a.own && !a.isErr
theorem cell_own {a : PV} (h : a.cell = true) : a.own = true := by unfold cell at h; simp only [Bool.and_eq_true] at h; exact h.1
theorem cell_no {a : PV} (h : a.own = false) : a.cell = false := by unfold cell; rw [h]; rfl
def isEmp : PV → Bool
  | emp => true
  | _ => false
end PV
/-- the classes of the program: where they stand, their attributes in order -/
structure Tb where
  K : PySem.W.Frag
  P : Program
  w : World
  ca : String → Addr
  flds : String → List Str
/-- how an error's own dict lies -/
def XAt (T : Tb) (H : Hp) (c : String) (d : Option Addr) (vs : List V) : Prop :=
  match d with
  | none => vs = []
  | some p => H p = some (.xd ((T.flds c).zip vs)) ∧ vs.length ≤ (T.flds c).length
theorem XAt.mono {T : Tb} {F H : Hp} {c : String} {d : Option Addr} {vs : List V} (e : Same F H) (h : XAt T F c d vs) : XAt T H c d vs := by
  cases d with
  | none => exact h
  | some p => exact ⟨e _ _ h.1, h.2⟩
section
variable (T : Tb) (F : Hp)
mutual
def Rep : PV → V → Prop
  | .emp, _ => True
  | .non, v => v = .non
  | .bl b, v => v = .bl b
  | .int i, v => v = .int i
  | .str x, v => v = .str x
  | .tup xs, v => ∃ p vs, v = .ref p ∧ SqT T.K F p vs ∧ Reps xs vs
  | .lst _ xs, v => ∃ p vs, v = .ref p ∧ F p = some (.lst vs) ∧ Reps xs vs
  | .dK _ ks xs, v => ∃ p vs, v = .ref p ∧ F p = some (.dK (ks.zip vs)) ∧ ks.length = vs.length ∧ Reps xs vs
  | .dN _ ks xs, v => ∃ p vs, v = .ref p ∧ F p = some (My.nD T.P T.w p (ks.zip vs)) ∧ ks.length = vs.length ∧ Reps xs vs
  | .obj _ c xs, v => ∃ p dx vs, v = .ref p ∧ F p = some (.ins (T.ca c) dx ((T.flds c).zip vs)) ∧ vs.length ≤ (T.flds c).length ∧ Reps xs vs
  | .scr ns, v => ∃ p, v = .ref p ∧ SqL T.K F p (ns.map V.int)
  | .ty n, v => v = .ty n
  | .cls c, v => v = .ref (T.ca c)
  | .err d c xs, v => ∃ p vs, v = .ref p ∧ XAt T F c d vs ∧ Reps xs vs
def Reps : List PV → List V → Prop
  | [], vs => vs = []
  | x :: xs, vs => ∃ v vs', vs = v :: vs' ∧ (Rep x v ∧ x.own = false) ∧ Reps xs vs'
end
end
/-- the root in G, the items in F -/
def RepAt (T : Tb) (G F : Hp) : PV → V → Prop
  | .emp, _ => True
  | .non, v => v = .non
  | .bl b, v => v = .bl b
  | .int i, v => v = .int i
  | .str x, v => v = .str x
  | .tup xs, v => ∃ p vs, v = .ref p ∧ SqT T.K G p vs ∧ Reps T F xs vs
  | .lst _ xs, v => ∃ p vs, v = .ref p ∧ G p = some (.lst vs) ∧ Reps T F xs vs
  | .dK _ ks xs, v => ∃ p vs, v = .ref p ∧ G p = some (.dK (ks.zip vs)) ∧ ks.length = vs.length ∧ Reps T F xs vs
  | .dN _ ks xs, v => ∃ p vs, v = .ref p ∧ G p = some (My.nD T.P T.w p (ks.zip vs)) ∧ ks.length = vs.length ∧ Reps T F xs vs
  | .obj _ c xs, v => ∃ p dx vs, v = .ref p ∧ G p = some (.ins (T.ca c) dx ((T.flds c).zip vs)) ∧ vs.length ≤ (T.flds c).length ∧ Reps T F xs vs
  | .scr ns, v => ∃ p, v = .ref p ∧ SqL T.K G p (ns.map V.int)
  | .ty n, v => v = .ty n
  | .cls c, v => v = .ref (T.ca c)
  | .err d c xs, v => ∃ p vs, v = .ref p ∧ XAt T F c d vs ∧ Reps T F xs vs
theorem rep_at {T : Tb} {F : Hp} {a : PV} {v : V} : Rep T F a v ↔ RepAt T F F a v := by
  cases a <;> simp only [Rep, RepAt]
/-- frozen in F, or owned in H -/
def Own (T : Tb) (H F : Hp) (a : PV) (v : V) : Prop := RepAt T (if a.own = true then H else F) F a v
theorem Own.fz {T : Tb} {H F : Hp} {a : PV} {v : V} (ho : a.own = false) : Own T H F a v ↔ Rep T F a v := by
  unfold Own; rw [ho, rep_at]; simp
theorem Own.ow {T : Tb} {H F : Hp} {a : PV} {v : V} (ho : a.own = true) : Own T H F a v ↔ RepAt T H F a v := by
  unfold Own; rw [ho]; simp
section
variable {T : Tb} {F F' G G' H H' : Hp}
mutual
theorem Rep.mono (e : Same F F') : ∀ {a : PV} {v : V}, Rep T F a v → Rep T F' a v
  | .emp, _, _ => by simp only [Rep]
  | .non, _, h => by simpa only [Rep] using h
  | .bl _, _, h => by simpa only [Rep] using h
  | .int _, _, h => by simpa only [Rep] using h
  | .str _, _, h => by simpa only [Rep] using h
  | .tup xs, _, h => by
    simp only [Rep] at h ⊢
    obtain ⟨p, vs, e1, h1, h2⟩ := h
    exact ⟨p, vs, e1, e.seqT h1, Reps.mono e h2⟩
  | .lst _ xs, _, h => by
    simp only [Rep] at h ⊢
    obtain ⟨p, vs, e1, h1, h2⟩ := h
    exact ⟨p, vs, e1, e _ _ h1, Reps.mono e h2⟩
  | .dK _ ks xs, _, h => by
    simp only [Rep] at h ⊢
    obtain ⟨p, vs, e1, h1, hl, h2⟩ := h
    exact ⟨p, vs, e1, e _ _ h1, hl, Reps.mono e h2⟩
  | .dN _ ks xs, _, h => by
    simp only [Rep] at h ⊢
    obtain ⟨p, vs, e1, h1, hl, h2⟩ := h
    exact ⟨p, vs, e1, e _ _ h1, hl, Reps.mono e h2⟩
  | .obj _ c xs, _, h => by
    simp only [Rep] at h ⊢
    obtain ⟨p, dx, vs, e1, h1, hl, h2⟩ := h
    exact ⟨p, dx, vs, e1, e _ _ h1, hl, Reps.mono e h2⟩
  | .scr ns, _, h => by
    simp only [Rep] at h ⊢
    obtain ⟨p, e1, h1⟩ := h
    exact ⟨p, e1, e.seq h1⟩
  | .ty _, _, h => by simpa only [Rep] using h
  | .cls _, _, h => by simpa only [Rep] using h
  | .err d c xs, _, h => by
    simp only [Rep] at h ⊢
    obtain ⟨p, vs, e1, h1, h2⟩ := h
    exact ⟨p, vs, e1, h1.mono e, Reps.mono e h2⟩
theorem Reps.mono (e : Same F F') : ∀ {xs : List PV} {vs : List V}, Reps T F xs vs → Reps T F' xs vs
  | [], _, h => by simpa only [Reps] using h
  | x :: xs, _, h => by
    simp only [Reps] at h ⊢
    obtain ⟨v, vs', e1, ⟨h1, ho⟩, h2⟩ := h
    exact ⟨v, vs', e1, ⟨Rep.mono e h1, ho⟩, Reps.mono e h2⟩
end
theorem RepAt.mono (eg : Same G G') (e : Same F F') {a : PV} {v : V} (h : RepAt T G F a v) : RepAt T G' F' a v := by
  cases a with
  | emp => trivial
  | non => exact h
  | bl _ => exact h
  | int _ => exact h
  | str _ => exact h
  | tup xs => obtain ⟨p, vs, e1, h1, h2⟩ := h; exact ⟨p, vs, e1, eg.seqT h1, h2.mono e⟩
  | lst _ xs => obtain ⟨p, vs, e1, h1, h2⟩ := h; exact ⟨p, vs, e1, eg _ _ h1, h2.mono e⟩
  | dK _ _ xs => obtain ⟨p, vs, e1, h1, hl, h2⟩ := h; exact ⟨p, vs, e1, eg _ _ h1, hl, h2.mono e⟩
  | dN _ _ xs => obtain ⟨p, vs, e1, h1, hl, h2⟩ := h; exact ⟨p, vs, e1, eg _ _ h1, hl, h2.mono e⟩
  | obj _ _ xs => obtain ⟨p, dx, vs, e1, h1, hl, h2⟩ := h; exact ⟨p, dx, vs, e1, eg _ _ h1, hl, h2.mono e⟩
  | scr _ => obtain ⟨p, e1, h1⟩ := h; exact ⟨p, e1, eg.seq h1⟩
  | ty _ => exact h
  | cls _ => exact h
  | err d c xs => obtain ⟨p, vs, e1, h1, h2⟩ := h; exact ⟨p, vs, e1, h1.mono e, h2.mono e⟩
theorem Own.mono (eh : Same H H') (e : Same F F') {a : PV} {v : V} (h : Own T H F a v) : Own T H' F' a v := by
  unfold Own at h ⊢
  refine h.mono ?_ e
  split
  · exact eh
  · exact e
theorem Reps.length : ∀ {xs : List PV} {vs : List V}, Reps T F xs vs → vs.length = xs.length
  | [], _, h => by simp only [Reps] at h; rw [h]; rfl
  | x :: xs, _, h => by
    simp only [Reps] at h
    obtain ⟨v, vs', e1, _, h2⟩ := h
    rw [e1, List.length_cons, List.length_cons, Reps.length h2]
theorem Reps.nil : Reps T F [] [] := by simp only [Reps]
theorem Reps.cons {x : PV} {v : V} {xs : List PV} {vs : List V} (h : Rep T F x v) (ho : x.own = false) (hs : Reps T F xs vs) : Reps T F (x :: xs) (v :: vs) := by
  simp only [Reps]; exact ⟨v, vs, rfl, ⟨h, ho⟩, hs⟩
theorem Reps.inv {x : PV} {xs : List PV} {vs : List V} (h : Reps T F (x :: xs) vs) : ∃ v vs', vs = v :: vs' ∧ Rep T F x v ∧ x.own = false ∧ Reps T F xs vs' := by
  simp only [Reps] at h
  obtain ⟨v, vs', e1, ⟨h1, ho⟩, h2⟩ := h
  exact ⟨v, vs', e1, h1, ho, h2⟩
theorem Reps.at : ∀ {xs : List PV} {vs : List V} {i : Nat} {x : PV}, Reps T F xs vs → xs[i]? = some x → ∃ v, vs[i]? = some v ∧ Rep T F x v ∧ x.own = false
  | [], _, _, _, _, e => by simp at e
  | y :: xs, _, i, x, h, e => by
    obtain ⟨v, vs', rfl, h1, ho, h2⟩ := h.inv
    cases i with
    | zero =>
      simp at e; subst e
      exact ⟨v, rfl, h1, ho⟩
    | succ i =>
      obtain ⟨w, q1, q2⟩ := Reps.at (i := i) (x := x) h2 (by simpa using e)
      exact ⟨w, by simpa using q1, q2⟩
theorem Reps.append : ∀ {xs ys : List PV} {vs ws : List V}, Reps T F xs vs → Reps T F ys ws → Reps T F (xs ++ ys) (vs ++ ws)
  | [], _, _, _, h, k => by simp only [Reps] at h; subst h; exact k
  | x :: xs, _, _, _, h, k => by
    obtain ⟨v, vs', rfl, h1, ho, h2⟩ := h.inv
    exact .cons h1 ho (Reps.append h2 k)
theorem Reps.of_at : ∀ {xs : List PV} {vs : List V}, vs.length = xs.length → (∀ (i : Nat) (x : PV) (v : V), xs[i]? = some x → vs[i]? = some v → Rep T F x v ∧ x.own = false) → Reps T F xs vs
  | [], [], _, _ => .nil
  | [], _ :: _, h, _ => by simp at h
  | _ :: _, [], h, _ => by simp at h
  | x :: xs, v :: vs, h, q => by
    obtain ⟨h1, h2⟩ := q 0 x v rfl rfl
    exact .cons h1 h2 (Reps.of_at (by simpa using h) fun i y w hy hw => q (i + 1) y w (by simpa using hy) (by simpa using hw))
theorem Reps.set {xs : List PV} {vs : List V} {x : PV} {v : V} (h : Reps T F xs vs) (i : Nat) (hx : Rep T F x v) (ho : x.own = false) : Reps T F (xs.set i x) (vs.set i v) := by
  have hl := h.length
  refine .of_at (by simp [hl]) fun j y w hy hw => ?_
  by_cases e : i = j
  · subst e
    rw [List.getElem?_set_self'] at hy hw
    cases q : xs[i]? with
    | none => rw [q] at hy; cases hy
    | some z =>
      rw [q] at hy; cases hy
      cases r : vs[i]? with
      | none => rw [r] at hw; cases hw
      | some z => rw [r] at hw; cases hw; exact ⟨hx, ho⟩
  · rw [List.getElem?_set_ne e] at hy hw
    obtain ⟨v', q1, q2⟩ := h.at hy
    rw [hw] at q1; cases q1
    exact q2
theorem Reps.take {xs : List PV} {vs : List V} (h : Reps T F xs vs) (n : Nat) : Reps T F (xs.take n) (vs.take n) := by
  refine .of_at (by simp [h.length]) fun j y w hy hw => ?_
  rw [List.getElem?_take] at hy hw
  split at hy
  · rename_i c
    rw [if_pos c] at hw
    obtain ⟨v', q1, q2⟩ := h.at hy
    rw [hw] at q1; cases q1
    exact q2
  · cases hy
theorem Reps.drop {xs : List PV} {vs : List V} (h : Reps T F xs vs) (n : Nat) : Reps T F (xs.drop n) (vs.drop n) := by
  refine .of_at (by simp [h.length]) fun j y w hy hw => ?_
  rw [List.getElem?_drop] at hy hw
  obtain ⟨v', q1, q2⟩ := h.at hy
  rw [hw] at q1; cases q1
  exact q2
theorem Reps.reverse {xs : List PV} {vs : List V} (h : Reps T F xs vs) : Reps T F xs.reverse vs.reverse := by
  induction xs generalizing vs with
  | nil => simp only [Reps] at h; subst h; exact .nil
  | cons x xs ih =>
    obtain ⟨v, vs', rfl, h1, ho, h2⟩ := h.inv
    rw [List.reverse_cons, List.reverse_cons]
    exact (ih h2).append (.cons h1 ho .nil)
theorem Reps.eraseIdx {xs : List PV} {vs : List V} (h : Reps T F xs vs) (n : Nat) : Reps T F (xs.eraseIdx n) (vs.eraseIdx n) := by
  rw [List.eraseIdx_eq_take_drop_succ, List.eraseIdx_eq_take_drop_succ]
  exact (h.take n).append (h.drop (n + 1))
theorem Reps.ints : ∀ (ns : List Int), Reps T F (ns.map PV.int) (ns.map V.int)
  | [] => .nil
  | n :: ns => .cons (by simp only [Rep]) rfl (Reps.ints ns)
end
end VL
set_option Elab.async false
set_option linter.all false
set_option maxRecDepth 100000
namespace VL
open PySem PySem.Spec PyProof.Rows L2
abbrev Its := List (PV × V)
def fpOf (l : Its) : List Addr := l.filterMap fun x => if x.1.cell = true then (match x.2 with | .ref p => some p | _ => none) else none
theorem fpOf_cons (x : PV × V) (l : Its) : fpOf (x :: l) = (match (if x.1.cell = true then (match x.2 with | .ref p => some p | _ => none) else none : Option Addr) with | some p => p :: fpOf l | none => fpOf l) := by
  unfold fpOf
  rw [List.filterMap_cons]
  cases (if x.1.cell = true then (match x.2 with | .ref p => some p | _ => none) else none : Option Addr) <;> rfl
theorem fpOf_fz {a : PV} {v : V} {l : Its} (h : a.own = false) : fpOf ((a, v) :: l) = fpOf l := by rw [fpOf_cons]; simp [PV.cell_no h]
theorem fpOf_err {d : Option Addr} {c : String} {xs : List PV} {v : V} {l : Its} : fpOf ((.err d c xs, v) :: l) = fpOf l := by rw [fpOf_cons]; simp [PV.cell, PV.isErr]
theorem fpOf_ow {a : PV} {p : Addr} {l : Its} (h : a.cell = true) : fpOf ((a, .ref p) :: l) = p :: fpOf l := by rw [fpOf_cons]; simp [h]
theorem mem_fpOf {p : Addr} {l : Its} : p ∈ fpOf l ↔ ∃ a, a.cell = true ∧ (a, V.ref p) ∈ l := by
  unfold fpOf
  rw [List.mem_filterMap]
  constructor
  · rintro ⟨⟨a, v⟩, hm, e⟩
    simp only at e
    split at e
    · rename_i ho
      cases v <;> simp at e
      subst e
      exact ⟨a, ho, hm⟩
    · cases e
  · rintro ⟨a, ho, hm⟩
    exact ⟨(a, .ref p), hm, by simp [ho]⟩
def Hold (T : Tb) (H : Hp) (l : Its) : Prop := ∃ F : Hp, Same F H ∧ (∀ x ∈ l, Own T H F x.1 x.2) ∧ (fpOf l).Nodup ∧ ∀ p ∈ fpOf l, F p = none
section
variable {T : Tb} {H H' : Hp} {l l' m τ : Its} {a b : PV} {v w : V} {p : Addr}
theorem fpOf_perm (h : l.Perm l') : (fpOf l).Perm (fpOf l') := h.filterMap _
theorem Hold.perm (e : l.Perm l') (h : Hold T H l) : Hold T H l' := by
  obtain ⟨F, s, o, n, d⟩ := h
  exact ⟨F, s, fun x hx => o x (e.mem_iff.mpr hx), (fpOf_perm e).nodup_iff.mp n, fun q hq => d q ((fpOf_perm e).mem_iff.mpr hq)⟩
theorem Hold.sub (e : l'.Sublist l) (h : Hold T H l) : Hold T H l' := by
  obtain ⟨F, s, o, n, d⟩ := h
  have e2 : (fpOf l').Sublist (fpOf l) := e.filterMap _
  exact ⟨F, s, fun x hx => o x (e.subset hx), n.sublist e2, fun q hq => d q (e2.subset hq)⟩
theorem Hold.tail {x : PV × V} (h : Hold T H (x :: l)) : Hold T H l := h.sub (List.sublist_cons_self ..)
theorem Hold.right (h : Hold T H (l ++ m)) : Hold T H m := h.sub (List.sublist_append_right ..)
/-- a frozen value that every frozen heap under these items bears -/
theorem Hold.add (h : Hold T H l) (ho : a.own = false) (q : ∀ F, Same F H → (∀ x ∈ l, Own T H F x.1 x.2) → Rep T F a v) : Hold T H ((a, v) :: l) := by
  obtain ⟨F, s, o, n, d⟩ := h
  refine ⟨F, s, fun x hx => ?_, by rw [fpOf_fz ho]; exact n, fun q hq => d q (by rw [fpOf_fz ho] at hq; exact hq)⟩
  rcases List.mem_cons.mp hx with rfl | hx
  · exact (Own.fz ho).mpr (q F s o)
  · exact o x hx
theorem Hold.dup (h : Hold T H l) (hm : (a, v) ∈ l) (ho : a.own = false) : Hold T H ((a, v) :: l) := h.add ho fun F s o => (Own.fz ho).mp (o _ hm)
theorem Hold.non (h : Hold T H l) : Hold T H ((.non, .non) :: l) := h.add rfl fun F s o => by simp only [Rep]
theorem Hold.bl (h : Hold T H l) {b : Bool} : Hold T H ((.bl b, .bl b) :: l) := h.add rfl fun F s o => by simp only [Rep]
theorem Hold.int (h : Hold T H l) {i : Int} : Hold T H ((.int i, .int i) :: l) := h.add rfl fun F s o => by simp only [Rep]
theorem Hold.str (h : Hold T H l) {x : Str} : Hold T H ((.str x, .str x) :: l) := h.add rfl fun F s o => by simp only [Rep]
theorem Hold.emp (h : Hold T H l) {v : V} : Hold T H ((.emp, v) :: l) := h.add rfl fun F s o => by simp only [Rep]
/-- the heap grows -/
theorem Hold.same (h : Hold T H l) (e : Same H H') : Hold T H' l := by
  obtain ⟨F, s, o, n, d⟩ := h
  exact ⟨F, s.trans e, fun x hx => (o x hx).mono e (Same.refl F), n, d⟩
/-- what an item's place holds -/
theorem Hold.own (h : Hold T H l) (hm : (a, v) ∈ l) : ∃ F, Same F H ∧ Own T H F a v := by
  obtain ⟨F, s, o, n, d⟩ := h
  exact ⟨F, s, o _ hm⟩
theorem Hold.get (h : Hold T H l) (hm : (a, v) ∈ l) : ∃ F, Same F H ∧ RepAt T H F a v ∧ (∀ x ∈ l, Own T H F x.1 x.2) := by
  obtain ⟨F, s, o, n, d⟩ := h
  refine ⟨F, s, ?_, o⟩
  have := o _ hm
  unfold Own at this
  refine this.mono ?_ (Same.refl F)
  split
  · exact Same.refl H
  · exact s
theorem Hold.g_non (h : Hold T H l) (hm : (PV.non, v) ∈ l) : v = .non := by obtain ⟨F, s, r, _⟩ := h.get hm; exact r
theorem Hold.g_bl {b : Bool} (h : Hold T H l) (hm : (PV.bl b, v) ∈ l) : v = .bl b := by obtain ⟨F, s, r, _⟩ := h.get hm; exact r
theorem Hold.g_int {i : Int} (h : Hold T H l) (hm : (PV.int i, v) ∈ l) : v = .int i := by obtain ⟨F, s, r, _⟩ := h.get hm; exact r
theorem Hold.g_str {x : Str} (h : Hold T H l) (hm : (PV.str x, v) ∈ l) : v = .str x := by obtain ⟨F, s, r, _⟩ := h.get hm; exact r
theorem Hold.g_lst {o : Fl} {xs : List PV} (h : Hold T H l) (hm : (PV.lst o xs, v) ∈ l) : ∃ p vs, v = .ref p ∧ H p = some (.lst vs) ∧ vs.length = xs.length ∧ ∃ F, Same F H ∧ Reps T F xs vs := by
  obtain ⟨F, s, ⟨p, vs, e, h1, h2⟩, _⟩ := h.get hm
  exact ⟨p, vs, e, h1, h2.length, F, s, h2⟩
theorem Hold.g_tup {xs : List PV} (h : Hold T H l) (hm : (PV.tup xs, v) ∈ l) : ∃ p vs, v = .ref p ∧ SqT T.K H p vs ∧ vs.length = xs.length ∧ ∃ F, Same F H ∧ Reps T F xs vs := by
  obtain ⟨F, s, ⟨p, vs, e, h1, h2⟩, _⟩ := h.get hm
  exact ⟨p, vs, e, h1, h2.length, F, s, h2⟩
theorem Hold.g_obj {o : Fl} {c : String} {xs : List PV} (h : Hold T H l) (hm : (PV.obj o c xs, v) ∈ l) : ∃ p dx vs, v = .ref p ∧ H p = some (.ins (T.ca c) dx ((T.flds c).zip vs)) ∧ vs.length ≤ (T.flds c).length ∧ vs.length = xs.length := by
  obtain ⟨F, s, ⟨p, dx, vs, e, h1, hl, h2⟩, _⟩ := h.get hm
  exact ⟨p, dx, vs, e, h1, hl, h2.length⟩
/-- a new object that bears frozen items -/
theorem Hold.new_own (h : Hold T H l) (hp : H p = none) {o : HO} (hc : a.cell = true) (q : ∀ F, Same F H → (∀ x ∈ l, Own T H F x.1 x.2) → RepAt T (upd H p o) F a (.ref p)) : Hold T (upd H p o) ((a, .ref p) :: l) := by
  have ho := PV.cell_own hc
  obtain ⟨F, s, ow, n, d⟩ := h
  have e : Same H (upd H p o) := fun b u k => by rw [upd_ne (ne_of_none k hp)]; exact k
  have np : p ∉ fpOf l := fun hm => by
    obtain ⟨c, hc, hcm⟩ := mem_fpOf.mp hm
    have := ow _ hcm
    unfold Own at this
    rw [if_pos (PV.cell_own hc)] at this
    cases c <;> simp [PV.cell, PV.isErr, PV.own, PV.fl] at hc <;> simp [RepAt] at this
    · obtain ⟨_, k, _⟩ := this; rw [hp] at k; cases k
    · obtain ⟨_, k, _⟩ := this; rw [hp] at k; cases k
    · obtain ⟨_, k, _⟩ := this; rw [hp] at k; cases k
    · obtain ⟨_, _, k, _⟩ := this; rw [hp] at k; cases k
  refine ⟨F, s.trans e, fun x hx => ?_, ?_, fun q' hq => ?_⟩
  · rcases List.mem_cons.mp hx with rfl | hx
    · exact (Own.ow ho).mpr (q F s ow)
    · exact (ow x hx).mono e (Same.refl F)
  · rw [fpOf_ow hc]; exact List.nodup_cons.mpr ⟨np, n⟩
  · rw [fpOf_ow hc] at hq
    rcases List.mem_cons.mp hq with rfl | hq
    · cases k : F q' with
      | none => rfl
      | some u => have := s _ _ k; rw [hp] at this; cases this
    · exact d q' hq
/-- no item is where nothing stands -/
theorem fp_new {F : Hp} (ow : ∀ x ∈ l, Own T H F x.1 x.2) (hp : H p = none) : p ∉ fpOf l := fun hm => by
  obtain ⟨c, hc, hcm⟩ := mem_fpOf.mp hm
  have := ow _ hcm
  unfold Own at this
  rw [if_pos (PV.cell_own hc)] at this
  cases c <;> simp [PV.cell, PV.isErr, PV.own, PV.fl] at hc <;> simp [RepAt] at this
  · obtain ⟨_, k, _⟩ := this; rw [hp] at k; cases k
  · obtain ⟨_, k, _⟩ := this; rw [hp] at k; cases k
  · obtain ⟨_, k, _⟩ := this; rw [hp] at k; cases k
  · obtain ⟨_, _, k, _⟩ := this; rw [hp] at k; cases k
theorem Hold.newF {F : Hp} (s : Same F H) (ow : ∀ x ∈ l, Own T H F x.1 x.2) (n : (fpOf l).Nodup) (d : ∀ p ∈ fpOf l, F p = none) (hp : H p = none) {o : HO} (ho : a.own = false) (q : RepAt T (upd F p o) (upd F p o) a v) : Hold T (upd H p o) ((a, v) :: l) := by
  have e : Same H (upd H p o) := fun b u k => by rw [upd_ne (ne_of_none k hp)]; exact k
  have fp : F p = none := by
    cases k : F p with
    | none => rfl
    | some u => have := s _ _ k; rw [hp] at this; cases this
  have ef : Same F (upd F p o) := fun b u k => by rw [upd_ne (ne_of_none k fp)]; exact k
  have np := fp_new ow hp
  refine ⟨upd F p o, fun b u k => ?_, fun x hx => ?_, by rw [fpOf_fz ho]; exact n, fun q' hq => ?_⟩
  · by_cases eb : b = p
    · subst eb; rw [upd_same] at k ⊢; exact k
    · rw [upd_ne eb] at k ⊢; exact s _ _ k
  · rcases List.mem_cons.mp hx with rfl | hx
    · exact (Own.fz ho).mpr (rep_at.mpr q)
    · exact (ow x hx).mono e ef
  · rw [fpOf_fz ho] at hq
    rw [upd_ne (show q' ≠ p from fun z => np (by rw [← z]; exact hq))]
    exact d q' hq
theorem same_newF {F : Hp} (s : Same F H) (hp : H p = none) (o : HO) : Same F (upd F p o) := fun b u k => by
  rw [upd_ne (fun z => by rw [z] at k; have := s _ _ k; rw [hp] at this; cases this)]; exact k
/-- a new frozen object -/
theorem Hold.new_fz (h : Hold T H l) (hp : H p = none) {o : HO} (ho : a.own = false) (q : ∀ F, Same F H → (∀ x ∈ l, Own T H F x.1 x.2) → RepAt T (upd F p o) (upd F p o) a v) : Hold T (upd H p o) ((a, v) :: l) := by
  obtain ⟨F, s, ow, n, d⟩ := h
  exact Hold.newF s ow n d hp ho (q F s ow)
/-- an own object is frozen -/
theorem Hold.freeze (h : Hold T H ((a, v) :: l)) : Hold T H ((a.setFl .fz, v) :: l) := by
  by_cases he : a.isErr = true
  · cases a <;> simp [PV.isErr] at he
    obtain ⟨F, s, ow, n, d⟩ := h
    rw [fpOf_err] at n d
    refine ⟨F, s, fun x hx => ?_, by rw [fpOf_fz rfl]; exact n, by rw [fpOf_fz rfl]; exact d⟩
    rcases List.mem_cons.mp hx with rfl | hx
    · exact (Own.fz rfl).mpr trivial
    · exact ow x (List.mem_cons_of_mem _ hx)
  by_cases ho : a.own = true
  · obtain ⟨F, s, ow, n, d⟩ := h
    have hce : a.cell = true := by unfold PV.cell; rw [ho]; simpa using he
    have ra := (Own.ow ho).mp (ow _ List.mem_cons_self)
    have fz : (a.setFl .fz).own = false := by cases a <;> rfl
    have go : ∀ (p : Addr) (o : HO), v = .ref p → H p = some o → RepAt T (upd F p o) F (a.setFl .fz) v → Hold T H ((a.setFl .fz, v) :: l) := by
      intro p o ev hp r
      subst ev
      rw [fpOf_ow hce] at n d
      have fp := d p List.mem_cons_self
      have ef : Same F (upd F p o) := fun b u k => by rw [upd_ne (ne_of_none k fp)]; exact k
      refine ⟨upd F p o, fun b u k => ?_, fun x hx => ?_, by rw [fpOf_fz fz]; exact (List.nodup_cons.mp n).2, fun q hq => ?_⟩
      · by_cases eb : b = p
        · subst eb; rw [upd_same] at k; cases k; exact hp
        · rw [upd_ne eb] at k; exact s _ _ k
      · rcases List.mem_cons.mp hx with rfl | hx
        · exact (Own.fz fz).mpr (rep_at.mpr (r.mono (Same.refl _) ef))
        · exact (ow x (List.mem_cons_of_mem _ hx)).mono (Same.refl H) ef
      · rw [fpOf_fz fz] at hq
        rw [upd_ne (show q ≠ p from fun z => (List.nodup_cons.mp n).1 (by rw [← z]; exact hq))]
        exact d q (List.mem_cons_of_mem _ hq)
    cases a with
    | lst o xs => obtain ⟨p, vs, e, h1, h2⟩ := ra; exact go p _ e h1 ⟨p, vs, e, upd_same, h2⟩
    | dK o ks xs => obtain ⟨p, vs, e, h1, h2⟩ := ra; exact go p _ e h1 ⟨p, vs, e, upd_same, h2⟩
    | dN o ks xs => obtain ⟨p, vs, e, h1, h2⟩ := ra; exact go p _ e h1 ⟨p, vs, e, upd_same, h2⟩
    | obj o c xs => obtain ⟨p, dx, vs, e, h1, h2⟩ := ra; exact go p _ e h1 ⟨p, dx, vs, e, upd_same, h2⟩
    | err _ _ _ => simp [PV.isErr] at he
    | _ => simp [PV.own, PV.fl] at ho
  · have : a.setFl .fz = a := by
      cases a with
      | lst o _ => cases o <;> simp [PV.own, PV.fl] at ho; rfl
      | dK o _ _ => cases o <;> simp [PV.own, PV.fl] at ho; rfl
      | dN o _ _ => cases o <;> simp [PV.own, PV.fl] at ho; rfl
      | obj o _ _ => cases o <;> simp [PV.own, PV.fl] at ho; rfl
      | err _ _ _ => simp [PV.isErr] at he
      | _ => rfl
    rw [this]; exact h
/-- ow and io lie alike -/
theorem Hold.relabel (h : Hold T H ((a, v) :: l)) (ho : a.own = true) {o : Fl} (hn : o ≠ .fz) : Hold T H ((a.setFl o, v) :: l) := by
  by_cases he : a.isErr = true
  · cases a <;> simp [PV.isErr] at he
    exact h.freeze
  obtain ⟨F, s, ow, n, d⟩ := h
  have ra := (Own.ow ho).mp (ow _ List.mem_cons_self)
  have ho' : (a.setFl o).own = true := by cases a <;> simp [PV.own, PV.fl, PV.isErr] at ho he <;> cases o <;> first | rfl | exact absurd rfl hn
  have c1 : a.cell = true := by unfold PV.cell; rw [ho]; simpa using he
  have c2 : (a.setFl o).cell = true := by unfold PV.cell; rw [ho']; cases a <;> first | rfl | simp [PV.isErr] at he
  have hf : fpOf ((a.setFl o, v) :: l) = fpOf ((a, v) :: l) := by rw [fpOf_cons, fpOf_cons]; simp [c1, c2]
  refine ⟨F, s, fun x hx => ?_, by rw [hf]; exact n, fun q hq => d q (by rw [hf] at hq; exact hq)⟩
  rcases List.mem_cons.mp hx with rfl | hx
  · refine (Own.ow ho').mpr ?_
    cases a <;> first | exact ra | simp [PV.isErr] at he
  · exact ow x (List.mem_cons_of_mem _ hx)
/-- an own object is changed -/
theorem Hold.write (h : Hold T H ((a, .ref p) :: l)) (ho : a.own = true) {o : HO} (hb : b.own = true) (q : ∀ F, Same F H → RepAt T H F a (.ref p) → (∀ x ∈ l, Own T H F x.1 x.2) → RepAt T (upd H p o) F b (.ref p)) (ca : a.isErr = false := by rfl) (cb : b.isErr = false := by rfl) : Hold T (upd H p o) ((b, .ref p) :: l) := by
  have c1 : a.cell = true := by unfold PV.cell; rw [ho, ca]; rfl
  have c2 : b.cell = true := by unfold PV.cell; rw [hb, cb]; rfl
  obtain ⟨F, s, ow, n, d⟩ := h
  have ra := (Own.ow ho).mp (ow _ List.mem_cons_self)
  rw [fpOf_ow c1] at n d
  have fp := d p List.mem_cons_self
  refine ⟨F, fun b u k => ?_, fun x hx => ?_, by rw [fpOf_ow c2]; exact n, by rw [fpOf_ow c2]; exact d⟩
  · rw [upd_ne (ne_of_none k fp)]; exact s _ _ k
  · rcases List.mem_cons.mp hx with rfl | hx
    · exact (Own.ow hb).mpr (q F s ra fun x hx => ow x (List.mem_cons_of_mem _ hx))
    · have := ow x (List.mem_cons_of_mem _ hx)
      by_cases hx' : x.1.own = true
      · rw [Own.ow hx'] at this ⊢
        have nx : x.1.isErr = false → ∀ q, x.2 = .ref q → q ≠ p := fun ne q e z => (List.nodup_cons.mp n).1 (by rw [← z]; exact mem_fpOf.mpr ⟨x.1, by unfold PV.cell; rw [hx', ne]; rfl, by rw [← e]; exact hx⟩)
        obtain ⟨c, u⟩ := x
        cases c <;> simp [PV.own, PV.fl] at hx'
        · obtain ⟨p', vs, e, h1, h2⟩ := this; exact ⟨p', vs, e, by rw [upd_ne (nx rfl _ e)]; exact h1, h2⟩
        · obtain ⟨p', vs, e, h1, h2⟩ := this; exact ⟨p', vs, e, by rw [upd_ne (nx rfl _ e)]; exact h1, h2⟩
        · obtain ⟨p', vs, e, h1, h2⟩ := this; exact ⟨p', vs, e, by rw [upd_ne (nx rfl _ e)]; exact h1, h2⟩
        · obtain ⟨p', dx, vs, e, h1, h2⟩ := this; exact ⟨p', dx, vs, e, by rw [upd_ne (nx rfl _ e)]; exact h1, h2⟩
        · exact this
      · have hx' : x.1.own = false := by simpa using hx'
        exact (Own.fz hx').mpr ((Own.fz hx').mp this)
end
end VL
set_option Elab.async false
set_option linter.all false
set_option maxRecDepth 100000
namespace VL
open PySem PySem.Spec PyProof.Rows L2
inductive R (α : Type) where
  | ok (a : α) (ρ : List PV)
  | exc (c : String) (xs : List PV) (ρ : List PV)
  | stuck
abbrev M (α : Type) := List PV → R α
def R.bind {α β : Type} (r : R α) (k : α → M β) : R β :=
  match r with
  | .ok a ρ => k a ρ
  | .exc c xs ρ => .exc c xs ρ
  | .stuck => .stuck
@[simp] theorem R.bind_ok {α β : Type} (a : α) (ρ : List PV) (k : α → M β) : (R.ok a ρ).bind k = k a ρ := rfl
@[simp] theorem R.bind_exc {α β : Type} (c : String) (xs ρ : List PV) (k : α → M β) : (R.exc c xs ρ : R α).bind k = .exc c xs ρ := rfl
@[simp] theorem R.bind_stuck {α β : Type} (k : α → M β) : (R.stuck : R α).bind k = .stuck := rfl
/-- a slot by its number -/
def nth : List PV → Nat → PV
  | [], _ => .emp
  | x :: _, 0 => x
  | _ :: xs, n + 1 => nth xs n
@[simp] theorem nth_zero (x : PV) (xs : List PV) : nth (x :: xs) 0 = x := rfl
@[simp] theorem nth_succ (x : PV) (xs : List PV) (n : Nat) : nth (x :: xs) (n + 1) = nth xs n := rfl
theorem nth_get : ∀ (xs : List PV) (i : Nat), nth xs i = xs[i]?.getD .emp
  | [], _ => by simp [nth]
  | x :: xs, 0 => by simp
  | x :: xs, n + 1 => by simp [nth_get xs n]
/-- what an expression gives: the name in slot i, or a value of its own -/
inductive Hd where
  | sl (i : Nat)
  | tm (a : PV)
def hv (ρ : List PV) : Hd → PV
  | .sl i => nth ρ i
  | .tm a => a
@[simp] theorem hv_sl (ρ : List PV) (i : Nat) : hv ρ (.sl i) = nth ρ i := rfl
@[simp] theorem hv_tm (ρ : List PV) (a : PV) : hv ρ (.tm a) = a := rfl
def hit : Hd → V → Its
  | .sl _, _ => []
  | .tm a, v => [(a, v)]
def hits : List Hd → List V → Its
  | h :: hs, v :: vs => hit h v ++ hits hs vs
  | _, _ => []
def its : List PV → L2.St → Its
  | a :: ρ, s :: σ => (a, s.getD .non) :: its ρ σ
  | _, _ => []
structure Fits (s0 : L2.St) (ρ : List PV) (σ : L2.St) : Prop where
  len : σ.length = ρ.length
  has : ∀ i, (nth ρ i).isEmp = false → ∃ v, σ[i]? = some (some v)
  io : ∀ i, (nth ρ i).isIo = true → σ[i]? = s0[i]?
theorem its_mem : ∀ {ρ : List PV} {σ : L2.St} {i : Nat} {v : V}, σ.length = ρ.length → σ[i]? = some (some v) → (nth ρ i, v) ∈ its ρ σ
  | [], [], _, _, _, e => by simp at e
  | [], _ :: _, _, _, h, _ => by simp at h
  | _ :: _, [], _, _, h, _ => by simp at h
  | a :: ρ, s :: σ, 0, v, h, e => by
    simp at e; subst e
    simp [its]
  | a :: ρ, s :: σ, i + 1, v, h, e => by
    have := its_mem (ρ := ρ) (σ := σ) (i := i) (v := v) (by simpa using h) (by simpa using e)
    simp [its, this]
theorem nth_set_same : ∀ {ρ : List PV} {i : Nat} {a : PV}, i < ρ.length → nth (ρ.set i a) i = a
  | _ :: _, 0, _, _ => rfl
  | _ :: ρ, i + 1, a, h => by simp [nth, nth_set_same (ρ := ρ) (i := i) (a := a) (by simpa using h)]
theorem nth_set_ne : ∀ {ρ : List PV} {i j : Nat} {a : PV}, i ≠ j → nth (ρ.set i a) j = nth ρ j
  | [], _, _, _, _ => by simp
  | _ :: _, 0, 0, _, h => absurd rfl h
  | _ :: _, 0, j + 1, _, _ => rfl
  | _ :: _, i + 1, 0, _, _ => rfl
  | _ :: ρ, i + 1, j + 1, a, h => by simp [nth, nth_set_ne (ρ := ρ) (i := i) (j := j) (a := a) (by omega)]
theorem nth_out : ∀ {ρ : List PV} {i : Nat}, ρ.length ≤ i → nth ρ i = .emp
  | [], _, _ => rfl
  | _ :: _, 0, h => by simp at h
  | _ :: ρ, i + 1, h => by simp [nth, nth_out (ρ := ρ) (i := i) (by simpa using h)]
/-- a slot's item taken out, another put in its place -/
theorem its_set : ∀ {ρ : List PV} {σ : L2.St} {i : Nat} {a : PV} {v : V}, σ.length = ρ.length → i < ρ.length → ∃ A B, its ρ σ = A ++ (nth ρ i, (σ[i]?.getD none).getD .non) :: B ∧ its (ρ.set i a) (σ.set i (some v)) = A ++ (a, v) :: B
  | [], _, _, _, _, _, h => by simp at h
  | _ :: _, [], _, _, _, h, _ => by simp at h
  | x :: ρ, s :: σ, 0, a, v, h, _ => ⟨[], its ρ σ, by simp [its], by simp [its]⟩
  | x :: ρ, s :: σ, i + 1, a, v, h, hi => by
    obtain ⟨A, B, e1, e2⟩ := its_set (ρ := ρ) (σ := σ) (i := i) (a := a) (v := v) (by simpa using h) (by simpa using hi)
    refine ⟨(x, s.getD .non) :: A, B, ?_, ?_⟩
    · simp only [its, nth_succ, List.cons_append, List.getElem?_cons_succ]; rw [e1]
    · simp only [List.set_cons_succ, its, List.cons_append]; rw [e2]
theorem set_self : ∀ {σ : L2.St} {i : Nat} {s : Option V}, σ[i]? = some s → σ.set i s = σ
  | [], _, _, h => by simp at h
  | _ :: _, 0, _, h => by simp at h; simp [h]
  | _ :: σ, i + 1, s, h => by simp at h; simp [set_self h]
theorem Fits.lt {s0 : L2.St} {ρ : List PV} {σ : L2.St} {i : Nat} {v : V} (f : Fits s0 ρ σ) (e : σ[i]? = some (some v)) : i < ρ.length := by
  rw [← f.len]; exact (List.getElem?_eq_some_iff.mp e).1
section
variable {T : Tb} {H : Hp} {s0 : L2.St} {ρ : List PV} {σ : L2.St} {τ ε : Its} {i : Nat} {a : PV} {v : V}
/-- a slot's value exchanged for one that lies at the same place -/
theorem Hold.slot (h : Hold T H ((a, v) :: (its ρ σ ++ τ))) (f : Fits s0 ρ σ) (hi : i < ρ.length) : Hold T H (its (ρ.set i a) (σ.set i (some v)) ++ τ) := by
  obtain ⟨A, B, e1, e2⟩ := its_set (a := a) (v := v) f.len hi
  rw [e2]
  rw [e1] at h
  have : ((a, v) :: (A ++ (nth ρ i, (σ[i]?.getD none).getD .non) :: B ++ τ)).Perm ((nth ρ i, (σ[i]?.getD none).getD .non) :: (A ++ (a, v) :: B ++ τ)) := by
    simp only [List.append_assoc, List.cons_append]
    refine .trans (.cons _ List.perm_middle) (.trans (.swap ..) (.cons _ List.perm_middle.symm))
  exact (h.perm this).tail
/-- a slot's value, by itself -/
theorem Hold.slotOut (h : Hold T H (its ρ σ ++ τ)) (f : Fits s0 ρ σ) (e : σ[i]? = some (some v)) : Hold T H ((nth ρ i, v) :: (its (ρ.set i .emp) σ ++ τ)) := by
  have hi := f.lt e
  obtain ⟨A, B, e1, e2⟩ := its_set (a := .emp) (v := v) f.len hi
  rw [set_self e] at e2
  rw [e2]
  rw [e1, e] at h
  simp only [Option.getD_some] at h
  have h2 : Hold T H ((nth ρ i, v) :: (A ++ (B ++ τ))) := h.perm (by simp only [List.append_assoc, List.cons_append]; exact List.perm_middle)
  have h3 : Hold T H ((.emp, v) :: (nth ρ i, v) :: (A ++ (B ++ τ))) := h2.emp
  refine h3.perm ?_
  simp only [List.append_assoc, List.cons_append]
  exact .trans (.swap ..) (.cons _ List.perm_middle.symm)
theorem Hold.slotIn (h : Hold T H ((a, v) :: (its (ρ.set i .emp) σ ++ τ))) (f : Fits s0 ρ σ) (e : σ[i]? = some (some v)) : Hold T H (its (ρ.set i a) σ ++ τ) := by
  have hi := f.lt e
  have f2 : (ρ.set i PV.emp).length = ρ.length := by simp
  obtain ⟨A, B, e1, e2⟩ := its_set (ρ := ρ.set i .emp) (a := a) (v := v) (by rw [f2]; exact f.len) (by rw [f2]; exact hi)
  rw [set_self e, List.set_set] at e2
  rw [e2]
  rw [e1] at h
  have : ((a, v) :: (A ++ (nth (ρ.set i .emp) i, (σ[i]?.getD none).getD .non) :: B ++ τ)).Perm ((nth (ρ.set i .emp) i, (σ[i]?.getD none).getD .non) :: (A ++ (a, v) :: B ++ τ)) := by
    simp only [List.append_assoc, List.cons_append]
    refine .trans (.cons _ List.perm_middle) (.trans (.swap ..) (.cons _ List.perm_middle.symm))
  exact (h.perm this).tail
theorem Fits.set (f : Fits s0 ρ σ) (hi : (nth ρ i).isIo = false) (ha : a.isIo = false) : Fits s0 (ρ.set i a) (σ.set i (some v)) := by
  refine ⟨by simp [f.len], fun j hj => ?_, fun j hj => ?_⟩
  · by_cases e : i = j
    · subst e
      by_cases l : i < ρ.length
      · exact ⟨v, by rw [List.getElem?_set_self (by rw [f.len]; exact l)]⟩
      · rw [nth_out (by simp; omega)] at hj; cases hj
    · rw [nth_set_ne e] at hj
      rw [List.getElem?_set_ne e]
      exact f.has j hj
  · by_cases e : i = j
    · subst e
      by_cases l : i < ρ.length
      · rw [nth_set_same l] at hj; rw [ha] at hj; cases hj
      · rw [nth_out (by simp; omega)] at hj; cases hj
    · rw [nth_set_ne e] at hj
      rw [List.getElem?_set_ne e]
      exact f.io j hj
/-- the value in a slot is another, the place the same -/
theorem Fits.re (f : Fits s0 ρ σ) (e : σ[i]? = some (some v)) (ha : a.isIo = true → (nth ρ i).isIo = true) : Fits s0 (ρ.set i a) σ := by
  refine ⟨by simp [f.len], fun j hj => ?_, fun j hj => ?_⟩
  · by_cases c : i = j
    · subst c; exact ⟨v, e⟩
    · rw [nth_set_ne c] at hj; exact f.has j hj
  · by_cases c : i = j
    · subst c
      rw [nth_set_same (f.lt e)] at hj
      exact f.io i (ha hj)
    · rw [nth_set_ne c] at hj; exact f.io j hj
theorem mem_hv {h : Hd} (f : Fits s0 ρ σ) (c : ∀ i, h = .sl i → σ[i]? = some (some v)) : (hv ρ h, v) ∈ hit h v ++ (its ρ σ ++ τ) := by
  cases h with
  | sl i => exact List.mem_append_right _ (List.mem_append_left _ (its_mem f.len (c i rfl)))
  | tm a => exact List.mem_append_left _ (by simp [hit, hv])
end
structure G where
  T : Tb
  s0 : L2.St
  W : WX
def Post {α : Type} (g : G) (σ : L2.St) (τ : Its) (P : α → List PV → Prop) : R α → Prop
  | .ok a ρ => P a ρ
  | .exc c xs ρ => ∀ (d : Option Addr) (vs : List V) (H' : Hp), Fits g.s0 ρ σ → XAt g.T H' c d vs → vs.length = xs.length → Hold g.T H' (xs.zip vs ++ (its ρ σ ++ τ)) → g.W (.ref (g.T.ca c)) d σ H'
  | .stuck => False
def slotAt (σ : L2.St) (h : Hd) (v : V) : Prop := ∀ i, h = .sl i → σ[i]? = some (some v)
def PE1 (g : G) (σ : L2.St) (τ : Its) (Q : VK) (h : Hd) (ρ : List PV) : Prop := ∀ v H', Fits g.s0 ρ σ → slotAt σ h v → Hold g.T H' (hit h v ++ (its ρ σ ++ τ)) → Q v H'
def slotsAt (σ : L2.St) : List Hd → List V → Prop
  | [], vs => vs = []
  | h :: hs, vs => ∃ v vs', vs = v :: vs' ∧ slotAt σ h v ∧ slotsAt σ hs vs'
def PA1 (g : G) (σ : L2.St) (τ : Its) (Q : List V → Hp → Prop) (hs : List Hd) (ρ : List PV) : Prop := ∀ vs H', Fits g.s0 ρ σ → slotsAt σ hs vs → Hold g.T H' (hits hs vs ++ (its ρ σ ++ τ)) → Q vs H'
def PT1 (g : G) (σ : L2.St) (τ : Its) (Q : Bool → Hp → Prop) (b : Bool) (ρ : List PV) : Prop := ∀ H', Fits g.s0 ρ σ → Hold g.T H' (its ρ σ ++ τ) → Q b H'
/-- how a statement ends -/
inductive Fw where
  | nx | rt (a : PV) | bk | ct
def trE (g : G) (f : M Hd) : TE := fun σ H Q => ∃ ρ τ, Fits g.s0 ρ σ ∧ Hold g.T H (its ρ σ ++ τ) ∧ Post g σ τ (PE1 g σ τ Q) (f ρ)
def trA (g : G) (f : M (List Hd)) : TA := fun σ H Q => ∃ ρ τ, Fits g.s0 ρ σ ∧ Hold g.T H (its ρ σ ++ τ) ∧ Post g σ τ (PA1 g σ τ Q) (f ρ)
def trT (g : G) (f : M Bool) : TT := fun σ H Q => ∃ ρ τ, Fits g.s0 ρ σ ∧ Hold g.T H (its ρ σ ++ τ) ∧ Post g σ τ (PT1 g σ τ Q) (f ρ)
def PS1 (g : G) (τ : Its) (D : Ends) : R Fw → Prop
  | .ok .nx ρ => ∀ σ H', Fits g.s0 ρ σ → Hold g.T H' (its ρ σ ++ τ) → D.nx σ H'
  | .ok .bk ρ => ∀ σ H', Fits g.s0 ρ σ → Hold g.T H' (its ρ σ ++ τ) → D.bk σ H'
  | .ok .ct ρ => ∀ σ H', Fits g.s0 ρ σ → Hold g.T H' (its ρ σ ++ τ) → D.ct σ H'
  | .ok (.rt a) ρ => ∀ v σ H', Fits g.s0 ρ σ → Hold g.T H' ((a, v) :: (its ρ σ ++ τ)) → D.rt v H'
  | .exc c xs ρ => ∀ (d : Option Addr) (vs : List V) (σ : L2.St) (H' : Hp), Fits g.s0 ρ σ → XAt g.T H' c d vs → vs.length = xs.length → Hold g.T H' (xs.zip vs ++ (its ρ σ ++ τ)) → g.W (.ref (g.T.ca c)) d σ H'
  | .stuck => False
def trS (g : G) (f : M Fw) : TS := fun D σ H => ∃ ρ τ, Fits g.s0 ρ σ ∧ Hold g.T H (its ρ σ ++ τ) ∧ PS1 g τ D (f ρ)
abbrev EV (g : G) (X : Cx) (e : Expr) (f : M Hd) : Prop := PE X e (trE g f)
abbrev AV (g : G) (X : Cx) (es : List Expr) (f : M (List Hd)) : Prop := PA X es (trA g f)
abbrev TV (g : G) (X : Cx) (e : Expr) (f : M Bool) : Prop := PT X e (trT g f)
abbrev SV (g : G) (X : Cx) (st : Stmt) (f : M Fw) : Prop := PS X st (trS g f)
abbrev BV (g : G) (X : Cx) (st : List Stmt) (f : M Fw) : Prop := PSs X st (trS g f)
section
variable {g : G} {X : Cx} {e : Expr} {es : List Expr} {st : Stmt} {sts : List Stmt} {f : M Hd} {fs : M (List Hd)} {ft : M Bool} {fw : M Fw} {α : Type}
theorem ev_of {t : TE} (h : PE X e t) (q : ∀ σ H Q ρ τ, Fits g.s0 ρ σ → Hold g.T H (its ρ σ ++ τ) → Post g σ τ (PE1 g σ τ Q) (f ρ) → t σ H Q) : EV g X e f :=
  ⟨fun pins s σ H Q I ⟨ρ, τ, h1, h2, h3⟩ => h.run pins s σ H Q I (q σ H Q ρ τ h1 h2 h3)⟩
theorem av_of {t : TA} (h : PA X es t) (q : ∀ σ H Q ρ τ, Fits g.s0 ρ σ → Hold g.T H (its ρ σ ++ τ) → Post g σ τ (PA1 g σ τ Q) (fs ρ) → t σ H Q) : AV g X es fs :=
  ⟨fun pos pins s σ H Q I ⟨ρ, τ, h1, h2, h3⟩ => h.run pos pins s σ H Q I (q σ H Q ρ τ h1 h2 h3)⟩
theorem tv_of {t : TT} (h : PT X e t) (q : ∀ σ H Q ρ τ, Fits g.s0 ρ σ → Hold g.T H (its ρ σ ++ τ) → Post g σ τ (PT1 g σ τ Q) (ft ρ) → t σ H Q) : TV g X e ft :=
  ⟨fun pins s σ H Q I ⟨ρ, τ, h1, h2, h3⟩ => h.run pins s σ H Q I (q σ H Q ρ τ h1 h2 h3)⟩
theorem sv_of {t : TS} (h : PS X st t) (q : ∀ D σ H ρ τ, Fits g.s0 ρ σ → Hold g.T H (its ρ σ ++ τ) → PS1 g τ D (fw ρ) → t D σ H) : SV g X st fw :=
  ⟨fun pins s σ H D I ⟨ρ, τ, h1, h2, h3⟩ => h.run pins s σ H D I (q D σ H ρ τ h1 h2 h3)⟩
theorem bv_of {t : TS} (h : PSs X sts t) (q : ∀ D σ H ρ τ, Fits g.s0 ρ σ → Hold g.T H (its ρ σ ++ τ) → PS1 g τ D (fw ρ) → t D σ H) : BV g X sts fw :=
  ⟨fun pins s σ H D I ⟨ρ, τ, h1, h2, h3⟩ => h.run pins s σ H D I (q D σ H ρ τ h1 h2 h3)⟩
variable {σ : L2.St} {H : Hp} {ρ : List PV} {τ ε : Its}
theorem exc_more {β γ : Type} {P : β → List PV → Prop} {P' : γ → List PV → Prop} {c : String} {xs ρ : List PV} (h : Post g σ τ P (.exc c xs ρ)) : Post g σ (ε ++ τ) P' (.exc c xs ρ) := by
  intro d vs H' ft hx hl hh
  refine h d vs H' ft hx hl (hh.sub ?_)
  exact List.Sublist.append_left (List.Sublist.append_left (List.sublist_append_right ..) _) _
/-- ahead of the rest k an expression -/
theorem stepE {P : α → List PV → Prop} {k : Hd → M α} {Q' : VK} (fit : Fits g.s0 ρ σ) (hold : Hold g.T H (its ρ σ ++ (ε ++ τ))) (hP : Post g σ τ P ((f ρ).bind k))
    (hk : ∀ h ρ1, Post g σ τ P (k h ρ1) → ∀ v H1, Fits g.s0 ρ1 σ → slotAt σ h v → Hold g.T H1 (hit h v ++ (its ρ1 σ ++ (ε ++ τ))) → Q' v H1) : trE g f σ H Q' := by
  refine ⟨ρ, ε ++ τ, fit, hold, ?_⟩
  cases e : f ρ with
  | ok h ρ1 => rw [e] at hP; exact hk h ρ1 hP
  | exc c xs ρ1 => rw [e] at hP; exact exc_more hP
  | stuck => rw [e] at hP; exact hP
theorem stepA {P : α → List PV → Prop} {k : List Hd → M α} {Q' : List V → Hp → Prop} (fit : Fits g.s0 ρ σ) (hold : Hold g.T H (its ρ σ ++ (ε ++ τ))) (hP : Post g σ τ P ((fs ρ).bind k))
    (hk : ∀ hs ρ1, Post g σ τ P (k hs ρ1) → ∀ vs H1, Fits g.s0 ρ1 σ → slotsAt σ hs vs → Hold g.T H1 (hits hs vs ++ (its ρ1 σ ++ (ε ++ τ))) → Q' vs H1) : trA g fs σ H Q' := by
  refine ⟨ρ, ε ++ τ, fit, hold, ?_⟩
  cases e : fs ρ with
  | ok h ρ1 => rw [e] at hP; exact hk h ρ1 hP
  | exc c xs ρ1 => rw [e] at hP; exact exc_more hP
  | stuck => rw [e] at hP; exact hP
theorem stepT {P : α → List PV → Prop} {k : Bool → M α} {Q' : Bool → Hp → Prop} (fit : Fits g.s0 ρ σ) (hold : Hold g.T H (its ρ σ ++ (ε ++ τ))) (hP : Post g σ τ P ((ft ρ).bind k))
    (hk : ∀ b ρ1, Post g σ τ P (k b ρ1) → ∀ H1, Fits g.s0 ρ1 σ → Hold g.T H1 (its ρ1 σ ++ (ε ++ τ)) → Q' b H1) : trT g ft σ H Q' := by
  refine ⟨ρ, ε ++ τ, fit, hold, ?_⟩
  cases e : ft ρ with
  | ok h ρ1 => rw [e] at hP; exact hk h ρ1 hP
  | exc c xs ρ1 => rw [e] at hP; exact exc_more hP
  | stuck => rw [e] at hP; exact hP
theorem stepES {k : Hd → M Fw} {D : Ends} {Q' : VK} (fit : Fits g.s0 ρ σ) (hold : Hold g.T H (its ρ σ ++ τ)) (hP : PS1 g τ D ((f ρ).bind k))
    (hk : ∀ h ρ1, PS1 g τ D (k h ρ1) → ∀ v H1, Fits g.s0 ρ1 σ → slotAt σ h v → Hold g.T H1 (hit h v ++ (its ρ1 σ ++ τ)) → Q' v H1) : trE g f σ H Q' := by
  refine ⟨ρ, τ, fit, hold, ?_⟩
  cases e : f ρ with
  | ok h ρ1 => rw [e] at hP; exact hk h ρ1 hP
  | exc c xs ρ1 => rw [e] at hP; exact fun d vs H' => hP d vs σ H'
  | stuck => rw [e] at hP; exact hP
theorem stepAS {k : List Hd → M Fw} {D : Ends} {Q' : List V → Hp → Prop} (fit : Fits g.s0 ρ σ) (hold : Hold g.T H (its ρ σ ++ τ)) (hP : PS1 g τ D ((fs ρ).bind k))
    (hk : ∀ h ρ1, PS1 g τ D (k h ρ1) → ∀ vs H1, Fits g.s0 ρ1 σ → slotsAt σ h vs → Hold g.T H1 (hits h vs ++ (its ρ1 σ ++ τ)) → Q' vs H1) : trA g fs σ H Q' := by
  refine ⟨ρ, τ, fit, hold, ?_⟩
  cases e : fs ρ with
  | ok h ρ1 => rw [e] at hP; exact hk h ρ1 hP
  | exc c xs ρ1 => rw [e] at hP; exact fun d vs H' => hP d vs σ H'
  | stuck => rw [e] at hP; exact hP
theorem stepTS {k : Bool → M Fw} {D : Ends} {Q' : Bool → Hp → Prop} (fit : Fits g.s0 ρ σ) (hold : Hold g.T H (its ρ σ ++ τ)) (hP : PS1 g τ D ((ft ρ).bind k))
    (hk : ∀ b ρ1, PS1 g τ D (k b ρ1) → ∀ H1, Fits g.s0 ρ1 σ → Hold g.T H1 (its ρ1 σ ++ τ) → Q' b H1) : trT g ft σ H Q' := by
  refine ⟨ρ, τ, fit, hold, ?_⟩
  cases e : ft ρ with
  | ok h ρ1 => rw [e] at hP; exact hk h ρ1 hP
  | exc c xs ρ1 => rw [e] at hP; exact fun d vs H' => hP d vs σ H'
  | stuck => rw [e] at hP; exact hP
end
end VL
set_option Elab.async false
set_option linter.all false
set_option maxRecDepth 100000
namespace VL
open PySem PySem.Spec PyProof.Rows L2
/-- two lists with the same counts -/
theorem permc {l m : Its} (h : ∀ (i : BEq (PV × V)) (x : PV × V), l.count x = m.count x) : l.Perm m := by
  have d : DecidableEq (PV × V) := fun a b => Classical.propDecidable (a = b)
  exact (@List.perm_iff_count (PV × V) (@instBEqOfDecidableEq _ d) (by exact @instLawfulBEq _ d) l m).mpr fun x => h _ x
def lim : Nat := 100000
theorem lim_le {n : Nat} (h : n ≤ lim) : n ≤ sizeLine := My.small h
theorem lim_lt {n : Nat} (h : n < lim) : n < sizeLine := My.smallLt (Nat.le_of_lt h)
section
variable {T : Tb} {H : Hp} {s0 : L2.St} {ρ ρ' : List PV} {σ : L2.St} {τ l : Its} {a : PV} {v : V} {h : Hd}
theorem mem_of (f : Fits s0 ρ σ) (c : slotAt σ h v) (h1 : ∀ x ∈ its ρ σ, x ∈ l) (h2 : ∀ x ∈ hit h v, x ∈ l) : (hv ρ h, v) ∈ l := by
  cases h with
  | sl i => exact h1 _ (its_mem f.len (c i rfl))
  | tm a => exact h2 _ (by simp [hit, hv])
theorem slot_tm : slotAt σ (.tm a) v := fun _ e => nomatch e
theorem mems_of : ∀ {hs : List Hd} {vs : List V}, Fits s0 ρ σ → slotsAt σ hs vs → (∀ x ∈ its ρ σ, x ∈ l) → (∀ x ∈ hits hs vs, x ∈ l) → vs.length = (hs.map (hv ρ)).length ∧ ∀ x ∈ (hs.map (hv ρ)).zip vs, x ∈ l
  | [], _, _, c, _, _ => by
    have c : _ = [] := c
    subst c
    simp
  | h :: hs, _, f, c, h1, h2 => by
    obtain ⟨v, vs', rfl, c1, c2⟩ := c
    obtain ⟨q1, q2⟩ := mems_of (hs := hs) (vs := vs') f c2 h1 fun x hx => h2 x (by simp only [hits]; exact List.mem_append_right _ hx)
    refine ⟨by simpa using q1, fun x hx => ?_⟩
    rw [List.map_cons, List.zip_cons_cons] at hx
    rcases List.mem_cons.mp hx with rfl | hx
    · exact mem_of f c1 h1 fun x hx => h2 x (by simp only [hits]; exact List.mem_append_left _ hx)
    · exact q2 x hx
end
def fzOf : PV → Option PV
  | .emp => none
  | .lst .io _ | .dK .io _ _ | .dN .io _ _ | .obj .io _ _ | .err _ _ _ => none
  | .lst _ xs => some (.lst .fz xs)
  | .dK _ ks xs => some (.dK .fz ks xs)
  | .dN _ ks xs => some (.dN .fz ks xs)
  | .obj _ c xs => some (.obj .fz c xs)
  | a => some a
theorem fzOf_eq {a b : PV} (h : fzOf a = some b) : b = a.setFl .fz ∧ a.isEmp = false ∧ b.own = false ∧ b.isIo = false ∧ b.isEmp = false := by
  cases a with
  | emp => cases h
  | lst o _ => cases o <;> first | cases h; exact ⟨rfl, rfl, rfl, rfl, rfl⟩ | cases h
  | dK o _ _ => cases o <;> first | cases h; exact ⟨rfl, rfl, rfl, rfl, rfl⟩ | cases h
  | dN o _ _ => cases o <;> first | cases h; exact ⟨rfl, rfl, rfl, rfl, rfl⟩ | cases h
  | obj o _ _ => cases o <;> first | cases h; exact ⟨rfl, rfl, rfl, rfl, rfl⟩ | cases h
  | err _ _ _ => cases h
  | _ => cases h; exact ⟨rfl, rfl, rfl, rfl, rfl⟩
theorem setFl_own (a : PV) : (a.setFl .fz).own = false := by cases a <;> rfl
def take (ρ : List PV) : Hd → Option (PV × List PV)
  | .tm a => some (a.setFl .fz, ρ)
  | .sl i => match fzOf (nth ρ i) with
    | some a => some (a, ρ.set i a)
    | none => none
def takes : List Hd → List PV → Option (List PV × List PV)
  | [], ρ => some ([], ρ)
  | h :: hs, ρ => match take ρ h with
    | some (a, ρ1) => match takes hs ρ1 with
      | some (as, ρ2) => some (a :: as, ρ2)
      | none => none
    | none => none
section
variable {T : Tb} {H : Hp} {s0 : L2.St} {ρ ρ' : List PV} {σ : L2.St} {τ l : Its} {a : PV} {v : V} {h : Hd}
theorem take_ok (f : Fits s0 ρ σ) (c : slotAt σ h v) (hh : Hold T H (hit h v ++ (its ρ σ ++ τ))) (e : take ρ h = some (a, ρ')) : Fits s0 ρ' σ ∧ a.own = false ∧ Hold T H ((a, v) :: (its ρ' σ ++ τ)) := by
  cases h with
  | tm b =>
    simp only [take, Option.some.injEq, Prod.mk.injEq] at e
    obtain ⟨rfl, rfl⟩ := e
    exact ⟨f, setFl_own b, Hold.freeze (by simpa [hit] using hh)⟩
  | sl i =>
    simp only [take] at e
    cases q : fzOf (nth ρ i) with
    | none => rw [q] at e; cases e
    | some b =>
      rw [q] at e
      simp only [Option.some.injEq, Prod.mk.injEq] at e
      obtain ⟨rfl, rfl⟩ := e
      obtain ⟨rfl, e1, e2, e3, e4⟩ := fzOf_eq q
      have ci := c i rfl
      have hh : Hold T H (its ρ σ ++ τ) := by simpa [hit] using hh
      have h1 := (hh.slotOut f ci).freeze
      have h2 := h1.slotIn f ci
      have f2 : Fits s0 (ρ.set i ((nth ρ i).setFl .fz)) σ := f.re ci fun z => by rw [e3] at z; cases z
      refine ⟨f2, e2, h2.dup (List.mem_append_left _ ?_) e2⟩
      have := its_mem f2.len ci
      rw [nth_set_same (f.lt ci)] at this
      exact this
theorem takes_ok : ∀ {hs : List Hd} {vs : List V} {ρ ρ' : List PV} {as : List PV} {τ : Its}, Fits s0 ρ σ → slotsAt σ hs vs → Hold T H (hits hs vs ++ (its ρ σ ++ τ)) → takes hs ρ = some (as, ρ') →
    Fits s0 ρ' σ ∧ vs.length = as.length ∧ (∀ a ∈ as, a.own = false) ∧ Hold T H (as.zip vs ++ (its ρ' σ ++ τ))
  | [], _, ρ, ρ', as, τ, f, c, hh, e => by
    have c : _ = [] := c
    subst c
    simp only [takes, Option.some.injEq, Prod.mk.injEq] at e
    obtain ⟨rfl, rfl⟩ := e
    exact ⟨f, rfl, (fun _ z => by cases z), by simpa [hits] using hh⟩
  | h :: hs, _, ρ, ρ', as, τ, f, c, hh, e => by
    obtain ⟨v, vs', rfl, c1, c2⟩ := c
    simp only [takes] at e
    cases q : take ρ h with
    | none => rw [q] at e; cases e
    | some p =>
      obtain ⟨a, ρ1⟩ := p
      rw [q] at e
      simp only at e
      cases q2 : takes hs ρ1 with
      | none => rw [q2] at e; cases e
      | some p2 =>
        obtain ⟨bs, ρ2⟩ := p2
        rw [q2] at e
        simp only [Option.some.injEq, Prod.mk.injEq] at e
        obtain ⟨rfl, rfl⟩ := e
        simp only [hits, List.append_assoc] at hh
        have hh1 : Hold T H (hit h v ++ (its ρ σ ++ (hits hs vs' ++ τ))) := hh.perm (List.Perm.append_left _ (by
          rw [← List.append_assoc, ← List.append_assoc]; exact List.Perm.append_right _ List.perm_append_comm))
        obtain ⟨f1, o1, k1⟩ := take_ok f c1 hh1 q
        have k2 : Hold T H (hits hs vs' ++ (its ρ1 σ ++ ((a, v) :: τ))) := k1.perm (permc fun _ x => by simp only [List.count_append, List.count_cons]; omega)
        obtain ⟨f2, l2, o2, k3⟩ := takes_ok f1 c2 k2 q2
        refine ⟨f2, by simp [l2], fun x hx => ?_, ?_⟩
        · rcases List.mem_cons.mp hx with rfl | hx
          · exact o1
          · exact o2 x hx
        · rw [List.zip_cons_cons, List.cons_append]
          refine k3.perm (.trans (List.Perm.append_left _ List.perm_middle) List.perm_middle)
end
theorem reps_of {T : Tb} {H F : Hp} {l : Its} : ∀ {as : List PV} {vs : List V}, vs.length = as.length → (∀ a ∈ as, a.own = false) → (∀ x ∈ as.zip vs, x ∈ l) → (∀ x ∈ l, Own T H F x.1 x.2) → Reps T F as vs
  | [], [], _, _, _, _ => .nil
  | [], _ :: _, h, _, _, _ => by simp at h
  | _ :: _, [], h, _, _, _ => by simp at h
  | a :: as, v :: vs, h, o, m, q => .cons ((Own.fz (o a List.mem_cons_self)).mp (q (a, v) (m _ (by simp)))) (o a List.mem_cons_self)
      (reps_of (by simpa using h) (fun b hb => o b (List.mem_cons_of_mem _ hb)) (fun x hx => m x (by rw [List.zip_cons_cons]; exact List.mem_cons_of_mem _ hx)) q)
def ofO (ρ : List PV) : Option PV → R Hd
  | some c => .ok (.tm c) ρ
  | none => .stuck
@[simp] theorem ofO_some (ρ : List PV) (c : PV) : ofO ρ (some c) = .ok (.tm c) ρ := rfl
@[simp] theorem ofO_none (ρ : List PV) : ofO ρ none = .stuck := rfl
def eN (i : Nat) : M Hd := fun ρ => if (nth ρ i).isEmp = true then .stuck else .ok (.sl i) ρ
def eC (a : PV) : M Hd := fun ρ => .ok (.tm a) ρ
def eBin (op : PV → PV → Option PV) (fa fb : M Hd) : M Hd := fun ρ => (fa ρ).bind fun h1 ρ1 => (fb ρ1).bind fun h2 ρ2 => ofO ρ2 (op (hv ρ2 h1) (hv ρ2 h2))
def eUn (op : PV → Option PV) (fa : M Hd) : M Hd := fun ρ => (fa ρ).bind fun h ρ1 => ofO ρ1 (op (hv ρ1 h))
def tru : PV → Option Bool
  | .non => some false
  | .bl b => some b
  | .int i => some (i != 0)
  | .str x => if x.length ≤ lim then some ((x.length : Int) != 0) else none
  | .tup xs => some (!xs.isEmpty)
  | .lst _ xs => some (!xs.isEmpty)
  | _ => none
def ofB (ρ : List PV) : Option Bool → R Bool
  | some c => .ok c ρ
  | none => .stuck
@[simp] theorem ofB_some (ρ : List PV) (c : Bool) : ofB ρ (some c) = .ok c ρ := rfl
@[simp] theorem ofB_none (ρ : List PV) : ofB ρ none = .stuck := rfl
/-- an expression as a test -/
def tE (fa : M Hd) : M Bool := fun ρ => (fa ρ).bind fun h ρ1 => ofB ρ1 (tru (hv ρ1 h))
def blOf : PV → Option Bool
  | .bl b => some b
  | _ => none
def tB (fa : M Hd) : M Bool := fun ρ => (fa ρ).bind fun h ρ1 => ofB ρ1 (blOf (hv ρ1 h))
def tAnd (ta tb : M Bool) : M Bool := fun ρ => (ta ρ).bind fun b ρ1 => if b = true then tb ρ1 else .ok false ρ1
def tOr (ta tb : M Bool) : M Bool := fun ρ => (ta ρ).bind fun b ρ1 => if b = true then .ok true ρ1 else tb ρ1
def tNot (ta : M Bool) : M Bool := fun ρ => (ta ρ).bind fun b ρ1 => .ok (!b) ρ1
def eAnd (fa fb : M Hd) : M Hd := fun ρ => (fa ρ).bind fun h ρ1 => (ofB ρ1 (blOf (hv ρ1 h))).bind fun b ρ2 => if b = true then fb ρ2 else .ok (.tm (.bl false)) ρ2
def eOr (fa fb : M Hd) : M Hd := fun ρ => (fa ρ).bind fun h ρ1 => (ofB ρ1 (blOf (hv ρ1 h))).bind fun b ρ2 => if b = true then .ok (.tm (.bl true)) ρ2 else fb ρ2
def eNot (fa : M Hd) : M Hd := fun ρ => (fa ρ).bind fun h ρ1 => (ofB ρ1 (blOf (hv ρ1 h))).bind fun b ρ2 => .ok (.tm (.bl (!b))) ρ2
def eIf (tc : M Bool) (fa fb : M Hd) : M Hd := fun ρ => (tc ρ).bind fun b ρ1 => if b = true then fa ρ1 else fb ρ1
def aNil : M (List Hd) := fun ρ => .ok [] ρ
def aCons (fa : M Hd) (fs : M (List Hd)) : M (List Hd) := fun ρ => (fa ρ).bind fun h ρ1 => (fs ρ1).bind fun hs ρ2 => .ok (h :: hs) ρ2
def eTup (fs : M (List Hd)) : M Hd := fun ρ => (fs ρ).bind fun hs ρ1 => match takes hs ρ1 with
  | some (as, ρ2) => if as.length ≤ lim then .ok (.tm (.tup as)) ρ2 else .stuck
  | none => .stuck
def eLst (fs : M (List Hd)) : M Hd := fun ρ => (fs ρ).bind fun hs ρ1 => match takes hs ρ1 with
  | some (as, ρ2) => if as.length ≤ lim then .ok (.tm (.lst .ow as)) ρ2 else .stuck
  | none => .stuck
/-- a call of what is built in -/
def eFn (op : List PV → Option PV) (fs : M (List Hd)) : M Hd := fun ρ => (fs ρ).bind fun hs ρ1 => ofO ρ1 (op (hs.map (hv ρ1)))
/-- chained comparisons -/
def eCh (op op' : PV → PV → Option PV) (fa fb fc : M Hd) : M Hd := fun ρ => (fa ρ).bind fun h1 ρ1 => (fb ρ1).bind fun h2 ρ2 => (ofB ρ2 ((op (hv ρ2 h1) (hv ρ2 h2)).bind blOf)).bind fun b ρ3 =>
  if b = true then (fc ρ3).bind fun h3 ρ4 => ofO ρ4 (op' (hv ρ4 h2) (hv ρ4 h3)) else .ok (.tm (.bl false)) ρ3
def Opv (T : Tb) (g : PV → PV → Option PV) (r : R2) : Prop := ∀ (H : Hp) (l : Its) (a b c : PV) (v w : V) (Q : VK), Hold T H l → (a, v) ∈ l → (b, w) ∈ l → g a b = some c → (∀ z H', Hold T H' ((c, z) :: l) → Q z H') → r v w H Q
def Unv (T : Tb) (g : PV → Option PV) (r : V → Hp → VK → Prop) : Prop := ∀ (H : Hp) (l : Its) (a c : PV) (v : V) (Q : VK), Hold T H l → (a, v) ∈ l → g a = some c → (∀ z H', Hold T H' ((c, z) :: l) → Q z H') → r v H Q
def Fnv (T : Tb) (g : List PV → Option PV) (r : List V → Hp → VK → Prop) : Prop := ∀ (H : Hp) (l : Its) (as : List PV) (c : PV) (vs : List V) (Q : VK), Hold T H l → vs.length = as.length → (∀ x ∈ as.zip vs, x ∈ l) → g as = some c → (∀ z H', Hold T H' ((c, z) :: l) → Q z H') → r vs H Q
section
variable {g : G} {X : Cx} {a b c : Expr} {es : List Expr} {fa fb fc : M Hd} {fs : M (List Hd)} {ta tb tc : M Bool} {pos : Pos} {op op' : PV → PV → Option PV} {r r' : R2}
theorem ev_name {i : Nat} {x : Str} (hN : X.N[i]? = some x) (hv : Vis X.env.scope x) (hd : (x == ("__debug__" : Str)) = false := by decide) (hcd : (x == ("__classdict__" : Str)) = false := by decide) : EV g X (.Name x pos) (eN i) :=
  ev_of (pe_var hN hv hd hcd) fun σ H Q ρ τ f h hP => by
    unfold eN at hP
    cases e : (nth ρ i).isEmp with
    | true => rw [e] at hP; exact hP.elim
    | false =>
      rw [e] at hP
      obtain ⟨v, hv⟩ := f.has i e
      exact ⟨v, hv, hP v H f (fun j z => by cases z; exact hv) (by simpa [hit] using h)⟩
theorem ev_int {i : Int} {j} : EV g X (.Constant (.int i) j pos) (eC (.int i)) := ev_of pe_int fun σ H Q ρ τ f h hP => hP (.int i) H f slot_tm h.int
theorem ev_bl {i : Bool} {j} : EV g X (.Constant (.bool i) j pos) (eC (.bl i)) := ev_of pe_bl fun σ H Q ρ τ f h hP => hP (.bl i) H f slot_tm h.bl
theorem ev_non {j} : EV g X (.Constant .none j pos) (eC .non) := ev_of pe_non fun σ H Q ρ τ f h hP => hP .non H f slot_tm h.non
theorem ev_str {x : Str} {j} : EV g X (.Constant (.str x) j pos) (eC (.str x)) := ev_of pe_str fun σ H Q ρ τ f h hP => hP (.str x) H f slot_tm h.str
theorem ev_globI {i : Int} {x : Str} (hg : Gl X x) (h : ∃ t, X.mg x = some (.int i t)) (hd : (x == ("__debug__" : Str)) = false := by decide) : EV g X (.Name x pos) (eC (.int i)) := ev_of (My.pe_globI hg h hd) fun σ H Q ρ τ f h hP => hP (.int i) H f slot_tm h.int
theorem nilT {ρ : List PV} {σ : L2.St} {τ : Its} {T : Tb} {H : Hp} (h : Hold T H (its ρ σ ++ τ)) : Hold T H (its ρ σ ++ ([] ++ τ)) := by simpa using h
/-- the item on top, then slots, then the rest -/
theorem mid {A B C : Its} {T : Tb} {H : Hp} (h : Hold T H (A ++ (B ++ C))) : Hold T H (B ++ (A ++ C)) := h.perm (by
  rw [← List.append_assoc, ← List.append_assoc]; exact List.Perm.append_right _ List.perm_append_comm)
/-- two operands -/
theorem two {α : Type} {P : α → List PV → Prop} {k : Hd → Hd → M α} {σ : L2.St} {H : Hp} {ρ : List PV} {τ : Its} {R' : V → V → Hp → Prop} (f : Fits g.s0 ρ σ) (h : Hold g.T H (its ρ σ ++ τ)) (hP : Post g σ τ P ((fa ρ).bind fun h1 ρ1 => (fb ρ1).bind fun h2 ρ2 => k h1 h2 ρ2))
    (hk : ∀ h1 h2 ρ2, Post g σ τ P (k h1 h2 ρ2) → ∀ v w H2 (l : Its), Fits g.s0 ρ2 σ → slotAt σ h1 v → slotAt σ h2 w → l = hit h2 w ++ (its ρ2 σ ++ (hit h1 v ++ τ)) → Hold g.T H2 l → (hv ρ2 h1, v) ∈ l → (hv ρ2 h2, w) ∈ l → (∀ c z H3, Hold g.T H3 ((c, z) :: l) → Hold g.T H3 ((c, z) :: (its ρ2 σ ++ τ))) → R' v w H2) :
    trE g fa σ H fun v H1 => trE g fb σ H1 fun w H2 => R' v w H2 := by
  refine stepE (ε := []) f (nilT h) hP fun h1 ρ1 hP1 v H1 f1 s1 k1 => ?_
  refine stepE (ε := hit h1 v) f1 (by rw [List.nil_append] at k1; exact mid k1) hP1 fun h2 ρ2 hP2 w H2 f2 s2 k2 => ?_
  refine hk h1 h2 ρ2 hP2 v w H2 _ f2 s1 s2 rfl k2 (mem_of f2 s1 (fun x hx => by simp [hx]) fun x hx => by simp [hx]) (mem_of f2 s2 (fun x hx => by simp [hx]) fun x hx => by simp [hx]) fun c z H3 k => ?_
  exact k.sub (.cons_cons _ (.trans (List.Sublist.append_left (List.sublist_append_right ..) _) (List.sublist_append_right ..)))
theorem ev_op {o : Operator} (ho : OpR X (binaryOp o) r) (hg : Opv g.T op r) (ha : EV g X a fa) (hb : EV g X b fb) : EV g X (.BinOp a o b pos) (eBin op fa fb) :=
  ev_of (pe_op ho ha hb) fun σ H Q ρ τ f h hP => two f h hP fun h1 h2 ρ2 hP2 v w H2 l f2 s1 s2 el k m1 m2 dn => by
    cases e : op (hv ρ2 h1) (hv ρ2 h2) with
    | none => rw [e] at hP2; exact hP2.elim
    | some c =>
      rw [e] at hP2
      exact hg H2 l _ _ c v w Q k m1 m2 e fun z H' k' => hP2 z H' f2 slot_tm (dn c z H' k')
theorem ev_cmp {o : CmpOp} (ho : OpR X (compareOp o) r) (hg : Opv g.T op r) (ha : EV g X a fa) (hb : EV g X b fb) (hm : behindInMarks o b = false := by first | exact nomark _ | rfl) : EV g X (.Compare a [o] [b] pos) (eBin op fa fb) :=
  ev_of (pe_cmpR ho ha hb hm) fun σ H Q ρ τ f h hP => two f h hP fun h1 h2 ρ2 hP2 v w H2 l f2 s1 s2 el k m1 m2 dn => by
    cases e : op (hv ρ2 h1) (hv ρ2 h2) with
    | none => rw [e] at hP2; exact hP2.elim
    | some c =>
      rw [e] at hP2
      exact hg H2 l _ _ c v w Q k m1 m2 e fun z H' k' => hP2 z H' f2 slot_tm (dn c z H' k')
theorem tv_cmp {o : CmpOp} (ho : OpR X (compareOp o) r) (hg : Opv g.T op r) (ha : EV g X a fa) (hb : EV g X b fb) (hm : behindInMarks o b = false := by first | exact nomark _ | rfl) : TV g X (.Compare a [o] [b] pos) (tB (eBin op fa fb)) :=
  tv_of (pt_cmpR ho ha hb hm) fun σ H Q ρ τ f h hP => two (k := fun h1 h2 ρ2 => (ofO ρ2 (op (hv ρ2 h1) (hv ρ2 h2))).bind fun h ρ1 => ofB ρ1 (blOf (hv ρ1 h))) f h (by
      have e : tB (eBin op fa fb) ρ = (fa ρ).bind fun h1 ρ1 => (fb ρ1).bind fun h2 ρ2 => (ofO ρ2 (op (hv ρ2 h1) (hv ρ2 h2))).bind fun h ρ1 => ofB ρ1 (blOf (hv ρ1 h)) := by
        unfold tB eBin
        cases fa ρ with
        | ok h1 ρ1 => simp only [R.bind_ok]; cases fb ρ1 <;> rfl
        | _ => rfl
      rw [e] at hP; exact hP) fun h1 h2 ρ2 hP2 v w H2 l f2 s1 s2 el k m1 m2 dn => by
    cases e : op (hv ρ2 h1) (hv ρ2 h2) with
    | none => rw [e] at hP2; exact hP2.elim
    | some c =>
      rw [e] at hP2
      refine hg H2 l _ _ c v w _ k m1 m2 e fun z H' k' => ?_
      simp only [ofO_some, R.bind_ok, hv_tm] at hP2
      cases c with
      | bl x =>
        have ez := k'.g_bl (b := x) (v := z) List.mem_cons_self
        exact ⟨x, ez, hP2 H' f2 (dn _ z H' k').tail⟩
      | _ => exact hP2.elim
theorem ev_un {o : UnaryOp} {ro : V → Hp → VK → Prop} {opu : PV → Option PV} (ho : UnR X (unaryOp o) ro) (hg : Unv g.T opu ro) (ha : EV g X a fa) : EV g X (.UnaryOp o a pos) (eUn opu fa) :=
  ev_of (pe_un ho ha) fun σ H Q ρ τ f h hP => stepE (ε := []) f (nilT h) hP fun h1 ρ1 hP1 v H1 f1 s1 k1 => by
    cases e : opu (hv ρ1 h1) with
    | none => rw [e] at hP1; exact hP1.elim
    | some c =>
      rw [e] at hP1
      rw [List.nil_append] at k1
      exact hg H1 _ _ c v Q k1 (mem_hv f1 s1) e fun z H' k' => hP1 z H' f1 slot_tm (k'.sub (.cons_cons _ (List.sublist_append_right ..)))
theorem ev_fn {id : String} {x : Str} {e : Expr} {p : Pos} {opf : List PV → Option PV} {rf : List V → Hp → VK → Prop} (hc : CallR X (.builtin id) rf) (hf : Fnv g.T opf rf) (hg : Gl X x) (hm : X.mg x = none) (hv' : bootBuiltins x = some (.builtin id)) (ha : AV g X (e :: es) fs) (hn : x ≠ "__name__" := by decide) (hdb : (x == ("__debug__" : Str)) = false := by decide)
    (h1 : starEach (e :: es) X.env = (false, eval e X.env) :: starEach es X.env := by rfl) (h2 : (backTo pos (starEach es X.env)).any (·.1) = false := by rfl) : EV g X (.Call (.Name x p) (e :: es) [] pos) (eFn opf fs) :=
  ev_of (pe_callB hc hg hm hv' ha hn hdb h1 h2) fun σ H Q ρ τ f h hP => stepA (ε := []) f (nilT h) hP fun hs ρ1 hP1 vs H1 f1 s1 k1 => by
    cases e : opf (hs.map (hv ρ1)) with
    | none => rw [e] at hP1; exact hP1.elim
    | some c =>
      rw [e] at hP1
      rw [List.nil_append] at k1
      obtain ⟨q1, q2⟩ := mems_of (l := hits hs vs ++ (its ρ1 σ ++ τ)) f1 s1 (fun x hx => by simp [hx]) fun x hx => by simp [hx]
      exact hf H1 _ _ c vs Q k1 q1 q2 e fun z H' k' => hP1 z H' f1 slot_tm (k'.sub (.cons_cons _ (List.sublist_append_right ..)))
theorem ev_ty {id : String} {x : Str} {e : Expr} {p : Pos} {opf : List PV → Option PV} {rf : List V → Hp → VK → Prop} (hc : CallR X (.type id) rf) (hf : Fnv g.T opf rf) (hg : Gl X x) (hm : X.mg x = none) (hv' : bootBuiltins x = some (.type id)) (ha : AV g X (e :: es) fs) (hn : x ≠ "__name__" := by decide) (hdb : (x == ("__debug__" : Str)) = false := by decide)
    (h1 : starEach (e :: es) X.env = (false, eval e X.env) :: starEach es X.env := by rfl) (h2 : (backTo pos (starEach es X.env)).any (·.1) = false := by rfl) : EV g X (.Call (.Name x p) (e :: es) [] pos) (eFn opf fs) :=
  ev_of (pe_callTy hc hg hm hv' ha hn hdb h1 h2) fun σ H Q ρ τ f h hP => stepA (ε := []) f (nilT h) hP fun hs ρ1 hP1 vs H1 f1 s1 k1 => by
    cases e : opf (hs.map (hv ρ1)) with
    | none => rw [e] at hP1; exact hP1.elim
    | some c =>
      rw [e] at hP1
      rw [List.nil_append] at k1
      obtain ⟨q1, q2⟩ := mems_of (l := hits hs vs ++ (its ρ1 σ ++ τ)) f1 s1 (fun x hx => by simp [hx]) fun x hx => by simp [hx]
      exact hf H1 _ _ c vs Q k1 q1 q2 e fun z H' k' => hP1 z H' f1 slot_tm (k'.sub (.cons_cons _ (List.sublist_append_right ..)))
theorem av_nil : AV g X [] aNil := av_of pa_nil fun σ H Q ρ τ f h hP => hP [] H f rfl (by simpa [hits] using h)
theorem av_cons (ha : EV g X a fa) (hs : AV g X es fs) (hst : starEach (a :: es) X.env = (false, eval a X.env) :: starEach es X.env := by rfl) : AV g X (a :: es) (aCons fa fs) :=
  av_of (pa_cons ha hs hst) fun σ H Q ρ τ f h hP => stepE (ε := []) f (nilT h) hP fun h1 ρ1 hP1 v H1 f1 s1 k1 => by
    refine stepA (ε := hit h1 v) f1 (by rw [List.nil_append] at k1; exact mid k1) hP1 fun hs ρ2 hP2 vs H2 f2 s2 k2 => ?_
    refine hP2 (v :: vs) H2 f2 ⟨v, vs, rfl, s1, s2⟩ ?_
    simp only [hits, List.append_assoc]
    exact k2.perm (permc fun _ x => by simp only [List.count_append]; omega)
theorem tv_e (hK : X.K = g.T.K) (ha : EV g X a fa) (he : ∀ whole, isTrue a X.env whole = (do let v ← whole; standAt a.pos; holding [v] (truthy v)) := by intro _; rfl) : TV g X a (tE fa) :=
  tv_of (pt_truth ha he) fun σ H Q ρ τ f h hP => stepE (ε := []) f (nilT h) hP fun h1 ρ1 hP1 v H1 f1 s1 k1 => by
    rw [List.nil_append] at k1
    have m := mem_hv (τ := τ) f1 s1
    have kt : Hold g.T H1 (its ρ1 σ ++ τ) := k1.right
    cases e : hv ρ1 h1 <;> rw [e] at hP1 m <;> simp only [tru] at hP1
    · exact hP1.elim
    · exact ⟨false, by rw [k1.g_non m]; rfl, hP1 H1 f1 kt⟩
    · rename_i b; exact ⟨b, by rw [k1.g_bl m]; rfl, hP1 H1 f1 kt⟩
    · rename_i i; exact ⟨i != 0, by rw [k1.g_int m]; rfl, hP1 H1 f1 kt⟩
    · rename_i x
      split at hP1
      · rename_i hl
        exact ⟨(x.length : Int) != 0, by rw [k1.g_str m]; exact ⟨lim_le hl, rfl⟩, hP1 H1 f1 kt⟩
      · exact hP1.elim
    · rename_i xs
      obtain ⟨p, vs, ev, hs, hl, _⟩ := k1.g_tup m
      refine ⟨!xs.isEmpty, ?_, hP1 H1 f1 kt⟩
      rw [ev]
      refine .inr (.inl ⟨vs, by rw [hK]; exact hs, ?_⟩)
      cases xs <;> cases vs <;> simp at hl <;> rfl
    · rename_i o xs
      obtain ⟨p, vs, ev, hs, hl, _⟩ := k1.g_lst m
      refine ⟨!xs.isEmpty, ?_, hP1 H1 f1 kt⟩
      rw [ev]
      refine .inl ⟨vs, SqL.of hs, ?_⟩
      cases xs <;> cases vs <;> simp at hl <;> rfl
    all_goals exact hP1.elim
end
end VL
set_option Elab.async false
set_option linter.all false
set_option maxRecDepth 100000
namespace VL
open PySem PySem.Spec PyProof.Rows L2
section
variable {g : G} {X : Cx} {a b c : Expr} {es rest : List Expr} {fa fb fc : M Hd} {fs : M (List Hd)} {ta tb tc : M Bool} {pos : Pos} {op op' : PV → PV → Option PV} {r r' : R2}
theorem sub3 (A B C D : Its) : (B ++ D).Sublist (A ++ (B ++ (C ++ D))) := .trans (List.Sublist.append_left (List.sublist_append_right C D) B) (List.sublist_append_right A _)
abbrev WV (g : G) (X : Cx) (e : Expr) (f : M Bool) : Prop := PW X e (trT g f)
theorem wv_of {e : Expr} {t : TT} {ft : M Bool} (h : PW X e t) (q : ∀ σ H Q ρ τ, Fits g.s0 ρ σ → Hold g.T H (its ρ σ ++ τ) → Post g σ τ (PT1 g σ τ Q) (ft ρ) → t σ H Q) : WV g X e ft :=
  ⟨fun whole pins s σ H Q I ⟨ρ, τ, h1, h2, h3⟩ => h.run whole pins s σ H Q I (q σ H Q ρ τ h1 h2 h3)⟩
theorem wv_and1 (ha : TV g X a ta) : WV g X (.BoolOp .And [a] pos) ta := pw_and1 ha
theorem wv_or1 (ha : TV g X a ta) : WV g X (.BoolOp .Or [a] pos) ta := pw_or1 ha
theorem wv_and (ha : TV g X a ta) (hb : WV g X (.BoolOp .And (b :: rest) pos) tb) : WV g X (.BoolOp .And (a :: b :: rest) pos) (tAnd ta tb) :=
  wv_of (pw_and ha hb) fun σ H Q ρ τ f h hP => stepT (ε := []) f (nilT h) hP fun c ρ1 hP1 H1 f1 k1 => by
    cases c with
    | true => exact ⟨ρ1, τ, f1, k1, hP1⟩
    | false => exact hP1 H1 f1 k1
theorem wv_or (ha : TV g X a ta) (hb : WV g X (.BoolOp .Or (b :: rest) pos) tb) : WV g X (.BoolOp .Or (a :: b :: rest) pos) (tOr ta tb) :=
  wv_of (pw_or ha hb) fun σ H Q ρ τ f h hP => stepT (ε := []) f (nilT h) hP fun c ρ1 hP1 H1 f1 k1 => by
    cases c with
    | false => exact ⟨ρ1, τ, f1, k1, hP1⟩
    | true => exact hP1 H1 f1 k1
theorem tv_w {e : Expr} {t : M Bool} (h : WV g X e t) : TV g X e t := h.pt
theorem tv_not (ha : TV g X a ta) : TV g X (.UnaryOp .Not a pos) (tNot ta) :=
  tv_of (pt_not ha) fun σ H Q ρ τ f h hP => stepT (ε := []) f (nilT h) hP fun c ρ1 hP1 H1 f1 k1 => hP1 H1 f1 k1
theorem ev_one {o} (ha : EV g X a fa) : EV g X (.BoolOp o [a] pos) fa := pe_one ha
theorem bl_of {k : Bool → M Hd} {σ : L2.St} {τ : Its} {P : Hd → List PV → Prop} {ρ : List PV} {x : PV} (h : Post g σ τ P ((ofB ρ (blOf x)).bind k)) : ∃ b, x = .bl b ∧ Post g σ τ P (k b ρ) := by
  cases x <;> first | exact ⟨_, rfl, h⟩ | exact h.elim
theorem ev_and (ha : EV g X a fa) (hb : EV g X (.BoolOp .And (b :: rest) pos) fb) : EV g X (.BoolOp .And (a :: b :: rest) pos) (eAnd fa fb) :=
  ev_of (pe_and ha hb) fun σ H Q ρ τ f h hP => stepE (ε := []) f (nilT h) hP fun h1 ρ1 hP1 v H1 f1 s1 k1 => by
    rw [List.nil_append] at k1
    obtain ⟨c, e, hP2⟩ := bl_of hP1
    have m := mem_hv (τ := τ) f1 s1
    rw [e] at m
    refine ⟨c, k1.g_bl m, ?_⟩
    cases c with
    | true => exact ⟨ρ1, τ, f1, k1.right, hP2⟩
    | false => exact hP2 (.bl false) H1 f1 slot_tm k1.right.bl
theorem ev_or (ha : EV g X a fa) (hb : EV g X (.BoolOp .Or (b :: rest) pos) fb) : EV g X (.BoolOp .Or (a :: b :: rest) pos) (eOr fa fb) :=
  ev_of (pe_or ha hb) fun σ H Q ρ τ f h hP => stepE (ε := []) f (nilT h) hP fun h1 ρ1 hP1 v H1 f1 s1 k1 => by
    rw [List.nil_append] at k1
    obtain ⟨c, e, hP2⟩ := bl_of hP1
    have m := mem_hv (τ := τ) f1 s1
    rw [e] at m
    refine ⟨c, k1.g_bl m, ?_⟩
    cases c with
    | false => exact ⟨ρ1, τ, f1, k1.right, hP2⟩
    | true => exact hP2 (.bl true) H1 f1 slot_tm k1.right.bl
theorem ev_not (ha : EV g X a fa) : EV g X (.UnaryOp .Not a pos) (eNot fa) :=
  ev_of (pe_not ha) fun σ H Q ρ τ f h hP => stepE (ε := []) f (nilT h) hP fun h1 ρ1 hP1 v H1 f1 s1 k1 => by
    rw [List.nil_append] at k1
    obtain ⟨c, e, hP2⟩ := bl_of hP1
    have m := mem_hv (τ := τ) f1 s1
    rw [e] at m
    exact ⟨c, k1.g_bl m, hP2 (.bl (!c)) H1 f1 slot_tm k1.right.bl⟩
theorem ev_if (hc : TV g X c tc) (ha : EV g X a fa) (hb : EV g X b fb) : EV g X (.IfExp c a b pos) (eIf tc fa fb) :=
  ev_of (pe_ifExp hc ha hb) fun σ H Q ρ τ f h hP => stepT (ε := []) f (nilT h) hP fun c ρ1 hP1 H1 f1 k1 => by
    rw [List.nil_append] at k1
    cases c with
    | true => exact ⟨ρ1, τ, f1, k1, hP1⟩
    | false => exact ⟨ρ1, τ, f1, k1, hP1⟩
/-- a chain as a test -/
theorem tv_chv {o o' : CmpOp} (ho : OpR X (compareOp o) r) (hg : Opv g.T op r) (ho' : OpR X (compareOp o') r') (hg' : Opv g.T op' r') (ha : EV g X a fa) (hb : EV g X b fb) (hc : EV g X c fc)
    (hm : lastMarks [o, o'] [b, c] = false := by with_unfolding_all rfl) : TV g X (.Compare a [o, o'] [b, c] pos) (tB (eCh op op' fa fb fc)) :=
  tv_of (pt_chain ho ho' ha hb hc hm) fun σ H Q ρ τ f h hP => by
    refine (show tChain r r' (trE g fa) (trE g fb) (trE g fc) σ H fun x H' => ∃ k, x = .bl k ∧ Q k H' from ?_)
    have hP' : Post g σ τ (PT1 g σ τ Q) ((fa ρ).bind fun h1 ρ1 => (fb ρ1).bind fun h2 ρ2 => (ofB ρ2 ((op (hv ρ2 h1) (hv ρ2 h2)).bind blOf)).bind fun b ρ3 =>
        (if b = true then (fc ρ3).bind fun h3 ρ4 => ofO ρ4 (op' (hv ρ4 h2) (hv ρ4 h3)) else .ok (.tm (.bl false)) ρ3 : R Hd).bind fun h ρ1 => ofB ρ1 (blOf (hv ρ1 h))) := by
      unfold tB eCh at hP
      cases e1 : fa ρ with
      | ok h1 ρ1 =>
        rw [e1] at hP
        simp only [R.bind_ok] at hP ⊢
        cases e2 : fb ρ1 with
        | ok h2 ρ2 =>
          rw [e2] at hP
          simp only [R.bind_ok] at hP ⊢
          revert hP
          cases (op (hv ρ2 h1) (hv ρ2 h2)).bind blOf <;> exact id
        | exc _ _ _ => rw [e2] at hP; exact hP
        | stuck => rw [e2] at hP; exact hP
      | exc _ _ _ => rw [e1] at hP; exact hP
      | stuck => rw [e1] at hP; exact hP
    refine two f h hP' fun h1 h2 ρ2 hP2 v w H2 l f2 s1 s2 el k m1 m2 dn => ?_
    cases e : op (hv ρ2 h1) (hv ρ2 h2) with
    | none => rw [e] at hP2; exact hP2.elim
    | some d =>
      rw [e] at hP2
      have : ∃ x, d = .bl x := by cases d <;> first | exact ⟨_, rfl⟩ | exact hP2.elim
      obtain ⟨x, ex⟩ := this
      subst ex
      refine hg H2 l _ _ _ v w _ k m1 m2 e fun z H3 k3 => ?_
      have ez := k3.g_bl (b := x) (v := z) List.mem_cons_self
      refine ⟨x, ez, ?_⟩
      cases x with
      | false => exact ⟨false, rfl, hP2 H3 f2 (dn _ z H3 k3).tail⟩
      | true =>
        have k4 : Hold g.T H3 (its ρ2 σ ++ (hit h2 w ++ τ)) := k3.tail.sub (by
          rw [el]
          have : (hit h2 w ++ (its ρ2 σ ++ τ)).Sublist (hit h2 w ++ (its ρ2 σ ++ (hit h1 v ++ τ))) := List.Sublist.append_left (List.Sublist.append_left (List.sublist_append_right ..) _) _
          exact this) |>.perm (permc fun _ x => by simp only [List.count_append]; omega)
        have hP3 : Post g σ τ (PT1 g σ τ Q) ((fc ρ2).bind fun h3 ρ4 => (ofO ρ4 (op' (hv ρ4 h2) (hv ρ4 h3))).bind fun h ρ1 => ofB ρ1 (blOf (hv ρ1 h))) := by
          simp only [Option.bind_some, blOf, ofB_some, R.bind_ok, if_true] at hP2
          cases e3 : fc ρ2 <;> rw [e3] at hP2 <;> exact hP2
        refine stepE (ε := hit h2 w) f2 k4 hP3 fun h3 ρ4 hP4 u H4 f4 s4 k5 => ?_
        cases e2 : op' (hv ρ4 h2) (hv ρ4 h3) with
        | none => rw [e2] at hP4; exact hP4.elim
        | some d2 =>
          rw [e2] at hP4
          have : ∃ x, d2 = .bl x := by cases d2 <;> first | exact ⟨_, rfl⟩ | exact hP4.elim
          obtain ⟨y, ey⟩ := this
          subst ey
          refine hg' H4 _ _ _ _ w u _ k5 (mem_of f4 s2 (fun x hx => by simp [hx]) fun x hx => by simp [hx]) (mem_of f4 s4 (fun x hx => by simp [hx]) fun x hx => by simp [hx]) e2 fun z' H5 k6 => ?_
          have ez' := k6.g_bl (b := y) (v := z') List.mem_cons_self
          exact ⟨y, ez', hP4 H5 f4 (k6.tail.sub (sub3 ..))⟩
theorem ev_tup {x1} (hs : AV g X es fs) : EV g X (.Tuple es x1 pos) (eTup fs) :=
  ev_of (pe_tup hs) fun σ H Q ρ τ f h hP => stepA (ε := []) f (nilT h) hP fun hs ρ1 hP1 vs H1 f1 s1 k1 => by
    rw [List.nil_append] at k1
    cases e : takes hs ρ1 with
    | none => simp only [e] at hP1; exact hP1.elim
    | some p =>
      obtain ⟨as, ρ2⟩ := p
      simp only [e] at hP1
      obtain ⟨f2, l2, o2, k2⟩ := takes_ok f1 s1 k1 e
      split at hP1
      · rename_i hl
        refine ⟨lim_le (by rw [l2]; exact hl), fun p hp => hP1 (.ref p) _ f2 slot_tm ?_⟩
        refine (Hold.new_fz k2 hp (a := .tup as) rfl fun F s o => ⟨p, vs, rfl, SqT.of upd_same, ?_⟩).sub (.cons_cons _ (List.sublist_append_right ..))
        refine (reps_of l2 o2 (fun x hx => List.mem_append_left _ hx) o).mono fun b u q => ?_
        rw [upd_ne (fun z => by rw [z] at q; have := s _ _ q; rw [hp] at this; cases this)]; exact q
      · exact hP1.elim
theorem ev_lst (hs : AV g X es fs) : EV g X (.List es pos) (eLst fs) :=
  ev_of (pe_lst hs) fun σ H Q ρ τ f h hP => stepA (ε := []) f (nilT h) hP fun hs ρ1 hP1 vs H1 f1 s1 k1 => by
    rw [List.nil_append] at k1
    cases e : takes hs ρ1 with
    | none => simp only [e] at hP1; exact hP1.elim
    | some p =>
      obtain ⟨as, ρ2⟩ := p
      simp only [e] at hP1
      obtain ⟨f2, l2, o2, k2⟩ := takes_ok f1 s1 k1 e
      split at hP1
      · rename_i hl
        refine ⟨lim_le (by rw [l2]; exact hl), fun p hp => hP1 (.ref p) _ f2 slot_tm ?_⟩
        exact (Hold.new_own k2 hp (a := .lst .ow as) rfl fun F s o => ⟨p, vs, rfl, upd_same, reps_of l2 o2 (fun x hx => List.mem_append_left _ hx) o⟩).sub (.cons_cons _ (List.sublist_append_right ..))
      · exact hP1.elim
end
end VL
set_option Elab.async false
set_option linter.all false
set_option maxRecDepth 100000
namespace VL
open PySem PySem.Spec PyProof.Rows L2
theorem op_or2 {X : Cx} {f : Value → Value → Sem Value} {r r' : R2} (h : OpR X f r) (h' : OpR X f r') : OpR X f (fun x y H Q => r x y H Q ∨ r' x y H Q) := by
  intro pins s σ H x y v u Q I rx ry q
  rcases q with q | q
  · exact h pins s σ H x y v u Q I rx ry q
  · exact h' pins s σ H x y v u Q I rx ry q
theorem call_or2 {X : Cx} {f : Value} {r r' : List V → Hp → VK → Prop} (h : CallR X f r) (h' : CallR X f r') : CallR X f (fun x H Q => r x H Q ∨ r' x H Q) := by
  intro pins s σ H x v Q I rx q
  rcases q with q | q
  · exact h pins s σ H x v Q I rx q
  · exact h' pins s σ H x v Q I rx q
def oI (C : Int → Int → Bool) (f : Int → Int → Int) : PV → PV → Option PV
  | .int i, .int j => if C i j = true then some (.int (f i j)) else none
  | _, _ => none
def oB (f : Int → Int → Bool) : PV → PV → Option PV
  | .int i, .int j => some (.bl (f i j))
  | _, _ => none
theorem opv_I {T : Tb} {C : Int → Int → Bool} {f : Int → Int → Int} {CP : Int → Int → Prop} (h : ∀ i j, C i j = true → CP i j) : Opv T (oI C f) (rI CP fun i j => .int (f i j)) := by
  intro H l a b c v w Q k m1 m2 e q
  cases a <;> cases b <;> simp only [oI] at e <;> try cases e
  rename_i i j
  split at e
  · rename_i hc
    cases e
    exact ⟨i, j, k.g_int m1, k.g_int m2, h i j hc, q _ _ k.int⟩
  · cases e
theorem opv_I0 {T : Tb} {f : Int → Int → Int} : Opv T (oI (fun _ _ => true) f) (rI0 fun i j => .int (f i j)) := by
  intro H l a b c v w Q k m1 m2 e q
  cases a <;> cases b <;> simp only [oI, if_true] at e <;> try cases e
  rename_i i j
  exact ⟨i, j, k.g_int m1, k.g_int m2, q _ _ k.int⟩
theorem opv_B {T : Tb} {f : Int → Int → Bool} : Opv T (oB f) (rI0 fun i j => .bl (f i j)) := by
  intro H l a b c v w Q k m1 m2 e q
  cases a <;> cases b <;> simp only [oB] at e <;> try cases e
  rename_i i j
  exact ⟨i, j, k.g_int m1, k.g_int m2, q _ _ k.bl⟩
def oSub : PV → PV → Option PV := oI (fun _ _ => true) fun i j => i - j
/-- numbers of up to 60 figures -/
def wideN : Nat := 10 ^ 60
def wide : Int := (wideN : Int)
theorem wideN_bits : wideN < 2 ^ 200 := by decide +kernel
theorem wide_30 {j : Int} (h : j < 1073741824) : j < wide := Int.lt_trans h (by decide +kernel)
def CDivW (i j : Int) : Prop := 0 < j ∧ j < wide
def CMulW (i j : Int) : Prop := CMul i j ∨ (i.natAbs < wideN ∧ j.natAbs < wideN)
theorem CMulW.ok {i j : Int} (h : CMulW i j) : IntMulOk i j := by
  rcases h with h | ⟨h1, h2⟩
  · exact h.ok
  · exact (mulx_ok (a := 200) (b := 200) (Nat.lt_trans h1 wideN_bits) (Nat.lt_trans h2 wideN_bits) (by decide)).ok
theorem op_mulW {X : Cx} : OpR X (binaryOp .Mult) (rI CMulW fun i j => .int (i * j)) := opI fun _ _ _ _ _ _ _ hc q => mul_int q hc.ok
theorem op_fdivW {X : Cx} : OpR X (binaryOp .FloorDiv) (rI CDivW fun i j => .int (i / j)) := opI fun i j _ _ _ _ _ hc q => by
  have h1 : (0 : Int) < j := hc.1
  have h2 : j < wide := hc.2
  have h3 : j.natAbs < 2 ^ 200 := by
    refine Nat.lt_trans ?_ wideN_bits
    unfold wide at h2
    omega
  exact floordiv_int (by omega) (by rw [Int.fdiv_eq_ediv_of_nonneg i (by omega)]; exact q) (.inl (PyProof.noPylong_of_log2 (Nat.lt_trans ((Nat.log2_lt (by omega)).mpr h3) (by decide))))
def cMul (i j : Int) : Bool := decide ((-(2 ^ 64) < i ∧ i < 2 ^ 64) ∨ (-(2 ^ 64) < j ∧ j < 2 ^ 64) ∨ (i.natAbs < wideN ∧ j.natAbs < wideN))
theorem cMul_ok {i j : Int} (h : cMul i j = true) : CMulW i j := by
  rcases of_decide_eq_true h with h | h | h
  · exact .inl (.inl h)
  · exact .inl (.inr h)
  · exact .inr h
def oDiv : PV → PV → Option PV := oI (fun _ j => decide (0 < j ∧ j < wide)) fun i j => i / j
def oMod : PV → PV → Option PV := oI (fun _ j => decide (0 < j)) fun i j => i % j
def oPow : PV → PV → Option PV := oI (fun i j => decide (0 ≤ j ∧ j ≤ 1000000 ∧ i.natAbs < 2 ^ 64)) fun i j => i ^ j.toNat
def oLt : PV → PV → Option PV := oB fun i j => decide (i < j)
def oLe : PV → PV → Option PV := oB fun i j => decide (i ≤ j)
def oGt : PV → PV → Option PV := oB fun i j => decide (j < i)
def oGe : PV → PV → Option PV := oB fun i j => decide (j ≤ i)
section
variable {T : Tb} {X : Cx}
theorem v_sub : Opv T oSub (rI0 fun i j => .int (i - j)) := opv_I0
theorem v_div : Opv T oDiv (rI CDivW fun i j => .int (i / j)) := opv_I fun i j h => show 0 < j ∧ j < wide from of_decide_eq_true h
theorem v_mod : Opv T oMod (rI (fun _ j => 0 < j) fun i j => .int (i % j)) := opv_I fun _ _ h => of_decide_eq_true h
theorem v_pow : Opv T oPow (rI CPow fun i j => .int (i ^ j.toNat)) := opv_I fun i j h => show 0 ≤ j ∧ j ≤ 1000000 ∧ i.natAbs < 2 ^ 64 from of_decide_eq_true h
theorem v_lt : Opv T oLt (rI0 fun i j => .bl (decide (i < j))) := opv_B
theorem v_le : Opv T oLe (rI0 fun i j => .bl (decide (i ≤ j))) := opv_B
theorem v_gt : Opv T oGt (rI0 fun i j => .bl (decide (j < i))) := opv_B
theorem v_ge : Opv T oGe (rI0 fun i j => .bl (decide (j ≤ i))) := opv_B
def oNeg : PV → Option PV
  | .int i => some (.int (-i))
  | _ => none
theorem v_neg : Unv T oNeg (rU fun i => .int (-i)) := by
  intro H l a c v Q k m e q
  cases a <;> simp only [oNeg] at e <;> try cases e
  rename_i i
  exact ⟨i, k.g_int m, q _ _ k.int⟩
def oAdd : PV → PV → Option PV
  | .int i, .int j => some (.int (i + j))
  | .str x, .str y => if x.length + y.length ≤ lim then some (.str (x ++ y)) else none
  | .tup xs, .tup ys => if xs.length + ys.length ≤ lim then some (.tup (xs ++ ys)) else none
  | .lst _ xs, .lst _ ys => if xs.length + ys.length ≤ lim then some (.lst .ow (xs ++ ys)) else none
  | _, _ => none
def rAddA (K : PySem.W.Frag) : R2 := fun x y H Q => (rI0 (fun i j => .int (i + j)) x y H Q ∨ ∃ i j, x = .str i ∧ y = .str j ∧ i.length + j.length ≤ sizeLine ∧ Q (.str (i ++ j)) H) ∨ (rCatA K x y H Q ∨ rCat x y H Q)
theorem o_add : OpR X (binaryOp .Add) (rAddA X.K) := op_or2 (op_or2 op_add op_add_str) (op_or2 op_catA op_cat)
theorem v_add : Opv T oAdd (rAddA T.K) := by
  intro H l a b c v w Q k m1 m2 e q
  cases a <;> cases b <;> simp only [oAdd] at e <;> try cases e
  · rename_i i j
    exact .inl (.inl ⟨i, j, k.g_int m1, k.g_int m2, q _ _ k.int⟩)
  · rename_i x y
    split at e <;> cases e
    rename_i hl
    exact .inl (.inr ⟨x, y, k.g_str m1, k.g_str m2, lim_le hl, q _ _ k.str⟩)
  · rename_i xs ys
    split at e <;> cases e
    rename_i hl
    have both : ∃ F, Same F H ∧ (∀ x ∈ l, Own T H F x.1 x.2) ∧ (fpOf l).Nodup ∧ ∀ p ∈ fpOf l, F p = none := k
    obtain ⟨F, s, o, n, d⟩ := both
    obtain ⟨p, vs, rfl, h1, r1⟩ := o _ m1
    obtain ⟨p2, ws, rfl, h2, r2⟩ := o _ m2
    simp only [PV.own, PV.fl, Bool.false_eq_true, if_false] at h1 h2
    have k : Hold T H l := ⟨F, s, o, n, d⟩
    refine .inr (.inl ⟨p, p2, vs, ws, rfl, rfl, s.seqT h1, s.seqT h2, lim_le (by rw [r1.length, r2.length]; exact hl), fun z => ?_, fun z1 z2 => ?_, fun z1 z2 t ht => ?_⟩)
    · subst z
      have : xs = [] := by have := r1.length; cases xs <;> simp_all
      subst this
      exact q _ _ (k.dup m2 rfl)
    · subst z2
      have : ys = [] := by have := r2.length; cases ys <;> simp_all
      subst this
      rw [List.append_nil] at q
      exact q _ _ (k.dup m1 rfl)
    · have e2 : Same H (upd H t (.tup (vs ++ ws))) := My.same_new ht _
      have ft : F t = none := by
        cases kk : F t with
        | none => rfl
        | some u => have := s _ _ kk; rw [ht] at this; cases this
      have ef : Same F (upd F t (.tup (vs ++ ws))) := My.same_new ft _
      refine q _ _ ?_
      have np : t ∉ fpOf l := fp_new o ht
      refine ⟨upd F t (.tup (vs ++ ws)), fun b u kk => ?_, fun x hx => ?_, by rw [fpOf_fz rfl]; exact n, fun q' hq => ?_⟩
      · by_cases eb : b = t
        · subst eb; rw [upd_same] at kk ⊢; exact kk
        · rw [upd_ne eb] at kk ⊢; exact s _ _ kk
      · rcases List.mem_cons.mp hx with rfl | hx
        · exact ⟨t, vs ++ ws, rfl, SqT.of (by simp only [PV.own, PV.fl, Bool.false_eq_true, if_false]; exact upd_same), (r1.append r2).mono ef⟩
        · exact (o x hx).mono e2 ef
      · rw [fpOf_fz rfl] at hq
        rw [upd_ne (show q' ≠ t from fun z => np (by rw [← z]; exact hq))]
        exact d q' hq
  · rename_i o1 xs o2 ys
    split at e <;> cases e
    rename_i hl
    obtain ⟨p, vs, rfl, h1, l1, _⟩ := k.g_lst m1
    obtain ⟨p2, ws, rfl, h2, l2, _⟩ := k.g_lst m2
    refine .inr (.inr ⟨p, p2, vs, ws, rfl, rfl, h1, h2, lim_le (by rw [l1, l2]; exact hl), fun t ht => q _ _ ?_⟩)
    refine Hold.new_own k ht (a := .lst .ow (xs ++ ys)) rfl fun F s o => ?_
    have a1 := o _ m1
    have a2 := o _ m2
    have g1 : Reps T F xs vs := by
      unfold Own at a1
      obtain ⟨p', vs', ev, h', r'⟩ := a1
      cases ev
      have : some (HO.lst vs') = some (HO.lst vs) := by
        split at h'
        · rw [← h', ← h1]
        · rw [← s _ _ h', ← h1]
      cases this; exact r'
    have g2 : Reps T F ys ws := by
      unfold Own at a2
      obtain ⟨p', vs', ev, h', r'⟩ := a2
      cases ev
      have : some (HO.lst vs') = some (HO.lst ws) := by
        split at h'
        · rw [← h', ← h2]
        · rw [← s _ _ h', ← h2]
      cases this; exact r'
    exact ⟨t, vs ++ ws, rfl, upd_same, g1.append g2⟩
end
/-- a list's items, whatever frozen heap -/
theorem reps_lst {T : Tb} {H F : Hp} {l : Its} {o : Fl} {xs : List PV} {p : Addr} {vs : List V} (s : Same F H) (ow : ∀ x ∈ l, Own T H F x.1 x.2) (m : (PV.lst o xs, V.ref p) ∈ l) (h : H p = some (.lst vs)) : Reps T F xs vs := by
  have a1 := ow _ m
  unfold Own at a1
  obtain ⟨p', vs', ev, h', r'⟩ := a1
  cases ev
  have : some (HO.lst vs') = some (HO.lst vs) := by
    split at h'
    · rw [← h', ← h]
    · rw [← s _ _ h', ← h]
  cases this; exact r'
theorem reps_obj {T : Tb} {H F : Hp} {l : Its} {o : Fl} {c : String} {xs : List PV} {p dx : Addr} {vs : List V} (s : Same F H) (ow : ∀ x ∈ l, Own T H F x.1 x.2) (m : (PV.obj o c xs, V.ref p) ∈ l)
    (h : H p = some (.ins (T.ca c) dx ((T.flds c).zip vs))) (hl : vs.length ≤ (T.flds c).length) : Reps T F xs vs := by
  have a1 := ow _ m
  unfold Own at a1
  obtain ⟨p', dx', vs', ev, h', hl', r'⟩ := a1
  cases ev
  have : some (HO.ins (T.ca c) dx' ((T.flds c).zip vs')) = some (HO.ins (T.ca c) dx ((T.flds c).zip vs)) := by
    split at h'
    · rw [← h', ← h]
    · rw [← s _ _ h', ← h]
  injection this with e1
  injection e1 with e2 e3 e4
  have : vs' = vs := by
    have z := congrArg (List.map Prod.snd) e4
    rw [List.map_snd_zip hl', List.map_snd_zip hl] at z
    exact z
  subst this; exact r'
end VL
set_option Elab.async false
set_option linter.all false
set_option maxRecDepth 100000
namespace VL
open PySem PySem.Spec PyProof.Rows L2
def dat : PV → PyData
  | .non => .none
  | .bl b => .bool b
  | .int i => .int i
  | .str x => .str x
  | .tup xs => .tuple (xs.map dat)
  | .lst _ xs => .list (xs.map dat)
  | .scr ns => .list (ns.map .int)
  | .emp | .dK _ _ _ | .dN _ _ _ | .obj _ _ _ | .ty _ | .cls _ | .err _ _ _ => .dict []
@[simp] theorem dat_non : dat .non = .none := by simp only [dat]
@[simp] theorem dat_bl (b : Bool) : dat (.bl b) = .bool b := by simp only [dat]
@[simp] theorem dat_int (i : Int) : dat (.int i) = .int i := by simp only [dat]
@[simp] theorem dat_str (x : Str) : dat (.str x) = .str x := by simp only [dat]
@[simp] theorem dat_tup (xs : List PV) : dat (.tup xs) = .tuple (xs.map dat) := by simp only [dat]
@[simp] theorem dat_lst (o : Fl) (xs : List PV) : dat (.lst o xs) = .list (xs.map dat) := by simp only [dat]
theorem canAll {xs : List PyData} : PyData.canLayAll0 xs = true ↔ ∀ d ∈ xs, d.canLay0 = true := by
  induction xs with
  | nil => simp [PyData.canLayAll0]
  | cons x xs ih => simp [PyData.canLayAll0, ih]
theorem depAll {xs : List PyData} {n : Nat} : PyData.depthAll xs ≤ n ↔ ∀ d ∈ xs, d.depth ≤ n := by
  induction xs with
  | nil => simp [PyData.depthAll]
  | cons x xs ih => simp only [PyData.depthAll, List.mem_cons, forall_eq_or_imp, ← ih]; omega
theorem eqv_all {xs ys : List PyData} : PyData.eqvAll xs ys = (decide (xs.length = ys.length) && (xs.zip ys).all fun p => PyData.eqv p.1 p.2) := by
  induction xs generalizing ys with
  | nil => cases ys <;> simp [PyData.eqvAll]
  | cons x xs ih =>
    cases ys with
    | nil => simp [PyData.eqvAll]
    | cons y ys =>
      simp only [PyData.eqvAll, ih, List.length_cons, List.zip_cons_cons, List.all_cons, Nat.add_right_cancel_iff]
      cases PyData.eqv x y <;> cases decide (xs.length = ys.length) <;> rfl
section
variable {T : Tb} {H F : Hp}
mutual
theorem Rep.dp (s : Same F H) : ∀ {a : PV} {v : V}, Rep T F a v → (dat a).canLay0 = true → Dp T.K H v (dat a)
  | .non, _, h, _ => by simp only [Rep] at h; subst h; simp only [dat]; exact .non
  | .bl _, _, h, _ => by simp only [Rep] at h; subst h; simp only [dat]; exact .bl _
  | .int _, _, h, _ => by simp only [Rep] at h; subst h; simp only [dat]; exact .int _
  | .str _, _, h, _ => by simp only [Rep] at h; subst h; simp only [dat]; exact .str _
  | .tup xs, _, h, c => by
    simp only [Rep] at h
    obtain ⟨p, vs, rfl, h1, h2⟩ := h
    simp only [dat_tup] at c ⊢
    exact .tup (s.seqT h1) (Reps.dp s h2 (by simpa only [PyData.canLay0] using c))
  | .lst _ xs, _, h, c => by
    simp only [Rep] at h
    obtain ⟨p, vs, rfl, h1, h2⟩ := h
    simp only [dat_lst] at c ⊢
    exact .lst (SqL.of (s _ _ h1)) (Reps.dp s h2 (by simpa only [PyData.canLay0] using c))
  | .scr ns, _, h, _ => by
    simp only [Rep] at h
    obtain ⟨p, rfl, h1⟩ := h
    simp only [dat]
    exact .lst (s.seq h1) (My.dpInts ns)
  | .emp, _, _, c => by simp [dat, PyData.canLay0] at c
  | .dK _ _ _, _, _, c => by simp [dat, PyData.canLay0] at c
  | .dN _ _ _, _, _, c => by simp [dat, PyData.canLay0] at c
  | .obj _ _ _, _, _, c => by simp [dat, PyData.canLay0] at c
  | .ty _, _, _, c => by simp [dat, PyData.canLay0] at c
  | .cls _, _, _, c => by simp [dat, PyData.canLay0] at c
  | .err _ _ _, _, _, c => by simp [dat, PyData.canLay0] at c
theorem Reps.dp (s : Same F H) : ∀ {xs : List PV} {vs : List V}, Reps T F xs vs → PyData.canLayAll0 (xs.map dat) = true → DpAll T.K H vs (xs.map dat)
  | [], _, h, _ => by simp only [Reps] at h; subst h; exact .nil
  | x :: xs, _, h, c => by
    obtain ⟨v, vs', rfl, h1, _, h2⟩ := h.inv
    simp only [List.map_cons, PyData.canLayAll0, Bool.and_eq_true] at c
    exact .cons (Rep.dp s h1 c.1) (Reps.dp s h2 c.2)
end
theorem Hold.dp {l : Its} {a : PV} {v : V} (h : Hold T H l) (m : (a, v) ∈ l) (c : (dat a).canLay0 = true) : Dp T.K H v (dat a) := by
  obtain ⟨F, s, r, _⟩ := h.get m
  cases a with
  | lst o xs =>
    obtain ⟨p, vs, rfl, h1, h2⟩ := r
    simp only [dat_lst] at c ⊢
    exact .lst (SqL.of h1) (h2.dp s (by simpa only [PyData.canLay0] using c))
  | non => cases r; simp only [dat]; exact .non
  | bl _ => cases r; simp only [dat]; exact .bl _
  | int _ => cases r; simp only [dat]; exact .int _
  | str _ => cases r; simp only [dat]; exact .str _
  | tup xs =>
    obtain ⟨p, vs, rfl, h1, h2⟩ := r
    simp only [dat_tup] at c ⊢
    exact .tup h1 (h2.dp s (by simpa only [PyData.canLay0] using c))
  | scr ns =>
    obtain ⟨p, rfl, h1⟩ := r
    simp only [dat]
    exact .lst h1 (My.dpInts ns)
  | _ => simp [dat, PyData.canLay0] at c
end
def laid (a : PV) : Bool := SeqAt.shaped (dat a)
theorem laid_can {a : PV} (h : laid a = true) : (dat a).canLay0 = true := SeqAt.canLay_of_shaped h
def oEq (neg : Bool) (a b : PV) : Option PV := if (laid a && laid b) = true then some (.bl (neg != PyData.eqv (dat a) (dat b))) else none
def oIs (neg : Bool) : PV → PV → Option PV
  | .emp, _ => none
  | .non, .non => some (.bl (!neg))
  | _, .non => some (.bl neg)
  | _, _ => none
def flat : PV → Bool
  | .non | .bl _ | .int _ | .str _ => true
  | _ => false
def hasIn (xs : List PV) (x : PV) : Bool := xs.any fun z => PyData.eqv (dat z) (dat x)
def oIn (neg : Bool) (x : PV) : PV → Option PV
  | .lst o ys => if ((flat x && ys.all flat) || (laid x && laid (.lst o ys))) = true then some (.bl (neg != hasIn ys x)) else none
  | .tup ys => if (flat x && ys.all flat) = true then some (.bl (neg != hasIn ys x)) else none
  | .str y => match x with
    | .str z => some (.bl (neg != !(Builtin.Str.occurrences y z 0 y.length 1).isEmpty))
    | _ => none
  | _ => none
section
variable {T : Tb} {X : Cx}
theorem v_eq : Opv T (oEq false) (rEqD T.K) := by
  intro H l a b c v w Q k m1 m2 e q
  unfold oEq at e
  split at e
  · rename_i hc
    cases e
    rw [Bool.and_eq_true] at hc
    refine ⟨dat a, dat b, k.dp m1 (laid_can hc.1), k.dp m2 (laid_can hc.2), hc.1, hc.2, ?_⟩
    have := q (.bl (PyData.eqv (dat a) (dat b))) H (by simpa using k.bl (b := PyData.eqv (dat a) (dat b)))
    exact this
  · cases e
theorem v_ne : Opv T (oEq true) (rNeD T.K) := by
  intro H l a b c v w Q k m1 m2 e q
  unfold oEq at e
  split at e
  · rename_i hc
    cases e
    rw [Bool.and_eq_true] at hc
    refine ⟨dat a, dat b, k.dp m1 (laid_can hc.1), k.dp m2 (laid_can hc.2), hc.1, hc.2, ?_⟩
    exact q (.bl (!PyData.eqv (dat a) (dat b))) H (by simpa using k.bl (b := !PyData.eqv (dat a) (dat b)))
  · cases e
theorem Hold.isNon {H : Hp} {l : Its} {a : PV} {v : V} (k : Hold T H l) (m : (a, v) ∈ l) (he : a ≠ .emp) : (v = .non ↔ a = .non) := by
  obtain ⟨F, s, r, _⟩ := k.get m
  cases a with
  | emp => exact absurd rfl he
  | non => cases r; exact ⟨fun _ => rfl, fun _ => rfl⟩
  | bl _ => cases r; exact ⟨(fun z => nomatch z), (fun z => nomatch z)⟩
  | int _ => cases r; exact ⟨(fun z => nomatch z), (fun z => nomatch z)⟩
  | str _ => cases r; exact ⟨(fun z => nomatch z), (fun z => nomatch z)⟩
  | tup _ => obtain ⟨p, vs, rfl, _⟩ := r; exact ⟨(fun z => nomatch z), (fun z => nomatch z)⟩
  | lst _ _ => obtain ⟨p, vs, rfl, _⟩ := r; exact ⟨(fun z => nomatch z), (fun z => nomatch z)⟩
  | err _ _ _ => obtain ⟨p, vs, rfl, _⟩ := r; exact ⟨(fun z => nomatch z), (fun z => nomatch z)⟩
  | dK _ _ _ => obtain ⟨p, vs, rfl, _⟩ := r; exact ⟨(fun z => nomatch z), (fun z => nomatch z)⟩
  | dN _ _ _ => obtain ⟨p, vs, rfl, _⟩ := r; exact ⟨(fun z => nomatch z), (fun z => nomatch z)⟩
  | obj _ _ _ => obtain ⟨p, dx, vs, rfl, _⟩ := r; exact ⟨(fun z => nomatch z), (fun z => nomatch z)⟩
  | scr _ => obtain ⟨p, rfl, _⟩ := r; exact ⟨(fun z => nomatch z), (fun z => nomatch z)⟩
  | ty _ => cases r; exact ⟨(fun z => nomatch z), (fun z => nomatch z)⟩
  | cls _ => cases r; exact ⟨(fun z => nomatch z), (fun z => nomatch z)⟩
theorem oIs_some {neg : Bool} {a b c : PV} (e : oIs neg a b = some c) : a ≠ .emp ∧ b = .non ∧ ((a = .non ∧ c = .bl (!neg)) ∨ (a ≠ .non ∧ c = .bl neg)) := by
  cases b with
  | non =>
    cases a <;> simp only [oIs] at e <;> cases e <;> refine ⟨(fun z => nomatch z), rfl, ?_⟩ <;> first | exact .inl ⟨rfl, rfl⟩ | exact .inr ⟨(fun z => nomatch z), rfl⟩
  | _ => cases a <;> simp [oIs] at e
theorem v_is : Opv T (oIs false) (fun x y H Q => y = .non ∧ Q (.bl (decide (x = .non))) H) := by
  intro H l a b c v w Q k m1 m2 e q
  obtain ⟨n1, rfl, h⟩ := oIs_some e
  have hn := k.isNon m1 n1
  refine ⟨k.g_non m2, q _ _ ?_⟩
  rcases h with ⟨rfl, rfl⟩ | ⟨n2, rfl⟩
  · rw [hn.mpr rfl]; exact k.bl
  · rw [decide_eq_false (fun z => n2 (hn.mp z))]; exact k.bl
theorem v_isn : Opv T (oIs true) (fun x y H Q => y = .non ∧ Q (.bl (!decide (x = .non))) H) := by
  intro H l a b c v w Q k m1 m2 e q
  obtain ⟨n1, rfl, h⟩ := oIs_some e
  have hn := k.isNon m1 n1
  refine ⟨k.g_non m2, q _ _ ?_⟩
  rcases h with ⟨rfl, rfl⟩ | ⟨n2, rfl⟩
  · rw [hn.mpr rfl]; exact k.bl
  · rw [decide_eq_false (fun z => n2 (hn.mp z))]; exact k.bl
theorem rep_flat {F : Hp} {a : PV} {v : V} (h : Rep T F a v) (f : flat a = true) : flatV v = true := by
  cases a <;> simp [flat] at f <;> simp only [Rep] at h <;> subst h <;> rfl
theorem eqV_dat {F : Hp} {a b : PV} {v w : V} (h : Rep T F a v) (h' : Rep T F b w) (f : flat a = true) (f' : flat b = true) : eqV v w = PyData.eqv (dat a) (dat b) := by
  cases a <;> simp [flat] at f <;> cases b <;> simp [flat] at f' <;> simp only [Rep] at h h' <;> subst h <;> subst h' <;> simp [dat, eqV, PyData.eqv]
theorem inV_dat {F : Hp} {x : PV} {v : V} (h : Rep T F x v) (f : flat x = true) : ∀ {ys : List PV} {vs : List V}, Reps T F ys vs → ys.all flat = true → vs.all flatV = true ∧ inV v vs = hasIn ys x
  | [], _, r, _ => by simp only [Reps] at r; subst r; exact ⟨rfl, rfl⟩
  | y :: ys, _, r, a => by
    obtain ⟨w, ws, rfl, h1, _, h2⟩ := r.inv
    simp only [List.all_cons, Bool.and_eq_true] at a
    obtain ⟨q1, q2⟩ := inV_dat h f h2 a.2
    refine ⟨by simp [rep_flat h1 a.1, q1], ?_⟩
    show (eqV w v || inV v ws) = _
    rw [q2, eqV_dat h1 h a.1 f]
    rfl
def rInA (K : PySem.W.Frag) (neg : Bool) : R2 := fun x y H Q => (rIn K neg x y H Q ∨ (if neg = true then rNotInD K x y H Q else rInD K x y H Q)) ∨ ∃ i j, x = .str i ∧ y = .str j ∧ Q (.bl (neg != !(Builtin.Str.occurrences j i 0 j.length 1).isEmpty)) H
theorem o_in (hu : X.A.units + 65 < cLine) : OpR X (compareOp .In) (rInA X.K false) := op_or2 (op_or2 op_in_seq (op_inD hu)) (by
  intro pins s σ H x y v u Q I rx ry ⟨i, j, h1, h2, q⟩
  exact op_in_str pins s σ H x y v u Q I rx ry ⟨i, j, h1, h2, by simpa using q⟩)
theorem o_notIn (hu : X.A.units + 65 < cLine) : OpR X (compareOp .NotIn) (rInA X.K true) := op_or2 (op_or2 op_notIn_seq (op_notInD hu)) (by
  intro pins s σ H x y v u Q I rx ry ⟨i, j, h1, h2, q⟩
  exact op_notIn_str pins s σ H x y v u Q I rx ry ⟨i, j, h1, h2, by simpa using q⟩)
theorem Hold.repF {H : Hp} {l : Its} {a : PV} {v : V} (k : Hold T H l) (m : (a, v) ∈ l) (f : flat a = true) (F : Hp) : Rep T F a v := by
  obtain ⟨_, _, r, _⟩ := k.get m
  cases a <;> simp [flat] at f <;> simp only [Rep] <;> exact r
theorem v_in {neg : Bool} : Opv T (oIn neg) (rInA T.K neg) := by
  intro H l a b c v w Q k m1 m2 e q
  cases b with
  | lst o ys =>
    simp only [oIn] at e
    split at e
    · rename_i hc
      cases e
      obtain ⟨p, vs, rfl, h1, l1, F, s, r⟩ := k.g_lst m2
      simp only [Bool.or_eq_true, Bool.and_eq_true] at hc
      rcases hc with ⟨f1, f2⟩ | ⟨d1, d2⟩
      · obtain ⟨q1, q2⟩ := inV_dat (k.repF m1 f1 F) f1 r f2
        refine .inl (.inl ⟨p, vs, rfl, .inl (SqL.of h1), rep_flat (k.repF m1 f1 F) f1, q1, q _ _ ?_⟩)
        rw [q2]
        cases neg
        · simpa using k.bl (b := hasIn ys a)
        · simpa using k.bl (b := !hasIn ys a)
      · refine .inl (.inr ?_)
        have e1 := k.dp m1 (laid_can d1)
        have e2 := k.dp m2 (laid_can d2)
        have e3 : hasIn ys a = (ys.map dat).any fun z => PyData.eqv z (dat a) := by unfold hasIn; rw [List.any_map]; rfl
        rw [dat_lst] at e2
        unfold laid at d1 d2
        rw [dat_lst] at d2
        cases neg
        · simp only [Bool.false_eq_true, if_false]
          refine ⟨dat a, ys.map dat, e1, e2, d1, d2, q _ _ ?_⟩
          rw [← e3]
          simpa using k.bl (b := hasIn ys a)
        · simp only [if_true]
          refine ⟨dat a, ys.map dat, e1, e2, d1, d2, q _ _ ?_⟩
          rw [← e3]
          simpa using k.bl (b := !hasIn ys a)
    · cases e
  | tup ys =>
    simp only [oIn] at e
    split at e
    · rename_i hc
      cases e
      obtain ⟨p, vs, rfl, h1, l1, F, s, r⟩ := k.g_tup m2
      simp only [Bool.and_eq_true] at hc
      obtain ⟨f1, f2⟩ := hc
      obtain ⟨q1, q2⟩ := inV_dat (k.repF m1 f1 F) f1 r f2
      refine .inl (.inl ⟨p, vs, rfl, .inr h1, rep_flat (k.repF m1 f1 F) f1, q1, q _ _ ?_⟩)
      rw [q2]
      cases neg
      · simpa using k.bl (b := hasIn ys a)
      · simpa using k.bl (b := !hasIn ys a)
    · cases e
  | str y =>
    cases a with
    | str z =>
      simp only [oIn] at e
      cases e
      exact .inr ⟨z, y, k.g_str m1, k.g_str m2, q _ _ k.bl⟩
    | _ => simp [oIn] at e
  | _ => simp [oIn] at e
def oMul : PV → PV → Option PV
  | .int i, .int j => if cMul i j = true then some (.int (i * j)) else none
  | .lst _ xs, .int k => if k ≤ (lim : Nat) ∧ -(2 ^ 63) ≤ k ∧ xs.length * k.toNat ≤ lim then some (.lst .ow (List.replicate k.toNat xs).flatten) else none
  | _, _ => none
theorem Reps.rep {F : Hp} {xs : List PV} {vs : List V} (r : Reps T F xs vs) : ∀ n : Nat, Reps T F (List.replicate n xs).flatten (List.replicate n vs).flatten
  | 0 => .nil
  | n + 1 => by rw [List.replicate_succ, List.replicate_succ, List.flatten_cons, List.flatten_cons]; exact r.append (Reps.rep r n)
def rMulA : R2 := fun x y H Q => rI CMulW (fun i j => .int (i * j)) x y H Q ∨ rRep x y H Q
theorem o_mul : OpR X (binaryOp .Mult) rMulA := op_or2 op_mulW op_rep
theorem v_mul : Opv T oMul rMulA := by
  intro H l a b c v w Q k m1 m2 e q
  cases a <;> cases b <;> simp only [oMul] at e <;> try cases e
  · rename_i i j
    split at e <;> cases e
    rename_i hc
    exact .inl ⟨i, j, k.g_int m1, k.g_int m2, cMul_ok hc, q _ _ k.int⟩
  · rename_i o xs n
    split at e <;> cases e
    rename_i hc
    obtain ⟨p, vs, rfl, h1, l1, _⟩ := k.g_lst m1
    have hl : (lim : Nat) = 100000 := rfl
    refine .inr ⟨p, n, vs, rfl, k.g_int m2, h1, hc.2.1, by have := hc.1; rw [hl] at this; omega, lim_le (by rw [l1]; exact hc.2.2), fun t ht => q _ _ ?_⟩
    exact Hold.new_own k ht rfl fun F s o => ⟨t, _, rfl, upd_same, (reps_lst s o m1 h1).rep _⟩
def oIx : PV → PV → Option PV
  | .lst _ xs, .int i => atI xs i
  | .tup xs, .int i => atI xs i
  | .scr ns, .int i => (atI ns i).map .int
  | .str z, .int i => if z.length ≤ lim then (atI z.cps.toList i).map fun c => .str ⟨#[c]⟩ else none
  | _, _ => none
theorem atI_reps {F : Hp} {xs : List PV} {vs : List V} {i : Int} {c : PV} (r : Reps T F xs vs) (e : atI xs i = some c) : ∃ w, atI vs i = some w ∧ Rep T F c w ∧ c.own = false := by
  unfold atI at e ⊢
  rw [r.length]
  cases h : ixN xs.length i with
  | none => rw [h] at e; cases e
  | some j =>
    rw [h] at e
    obtain ⟨w, h1, h2, h3⟩ := r.at (i := j) e
    exact ⟨w, h1, h2, h3⟩
theorem atI_map {α β : Type} (f : α → β) (xs : List α) (i : Int) : atI (xs.map f) i = (atI xs i).map f := by
  unfold atI
  rw [List.length_map]
  cases ixN xs.length i with
  | none => rfl
  | some j => simp
theorem ix_seqA : IxR X (rIx X.K) := My.ix_seqK rfl
theorem v_ix : Opv T oIx (rIx T.K) := by
  intro H l a b c v w Q k m1 m2 e q
  have kk := k
  obtain ⟨F, s, o, n, d⟩ := k
  cases a <;> cases b <;> simp only [oIx] at e <;> try cases e
  · rename_i z i
    split at e
    · rename_i hl
      cases h : atI z.cps.toList i with
      | none => rw [h] at e; cases e
      | some c' =>
        rw [h] at e; cases e
        exact .inr (.inr ⟨z, i, c', kk.g_str m1, kk.g_int m2, lim_le hl, h, q _ _ kk.str⟩)
    · cases e
  · rename_i xs i
    obtain ⟨p, vs, rfl, h1, r⟩ := o _ m1
    simp only [PV.own, PV.fl, Bool.false_eq_true, if_false] at h1
    obtain ⟨w', e1, e2, e3⟩ := atI_reps r e
    refine .inr (.inl ⟨p, vs, i, w', rfl, kk.g_int m2, s.seqT h1, e1, q _ _ ⟨F, s, fun x hx => ?_, by rw [fpOf_fz e3]; exact n, by rw [fpOf_fz e3]; exact d⟩⟩)
    rcases List.mem_cons.mp hx with rfl | hx
    · exact (Own.fz e3).mpr e2
    · exact o x hx
  · rename_i fl xs i
    obtain ⟨p, vs, rfl, h1, _⟩ := kk.g_lst m1
    obtain ⟨w', e1, e2, e3⟩ := atI_reps (reps_lst s o m1 h1) e
    refine .inl ⟨p, vs, i, w', rfl, kk.g_int m2, SqL.of h1, e1, q _ _ ⟨F, s, fun x hx => ?_, by rw [fpOf_fz e3]; exact n, by rw [fpOf_fz e3]; exact d⟩⟩
    rcases List.mem_cons.mp hx with rfl | hx
    · exact (Own.fz e3).mpr e2
    · exact o x hx
  · rename_i ns i
    obtain ⟨_, s', ⟨p, rfl, h1⟩, _⟩ := kk.get m1
    cases h : atI ns i with
    | none => rw [h] at e; cases e
    | some c' =>
      rw [h] at e; cases e
      refine .inl ⟨p, _, i, .int c', rfl, kk.g_int m2, h1, by rw [atI_map, h]; rfl, q _ _ kk.int⟩
end
section
variable {g : G} {X : Cx} {a b : Expr} {fa fb : M Hd} {pos : Pos} {op : PV → PV → Option PV} {r : R2}
theorem ev_ix (hr : IxR X r) (hg : Opv g.T op r) (ha : EV g X a fa) (hb : EV g X b fb) (hs : PlainIx b) : EV g X (.Subscript a b pos) (eBin op fa fb) :=
  ev_of (pe_ix hr ha hb hs) fun σ H Q ρ τ f h hP => two f h hP fun h1 h2 ρ2 hP2 v w H2 l f2 s1 s2 el k m1 m2 dn => by
    cases e : op (hv ρ2 h1) (hv ρ2 h2) with
    | none => rw [e] at hP2; exact hP2.elim
    | some c =>
      rw [e] at hP2
      exact hg H2 l _ _ c v w Q k m1 m2 e fun z H' k' => hP2 z H' f2 slot_tm (dn c z H' k')
def oAt (c : String) (i : Nat) : PV → Option PV
  | .obj _ c' xs => if c' = c then xs[i]? else none
  | _ => none
theorem zip_lookup : ∀ {ns : List Str} {vs : List V} {i : Nat} {f : Str} {v : V}, ns.Nodup → ns[i]? = some f → vs[i]? = some v → (ns.zip vs).lookup f = some v
  | [], _, _, _, _, _, e, _ => by simp at e
  | _ :: _, [], _, _, _, _, _, e => by simp at e
  | n :: ns, w :: vs, 0, f, v, _, e, e' => by
    simp at e e'; subst e; subst e'
    simp [List.zip_cons_cons, List.lookup_cons]
  | n :: ns, w :: vs, i + 1, f, v, nd, e, e' => by
    simp at e e'
    have h := zip_lookup (List.nodup_cons.mp nd).2 e e'
    have ne : f ≠ n := fun z => (List.nodup_cons.mp nd).1 (by rw [← z]; exact List.mem_of_getElem? e)
    rw [List.zip_cons_cons, List.lookup_cons]
    have : (f == n) = false := by simpa using ne
    rw [this]; exact h
theorem ev_at {c : String} {i : Nat} {f : Str} (hK : X.K = g.T.K) (cl : Cls g.T.K (g.T.ca c)) (na : NoAttr g.T.K (g.T.ca c) f) (hi : (g.T.flds c)[i]? = some f) (nd : (g.T.flds c).Nodup) (ha : EV g X a fa)
    (hb : attributeBase a f X.env (eval a X.env) = eval a X.env := by rfl) : EV g X (.Attribute a f pos) (eUn (oAt c i) fa) :=
  ev_of (pe_fld ha hb) fun σ H Q ρ τ ft h hP => stepE (ε := []) ft (nilT h) hP fun h1 ρ1 hP1 v H1 f1 s1 k1 => by
    rw [List.nil_append] at k1
    cases e : oAt c i (hv ρ1 h1) with
    | none => rw [e] at hP1; exact hP1.elim
    | some d =>
      rw [e] at hP1
      have m := mem_hv (τ := τ) f1 s1
      cases e2 : hv ρ1 h1 <;> rw [e2] at e m <;> simp only [oAt] at e <;> try cases e
      rename_i o c' xs
      split at e
      · rename_i hc
        subst hc
        obtain ⟨p, dx, vs, rfl, hp, hl, ll⟩ := k1.g_obj m
        have kk := k1
        obtain ⟨F, s, ow, n, dd⟩ := k1
        obtain ⟨w, e3, e4, e5⟩ := (reps_obj s ow m hp hl).at e
        refine ⟨p, g.T.ca c', dx, _, w, rfl, hp, by rw [hK]; exact cl, by rw [hK]; exact na, zip_lookup nd hi e3, hP1 w H1 f1 slot_tm ?_⟩
        have : Hold g.T H1 ((d, w) :: (hit h1 (.ref p) ++ (its ρ1 σ ++ τ))) := ⟨F, s, fun x hx => (by
          rcases List.mem_cons.mp hx with rfl | hx
          · exact (Own.fz e5).mpr e4
          · exact ow x hx), by rw [fpOf_fz e5]; exact n, by rw [fpOf_fz e5]; exact dd⟩
        exact this.sub (.cons_cons _ (List.sublist_append_right ..))
      · cases e
end
end VL
set_option Elab.async false
set_option linter.all false
set_option maxRecDepth 100000
namespace VL
open PySem PySem.Spec PyProof.Rows L2
def cutL (xs : List PV) (lo hi : Option Int) : List PV := (xs.drop (HT.sIx xs.length 0 lo)).take (HT.sIx xs.length xs.length hi - HT.sIx xs.length 0 lo)
def oCut (a : PV) (lo hi : Option Int) : Option PV :=
  match a with
  | .lst _ xs => some (.lst .ow (cutL xs lo hi))
  | .tup xs => some (.tup (cutL xs lo hi))
  | .str z => if z.length ≤ lim then some (.str (cutS z lo hi)) else none
  | _ => none
def part : Option (M Hd) → M (Option Int)
  | none => fun ρ => .ok none ρ
  | some f => fun ρ => (f ρ).bind fun h ρ1 => match hv ρ1 h with
    | .int i => .ok (some i) ρ1
    | _ => .stuck
def eSl (fa : M Hd) (fl fh : Option (M Hd)) : M Hd := fun ρ => (fa ρ).bind fun h ρ1 => (part fl ρ1).bind fun l ρ2 => (part fh ρ2).bind fun u ρ3 => ofO ρ3 (oCut (hv ρ3 h) l u)
def PO1 (g : G) (σ : L2.St) (τ : Its) (Q : Option Int → Hp → Prop) (o : Option Int) (ρ : List PV) : Prop := ∀ H', Fits g.s0 ρ σ → Hold g.T H' (its ρ σ ++ τ) → Q o H'
def trO (g : G) (f : M (Option Int)) : TO := fun σ H Q => ∃ ρ τ, Fits g.s0 ρ σ ∧ Hold g.T H (its ρ σ ++ τ) ∧ Post g σ τ (PO1 g σ τ Q) (f ρ)
abbrev OV (g : G) (X : Cx) (e : Option Expr) (f : Option (M Hd)) : Prop := PO X e (trO g (part f))
theorem reps_cut {T : Tb} {F : Hp} {xs : List PV} {vs : List V} (r : Reps T F xs vs) (lo hi : Option Int) : Reps T F (cutL xs lo hi) (cutV vs lo hi) := by
  unfold cutL cutV
  rw [r.length]
  exact (r.drop _).take _
section
variable {g : G} {X : Cx} {e : Expr} {fa : M Hd} {pos p2 : Pos} {lo hi : Option Expr} {fl fh : Option (M Hd)} {α : Type}
theorem ov_none : OV g X none none := ⟨fun pins s σ H Q I ⟨ρ, τ, f, h, hP⟩ => (po_none (X := X)).run pins s σ H Q I (hP H f h)⟩
theorem ov_some (ha : EV g X e fa) : OV g X (some e) (some fa) := ⟨fun pins s σ H Q I ⟨ρ, τ, f, h, hP⟩ => (po_some ha).run pins s σ H Q I (stepE (ε := []) f (nilT h) hP fun h1 ρ1 hP1 v H1 f1 s1 k1 => by
  rw [List.nil_append] at k1
  have m := mem_hv (τ := τ) f1 s1
  cases e2 : hv ρ1 h1 <;> simp only [e2] at hP1 m <;> try exact hP1.elim
  rename_i i
  exact ⟨i, k1.g_int m, hP1 H1 f1 k1.right⟩)⟩
theorem stepO {P : α → List PV → Prop} {k : Option Int → M α} {Q' : Option Int → Hp → Prop} {σ : L2.St} {H : Hp} {ρ : List PV} {τ ε : Its} {ft : M (Option Int)} (fit : Fits g.s0 ρ σ) (hold : Hold g.T H (its ρ σ ++ (ε ++ τ))) (hP : Post g σ τ P ((ft ρ).bind k))
    (hk : ∀ b ρ1, Post g σ τ P (k b ρ1) → ∀ H1, Fits g.s0 ρ1 σ → Hold g.T H1 (its ρ1 σ ++ (ε ++ τ)) → Q' b H1) : trO g ft σ H Q' := by
  refine ⟨ρ, ε ++ τ, fit, hold, ?_⟩
  cases e : ft ρ with
  | ok h ρ1 => rw [e] at hP; exact hk h ρ1 hP
  | exc c xs ρ1 => rw [e] at hP; exact exc_more hP
  | stuck => rw [e] at hP; exact hP
def rSlAll (K : PySem.W.Frag) : V → Option Int → Option Int → Hp → VK → Prop := fun x lo hi H Q => (rSlL K x lo hi H Q ∨ rSlA K x lo hi H Q) ∨ rSlS x lo hi H Q
theorem sl_all : SlR X (rSlAll X.K) := (sl_list.or sl_tupA).or sl_str
theorem cut_whole {xs : List PV} {lo hi : Option Int} (h : HT.sIx xs.length 0 lo = 0 ∧ HT.sIx xs.length xs.length hi = xs.length) : cutL xs lo hi = xs := by
  unfold cutL
  rw [h.1, h.2]; simp
theorem ev_sl (hK : X.K = g.T.K) (ha : EV g X e fa) (hl : OV g X lo fl) (hh : OV g X hi fh) : EV g X (.Subscript e (.Slice lo hi none p2) pos) (eSl fa fl fh) :=
  ev_of (pe_slice sl_all ha hl hh) fun σ H Q ρ τ f h hP => stepE (ε := []) f (nilT h) hP fun h1 ρ1 hP1 v H1 f1 s1 k1 => by
    rw [List.nil_append] at k1
    refine stepO (ε := hit h1 v) f1 (mid k1) hP1 fun l ρ2 hP2 H2 f2 k2 => ?_
    refine stepO (ε := hit h1 v) f2 k2 hP2 fun u ρ3 hP3 H3 f3 k3 => ?_
    cases e1 : oCut (hv ρ3 h1) l u with
    | none => rw [e1] at hP3; exact hP3.elim
    | some c =>
      rw [e1] at hP3
      have m : (hv ρ3 h1, v) ∈ its ρ3 σ ++ (hit h1 v ++ τ) := mem_of f3 s1 (fun x hx => by simp [hx]) fun x hx => by simp [hx]
      have dn : ∀ {z : V} {H' : Hp}, Hold g.T H' ((c, z) :: (its ρ3 σ ++ (hit h1 v ++ τ))) → Q z H' := fun {z H'} k => hP3 z H' f3 slot_tm (show Hold g.T H' ((c, z) :: (its ρ3 σ ++ τ)) from k.sub (.cons_cons _ (List.Sublist.append_left (List.sublist_append_right (hit h1 v) τ) (its ρ3 σ))))
      cases e2 : hv ρ3 h1 <;> rw [e2] at e1 m <;> simp only [oCut] at e1 <;> try cases e1
      · rename_i z
        split at e1 <;> cases e1
        rename_i hz
        exact .inr ⟨z, k3.g_str m, lim_le hz, dn k3.str⟩
      · rename_i xs
        have kk := k3
        obtain ⟨F, s, o, n, d⟩ := k3
        obtain ⟨p, vs, rfl, hp, r⟩ := o _ m
        simp only [PV.own, PV.fl, Bool.false_eq_true, if_false] at hp
        have hl := r.length
        refine .inl (.inr ⟨p, vs, rfl, by rw [hK]; exact s.seqT hp, fun z => ?_, fun z t ht => ?_⟩)
        · rw [hl] at z
          rw [cut_whole z] at dn
          exact dn (kk.dup m rfl)
        · exact dn (Hold.newF s o n d ht rfl ⟨t, _, rfl, SqT.of upd_same, (reps_cut r l u).mono (same_newF s ht _)⟩)
      · rename_i o' xs
        obtain ⟨p, vs, rfl, hp, hl, _⟩ := k3.g_lst m
        refine .inl (.inl ⟨p, vs, rfl, SqL.of hp, fun t ht => dn ?_⟩)
        exact Hold.new_own k3 ht rfl fun F s o => ⟨t, _, rfl, upd_same, reps_cut (reps_lst s o m hp) l u⟩
end
end VL
set_option Elab.async false
set_option linter.all false
set_option maxRecDepth 100000
namespace VL
open PySem PySem.Spec PyProof.Rows L2
def oLen : List PV → Option PV
  | [.lst _ xs] => some (.int (xs.length : Nat))
  | [.tup xs] => some (.int (xs.length : Nat))
  | [.scr ns] => some (.int (ns.length : Nat))
  | [.str x] => if x.length ≤ lim then some (.int (x.length : Nat)) else none
  | [.dK _ ks _] => some (.int (ks.length : Nat))
  | _ => none
def oList : List PV → Option PV
  | [.lst _ xs] => some (.lst .ow xs)
  | [.tup xs] => some (.lst .ow xs)
  | [.scr ns] => some (.lst .ow (ns.map .int))
  | _ => none
def oTuple : List PV → Option PV
  | [.lst _ xs] => some (.tup xs)
  | [.tup xs] => some (.tup xs)
  | _ => none
def oInt : List PV → Option PV
  | [.int i] => some (.int i)
  | [.bl b] => some (.int (if b then 1 else 0))
  | _ => none
def oAbs : List PV → Option PV
  | [.int i] => some (.int (if i < 0 then -i else i))
  | _ => none
/-- a value's built-in type -/
def tyN : PV → String
  | .non => "NoneType"
  | .bl _ => "bool"
  | .int _ => "int"
  | .str _ => "str"
  | .tup _ => "tuple"
  | .lst _ _ => "list"
  | .dK _ _ _ => "dict"
  | _ => ""
def oIsi : List PV → Option PV
  | [a, .ty n] => if tyN a = "" then none else (kitB (tyN a) n).map .bl
  | _ => none
section
variable {T : Tb} {X : Cx}
theorem one_arg {as : List PV} {vs : List V} {l : Its} {a : PV} (e : as = [a]) (hl : vs.length = as.length) (m : ∀ x ∈ as.zip vs, x ∈ l) : ∃ v, vs = [v] ∧ (a, v) ∈ l := by
  subst e
  match vs, hl with
  | [v], _ => exact ⟨v, rfl, m _ (by simp)⟩
theorem two_arg {as : List PV} {vs : List V} {l : Its} {a b : PV} (e : as = [a, b]) (hl : vs.length = as.length) (m : ∀ x ∈ as.zip vs, x ∈ l) : ∃ v w, vs = [v, w] ∧ (a, v) ∈ l ∧ (b, w) ∈ l := by
  subst e
  match vs, hl with
  | [v, w], _ => exact ⟨v, w, rfl, m _ (by simp), m _ (by simp)⟩
def rLenA (K : PySem.W.Frag) : List V → Hp → VK → Prop := fun xs H Q => ((∃ p ys, xs = [.ref p] ∧ (SqL K H p ys ∨ SqT K H p ys) ∧ Q (.int ys.length) H) ∨ (∃ z, xs = [.str z] ∧ z.length ≤ sizeLine ∧ Q (.int z.length) H)) ∨ ∃ a kvs, xs = [V.ref a] ∧ H a = some (.dK kvs) ∧ Q (.int kvs.length) H
theorem c_len : CallR X (.builtin "len") (rLenA X.K) := call_or2 (call_or2 call_len_seq call_len_str) call_lenD
theorem f_len : Fnv T oLen (rLenA T.K) := by
  intro H l as c vs Q k hl m0 e q
  unfold oLen at e
  split at e
  · cases e
    obtain ⟨v, rfl, m⟩ := one_arg rfl hl m0
    obtain ⟨p, vs, rfl, h1, l1, _⟩ := k.g_lst m
    refine .inl (.inl ⟨p, vs, rfl, .inl (SqL.of h1), q _ _ ?_⟩)
    rw [l1]; exact k.int
  · cases e
    obtain ⟨v, rfl, m⟩ := one_arg rfl hl m0
    obtain ⟨p, vs, rfl, h1, l1, _⟩ := k.g_tup m
    refine .inl (.inl ⟨p, vs, rfl, .inr h1, q _ _ ?_⟩)
    rw [l1]; exact k.int
  · cases e
    obtain ⟨v, rfl, m⟩ := one_arg rfl hl m0
    obtain ⟨_, _, ⟨p, rfl, h1⟩, _⟩ := k.get m
    refine .inl (.inl ⟨p, _, rfl, .inl h1, q _ _ ?_⟩)
    rw [List.length_map]; exact k.int
  · split at e <;> cases e
    rename_i x hx
    obtain ⟨v, rfl, m⟩ := one_arg rfl hl m0
    exact .inl (.inr ⟨x, by rw [k.g_str m], lim_le hx, q _ _ k.int⟩)
  · cases e
    obtain ⟨v, rfl, m⟩ := one_arg rfl hl m0
    obtain ⟨_, _, ⟨p, vs, rfl, h1, h2, _⟩, _⟩ := k.get m
    refine .inr ⟨p, _, rfl, h1, q _ _ ?_⟩
    rw [List.length_zip, ← h2, Nat.min_self]; exact k.int
  · cases e
theorem f_list : Fnv T oList (fun xs H Q => ∃ p ys, xs = [.ref p] ∧ (SqL T.K H p ys ∨ SqT T.K H p ys) ∧ ∀ l, H l = none → Q (.ref l) (upd H l (.lst ys))) := by
  intro H l as c vs Q k hl m0 e q
  unfold oList at e
  split at e
  · cases e
    obtain ⟨v, rfl, m⟩ := one_arg rfl hl m0
    obtain ⟨p, vs, rfl, h1, l1, _⟩ := k.g_lst m
    exact ⟨p, vs, rfl, .inl (SqL.of h1), fun t ht => q _ _ (Hold.new_own k ht rfl fun F s o => ⟨t, _, rfl, upd_same, reps_lst s o m h1⟩)⟩
  · cases e
    obtain ⟨v, rfl, m⟩ := one_arg rfl hl m0
    have kk := k
    obtain ⟨F, s, o, n, d⟩ := k
    obtain ⟨p, vs, rfl, hp, r⟩ := o _ m
    simp only [PV.own, PV.fl, Bool.false_eq_true, if_false] at hp
    refine ⟨p, vs, rfl, .inr (s.seqT hp), fun t ht => q _ _ ?_⟩
    -- the new list's items lie in this very F
    have e : Same H (upd H t (.lst vs)) := My.same_new ht _
    have np := fp_new o ht
    refine ⟨F, s.trans e, fun x hx => ?_, by rw [fpOf_ow rfl]; exact List.nodup_cons.mpr ⟨np, n⟩, fun q' hq => ?_⟩
    · rcases List.mem_cons.mp hx with rfl | hx
      · exact (Own.ow rfl).mpr ⟨t, vs, rfl, upd_same, r⟩
      · exact (o x hx).mono e (Same.refl F)
    · rw [fpOf_ow rfl] at hq
      rcases List.mem_cons.mp hq with rfl | hq
      · cases kk : F q' with
        | none => rfl
        | some u => have := s _ _ kk; rw [ht] at this; cases this
      · exact d q' hq
  · cases e
    obtain ⟨v, rfl, m⟩ := one_arg rfl hl m0
    obtain ⟨_, _, ⟨p, rfl, h1⟩, _⟩ := k.get m
    exact ⟨p, _, rfl, .inl h1, fun t ht => q _ _ (Hold.new_own k ht rfl fun F s o => ⟨t, _, rfl, upd_same, Reps.ints _⟩)⟩
  · cases e
theorem f_tuple : Fnv T oTuple (fun xs H Q => ∃ p ys, xs = [.ref p] ∧ ((SqL T.K H p ys ∧ ∀ l, H l = none → Q (.ref l) (upd H l (.tup ys))) ∨ (SqT T.K H p ys ∧ Q (.ref p) H))) := by
  intro H l as c vs Q k hl m0 e q
  unfold oTuple at e
  split at e
  · cases e
    obtain ⟨v, rfl, m⟩ := one_arg rfl hl m0
    obtain ⟨p, vs, rfl, h1, l1, _⟩ := k.g_lst m
    exact ⟨p, vs, rfl, .inl ⟨SqL.of h1, fun t ht => q _ _ (Hold.new_fz k ht rfl fun F s o => ⟨t, _, rfl, SqT.of upd_same, (reps_lst s o m h1).mono (same_newF s ht _)⟩)⟩⟩
  · cases e
    obtain ⟨v, rfl, m⟩ := one_arg rfl hl m0
    obtain ⟨p, vs, rfl, h1, l1, _⟩ := k.g_tup m
    exact ⟨p, vs, rfl, .inr ⟨h1, q _ _ (k.dup m rfl)⟩⟩
  · cases e
theorem f_int : Fnv T oInt (fun xs H Q => (∃ i, xs = [.int i] ∧ Q (.int i) H) ∨ ∃ k, xs = [.bl k] ∧ Q (.int (if k then 1 else 0)) H) := by
  intro H l as c vs Q k hl m0 e q
  unfold oInt at e
  split at e
  · cases e
    obtain ⟨v, rfl, m⟩ := one_arg rfl hl m0
    exact .inl ⟨_, by rw [k.g_int m], q _ _ k.int⟩
  · cases e
    obtain ⟨v, rfl, m⟩ := one_arg rfl hl m0
    exact .inr ⟨_, by rw [k.g_bl m], q _ _ k.int⟩
  · cases e
theorem f_abs : Fnv T oAbs (fun xs H Q => ∃ i, xs = [.int i] ∧ Q (.int (if i < 0 then -i else i)) H) := by
  intro H l as c vs Q k hl m0 e q
  unfold oAbs at e
  split at e
  · cases e
    obtain ⟨v, rfl, m⟩ := one_arg rfl hl m0
    exact ⟨_, by rw [k.g_int m], q _ _ k.int⟩
  · cases e
theorem ty_of {H : Hp} {l : Its} {a : PV} {v : V} (k : Hold T H l) (m : (a, v) ∈ l) (h : tyN a ≠ "") : TyX T.K H v (.type (tyN a)) := by
  obtain ⟨F, s, r, _⟩ := k.get m
  cases a with
  | non => cases r; exact .base .non
  | bl b => cases r; exact .base (.bl b)
  | int b => cases r; exact .base (.int b)
  | str b => cases r; exact .base (.str b)
  | lst o xs => obtain ⟨p, vs, rfl, h1, _⟩ := r; exact .base (.lst h1)
  | dK o ks xs => obtain ⟨p, vs, rfl, h1, _⟩ := r; exact .base (.dK h1)
  | tup xs =>
    obtain ⟨p, vs, rfl, h1, _⟩ := r
    rcases h1 with (h1 | ⟨o, h1⟩) | ⟨o, its, n, h1, h2, _⟩
    · exact .base (.tup h1)
    · exact .fTuple h1
    · exact .kTuple h1 h2
  | _ => simp [tyN] at h
theorem f_isi : Fnv T oIsi (rIsi T.K) := by
  intro H l as c vs Q k hl m0 e q
  unfold oIsi at e
  split at e
  · split at e
    · cases e
    · rename_i a n hn
      cases hk : kitB (tyN a) n with
      | none => rw [hk] at e; cases e
      | some b =>
        rw [hk] at e; cases e
        obtain ⟨v, w, rfl, m1, m2⟩ := two_arg rfl hl m0
        have e2 : w = .ty n := by obtain ⟨_, _, r, _⟩ := k.get m2; exact r
        subst e2
        exact ⟨v, .ty n, _, _, b, rfl, .ty n, ty_of k m1 hn, kit_ty hk, q _ _ k.bl⟩
  · cases e
end
theorem ev_tyN {g : G} {X : Cx} {x : Str} {n : String} {pos : Pos} (hg : Gl X x) (hm : X.mg x = none) (hv : bootBuiltins x = some (.type n)) (hn : x ≠ "__name__" := by decide) (hd : (x == ("__debug__" : Str)) = false := by decide) : EV g X (.Name x pos) (eC (.ty n)) :=
  ev_of (pe_bltn (v := .ty n) hg hm hv rfl hn hd) fun σ H Q ρ τ f h hP => hP (.ty n) H f slot_tm (h.add rfl fun F s o => by simp only [Rep])
def rgL (a b : Int) : List PV := (List.range (b - a).toNat).map fun i => PV.int (a + (i : Nat))
def oRg : Int → Int → Option (List PV) := fun a b => if a.natAbs ≤ lim ∧ b.natAbs ≤ lim then some (rgL a b) else none
def eRg1 (tup : Bool) (fa : M Hd) : M Hd := fun ρ => (fa ρ).bind fun h ρ1 => match hv ρ1 h with
  | .int n => (match oRg 0 n with | some xs => .ok (.tm (if tup = true then .tup xs else .lst .ow xs)) ρ1 | none => .stuck)
  | _ => .stuck
theorem Reps.rg {T : Tb} {F : Hp} (a b : Int) : Reps T F (rgL a b) (rgV a b) := by
  unfold rgL rgV
  generalize List.range (b - a).toNat = xs
  induction xs with
  | nil => exact .nil
  | cons x xs ih => exact .cons (by simp only [Rep]) rfl ih
theorem rg_ok {a b : Int} {xs : List PV} (h : oRg a b = some xs) : xs = rgL a b ∧ RgOk a b := by
  unfold oRg at h
  split at h
  · rename_i hc
    cases h
    have hl : (lim : Nat) = 100000 := rfl
    rw [hl] at hc
    exact ⟨rfl, by unfold RgOk; omega⟩
  · cases h
section
variable {g : G} {X : Cx} {a : Expr} {fa : M Hd} {p pos pos' p' : Pos}
theorem ev_listRg (hc : X.calm = true) (hg : Gl X "list") (hm : X.mg "list" = none) (hgr : Gl X "range") (hmr : X.mg "range" = none) (ha : EV g X a fa)
    (h1 : starEach [.Call (.Name "range" p') [a] [] pos'] X.env = (false, eval (.Call (.Name "range" p') [a] [] pos') X.env) :: starEach [] X.env := by rfl) (h2 : starEach [a] X.env = (false, eval a X.env) :: starEach [] X.env := by rfl) :
    EV g X (.Call (.Name "list" p) [.Call (.Name "range" p') [a] [] pos'] [] pos) (eRg1 false fa) :=
  ev_of (pe_listRg hc hg hm (prg_1 hgr hmr ha h2) h1) fun σ H Q ρ τ f h hP => stepE (ε := []) f (nilT h) hP fun h1 ρ1 hP1 v H1 f1 s1 k1 => by
    rw [List.nil_append] at k1
    have m := mem_hv (τ := τ) f1 s1
    cases e2 : hv ρ1 h1 <;> simp only [e2] at hP1 m <;> try exact hP1.elim
    rename_i n
    cases e3 : oRg 0 n with
    | none => simp only [e3] at hP1; exact hP1.elim
    | some xs =>
      simp only [e3] at hP1
      obtain ⟨rfl, ok⟩ := rg_ok e3
      exact ⟨n, k1.g_int m, ok, fun t ht => hP1 (.ref t) _ f1 slot_tm (Hold.new_own k1.right ht (a := .lst .ow _) rfl fun F s o => ⟨t, _, rfl, upd_same, .rg 0 n⟩)⟩
end
end VL
set_option Elab.async false
set_option linter.all false
set_option maxRecDepth 100000
namespace VL
open PySem PySem.Spec PyProof.Rows L2
def isSl (i : Nat) : Hd → Bool
  | .sl j => i == j
  | .tm _ => false
def okArgs : List Hd → List PV → Bool
  | [], _ => true
  | .tm _ :: hs, ρ => okArgs hs ρ
  | .sl i :: hs, ρ => (!(nth ρ i).own || !(hs.any (isSl i))) && okArgs hs ρ
def PV.reFl (o : Fl) (a : PV) : PV := if a.own = true then a.setFl o else a
def back : List PV → List Hd → List PV → List PV
  | ρ, [], _ => ρ
  | ρ, .tm _ :: hs, fin => back ρ hs fin.tail
  | ρ, .sl i :: hs, fin => back (if (nth ρ i).own = true then ρ.set i (PV.reFl (nth ρ i).fl (fin.headD .emp)) else ρ) hs fin.tail
def outs : List PV → List Hd → List PV
  | ρ, [] => ρ
  | ρ, .tm _ :: hs => outs ρ hs
  | ρ, .sl i :: hs => outs (if (nth ρ i).own = true then ρ.set i .emp else ρ) hs
theorem noSl {i : Nat} {x : PV} : ∀ {hs : List Hd} {ρ : List PV}, hs.any (isSl i) = false → okArgs hs (ρ.set i x) = okArgs hs ρ ∧ hs.map (hv (ρ.set i x)) = hs.map (hv ρ) ∧ outs (ρ.set i x) hs = (outs ρ hs).set i x
  | [], _, _ => ⟨rfl, rfl, rfl⟩
  | .tm a :: hs, ρ, h => by
    simp only [List.any_cons, isSl, Bool.false_or] at h
    obtain ⟨h1, h2, h3⟩ := noSl (x := x) (ρ := ρ) h
    exact ⟨by simp only [okArgs, h1], by simp only [List.map_cons, h2, hv], by simp only [outs, h3]⟩
  | .sl j :: hs, ρ, h => by
    simp only [List.any_cons, isSl, Bool.or_eq_false_iff, beq_eq_false_iff_ne] at h
    obtain ⟨hij, h⟩ := h
    have e := nth_set_ne (ρ := ρ) (a := x) hij
    obtain ⟨h1, h2, h3⟩ := noSl (x := x) (ρ := ρ) h
    refine ⟨by simp only [okArgs, h1, e], by simp only [List.map_cons, h2, hv, e], ?_⟩
    simp only [outs, e]
    split
    · rw [List.set_comm _ _ hij]
      exact (noSl (x := x) h).2.2
    · exact h3
theorem io_own {a : PV} (h : a.isIo = true) : a.own = true := by
  unfold PV.isIo at h
  unfold PV.own
  split at h
  · rename_i e; rw [e]
  · cases h
theorem fl_set {a : PV} {o : Fl} (h : a.own = true) (he : a.isErr = false) : (a.setFl o).fl = o := by
  cases a <;> first | rfl | (cases he; done) | (cases h; done)
theorem io_eq {a b : PV} (h : a.fl = b.fl) : a.isIo = b.isIo := by unfold PV.isIo; rw [h]
theorem reFl_io {a b : PV} (h : (PV.reFl b.fl a).isIo = true) : b.isIo = true := by
  unfold PV.reFl at h
  split at h
  · rename_i hc
    by_cases he : a.isErr = true
    · cases a <;> simp [PV.isErr] at he
      cases h
    · rw [← h]; exact (io_eq (fl_set hc (by simpa using he))).symm
  · rename_i hc
    exact absurd (io_own h) hc
theorem reFl_hold {T : Tb} {H : Hp} {l : Its} {a b : PV} {v : V} (hb : b.own = true) (h : Hold T H ((a, v) :: l)) : Hold T H ((PV.reFl b.fl a, v) :: l) := by
  unfold PV.reFl
  split
  · rename_i hc
    exact h.relabel hc fun z => by unfold PV.own at hb; rw [z] at hb; cases hb
  · exact h
section
variable {T : Tb} {H : Hp} {s0 : L2.St} {σ : L2.St}
theorem argsOut : ∀ {hs : List Hd} {vs : List V} {ρ : List PV} {τ : Its}, Fits s0 ρ σ → slotsAt σ hs vs → okArgs hs ρ = true → Hold T H (hits hs vs ++ (its ρ σ ++ τ)) → Hold T H ((hs.map (hv ρ)).zip vs ++ (its (outs ρ hs) σ ++ τ))
  | [], _, ρ, τ, f, c, _, h => by
    have c : _ = [] := c
    subst c
    simpa [hits, outs] using h
  | .tm a :: hs, _, ρ, τ, f, c, ok, h => by
    obtain ⟨v, vs', rfl, c1, c2⟩ := c
    simp only [hits, hit, List.cons_append, List.nil_append] at h
    have h1 : Hold T H (hits hs vs' ++ (its ρ σ ++ ((a, v) :: τ))) := h.perm (permc fun _ x => by simp only [List.count_append, List.count_cons]; omega)
    have h2 := argsOut f c2 (by simpa only [okArgs] using ok) h1
    simp only [List.map_cons, hv, List.zip_cons_cons, List.cons_append, outs]
    exact h2.perm (permc fun _ x => by simp only [List.count_append, List.count_cons]; omega)
  | .sl i :: hs, _, ρ, τ, f, c, ok, h => by
    obtain ⟨v, vs', rfl, c1, c2⟩ := c
    have ci := c1 i rfl
    simp only [okArgs, Bool.and_eq_true] at ok
    obtain ⟨ok1, ok2⟩ := ok
    simp only [hits, hit, List.nil_append] at h
    simp only [List.map_cons, hv, List.zip_cons_cons, List.cons_append, outs]
    by_cases ho : (nth ρ i).own = true
    · simp only [ho, Bool.not_true, Bool.false_or, Bool.not_eq_true'] at ok1
      obtain ⟨e1, e2, e3⟩ := noSl (x := .emp) (ρ := ρ) ok1
      rw [if_pos ho]
      have h1 : Hold T H (its ρ σ ++ (hits hs vs' ++ τ)) := h.perm (permc fun _ x => by simp only [List.count_append]; omega)
      have h2 := h1.slotOut f ci
      have f2 : Fits s0 (ρ.set i .emp) σ := f.re ci fun z => by cases z
      have h3 : Hold T H (hits hs vs' ++ (its (ρ.set i .emp) σ ++ ((nth ρ i, v) :: τ))) := h2.perm (permc fun _ x => by simp only [List.count_append, List.count_cons]; omega)
      have h4 := argsOut f2 c2 (by rw [e1]; exact ok2) h3
      rw [e2] at h4
      exact h4.perm (permc fun _ x => by simp only [List.count_append, List.count_cons]; omega)
    · rw [if_neg ho]
      have ho' : (nth ρ i).own = false := by simpa using ho
      have m : (nth ρ i, v) ∈ hits hs vs' ++ (its ρ σ ++ τ) := List.mem_append_right _ (List.mem_append_left _ (its_mem f.len ci))
      have h1 := h.dup m ho'
      have h2 : Hold T H (hits hs vs' ++ (its ρ σ ++ ((nth ρ i, v) :: τ))) := h1.perm (permc fun _ x => by simp only [List.count_append, List.count_cons]; omega)
      have h3 := argsOut f c2 ok2 h2
      exact h3.perm (permc fun _ x => by simp only [List.count_append, List.count_cons]; omega)
theorem argsIn : ∀ {hs : List Hd} {vs : List V} {fin : List PV} {ρ : List PV} {τ : Its}, Fits s0 ρ σ → slotsAt σ hs vs → okArgs hs ρ = true → Hold T H (fin.zip vs ++ (its (outs ρ hs) σ ++ τ)) → Fits s0 (back ρ hs fin) σ ∧ Hold T H (its (back ρ hs fin) σ ++ τ)
  | [], _, fin, ρ, τ, f, c, _, h => by
    have c : _ = [] := c
    subst c
    exact ⟨f, by simpa [outs, back] using h⟩
  | .tm a :: hs, _, fin, ρ, τ, f, c, ok, h => by
    obtain ⟨v, vs', rfl, c1, c2⟩ := c
    simp only [okArgs] at ok
    simp only [back, outs] at h ⊢
    cases fin with
    | nil => exact argsIn f c2 ok (by simpa using h)
    | cons x fin => exact argsIn f c2 ok (by rw [List.zip_cons_cons, List.cons_append] at h; exact h.tail)
  | .sl i :: hs, _, fin, ρ, τ, f, c, ok, h => by
    obtain ⟨v, vs', rfl, c1, c2⟩ := c
    have ci := c1 i rfl
    simp only [okArgs, Bool.and_eq_true] at ok
    obtain ⟨ok1, ok2⟩ := ok
    simp only [back, outs] at h ⊢
    by_cases ho : (nth ρ i).own = true
    · simp only [ho, Bool.not_true, Bool.false_or, Bool.not_eq_true'] at ok1
      rw [if_pos ho] at h ⊢
      -- what is handed back, at the slot's place
      have key : ∀ (x : PV), Hold T H ((x, v) :: (fin.tail.zip vs' ++ (its (outs (ρ.set i .emp) hs) σ ++ τ))) → Fits s0 (back (ρ.set i (PV.reFl (nth ρ i).fl x)) hs fin.tail) σ ∧ Hold T H (its (back (ρ.set i (PV.reFl (nth ρ i).fl x)) hs fin.tail) σ ++ τ) := by
        intro x hx
        have f2 : Fits s0 (ρ.set i (PV.reFl (nth ρ i).fl x)) σ := f.re ci reFl_io
        obtain ⟨e1, e2, e3⟩ := noSl (x := PV.reFl (nth ρ i).fl x) (ρ := ρ) ok1
        obtain ⟨_, _, e4⟩ := noSl (x := .emp) (ρ := ρ) ok1
        refine argsIn f2 c2 (by rw [e1]; exact ok2) ?_
        rw [e3]
        rw [e4] at hx
        have hx2 := reFl_hold ho hx
        have f3 : Fits s0 (outs ρ hs) σ := by
          have : ∀ {hs : List Hd} {vs : List V} {ρ : List PV}, Fits s0 ρ σ → slotsAt σ hs vs → Fits s0 (outs ρ hs) σ := by
            intro hs
            induction hs with
            | nil => intro vs ρ f c; exact f
            | cons h hs ih =>
              intro vs ρ f c
              obtain ⟨v, vs', rfl, c1, c2⟩ := c
              cases h with
              | tm a => exact ih f c2
              | sl j =>
                simp only [outs]
                split
                · exact ih (f.re (c1 j rfl) fun z => by cases z) c2
                · exact ih f c2
          exact this f c2
        have h4 : Hold T H ((PV.reFl (nth ρ i).fl x, v) :: (its ((outs ρ hs).set i .emp) σ ++ (fin.tail.zip vs' ++ τ))) := hx2.perm (permc fun _ y => by simp only [List.count_append, List.count_cons]; omega)
        have h5 := h4.slotIn f3 ci
        exact h5.perm (permc fun _ y => by simp only [List.count_append]; omega)
      cases fin with
      | nil => exact key .emp (by simpa using h.emp)
      | cons x fin => exact key x (by simpa using h)
    · rw [if_neg ho] at h ⊢
      cases fin with
      | nil => exact argsIn f c2 ok2 (by simpa using h)
      | cons x fin => exact argsIn f c2 ok2 (by rw [List.zip_cons_cons, List.cons_append] at h; exact h.tail)
end
def Fin (T : Tb) (vs : List V) (τ : Its) (Q : VK) (E : XK) : R PV → Prop
  | .ok a fin => ∀ v H', Hold T H' ((a, v) :: (fin.zip vs ++ τ)) → Q v H'
  | .exc c xs fin => ∀ (d : Option Addr) (ws : List V) (H' : Hp), XAt T H' c d ws → ws.length = xs.length → Hold T H' (xs.zip ws ++ (fin.zip vs ++ τ)) → E (.ref (T.ca c)) d H'
  | .stuck => False
/-- the def is worth F -/
def spF (T : Tb) (F : List PV → R PV) : Sp := fun vs H Q E => ∃ args τ, vs.length = args.length ∧ Hold T H (args.zip vs ++ τ) ∧ Fin T vs τ Q E (F args)
def eCall (F : List PV → R PV) (fs : M (List Hd)) : M Hd := fun ρ => (fs ρ).bind fun hs ρ1 =>
  if okArgs hs ρ1 = true then (match F (hs.map (hv ρ1)) with
    | .ok a fin => .ok (.tm a) (back ρ1 hs fin)
    | .exc c xs fin => .exc c xs (back ρ1 hs fin)
    | .stuck => .stuck) else .stuck
section
variable {g : G} {X : Cx} {k : Nat} {x : Str} {e : Expr} {es : List Expr} {fs : M (List Hd)} {p pos : Pos} {F : List PV → R PV}
/-- the callee's promise from the arguments -/
theorem call_fin {σ : L2.St} {τ : Its} {Q : VK} {hs : List Hd} {ρ1 : List PV} {vs : List V} {H1 : Hp} (f1 : Fits g.s0 ρ1 σ) (s1 : slotsAt σ hs vs) (k1 : Hold g.T H1 (hits hs vs ++ (its ρ1 σ ++ τ)))
    (hP : Post g σ τ (PE1 g σ τ Q) (if okArgs hs ρ1 = true then (match F (hs.map (hv ρ1)) with
      | .ok a fin => (.ok (.tm a) (back ρ1 hs fin) : R Hd)
      | .exc c xs fin => .exc c xs (back ρ1 hs fin)
      | .stuck => .stuck) else .stuck)) : spF g.T F vs H1 Q (WE g.W σ) := by
  split at hP
  · rename_i ok
    have k2 := argsOut f1 s1 ok k1
    obtain ⟨q1, _⟩ := mems_of (l := hits hs vs ++ (its ρ1 σ ++ τ)) f1 s1 (fun x hx => by simp [hx]) fun x hx => by simp [hx]
    refine ⟨_, _, q1, k2, ?_⟩
    cases e : F (hs.map (hv ρ1)) with
    | ok a fin =>
      rw [e] at hP
      intro v H' k3
      have k4 : Hold g.T H' (fin.zip vs ++ (its (outs ρ1 hs) σ ++ ((a, v) :: τ))) := k3.perm (permc fun _ y => by simp only [List.count_append, List.count_cons]; omega)
      obtain ⟨f5, k5⟩ := argsIn f1 s1 ok k4
      exact hP v H' f5 slot_tm (k5.perm (permc fun _ y => by simp only [hit, List.count_append, List.count_cons, List.count_nil]; omega))
    | exc c xs fin =>
      rw [e] at hP
      intro d ws H' hx hl k3
      have k4 : Hold g.T H' (fin.zip vs ++ (its (outs ρ1 hs) σ ++ (xs.zip ws ++ τ))) := k3.perm (permc fun _ y => by simp only [List.count_append]; omega)
      obtain ⟨f5, k5⟩ := argsIn f1 s1 ok k4
      exact hP d ws H' f5 hx hl (k5.perm (permc fun _ y => by simp only [List.count_append]; omega))
    | stuck => rw [e] at hP; exact hP
  · exact hP.elim
theorem ev_call (D : My.DnX X.prog X.w X.K X.mg X.base k x (spF g.T F)) (hr : My.RoomG k X.A) (hg : Gl X x) (tk : L2N.Takes X g.W) (ha : AV g X (e :: es) fs) (hdb : (x == ("__debug__" : Str)) = false := by decide)
    (he : starEach (e :: es) X.env = (false, eval e X.env) :: starEach es X.env := by rfl) (hpl : (backTo pos (starEach es X.env)).any (·.1) = false := by rfl) : EV g X (.Call (.Name x p) (e :: es) [] pos) (eCall F fs) :=
  ev_of (My.pe_callX D hr hg tk ha hdb he hpl) fun σ H Q ρ τ f h hP => stepA (ε := []) f (nilT h) hP fun hs ρ1 hP1 vs H1 f1 s1 k1 => call_fin f1 s1 k1 hP1
end
end VL
set_option Elab.async false
set_option linter.all false
set_option maxRecDepth 100000
namespace VL
open PySem PySem.Spec PyProof.Rows L2
def callH {α : Type} (F : List PV → R PV) (hs : List Hd) (ρ1 : List PV) (k : PV → List PV → R α) : R α :=
  if okArgs hs ρ1 = true then (match F (hs.map (hv ρ1)) with
    | .ok a fin => k a (back ρ1 hs fin)
    | .exc c xs fin => .exc c xs (back ρ1 hs fin)
    | .stuck => .stuck) else .stuck
def isObj (c : String) : PV → Bool
  | .obj _ c' _ => c' == c
  | _ => false
def eMeth (c : String) (F : List PV → R PV) (fo : M Hd) (fs : M (List Hd)) : M Hd := fun ρ => (fo ρ).bind fun h ρ1 => if isObj c (hv ρ1 h) = true then (fs ρ1).bind fun hs ρ2 => callH F (h :: hs) ρ2 fun a ρ3 => .ok (.tm a) ρ3 else .stuck
/-- a property: nothing is let out -/
def eProp (c : String) (F : List PV → R PV) (fo : M Hd) : M Hd := fun ρ => (fo ρ).bind fun h ρ1 => if isObj c (hv ρ1 h) = true then (match F [hv ρ1 h] with
  | .ok a fin => .ok (.tm a) (back ρ1 [h] fin)
  | _ => .stuck) else .stuck
def eMake (c : String) (imm : Bool) (F : List PV → R PV) (fs : M (List Hd)) : M Hd := fun ρ => (fs ρ).bind fun hs ρ1 => if okArgs hs ρ1 = true then (match F (.obj .io c [] :: hs.map (hv ρ1)) with
  | .ok .non (s :: fin) => .ok (.tm (if imm = true then s.setFl .fz else s)) (back ρ1 hs fin)
  | .exc c' xs (_ :: fin) => .exc c' xs (back ρ1 hs fin)
  | _ => .stuck) else .stuck
section
variable {g : G} {X : Cx} {k : Nat} {x m : Str} {o e : Expr} {es : List Expr} {fo : M Hd} {fs : M (List Hd)} {p pos apos : Pos} {F : List PV → R PV} {c : String} {C : Addr} {sp : Sp} {ta : TE} {t : TA}
/-- o.m(e, ..), what m lets out by the slots -/
def tMethV (C : Addr) (m : Str) (sp : Sp) (E : L2.St → XK) (ta : TE) (t : TA) : TE := fun σ H Q => ta σ H fun x H1 => ∃ a dx fs, x = .ref a ∧ H1 a = some (.ins C dx fs) ∧ fs.lookup m = none ∧ t σ H1 fun vs H2 => sp (x :: vs) H2 Q (E σ)
theorem pe_methV {pl : Sem Bool} {W : WX} (D : My.DnMX X.prog X.w X.K X.mg X.base k C m sp) (cl : Cls X.K C) (hr : My.RoomG k X.A) (tk : L2N.Takes X W) (he : PE X o ta) (ha : PA X (e :: es) t)
    (hst : starEach (e :: es) X.env = (false, eval e X.env) :: starEach es X.env := by rfl) (hpl : (backTo pos (starEach es X.env)).any (·.1) = false := by rfl)
    (ht : eval (.Call (.Attribute o m apos) (e :: es) [] pos) X.env = (do
      let ov ← eval o X.env
      standAt apos.atName
      let (f, first) ← holding [ov] (getMethod ov m pl)
      callWith pos f first (backTo pos (starEach (e :: es) X.env)) (backToKw pos (keywordEach [] X.env))) := by rfl) :
    PE X (.Call (.Attribute o m apos) (e :: es) [] pos) (tMethV C m sp (WE W) ta t) := by
  obtain ⟨f, fd, ps, F, hm, hb⟩ := D.ex
  refine ⟨fun pins s σ H Q I h => ?_⟩
  refine PySem.W.methodCall_KW (pl := pl) (thn (he.run pins s σ H _ I h) fun u s1 ⟨x, H1, I1, rx, a, dx, fs, ex, ea, l, q⟩ => ?_) ht
  subst ex
  obtain rfl : u = Value.ref a := rx
  refine getmeth_ok I1 ea cl hm l ?_
  refine PySem.W.callWith_K (first := [.ref a]) (h₀ := X.base) I.ok.mod.kin hm.kp (thn (ha.run pos pins s1 σ H1 _ I1 q) fun us s2 ⟨vs, H2, I2, r, q2⟩ => ⟨I2.kIn, ?_⟩) hst hpl
  exact My.run_G (us := .ref a :: us) (ws := .ref a :: vs) F hr hb (L2N.passAt tk σ) I2 (.cons rfl r) q2
theorem isObj_eq {a : PV} (h : isObj c a = true) : ∃ o xs, a = .obj o c xs := by
  cases a <;> simp [isObj] at h
  subst h
  exact ⟨_, _, rfl⟩
theorem lookup_out {ns : List Str} {vs : List V} (h : m ∉ ns) : (ns.zip vs).lookup m = none := by
  induction ns generalizing vs with
  | nil => rfl
  | cons n ns ih =>
    cases vs with
    | nil => rfl
    | cons v vs =>
      rw [List.zip_cons_cons, List.lookup_cons]
      have : (m == n) = false := by simpa using fun z => h (by rw [z]; exact List.mem_cons_self)
      rw [this]
      exact ih fun z => h (List.mem_cons_of_mem _ z)
/-- what the receiver is -/
theorem recv {σ : L2.St} {h : Hd} {v : V} {ρ1 : List PV} {τ : Its} {H1 : Hp} (f1 : Fits g.s0 ρ1 σ) (s1 : slotAt σ h v) (k1 : Hold g.T H1 (hit h v ++ (its ρ1 σ ++ τ))) (ho : isObj c (hv ρ1 h) = true) (hm : m ∉ g.T.flds c) :
    ∃ a dx fs, v = .ref a ∧ H1 a = some (.ins (g.T.ca c) dx fs) ∧ fs.lookup m = none := by
  obtain ⟨o, xs, e⟩ := isObj_eq ho
  have mm := mem_hv (τ := τ) f1 s1
  rw [e] at mm
  obtain ⟨p, dx, vs, rfl, hp, hl, _⟩ := k1.g_obj mm
  exact ⟨p, dx, _, rfl, hp, lookup_out hm⟩
theorem callH_fin {σ : L2.St} {τ : Its} {Q : VK} {hs : List Hd} {ρ1 : List PV} {vs : List V} {H1 : Hp} (f1 : Fits g.s0 ρ1 σ) (s1 : slotsAt σ hs vs) (k1 : Hold g.T H1 (hits hs vs ++ (its ρ1 σ ++ τ)))
    (hP : Post g σ τ (PE1 g σ τ Q) (callH F hs ρ1 fun a ρ3 => .ok (.tm a) ρ3)) : spF g.T F vs H1 Q (WE g.W σ) := call_fin f1 s1 k1 hP
theorem ev_meth {pl : Sem Bool} (hK : X.K = g.T.K) (D : My.DnMX X.prog X.w X.K X.mg X.base k (g.T.ca c) m (spF g.T F)) (cl : Cls g.T.K (g.T.ca c)) (nm : m ∉ g.T.flds c) (hr : My.RoomG k X.A) (tk : L2N.Takes X g.W) (he : EV g X o fo) (ha : AV g X (e :: es) fs)
    (hst : starEach (e :: es) X.env = (false, eval e X.env) :: starEach es X.env := by rfl) (hpl : (backTo pos (starEach es X.env)).any (·.1) = false := by rfl)
    (ht : eval (.Call (.Attribute o m apos) (e :: es) [] pos) X.env = (do
      let ov ← eval o X.env
      standAt apos.atName
      let (f, first) ← holding [ov] (getMethod ov m pl)
      callWith pos f first (backTo pos (starEach (e :: es) X.env)) (backToKw pos (keywordEach [] X.env))) := by rfl) : EV g X (.Call (.Attribute o m apos) (e :: es) [] pos) (eMeth c F fo fs) :=
  ev_of (pe_methV (pl := pl) D (by rw [hK]; exact cl) hr tk he ha hst hpl ht) fun σ H Q ρ τ f h hP => stepE (ε := []) f (nilT h) hP fun h1 ρ1 hP1 v H1 f1 s1 k1 => by
    rw [List.nil_append] at k1
    split at hP1
    · rename_i ho
      obtain ⟨a, dx, fl, ev, ea, nl⟩ := recv f1 s1 k1 ho nm
      refine ⟨a, dx, fl, ev, ea, nl, ?_⟩
      refine stepA (ε := hit h1 v) f1 (mid k1) hP1 fun hs ρ2 hP2 vs H2 f2 s2 k2 => ?_
      refine callH_fin (hs := h1 :: hs) f2 ⟨v, vs, rfl, s1, s2⟩ ?_ hP2
      exact k2.perm (permc fun _ y => by simp only [hits, List.count_append]; omega)
    · exact hP1.elim
theorem passes0 {P : Program} {w : World} {X : Cx} : Passes (L2N.CX P w) X E0 := by
  intro pins σ H s e s' I h
  obtain ⟨a, B, H', cls, d, _, _, _, _, _, _, _, z⟩ := h
  exact z.elim
/-- o.m, a property -/
structure DnPX (P : Program) (w : World) (K : PySem.W.Frag) (mg : Str → Option Value) (base : Heap) (k : Nat) (C : Addr) (m : Str) (sp : Sp) : Prop where
  ex : ∃ (p f : Addr) (fd : FuncData) (ps : List Str), My.FnG P w K mg base (L2N.CX P w) k f fd ps sp ∧ PropOf K C m p f ∧ Binds K fd ps []
theorem ev_prop (hK : X.K = g.T.K) (D : DnPX X.prog X.w X.K X.mg X.base k (g.T.ca c) m (spF g.T F)) (cl : Cls g.T.K (g.T.ca c)) (hr : My.RoomG (k + 1) X.A) (he : EV g X o fo)
    (h1 : attributeBase o m X.env (eval o X.env) = eval o X.env := by rfl) : EV g X (.Attribute o m pos) (eProp c F fo) := by
  obtain ⟨p, f, fd, ps, FF, q, b⟩ := D.ex
  refine ev_of (My.pe_propG he (by rw [hK]; exact cl) q FF hr b passes0 h1) fun σ H Q ρ τ ft h hP => stepE (ε := []) ft (nilT h) hP fun h1 ρ1 hP1 v H1 f1 s1 k1 => ?_
  rw [List.nil_append] at k1
  split at hP1
  · rename_i ho
    obtain ⟨o1, xs1, e1⟩ := isObj_eq ho
    have m1 := mem_hv (τ := τ) f1 s1
    rw [e1] at m1
    obtain ⟨p1, dx1, ws1, rfl, hp1, _, _⟩ := k1.g_obj m1
    refine ⟨p1, dx1, _, rfl, hp1, ?_⟩
    have ok : okArgs [h1] ρ1 = true := by
      cases h1 with
      | tm a => rfl
      | sl i => simp [okArgs]
    have k2 : Hold g.T H1 (hits [h1] [.ref p1] ++ (its ρ1 σ ++ τ)) := k1.perm (permc fun _ y => by simp only [hits, List.count_append, List.count_nil]; omega)
    have sa : slotsAt σ [h1] [.ref p1] := ⟨_, [], rfl, s1, rfl⟩
    have k3 := argsOut f1 sa ok k2
    refine ⟨[hv ρ1 h1], _, rfl, by simpa using k3, ?_⟩
    cases e : F [hv ρ1 h1] with
    | ok a fin =>
      rw [e] at hP1
      intro v H' k4
      have k5 : Hold g.T H' (fin.zip [.ref p1] ++ (its (outs ρ1 [h1]) σ ++ ((a, v) :: τ))) := k4.perm (permc fun _ y => by simp only [List.count_append, List.count_cons]; omega)
      obtain ⟨f5, k6⟩ := argsIn f1 sa ok k5
      exact hP1 v H' f5 slot_tm (k6.perm (permc fun _ y => by simp only [hit, List.count_append, List.count_cons, List.count_nil]; omega))
    | exc _ _ _ => rw [e] at hP1; exact hP1.elim
    | stuck => rw [e] at hP1; exact hP1.elim
  · exact hP1.elim
/-- C(e, ..) -/
theorem ev_make {imm : Bool} (D : My.DnIX X.prog X.w X.K X.mg X.base k x (g.T.ca c) (spF g.T F)) (hr : My.RoomG (k + 1) X.A) (hg : Gl X x) (tk : L2N.Takes X g.W) (ha : AV g X (e :: es) fs) (hdb : (x == ("__debug__" : Str)) = false := by decide)
    (he : starEach (e :: es) X.env = (false, eval e X.env) :: starEach es X.env := by rfl) (hpl : (backTo pos (starEach es X.env)).any (·.1) = false := by rfl) : EV g X (.Call (.Name x p) (e :: es) [] pos) (eMake c imm F fs) :=
  ev_of (My.pe_makeX D hr hg tk ha hdb he hpl) fun σ H Q ρ τ f h hP => stepA (ε := []) f (nilT h) hP fun hs ρ1 hP1 vs H1 f1 s1 k1 => by
    rw [List.nil_append] at k1
    intro y dx ny ndx ne
    split at hP1
    · rename_i ok
      have k2 := argsOut f1 s1 ok k1
      obtain ⟨q1, _⟩ := mems_of (l := hits hs vs ++ (its ρ1 σ ++ τ)) f1 s1 (fun x hx => by simp [hx]) fun x hx => by simp [hx]
      have ny' : (upd H1 dx (.own y)) y = none := by rw [upd_ne (Ne.symm ne)]; exact ny
      have k3 : Hold g.T (upd (upd H1 dx (.own y)) y (.ins (g.T.ca c) dx [])) ((.obj .io c [], .ref y) :: ((hs.map (hv ρ1)).zip vs ++ (its (outs ρ1 hs) σ ++ τ))) :=
        Hold.new_own (k2.same (My.same_new ndx _)) ny' rfl fun F s o => ⟨y, dx, [], rfl, by rw [upd_same, List.zip_nil_right], Nat.zero_le _, .nil⟩
      refine ⟨.obj .io c [] :: hs.map (hv ρ1), _, by simp [q1], k3, ?_⟩
      cases e : F (.obj .io c [] :: hs.map (hv ρ1)) with
      | ok a fin =>
        rw [e] at hP1
        cases a <;> try exact hP1.elim
        cases fin with
        | nil => exact hP1.elim
        | cons s fin =>
          intro v H' k4
          refine ⟨k4.g_non List.mem_cons_self, ?_⟩
          have k5 : Hold g.T H' (fin.zip vs ++ (its (outs ρ1 hs) σ ++ ((s, .ref y) :: τ))) := k4.tail.perm (permc fun _ z => by simp only [List.zip_cons_cons, List.count_append, List.count_cons]; omega)
          obtain ⟨f5, k6⟩ := argsIn f1 s1 ok k5
          have k7 : Hold g.T H' ((s, .ref y) :: (its (back ρ1 hs fin) σ ++ τ)) := k6.perm (permc fun _ z => by simp only [List.count_append, List.count_cons]; omega)
          refine hP1 (.ref y) H' f5 slot_tm ?_
          show Hold g.T H' ((if imm = true then s.setFl .fz else s, .ref y) :: (its (back ρ1 hs fin) σ ++ τ))
          split
          · exact k7.freeze
          · exact k7
      | exc c' xs fin =>
        rw [e] at hP1
        cases fin with
        | nil => exact hP1.elim
        | cons s fin =>
          intro d ws H' hx hl k4
          have k5 : Hold g.T H' (fin.zip vs ++ (its (outs ρ1 hs) σ ++ (xs.zip ws ++ τ))) := by
            have : Hold g.T H' ((s, .ref y) :: (fin.zip vs ++ (its (outs ρ1 hs) σ ++ (xs.zip ws ++ τ)))) := k4.perm (permc fun _ z => by simp only [List.zip_cons_cons, List.count_append, List.count_cons]; omega)
            exact this.tail
          obtain ⟨f5, k6⟩ := argsIn f1 s1 ok k5
          exact hP1 d ws H' f5 hx hl (k6.perm (permc fun _ z => by simp only [List.count_append]; omega))
      | stuck => rw [e] at hP1; exact hP1.elim
    · exact hP1.elim
end
end VL
set_option Elab.async false
set_option linter.all false
set_option maxRecDepth 100000
namespace VL
open PySem PySem.Spec PyProof.Rows L2
def sNx : M Fw := fun ρ => .ok .nx ρ
def sSeq (f k : M Fw) : M Fw := fun ρ => match f ρ with
  | .ok .nx ρ1 => k ρ1
  | r => r
def sE (f : M Hd) : M Fw := fun ρ => (f ρ).bind fun _ ρ1 => .ok .nx ρ1
def setAt (i : Nat) (a : PV) (ρ : List PV) : Option (List PV) := if ((nth ρ i).isIo || a.isIo) = true then none else some (ρ.set i a)
def keep (h : Hd) (ρ : List PV) : Option (PV × List PV) := match h with
  | .tm a => some (a, ρ)
  | .sl _ => take ρ h
def ofL : Option (List PV) → R Fw
  | some ρ => .ok .nx ρ
  | none => .stuck
def sSet (i : Nat) (f : M Hd) : M Fw := fun ρ => (f ρ).bind fun h ρ1 => match keep h ρ1 with
  | some (a, ρ2) => ofL (setAt i a ρ2)
  | none => .stuck
def sRet (f : M Hd) : M Fw := fun ρ => (f ρ).bind fun h ρ1 => match h with
  | .tm a => .ok (.rt a) ρ1
  | .sl j => if (nth ρ1 j).isIo = true then .stuck else .ok (.rt (nth ρ1 j)) (ρ1.set j .emp)
def sIf (t : M Bool) (f k : M Fw) : M Fw := fun ρ => (t ρ).bind fun b ρ1 => if b = true then f ρ1 else k ρ1
/-- targets -/
abbrev Tg := PV → List PV → Option (List PV)
def gN (i : Nat) : Tg := setAt i
def gL : List Tg → List PV → List PV → Option (List PV)
  | [], [], ρ => some ρ
  | t :: ts, x :: xs, ρ => match t x ρ with
    | some ρ1 => gL ts xs ρ1
    | none => none
  | _, _, _ => none
def gT (ts : List Tg) : Tg := fun a ρ => match a with
  | .tup xs => gL ts xs ρ
  | _ => none
/-- x[i] = e -/
def sSub (fo fi fv : M Hd) : M Fw := fun ρ => (fv ρ).bind fun h0 ρ1 => (fo ρ1).bind fun h1 ρ2 => (fi ρ2).bind fun h2 ρ3 => match h1, take ρ3 h0 with
  | .sl j, some (a, ρ4) => (match nth ρ4 j, hv ρ4 h2 with
    | .lst .fz _, _ => .stuck
    | .lst o xs, .int k => (match ixN xs.length k with
      | some m => .ok .nx (ρ4.set j (.lst o (xs.set m a)))
      | none => .stuck)
    | _, _ => .stuck)
  | _, _ => .stuck
/-- x.f = e, f the i-th attribute of the class c -/
def putA (xs : List PV) (i : Nat) (a : PV) : Option (List PV) := if i < xs.length then some (xs.set i a) else if i = xs.length then some (xs ++ [a]) else none
def sAt (c : String) (i : Nat) (fo fv : M Hd) : M Fw := fun ρ => (fv ρ).bind fun h0 ρ1 => (fo ρ1).bind fun h1 ρ2 => match h1, take ρ2 h0 with
  | .sl j, some (a, ρ3) => (match nth ρ3 j with
    | .obj .fz _ _ => .stuck
    | .obj o c' xs => if c' = c then (match putA xs i a with
      | some ys => .ok .nx (ρ3.set j (.obj o c' ys))
      | none => .stuck) else .stuck
    | _ => .stuck)
  | _, _ => .stuck
def loop (t : Tg) (f : M Fw) : List PV → M Fw
  | [], ρ => .ok .nx ρ
  | x :: xs, ρ => match t x ρ with
    | some ρ1 => (match f ρ1 with
      | .ok .nx ρ2 => loop t f xs ρ2
      | .ok .ct ρ2 => loop t f xs ρ2
      | .ok .bk ρ2 => .ok .nx ρ2
      | r => r)
    | none => .stuck
def sFor (fi : M (List PV)) (t : Tg) (f : M Fw) : M Fw := fun ρ => (fi ρ).bind fun xs ρ1 => loop t f xs ρ1
def wh (t : M Bool) (f : M Fw) : Nat → M Fw
  | 0, _ => .stuck
  | n + 1, ρ => (t ρ).bind fun b ρ1 => if b = true then (match f ρ1 with
      | .ok .nx ρ2 => wh t f n ρ2
      | .ok .ct ρ2 => wh t f n ρ2
      | .ok .bk ρ2 => .ok .nx ρ2
      | r => r) else .ok .nx ρ1
def tYesV : M Bool := fun ρ => .ok true ρ
section
variable {g : G} {X : Cx} {e o tg iter : Expr} {st : Stmt} {rest : List Stmt} {f k : M Fw} {fe fo fi fv : M Hd} {ft : M Bool} {pos : Pos}
theorem bv_nil : BV g X [] sNx := bv_of pss_nil fun D σ H ρ τ ft h hP => hP σ H ft h
theorem bv_one (h : SV g X st f) : BV g X [st] f := pss_one h
theorem bv_cons (h1 : SV g X st f) (h2 : BV g X rest k) : BV g X (st :: rest) (sSeq f k) :=
  bv_of (pss_cons h1 h2) fun D σ H ρ τ ft h hP => ⟨ρ, τ, ft, h, by
    unfold sSeq at hP
    cases e : f ρ with
    | ok a ρ1 =>
      rw [e] at hP
      cases a with
      | nx => exact fun σ' H' f' h' => ⟨ρ1, τ, f', h', hP⟩
      | rt a => exact hP
      | bk => exact hP
      | ct => exact hP
    | exc c xs ρ1 => rw [e] at hP; exact hP
    | stuck => rw [e] at hP; exact hP⟩
theorem sv_expr (he : EV g X e fe) (hs : swapsWith e none pos.line X.env = pure false := by rfl) : SV g X (.Expr e pos) (sE fe) :=
  sv_of (ps_expr he hs) fun D σ H ρ τ ft h hP => stepES ft h hP fun h1 ρ1 hP1 v H1 f1 s1 k1 => hP1 σ H1 f1 k1.right
theorem setAt_ok {i : Nat} {a : PV} {ρ ρ' : List PV} {σ : L2.St} {H : Hp} {v : V} {τ : Its} (ft : Fits g.s0 ρ σ) (h : Hold g.T H ((a, v) :: (its ρ σ ++ τ))) (e : setAt i a ρ = some ρ') : Fits g.s0 ρ' (σ.set i (some v)) ∧ Hold g.T H (its ρ' (σ.set i (some v)) ++ τ) := by
  unfold setAt at e
  split at e
  · cases e
  · rename_i hc
    cases e
    simp only [Bool.not_eq_true, Bool.or_eq_false_iff] at hc
    refine ⟨ft.set hc.1 hc.2, ?_⟩
    by_cases hi : i < ρ.length
    · exact h.slot ft hi
    · rw [List.set_eq_of_length_le (by omega), List.set_eq_of_length_le (by rw [ft.len]; omega)]
      exact h.tail
theorem keep_ok {ρ ρ' : List PV} {σ : L2.St} {H : Hp} {v : V} {τ : Its} {h : Hd} {a : PV} (ft : Fits g.s0 ρ σ) (c : slotAt σ h v) (hh : Hold g.T H (hit h v ++ (its ρ σ ++ τ))) (e : keep h ρ = some (a, ρ')) : Fits g.s0 ρ' σ ∧ Hold g.T H ((a, v) :: (its ρ' σ ++ τ)) := by
  cases h with
  | tm b =>
    simp only [keep, Option.some.injEq, Prod.mk.injEq] at e
    obtain ⟨rfl, rfl⟩ := e
    exact ⟨ft, hh⟩
  | sl i =>
    obtain ⟨f1, _, k1⟩ := take_ok ft c hh e
    exact ⟨f1, k1⟩
theorem sv_set {i : Nat} {x : Str} {pos' : Pos} (hN : X.N.Nodup) (hi : X.N[i]? = some x) (hx : Loc X.env.scope x) (he : EV g X e fe) (hs : swapsWith e (some (.Name x pos')) pos.line X.env = pure false := by rfl)
    (hf : X.fn x = true ∨ X.env.scope.names.lookup x = some .local := by first | exact .inl rfl | exact .inr rfl | assumption) : SV g X (.Assign [.Name x pos'] e pos) (sSet i fe) :=
  sv_of (ps_set hN hi hx he hs hf) fun D σ H ρ τ ft h hP => stepES ft h hP fun h1 ρ1 hP1 v H1 f1 s1 k1 => by
    cases e1 : keep h1 ρ1 with
    | none => simp only [e1] at hP1; exact hP1.elim
    | some p =>
      obtain ⟨a, ρ2⟩ := p
      simp only [e1] at hP1
      obtain ⟨f2, k2⟩ := keep_ok f1 s1 k1 e1
      cases e2 : setAt i a ρ2 with
      | none => rw [e2] at hP1; exact hP1.elim
      | some ρ3 =>
        rw [e2] at hP1
        obtain ⟨f3, k3⟩ := setAt_ok f2 k2 e2
        exact hP1 _ H1 f3 k3
theorem sv_ret (he : EV g X e fe) : SV g X (.Return (some e) pos) (sRet fe) :=
  sv_of (ps_ret he) fun D σ H ρ τ ft h hP => stepES ft h hP fun h1 ρ1 hP1 v H1 f1 s1 k1 => by
    cases h1 with
    | tm a => exact hP1 v σ H1 f1 k1
    | sl j =>
      simp only at hP1
      split at hP1
      · exact hP1.elim
      · rename_i hc
        have cj := s1 j rfl
        have k2 : Hold g.T H1 (its ρ1 σ ++ τ) := by simpa [hit] using k1
        exact hP1 v σ H1 (f1.re cj fun z => by cases z) (k2.slotOut f1 cj)
theorem sv_if {c : Expr} {a b : List Stmt} (hc : TV g X c ft) (ha : BV g X a f) (hb : BV g X b k) : SV g X (.If c a b pos) (sIf ft f k) :=
  sv_of (ps_if hc ha hb) fun D σ H ρ τ fit h hP => stepTS fit h hP fun c ρ1 hP1 H1 f1 k1 => by
    cases c with
    | true => exact ⟨ρ1, τ, f1, k1, hP1⟩
    | false => exact ⟨ρ1, τ, f1, k1, hP1⟩
theorem wipe_set (σ : L2.St) (i : Nat) : ∀ is : List Nat, (wipe σ is).set i none = wipe (σ.set i none) is
  | [] => rfl
  | j :: is => by
    show ((wipe σ is).set j none).set i none = (wipe (σ.set i none) is).set j none
    rw [← wipe_set σ i is]
    by_cases e : i = j
    · subst e; rfl
    · rw [List.set_comm _ _ (Ne.symm e)]
theorem wipe_app (σ : L2.St) : ∀ a b : List Nat, wipe σ (a ++ b) = wipe (wipe σ b) a
  | [], _ => rfl
  | i :: a, b => by
    show (wipe σ (a ++ b)).set i none = (wipe (wipe σ b) a).set i none
    rw [wipe_app σ a b]
theorem wipe_comm (σ : L2.St) : ∀ a b : List Nat, wipe (wipe σ a) b = wipe (wipe σ b) a
  | [], _ => rfl
  | i :: a, b => by
    show wipe ((wipe σ a).set i none) b = (wipe (wipe σ b) a).set i none
    rw [← wipe_set, wipe_comm σ a b]
def trG (g : G) (t : Tg) (is : List Nat) : TG := fun v σ H Q => ∃ a ρ τ, Fits g.s0 ρ σ ∧ a.own = false ∧ Hold g.T H ((a, v) :: (its ρ σ ++ τ)) ∧ ∃ ρ', t a ρ = some ρ' ∧ ∀ σ' H', wipe σ' is = wipe σ is → Fits g.s0 ρ' σ' → Hold g.T H' (its ρ' σ' ++ τ) → Q σ' H'
abbrev GV (g : G) (X : Cx) (e : Expr) (t : Tg) (is : List Nat) : Prop := PG X e (trG g t is)
def trGs (g : G) (ts : List Tg) (is : List Nat) : TGs := fun vs σ H Q => ∃ as ρ τ, Fits g.s0 ρ σ ∧ vs.length = as.length ∧ (∀ a ∈ as, a.own = false) ∧ Hold g.T H (as.zip vs ++ (its ρ σ ++ τ)) ∧ ∃ ρ', gL ts as ρ = some ρ' ∧ ∀ σ' H', wipe σ' is = wipe σ is → Fits g.s0 ρ' σ' → Hold g.T H' (its ρ' σ' ++ τ) → Q σ' H'
abbrev GsV (g : G) (X : Cx) (es : List Expr) (ts : List Tg) (is : List Nat) : Prop := PGs X es (trGs g ts is)
theorem pg_mono {t t' : TG} (h : PG X tg t) (q : ∀ v σ H Q, t' v σ H Q → t v σ H Q) : PG X tg t' := ⟨fun pins s σ H v u Q I r hw => h.run pins s σ H v u Q I r (q _ _ _ _ hw)⟩
theorem pgs_mono {es : List Expr} {t t' : TGs} (h : PGs X es t) (q : ∀ v σ H Q, t' v σ H Q → t v σ H Q) : PGs X es t' := ⟨fun pins s σ H v u Q I r hw => h.run pins s σ H v u Q I r (q _ _ _ _ hw)⟩
theorem gv_name {i : Nat} {x : Str} (hN : X.N.Nodup) (hi : X.N[i]? = some x) (hx : Loc X.env.scope x) (hf : X.fn x = true ∨ X.env.scope.names.lookup x = some .local := by first | exact .inl rfl | exact .inr rfl | assumption) : GV g X (.Name x pos) (gN i) [i] :=
  pg_mono (pg_name hN hi hx hf) fun v σ H Q ⟨a, ρ, τ, ft, _, h, ρ', e, q⟩ => by
    obtain ⟨f2, k2⟩ := setAt_ok ft h e
    exact q _ _ (by show (σ.set i (some v)).set i none = σ.set i none; rw [List.set_set]) f2 k2
theorem gsv_nil : GsV g X [] [] [] := pgs_mono pgs_nil fun vs σ H Q ⟨as, ρ, τ, ft, hl, ho, h, ρ', e, q⟩ => by
  cases as with
  | nil =>
    simp only [gL, Option.some.injEq] at e
    subst e
    refine ⟨?_, q _ _ rfl ft (by simpa using h)⟩
    cases vs <;> simp at hl; rfl
  | cons a as => cases e
theorem gsv_cons {es : List Expr} {t : Tg} {ts : List Tg} {is is' : List Nat} (h1 : GV g X e t is) (h2 : GsV g X es ts is') (hs : (assignEach (e :: es) X.env).map (·.2) = assign e X.env :: (assignEach es X.env).map (·.2) := by rfl) : GsV g X (e :: es) (t :: ts) (is ++ is') :=
  pgs_mono (pgs_cons h1 h2 hs) fun vs σ H Q ⟨as, ρ, τ, ft, hl, ho, h, ρ', e, q⟩ => by
    cases as with
    | nil => cases e
    | cons a as =>
      cases vs with
      | nil => simp at hl
      | cons v vs =>
        simp only [gL] at e
        cases e1 : t a ρ with
        | none => rw [e1] at e; cases e
        | some ρ1 =>
          rw [e1] at e
          rw [List.zip_cons_cons, List.cons_append] at h
          have k1 : Hold g.T H ((a, v) :: (its ρ σ ++ (as.zip vs ++ τ))) := h.perm (permc fun _ x => by simp only [List.count_append, List.count_cons]; omega)
          refine ⟨v, vs, rfl, a, ρ, _, ft, ho a List.mem_cons_self, k1, ρ1, e1, fun σ' H' w' f' k' => ?_⟩
          refine ⟨as, ρ1, τ, f', by simpa using hl, fun b hb => ho b (List.mem_cons_of_mem _ hb), k'.perm (permc fun _ x => by simp only [List.count_append]; omega), ρ', e, fun σ2 H2 w2 => q σ2 H2 ?_⟩
          rw [wipe_app, wipe_app, w2, wipe_comm σ', w', wipe_comm σ]
theorem gv_tup {es : List Expr} {k : Nat} {ts : List Tg} {n : Nat} {is : List Nat} (hK : X.K = g.T.K) (hc : X.calm = true) (h : GsV g X es ts is) (hl : ts.length = n) (hn : (assignEach es X.env).length = n := by rfl) (hst : (assignEach es X.env).findIdx? (·.1) = none := by rfl) : GV g X (.Tuple es k pos) (gT ts) is :=
  pg_mono (pg_tup hc h hn hst) fun v σ H Q ⟨a, ρ, τ, ft, ho, h, ρ', e, q⟩ => by
    cases a <;> simp only [gT] at e <;> try cases e
    rename_i xs
    have kk := h
    obtain ⟨F, s, o, nn, d⟩ := h
    obtain ⟨p, vs, ev, hp, r⟩ := o _ List.mem_cons_self
    simp only at ev
    subst ev
    simp only [PV.own, PV.fl, Bool.false_eq_true, if_false] at hp
    have own : ∀ x ∈ xs, x.own = false := fun x hx => by
      obtain ⟨i, hi⟩ := List.mem_iff_getElem?.mp hx
      obtain ⟨_, _, _, z⟩ := r.at hi
      exact z
    have gll : ∀ {ts : List Tg} {xs ρ ρ' : List PV}, gL ts xs ρ = some ρ' → xs.length = ts.length := by
      intro ts
      induction ts with
      | nil => intro xs ρ ρ' e; cases xs <;> simp [gL] at e; rfl
      | cons t ts ih =>
        intro xs ρ ρ' e
        cases xs with
        | nil => simp [gL] at e
        | cons x xs =>
          simp only [gL] at e
          split at e
          · simpa using ih e
          · cases e
    refine ⟨p, vs, rfl, by rw [hK]; exact s.seqT hp, by rw [r.length, gll e, hl], xs, ρ, τ, ft, r.length, own, ?_, ρ', e, q⟩
    have base : Hold g.T H (its ρ σ ++ τ) := kk.tail
    -- the items, in this very heap
    have all : ∀ (xs : List PV) (vs : List V), Reps g.T F xs vs → ∀ l : Its, (∀ x ∈ l, Own g.T H F x.1 x.2) ∧ (fpOf l).Nodup ∧ (∀ p ∈ fpOf l, F p = none) → (∀ x ∈ xs.zip vs ++ l, Own g.T H F x.1 x.2) ∧ (fpOf (xs.zip vs ++ l)).Nodup ∧ ∀ p ∈ fpOf (xs.zip vs ++ l), F p = none := by
      intro xs
      induction xs with
      | nil => intro vs r l hl; simpa using hl
      | cons x xs ih =>
        intro vs r l hl
        obtain ⟨v, vs', rfl, h1, ho, h2⟩ := r.inv
        obtain ⟨q1, q2, q3⟩ := ih vs' h2 l hl
        rw [List.zip_cons_cons, List.cons_append, fpOf_fz ho]
        refine ⟨fun y hy => ?_, q2, q3⟩
        rcases List.mem_cons.mp hy with rfl | hy
        · exact (Own.fz ho).mpr h1
        · exact q1 y hy
    obtain ⟨q1, q2, q3⟩ := all xs vs r (its ρ σ ++ τ) ⟨fun x hx => o x (List.mem_cons_of_mem _ hx), by rw [fpOf_fz rfl] at nn; exact nn, by rw [fpOf_fz rfl] at d; exact d⟩
    exact ⟨F, s, q1, q2, q3⟩
end
end VL
set_option Elab.async false
set_option linter.all false
set_option maxRecDepth 100000
namespace VL
open PySem PySem.Spec PyProof.Rows L2
def PI1 (g : G) (σ : L2.St) (τ : Its) (R : It → Hp → Prop) (xs : List PV) (ρ : List PV) : Prop :=
  ∀ (J : It) (H' : Hp) (τx : Its) (K : Hp → Prop) (Y : Nat → Hp → V → Hp → Prop), Walk J xs.length K Y → (∀ H l, Hold g.T H (τx ++ l) → K H) →
    (∀ i H x H' l a, xs[i]? = some a → Hold g.T H (τx ++ l) → Y i H x H' → Hold g.T H' ((a, x) :: (τx ++ l))) → (∀ a ∈ xs, a.own = false) → Fits g.s0 ρ σ → Hold g.T H' (τx ++ (its ρ σ ++ τ)) → R J H'
def trI (g : G) (f : M (List PV)) : TI := fun σ H R => ∃ ρ τ, Fits g.s0 ρ σ ∧ Hold g.T H (its ρ σ ++ τ) ∧ Post g σ τ (PI1 g σ τ R) (f ρ)
abbrev IV (g : G) (X : Cx) (tg iter : Expr) (f : M (List PV)) : Prop := PI X tg iter (trI g f)
def seqOf : PV → Option (List PV)
  | .lst _ xs => some xs
  | .tup xs => some xs
  | .scr ns => some (ns.map .int)
  | _ => none
def ofX (ρ : List PV) : Option (List PV) → R (List PV)
  | some xs => .ok xs ρ
  | none => .stuck
def iSeq (f : M Hd) : M (List PV) := fun ρ => (f ρ).bind fun h ρ1 => match take ρ1 h with
  | some (a, ρ2) => ofX ρ2 (seqOf a)
  | none => .stuck
def iRg1 (fs : M (List Hd)) : M (List PV) := fun ρ => (fs ρ).bind fun hs ρ1 => match hs.map (hv ρ1) with
  | [.int n] => ofX ρ1 (oRg 0 n)
  | _ => .stuck
def iRg2 (fs : M (List Hd)) : M (List PV) := fun ρ => (fs ρ).bind fun hs ρ1 => match hs.map (hv ρ1) with
  | [.int a, .int b] => ofX ρ1 (oRg a b)
  | _ => .stuck
section
variable {g : G} {X : Cx} {e o tg iter : Expr} {st : Stmt} {rest : List Stmt} {f k : M Fw} {fe fo fi fv : M Hd} {fs : M (List Hd)} {fx : M (List PV)} {ft tt : M Bool} {pos : Pos} {es : List Expr}
theorem iv_of {t : TI} (h : PI X tg iter t) (q : ∀ σ H R ρ τ, Fits g.s0 ρ σ → Hold g.T H (its ρ σ ++ τ) → Post g σ τ (PI1 g σ τ R) (fx ρ) → t σ H R) : IV g X tg iter fx :=
  ⟨fun pins s σ H R I ⟨ρ, τ, h1, h2, h3⟩ => h.run pins s σ H R I (q σ H R ρ τ h1 h2 h3)⟩
theorem ownAdd {T : Tb} {F H : Hp} {l : Its} {ys : List PV} {vs : List V} {i : Nat} {b : PV} {x : V} (s : Same F H) (o : ∀ x ∈ l, Own T H F x.1 x.2) (n : (fpOf l).Nodup) (d : ∀ p ∈ fpOf l, F p = none) (r : Reps T F ys vs) (hb : ys[i]? = some b) (hx : vs[i]? = some x) : Hold T H ((b, x) :: l) := by
  obtain ⟨w, h1, h2, h3⟩ := r.at hb
  rw [hx] at h1; cases h1
  refine ⟨F, s, fun y hy => ?_, by rw [fpOf_fz h3]; exact n, by rw [fpOf_fz h3]; exact d⟩
  rcases List.mem_cons.mp hy with rfl | hy
  · exact (Own.fz h3).mpr h2
  · exact o y hy
/-- a list at p, wherever it lies -/
theorem lst_at {T : Tb} {fl : Fl} {xs : List PV} {p : Addr} (H : Hp) (l : Its) (k : Hold T H l) (m : (PV.lst fl xs, V.ref p) ∈ l) : ∃ vs : List V, SqL T.K H p vs ∧ vs.length = xs.length ∧ ∀ (i : Nat) (x : V), (∀ ws : List V, SqL T.K H p ws → ws[i]? = some x) → ∀ b, xs[i]? = some b → Hold T H ((b, x) :: l) := by
  obtain ⟨p', vs, ev, h1, hl, _⟩ := k.g_lst m
  cases ev
  obtain ⟨F, s, o, n, d⟩ := k
  exact ⟨vs, SqL.of h1, hl, fun i x hw b hb => ownAdd s o n d (reps_lst s o m h1) hb (hw vs (SqL.of h1))⟩
theorem tup_at {T : Tb} {xs : List PV} {p : Addr} (H : Hp) (l : Its) (k : Hold T H l) (m : (PV.tup xs, V.ref p) ∈ l) : ∃ vs : List V, SqT T.K H p vs ∧ vs.length = xs.length ∧ ∀ (i : Nat) (x : V), (∀ ws : List V, SqT T.K H p ws → ws[i]? = some x) → ∀ b, xs[i]? = some b → Hold T H ((b, x) :: l) := by
  obtain ⟨F, s, o, n, d⟩ := k
  obtain ⟨p', vs, ev, h1, r⟩ := o _ m
  cases ev
  simp only [PV.own, PV.fl, Bool.false_eq_true, if_false] at h1
  exact ⟨vs, s.seqT h1, r.length, fun i x hw b hb => ownAdd s o n d r hb (hw vs (s.seqT h1))⟩
theorem scr_at {T : Tb} {ns : List Int} {p : Addr} (H : Hp) (l : Its) (k : Hold T H l) (m : (PV.scr ns, V.ref p) ∈ l) : ∃ vs : List V, SqL T.K H p vs ∧ vs.length = (ns.map PV.int).length ∧ ∀ (i : Nat) (x : V), (∀ ws : List V, SqL T.K H p ws → ws[i]? = some x) → ∀ b, (ns.map PV.int)[i]? = some b → Hold T H ((b, x) :: l) := by
  obtain ⟨_, s0, ⟨p', ev, h1⟩, _⟩ := k.get m
  cases ev
  obtain ⟨F, s, o, n, d⟩ := k
  exact ⟨_, h1, by simp, fun i x hw b hb => ownAdd s o n d (Reps.ints ns) hb (hw _ h1)⟩
/-- a sequence for good: a list or a tuple at p; its items wherever it lies -/
theorem seq_at {T : Tb} {a : PV} {v : V} {xs : List PV} {H : Hp} {l : Its} (k : Hold T H l) (m : (a, v) ∈ l) (e : seqOf a = some xs) :
    ∃ p, v = .ref p ∧ ((∀ (H : Hp) (l : Its), Hold T H l → (a, V.ref p) ∈ l → ∃ vs : List V, SqL T.K H p vs ∧ vs.length = xs.length ∧ ∀ (i : Nat) (x : V), (∀ ws : List V, SqL T.K H p ws → ws[i]? = some x) → ∀ b, xs[i]? = some b → Hold T H ((b, x) :: l)) ∨
      (∀ (H : Hp) (l : Its), Hold T H l → (a, V.ref p) ∈ l → ∃ vs : List V, SqT T.K H p vs ∧ vs.length = xs.length ∧ ∀ (i : Nat) (x : V), (∀ ws : List V, SqT T.K H p ws → ws[i]? = some x) → ∀ b, xs[i]? = some b → Hold T H ((b, x) :: l))) := by
  cases a <;> simp only [seqOf] at e <;> try cases e
  · obtain ⟨p, vs, rfl, _⟩ := k.g_tup m
    exact ⟨p, rfl, .inr tup_at⟩
  · obtain ⟨p, vs, rfl, _⟩ := k.g_lst m
    exact ⟨p, rfl, .inl lst_at⟩
  · obtain ⟨_, _, ⟨p, rfl, h1⟩, _⟩ := k.get m
    exact ⟨p, rfl, .inl scr_at⟩
theorem walk_L {K : PySem.W.Frag} {a : Addr} {n : Nat} : Walk (Itl K a) n (fun H => ∃ vs, SqL K H a vs ∧ vs.length = n) (fun i H x H' => H' = H ∧ ∀ vs, SqL K H a vs → vs[i]? = some x) :=
  ⟨fun i _ hi ⟨vs, q, hl⟩ => ⟨vs, vs[i]'(by omega), q, by simp⟩, fun _ ⟨vs, q, hl⟩ => ⟨vs, q, by omega⟩, fun _ _ _ _ _ _ y => y⟩
theorem walk_T {K : PySem.W.Frag} {a : Addr} {n : Nat} : Walk (Itt K a) n (fun H => ∃ vs, SqT K H a vs ∧ vs.length = n) (fun i H x H' => H' = H ∧ ∀ vs, SqT K H a vs → vs[i]? = some x) :=
  ⟨fun i _ hi ⟨vs, q, hl⟩ => ⟨vs, vs[i]'(by omega), q, by simp⟩, fun _ ⟨vs, q, hl⟩ => ⟨vs, q, by omega⟩, fun _ _ _ _ _ _ y => y⟩
def iSqV (K : PySem.W.Frag) (tl : TE) : TI := fun σ H R => tl σ H fun x H1 => ∃ a, x = .ref a ∧ (((∃ xs, SqL K H1 a xs) ∧ R (Itl K a) H1) ∨ ((∃ xs, SqT K H1 a xs) ∧ R (Itt K a) H1))
theorem pi_sqV {tl : TE} (hl : PE X e tl) : PI X tg e (iSqV X.K tl) := by
  refine ⟨fun pins s σ H R I h => ?_⟩
  refine thn (hl.run pins s σ H _ I h) fun v s1 ⟨x, H1, I1, r1, q1⟩ => ?_
  obtain ⟨a, ex, hq⟩ := q1
  subst ex
  cases r1
  rcases hq with ⟨⟨xs, hq⟩, q⟩ | ⟨⟨xs, hq⟩, q⟩
  · obtain ⟨its, rv, p, hz⟩ := I1.list hq
    refine wpAny_pyIter_list p.isList ?_
    refine ⟨s1.heap.objs.size, [s1.heap.objs.size], _, _, H1, rfl, I1.kept (t' := s1.toks) fun b o e => Heap.get?_push_of_some _ e, turn_list a _, ⟨_, Heap.get?_push_size _ rfl, rfl, rfl⟩, fun b hb => ?_, q⟩
    have e : b = s1.heap.objs.size := by simpa using hb
    subst e
    exact I1.fpOk (Nat.le_refl _) (I1.hok.fresh (Nat.le_refl _))
  · obtain ⟨its, rv, p, hz⟩ := I1.tuple hq
    refine wpAny_pyIter_tuple (show s1.heap.IsTuple a its.toArray from p) ?_
    refine ⟨s1.heap.objs.size, [s1.heap.objs.size], _, _, H1, rfl, I1.kept (t' := s1.toks) fun b o e => Heap.get?_push_of_some _ e, turn_tuple a _, ⟨_, Heap.get?_push_size _ rfl, rfl, rfl⟩, fun b hb => ?_, q⟩
    have e : b = s1.heap.objs.size := by simpa using hb
    subst e
    exact I1.fpOk (Nat.le_refl _) (I1.hok.fresh (Nat.le_refl _))
theorem items_own {T : Tb} {H : Hp} {l : Its} {a : PV} {v : V} {xs : List PV} (k : Hold T H l) (m : (a, v) ∈ l) (e : seqOf a = some xs) : ∀ b ∈ xs, b.own = false := by
  obtain ⟨F, s, r, _⟩ := k.get m
  have ro : ∀ {xs : List PV} {vs : List V}, Reps T F xs vs → ∀ b ∈ xs, b.own = false := fun r x hx => by
    obtain ⟨i, hi⟩ := List.mem_iff_getElem?.mp hx
    obtain ⟨_, _, _, z⟩ := r.at hi
    exact z
  cases a <;> simp only [seqOf] at e <;> try cases e
  · obtain ⟨_, _, _, _, r⟩ := r; exact ro r
  · obtain ⟨_, _, _, _, r⟩ := r; exact ro r
  · exact ro (Reps.ints (T := T) (F := F) _)
theorem iseq_q (hK : X.K = g.T.K) : ∀ (σ : L2.St) (H : Hp) (R : It → Hp → Prop) (ρ : List PV) (τ : Its), Fits g.s0 ρ σ → Hold g.T H (its ρ σ ++ τ) → Post g σ τ (PI1 g σ τ R) (iSeq fe ρ) → iSqV X.K (trE g fe) σ H R :=
  fun σ H R ρ τ ft h hP => stepE (ε := []) ft (nilT h) hP fun h1 ρ1 hP1 v H1 f1 s1 k1 => by
    rw [List.nil_append] at k1
    cases e1 : take ρ1 h1 with
    | none => simp only [e1] at hP1; exact hP1.elim
    | some p =>
      obtain ⟨a, ρ2⟩ := p
      simp only [e1] at hP1
      obtain ⟨f2, o2, k2⟩ := take_ok f1 s1 k1 e1
      cases e2 : seqOf a with
      | none => rw [e2] at hP1; exact hP1.elim
      | some xs =>
        rw [e2] at hP1
        have own := items_own k2 List.mem_cons_self e2
        obtain ⟨p, rfl, hq⟩ := seq_at k2 List.mem_cons_self e2
        refine ⟨p, rfl, ?_⟩
        rw [hK]
        rcases hq with hq | hq
        · obtain ⟨vs, q1, q2, _⟩ := hq _ _ k2 List.mem_cons_self
          refine .inl ⟨⟨vs, q1⟩, hP1 (Itl g.T.K p) H1 [(a, .ref p)] _ _ walk_L (fun H l k => ?_) (fun i H x H' l b hb k y => ?_) own f2 k2⟩
          · obtain ⟨vs, q1, q2, _⟩ := hq H _ k (by simp)
            exact ⟨vs, q1, q2⟩
          · obtain ⟨_, _, _, q3⟩ := hq H _ k (by simp)
            obtain ⟨rfl, y⟩ := y
            exact q3 i x y b hb
        · obtain ⟨vs, q1, q2, _⟩ := hq _ _ k2 List.mem_cons_self
          refine .inr ⟨⟨vs, q1⟩, hP1 (Itt g.T.K p) H1 [(a, .ref p)] _ _ walk_T (fun H l k => ?_) (fun i H x H' l b hb k y => ?_) own f2 k2⟩
          · obtain ⟨vs, q1, q2, _⟩ := hq H _ k (by simp)
            exact ⟨vs, q1, q2⟩
          · obtain ⟨_, _, _, q3⟩ := hq H _ k (by simp)
            obtain ⟨rfl, y⟩ := y
            exact q3 i x y b hb
theorem iv_seq (hK : X.K = g.T.K) (he : EV g X e fe) : IV g X tg e (iSeq fe) := iv_of (pi_sqV he) (iseq_q hK)
theorem rgL_at {a b : Int} {i : Nat} {x : PV} (h : (rgL a b)[i]? = some x) : x = .int (a + (i : Nat)) := by
  unfold rgL at h
  rw [List.getElem?_map] at h
  cases e : (List.range (b - a).toNat)[i]? with
  | none => rw [e] at h; cases h
  | some j =>
    rw [e] at h
    rw [List.getElem?_range (by have := (List.getElem?_eq_some_iff.mp e).1; simpa using this)] at e
    cases e
    cases h; rfl
theorem rgL_own {a b : Int} : ∀ x ∈ rgL a b, x.own = false := fun x hx => by
  unfold rgL at hx
  obtain ⟨i, _, rfl⟩ := List.mem_map.mp hx
  rfl
theorem rgL_length (a b : Int) : (rgL a b).length = (b - a).toNat := by unfold rgL; simp
theorem one_vals {σ : L2.St} {hs : List Hd} {ρ : List PV} {vs : List V} {a : PV} {l : Its} (c : slotsAt σ hs vs) (e : hs.map (hv ρ) = [a]) (m : ∀ x ∈ (hs.map (hv ρ)).zip vs, x ∈ l) : ∃ v, vs = [v] ∧ (a, v) ∈ l := by
  match hs, e with
  | [h], e =>
    obtain ⟨v, vs', rfl, _, c2⟩ := c
    have c2 : vs' = [] := c2
    subst c2
    simp only [List.map_cons, List.map_nil, List.cons.injEq, and_true] at e
    subst e
    exact ⟨v, rfl, m _ (by simp)⟩
theorem two_vals {σ : L2.St} {hs : List Hd} {ρ : List PV} {vs : List V} {a b : PV} {l : Its} (c : slotsAt σ hs vs) (e : hs.map (hv ρ) = [a, b]) (m : ∀ x ∈ (hs.map (hv ρ)).zip vs, x ∈ l) : ∃ v w, vs = [v, w] ∧ (a, v) ∈ l ∧ (b, w) ∈ l := by
  match hs, e with
  | [h, h'], e =>
    obtain ⟨v, vs', rfl, _, w, vs2, rfl, _, c2⟩ := c
    have c2 : vs2 = [] := c2
    subst c2
    simp only [List.map_cons, List.map_nil, List.cons.injEq, and_true] at e
    obtain ⟨rfl, rfl⟩ := e
    exact ⟨v, w, rfl, m _ (by simp), m _ (by simp)⟩
theorem iv_rg1 {a : Expr} {p : Pos} (hg : Gl X "range") (hm : X.mg "range" = none) (ha : AV g X [a] fs) (hs : starEach [a] X.env = [(false, eval a X.env)] := by rfl) : IV g X tg (.Call (.Name "range" p) [a] [] pos) (iRg1 fs) :=
  iv_of (pi_range1 hg hm ha hs) fun σ H R ρ τ ft h hP => stepA (ε := []) ft (nilT h) hP fun hs ρ1 hP1 vs H1 f1 s1 k1 => by
    rw [List.nil_append] at k1
    obtain ⟨q1, q2⟩ := mems_of (l := hits hs vs ++ (its ρ1 σ ++ τ)) f1 s1 (fun x hx => by simp [hx]) fun x hx => by simp [hx]
    split at hP1
    · rename_i n e
      obtain ⟨v, rfl, m⟩ := one_vals s1 e q2
      cases e2 : oRg 0 n with
      | none => rw [e2] at hP1; exact hP1.elim
      | some xs =>
        rw [e2] at hP1
        obtain ⟨rfl, ok⟩ := rg_ok e2
        refine ⟨n, by rw [k1.g_int m], ok.2.2.1, ok.2.2.2.1, hP1 (Itr 0 n.toNat) H1 [] _ _ (by rw [rgL_length, Int.sub_zero]; exact walk_range) (fun _ _ _ => trivial) (fun i H x H' l a ha k y => ?_) rgL_own f1 (by simpa using k1.right)⟩
        obtain ⟨rfl, rfl⟩ := y
        rw [rgL_at ha]
        exact k.int
    · exact hP1.elim
theorem iv_rg2 {a b : Expr} {p : Pos} (hg : Gl X "range") (hm : X.mg "range" = none) (ha : AV g X [a, b] fs) (hs : starEach [a, b] X.env = [(false, eval a X.env), (false, eval b X.env)] := by rfl) (hs2 : starEach [b] X.env = [(false, eval b X.env)] := by rfl) : IV g X tg (.Call (.Name "range" p) [a, b] [] pos) (iRg2 fs) :=
  iv_of (pi_range2 hg hm ha hs hs2) fun σ H R ρ τ ft h hP => stepA (ε := []) ft (nilT h) hP fun hs ρ1 hP1 vs H1 f1 s1 k1 => by
    rw [List.nil_append] at k1
    obtain ⟨q1, q2⟩ := mems_of (l := hits hs vs ++ (its ρ1 σ ++ τ)) f1 s1 (fun x hx => by simp [hx]) fun x hx => by simp [hx]
    split at hP1
    · rename_i a b e
      obtain ⟨v, w, rfl, m1, m2⟩ := two_vals s1 e q2
      cases e2 : oRg a b with
      | none => rw [e2] at hP1; exact hP1.elim
      | some xs =>
        rw [e2] at hP1
        obtain ⟨rfl, ok⟩ := rg_ok e2
        refine ⟨a, b, by rw [k1.g_int m1, k1.g_int m2], ⟨ok.1, ok.2.1, ok.2.2.1, ok.2.2.2.1⟩, hP1 (Itr a (b - a).toNat) H1 [] _ _ (by rw [rgL_length]; exact walk_range) (fun _ _ _ => trivial) (fun i H x H' l c hc k y => ?_) rgL_own f1 (by simpa using k1.right)⟩
        obtain ⟨rfl, rfl⟩ := y
        rw [rgL_at hc]
        exact k.int
    · exact hP1.elim
theorem ps1_more {D D' : Ends} {τ τx : Its} {ρ' : List PV} (nx : ∀ ρ2, f ρ' = .ok .nx ρ2 ∨ f ρ' = .ok .ct ρ2 → ∀ σ H, Fits g.s0 ρ2 σ → Hold g.T H (its ρ2 σ ++ (τx ++ τ)) → D'.nx σ H ∧ D'.ct σ H)
    (bk : D'.bk = D.nx) (rt : D'.rt = D.rt) (hP : PS1 g τ D (match f ρ' with
      | .ok .nx ρ2 => k ρ2
      | .ok .ct ρ2 => k ρ2
      | .ok .bk ρ2 => .ok .nx ρ2
      | r => r)) : PS1 g (τx ++ τ) D' (f ρ') := by
  have dn : ∀ {l : Its} {H : Hp} {ρ2 : List PV} {σ : L2.St}, Hold g.T H (l ++ (its ρ2 σ ++ (τx ++ τ))) → Hold g.T H (l ++ (its ρ2 σ ++ τ)) := fun k => k.sub (List.Sublist.append_left (List.Sublist.append_left (List.sublist_append_right ..) _) _)
  cases e : f ρ' with
  | ok a ρ2 =>
    rw [e] at hP nx
    cases a with
    | nx => exact fun σ H f' k' => (nx ρ2 (.inl rfl) σ H f' k').1
    | ct => exact fun σ H f' k' => (nx ρ2 (.inr rfl) σ H f' k').2
    | bk => intro σ H f' k'; rw [bk]; exact hP σ H f' (dn (l := []) k')
    | rt a => intro v σ H f' k'; rw [rt]; exact hP v σ H f' (dn (l := [(a, v)]) k')
  | exc c xs ρ2 => rw [e] at hP; exact fun d vs σ H f' hx hl k' => hP d vs σ H f' hx hl (dn k')
  | stuck => rw [e] at hP; exact hP.elim
theorem for_q {t : Tg} {is : List Nat} : ∀ (D : Ends) (σ : L2.St) (H : Hp) (ρ : List PV) (τ : Its), Fits g.s0 ρ σ → Hold g.T H (its ρ σ ++ τ) → PS1 g τ D (sFor fx t f ρ) → tFor (trI g fx) (trG g t is) (trS g f) D σ H := by
    intro D σ H ρ τ ft h hP
    refine ⟨ρ, τ, ft, h, ?_⟩
    cases e : fx ρ with
    | stuck => unfold sFor at hP; rw [e] at hP; exact hP
    | exc c xs ρ1 => unfold sFor at hP; rw [e] at hP; exact fun d vs H' => hP d vs σ H'
    | ok xs ρ1 =>
      unfold sFor at hP
      rw [e] at hP
      intro J H' τx K Y w hG hY own f1 k1
      refine for_it w (fun i σ H => ∃ ρ, Fits g.s0 ρ σ ∧ Hold g.T H (τx ++ (its ρ σ ++ τ)) ∧ PS1 g τ D (loop t f (xs.drop i) ρ)) ⟨ρ1, f1, k1, hP⟩ (fun i σ H _ ⟨ρ, _, k, _⟩ => hG H _ k) (fun i x σ H H2 hi ⟨ρ, f2, k2, hP2⟩ y => ?_) fun σ H ⟨ρ, f2, k2, hP2⟩ => ?_
      · have hd : xs.drop i = xs[i] :: xs.drop (i + 1) := List.drop_eq_getElem_cons hi
        rw [hd] at hP2
        have k3 := hY i H x H2 _ xs[i] (List.getElem?_eq_getElem hi) k2 y
        simp only [loop] at hP2
        cases e2 : t xs[i] ρ with
        | none => rw [e2] at hP2; exact hP2.elim
        | some ρ2 =>
          rw [e2] at hP2
          simp only at hP2
          refine ⟨xs[i], ρ, τx ++ τ, f2, own _ (List.getElem_mem hi), k3.perm (permc fun _ x => by simp only [List.count_append, List.count_cons]; omega), ρ2, e2, fun σ' H'' _ f' k' => ⟨ρ2, τx ++ τ, f', k', ?_⟩⟩
          refine ps1_more (D := D) (k := fun ρ2 => loop t f (xs.drop (i + 1)) ρ2) (fun ρ3 h3 σ3 H3 f3 k3 => ?_) rfl rfl hP2
          have : PS1 g τ D (loop t f (xs.drop (i + 1)) ρ3) := by
            rcases h3 with h3 | h3 <;> rw [h3] at hP2 <;> exact hP2
          exact ⟨⟨ρ3, f3, mid k3, this⟩, ⟨ρ3, f3, mid k3, this⟩⟩
      · rw [List.drop_length] at hP2
        exact hP2 σ H f2 k2.right
theorem sv_for {body : List Stmt} {t : Tg} {is : List Nat} (hp : PassesOwn (model X.prog X.w) X.A X.env X.xe) (hc : X.calm = true) (hi : IV g X tg iter fx) (hg : GV g X tg t is) (hb : BV g X body f)
    (hs : ∀ x, foldedSetIterable iter X.env x = pure x := by intro _; rfl) : SV g X (.For tg iter body [] pos) (sFor fx t f) :=
  sv_of (ps_for hp hc hi hg hb hs) for_q
def sWh (n : Nat) (t : M Bool) (f : M Fw) : M Fw := wh t f n
theorem sv_while {c : Expr} {body : List Stmt} {n : Nat} (hp : PassesOwn (model X.prog X.w) X.A X.env X.xe) (hc : TV g X c tt) (hb : BV g X body f) : SV g X (.While c body [] pos) (sWh n tt f) :=
  sv_of (ps_while hp hc hb) fun D σ H ρ τ ft h hP => by
    refine ⟨fun m σ H => ∃ ρ, Fits g.s0 ρ σ ∧ Hold g.T H (its ρ σ ++ τ) ∧ PS1 g τ D (wh tt f m ρ), ⟨n, ρ, ft, h, hP⟩, ?_⟩
    rintro m σ H ⟨ρ, ft, h, hP⟩
    cases m with
    | zero => exact hP.elim
    | succ m =>
      simp only [wh] at hP
      refine stepTS ft h hP fun b ρ1 hP1 H1 f1 k1 => ?_
      cases b with
      | false => exact hP1 σ H1 f1 k1
      | true =>
        simp only [if_true] at hP1 ⊢
        refine ⟨fun σ' H' => ∃ ρ, Fits g.s0 ρ σ' ∧ Hold g.T H' (its ρ σ' ++ τ) ∧ PS1 g τ D (wh tt f m ρ), fun σ' H' q => ⟨m, Nat.lt_succ_self _, q⟩, ρ1, τ, f1, k1, ?_⟩
        refine ps1_more (τx := []) (D := D) (k := fun ρ2 => wh tt f m ρ2) (fun ρ3 h3 σ3 H3 f3 k3 => ?_) rfl rfl hP1
        have : PS1 g τ D (wh tt f m ρ3) := by
          rcases h3 with h3 | h3 <;> rw [h3] at hP1 <;> exact hP1
        exact ⟨⟨ρ3, f3, by simpa using k3, this⟩, ⟨ρ3, f3, by simpa using k3, this⟩⟩
end
end VL
set_option Elab.async false
set_option linter.all false
set_option maxRecDepth 100000
namespace VL
open PySem PySem.Spec PyProof.Rows L2
/-- what stood in the slots ahead of it -/
def restP (ρ2 : List PV) (ρ : List PV) : List Nat → List PV
  | [] => ρ2
  | i :: is => (restP ρ2 ρ is).set i (nth ρ i)
def wipeQ (ρ : List PV) : List Nat → List PV
  | [] => ρ
  | i :: is => (wipeQ ρ is).set i .emp
theorem restP_len (ρ2 ρ : List PV) : ∀ is, (restP ρ2 ρ is).length = ρ2.length
  | [] => rfl
  | i :: is => by simp [restP, restP_len ρ2 ρ is]
theorem wipeQ_in {ρ : List PV} {i : Nat} : ∀ {is : List Nat}, i ∈ is → nth (wipeQ ρ is) i = .emp
  | j :: is, h => by
    unfold wipeQ
    by_cases e : j = i
    · subst e
      by_cases l : j < (wipeQ ρ is).length
      · exact nth_set_same l
      · exact nth_out (by simp; omega)
    · rw [nth_set_ne e]
      exact wipeQ_in ((List.mem_cons.mp h).resolve_left fun z => e z.symm)
theorem wipeQ_out {ρ : List PV} {i : Nat} : ∀ {is : List Nat}, i ∉ is → nth (wipeQ ρ is) i = nth ρ i
  | [], _ => rfl
  | j :: is, h => by
    unfold wipeQ
    simp only [List.mem_cons, not_or] at h
    rw [nth_set_ne (Ne.symm h.1)]
    exact wipeQ_out h.2
section
variable {T : Tb} {H : Hp} {s0 : L2.St} {ρ ρ2 : List PV} {σ : L2.St} {l : Its}
theorem wipe_out {σ : L2.St} {i : Nat} : ∀ {is : List Nat}, i ∉ is → (wipe σ is)[i]? = σ[i]?
  | [], _ => rfl
  | j :: is, h => by
    simp only [List.mem_cons, not_or] at h
    show ((wipe σ is).set j none)[i]? = _
    rw [List.getElem?_set_ne (Ne.symm h.1)]
    exact wipe_out h.2
theorem its_split : ∀ {ρ : List PV} {σ : L2.St} {i : Nat}, σ.length = ρ.length → i < ρ.length → ∃ A B, ∀ a s, its (ρ.set i a) (σ.set i s) = A ++ (a, s.getD .non) :: B
  | [], _, _, _, h => by simp at h
  | _ :: _, [], _, h, _ => by simp at h
  | x :: ρ, t :: σ, 0, _, _ => ⟨[], its ρ σ, fun a s => by simp [its]⟩
  | x :: ρ, t :: σ, i + 1, h, hi => by
    obtain ⟨A, B, e⟩ := its_split (ρ := ρ) (σ := σ) (i := i) (by simpa using h) (by simpa using hi)
    exact ⟨(x, t.getD .non) :: A, B, fun a s => by simp only [List.set_cons_succ, its, e, List.cons_append]⟩
theorem set_nth : ∀ {ρ : List PV} {i : Nat}, ρ.set i (nth ρ i) = ρ
  | [], _ => rfl
  | _ :: _, 0 => rfl
  | x :: ρ, i + 1 => by simp [set_nth]
theorem set_get {σ : L2.St} {i : Nat} : σ.set i (σ[i]?.getD none) = σ := by
  cases e : σ[i]? with
  | none => rw [List.set_eq_of_length_le (List.getElem?_eq_none_iff.mp e)]
  | some s => exact set_self e
/-- a slot without a value: what lies at its place doesn't matter -/
theorem Hold.reSlot {i : Nat} {s : Option V} (h : Hold T H (its ρ σ ++ l)) (hl : σ.length = ρ.length) (e : nth ρ i = .emp) : Hold T H (its ρ (σ.set i s) ++ l) := by
  by_cases hi : i < ρ.length
  · obtain ⟨A, B, q⟩ := its_split (ρ := ρ) (σ := σ) hl hi
    have e1 := q (nth ρ i) (σ[i]?.getD none)
    have e2 := q (nth ρ i) s
    rw [set_nth, set_get] at e1
    rw [set_nth] at e2
    rw [e1, e] at h
    rw [e2, e]
    have h1 : Hold T H (A ++ B ++ l) := h.sub (by
      simp only [List.append_assoc, List.cons_append]
      exact List.Sublist.append_left (List.sublist_cons_self ..) _)
    exact (h1.emp (v := s.getD .non)).perm (permc fun _ x => by simp only [List.count_append, List.count_cons]; omega)
  · rw [List.set_eq_of_length_le (by omega)]; exact h
theorem Fits.wipe1 {i : Nat} (f : Fits s0 ρ σ) : Fits s0 (ρ.set i .emp) (σ.set i none) := by
  refine ⟨by simp [f.len], fun j hj => ?_, fun j hj => ?_⟩
  · by_cases c : i = j
    · subst c
      by_cases l : i < ρ.length
      · rw [nth_set_same l] at hj; cases hj
      · rw [nth_out (by simp; omega)] at hj; cases hj
    · rw [nth_set_ne c] at hj
      rw [List.getElem?_set_ne c]
      exact f.has j hj
  · by_cases c : i = j
    · subst c
      by_cases l : i < ρ.length
      · rw [nth_set_same l] at hj; cases hj
      · rw [nth_out (by simp; omega)] at hj; cases hj
    · rw [nth_set_ne c] at hj
      rw [List.getElem?_set_ne c]
      exact f.io j hj
/-- the slots' items put aside, and put back -/
theorem saveOut : ∀ {is : List Nat} {ρ : List PV} {σ : L2.St} {l : Its} {H : Hp}, is.Nodup → Fits s0 ρ σ → Hold T H (its ρ σ ++ l) → ∃ S : Its, Fits s0 (wipeQ ρ is) (wipe σ is) ∧ Hold T H (its (wipeQ ρ is) (wipe σ is) ++ (S ++ l)) ∧
    ∀ (ρ2 : List PV) (H2 : Hp) (l2 : Its), Fits s0 ρ2 (wipe σ is) → (∀ i ∈ is, nth ρ2 i = .emp) → Hold T H2 (its ρ2 (wipe σ is) ++ (S ++ l2)) → Fits s0 (restP ρ2 ρ is) σ ∧ Hold T H2 (its (restP ρ2 ρ is) σ ++ l2)
  | [], ρ, σ, l, H, _, f, h => ⟨[], f, by simpa [wipeQ, wipe] using h, fun ρ2 H2 l2 f2 _ h2 => ⟨f2, by simpa [restP, wipe] using h2⟩⟩
  | i :: is, ρ, σ, l, H, nd, f, h => by
    obtain ⟨ni, nd⟩ := List.nodup_cons.mp nd
    obtain ⟨S, f1, h1, q⟩ := saveOut (is := is) nd f h
    have fs : Fits s0 ((wipeQ ρ is).set i .emp) ((wipe σ is).set i none) := f1.wipe1
    have len1 := f1.len
    -- the slot holds something, or nothing
    cases e : (wipe σ is)[i]? with
    | none =>
      have out : (wipeQ ρ is).length ≤ i := by rw [← len1]; exact List.getElem?_eq_none_iff.mp e
      refine ⟨S, fs, ?_, fun ρ2 H2 l2 f2 he h2 => ?_⟩
      · show Hold T H (its ((wipeQ ρ is).set i .emp) ((wipe σ is).set i none) ++ (S ++ l))
        rw [List.set_eq_of_length_le out, List.set_eq_of_length_le (by omega)]; exact h1
      · have e2 : wipe σ (i :: is) = wipe σ is := by show (wipe σ is).set i none = _; rw [List.set_eq_of_length_le (by omega)]
        rw [e2] at f2 h2
        obtain ⟨q1, q2⟩ := q ρ2 H2 l2 f2 (fun j hj => he j (List.mem_cons_of_mem _ hj)) h2
        have e3 : restP ρ2 ρ (i :: is) = restP ρ2 ρ is := by
          show (restP ρ2 ρ is).set i _ = _
          rw [List.set_eq_of_length_le (by rw [restP_len]; have := f2.len; omega)]
        rw [e3]; exact ⟨q1, q2⟩
    | some s =>
      have hi : i < (wipeQ ρ is).length := by rw [← len1]; exact (List.getElem?_eq_some_iff.mp e).1
      have en : nth (wipeQ ρ is) i = nth ρ i := wipeQ_out ni
      have es : σ[i]? = some s := by rw [← wipe_out ni]; exact e
      cases s with
      | none =>
        have ee : nth (wipeQ ρ is) i = .emp := by
          cases k : (nth (wipeQ ρ is) i).isEmp with
          | true => cases k2 : nth (wipeQ ρ is) i <;> rw [k2] at k <;> first | rfl | cases k
          | false => obtain ⟨v, hv⟩ := f1.has i k; rw [e] at hv; cases hv
        have er : (wipeQ ρ is).set i .emp = wipeQ ρ is := by rw [← ee]; exact set_nth
        have ew : (wipe σ is).set i none = wipe σ is := set_self e
        refine ⟨S, fs, by show Hold T H (its ((wipeQ ρ is).set i .emp) ((wipe σ is).set i none) ++ (S ++ l)); rw [er, ew]; exact h1, fun ρ2 H2 l2 f2 he h2 => ?_⟩
        have e2 : wipe σ (i :: is) = wipe σ is := ew
        rw [e2] at f2 h2
        obtain ⟨q1, q2⟩ := q ρ2 H2 l2 f2 (fun j hj => he j (List.mem_cons_of_mem _ hj)) h2
        have e4 : nth (restP ρ2 ρ is) i = .emp := by
          have z : ∀ is : List Nat, i ∉ is → nth (restP ρ2 ρ is) i = nth ρ2 i := by
            intro is
            induction is with
            | nil => intro _; rfl
            | cons j is ih =>
              intro h
              simp only [List.mem_cons, not_or] at h
              show nth ((restP ρ2 ρ is).set j _) i = _
              rw [nth_set_ne (Ne.symm h.1)]
              exact ih h.2
          rw [z is ni]; exact he i List.mem_cons_self
        have e3 : restP ρ2 ρ (i :: is) = restP ρ2 ρ is := by
          show (restP ρ2 ρ is).set i (nth ρ i) = _
          rw [← en, ee, ← e4]; exact set_nth
        rw [e3]; exact ⟨q1, q2⟩
      | some v =>
        have h2 := h1.slotOut f1 e
        have f2 : Fits s0 ((wipeQ ρ is).set i .emp) (wipe σ is) := f1.re e fun z => by cases z
        have h3 : Hold T H (its ((wipeQ ρ is).set i .emp) (wipe σ is) ++ (((nth ρ i, v) :: S) ++ l)) := by
          rw [en] at h2
          exact h2.perm (permc fun _ x => by simp only [List.count_append, List.count_cons]; omega)
        refine ⟨(nth ρ i, v) :: S, fs, h3.reSlot f2.len (nth_set_same hi), fun ρ2 H2 l2 g2 he k2 => ?_⟩
        have len2 := g2.len
        have l3 : (wipe σ (i :: is)).length = (wipe σ is).length := by show ((wipe σ is).set i none).length = _; simp
        have hi2 : i < ρ2.length := by rw [← len2, l3, len1]; exact hi
        have em := he i List.mem_cons_self
        -- the slots as they were ahead of i's wiping
        have k3 : Hold T H2 (its ρ2 (wipe σ is) ++ (((nth ρ i, v) :: S) ++ l2)) := by
          have := k2.reSlot (i := i) (s := some v) len2 em
          have e5 : (wipe σ (i :: is)).set i (some v) = wipe σ is := by
            show ((wipe σ is).set i none).set i (some v) = _
            rw [List.set_set]; exact set_self e
          rw [e5] at this; exact this
        have g3 : Fits s0 ρ2 (wipe σ is) := by
          refine ⟨by rw [← l3]; exact len2, fun j hj => ?_, fun j hj => ?_⟩
          · by_cases c : i = j
            · subst c; rw [em] at hj; cases hj
            · have := g2.has j hj
              have e6 : (wipe σ (i :: is))[j]? = (wipe σ is)[j]? := by show ((wipe σ is).set i none)[j]? = _; rw [List.getElem?_set_ne c]
              rw [e6] at this; exact this
          · by_cases c : i = j
            · subst c; rw [em] at hj; cases hj
            · have := g2.io j hj
              have e6 : (wipe σ (i :: is))[j]? = (wipe σ is)[j]? := by show ((wipe σ is).set i none)[j]? = _; rw [List.getElem?_set_ne c]
              rw [e6] at this; exact this
        obtain ⟨q1, q2⟩ := q ρ2 H2 ((nth ρ i, v) :: l2) g3 (fun j hj => he j (List.mem_cons_of_mem _ hj)) (k3.perm (permc fun _ x => by simp only [List.count_append, List.count_cons]; omega))
        have hr : i < (restP ρ2 ρ is).length := by rw [restP_len]; exact hi2
        have q3 : Hold T H2 ((nth ρ i, v) :: (its (restP ρ2 ρ is) σ ++ l2)) := q2.perm (permc fun _ x => by simp only [List.count_append, List.count_cons]; omega)
        have q4 := q3.slot q1 hr
        rw [set_self es] at q4
        refine ⟨?_, q4⟩
        refine ⟨by show σ.length = ((restP ρ2 ρ is).set i _).length; rw [List.length_set]; exact q1.len, fun j hj => ?_, fun j hj => ?_⟩
        · by_cases c : i = j
          · subst c; exact ⟨v, es⟩
          · have hj : (nth ((restP ρ2 ρ is).set i (nth ρ i)) j).isEmp = false := hj
            rw [nth_set_ne c] at hj; exact q1.has j hj
        · have hj : (nth ((restP ρ2 ρ is).set i (nth ρ i)) j).isIo = true := hj
          by_cases c : i = j
          · subst c
            rw [nth_set_same hr] at hj
            exact f.io i hj
          · rw [nth_set_ne c] at hj; exact q1.io j hj
end
def lcl (t : Tg) (tt : M Bool) (fe : M Hd) (own : List Nat) : List PV → List PV → M (List PV)
  | [], acc, ρ => .ok acc ρ
  | x :: xs, acc, ρ => match t x ρ with
    | some ρ1 => (match tt ρ1 with
      | .ok true ρ2 => (match fe ρ2 with
        | .ok h ρ3 => (match take ρ3 h with
          | some (a, ρ4) => if acc.length < lim then lcl t tt fe own xs (acc ++ [a]) (wipeQ ρ4 own) else .stuck
          | none => .stuck)
        | _ => .stuck)
      | .ok false ρ2 => lcl t tt fe own xs acc (wipeQ ρ2 own)
      | _ => .stuck)
    | none => .stuck
def eLc (fi : M (List PV)) (t : Tg) (tt : M Bool) (fe : M Hd) (own : List Nat) : M Hd := fun ρ => (fi ρ).bind fun xs ρ1 => match lcl t tt fe own xs [] (wipeQ ρ1 own) with
  | .ok ys ρ2 => .ok (.tm (.lst .ow ys)) (restP ρ2 ρ1 own)
  | _ => .stuck
abbrev G.in0 (g : G) : G := { g with W := fun _ _ _ _ => False }
theorem wipe_idem (σ : L2.St) : ∀ is : List Nat, wipe (wipe σ is) is = wipe σ is
  | [] => rfl
  | i :: is => by
    show (wipe ((wipe σ is).set i none) is).set i none = (wipe σ is).set i none
    rw [← wipe_set, List.set_set, wipe_idem σ is]
section
variable {g : G} {X : Cx} {elt tg iter : Expr} {ifs : List Expr} {fe : M Hd} {fx : M (List PV)} {tt : M Bool} {t : Tg} {pos : Pos} {scope : Scope} {own : List (Str × Nat)} {is : List Nat}
theorem lc_read {σ : L2.St} {H : Hp} {Q : VK} {ρ : List PV} {τ : Its} (nd : is.Nodup) (ft : Fits g.s0 ρ σ) (h : Hold g.T H (its ρ σ ++ τ)) (hP : Post g σ τ (PE1 g σ τ Q) (eLc fx t tt fe is ρ)) :
    tLc (trI g fx) (trG g.in0 t is) (trT g.in0 tt) (trE g.in0 fe) is σ H Q := by
  refine ⟨ρ, τ, ft, h, ?_⟩
  unfold eLc at hP
  cases e : fx ρ with
  | stuck => rw [e] at hP; exact hP
  | exc c xs ρ1 => rw [e] at hP; exact hP
  | ok xs ρ1 =>
    rw [e] at hP
    intro J H' τx K Y w hG hY own f1 k1 D hD
    obtain ⟨S, f2, k2, put⟩ := saveOut nd f1 (mid k1)
    refine lc_it w (fun i H => ∃ ρ acc, Fits g.s0 ρ (wipe σ is) ∧ (∀ j ∈ is, nth ρ j = .emp) ∧ Hold g.T H ((.lst .ow acc, .ref D) :: (its ρ (wipe σ is) ++ (S ++ (τx ++ τ)))) ∧
      (match lcl t tt fe is (xs.drop i) acc ρ with
        | .ok ys ρ2 => PE1 g σ τ Q (.tm (.lst .ow ys)) (restP ρ2 ρ1 is)
        | _ => False)) ?_ (fun i H _ ⟨ρ, acc, _, _, k, _⟩ => hG H ((.lst .ow acc, .ref D) :: (its ρ (wipe σ is) ++ (S ++ τ))) (k.perm (permc fun _ x => by simp only [List.count_append, List.count_cons]; omega))) (fun i x H2 H3 hi ⟨ρ, acc, f3, em, k3, hP3⟩ y => ?_) fun H2 ⟨ρ, acc, f3, em, k3, hP3⟩ => ?_
    · refine ⟨wipeQ ρ1 is, [], f2, fun j hj => wipeQ_in hj, Hold.new_own k2 hD rfl fun F s o => ⟨D, [], rfl, upd_same, .nil⟩, ?_⟩
      rw [List.drop_zero]
      have hP : Post g σ τ (PE1 g σ τ Q) (match lcl t tt fe is xs [] (wipeQ ρ1 is) with
        | .ok ys ρ2 => (.ok (.tm (.lst .ow ys)) (restP ρ2 ρ1 is) : R Hd)
        | _ => .stuck) := hP
      cases e2 : lcl t tt fe is xs [] (wipeQ ρ1 is) with
      | ok ys ρ2 => rw [e2] at hP; exact hP
      | exc _ _ _ => rw [e2] at hP; exact hP
      | stuck => rw [e2] at hP; exact hP
    · have hd : xs.drop i = xs[i] :: xs.drop (i + 1) := List.drop_eq_getElem_cons hi
      rw [hd] at hP3
      simp only [lcl] at hP3
      have k4 := hY i H2 x H3 ((.lst .ow acc, .ref D) :: (its ρ (wipe σ is) ++ (S ++ τ))) xs[i] (List.getElem?_eq_getElem hi) (k3.perm (permc fun _ x => by simp only [List.count_append, List.count_cons]; omega)) y
      cases e2 : t xs[i] ρ with
      | none => rw [e2] at hP3; exact hP3.elim
      | some ρ2 =>
        rw [e2] at hP3
        simp only at hP3
        -- what a turn leaves aside
        have down : ∀ {ρ4 : List PV} {σ' : L2.St} {H : Hp} {l : Its}, wipe σ' is = wipe σ is → Fits g.s0 ρ4 σ' → Hold g.T H (its ρ4 σ' ++ l) → Fits g.s0 (wipeQ ρ4 is) (wipe σ is) ∧ Hold g.T H (its (wipeQ ρ4 is) (wipe σ is) ++ l) := fun {ρ4 σ' H l} w' f' k' => by
          obtain ⟨S', q1, q2, _⟩ := saveOut nd f' k'
          rw [w'] at q1 q2
          exact ⟨q1, q2.sub (List.Sublist.append_left (List.sublist_append_right ..) _)⟩
        refine ⟨xs[i], ρ, (.lst .ow acc, .ref D) :: (S ++ (τx ++ τ)), f3, own _ (List.getElem_mem hi), k4.perm (permc fun _ x => by simp only [List.count_append, List.count_cons]; omega), ρ2, e2, fun σ' H4 w' f4 k5 => ⟨by rw [w', wipe_idem], ?_⟩⟩
        rw [wipe_idem] at w'
        refine ⟨ρ2, _, f4, k5, ?_⟩
        cases e3 : tt ρ2 with
        | stuck => rw [e3] at hP3; exact hP3
        | exc _ _ _ => rw [e3] at hP3; exact hP3.elim
        | ok b ρ3 =>
          rw [e3] at hP3
          intro H5 f5 k6
          cases b with
          | false =>
            simp only [Bool.false_eq_true, if_false] at hP3 ⊢
            obtain ⟨f6, k7⟩ := down w' f5 k6
            exact ⟨wipeQ ρ3 is, acc, f6, fun j hj => wipeQ_in hj, k7.perm (permc fun _ x => by simp only [List.count_append, List.count_cons]; omega), hP3⟩
          | true =>
            simp only [if_true] at hP3 ⊢
            refine ⟨ρ3, _, f5, k6, ?_⟩
            cases e4 : fe ρ3 with
            | stuck => rw [e4] at hP3; exact hP3
            | exc _ _ _ => rw [e4] at hP3; exact hP3.elim
            | ok h1 ρ4 =>
              rw [e4] at hP3
              simp only at hP3
              intro v H6 f6 s6 k7
              cases e5 : take ρ4 h1 with
              | none => rw [e5] at hP3; exact hP3.elim
              | some p =>
                obtain ⟨a, ρ5⟩ := p
                rw [e5] at hP3
                simp only at hP3
                obtain ⟨f7, o7, k8⟩ := take_ok f6 s6 k7 e5
                by_cases hz : acc.length < lim
                · rw [if_pos hz] at hP3
                  have k9 : Hold g.T H6 ((.lst .ow acc, .ref D) :: ((a, v) :: (its ρ5 σ' ++ (S ++ (τx ++ τ))))) := k8.perm (permc fun _ x => by simp only [List.count_append, List.count_cons]; omega)
                  obtain ⟨p, vs, ev, hp, hl, _⟩ := k9.g_lst List.mem_cons_self
                  cases ev
                  refine ⟨vs, hp, by rw [hl]; exact lim_lt hz, ?_⟩
                  have k10 := Hold.write k9 (o := .lst (vs ++ [v])) rfl (b := .lst .ow (acc ++ [a])) rfl fun F s ra o => ⟨D, vs ++ [v], rfl, upd_same, by
                    obtain ⟨p', vs', ev, hp', r⟩ := ra
                    cases ev
                    rw [hp] at hp'; cases hp'
                    exact r.append (.cons ((Own.fz o7).mp (o (a, v) List.mem_cons_self)) o7 .nil)⟩
                  have k11 : Hold g.T (upd H6 D (.lst (vs ++ [v]))) (its ρ5 σ' ++ ((.lst .ow (acc ++ [a]), .ref D) :: (S ++ (τx ++ τ)))) := by
                    have : Hold g.T (upd H6 D (.lst (vs ++ [v]))) ((a, v) :: (its ρ5 σ' ++ ((.lst .ow (acc ++ [a]), .ref D) :: (S ++ (τx ++ τ))))) := k10.perm (permc fun _ x => by simp only [List.count_append, List.count_cons]; omega)
                    exact this.tail
                  obtain ⟨f8, k12⟩ := down w' f7 k11
                  exact ⟨wipeQ ρ5 is, acc ++ [a], f8, fun j hj => wipeQ_in hj, k12.perm (permc fun _ x => by simp only [List.count_append, List.count_cons]; omega), hP3⟩
                · rw [if_neg hz] at hP3; exact hP3.elim
    · rw [List.drop_length] at hP3
      simp only [lcl] at hP3
      have k4 : Hold g.T H2 (its ρ (wipe σ is) ++ (S ++ ((.lst .ow acc, .ref D) :: (τx ++ τ)))) := k3.perm (permc fun _ x => by simp only [List.count_append, List.count_cons]; omega)
      obtain ⟨f4, k5⟩ := put ρ H2 _ f3 em k4
      refine hP3 (.ref D) H2 f4 slot_tm ?_
      have : Hold g.T H2 (τx ++ ((.lst .ow acc, .ref D) :: (its (restP ρ ρ1 is) σ ++ τ))) := k5.perm (permc fun _ x => by simp only [List.count_append, List.count_cons]; omega)
      exact this.right
abbrev PTsV (g : G) (X : Cx) (ifs : List Expr) (tt : M Bool) : Prop := PTs X ifs (trT g tt)
theorem ptsv_nil : PTsV g X [] tYesV := ⟨fun pins s σ H Q I ⟨ρ, τ, f, h, hP⟩ => pts_nil.run pins s σ H Q I (hP H f h)⟩
theorem ptsv_one {c : Expr} (h : TV g X c tt) : PTsV g X [c] tt := pts_one h
theorem ev_lc (hc : X.calm = true) (hN : X.N.Nodup) (his : own.map (·.2) = is) (nd : is.Nodup) (hi : IV g X tg iter fx) (ok : BlkOk X.N X.env.scope scope own)
    (hg : ∀ (s : Shared) (H : Hp) (C : Addr) (cl : List (Str × Addr)) (fp : List Addr), GV g.in0 (X.blk s H scope (compEnvC scope cl C X.env) fp) tg t is) (ht : ∀ (s : Shared) (H : Hp) (C : Addr) (cl : List (Str × Addr)) (fp : List Addr), PTsV g.in0 (X.blk s H scope (compEnvC scope cl C X.env) fp) ifs tt)
    (he : ∀ (s : Shared) (H : Hp) (C : Addr) (cl : List (Str × Addr)) (fp : List Addr), EV g.in0 (X.blk s H scope (compEnvC scope cl C X.env) fp) elt fe) (hs : ∀ x, foldedSetIterable iter X.env x = pure x := by intro _; rfl) :
    EV g X (.ListComp elt [⟨tg, iter, ifs, 0⟩] scope pos) (eLc fx t tt fe is) :=
  ev_of (pe_lc hc hN hi ok hg ht he hs) fun σ H Q ρ τ ft h hP => by rw [his]; exact lc_read nd ft h hP
theorem sv_setLc {i : Nat} {y : Str} {py spos : Pos} (hc : X.calm = true) (hN : X.N.Nodup) (hy : X.N[i]? = some y) (hyl : X.env.scope.names.lookup y = some .local)
    (hsw : swapsWith (.ListComp elt [⟨tg, iter, ifs, 0⟩] scope pos) (some (.Name y py)) spos.line X.env = pure true) (his : own.map (·.2) = is) (nd : is.Nodup) (hi : IV g X tg iter fx) (ok : BlkOk X.N X.env.scope scope own)
    (hg : ∀ (s : Shared) (H : Hp) (C : Addr) (cl : List (Str × Addr)) (fp : List Addr), GV g.in0 (X.blk s H scope (compEnvC scope cl C X.env) fp) tg t is) (ht : ∀ (s : Shared) (H : Hp) (C : Addr) (cl : List (Str × Addr)) (fp : List Addr), PTsV g.in0 (X.blk s H scope (compEnvC scope cl C X.env) fp) ifs tt)
    (he : ∀ (s : Shared) (H : Hp) (C : Addr) (cl : List (Str × Addr)) (fp : List Addr), EV g.in0 (X.blk s H scope (compEnvC scope cl C X.env) fp) elt fe) (hs : ∀ x, foldedSetIterable iter X.env x = pure x := by intro _; rfl) :
    SV g X (.Assign [.Name y py] (.ListComp elt [⟨tg, iter, ifs, 0⟩] scope pos) spos) (sSet i (eLc fx t tt fe is)) :=
  sv_of (ps_setLc hc hN hy hyl hsw hi ok hg ht he hs) fun D σ H ρ τ ft h hP => by
    have hP2 : PS1 g τ D ((eLc fx t tt fe is ρ).bind fun h ρ1 => match keep h ρ1 with
      | some (a, ρ2) => ofL (setAt i a ρ2)
      | none => .stuck) := hP
    rw [his]
    refine (show tLc (trI g fx) (trG g.in0 t is) (trT g.in0 tt) (trE g.in0 fe) is σ H (fun x H1 => gName i x σ H1 D.nx) from ?_)
    refine lc_read nd ft h (?_ : Post g σ τ (PE1 g σ τ fun x H1 => gName i x σ H1 D.nx) (eLc fx t tt fe is ρ))
    cases e : eLc fx t tt fe is ρ with
    | stuck => rw [e] at hP2; exact hP2
    | exc c xs ρ1 => rw [e] at hP2; exact fun d vs H' => hP2 d vs σ H'
    | ok h1 ρ1 =>
      rw [e] at hP2
      intro v H1 f1 s1 k1
      simp only [R.bind_ok] at hP2
      cases e1 : keep h1 ρ1 with
      | none => rw [e1] at hP2; exact hP2.elim
      | some p =>
        obtain ⟨a, ρ2⟩ := p
        rw [e1] at hP2
        simp only at hP2
        obtain ⟨f2, k2⟩ := keep_ok f1 s1 k1 e1
        cases e2 : setAt i a ρ2 with
        | none => rw [e2] at hP2; exact hP2.elim
        | some ρ3 =>
          rw [e2] at hP2
          obtain ⟨f3, k3⟩ := setAt_ok f2 k2 e2
          exact hP2 _ H1 f3 k3
end
end VL
set_option Elab.async false
set_option linter.all false
set_option maxRecDepth 100000
namespace VL
open PySem PySem.Spec PyProof.Rows L2
def PV.toIo (a : PV) : PV := PV.reFl .io a
/-- what is handed back of the arguments -/
def exit1 (a b : PV) : PV := if a.own = true then (if b.isIo = true then b.setFl .ow else .emp) else a
def exitF : List PV → List PV → List PV
  | [], _ => []
  | a :: as, ρ => exit1 a (ρ.headD .emp) :: exitF as ρ.tail
def runF (np n : Nat) (f : M Fw) (args : List PV) : R PV :=
  if args.length = np then
    (match f (args.map PV.toIo ++ List.replicate (n - np) .emp) with
    | .ok (.rt a) ρ => .ok a (exitF args ρ)
    | .ok .nx ρ => .ok .non (exitF args ρ)
    | .ok _ _ => .stuck
    | .exc c xs ρ => .exc c xs (exitF args ρ)
    | .stuck => .stuck)
  else .stuck
section
variable {T : Tb} {H : Hp}
/-- the frozen ones among the arguments -/
def fzs : List PV → List V → Its
  | a :: as, v :: vs => if a.own = true then fzs as vs else (a, v) :: fzs as vs
  | _, _ => []
theorem entry : ∀ {args : List PV} {vs : List V} {l : Its}, vs.length = args.length → Hold T H (args.zip vs ++ l) → Hold T H ((args.map PV.toIo).zip vs ++ (fzs args vs ++ l))
  | [], vs, l, hl, h => by simpa [fzs] using h
  | a :: as, [], l, hl, h => by simp at hl
  | a :: as, v :: vs, l, hl, h => by
    rw [List.zip_cons_cons, List.cons_append] at h
    rw [List.map_cons, List.zip_cons_cons, List.cons_append]
    have hl : vs.length = as.length := by simpa using hl
    by_cases ho : a.own = true
    · have h1 : Hold T H (as.zip vs ++ ((a, v) :: l)) := h.perm (permc fun _ x => by simp only [List.count_append, List.count_cons]; omega)
      have h2 := entry hl h1
      have h3 : Hold T H ((a, v) :: ((as.map PV.toIo).zip vs ++ (fzs as vs ++ l))) := h2.perm (permc fun _ x => by simp only [List.count_append, List.count_cons]; omega)
      have e : a.toIo = a.setFl .io := by unfold PV.toIo PV.reFl; rw [if_pos ho]
      rw [e]
      simp only [fzs, ho, if_true]
      exact h3.relabel ho (by intro z; cases z)
    · have ho' : a.own = false := by simpa using ho
      have e : a.toIo = a := by unfold PV.toIo PV.reFl; rw [if_neg ho]
      rw [e]
      have h1 : Hold T H (as.zip vs ++ ((a, v) :: l)) := h.perm (permc fun _ x => by simp only [List.count_append, List.count_cons]; omega)
      have h2 := entry hl h1
      have h3 := h2.dup (a := a) (v := v) (by simp) ho'
      simp only [fzs, ho, Bool.false_eq_true, if_false]
      exact h3.perm (permc fun _ x => by simp only [List.count_append, List.count_cons]; omega)
theorem exit_hold : ∀ {args : List PV} {vs : List V} {ρ : List PV} {σ : L2.St} {l : Its}, vs.length = args.length → σ.length = ρ.length → (∀ i, (nth ρ i).isIo = true → i < args.length → σ[i]? = (vs[i]?).map some) → Hold T H (its ρ σ ++ (fzs args vs ++ l)) → Hold T H ((exitF args ρ).zip vs ++ l)
  | [], vs, ρ, σ, l, hl, _, _, h => by
    have h : Hold T H (its ρ σ ++ ([] ++ l)) := by simpa [fzs] using h
    simpa [exitF] using h.right
  | a :: as, [], ρ, σ, l, hl, _, _, h => by simp at hl
  | a :: as, v :: vs, [], σ, l, hl, hs, _, h => by
    have hl : vs.length = as.length := by simpa using hl
    have e0 : σ = [] := List.length_eq_zero_iff.mp hs
    subst e0
    have rec_ : ∀ {l : Its}, Hold T H (fzs as vs ++ l) → Hold T H ((exitF as []).zip vs ++ l) := fun h => exit_hold (ρ := []) (σ := []) hl rfl (fun i h1 _ => by simp [nth, PV.isIo, PV.fl] at h1) (by simpa [its] using h)
    have h : Hold T H (fzs (a :: as) (v :: vs) ++ l) := by simpa [its] using h
    simp only [exitF, List.headD_nil, List.tail_nil, List.zip_cons_cons, List.cons_append]
    unfold exit1
    by_cases ho : a.own = true
    · simp only [fzs, ho, if_true] at h ⊢
      rw [if_neg (by simp [PV.isIo, PV.fl])]
      exact (rec_ h).emp
    · simp only [fzs, ho, Bool.false_eq_true, if_false] at h ⊢
      have h1 : Hold T H (fzs as vs ++ ((a, v) :: l)) := h.perm (permc fun _ x => by simp only [List.count_append, List.count_cons]; omega)
      exact (rec_ h1).perm (permc fun _ x => by simp only [List.count_append, List.count_cons]; omega)
  | a :: as, v :: vs, b :: ρ, [], l, hl, hs, _, h => by simp at hs
  | a :: as, v :: vs, b :: ρ, s :: σ, l, hl, hs, io, h => by
    have hl : vs.length = as.length := by simpa using hl
    have hs : σ.length = ρ.length := by simpa using hs
    have io' : ∀ i, (nth ρ i).isIo = true → i < as.length → σ[i]? = (vs[i]?).map some := fun i h1 h2 => by
      have := io (i + 1) (by simpa using h1) (by simpa using h2)
      simpa using this
    simp only [its, List.cons_append] at h
    simp only [exitF, List.headD_cons, List.tail_cons, List.zip_cons_cons, List.cons_append]
    unfold exit1
    by_cases ho : a.own = true
    · simp only [fzs, ho, if_true] at h ⊢
      have h1 : Hold T H (its ρ σ ++ (fzs as vs ++ ((b, s.getD .non) :: l))) := h.perm (permc fun _ x => by simp only [List.count_append, List.count_cons]; omega)
      have h2 := exit_hold hl hs io' h1
      by_cases hb : b.isIo = true
      · rw [if_pos hb]
        have e := io 0 (by simpa using hb) (by simp)
        simp at e
        subst e
        have h3 : Hold T H ((b, v) :: ((exitF as ρ).zip vs ++ l)) := h2.perm (permc fun _ x => by simp only [Option.getD_some, List.count_append, List.count_cons]; omega)
        exact h3.relabel (io_own hb) (by intro z; cases z)
      · rw [if_neg hb]
        have h3 : Hold T H ((exitF as ρ).zip vs ++ l) := by
          have : Hold T H ((b, s.getD .non) :: ((exitF as ρ).zip vs ++ l)) := h2.perm (permc fun _ x => by simp only [List.count_append, List.count_cons]; omega)
          exact this.tail
        exact h3.emp
    · simp only [fzs, ho, Bool.false_eq_true, if_false] at h ⊢
      have h1 : Hold T H (its ρ σ ++ (fzs as vs ++ ((a, v) :: l))) := by
        have : Hold T H ((b, s.getD .non) :: (its ρ σ ++ (fzs as vs ++ ((a, v) :: l)))) := h.perm (permc fun _ x => by simp only [List.count_append, List.count_cons]; omega)
        exact this.tail
      have h2 := exit_hold hl hs io' h1
      exact h2.perm (permc fun _ x => by simp only [List.count_append, List.count_cons]; omega)
theorem its_app : ∀ {as bs : List PV} {vs : List V} {m : Nat}, vs.length = as.length → its (as ++ List.replicate m .emp) (vs.map some ++ List.replicate m none) = as.zip vs ++ List.replicate m (.emp, .non)
  | [], _, [], m, _ => by
    simp only [List.nil_append, List.map_nil, List.zip_nil_left]
    induction m with
    | zero => rfl
    | succ m ih => simp only [List.replicate_succ, its, ih, Option.getD_none]
  | [], _, _ :: _, _, h => by simp at h
  | _ :: _, _, [], _, h => by simp at h
  | a :: as, bs, v :: vs, m, h => by
    simp only [List.cons_append, List.map_cons, its, Option.getD_some, List.zip_cons_cons]
    rw [its_app (bs := bs) (by simpa using h)]
theorem Hold.emps {l : Its} (h : Hold T H l) : ∀ m : Nat, Hold T H (l ++ List.replicate m (.emp, .non))
  | 0 => by simpa using h
  | m + 1 => by
    have := (Hold.emps h m).emp (v := .non)
    exact this.perm (permc fun _ x => by simp only [List.replicate_succ, List.count_append, List.count_cons]; omega)
end
/-- the body's word is the def's -/
theorem body_sp {T : Tb} {E : XK} {Q : VK} {N ps : List Str} {f : M Fw} {vs : List V} {H : Hp} (hn : ps.length ≤ N.length) (h : spF T (runF ps.length N.length f) vs H Q E) :
    vs.length = ps.length ∧ trS ⟨T, L2.start N vs, fun cls d _ H => E cls d H⟩ f { nx := fun _ H' => Q .non H', rt := Q } (L2.start N vs) H := by
  obtain ⟨args, τ, hl, hh, fin⟩ := h
  unfold runF at fin
  split at fin
  case isFalse => exact fin.elim
  rename_i ha
  refine ⟨by rw [hl, ha], ?_⟩
  have hs : L2.start N vs = vs.map some ++ List.replicate (N.length - ps.length) none := by unfold L2.start; rw [hl, ha]
  have hi : its (args.map PV.toIo ++ List.replicate (N.length - ps.length) .emp) (L2.start N vs) = (args.map PV.toIo).zip vs ++ List.replicate (N.length - ps.length) (.emp, .non) := by
    rw [hs]; exact its_app (bs := []) (by rw [hl, List.length_map])
  have k1 := entry hl hh
  have fit : Fits (L2.start N vs) (args.map PV.toIo ++ List.replicate (N.length - ps.length) .emp) (L2.start N vs) := by
    refine ⟨by rw [hs]; simp [hl], fun i hi => ?_, fun _ _ => rfl⟩
    by_cases hlt : i < args.length
    · refine ⟨vs[i]'(by omega), ?_⟩
      rw [hs, List.getElem?_append_left (by simp; omega)]
      simp
    · exfalso
      have : nth (args.map PV.toIo ++ List.replicate (N.length - ps.length) PV.emp) i = .emp := by
        rw [nth_get, List.getElem?_append_right (by simp; omega)]
        rw [List.getElem?_replicate]
        split <;> rfl
      rw [this] at hi; cases hi
  refine ⟨_, fzs args vs ++ τ, fit, ?_, ?_⟩
  · rw [hi]
    have := Hold.emps k1 (N.length - ps.length)
    exact this.perm (permc fun _ x => by simp only [List.count_append]; omega)
  -- the end
  have out : ∀ {ρ : List PV} {σ : L2.St} {H' : Hp} {l : Its}, Fits (L2.start N vs) ρ σ → Hold T H' (l ++ (its ρ σ ++ (fzs args vs ++ τ))) → Hold T H' (l ++ ((exitF args ρ).zip vs ++ τ)) := fun {ρ σ H' l} f k => by
    have k2 : Hold T H' (its ρ σ ++ (fzs args vs ++ (l ++ τ))) := k.perm (permc fun _ x => by simp only [List.count_append]; omega)
    have k3 := exit_hold hl f.len (fun i h1 h2 => by
      rw [f.io i h1, hs, List.getElem?_append_left (by simp; omega), List.getElem?_map]) k2
    exact k3.perm (permc fun _ x => by simp only [List.count_append]; omega)
  cases e : f (args.map PV.toIo ++ List.replicate (N.length - ps.length) .emp) with
  | ok a ρ =>
    rw [e] at fin
    cases a with
    | nx => exact fun σ H' f' k => fin .non H' (out (l := []) f' k).non
    | rt a => exact fun v σ H' f' k => fin v H' (out (l := [(a, v)]) f' k)
    | bk => exact fin.elim
    | ct => exact fin.elim
  | exc c xs ρ =>
    rw [e] at fin
    exact fun d ws σ H' f' hx hl2 k => fin d ws H' hx hl2 (out f' k)
  | stuck => rw [e] at fin; exact fin.elim
section
variable {P : Program} {w : World} {mg : Str → Option Value} {base : Heap} {T : Tb} {x qual m : Str} {C : Addr} {st : Stmt} {N ps : List Str} {k : Nat} {f : M Fw}
/-- what a body's derivation may use -/
abbrev BodyV (P : Program) (w : World) (mg : Str → Option Value) (base : Heap) (T : Tb) (k : Nat) (qual : Str) (st : Stmt) (N : List Str) (f : M Fw) : Prop :=
  ∀ (fa : Addr) (cdv : Value) (A : Around) (outer : List Env) (s : Shared) (H : Hp) (vs : List V) (E : XK), My.RoomG k (A.deeper (envOfC qual (defScope st) s.heap.objs.size fa cdv)) →
    BV ⟨T, L2.start N vs, fun cls d _ H => E cls d H⟩ (cxOf (L2N.CX P w) P w T.K mg base N qual (defScope st) fa cdv A outer s H E) (defBody st) f
theorem okV (F : My.Df T.K mg x st ps) (S : FnScope N ps (defScope st)) (hn : ps.length ≤ N.length) (body : BodyV P w mg base T k x st N f) : My.DnX P w T.K mg base (k + 1) x (spF T (runF ps.length N.length f)) :=
  F.okX S (fun vs H Q E h => (body_sp hn h).1) fun fa cdv A outer s H vs Q E hr h => ⟨_, body fa cdv A outer s H vs E hr, (body_sp hn h).2⟩
theorem okVM (F : My.DfM T.K C m qual st ps) (S : FnScope N ps (defScope st)) (hn : ps.length ≤ N.length) (body : BodyV P w mg base T k qual st N f) : My.DnMX P w T.K mg base (k + 1) C m (spF T (runF ps.length N.length f)) :=
  F.okX S (fun vs H Q E h => (body_sp hn h).1) fun fa cdv A outer s H vs Q E hr h => ⟨_, body fa cdv A outer s H vs E hr, (body_sp hn h).2⟩
theorem okVI (F : My.DfI T.K mg x C qual st ps) (S : FnScope N ps (defScope st)) (hn : ps.length ≤ N.length) (body : BodyV P w mg base T k qual st N f) : My.DnIX P w T.K mg base (k + 1) x C (spF T (runF ps.length N.length f)) :=
  F.okX S (fun vs H Q E h => (body_sp hn h).1) fun fa cdv A outer s H vs Q E hr h => ⟨_, body fa cdv A outer s H vs E hr, (body_sp hn h).2⟩
theorem okVP (F : My.DfP T.K C m qual st ps) (S : FnScope N ps (defScope st)) (hn : ps.length ≤ N.length) (body : BodyV P w mg base T k qual st N f) : DnPX P w T.K mg base (k + 1) C m (spF T (runF ps.length N.length f)) := by
  obtain ⟨p, fa, fd, F, b, m⟩ := F.ex
  exact ⟨p, fa, fd, ps, My.okG F S (fun vs H Q E h => (body_sp hn h).1) fun cdv A outer s H vs Q E hr h => ⟨_, body fa cdv A outer s H vs E hr, (body_sp hn h).2⟩, m, b⟩
end
end VL
set_option Elab.async false
set_option linter.all false
set_option maxRecDepth 100000
namespace VL
open PySem PySem.Spec PyProof.Rows L2
section
variable {g : G} {X : Cx} {e o i v : Expr} {es : List Expr} {fo fi fv : M Hd} {fs : M (List Hd)} {pos tpos apos cpos : Pos}
theorem sv_sub (hv' : EV g X v fv) (ho : EV g X o fo) (hi : EV g X i fi)
    (ha : ∀ v, assign (.Subscript o i tpos) X.env v = (do
      let ov ← holding [v] (eval o X.env)
      let iv ← holding [v, ov] (eval i X.env)
      standAt tpos
      holding [v, ov, iv] (setItem ov iv v)
      release [v, ov, iv] []) := by intro _; rfl)
    (hs : swapsWithSole [.Subscript o i tpos] v pos.line X.env = pure false := by rfl) (hw : swappedStores [.Subscript o i tpos] v X.env = pure none := by rfl)
    (h1 : (assignEach [.Subscript o i tpos] X.env).map (·.2) = [assign (.Subscript o i tpos) X.env] := by rfl) : SV g X (.Assign [.Subscript o i tpos] v pos) (sSub fo fi fv) :=
  sv_of (ps_asg hv' (pg_sub ho hi set_list ha) hs hw h1) fun D σ H ρ τ ft h hP => stepES ft h hP fun h0 ρ1 hP1 v0 H1 f1 s1 k1 => by
    have st : ∀ {α : Type} {fa : M Hd} {k : Hd → M Fw} {ρ : List PV} {ε : Its} {H : Hp} {Q' : VK}, Fits g.s0 ρ σ → Hold g.T H (its ρ σ ++ (ε ++ τ)) → PS1 g τ D ((fa ρ).bind k) → (∀ h ρ1, PS1 g τ D (k h ρ1) → ∀ v H1, Fits g.s0 ρ1 σ → slotAt σ h v → Hold g.T H1 (hit h v ++ (its ρ1 σ ++ (ε ++ τ))) → Q' v H1) → trE g fa σ H Q' := by
      intro α fa k ρ ε H Q' ft h hP hk
      refine ⟨ρ, ε ++ τ, ft, h, ?_⟩
      cases e : fa ρ with
      | ok h ρ1 => rw [e] at hP; exact hk h ρ1 hP
      | exc c xs ρ1 => rw [e] at hP; exact fun d vs H' fx hx hl hh => hP d vs σ H' fx hx hl (hh.sub (List.Sublist.append_left (List.Sublist.append_left (List.sublist_append_right ..) _) _))
      | stuck => rw [e] at hP; exact hP
    refine st (α := Unit) (ε := hit h0 v0) f1 (mid k1) hP1 fun h1 ρ2 hP2 o1 H2 f2 s2 k2 => ?_
    refine st (α := Unit) (ε := hit h1 o1 ++ hit h0 v0) f2 (k2.perm (permc fun _ x => by simp only [List.count_append]; omega)) hP2 fun h2 ρ3 hP3 i1 H3 f3 s3 k3 => ?_
    cases h1 with
    | tm a => exact hP3.elim
    | sl j =>
      cases e0 : take ρ3 h0 with
      | none => simp only [e0] at hP3; exact hP3.elim
      | some p =>
        obtain ⟨a, ρ4⟩ := p
        simp only [e0] at hP3
        have k4 : Hold g.T H3 (hit h0 v0 ++ (its ρ3 σ ++ (hit h2 i1 ++ τ))) := k3.perm (permc fun _ x => by simp only [hit, List.count_append, List.count_nil]; omega)
        obtain ⟨f4, o4, k5⟩ := take_ok f3 s1 k4 e0
        have mi : (hv ρ4 h2, i1) ∈ (a, v0) :: (its ρ4 σ ++ (hit h2 i1 ++ τ)) := mem_of f4 s3 (fun x hx => by simp [hx]) fun x hx => by simp [hx]
        have cj := s2 j rfl
        cases e1 : nth ρ4 j <;> simp only [e1] at hP3 <;> try exact hP3.elim
        rename_i fl xs
        cases fl with
        | fz => exact hP3.elim
        | ow =>
          cases e2 : hv ρ4 h2 <;> simp only [e2] at hP3 mi <;> try exact hP3.elim
          rename_i kk
          cases e3 : ixN xs.length kk with
          | none => simp only [e3] at hP3; exact hP3.elim
          | some m =>
            simp only [e3] at hP3
            have k6 : Hold g.T H3 (its ρ4 σ ++ ((a, v0) :: τ)) := by
              have : Hold g.T H3 (hit h2 i1 ++ (its ρ4 σ ++ ((a, v0) :: τ))) := k5.perm (permc fun _ x => by simp only [List.count_append, List.count_cons]; omega)
              exact this.right
            have k7 := k6.slotOut f4 cj
            rw [e1] at k7
            obtain ⟨p, vs, rfl, hp, hl, _⟩ := k7.g_lst List.mem_cons_self
            refine ⟨p, vs, kk, m, rfl, k5.g_int mi, hp, by rw [hl]; exact e3, ?_⟩
            have k8 := Hold.write k7 (o := .lst (vs.set m v0)) rfl (b := .lst .ow (xs.set m a)) rfl fun F s ra ow => ⟨p, _, rfl, upd_same, by
              obtain ⟨p', vs', ev, hp', r⟩ := ra
              cases ev
              rw [hp] at hp'; cases hp'
              exact r.set m ((Own.fz o4).mp (ow (a, v0) (by simp))) o4⟩
            have k9 := k8.slotIn f4 cj
            have k10 : Hold g.T (upd H3 p (.lst (vs.set m v0))) (its (ρ4.set j (.lst .ow (xs.set m a))) σ ++ τ) := k9.sub (List.Sublist.append_left (List.sublist_cons_self ..) _)
            exact hP3 σ _ (f4.re cj fun z => by cases z) k10
        | io =>
          cases e2 : hv ρ4 h2 <;> simp only [e2] at hP3 mi <;> try exact hP3.elim
          rename_i kk
          cases e3 : ixN xs.length kk with
          | none => simp only [e3] at hP3; exact hP3.elim
          | some m =>
            simp only [e3] at hP3
            have k6 : Hold g.T H3 (its ρ4 σ ++ ((a, v0) :: τ)) := by
              have : Hold g.T H3 (hit h2 i1 ++ (its ρ4 σ ++ ((a, v0) :: τ))) := k5.perm (permc fun _ x => by simp only [List.count_append, List.count_cons]; omega)
              exact this.right
            have k7 := k6.slotOut f4 cj
            rw [e1] at k7
            obtain ⟨p, vs, rfl, hp, hl, _⟩ := k7.g_lst List.mem_cons_self
            refine ⟨p, vs, kk, m, rfl, k5.g_int mi, hp, by rw [hl]; exact e3, ?_⟩
            have k8 := Hold.write k7 (o := .lst (vs.set m v0)) rfl (b := .lst .io (xs.set m a)) rfl fun F s ra ow => ⟨p, _, rfl, upd_same, by
              obtain ⟨p', vs', ev, hp', r⟩ := ra
              cases ev
              rw [hp] at hp'; cases hp'
              exact r.set m ((Own.fz o4).mp (ow (a, v0) (by simp))) o4⟩
            have k9 := k8.slotIn f4 cj
            have k10 : Hold g.T (upd H3 p (.lst (vs.set m v0))) (its (ρ4.set j (.lst .io (xs.set m a))) σ ++ τ) := k9.sub (List.Sublist.append_left (List.sublist_cons_self ..) _)
            exact hP3 σ _ (f4.re cj fun _ => by rw [e1]; rfl) k10
theorem putF_zip : ∀ {ns : List Str} {vs : List V} {i : Nat} {f : Str} {v : V}, ns.Nodup → ns[i]? = some f → (i < vs.length → putF f v (ns.zip vs) = ns.zip (vs.set i v)) ∧ (i = vs.length → putF f v (ns.zip vs) = ns.zip (vs ++ [v]))
  | [], _, _, _, _, _, e => by simp at e
  | n :: ns, [], 0, f, v, _, e => by simp at e; subst e; exact ⟨fun h => by simp at h, fun _ => by simp [putF]⟩
  | n :: ns, [], i + 1, f, v, _, e => ⟨fun h => by simp at h, fun h => by simp at h⟩
  | n :: ns, w :: vs, 0, f, v, _, e => by
    simp at e; subst e
    exact ⟨fun _ => by simp [putF], fun h => by simp at h⟩
  | n :: ns, w :: vs, i + 1, f, v, nd, e => by
    obtain ⟨q1, q2⟩ := putF_zip (vs := vs) (i := i) (f := f) (v := v) (List.nodup_cons.mp nd).2 (by simpa using e)
    have ne : ¬ n = f := fun z => (List.nodup_cons.mp nd).1 (by rw [z]; exact List.mem_of_getElem? (by simpa using e))
    refine ⟨fun h => ?_, fun h => ?_⟩
    · simp only [List.zip_cons_cons, putF, if_neg ne, List.set_cons_succ, q1 (by simpa using h)]
    · simp only [List.zip_cons_cons, putF, if_neg ne, List.cons_append, q2 (by simpa using h)]
theorem sv_at {c : String} {n : Nat} {f : Str} (hK : X.K = g.T.K) (cl : Cls g.T.K (g.T.ca c)) (na : NoAttr g.T.K (g.T.ca c) f) (hn : (g.T.flds c)[n]? = some f) (nd : (g.T.flds c).Nodup) (few : (g.T.flds c).length < 1000) (ho : EV g X o fo) (hv' : EV g X v fv)
    (hs : swapsWith v (some (.Attribute o f tpos)) pos.line X.env = pure false := by rfl) : SV g X (.Assign [.Attribute o f tpos] v pos) (sAt c n fo fv) :=
  sv_of (ps_fld ho hv' hs) fun D σ H ρ τ ft h hP => stepES ft h hP fun h0 ρ1 hP1 v0 H1 f1 s1 k1 => by
    have st : ∀ {fa : M Hd} {k : Hd → M Fw} {ρ : List PV} {ε : Its} {H : Hp} {Q' : VK}, Fits g.s0 ρ σ → Hold g.T H (its ρ σ ++ (ε ++ τ)) → PS1 g τ D ((fa ρ).bind k) → (∀ h ρ1, PS1 g τ D (k h ρ1) → ∀ v H1, Fits g.s0 ρ1 σ → slotAt σ h v → Hold g.T H1 (hit h v ++ (its ρ1 σ ++ (ε ++ τ))) → Q' v H1) → trE g fa σ H Q' := by
      intro fa k ρ ε H Q' ft h hP hk
      refine ⟨ρ, ε ++ τ, ft, h, ?_⟩
      cases e : fa ρ with
      | ok h ρ1 => rw [e] at hP; exact hk h ρ1 hP
      | exc c xs ρ1 => rw [e] at hP; exact fun d vs H' fx hx hl hh => hP d vs σ H' fx hx hl (hh.sub (List.Sublist.append_left (List.Sublist.append_left (List.sublist_append_right ..) _) _))
      | stuck => rw [e] at hP; exact hP
    refine st (ε := hit h0 v0) f1 (mid k1) hP1 fun h1 ρ2 hP2 o1 H2 f2 s2 k2 => ?_
    cases h1 with
    | tm a => exact hP2.elim
    | sl j =>
      cases e0 : take ρ2 h0 with
      | none => simp only [e0] at hP2; exact hP2.elim
      | some p =>
        obtain ⟨a, ρ4⟩ := p
        simp only [e0] at hP2
        have k4 : Hold g.T H2 (hit h0 v0 ++ (its ρ2 σ ++ τ)) := k2.perm (permc fun _ x => by simp only [hit, List.count_append, List.count_nil]; omega)
        obtain ⟨f4, o4, k5⟩ := take_ok f2 s1 k4 e0
        have cj := s2 j rfl
        cases e1 : nth ρ4 j <;> simp only [e1] at hP2 <;> try exact hP2.elim
        rename_i fl c' xs
        have main : fl ≠ .fz → PS1 g τ D (if c' = c then (match putA xs n a with
            | some ys => .ok .nx (ρ4.set j (.obj fl c' ys))
            | none => .stuck) else .stuck) → ∃ a C dx fs, o1 = .ref a ∧ H2 a = some (.ins C dx fs) ∧ Cls X.K C ∧ NoAttr X.K C f ∧ fs.length < 1000 ∧ D.nx σ (upd H2 a (.ins C dx (putF f v0 fs))) := by
          intro hfl hQ
          split at hQ
          · rename_i hc
            subst hc
            have own : ∀ ys, (PV.obj fl c' ys).own = true := fun ys => by cases fl <;> first | rfl | exact absurd rfl hfl
            have k6 : Hold g.T H2 (its ρ4 σ ++ ((a, v0) :: τ)) := k5.perm (permc fun _ x => by simp only [List.count_append, List.count_cons]; omega)
            have k7 := k6.slotOut f4 cj
            rw [e1] at k7
            obtain ⟨p, dx, vs, rfl, hp, hl, ll⟩ := k7.g_obj List.mem_cons_self
            refine ⟨p, _, dx, _, rfl, hp, by rw [hK]; exact cl, by rw [hK]; exact na, by rw [List.length_zip]; omega, ?_⟩
            obtain ⟨z1, z2⟩ := putF_zip (vs := vs) (v := v0) nd hn
            have hn' : n < (g.T.flds c').length := (List.getElem?_eq_some_iff.mp hn).1
            have fin : ∀ {ys : List PV} {ws : List V}, putF f v0 ((g.T.flds c').zip vs) = (g.T.flds c').zip ws → ws.length ≤ (g.T.flds c').length → (∀ F, Reps g.T F xs vs → Rep g.T F a v0 → Reps g.T F ys ws) → PS1 g τ D (.ok .nx (ρ4.set j (.obj fl c' ys))) → D.nx σ (upd H2 p (.ins (g.T.ca c') dx (putF f v0 ((g.T.flds c').zip vs)))) := by
              intro ys ws ez hw hr hP3
              rw [ez]
              have k8 := Hold.write k7 (o := .ins (g.T.ca c') dx ((g.T.flds c').zip ws)) (own xs) (b := .obj fl c' ys) (own ys) fun F s ra ow => ⟨p, dx, ws, rfl, upd_same, hw, by
                obtain ⟨p', dx', vs', ev, hp', hl', r⟩ := ra
                cases ev
                rw [hp] at hp'
                injection hp' with e1
                injection e1 with e2 e3 e4
                have : vs' = vs := by
                  have z := congrArg (List.map Prod.snd) e4
                  rw [List.map_snd_zip hl', List.map_snd_zip hl] at z
                  exact z.symm
                subst this
                exact hr F r ((Own.fz o4).mp (ow (a, v0) (by simp)))⟩
              have k9 := k8.slotIn f4 cj
              have k10 : Hold g.T _ (its (ρ4.set j (.obj fl c' ys)) σ ++ τ) := k9.sub (List.Sublist.append_left (List.sublist_cons_self ..) _)
              exact hP3 σ _ (f4.re cj fun z => by rw [e1]; exact z) k10
            unfold putA at hQ
            by_cases c1 : n < xs.length
            · rw [if_pos c1] at hQ
              exact fin (z1 (by rw [ll]; exact c1)) (by rw [List.length_set]; exact hl) (fun F r ra => r.set n ra o4) hQ
            · rw [if_neg c1] at hQ
              by_cases c2 : n = xs.length
              · rw [if_pos c2] at hQ
                exact fin (z2 (by rw [ll]; exact c2)) (by rw [List.length_append, ll]; simp; omega) (fun F r ra => r.append (.cons ra o4 .nil)) hQ
              · rw [if_neg c2] at hQ; exact hQ.elim
          · exact hQ.elim
        cases fl with
        | fz => exact hP2.elim
        | ow => exact main (by intro z; cases z) hP2
        | io => exact main (by intro z; cases z) hP2
end
end VL
set_option Elab.async false
set_option linter.all false
set_option maxRecDepth 100000
namespace VL
open PySem PySem.Spec PyProof.Rows L2
def kT : PV → String
  | .str _ => "str"
  | .lst _ _ => "list"
  | .scr _ => "list"
  | .dK _ _ _ => "dict"
  | .int _ => "int"
  | _ => ""
def muEnd (op : PV → List PV → Option (PV × PV)) (h : Hd) (p : Option (List PV × List PV)) : R Hd := match h, p with
  | .sl i, some (as, ρ3) => (match op (nth ρ3 i) as with
    | some (c, a) => .ok (.tm c) (ρ3.set i a)
    | none => .stuck)
  | _, _ => .stuck
/-- a method that changes the object in a slot -/
def eMu (T : String) (op : PV → List PV → Option (PV × PV)) (fo : M Hd) (fs : M (List Hd)) : M Hd := fun ρ => (fo ρ).bind fun h ρ1 => if kT (hv ρ1 h) = T then (fs ρ1).bind fun hs ρ2 => muEnd op h (takes hs ρ2) else .stuck
def Muv (T : Tb) (op : PV → List PV → Option (PV × PV)) (r : V → List V → Hp → VK → Prop) : Prop := ∀ (H : Hp) (l : Its) (a a' c : PV) (as : List PV) (v : V) (vs : List V) (Q : VK), Hold T H ((a, v) :: l) → vs.length = as.length → (∀ b ∈ as, b.own = false) → (∀ x ∈ as.zip vs, x ∈ l) → op a as = some (c, a') →
  a'.fl = a.fl ∧ a'.isEmp = false ∧ ((∀ z H', Hold T H' ((c, z) :: (a', v) :: l) → Q z H') → r v vs H Q)
section
variable {g : G} {X : Cx} {e o : Expr} {es : List Expr} {fo : M Hd} {fs : M (List Hd)} {apos cpos : Pos} {name : Str} {T id : String} {op : PV → List PV → Option PV} {opu : PV → List PV → Option (PV × PV)} {r : V → List V → Hp → VK → Prop}
theorem tyV_of {Tb : Tb} {H : Hp} {l : Its} {a : PV} {v : V} (k : Hold Tb H l) (m : (a, v) ∈ l) (e : kT a = T) (ne : T ≠ "") : tyV Tb.K T v H := by
  obtain ⟨F, s, r, _⟩ := k.get m
  subst e
  cases a with
  | str x => cases r; rfl
  | int x => cases r; rfl
  | lst o xs => obtain ⟨p, vs, rfl, h1, _⟩ := r; exact .inl ⟨rfl, vs, SqL.of h1⟩
  | scr ns => obtain ⟨p, rfl, h1⟩ := r; exact .inl ⟨rfl, _, h1⟩
  | dK o ks xs => obtain ⟨p, vs, rfl, h1, _⟩ := r; exact .inr (.inr (.inl ⟨rfl, .inl ⟨_, h1⟩⟩))
  | _ => exact absurd rfl ne
theorem mu_fin {σ : L2.St} {ρ2 : List PV} {τ : Its} {Q : VK} {h1 : Hd} {v : V} {hs : List Hd} {vs : List V} {H2 : Hp} (hm : Muv g.T opu r) (s1 : slotAt σ h1 v) (f2 : Fits g.s0 ρ2 σ) (s2 : slotsAt σ hs vs) (k2 : Hold g.T H2 (hits hs vs ++ (its ρ2 σ ++ (hit h1 v ++ τ))))
    (hP : Post g σ τ (PE1 g σ τ Q) (muEnd opu h1 (takes hs ρ2))) : r v vs H2 Q := by
  cases h1 with
  | tm a => exact hP.elim
  | sl i =>
    cases e0 : takes hs ρ2 with
    | none => rw [e0] at hP; exact hP.elim
    | some p =>
      obtain ⟨as, ρ3⟩ := p
      rw [e0] at hP
      simp only [muEnd] at hP
      have k3 : Hold g.T H2 (hits hs vs ++ (its ρ2 σ ++ τ)) := by simpa [hit] using k2
      obtain ⟨f3, l3, o3, k4⟩ := takes_ok f2 s2 k3 e0
      have ci := s1 i rfl
      have k5 : Hold g.T H2 (its ρ3 σ ++ (as.zip vs ++ τ)) := mid k4
      have k6 := k5.slotOut f3 ci
      cases e1 : opu (nth ρ3 i) as with
      | none => rw [e1] at hP; exact hP.elim
      | some p =>
        obtain ⟨c, a'⟩ := p
        rw [e1] at hP
        obtain ⟨fl, ne, go⟩ := hm H2 _ (nth ρ3 i) a' c as v vs Q k6 l3 o3 (fun x hx => List.mem_append_right _ (List.mem_append_left _ hx)) e1
        refine go fun z H' k7 => ?_
        have k8 : Hold g.T H' ((a', v) :: (its (ρ3.set i .emp) σ ++ ((c, z) :: (as.zip vs ++ τ)))) := k7.perm (permc fun _ x => by simp only [List.count_append, List.count_cons]; omega)
        have k9 := k8.slotIn f3 ci
        refine hP z H' (f3.re ci fun q => by rw [← io_eq fl]; exact q) slot_tm ?_
        have k10 : Hold g.T H' (as.zip vs ++ ((c, z) :: (its (ρ3.set i a') σ ++ τ))) := k9.perm (permc fun _ x => by simp only [List.count_append, List.count_cons]; omega)
        exact k10.right
theorem ev_mu (hK : X.K = g.T.K) (pa : PlainAttrs T) (slot : Slot T name id) (hty : typeOf (.builtin id) = pure (.type "method_descriptor")) (ne : T ≠ "") (hm : MtR X id r) (hv' : Muv g.T opu r) (ho : EV g X o fo) (ha : AV g X (e :: es) fs)
    (hbase : attributeBase o name X.env (eval o X.env) = eval o X.env := by rfl)
    (hfew : ((backTo cpos (starEach (e :: es) X.env)).all (fun x => !x.1) && (backToKw cpos (keywordEach [] X.env)).all (fun x => x.1.isSome)
      && decide ((e :: es).length + ([] : List Keyword).length + (if ([] : List Keyword).isEmpty then 0 else 1) < 30)) = true := by rfl)
    (hline : (apos.endLine == cpos.line) = true := by rfl) (hs : starEach (e :: es) X.env = (false, eval e X.env) :: starEach es X.env := by rfl) (hplain : (backTo cpos (starEach es X.env)).any (·.1) = false := by rfl) :
    EV g X (.Call (.Attribute o name apos) (e :: es) [] cpos) (eMu T opu fo fs) :=
  ev_of (pe_bm pa slot hty hm ho ha hbase hfew hline hs hplain) fun σ H Q ρ τ f h hP => stepE (ε := []) f (nilT h) hP fun h1 ρ1 hP1 v H1 f1 s1 k1 => by
    rw [List.nil_append] at k1
    split at hP1
    · rename_i hk
      refine ⟨by rw [hK]; exact tyV_of k1 (mem_hv f1 s1) hk ne, ?_⟩
      exact stepA (ε := hit h1 v) f1 (mid k1) hP1 fun hs ρ2 hP2 vs H2 f2 s2 k2 => mu_fin hv' s1 f2 s2 k2 hP2
    · exact hP1.elim
end
def uAppend : PV → List PV → Option (PV × PV)
  | .lst o xs, [a] => if o = .fz then none else if xs.length < lim then some (.non, .lst o (xs ++ [a])) else none
  | _, _ => none
def uPop1 : PV → List PV → Option (PV × PV)
  | .lst o xs, [.int i] => if o = .fz then none else if i.natAbs ≤ lim then (match ixN xs.length i with
    | some j => (match xs[j]? with
      | some y => some (y, .lst o (xs.eraseIdx j))
      | none => none)
    | none => none) else none
  | _, _ => none
def uInsert : PV → List PV → Option (PV × PV)
  | .lst o xs, [.int i, a] => if o = .fz then none else if xs.length < lim ∧ 0 ≤ i ∧ i < 2 ^ 63 then some (.non, .lst o (xs.take i.toNat ++ [a] ++ xs.drop i.toNat)) else none
  | _, _ => none
def uExtend : PV → List PV → Option (PV × PV)
  | .lst o xs, [.lst _ ys] => if o = .fz then none else if xs.length + ys.length ≤ lim then some (.non, .lst o (xs ++ ys)) else none
  | _, _ => none
section
variable {T : Tb}
/-- an own list: where it lies, and how it is changed -/
theorem lst_write {H : Hp} {l : Its} {o : Fl} {xs : List PV} {v : V} (ho : o ≠ .fz) (k : Hold T H ((.lst o xs, v) :: l)) : ∃ p vs, v = .ref p ∧ H p = some (.lst vs) ∧ vs.length = xs.length ∧
    ∀ ys ws, (∀ F, Same F H → Reps T F xs vs → (∀ x ∈ l, Own T H F x.1 x.2) → Reps T F ys ws) → Hold T (upd H p (.lst ws)) ((.lst o ys, v) :: l) := by
  obtain ⟨p, vs, rfl, hp, hl, _⟩ := k.g_lst List.mem_cons_self
  have own : ∀ ys, (PV.lst o ys).own = true := fun ys => by cases o <;> first | rfl | exact absurd rfl ho
  refine ⟨p, vs, rfl, hp, hl, fun ys ws q => ?_⟩
  exact Hold.write k (own xs) (own ys) fun F s ra ow => ⟨p, ws, rfl, upd_same, by
    obtain ⟨p', vs', ev, hp', r⟩ := ra
    cases ev
    rw [hp] at hp'; cases hp'
    exact q F s r ow⟩
theorem u_append : Muv T uAppend rAppend := by
  intro H l a a' c as v vs Q k hl ho hm e
  unfold uAppend at e
  split at e
  · rename_i o xs b
    split at e
    · cases e
    · rename_i hfz
      split at e <;> cases e
      rename_i hz
      refine ⟨rfl, rfl, fun q => ?_⟩
      obtain ⟨v0, rfl, m⟩ := one_arg rfl hl hm
      obtain ⟨p, vs, rfl, hp, hl2, wr⟩ := lst_write hfz k
      have hb := ho b (by simp)
      exact ⟨p, vs, v0, rfl, rfl, hp, by rw [hl2]; exact lim_lt hz, q _ _ (wr _ _ fun F s r ow => r.append (.cons ((Own.fz hb).mp (ow (b, v0) m)) hb .nil)).non⟩
  · cases e
theorem u_insert : Muv T uInsert (fun x vs H Q => ∃ (l : Addr) (xs : List V) (i : Int) (y : V), x = .ref l ∧ vs = [.int i, y] ∧ H l = some (.lst xs) ∧ xs.length < sizeLine ∧ 0 ≤ i ∧ i < 2 ^ 63 ∧ Q .non (upd H l (.lst (xs.take i.toNat ++ [y] ++ xs.drop i.toNat)))) := by
  intro H l a a' c as v vs Q k hl ho hm e
  unfold uInsert at e
  split at e
  · rename_i o xs i b
    split at e
    · cases e
    · rename_i hfz
      split at e <;> cases e
      rename_i hz
      refine ⟨rfl, rfl, fun q => ?_⟩
      obtain ⟨w, v0, rfl, m1, m2⟩ := two_arg rfl hl hm
      have ew := k.g_int (List.mem_cons_of_mem _ m1)
      obtain ⟨p, vs, rfl, hp, hl2, wr⟩ := lst_write hfz k
      have hb := ho b (by simp)
      exact ⟨p, vs, i, v0, rfl, by rw [ew], hp, by rw [hl2]; exact lim_lt hz.1, hz.2.1, hz.2.2, q _ _ (wr _ _ fun F s r ow => ((r.take _).append (.cons ((Own.fz hb).mp (ow (b, v0) m2)) hb .nil)).append (r.drop _)).non⟩
  · cases e
theorem u_extend : Muv T uExtend rExtend := by
  intro H l a a' c as v vs Q k hl ho hm e
  unfold uExtend at e
  split at e
  · rename_i o xs fl ys
    split at e
    · cases e
    · rename_i hfz
      split at e <;> cases e
      rename_i hz
      refine ⟨rfl, rfl, fun q => ?_⟩
      obtain ⟨v0, rfl, m⟩ := one_arg rfl hl hm
      obtain ⟨p2, ws, ev2, hp2, hl3, _⟩ := k.g_lst (List.mem_cons_of_mem _ m)
      obtain ⟨p, vs, rfl, hp, hl2, wr⟩ := lst_write hfz k
      subst ev2
      exact ⟨p, p2, vs, ws, rfl, rfl, hp, hp2, lim_le (by rw [hl2, hl3]; exact hz), q _ _ (wr _ _ fun F s r ow => r.append (reps_lst s ow m hp2)).non⟩
  · cases e
theorem Reps.dropLast {F : Hp} {xs : List PV} {vs : List V} (r : Reps T F xs vs) : Reps T F xs.dropLast vs.dropLast := by
  rw [List.dropLast_eq_take, List.dropLast_eq_take, r.length]; exact r.take _
/-- an item of an own list by itself, the list changed behind it -/
theorem pop_at {H : Hp} {l : Its} {o : Fl} {xs ys : List PV} {p : Addr} {vs ws : List V} {j : Nat} {y : PV} {y' : V} (hfz : o ≠ .fz) (k : Hold T H ((.lst o xs, .ref p) :: l)) (hp : H p = some (.lst vs)) (h1 : xs[j]? = some y) (h2 : vs[j]? = some y')
    (r : ∀ F, Reps T F xs vs → Reps T F ys ws) : Hold T (upd H p (.lst ws)) ((y, y') :: (.lst o ys, .ref p) :: l) := by
  have k2 : Hold T H ((y, y') :: (.lst o xs, .ref p) :: l) := by
    have own : y.own = false := by
      obtain ⟨F, s, ⟨p', ws, ev, hp', r⟩, _⟩ := k.get List.mem_cons_self
      obtain ⟨_, _, _, z⟩ := r.at h1
      exact z
    refine k.add own fun F s ow => ?_
    have r := reps_lst s ow List.mem_cons_self hp
    obtain ⟨w, h3, h4, _⟩ := r.at h1
    rw [h2] at h3; cases h3
    exact h4
  have k3 : Hold T H ((.lst o xs, .ref p) :: ((y, y') :: l)) := k2.perm (List.Perm.swap ..)
  obtain ⟨p2, vs2, ev, hp2, _, wr2⟩ := lst_write hfz k3
  cases ev
  rw [hp] at hp2; cases hp2
  exact (wr2 _ _ fun F s r' ow => r F r').perm (List.Perm.swap ..)
theorem u_pop1 : Muv T uPop1 rPopAt := by
  intro H l a a' c as v vs Q k hl ho hm e
  unfold uPop1 at e
  split at e
  · rename_i o xs i
    split at e
    · cases e
    · rename_i hfz
      split at e
      · rename_i hz
        split at e
        · rename_i j h0
          split at e <;> cases e
          rename_i h1
          refine ⟨rfl, rfl, fun q => ?_⟩
          obtain ⟨v0, rfl, m⟩ := one_arg rfl hl hm
          have ev0 := k.g_int (List.mem_cons_of_mem _ m)
          obtain ⟨p, vs', rfl, hp, hl2, wr⟩ := lst_write hfz k
          obtain ⟨s1, s2, s3, s4⟩ := ixN_seq h0
          have h2 : vs'[j]? = some (vs'[j]'(by omega)) := by simp
          have hlim : lim = 100000 := rfl
          exact ⟨p, vs', i, j, _, rfl, by rw [ev0], hp, by omega, by omega, by rw [hl2]; exact s1, h2, q _ _ (pop_at hfz k hp h1 h2 fun F r => r.eraseIdx j)⟩
        · cases e
      · cases e
  · cases e
end
def fmtOk : PV → Bool
  | .non => true
  | .int i => decide (i.natAbs.log2 < 1920)
  | .str y => decide (y.length ≤ 2000)
  | _ => false
def sRaise1 (c : String) (ok : PV → Bool) (fs : M (List Hd)) : M Fw := fun ρ => (fs ρ).bind fun hs ρ1 => match takes hs ρ1 with
  | some ([a], ρ2) => if ok a = true then .exc c [a] ρ2 else .stuck
  | _ => .stuck
section
variable {g : G} {X : Cx} {e : Expr} {es : List Expr} {fs : M (List Hd)} {k : Nat} {x nm : Str} {c : String} {p pos pos' : Pos}
theorem sv_raise1 {okf : V → Prop} {ok : PV → Bool} (hok : ∀ (H : Hp) (l : Its) (a : PV) (v : V), Hold g.T H l → (a, v) ∈ l → ok a = true → okf v) (hc : X.calm = true) (tk : L2N.Takes X g.W) (D : My.DnE X.prog X.w X.K X.mg X.base k x (g.T.ca c) (My.spErr1 okf nm (g.T.ca c)))
    (hr : My.RoomG (k + 1) X.A) (hg : Gl X x) (hf : g.T.flds c = [nm]) (ha : AV g X (e :: es) fs) (hdb : (x == ("__debug__" : Str)) = false := by decide) (he : starEach (e :: es) X.env = (false, eval e X.env) :: starEach es X.env := by rfl) (hpl : (backTo pos (starEach es X.env)).any (·.1) = false := by rfl) :
    SV g X (.Raise (some (.Call (.Name x p) (e :: es) [] pos)) none pos') (sRaise1 c ok fs) :=
  sv_of (My.ps_raise1 hc tk D hr hg ha hdb he hpl) fun D' σ H ρ τ ft h hP => stepAS ft h hP fun hs ρ1 hP1 vs H1 f1 s1 k1 => by
    cases e0 : takes hs ρ1 with
    | none => simp only [e0] at hP1; exact hP1.elim
    | some q =>
      obtain ⟨as, ρ2⟩ := q
      simp only [e0] at hP1
      obtain ⟨f2, l2, o2, k2⟩ := takes_ok f1 s1 k1 e0
      match as, l2, hP1 with
      | [a], l2, hP1 =>
        simp only at hP1
        split at hP1
        · rename_i hok'
          obtain ⟨v, rfl⟩ : ∃ v, vs = [v] := by
            match vs, l2 with
            | [v], _ => exact ⟨v, rfl⟩
          refine ⟨v, rfl, hok H1 _ a v k2 (by simp) hok', fun d H' sm nd hd => ?_⟩
          exact hP1 (some d) [v] σ H' f2 ⟨by rw [hd, hf]; rfl, by rw [hf]; exact Nat.le_refl _⟩ rfl (k2.same sm)
        · exact hP1.elim
theorem fmt_ok {T : Tb} (H : Hp) (l : Its) (a : PV) (v : V) (k : Hold T H l) (m : (a, v) ∈ l) (h : fmtOk a = true) : My.FmtOk v := by
  cases a with
  | non => rw [k.g_non m]; trivial
  | int i => rw [k.g_int m]; exact (show i.natAbs.log2 < 1920 from of_decide_eq_true h)
  | str y => rw [k.g_str m]; exact (show y.length ≤ 2000 from of_decide_eq_true h)
  | _ => cases h
end
end VL
set_option Elab.async false
set_option linter.all false
set_option maxRecDepth 100000
namespace VL
open PySem PySem.Spec PyProof.Rows L2
theorem hu65 {A : Around} {k : Nat} (hr : My.RoomG k A) : A.units + 65 < cLine := by have := hr.un; omega
section
variable {g : G} {X : Cx} {e e2 tg : Expr} {es : List Expr} {fe : M Hd} {fs : M (List Hd)} {pos p tpos : Pos}
theorem evn (i : Nat) {x : Str} {pos : Pos} (hN : X.N[i]? = some x := by rfl) (hv : Vis X.env.scope x := by first | exact Or.inl rfl | exact Or.inr (Or.inl rfl) | exact Or.inr (Or.inr rfl)) (hd : (x == ("__debug__" : Str)) = false := by decide) (hcd : (x == ("__classdict__" : Str)) = false := by decide) :
    EV g X (.Name x pos) (eN i) := ev_name hN hv hd hcd
def iEnV (K : PySem.W.Frag) (ta : TA) : TI := fun σ H R => ta σ H fun vs H1 => ∃ a, vs = [.ref a] ∧ (((∃ xs, SqL K H1 a xs) ∧ R (Ite K a) H1) ∨ ((∃ xs, SqT K H1 a xs) ∧ R (My.IteT K a) H1))
theorem pi_enV {ta : TA} {elts : List Expr} {kk : Nat} (hg : Gl X "enumerate") (hm : X.mg "enumerate" = none) (ha : PA X [e] ta) (hs : starEach [e] X.env = [(false, eval e X.env)] := by rfl) :
    PI X (.Tuple elts kk tpos) (.Call (.Name "enumerate" p) [e] [] pos) (iEnV X.K ta) := by
  refine ⟨fun pins s σ H R I h => ?_⟩
  refine Call_ (ld_blt I hg hm boot_enumerate (PyProof.Rows.callWith_type1 (thn (ha.run pos pins s σ H _ I h) fun us s1 ⟨vs, H1, I1, r1, q1⟩ => ?_) hs rfl))
  obtain ⟨a, ex, hq⟩ := q1
  subst ex
  cases r1 with
  | cons r rr =>
    cases rr
    cases r
    have fp : ∀ b ∈ [s1.heap.objs.size + 1, s1.heap.objs.size], FpOk X pins H1 b := fun b hb => by
      have e' : b = s1.heap.objs.size + 1 ∨ b = s1.heap.objs.size := by simpa using hb
      have hle : s1.heap.objs.size ≤ b := by
        rcases e' with z | z
        · rw [z]; exact Nat.le_add_right _ _
        · rw [z]; exact Nat.le_refl _
      exact I1.fpOk hle (I1.hok.fresh hle)
    rcases hq with ⟨⟨xs, hq⟩, q⟩ | ⟨⟨xs, hq⟩, q⟩
    · obtain ⟨its, rv, p', hz⟩ := I1.list hq
      refine call_enumerate_list p'.isList fun h' he hit hsz hk => wpAny_pyIter_enum he ?_
      have I2 : Inv X pins σ H1 { s1 with heap := h' } := I1.kept (t' := s1.toks) hk
      exact ⟨s1.heap.objs.size + 1, [s1.heap.objs.size + 1, s1.heap.objs.size], _, _, H1, rfl, I2, turn_enum a (s1.heap.objs.size + 1) s1.heap.objs.size, ⟨⟨.none, he⟩, hit, Nat.succ_ne_self _⟩, fp, q⟩
    · obtain ⟨its, rv, p', hz⟩ := I1.tuple hq
      refine My.enum_begins1 (begins_tuple a its.toArray) p' fun h' he ho hk => wpAny_pyIter_enum he ?_
      have I2 : Inv X pins σ H1 { s1 with heap := h' } := I1.kept (t' := s1.toks) hk
      exact ⟨s1.heap.objs.size + 1, [s1.heap.objs.size + 1, s1.heap.objs.size], _, _, H1, rfl, I2, My.turn_enumT a (s1.heap.objs.size + 1) s1.heap.objs.size, ⟨⟨.none, he⟩, ⟨_, ho, rfl, rfl⟩, Nat.succ_ne_self _⟩, fp, q⟩
def pairs : List PV → Nat → List PV
  | [], _ => []
  | x :: xs, n => .tup [.int (n : Nat), x] :: pairs xs (n + 1)
theorem pairs_at : ∀ {xs : List PV} {n i : Nat} {b : PV}, (pairs xs n)[i]? = some b → ∃ x, xs[i]? = some x ∧ b = .tup [.int ((n + i : Nat) : Int), x]
  | [], _, _, _, h => by simp [pairs] at h
  | x :: xs, n, 0, b, h => by simp [pairs] at h; exact ⟨x, rfl, h.symm⟩
  | x :: xs, n, i + 1, b, h => by
    obtain ⟨y, h1, h2⟩ := pairs_at (xs := xs) (n := n + 1) (i := i) (by simpa [pairs] using h)
    exact ⟨y, by simpa using h1, by rw [h2, show n + 1 + i = n + (i + 1) by omega]⟩
theorem pairs_len : ∀ (xs : List PV) (n : Nat), (pairs xs n).length = xs.length
  | [], _ => rfl
  | x :: xs, n => by simp [pairs, pairs_len xs (n + 1)]
theorem pairs_own {xs : List PV} {n : Nat} : ∀ b ∈ pairs xs n, b.own = false := fun b hb => by
  obtain ⟨i, hi⟩ := List.mem_iff_getElem?.mp hb
  obtain ⟨x, _, rfl⟩ := pairs_at hi
  rfl
def iEnumV (fs : M (List Hd)) : M (List PV) := fun ρ => (fs ρ).bind fun hs ρ1 => match takes hs ρ1 with
  | some ([a], ρ2) => ofX ρ2 ((seqOf a).map fun xs => pairs xs 0)
  | _ => .stuck
theorem walk_eL {K : PySem.W.Frag} {a : Addr} {n : Nat} : Walk (Ite K a) n (fun H => ∃ vs, SqL K H a vs ∧ vs.length = n) (fun i H v H' => ∃ T x, v = .ref T ∧ H T = none ∧ H' = upd H T (.tup [.int (i : Nat), x]) ∧ ∀ xs, SqL K H a xs → xs[i]? = some x) :=
  ⟨fun i _ hi ⟨vs, q, hl⟩ => ⟨vs, vs[i]'(by omega), q, by simp⟩, fun _ ⟨vs, q, hl⟩ => ⟨vs, q, by omega⟩, fun _ _ _ _ _ _ y => y⟩
theorem walk_eT {K : PySem.W.Frag} {a : Addr} {n : Nat} : Walk (My.IteT K a) n (fun H => ∃ vs, SqT K H a vs ∧ vs.length = n) (fun i H v H' => ∃ T x, v = .ref T ∧ H T = none ∧ H' = upd H T (.tup [.int (i : Nat), x]) ∧ ∀ xs, SqT K H a xs → xs[i]? = some x) :=
  ⟨fun i _ hi ⟨vs, q, hl⟩ => ⟨vs, vs[i]'(by omega), q, by simp⟩, fun _ ⟨vs, q, hl⟩ => ⟨vs, q, hl⟩, fun _ _ _ _ _ _ y => y⟩
/-- a new pair of two items that stand by themselves -/
theorem pair_new {T : Tb} {H : Hp} {l : Its} {a b : PV} {v w : V} {t : Addr} (k : Hold T H ((a, v) :: (b, w) :: l)) (ha : a.own = false) (hb : b.own = false) (ht : H t = none) : Hold T (upd H t (.tup [v, w])) ((.tup [a, b], .ref t) :: l) := by
  have := Hold.new_fz k ht (o := .tup [v, w]) (a := .tup [a, b]) (v := .ref t) rfl fun F s o => ⟨t, _, rfl, SqT.of upd_same, by
    refine (Reps.cons ((Own.fz ha).mp (o (a, v) (by simp))) ha (.cons ((Own.fz hb).mp (o (b, w) (by simp))) hb .nil)).mono (same_newF s ht _)⟩
  exact this.sub (.cons_cons _ (.cons _ (.cons _ (List.Sublist.refl _))))
theorem ienum_q (hK : X.K = g.T.K) : ∀ (σ : L2.St) (H : Hp) (R : It → Hp → Prop) (ρ : List PV) (τ : Its), Fits g.s0 ρ σ → Hold g.T H (its ρ σ ++ τ) → Post g σ τ (PI1 g σ τ R) (iEnumV fs ρ) → iEnV X.K (trA g fs) σ H R :=
  fun σ H R ρ τ ft h hP => stepA (ε := []) ft (nilT h) hP fun hs ρ1 hP1 vs H1 f1 s1 k1 => by
    rw [List.nil_append] at k1
    cases e0 : takes hs ρ1 with
    | none => simp only [e0] at hP1; exact hP1.elim
    | some q =>
      obtain ⟨as, ρ2⟩ := q
      simp only [e0] at hP1
      obtain ⟨f2, l2, o2, k2⟩ := takes_ok f1 s1 k1 e0
      match as, l2, o2, k2, hP1 with
      | [a], l2, o2, k2, hP1 =>
        obtain ⟨v, rfl⟩ : ∃ v, vs = [v] := by
          match vs, l2 with
          | [v], _ => exact ⟨v, rfl⟩
        simp only at hP1
        cases e2 : seqOf a with
        | none => rw [e2] at hP1; exact hP1.elim
        | some xs =>
          rw [e2] at hP1
          have k2 : Hold g.T H1 ((a, v) :: (its ρ2 σ ++ τ)) := k2
          have own := items_own k2 List.mem_cons_self e2
          obtain ⟨p, rfl, hq⟩ := seq_at k2 List.mem_cons_self e2
          refine ⟨p, rfl, ?_⟩
          rw [hK]
          rcases hq with hq | hq
          · obtain ⟨vs, q1, q2, _⟩ := hq _ _ k2 List.mem_cons_self
            refine .inl ⟨⟨vs, q1⟩, hP1 (Ite g.T.K p) H1 [(a, .ref p)] _ _ (by rw [pairs_len]; exact walk_eL) (fun H l k => ?_) (fun i H x H' l b hb k y => ?_) pairs_own f2 k2⟩
            · obtain ⟨vs, q1, q2, _⟩ := hq H _ k (by simp)
              exact ⟨vs, q1, q2⟩
            · obtain ⟨_, _, _, q3⟩ := hq H _ k (by simp)
              obtain ⟨t, x', rfl, ht, rfl, y⟩ := y
              obtain ⟨c, hc, rfl⟩ := pairs_at hb
              have k5 := q3 i x' y c hc
              rw [Nat.zero_add]
              exact pair_new (k5.int (i := (i : Nat))) rfl (own c (List.mem_of_getElem? hc)) ht
          · obtain ⟨vs, q1, q2, _⟩ := hq _ _ k2 List.mem_cons_self
            refine .inr ⟨⟨vs, q1⟩, hP1 (My.IteT g.T.K p) H1 [(a, .ref p)] _ _ (by rw [pairs_len]; exact walk_eT) (fun H l k => ?_) (fun i H x H' l b hb k y => ?_) pairs_own f2 k2⟩
            · obtain ⟨vs, q1, q2, _⟩ := hq H _ k (by simp)
              exact ⟨vs, q1, q2⟩
            · obtain ⟨_, _, _, q3⟩ := hq H _ k (by simp)
              obtain ⟨t, x', rfl, ht, rfl, y⟩ := y
              obtain ⟨c, hc, rfl⟩ := pairs_at hb
              have k5 := q3 i x' y c hc
              rw [Nat.zero_add]
              exact pair_new (k5.int (i := (i : Nat))) rfl (own c (List.mem_of_getElem? hc)) ht
theorem iv_enum {elts : List Expr} {kk : Nat} (hK : X.K = g.T.K) (hg : Gl X "enumerate") (hm : X.mg "enumerate" = none) (ha : AV g X [e] fs) (hs : starEach [e] X.env = [(false, eval e X.env)] := by rfl) :
    IV g X (.Tuple elts kk tpos) (.Call (.Name "enumerate" p) [e] [] pos) (iEnumV fs) := iv_of (pi_enV hg hm ha hs) (ienum_q hK)
end
end VL
set_option Elab.async false
set_option linter.all false
set_option maxRecDepth 100000
namespace VL
open PySem PySem.Spec PyProof.Rows L2
end VL
set_option Elab.async false
set_option linter.all false
set_option maxRecDepth 100000
namespace VL
open PySem PySem.Spec PyProof.Rows L2
open Classical in
noncomputable def pick (xs : List PV) (f : Option Addr → R Fw) : R Fw := if (∀ d, (d = none → xs = []) → f d = f (some 0)) then f (some 0) else .stuck
end VL
set_option Elab.async false
set_option linter.all false
set_option maxRecDepth 100000
namespace VL
open PySem PySem.Spec PyProof.Rows L2
def spLaw (K : PySem.W.Frag) : Sp := fun vs H Q _ => ∃ (a : Addr) (ns : List Int), vs = [.ref a] ∧ SqL K H a (ns.map V.int) ∧ ns.length ≤ 63 ∧ ∀ H', Q (.bl true) H'
theorem law_ok {P : Program} {w : World} {mg : Str → Option Value} {base : Heap} {T : Tb} {st : Stmt} {f : Addr} {fd : FuncData} {N : List Str} {k : Nat} {W : M Fw} (F : L2.Fun T.K "law" "law" st f fd) (S : FnScope N ["_law_script"] (defScope st)) (hn : 1 ≤ N.length)
    (hl : ∀ ns : List Int, ns.length ≤ 63 → ∃ fin, runF 1 N.length W [.scr ns] = .ok (.bl true) fin) (body : BodyV P w mg base T k "law" st N W) : My.FnG P w T.K mg base (L2N.CX P w) (k + 1) f fd ["_law_script"] (spLaw T.K) := by
  refine My.okG F S (fun vs H Q E h => ?_) fun cdv A outer s H vs Q E hr h => ?_
  · obtain ⟨a, ns, rfl, _⟩ := h; rfl
  · obtain ⟨a, ns, rfl, hS, hle, q⟩ := h
    refine ⟨_, body f cdv A outer s H _ E hr, (body_sp (ps := ["_law_script"]) (by exact hn) ?_).2⟩
    obtain ⟨fin, e⟩ := hl ns hle
    refine ⟨[.scr ns], [], rfl, ⟨H, Same.refl H, fun x hx => ?_, List.nodup_nil, fun p hp => nomatch hp⟩, ?_⟩
    · rcases List.mem_cons.mp hx with rfl | hx
      · exact (Own.fz rfl).mpr (by simp only [Rep]; exact ⟨a, rfl, hS⟩)
      · exact nomatch hx
    · show Fin _ _ _ _ _ (runF 1 N.length W [.scr ns])
      rw [e]
      intro v H' k'
      have := k'.g_bl List.mem_cons_self
      subst this
      exact q H'
theorem walkV {l : PySem.W.OpenLaw} {q : Program} {loose : List Str} {XP : (Str → Option Value) → Heap → Prop} {YP : World → Heap → Prop} {d : DefRec} {K : Params → PySem.W.Frag} {k : Nat} (hn : l.most = some 63) (hdf : d.params.defaults = []) (hr : My.RoomG k callerA)
    (hY : ∀ (w : World) (h : Heap), YP w h → (K w.params).In h)
    (F : ∀ (w : World) (mg : Str → Option Value) (fa : Addr) (h : Heap), (K w.params).In h → h.Ns mainGlobals mg → mg d.name = some (.ref fa) →
      ∃ fd : FuncData, (∀ (s : Shared) (u : Value), BindsTo s fd ⟨[u], []⟩ [("_law_script", u)]) ∧ ∀ base : Heap, (K w.params).In base → base.Ns mainGlobals mg → My.FnG l.prog w (K w.params) mg base (L2N.CX l.prog w) k fa fd ["_law_script"] (spLaw (K w.params))) :
    PySem.W.WalkO q loose XP YP l.row.toRowW d [] (fun f vs => PySem.call f vs) := by
  refine My.walk_G (n := 63) (k := k) (x := "_law_script") (cx := fun w => L2N.CX l.prog w) (sp := fun w => spLaw (K w.params)) hn (by decide) hdf hr hY F (fun w H a ns hl _ hS => ⟨a, ns, rfl, hS, hl, fun _ => rfl⟩) fun w H s e s' z => ?_
  obtain ⟨a, B, H', cls, d, _, _, _, _, _, _, _, z⟩ := z
  exact z
theorem str_room {a y : Str} {m n : Nat} (ha : a.length ≤ m) (hy : y.length ≤ n) (h : m + n ≤ 10000 := by decide) : (a ++ y).length ≤ sizeLine := by
  rw [PySem.Str.length_append]
  have : sizeLine = 2 ^ 24 := rfl
  omega
end VL
set_option Elab.async false
set_option linter.all false
set_option maxRecDepth 100000
namespace VL
open PySem PySem.Spec PyProof.Rows L2
def nowAt (j n i : Nat) (ρ : List PV) : Option PV := match nth ρ j with
  | .lst .io ys => if ys.length = n then ys[i]? else none
  | _ => none
def okAt (j n : Nat) (ρ : List PV) : Bool := match nth ρ j with
  | .lst .io ys => decide (ys.length = n)
  | _ => false
def loopJ (w : Nat → PV → PV) (j n : Nat) (t : Tg) (f : M Fw) : Nat → M Fw
  | 0, ρ => if okAt j n ρ = true then .ok .nx ρ else .stuck
  | m + 1, ρ => match nowAt j n (n - (m + 1)) ρ with
    | some x => (match t (w (n - (m + 1)) x) ρ with
      | some ρ1 => (match f ρ1 with
        | .ok .nx ρ2 => loopJ w j n t f m ρ2
        | .ok .ct ρ2 => loopJ w j n t f m ρ2
        | .ok .bk ρ2 => .ok .nx ρ2
        | r => r)
      | none => .stuck)
    | none => .stuck
def wId (_ : Nat) (x : PV) : PV := x
def wPair (i : Nat) (x : PV) : PV := .tup [.int (i : Int), x]
def sForN (j : Nat) (t : Tg) (f : M Fw) : M Fw := fun ρ => match nth ρ j with
  | .lst .io ys => loopJ wId j ys.length t f ys.length ρ
  | _ => sFor (iSeq (eN j)) t f ρ
def sForE (j : Nat) (t : Tg) (f : M Fw) : M Fw := fun ρ => match nth ρ j with
  | .lst .io ys => loopJ wPair j ys.length t f ys.length ρ
  | _ => sFor (iEnumV (aCons (eN j) aNil)) t f ρ
theorem nowAt_ok {j n i : Nat} {ρ : List PV} {x : PV} (h : nowAt j n i ρ = some x) : okAt j n ρ = true ∧ ∃ ys, nth ρ j = .lst .io ys ∧ ys.length = n ∧ ys[i]? = some x := by
  unfold nowAt at h
  split at h
  · rename_i ys e
    split at h
    · rename_i hl
      exact ⟨by unfold okAt; rw [e]; exact decide_eq_true hl, ys, e, hl, h⟩
    · cases h
  · cases h
theorem okAt_inv {j n : Nat} {ρ : List PV} (h : okAt j n ρ = true) : ∃ ys, nth ρ j = .lst .io ys ∧ ys.length = n := by
  unfold okAt at h
  split at h
  · rename_i ys e
    exact ⟨ys, e, of_decide_eq_true h⟩
  · cases h
section
variable {g : G} {X : Cx} {e o tg iter : Expr} {f : M Fw} {pos : Pos} {w : Nat → PV → PV} {j n : Nat} {t : Tg} {τ : Its} {D : Ends} {ρ : List PV}
theorem loopJ_ok {m : Nat} (h : PS1 g τ D (loopJ w j n t f m ρ)) : okAt j n ρ = true := by
  cases m with
  | zero =>
    simp only [loopJ] at h
    split at h
    · assumption
    · exact h.elim
  | succ m =>
    simp only [loopJ] at h
    cases e : nowAt j n (n - (m + 1)) ρ with
    | none => rw [e] at h; exact h.elim
    | some x => exact (nowAt_ok e).1
theorem io_at {σ : L2.St} {H : Hp} {p : Addr} {ys : List PV} (hs0 : g.s0[j]? = some (some (.ref p))) (f2 : Fits g.s0 ρ σ) (k : Hold g.T H (its ρ σ ++ τ)) (e : nth ρ j = .lst .io ys) : (PV.lst .io ys, V.ref p) ∈ its ρ σ ++ τ := by
  have hio : (nth ρ j).isIo = true := by rw [e]; rfl
  have e1 : σ[j]? = some (some (.ref p)) := by rw [f2.io j hio]; exact hs0
  have m : (nth ρ j, V.ref p) ∈ its ρ σ ++ τ := List.mem_append_left _ (its_mem f2.len e1)
  rw [e] at m
  exact m
theorem for_io {tgt : Expr} {is : List Nat} {J : It} {p : Addr} {σ : L2.St} {H : Hp} {Yw : Nat → Hp → V → Hp → Prop} (hs0 : g.s0[j]? = some (some (.ref p))) (wk : Walk J n (fun H => ∃ vs, SqL g.T.K H p vs ∧ vs.length = n) Yw)
    (hY : ∀ i H x H' l ys b, Hold g.T H l → (PV.lst .io ys, V.ref p) ∈ l → ys[i]? = some b → Yw i H x H' → Hold g.T H' ((w i b, x) :: l)) (wo : ∀ i b, b.own = false → (w i b).own = false)
    (f1 : Fits g.s0 ρ σ) (k1 : Hold g.T H (its ρ σ ++ τ)) (hP : PS1 g τ D (loopJ w j n t f n ρ)) :
    ∃ W : Nat → Nat → L2.St → Hp → Prop, (∃ m, W 0 m σ H) ∧ ∀ i m σ H, W i m σ H →
      (J.stop i H ∧ D.nx σ H) ∨ (J.go i H ∧ ∃ N : L2.St → Hp → Prop, (∀ σ' H', N σ' H' → ∃ m', m' < m ∧ W (i + 1) m' σ' H') ∧ ∀ x H', J.yld i H x H' → trG g t is x σ H' fun σ2 H2 => trS g f { D with nx := N, ct := N, bk := D.nx } σ2 H2) := by
  refine for_it wk (g := trG g t is) (tb := trS g f) (fun i σ H => ∃ ρ, Fits g.s0 ρ σ ∧ Hold g.T H (its ρ σ ++ τ) ∧ PS1 g τ D (loopJ w j n t f (n - i) ρ)) ⟨ρ, f1, k1, hP⟩ (fun i σ H hi ⟨ρ, f2, k2, hP2⟩ => ?_) (fun i x σ H H2 hi ⟨ρ, f2, k2, hP2⟩ y => ?_) fun σ H ⟨ρ, f2, k2, hP2⟩ => ?_
  · obtain ⟨ys, e1, e2⟩ := okAt_inv (loopJ_ok hP2)
    obtain ⟨p', vs, ev, h1, hl, _⟩ := k2.g_lst (io_at hs0 f2 k2 e1)
    cases ev
    exact ⟨vs, SqL.of h1, by rw [hl, e2]⟩
  · obtain ⟨m, hm⟩ : ∃ m, n - i = m + 1 := ⟨n - i - 1, by omega⟩
    have hmi : n - (m + 1) = i := by omega
    have hm2 : n - (i + 1) = m := by omega
    rw [hm] at hP2
    simp only [loopJ, hmi] at hP2
    cases e : nowAt j n i ρ with
    | none => rw [e] at hP2; exact hP2.elim
    | some b =>
      rw [e] at hP2
      simp only at hP2
      obtain ⟨_, ys, e1, e2, e3⟩ := nowAt_ok e
      have mm := io_at hs0 f2 k2 e1
      have bo : b.own = false := items_own k2 mm (xs := ys) rfl b (List.mem_of_getElem? e3)
      have k3 := hY i H x H2 _ ys b k2 mm e3 y
      cases e4 : t (w i b) ρ with
      | none => rw [e4] at hP2; exact hP2.elim
      | some ρ2 =>
        rw [e4] at hP2
        simp only at hP2
        refine ⟨w i b, ρ, τ, f2, wo i b bo, k3, ρ2, e4, fun σ' H'' _ f' k' => ⟨ρ2, τ, f', k', ?_⟩⟩
        have := ps1_more (τx := []) (D := D) (D' := { D with nx := fun σ H => ∃ ρ, Fits g.s0 ρ σ ∧ Hold g.T H (its ρ σ ++ τ) ∧ PS1 g τ D (loopJ w j n t f (n - (i + 1)) ρ), ct := fun σ H => ∃ ρ, Fits g.s0 ρ σ ∧ Hold g.T H (its ρ σ ++ τ) ∧ PS1 g τ D (loopJ w j n t f (n - (i + 1)) ρ), bk := D.nx }) (k := fun ρ2 => loopJ w j n t f m ρ2) (fun ρ3 h3 σ3 H3 f3 k3 => by
          have q : PS1 g τ D (loopJ w j n t f (n - (i + 1)) ρ3) := by
            rw [hm2]
            rcases h3 with h3 | h3 <;> rw [h3] at hP2 <;> exact hP2
          exact ⟨⟨ρ3, f3, k3, q⟩, ⟨ρ3, f3, k3, q⟩⟩) rfl rfl hP2
        exact this
  · rw [Nat.sub_self] at hP2
    simp only [loopJ] at hP2
    split at hP2
    · exact hP2 σ H f2 k2
    · exact hP2.elim
theorem sv_forN {x : Str} {p : Pos} {body : List Stmt} {is : List Nat} (hp : PassesOwn (model X.prog X.w) X.A X.env X.xe) (hc : X.calm = true) (hK : X.K = g.T.K) (he : EV g X (.Name x p) (eN j)) (hg : GV g X tg t is) (hb : BV g X body f)
    (hs : ∀ y, foldedSetIterable (.Name x p) X.env y = pure y := by intro _; rfl) : SV g X (.For tg (.Name x p) body [] pos) (sForN j t f) := by
  refine sv_of (ps_for hp hc (pi_sqV he) hg hb hs) fun D σ H ρ τ ft h hP => ?_
  have other : PS1 g τ D (sFor (iSeq (eN j)) t f ρ) → tFor (iSqV X.K (trE g (eN j))) (trG g t is) (trS g f) D σ H := fun hP => by
    obtain ⟨ρ', τ', f', h', q⟩ := for_q (is := is) D σ H ρ τ ft h hP
    exact iseq_q hK σ H _ ρ' τ' f' h' q
  unfold sForN at hP
  split at hP
  · rename_i ys e
    refine ⟨ρ, τ, ft, h, ?_⟩
    have en : eN j ρ = .ok (.sl j) ρ := by unfold eN; rw [e]; rfl
    rw [en]
    intro v H1 f1 s1 k1
    have k1 : Hold g.T H1 (its ρ σ ++ τ) := by simpa [hit] using k1
    have cj := s1 j rfl
    have m : (PV.lst .io ys, v) ∈ its ρ σ ++ τ := by
      have := List.mem_append_left τ (its_mem f1.len cj)
      rwa [e] at this
    obtain ⟨p, vs, rfl, h1, hl, _⟩ := k1.g_lst m
    have hs0 : g.s0[j]? = some (some (.ref p)) := by rw [← f1.io j (by rw [e]; rfl)]; exact cj
    refine ⟨p, rfl, .inl ⟨⟨vs, by rw [hK]; exact SqL.of h1⟩, ?_⟩⟩
    rw [hK]
    refine for_io (tgt := tg) (w := wId) hs0 walk_L (fun i H x H' l ys b k m e y => ?_) (fun _ _ h => h) f1 k1 hP
    obtain ⟨rfl, y⟩ := y
    obtain ⟨_, _, _, q3⟩ := lst_at _ l k m
    exact q3 i x y b e
  · exact other hP
theorem sv_forE {x : Str} {p p' epos tpos : Pos} {elts : List Expr} {kk : Nat} {body : List Stmt} {is : List Nat} (hp : PassesOwn (model X.prog X.w) X.A X.env X.xe) (hc : X.calm = true) (hK : X.K = g.T.K) (hge : Gl X "enumerate") (hm : X.mg "enumerate" = none) (he : EV g X (.Name x p) (eN j)) (hg : GV g X (.Tuple elts kk tpos) t is) (hb : BV g X body f)
    (h1 : starEach [.Name x p] X.env = [(false, eval (.Name x p) X.env)] := by rfl) (h2 : starEach (.Name x p :: []) X.env = (false, eval (.Name x p) X.env) :: starEach [] X.env := by rfl) (hs : ∀ y, foldedSetIterable (.Call (.Name "enumerate" p') [.Name x p] [] epos) X.env y = pure y := by intro _; rfl) :
    SV g X (.For (.Tuple elts kk tpos) (.Call (.Name "enumerate" p') [.Name x p] [] epos) body [] pos) (sForE j t f) := by
  refine sv_of (ps_for hp hc (pi_enV hge hm (av_cons he av_nil) h1) hg hb hs) fun D σ H ρ τ ft h hP => ?_
  have other : PS1 g τ D (sFor (iEnumV (aCons (eN j) aNil)) t f ρ) → tFor (iEnV X.K (trA g (aCons (eN j) aNil))) (trG g t is) (trS g f) D σ H := fun hP => by
    obtain ⟨ρ', τ', f', h', q⟩ := for_q (is := is) D σ H ρ τ ft h hP
    exact ienum_q hK σ H _ ρ' τ' f' h' q
  unfold sForE at hP
  split at hP
  · rename_i ys e
    refine ⟨ρ, τ, ft, h, ?_⟩
    have en : aCons (eN j) aNil ρ = .ok [.sl j] ρ := by unfold aCons eN aNil; rw [e]; rfl
    rw [en]
    intro vs0 H1 f1 s1 k1
    obtain ⟨v, vs', rfl, c1, c2⟩ := s1
    have c2 : vs' = [] := c2
    subst c2
    have k1 : Hold g.T H1 (its ρ σ ++ τ) := by simpa [hits, hit] using k1
    have cj := c1 j rfl
    have m : (PV.lst .io ys, v) ∈ its ρ σ ++ τ := by
      have := List.mem_append_left τ (its_mem f1.len cj)
      rwa [e] at this
    obtain ⟨p, vs, rfl, h1, hl, _⟩ := k1.g_lst m
    have hs0 : g.s0[j]? = some (some (.ref p)) := by rw [← f1.io j (by rw [e]; rfl)]; exact cj
    refine ⟨p, rfl, .inl ⟨⟨vs, by rw [hK]; exact SqL.of h1⟩, ?_⟩⟩
    rw [hK]
    refine for_io (tgt := .Tuple elts kk tpos) (w := wPair) hs0 walk_eL (fun i H x H' l ys b k m e y => ?_) (fun _ _ _ => rfl) f1 k1 hP
    obtain ⟨T, z, rfl, ht, rfl, y⟩ := y
    obtain ⟨_, _, _, q3⟩ := lst_at _ l k m
    have k5 := q3 i z y b e
    exact pair_new (k5.int (i := (i : Nat))) rfl (items_own k m (xs := ys) rfl b (List.mem_of_getElem? e)) ht
  · exact other hP
end
end VL
set_option Elab.async false
set_option linter.all false
set_option maxRecDepth 100000
namespace VL
open PySem PySem.Spec PyProof.Rows L2
theorem cm_l {i j : Int} (h1 : -(2 ^ 64) < i) (h2 : i < 2 ^ 64) : cMul i j = true := decide_eq_true (.inl ⟨h1, h2⟩)
@[simp] theorem q1 : PV.isIo (PV.emp) = false := rfl
@[simp] theorem q2 : PV.own (PV.emp) = false := rfl
@[simp] theorem q3 : PV.isEmp (PV.emp) = true := rfl
@[simp] theorem q4 : PV.fl (PV.emp) = .fz := rfl
@[simp] theorem q5 : PV.setFl .ow (PV.emp) = (PV.emp) := rfl
@[simp] theorem q6 : PV.setFl .io (PV.emp) = (PV.emp) := rfl
@[simp] theorem q7 : PV.setFl .fz (PV.emp) = (PV.emp) := rfl
@[simp] theorem q8 : fzOf (PV.emp) = none := rfl
@[simp] theorem q9 : kT (PV.emp) = "" := rfl
@[simp] theorem q10 : PV.isIo (PV.non) = false := rfl
@[simp] theorem q11 : PV.own (PV.non) = false := rfl
@[simp] theorem q12 : PV.isEmp (PV.non) = false := rfl
@[simp] theorem q13 : PV.fl (PV.non) = .fz := rfl
@[simp] theorem q14 : PV.setFl .ow (PV.non) = (PV.non) := rfl
@[simp] theorem q15 : PV.setFl .io (PV.non) = (PV.non) := rfl
@[simp] theorem q16 : PV.setFl .fz (PV.non) = (PV.non) := rfl
@[simp] theorem q17 : fzOf (PV.non) = some (PV.non) := rfl
@[simp] theorem q18 : kT (PV.non) = "" := rfl
@[simp] theorem q19 {b} : PV.isIo (PV.bl b) = false := rfl
@[simp] theorem q20 {b} : PV.own (PV.bl b) = false := rfl
@[simp] theorem q21 {b} : PV.isEmp (PV.bl b) = false := rfl
@[simp] theorem q22 {b} : PV.fl (PV.bl b) = .fz := rfl
@[simp] theorem q23 {b} : PV.setFl .ow (PV.bl b) = (PV.bl b) := rfl
@[simp] theorem q24 {b} : PV.setFl .io (PV.bl b) = (PV.bl b) := rfl
@[simp] theorem q25 {b} : PV.setFl .fz (PV.bl b) = (PV.bl b) := rfl
@[simp] theorem q26 {b} : fzOf (PV.bl b) = some (PV.bl b) := rfl
@[simp] theorem q27 {b} : kT (PV.bl b) = "" := rfl
@[simp] theorem q28 {i} : PV.isIo (PV.int i) = false := rfl
@[simp] theorem q29 {i} : PV.own (PV.int i) = false := rfl
@[simp] theorem q30 {i} : PV.isEmp (PV.int i) = false := rfl
@[simp] theorem q31 {i} : PV.fl (PV.int i) = .fz := rfl
@[simp] theorem q32 {i} : PV.setFl .ow (PV.int i) = (PV.int i) := rfl
@[simp] theorem q33 {i} : PV.setFl .io (PV.int i) = (PV.int i) := rfl
@[simp] theorem q34 {i} : PV.setFl .fz (PV.int i) = (PV.int i) := rfl
@[simp] theorem q35 {i} : fzOf (PV.int i) = some (PV.int i) := rfl
@[simp] theorem q36 {i} : kT (PV.int i) = "int" := rfl
@[simp] theorem q37 {x} : PV.isIo (PV.str x) = false := rfl
@[simp] theorem q38 {x} : PV.own (PV.str x) = false := rfl
@[simp] theorem q39 {x} : PV.isEmp (PV.str x) = false := rfl
@[simp] theorem q40 {x} : PV.fl (PV.str x) = .fz := rfl
@[simp] theorem q41 {x} : PV.setFl .ow (PV.str x) = (PV.str x) := rfl
@[simp] theorem q42 {x} : PV.setFl .io (PV.str x) = (PV.str x) := rfl
@[simp] theorem q43 {x} : PV.setFl .fz (PV.str x) = (PV.str x) := rfl
@[simp] theorem q44 {x} : fzOf (PV.str x) = some (PV.str x) := rfl
@[simp] theorem q45 {x} : kT (PV.str x) = "str" := rfl
@[simp] theorem q46 {xs} : PV.isIo (PV.tup xs) = false := rfl
@[simp] theorem q47 {xs} : PV.own (PV.tup xs) = false := rfl
@[simp] theorem q48 {xs} : PV.isEmp (PV.tup xs) = false := rfl
@[simp] theorem q49 {xs} : PV.fl (PV.tup xs) = .fz := rfl
@[simp] theorem q50 {xs} : PV.setFl .ow (PV.tup xs) = (PV.tup xs) := rfl
@[simp] theorem q51 {xs} : PV.setFl .io (PV.tup xs) = (PV.tup xs) := rfl
@[simp] theorem q52 {xs} : PV.setFl .fz (PV.tup xs) = (PV.tup xs) := rfl
@[simp] theorem q53 {xs} : fzOf (PV.tup xs) = some (PV.tup xs) := rfl
@[simp] theorem q54 {xs} : kT (PV.tup xs) = "" := rfl
@[simp] theorem q55 {xs} : PV.isIo (PV.lst .fz xs) = false := rfl
@[simp] theorem q56 {xs} : PV.own (PV.lst .fz xs) = false := rfl
@[simp] theorem q57 {xs} : PV.isEmp (PV.lst .fz xs) = false := rfl
@[simp] theorem q58 {xs} : PV.fl (PV.lst .fz xs) = .fz := rfl
@[simp] theorem q59 {xs} : PV.setFl .ow (PV.lst .fz xs) = PV.lst .ow xs := rfl
@[simp] theorem q60 {xs} : PV.setFl .io (PV.lst .fz xs) = PV.lst .io xs := rfl
@[simp] theorem q61 {xs} : PV.setFl .fz (PV.lst .fz xs) = PV.lst .fz xs := rfl
@[simp] theorem q62 {xs} : fzOf (PV.lst .fz xs) = some (PV.lst .fz xs) := rfl
@[simp] theorem q63 {xs} : kT (PV.lst .fz xs) = "list" := rfl
@[simp] theorem q64 {xs} : PV.isIo (PV.lst .ow xs) = false := rfl
@[simp] theorem q65 {xs} : PV.own (PV.lst .ow xs) = true := rfl
@[simp] theorem q66 {xs} : PV.isEmp (PV.lst .ow xs) = false := rfl
@[simp] theorem q67 {xs} : PV.fl (PV.lst .ow xs) = .ow := rfl
@[simp] theorem q68 {xs} : PV.setFl .ow (PV.lst .ow xs) = PV.lst .ow xs := rfl
@[simp] theorem q69 {xs} : PV.setFl .io (PV.lst .ow xs) = PV.lst .io xs := rfl
@[simp] theorem q70 {xs} : PV.setFl .fz (PV.lst .ow xs) = PV.lst .fz xs := rfl
@[simp] theorem q71 {xs} : fzOf (PV.lst .ow xs) = some (PV.lst .fz xs) := rfl
@[simp] theorem q72 {xs} : kT (PV.lst .ow xs) = "list" := rfl
@[simp] theorem q73 {xs} : PV.isIo (PV.lst .io xs) = true := rfl
@[simp] theorem q74 {xs} : PV.own (PV.lst .io xs) = true := rfl
@[simp] theorem q75 {xs} : PV.isEmp (PV.lst .io xs) = false := rfl
@[simp] theorem q76 {xs} : PV.fl (PV.lst .io xs) = .io := rfl
@[simp] theorem q77 {xs} : PV.setFl .ow (PV.lst .io xs) = PV.lst .ow xs := rfl
@[simp] theorem q78 {xs} : PV.setFl .io (PV.lst .io xs) = PV.lst .io xs := rfl
@[simp] theorem q79 {xs} : PV.setFl .fz (PV.lst .io xs) = PV.lst .fz xs := rfl
@[simp] theorem q80 {xs} : fzOf (PV.lst .io xs) = none := rfl
@[simp] theorem q81 {xs} : kT (PV.lst .io xs) = "list" := rfl
@[simp] theorem q82 {ks xs} : PV.isIo (PV.dK .fz ks xs) = false := rfl
@[simp] theorem q83 {ks xs} : PV.own (PV.dK .fz ks xs) = false := rfl
@[simp] theorem q84 {ks xs} : PV.isEmp (PV.dK .fz ks xs) = false := rfl
@[simp] theorem q85 {ks xs} : PV.fl (PV.dK .fz ks xs) = .fz := rfl
@[simp] theorem q86 {ks xs} : PV.setFl .ow (PV.dK .fz ks xs) = PV.dK .ow ks xs := rfl
@[simp] theorem q87 {ks xs} : PV.setFl .io (PV.dK .fz ks xs) = PV.dK .io ks xs := rfl
@[simp] theorem q88 {ks xs} : PV.setFl .fz (PV.dK .fz ks xs) = PV.dK .fz ks xs := rfl
@[simp] theorem q89 {ks xs} : fzOf (PV.dK .fz ks xs) = some (PV.dK .fz ks xs) := rfl
@[simp] theorem q90 {ks xs} : kT (PV.dK .fz ks xs) = "dict" := rfl
@[simp] theorem q91 {ks xs} : PV.isIo (PV.dK .ow ks xs) = false := rfl
@[simp] theorem q92 {ks xs} : PV.own (PV.dK .ow ks xs) = true := rfl
@[simp] theorem q93 {ks xs} : PV.isEmp (PV.dK .ow ks xs) = false := rfl
@[simp] theorem q94 {ks xs} : PV.fl (PV.dK .ow ks xs) = .ow := rfl
@[simp] theorem q95 {ks xs} : PV.setFl .ow (PV.dK .ow ks xs) = PV.dK .ow ks xs := rfl
@[simp] theorem q96 {ks xs} : PV.setFl .io (PV.dK .ow ks xs) = PV.dK .io ks xs := rfl
@[simp] theorem q97 {ks xs} : PV.setFl .fz (PV.dK .ow ks xs) = PV.dK .fz ks xs := rfl
@[simp] theorem q98 {ks xs} : fzOf (PV.dK .ow ks xs) = some (PV.dK .fz ks xs) := rfl
@[simp] theorem q99 {ks xs} : kT (PV.dK .ow ks xs) = "dict" := rfl
@[simp] theorem q100 {ks xs} : PV.isIo (PV.dK .io ks xs) = true := rfl
@[simp] theorem q101 {ks xs} : PV.own (PV.dK .io ks xs) = true := rfl
@[simp] theorem q102 {ks xs} : PV.isEmp (PV.dK .io ks xs) = false := rfl
@[simp] theorem q103 {ks xs} : PV.fl (PV.dK .io ks xs) = .io := rfl
@[simp] theorem q104 {ks xs} : PV.setFl .ow (PV.dK .io ks xs) = PV.dK .ow ks xs := rfl
@[simp] theorem q105 {ks xs} : PV.setFl .io (PV.dK .io ks xs) = PV.dK .io ks xs := rfl
@[simp] theorem q106 {ks xs} : PV.setFl .fz (PV.dK .io ks xs) = PV.dK .fz ks xs := rfl
@[simp] theorem q107 {ks xs} : fzOf (PV.dK .io ks xs) = none := rfl
@[simp] theorem q108 {ks xs} : kT (PV.dK .io ks xs) = "dict" := rfl
@[simp] theorem q109 {ks xs} : PV.isIo (PV.dN .fz ks xs) = false := rfl
@[simp] theorem q110 {ks xs} : PV.own (PV.dN .fz ks xs) = false := rfl
@[simp] theorem q111 {ks xs} : PV.isEmp (PV.dN .fz ks xs) = false := rfl
@[simp] theorem q112 {ks xs} : PV.fl (PV.dN .fz ks xs) = .fz := rfl
@[simp] theorem q113 {ks xs} : PV.setFl .ow (PV.dN .fz ks xs) = PV.dN .ow ks xs := rfl
@[simp] theorem q114 {ks xs} : PV.setFl .io (PV.dN .fz ks xs) = PV.dN .io ks xs := rfl
@[simp] theorem q115 {ks xs} : PV.setFl .fz (PV.dN .fz ks xs) = PV.dN .fz ks xs := rfl
@[simp] theorem q116 {ks xs} : fzOf (PV.dN .fz ks xs) = some (PV.dN .fz ks xs) := rfl
@[simp] theorem q117 {ks xs} : kT (PV.dN .fz ks xs) = "" := rfl
@[simp] theorem q118 {ks xs} : PV.isIo (PV.dN .ow ks xs) = false := rfl
@[simp] theorem q119 {ks xs} : PV.own (PV.dN .ow ks xs) = true := rfl
@[simp] theorem q120 {ks xs} : PV.isEmp (PV.dN .ow ks xs) = false := rfl
@[simp] theorem q121 {ks xs} : PV.fl (PV.dN .ow ks xs) = .ow := rfl
@[simp] theorem q122 {ks xs} : PV.setFl .ow (PV.dN .ow ks xs) = PV.dN .ow ks xs := rfl
@[simp] theorem q123 {ks xs} : PV.setFl .io (PV.dN .ow ks xs) = PV.dN .io ks xs := rfl
@[simp] theorem q124 {ks xs} : PV.setFl .fz (PV.dN .ow ks xs) = PV.dN .fz ks xs := rfl
@[simp] theorem q125 {ks xs} : fzOf (PV.dN .ow ks xs) = some (PV.dN .fz ks xs) := rfl
@[simp] theorem q126 {ks xs} : kT (PV.dN .ow ks xs) = "" := rfl
@[simp] theorem q127 {ks xs} : PV.isIo (PV.dN .io ks xs) = true := rfl
@[simp] theorem q128 {ks xs} : PV.own (PV.dN .io ks xs) = true := rfl
@[simp] theorem q129 {ks xs} : PV.isEmp (PV.dN .io ks xs) = false := rfl
@[simp] theorem q130 {ks xs} : PV.fl (PV.dN .io ks xs) = .io := rfl
@[simp] theorem q131 {ks xs} : PV.setFl .ow (PV.dN .io ks xs) = PV.dN .ow ks xs := rfl
@[simp] theorem q132 {ks xs} : PV.setFl .io (PV.dN .io ks xs) = PV.dN .io ks xs := rfl
@[simp] theorem q133 {ks xs} : PV.setFl .fz (PV.dN .io ks xs) = PV.dN .fz ks xs := rfl
@[simp] theorem q134 {ks xs} : fzOf (PV.dN .io ks xs) = none := rfl
@[simp] theorem q135 {ks xs} : kT (PV.dN .io ks xs) = "" := rfl
@[simp] theorem q136 {c xs} : PV.isIo (PV.obj .fz c xs) = false := rfl
@[simp] theorem q137 {c xs} : PV.own (PV.obj .fz c xs) = false := rfl
@[simp] theorem q138 {c xs} : PV.isEmp (PV.obj .fz c xs) = false := rfl
@[simp] theorem q139 {c xs} : PV.fl (PV.obj .fz c xs) = .fz := rfl
@[simp] theorem q140 {c xs} : PV.setFl .ow (PV.obj .fz c xs) = PV.obj .ow c xs := rfl
@[simp] theorem q141 {c xs} : PV.setFl .io (PV.obj .fz c xs) = PV.obj .io c xs := rfl
@[simp] theorem q142 {c xs} : PV.setFl .fz (PV.obj .fz c xs) = PV.obj .fz c xs := rfl
@[simp] theorem q143 {c xs} : fzOf (PV.obj .fz c xs) = some (PV.obj .fz c xs) := rfl
@[simp] theorem q144 {c xs} : kT (PV.obj .fz c xs) = "" := rfl
@[simp] theorem q145 {c xs} : PV.isIo (PV.obj .ow c xs) = false := rfl
@[simp] theorem q146 {c xs} : PV.own (PV.obj .ow c xs) = true := rfl
@[simp] theorem q147 {c xs} : PV.isEmp (PV.obj .ow c xs) = false := rfl
@[simp] theorem q148 {c xs} : PV.fl (PV.obj .ow c xs) = .ow := rfl
@[simp] theorem q149 {c xs} : PV.setFl .ow (PV.obj .ow c xs) = PV.obj .ow c xs := rfl
@[simp] theorem q150 {c xs} : PV.setFl .io (PV.obj .ow c xs) = PV.obj .io c xs := rfl
@[simp] theorem q151 {c xs} : PV.setFl .fz (PV.obj .ow c xs) = PV.obj .fz c xs := rfl
@[simp] theorem q152 {c xs} : fzOf (PV.obj .ow c xs) = some (PV.obj .fz c xs) := rfl
@[simp] theorem q153 {c xs} : kT (PV.obj .ow c xs) = "" := rfl
@[simp] theorem q154 {c xs} : PV.isIo (PV.obj .io c xs) = true := rfl
@[simp] theorem q155 {c xs} : PV.own (PV.obj .io c xs) = true := rfl
@[simp] theorem q156 {c xs} : PV.isEmp (PV.obj .io c xs) = false := rfl
@[simp] theorem q157 {c xs} : PV.fl (PV.obj .io c xs) = .io := rfl
@[simp] theorem q158 {c xs} : PV.setFl .ow (PV.obj .io c xs) = PV.obj .ow c xs := rfl
@[simp] theorem q159 {c xs} : PV.setFl .io (PV.obj .io c xs) = PV.obj .io c xs := rfl
@[simp] theorem q160 {c xs} : PV.setFl .fz (PV.obj .io c xs) = PV.obj .fz c xs := rfl
@[simp] theorem q161 {c xs} : fzOf (PV.obj .io c xs) = none := rfl
@[simp] theorem q162 {c xs} : kT (PV.obj .io c xs) = "" := rfl
@[simp] theorem q163 {ns} : PV.isIo (PV.scr ns) = false := rfl
@[simp] theorem q164 {ns} : PV.own (PV.scr ns) = false := rfl
@[simp] theorem q165 {ns} : PV.isEmp (PV.scr ns) = false := rfl
@[simp] theorem q166 {ns} : PV.fl (PV.scr ns) = .fz := rfl
@[simp] theorem q167 {ns} : PV.setFl .ow (PV.scr ns) = (PV.scr ns) := rfl
@[simp] theorem q168 {ns} : PV.setFl .io (PV.scr ns) = (PV.scr ns) := rfl
@[simp] theorem q169 {ns} : PV.setFl .fz (PV.scr ns) = (PV.scr ns) := rfl
@[simp] theorem q170 {ns} : fzOf (PV.scr ns) = some (PV.scr ns) := rfl
@[simp] theorem q171 {ns} : kT (PV.scr ns) = "list" := rfl
@[simp] theorem q172 {n} : PV.isIo (PV.ty n) = false := rfl
@[simp] theorem q173 {n} : PV.own (PV.ty n) = false := rfl
@[simp] theorem q174 {n} : PV.isEmp (PV.ty n) = false := rfl
@[simp] theorem q175 {n} : PV.fl (PV.ty n) = .fz := rfl
@[simp] theorem q176 {n} : PV.setFl .ow (PV.ty n) = (PV.ty n) := rfl
@[simp] theorem q177 {n} : PV.setFl .io (PV.ty n) = (PV.ty n) := rfl
@[simp] theorem q178 {n} : PV.setFl .fz (PV.ty n) = (PV.ty n) := rfl
@[simp] theorem q179 {n} : fzOf (PV.ty n) = some (PV.ty n) := rfl
@[simp] theorem q180 {n} : kT (PV.ty n) = "" := rfl
@[simp] theorem q181 {c} : PV.isIo (PV.cls c) = false := rfl
@[simp] theorem q182 {c} : PV.own (PV.cls c) = false := rfl
@[simp] theorem q183 {c} : PV.isEmp (PV.cls c) = false := rfl
@[simp] theorem q184 {c} : PV.fl (PV.cls c) = .fz := rfl
@[simp] theorem q185 {c} : PV.setFl .ow (PV.cls c) = (PV.cls c) := rfl
@[simp] theorem q186 {c} : PV.setFl .io (PV.cls c) = (PV.cls c) := rfl
@[simp] theorem q187 {c} : PV.setFl .fz (PV.cls c) = (PV.cls c) := rfl
@[simp] theorem q188 {c} : fzOf (PV.cls c) = some (PV.cls c) := rfl
@[simp] theorem q189 {c} : kT (PV.cls c) = "" := rfl
@[simp] theorem q190 {d c xs} : PV.isIo (PV.err d c xs) = true := rfl
@[simp] theorem q191 {d c xs} : PV.own (PV.err d c xs) = true := rfl
@[simp] theorem q192 {d c xs} : PV.isEmp (PV.err d c xs) = false := rfl
@[simp] theorem q193 {d c xs} : PV.fl (PV.err d c xs) = .io := rfl
@[simp] theorem q194 {d c xs} : PV.setFl .ow (PV.err d c xs) = .emp := rfl
@[simp] theorem q195 {d c xs} : PV.setFl .io (PV.err d c xs) = .emp := rfl
@[simp] theorem q196 {d c xs} : PV.setFl .fz (PV.err d c xs) = .emp := rfl
@[simp] theorem q197 {d c xs} : fzOf (PV.err d c xs) = none := rfl
@[simp] theorem q198 {d c xs} : kT (PV.err d c xs) = "" := rfl
@[simp] theorem q_gN (i : Nat) (a : PV) (ρ : List PV) : gN i a ρ = if ((nth ρ i).isIo || a.isIo) = true then none else some (ρ.set i a) := rfl
@[simp] theorem q_set (i : Nat) (a : PV) (ρ : List PV) : setAt i a ρ = if ((nth ρ i).isIo || a.isIo) = true then none else some (ρ.set i a) := rfl
end VL
set_option Elab.async false
set_option linter.all false
set_option maxRecDepth 100000
namespace VL
open PySem PySem.Spec PyProof.Rows L2
end VL
set_option Elab.async false
set_option linter.all false
set_option maxRecDepth 100000
namespace VL
open PySem PySem.Spec PyProof.Rows L2
theorem ext_tup (l : Addr) (items : Array Value) (n : Nat) (b : Addr) (items2 : Array Value) (n2 : Nat) (dd : Option Addr) (sl : Array (Option Value)) (hs0 : ¬(!items.isEmpty && Builtin.List.listTooLong (items.size + items2.size)) = true) (hs1 : items.size ≤ sizeLine) (hs2 : items.size + items2.size ≤ sizeLine + 1) :
    Meets (Builtin.«list.extend» ⟨[.ref l, .ref b], []⟩) (fun _ R s => s.heap.get? l = some { cls := .type "list", dict := none, data := .seq items n, slots := #[] } ∧ s.heap.get? b = some { cls := .type "tuple", dict := dd, data := .seq items2 n2, slots := sl } ∧ R (.ok (.ret Value.none)) { s with heap := s.heap.update l (Obj.mapSeq fun x => x ++ items2), toks := s.toks }) :=
  .of_wp fun prog w A R s h => by
    obtain ⟨hp, g, d, tk, os⟩ := s; obtain ⟨hl, hb, h⟩ := h
    have f1 := AutoSeq1.idx_int; have f2 := AutoSeq1.sub_tuple_tuple; have f3 := AutoSeq1.sub_list_list; have f4 := AutoSeq1.sub_tuple_list; have f5 := AutoSeq1.sub_list_tuple
    have hz' : (items ++ items2).size ≤ sizeLine + 1 := by rw [Array.size_append]; exact hs2
    wp_walk using (wpAny_updateSeq hl rfl (hz := hs1) (_hz' := hz')), AutoSeq1.wpAny_loadPart' hl, AutoSeq1.wpAny_loadPart' hb; exact ⟨_, rfl, h⟩
def rExtT (K : PySem.W.Frag) : V → List V → Hp → VK → Prop := fun x vs H Q => ∃ l b xs zs, x = .ref l ∧ vs = [.ref b] ∧ H l = some (.lst xs) ∧ SqT K H b zs ∧ xs.length + zs.length ≤ sizeLine ∧ Q .non (upd H l (.lst (xs ++ zs)))
theorem mt_extT {X : Cx} : MtM X "list.extend" (rExtT X.K) := by
  intro pins s σ H x vs v us Q I rx rv h
  obtain ⟨l, b, xs, zs, rfl, rfl, hH, hB, hz, q⟩ := h
  cases rx
  obtain ⟨u, rfl, ru⟩ := rv.one
  cases ru
  obtain ⟨z, its, n, r, hl, e⟩ := I.lstM hH
  obtain ⟨its2, r2, ⟨o, ho, hcls, n2, hdat⟩, hz2⟩ := I.tuple hB
  have hl2 := r2.length
  obtain ⟨oc, od, odat, osl⟩ := o
  simp only at hcls hdat
  subst hcls; subst hdat
  have hsz : its.toArray.size + its2.toArray.size ≤ sizeLine := by rw [List.size_toArray, List.size_toArray]; omega
  have hlong : ¬ (!its.toArray.isEmpty && Builtin.List.listTooLong (its.toArray.size + its2.toArray.size)) = true := by
    rw [notLongL hsz, Bool.and_false]
    exact Bool.false_ne_true
  refine call_meets F.slot_list_extend ⟨_, e, rfl⟩ F.entry_list_extend (F.args_list_extend_2 _ _)
    (ext_tup l its.toArray n b its2.toArray n2 od osl hlong (by rw [List.size_toArray]; omega) (by omega)) ⟨e, ho, ?_⟩
  refine ⟨.non, _, I.lset (its' := its ++ its2) hH e (by simp) (r.append r2) ?_, rfl, q⟩
  rw [List.length_append]
  omega
def uExtendA : PV → List PV → Option (PV × PV)
  | .lst o xs, [.lst _ ys] => if o = .fz then none else if xs.length + ys.length ≤ lim then some (.non, .lst o (xs ++ ys)) else none
  | .lst o xs, [.tup ys] => if o = .fz then none else if xs.length + ys.length ≤ lim then some (.non, .lst o (xs ++ ys)) else none
  | _, _ => none
def rExtA (K : PySem.W.Frag) : V → List V → Hp → VK → Prop := fun x vs H Q => rExtend x vs H Q ∨ rExtT K x vs H Q
theorem mt_extA {X : Cx} : MtM X "list.extend" (rExtA X.K) := by
  intro pins s σ H x vs v us Q I rx rv h
  rcases h with h | h
  · exact mt_extend pins s σ H x vs v us Q I rx rv h
  · exact mt_extT pins s σ H x vs v us Q I rx rv h
section
variable {T : Tb}
theorem Hold.writeF {F H : Hp} {l : Its} {a b : PV} {p : Addr} {o : HO} (s : Same F H) (ow : ∀ x ∈ (a, V.ref p) :: l, Own T H F x.1 x.2) (n : (fpOf ((a, V.ref p) :: l)).Nodup) (d : ∀ q ∈ fpOf ((a, V.ref p) :: l), F q = none) (ho : a.own = true) (hb : b.own = true) (q : RepAt T (upd H p o) F b (.ref p)) (ca : a.isErr = false := by rfl) (cb : b.isErr = false := by rfl) : Hold T (upd H p o) ((b, .ref p) :: l) := by
  have c1 : a.cell = true := by unfold PV.cell; rw [ho, ca]; rfl
  have c2 : b.cell = true := by unfold PV.cell; rw [hb, cb]; rfl
  rw [fpOf_ow c1] at n d
  have fp := d p List.mem_cons_self
  refine ⟨F, fun b u k => ?_, fun x hx => ?_, by rw [fpOf_ow c2]; exact n, by rw [fpOf_ow c2]; exact d⟩
  · rw [upd_ne (ne_of_none k fp)]; exact s _ _ k
  · rcases List.mem_cons.mp hx with rfl | hx
    · exact (Own.ow hb).mpr q
    · have := ow x (List.mem_cons_of_mem _ hx)
      by_cases hx' : x.1.own = true
      · rw [Own.ow hx'] at this ⊢
        have nx : x.1.isErr = false → ∀ q, x.2 = .ref q → q ≠ p := fun ne q e z => (List.nodup_cons.mp n).1 (by rw [← z]; exact mem_fpOf.mpr ⟨x.1, by unfold PV.cell; rw [hx', ne]; rfl, by rw [← e]; exact hx⟩)
        obtain ⟨c, u⟩ := x
        cases c <;> simp [PV.own, PV.fl] at hx'
        · obtain ⟨p', vs, e, h1, h2⟩ := this; exact ⟨p', vs, e, by rw [upd_ne (nx rfl _ e)]; exact h1, h2⟩
        · obtain ⟨p', vs, e, h1, h2⟩ := this; exact ⟨p', vs, e, by rw [upd_ne (nx rfl _ e)]; exact h1, h2⟩
        · obtain ⟨p', vs, e, h1, h2⟩ := this; exact ⟨p', vs, e, by rw [upd_ne (nx rfl _ e)]; exact h1, h2⟩
        · obtain ⟨p', dx, vs, e, h1, h2⟩ := this; exact ⟨p', dx, vs, e, by rw [upd_ne (nx rfl _ e)]; exact h1, h2⟩
        · exact this
      · have hx' : x.1.own = false := by simpa using hx'
        exact (Own.fz hx').mpr ((Own.fz hx').mp this)
theorem u_extA : Muv T uExtendA (rExtA T.K) := by
  intro H l a a' c as v vs Q k hl ho hm e
  unfold uExtendA at e
  split at e
  · rename_i o xs fl ys
    have e2 : uExtend (.lst o xs) [.lst fl ys] = some (c, a') := e
    obtain ⟨h1, h2, h3⟩ := u_extend H l _ a' c _ v vs Q k hl ho hm e2
    exact ⟨h1, h2, fun q => .inl (h3 q)⟩
  · rename_i o xs ys
    split at e
    · cases e
    · rename_i hfz
      split at e <;> cases e
      rename_i hz
      refine ⟨rfl, rfl, fun q => ?_⟩
      obtain ⟨v0, rfl, m⟩ := one_arg rfl hl hm
      have k0 : ∃ F, Same F H ∧ (∀ x ∈ (PV.lst o xs, v) :: l, Own T H F x.1 x.2) ∧ (fpOf ((PV.lst o xs, v) :: l)).Nodup ∧ ∀ p ∈ fpOf ((PV.lst o xs, v) :: l), F p = none := k
      obtain ⟨F, s, ow, n, d⟩ := k0
      have own : ∀ ys, (PV.lst o ys).own = true := fun ys => by cases o <;> first | rfl | exact absurd rfl hfz
      obtain ⟨p, vs, ev, hp, r⟩ := (Own.ow (own xs)).mp (ow _ List.mem_cons_self)
      have hm2 := (Own.fz rfl).mp (ow _ (List.mem_cons_of_mem _ m))
      simp only [Rep] at hm2
      obtain ⟨p2, ws, ev2, h1, h2⟩ := hm2
      subst ev; subst ev2
      refine .inr ⟨p, p2, vs, ws, rfl, rfl, hp, s.seqT h1, lim_le (by rw [r.length, h2.length]; exact hz), q _ _ ?_⟩
      exact (Hold.writeF (o := .lst (vs ++ ws)) (b := .lst o (xs ++ ys)) s ow n d (own _) (own _) ⟨p, vs ++ ws, rfl, upd_same, r.append h2⟩).non
  · cases e
theorem ints_lst {H : Hp} {l : Its} {o : Fl} {ns : List Int} {v : V} (k : Hold T H l) (m : (PV.lst o (ns.map .int), v) ∈ l) : ∃ p, v = .ref p ∧ SqL T.K H p (ns.map V.int) := by
  obtain ⟨p, vs, rfl, h1, hl, F, s, r⟩ := k.g_lst m
  refine ⟨p, rfl, ?_⟩
  have : vs = ns.map V.int := by
    clear m h1 hl
    induction ns generalizing vs with
    | nil => simp only [List.map_nil, Reps] at r; exact r
    | cons n ns ih =>
      obtain ⟨w, ws, rfl, h1, _, h2⟩ := r.inv
      simp only [Rep] at h1
      subst h1
      rw [List.map_cons, ih _ h2]
  rw [← this]
  exact SqL.of h1
def intsOf : List PV → Option (List Int)
  | [] => some []
  | .int i :: r => (intsOf r).map (i :: ·)
  | _ :: _ => none
theorem intsOf_ok : ∀ {xs : List PV} {ns : List Int}, intsOf xs = some ns → xs = ns.map .int
  | [], ns, h => by cases h; rfl
  | .int i :: r, ns, h => by
    simp only [intsOf] at h
    obtain ⟨ms, e, rfl⟩ := Option.map_eq_some_iff.mp h
    rw [intsOf_ok e]; rfl
  | .emp :: _, _, h | .non :: _, _, h | .bl _ :: _, _, h | .str _ :: _, _, h | .tup _ :: _, _, h | .lst _ _ :: _, _, h | .dK _ _ _ :: _, _, h | .dN _ _ _ :: _, _, h | .obj _ _ _ :: _, _, h | .scr _ :: _, _, h | .ty _ :: _, _, h | .cls _ :: _, _, h | .err _ _ _ :: _, _, h => by cases h
def insI (x : Int) : List Int → List Int
  | [] => [x]
  | y :: ys => if x ≤ y then x :: y :: ys else y :: insI x ys
def sortI : List Int → List Int
  | [] => []
  | x :: xs => insI x (sortI xs)
theorem insI_perm (x : Int) : ∀ ys, (insI x ys).Perm (x :: ys)
  | [] => .refl _
  | y :: ys => by
    unfold insI
    split
    · exact .refl _
    · exact ((insI_perm x ys).cons y).trans (.swap ..)
theorem sortI_perm : ∀ xs, (sortI xs).Perm xs
  | [] => .refl _
  | x :: xs => (insI_perm x _).trans ((sortI_perm xs).cons x)
theorem insI_sorted (x : Int) : ∀ {ys : List Int}, ys.Pairwise (· ≤ ·) → (insI x ys).Pairwise (· ≤ ·)
  | [], _ => by simp [insI]
  | y :: ys, h => by
    unfold insI
    have h1 := List.pairwise_cons.mp h
    split
    · rename_i hc
      exact List.pairwise_cons.mpr ⟨fun z hz => by
        rcases List.mem_cons.mp hz with rfl | hz
        · exact hc
        · exact Int.le_trans hc (h1.1 z hz), h⟩
    · rename_i hc
      exact List.pairwise_cons.mpr ⟨fun z hz => by
        rcases List.mem_cons.mp ((insI_perm x ys).mem_iff.mp hz) with rfl | hz
        · omega
        · exact h1.1 z hz, insI_sorted x h1.2⟩
theorem sortI_sorted : ∀ xs, (sortI xs).Pairwise (· ≤ ·)
  | [] => .nil
  | x :: xs => insI_sorted x (sortI_sorted xs)
theorem sorted_uniq : ∀ {xs ys : List Int}, xs.Perm ys → xs.Pairwise (· ≤ ·) → ys.Pairwise (· ≤ ·) → xs = ys
  | [], ys, p, _, _ => by rw [List.nil_perm.mp p]
  | x :: xs, [], p, _, _ => by have := p.length_eq; simp at this
  | x :: xs, y :: ys, p, h1, h2 => by
    have a := List.pairwise_cons.mp h1
    have b := List.pairwise_cons.mp h2
    have hxy : x = y := by
      have m1 : x ∈ y :: ys := p.mem_iff.mp List.mem_cons_self
      have m2 : y ∈ x :: xs := p.mem_iff.mpr List.mem_cons_self
      rcases List.mem_cons.mp m1 with e | m1
      · exact e
      · rcases List.mem_cons.mp m2 with e | m2
        · exact e.symm
        · exact Int.le_antisymm (a.1 y m2) (b.1 x m1)
    subst hxy
    rw [sorted_uniq (List.Perm.cons_inv p) a.2 b.2]
def oSorted : List PV → Option PV
  | [.lst _ xs] => (intsOf xs).map fun ns => .lst .ow ((sortI ns).map .int)
  | _ => none
theorem f_sorted : Fnv T oSorted (rSortedI T.K) := by
  intro H l as c vs Q k hl hm e q
  unfold oSorted at e
  split at e
  · rename_i o xs
    obtain ⟨ns, e1, rfl⟩ := Option.map_eq_some_iff.mp e
    have := intsOf_ok e1
    subst this
    obtain ⟨v, rfl, m⟩ := one_arg rfl hl hm
    obtain ⟨p, rfl, hp⟩ := ints_lst k m
    refine ⟨p, ns, rfl, hp, fun ns' t pm st ht => q _ _ ?_⟩
    have : ns' = sortI ns := sorted_uniq (pm.trans (sortI_perm ns).symm) st (sortI_sorted ns)
    subst this
    exact Hold.new_own k ht rfl fun F s o => ⟨t, _, rfl, upd_same, Reps.ints _⟩
  · cases e
end
end VL
set_option Elab.async false
set_option linter.all false
set_option maxRecDepth 100000
namespace VT
open PySem PySem.Spec PyProof.Rows VL
inductive TX (β : Type) where
  | ok (b : β)
  | ex (c : String) (xs : List PV)
  | no
namespace TX
variable {α β γ : Type}
def bind (t : TX α) (k : α → TX β) : TX β :=
  match t with
  | .ok a => k a
  | .ex c xs => .ex c xs
  | .no => .no
@[simp] theorem bind_ok (a : α) (k : α → TX β) : (TX.ok a).bind k = k a := rfl
@[simp] theorem bind_ex (c : String) (xs : List PV) (k : α → TX β) : (TX.ex c xs : TX α).bind k = .ex c xs := rfl
@[simp] theorem bind_no (k : α → TX β) : (TX.no : TX α).bind k = .no := rfl
theorem bind_assoc (t : TX α) (k : α → TX β) (l : β → TX γ) : (t.bind k).bind l = t.bind fun a => (k a).bind l := by cases t <;> rfl
@[simp] theorem bind_id (t : TX α) : t.bind .ok = t := by cases t <;> rfl
end TX
/-- what a loop's body ends with -/
inductive Go (σ β : Type) where
  | nx (s : σ)
  | bk (s : σ)
  | rt (b : β)
def Go.elim {σ β γ : Type} (f : σ → TX γ) (r : β → TX γ) : Go σ β → TX γ
  | .nx s => f s
  | .bk _ => .no
  | .rt b => r b
@[simp] theorem Go.elim_nx {σ β γ : Type} (f : σ → TX γ) (r : β → TX γ) (s : σ) : Go.elim f r (.nx s) = f s := rfl
@[simp] theorem Go.elim_rt {σ β γ : Type} (f : σ → TX γ) (r : β → TX γ) (b : β) : Go.elim f r (.rt b) = r b := rfl
/-- it ends well, with Q -/
def Ok {β : Type} (t : TX β) (Q : β → Prop) : Prop := ∃ b, t = .ok b ∧ Q b
namespace Ok
variable {α β : Type}
theorem bind {t : TX α} {k : α → TX β} {Q : α → Prop} {P : β → Prop} (h : Ok t Q) (hk : ∀ a, Q a → Ok (k a) P) : Ok (t.bind k) P := by
  obtain ⟨a, rfl, q⟩ := h
  exact hk a q
theorem of {b : β} {Q : β → Prop} (h : Q b) : Ok (.ok b) Q := ⟨b, rfl, h⟩
theorem imp {t : TX α} {Q P : α → Prop} (h : Ok t Q) (q : ∀ a, Q a → P a) : Ok t P := by
  obtain ⟨a, e, h⟩ := h
  exact ⟨a, e, q a h⟩
end Ok
def guard (b : Bool) : TX Unit := if b = true then .ok () else .no
def opt {α : Type} : Option α → TX α
  | some a => .ok a
  | none => .no
@[simp] theorem opt_some {α : Type} (a : α) : opt (some a) = .ok a := rfl
@[simp] theorem opt_none {α : Type} : opt (none : Option α) = .no := rfl
/-- x[i] -/
def tix {α : Type} (xs : List α) (i : Int) : TX α := opt (L2.atI xs i)
theorem tix_n {α : Type} {xs : List α} {i : Nat} {a : α} (h : xs[i]? = some a) : tix xs (i : Int) = .ok a := by
  have hi := (List.getElem?_eq_some_iff.mp h).1
  have : L2.ixN xs.length (i : Int) = some i := by unfold L2.ixN; rw [if_pos (by omega), if_pos (by omega)]; simp
  unfold tix L2.atI
  rw [this]
  simp [h]
theorem tix_i {α : Type} {xs : List α} {i : Int} {a : α} (h0 : 0 ≤ i) (h : xs[i.toNat]? = some a) : tix xs i = .ok a := by
  obtain ⟨n, rfl⟩ := Int.eq_ofNat_of_zero_le h0
  exact tix_n (by simpa using h)
theorem tix_lt {α : Type} {xs : List α} {i : Nat} (h : i < xs.length) : tix xs (i : Int) = .ok xs[i] := tix_n (List.getElem?_eq_getElem h)
theorem tix_ok {α : Type} {xs : List α} {i : Int} (h0 : 0 ≤ i) (h : i < xs.length) : Ok (tix xs i) fun a => xs[i.toNat]? = some a :=
  ⟨xs[i.toNat]'(by omega), tix_i h0 (List.getElem?_eq_getElem (by omega)), List.getElem?_eq_getElem (by omega)⟩
@[simp] theorem tix_zero {α : Type} (a : α) (xs : List α) : tix (a :: xs) 0 = .ok a := tix_n (i := 0) rfl
@[simp] theorem tix_one {α : Type} (a b : α) (xs : List α) : tix (a :: b :: xs) 1 = .ok b := tix_n (i := 1) rfl
@[simp] theorem tix_two {α : Type} (a b c : α) (xs : List α) : tix (a :: b :: c :: xs) 2 = .ok c := tix_n (i := 2) rfl
@[simp] theorem tix_three {α : Type} (a b c d : α) (xs : List α) : tix (a :: b :: c :: d :: xs) 3 = .ok d := tix_n (i := 3) rfl
/-- x[i] = a -/
def tset {α : Type} (xs : List α) (i : Int) (a : α) : TX (List α) := (opt (L2.ixN xs.length i)).bind fun m => .ok (xs.set m a)
theorem tset_n {α : Type} {xs : List α} {i : Nat} {a : α} (h : i < xs.length) : tset xs (i : Int) a = .ok (xs.set i a) := by
  have : L2.ixN xs.length (i : Int) = some i := by unfold L2.ixN; rw [if_pos (by omega), if_pos (by omega)]; simp
  unfold tset
  rw [this]
  simp
def tapp {α : Type} (xs : List α) (a : α) : TX (List α) := if xs.length < lim then .ok (xs ++ [a]) else .no
theorem tapp_ok {α : Type} {xs : List α} {a : α} (h : xs.length < lim) : tapp xs a = .ok (xs ++ [a]) := by simp [tapp, h]
def tcat {α : Type} (xs ys : List α) : TX (List α) := if xs.length + ys.length ≤ lim then .ok (xs ++ ys) else .no
theorem tcat_ok {α : Type} {xs ys : List α} (h : xs.length + ys.length ≤ lim) : tcat xs ys = .ok (xs ++ ys) := by simp [tcat, h]
def tpop {α : Type} (xs : List α) (i : Int) : TX (α × List α) := if i.natAbs ≤ lim then (opt (L2.ixN xs.length i)).bind fun m => (opt xs[m]?).bind fun a => .ok (a, xs.eraseIdx m) else .no
theorem tpop_n {α : Type} {xs : List α} {i : Nat} (hl : i ≤ lim) (h : i < xs.length) : tpop xs (i : Int) = .ok (xs[i], xs.eraseIdx i) := by
  have : L2.ixN xs.length (i : Int) = some i := by unfold L2.ixN; rw [if_pos (by omega), if_pos (by omega)]; simp
  unfold tpop
  rw [if_pos (by simpa using hl), this]
  simp [h]
def tins {α : Type} (xs : List α) (i : Int) (a : α) : TX (List α) := if xs.length < lim ∧ 0 ≤ i ∧ i < 2 ^ 63 then .ok (xs.take i.toNat ++ [a] ++ xs.drop i.toNat) else .no
@[simp] theorem tins_zero {α : Type} {xs : List α} {a : α} (h : xs.length < lim) : tins xs 0 a = .ok (a :: xs) := by simp [tins, h]
/-- range(a, b) -/
def rgI (a b : Int) : List Int := (List.range (b - a).toNat).map fun i => a + (i : Nat)
def trg (a b : Int) : TX (List Int) := if a.natAbs ≤ lim ∧ b.natAbs ≤ lim then .ok (rgI a b) else .no
theorem trg_ok {a b : Int} (h1 : a.natAbs ≤ lim) (h2 : b.natAbs ≤ lim) : trg a b = .ok (rgI a b) := by simp [trg, h1, h2]
theorem rgI_nat (n : Nat) : rgI 0 (n : Int) = (List.range n).map fun i : Nat => (i : Int) := by simp [rgI]
theorem trg_nat {n : Nat} (h : n ≤ lim) : trg 0 (n : Int) = .ok ((List.range n).map fun i : Nat => (i : Int)) := by
  rw [trg_ok (by decide) (by simpa using h), rgI_nat]
def tcut {α : Type} (xs : List α) (lo hi : Option Int) : List α := (xs.drop (HT.sIx xs.length 0 lo)).take (HT.sIx xs.length xs.length hi - HT.sIx xs.length 0 lo)
def tmul (i j : Int) : TX Int := if cMul i j = true then .ok (i * j) else .no
theorem tmul_l {i j : Int} (h1 : -(2 ^ 64) < i) (h2 : i < 2 ^ 64) : tmul i j = .ok (i * j) := by simp [tmul, cm_l h1 h2]
def tdiv (i j : Int) : TX Int := if 0 < j ∧ j < wide then .ok (i / j) else .no
def tmod (i j : Int) : TX Int := if 0 < j then .ok (i % j) else .no
theorem tdiv_w {i j : Int} (h : 0 < j) (h2 : j < wide) : tdiv i j = .ok (i / j) := by simp [tdiv, h, h2]
theorem tdiv_ok {i j : Int} (h : 0 < j) (h2 : j < 1073741824) : tdiv i j = .ok (i / j) := tdiv_w h (wide_30 h2)
theorem tmod_ok {i j : Int} (h : 0 < j) : tmod i j = .ok (i % j) := by simp [tmod, h]
def teq {α : Type} [DecidableEq α] (a b : α) : Bool := decide (a = b)
def tmem {α : Type} [DecidableEq α] (a : α) (xs : List α) : Bool := decide (a ∈ xs)
@[simp] theorem teq_iff {α : Type} [DecidableEq α] (a b : α) : (teq a b = true) = (a = b) := by simp [teq]
@[simp] theorem teq_iffF {α : Type} [DecidableEq α] (a b : α) : (teq a b = false) = ¬ (a = b) := by simp [teq]
@[simp] theorem tmem_iff {α : Type} [DecidableEq α] (a : α) (xs : List α) : (tmem a xs = true) = (a ∈ xs) := by simp [tmem]
@[simp] theorem tmem_iffF {α : Type} [DecidableEq α] (a : α) (xs : List α) : (tmem a xs = false) = ¬ (a ∈ xs) := by simp [tmem]
theorem teq_self {α : Type} [DecidableEq α] (a : α) : teq a a = true := by simp
def iabs (i : Int) : Int := if i < 0 then -i else i
def b2i (b : Bool) : Int := if b then 1 else 0
section
variable {α β σ : Type}
/-- a for that ends by itself -/
def tfold (L : List α) (s : σ) (b : σ → α → TX σ) : TX σ :=
  match L with
  | [] => .ok s
  | x :: L => (b s x).bind fun s' => tfold L s' b
/-- a for that may break or return -/
def tfor (L : List α) (s : σ) (b : σ → α → TX (Go σ β)) : TX (Go σ β) :=
  match L with
  | [] => .ok (.nx s)
  | x :: L => (b s x).bind fun g => match g with
    | .nx s' => tfor L s' b
    | .bk s' => .ok (.nx s')
    | .rt b' => .ok (.rt b')
def twh (n : Nat) (s : σ) (c : σ → TX Bool) (b : σ → TX (Go σ β)) : TX (Go σ β) :=
  match n with
  | 0 => .no
  | n + 1 => (c s).bind fun t => if t = true then (b s).bind fun g => match g with
    | .nx s' => twh n s' c b
    | .bk s' => .ok (.nx s')
    | .rt b' => .ok (.rt b')
    else .ok (.nx s)
/-- a comprehension; the state by itself -/
def tlc (acc : List β) (L : List α) (s : σ) (b : σ → α → TX (Option β × σ)) : TX (List β × σ) :=
  match L with
  | [] => .ok (acc, s)
  | x :: L => (b s x).bind fun r => match r with
    | (some y, s') => if acc.length < lim then tlc (acc ++ [y]) L s' b else .no
    | (none, s') => tlc acc L s' b
@[simp] theorem tfold_nil (s : σ) (b : σ → α → TX σ) : tfold [] s b = .ok s := rfl
@[simp] theorem tfold_cons (x : α) (L : List α) (s : σ) (b : σ → α → TX σ) : tfold (x :: L) s b = (b s x).bind fun s' => tfold L s' b := rfl
@[simp] theorem tfor_nil (s : σ) (b : σ → α → TX (Go σ β)) : tfor [] s b = .ok (.nx s) := rfl
theorem tfor_cons (x : α) (L : List α) (s : σ) (b : σ → α → TX (Go σ β)) : tfor (x :: L) s b = (b s x).bind fun g => match g with
    | .nx s' => tfor L s' b
    | .bk s' => .ok (.nx s')
    | .rt b' => .ok (.rt b') := rfl
/-- a for by an invariant over what has been walked -/
theorem tfold_inv {L : List α} {s : σ} {b : σ → α → TX σ} (I : List α → σ → Prop) (h0 : I [] s)
    (step : ∀ A x B s, L = A ++ x :: B → I A s → Ok (b s x) fun s' => I (A ++ [x]) s') : Ok (tfold L s b) (I L) := by
  suffices ∀ (R A : List α) (s : σ), L = A ++ R → I A s → Ok (tfold R s b) (I L) from this L [] s rfl h0
  intro R
  induction R with
  | nil => intro A s e h; simp at e; subst e; exact ⟨s, rfl, h⟩
  | cons x R ih =>
    intro A s e h
    refine (step A x R s e h).bind fun s' h' => ?_
    exact ih (A ++ [x]) s' (by simp [e]) h'
/-- the same by numbers -/
theorem tfold_rg {n : Nat} {s : σ} {b : σ → Int → TX σ} (I : Nat → σ → Prop) (h0 : I 0 s)
    (step : ∀ (k : Nat) s, k < n → I k s → Ok (b s k) fun s' => I (k + 1) s') : Ok (tfold ((List.range n).map fun i : Nat => (i : Int)) s b) (I n) := by
  have e : ∀ A x B, (List.range n).map (fun i : Nat => (i : Int)) = A ++ x :: B → x = (A.length : Int) ∧ A.length < n := by
    intro A x B e
    have h1 : ((List.range n).map (fun i : Nat => (i : Int)))[A.length]? = some x := by rw [e]; simp
    rw [List.getElem?_map] at h1
    obtain ⟨j, hj, rfl⟩ := Option.map_eq_some_iff.mp h1
    have := List.getElem?_eq_some_iff.mp hj
    obtain ⟨h2, h3⟩ := this
    simp at h2 h3
    exact ⟨by rw [← h3], h2⟩
  have := tfold_inv (L := (List.range n).map fun i : Nat => (i : Int)) (s := s) (b := b) (fun A s => I A.length s) h0 (by
    intro A x B s eL h
    obtain ⟨rfl, hn⟩ := e A x B eL
    refine (step A.length s hn h).imp fun s' h' => ?_
    simpa using h')
  simpa using this
theorem tfold_eq {L : List α} {s : σ} {b : σ → α → TX σ} {f : σ → α → σ} (h : ∀ s x, x ∈ L → b s x = .ok (f s x)) : tfold L s b = .ok (L.foldl f s) := by
  induction L generalizing s with
  | nil => rfl
  | cons x L ih =>
    rw [tfold_cons, h s x List.mem_cons_self, TX.bind_ok, ih fun s y hy => h s y (List.mem_cons_of_mem _ hy)]
    rfl
/-- a comprehension by an invariant -/
theorem tlc_inv {L : List α} {s : σ} {b : σ → α → TX (Option β × σ)} (I : List α → List β → σ → Prop) (hL : L.length ≤ lim) (h0 : I [] [] s)
    (step : ∀ A x B ys s, L = A ++ x :: B → I A ys s → ys.length ≤ A.length → Ok (b s x) fun r => I (A ++ [x]) (ys ++ r.1.toList) r.2) : Ok (tlc [] L s b) fun r => I L r.1 r.2 := by
  suffices ∀ (R A : List α) (acc : List β) (s : σ), L = A ++ R → acc.length ≤ A.length → I A acc s → Ok (tlc acc R s b) fun r => I L r.1 r.2 from this L [] [] s rfl (Nat.le_refl _) h0
  intro R
  induction R with
  | nil => intro A acc s e _ h; simp at e; subst e; exact ⟨(acc, s), rfl, h⟩
  | cons x R ih =>
    intro A acc s e hl h
    refine (step A x R acc s e h hl).bind fun r h' => ?_
    have hA : A.length < lim := by have := congrArg List.length e; simp at this; omega
    obtain ⟨o, s'⟩ := r
    cases o with
    | none => exact ih (A ++ [x]) acc s' (by simp [e]) (by simp; omega) (by simpa using h')
    | some y =>
      simp only
      rw [if_pos (by omega)]
      exact ih (A ++ [x]) (acc ++ [y]) s' (by simp [e]) (by simp; omega) (by simpa using h')
theorem tlc_map {L : List α} {s : σ} {b : σ → α → TX (Option β × σ)} {f : α → β} (hL : L.length ≤ lim) (h : ∀ x ∈ L, b s x = .ok (some (f x), s)) : tlc [] L s b = .ok (L.map f, s) := by
  obtain ⟨r, e, h1, h2⟩ := tlc_inv (L := L) (s := s) (b := b) (fun A ys s' => ys = A.map f ∧ s' = s) hL ⟨rfl, rfl⟩ (by
    rintro A x B ys s' e ⟨rfl, rfl⟩ _
    exact ⟨_, h x (by rw [e]; simp), by simp⟩)
  rw [e, ← h1, ← h2]
theorem tlc_filterMap {L : List α} {s : σ} {b : σ → α → TX (Option β × σ)} {f : α → Option β} (hL : L.length ≤ lim) (h : ∀ x ∈ L, b s x = .ok (f x, s)) : tlc [] L s b = .ok (L.filterMap f, s) := by
  obtain ⟨r, e, h1, h2⟩ := tlc_inv (L := L) (s := s) (b := b) (fun A ys s' => ys = A.filterMap f ∧ s' = s) hL ⟨rfl, rfl⟩ (by
    rintro A x B ys s' e ⟨rfl, rfl⟩ _
    refine ⟨_, h x (by rw [e]; simp), ?_, rfl⟩
    rw [List.filterMap_append]
    cases q : f x <;> simp [q])
  rw [e, ← h1, ← h2]
end
end VT
set_option Elab.async false
set_option linter.all false
set_option maxRecDepth 100000
namespace VT
open PySem PySem.Spec PyProof.Rows VL
abbrev OS := {s : Str // PyData.strOk s = true}
def lit (s : Str) (h : PyData.strOk s = true := by decide +kernel) : OS := ⟨s, h⟩
section
variable {α β γ δ ε : Type}
def kS (x : OS) : PV := .str x.1
def kU (_ : Unit) : PV := .non
def kO (e : α → PV) : Option α → PV
  | none => .non
  | some a => e a
def kT (e : α → PV) (xs : List α) : PV := .tup (xs.map e)
def kL (o : Fl) (e : α → PV) (xs : List α) : PV := .lst o (xs.map e)
def kP2 (e : α → PV) (f : β → PV) (p : α × β) : PV := .tup [e p.1, f p.2]
def kP3 (e : α → PV) (f : β → PV) (g : γ → PV) (p : α × β × γ) : PV := .tup [e p.1, f p.2.1, g p.2.2]
def kP4 (e : α → PV) (f : β → PV) (g : γ → PV) (h : δ → PV) (p : α × β × γ × δ) : PV := .tup [e p.1, f p.2.1, g p.2.2.1, h p.2.2.2]
def kQ2 (o : Fl) (e : α → PV) (f : β → PV) (p : α × β) : PV := .lst o [e p.1, f p.2]
def kQ3 (o : Fl) (e : α → PV) (f : β → PV) (g : γ → PV) (p : α × β × γ) : PV := .lst o [e p.1, f p.2.1, g p.2.2]
def kQ4 (o : Fl) (e : α → PV) (f : β → PV) (g : γ → PV) (h : δ → PV) (p : α × β × γ × δ) : PV := .lst o [e p.1, f p.2.1, g p.2.2.1, h p.2.2.2]
class Fz (e : α → PV) : Prop where
  fz : ∀ a, fzOf (e a) = some (e a)
instance : Fz PV.int := ⟨fun _ => rfl⟩
instance : Fz PV.bl := ⟨fun _ => rfl⟩
instance : Fz PV.scr := ⟨fun _ => rfl⟩
instance : Fz kS := ⟨fun _ => rfl⟩
instance : Fz kU := ⟨fun _ => rfl⟩
instance {e : α → PV} [Fz e] : Fz (kO e) := ⟨fun a => by cases a with
  | none => rfl
  | some a => exact Fz.fz a⟩
instance {e : α → PV} : Fz (kT e) := ⟨fun _ => rfl⟩
instance {e : α → PV} : Fz (kL .fz e) := ⟨fun _ => rfl⟩
instance {e : α → PV} {f : β → PV} : Fz (kP2 e f) := ⟨fun _ => rfl⟩
instance {e : α → PV} {f : β → PV} {g : γ → PV} : Fz (kP3 e f g) := ⟨fun _ => rfl⟩
instance {e : α → PV} {f : β → PV} {g : γ → PV} {h : δ → PV} : Fz (kP4 e f g h) := ⟨fun _ => rfl⟩
instance {e : α → PV} {f : β → PV} : Fz (kQ2 .fz e f) := ⟨fun _ => rfl⟩
instance {e : α → PV} {f : β → PV} {g : γ → PV} : Fz (kQ3 .fz e f g) := ⟨fun _ => rfl⟩
instance {e : α → PV} {f : β → PV} {g : γ → PV} {h : δ → PV} : Fz (kQ4 .fz e f g h) := ⟨fun _ => rfl⟩
/-- a value that is frozen already -/
def FzV (a : PV) : Prop := fzOf a = some a
theorem FzV.of (e : α → PV) [Fz e] (a : α) : FzV (e a) := Fz.fz a
theorem FzV.own {a : PV} (h : FzV a) : a.own = false := (fzOf_eq h).2.2.1
theorem FzV.io {a : PV} (h : FzV a) : a.isIo = false := (fzOf_eq h).2.2.2.1
theorem FzV.emp {a : PV} (h : FzV a) : a.isEmp = false := (fzOf_eq h).2.1
theorem FzV.set {a : PV} (h : FzV a) : a.setFl .fz = a := (fzOf_eq h).1.symm
theorem FzV.toIo {a : PV} (h : FzV a) : a.toIo = a := by unfold PV.toIo PV.reFl; rw [h.own]; rfl
theorem eqv_n1 {d : PyData} (h : d ≠ .none) : PyData.eqv .none d = false := by cases d <;> first | exact absurd rfl h | simp [PyData.eqv]
theorem eqv_n2 {d : PyData} (h : d ≠ .none) : PyData.eqv d .none = false := by cases d <;> first | exact absurd rfl h | simp [PyData.eqv]
/-- not None, not nothing -/
class NN (e : α → PV) : Prop where
  nn : ∀ a neg, oIs neg (e a) .non = some (.bl neg)
  nd : ∀ a, PyData.eqv .none (dat (e a)) = false ∧ PyData.eqv (dat (e a)) .none = false
instance : NN PV.int := ⟨fun _ _ => rfl, fun a => have h := (by simp [kS, kT, kL, kP2, kP3, kQ2, dat]); ⟨eqv_n1 h, eqv_n2 h⟩⟩
instance : NN PV.bl := ⟨fun _ _ => rfl, fun a => have h := (by simp [kS, kT, kL, kP2, kP3, kQ2, dat]); ⟨eqv_n1 h, eqv_n2 h⟩⟩
instance : NN kS := ⟨fun _ _ => rfl, fun a => have h := (by simp [kS, kT, kL, kP2, kP3, kQ2, dat]); ⟨eqv_n1 h, eqv_n2 h⟩⟩
instance {e : α → PV} : NN (kT e) := ⟨fun _ _ => rfl, fun a => have h := (by simp [kS, kT, kL, kP2, kP3, kQ2, dat]); ⟨eqv_n1 h, eqv_n2 h⟩⟩
instance {o : Fl} {e : α → PV} : NN (kL o e) := ⟨fun _ _ => rfl, fun a => have h := (by simp [kS, kT, kL, kP2, kP3, kQ2, dat]); ⟨eqv_n1 h, eqv_n2 h⟩⟩
instance {e : α → PV} {f : β → PV} : NN (kP2 e f) := ⟨fun _ _ => rfl, fun a => have h := (by simp [kS, kT, kL, kP2, kP3, kQ2, dat]); ⟨eqv_n1 h, eqv_n2 h⟩⟩
instance {e : α → PV} {f : β → PV} {g : γ → PV} : NN (kP3 e f g) := ⟨fun _ _ => rfl, fun a => have h := (by simp [kS, kT, kL, kP2, kP3, kQ2, dat]); ⟨eqv_n1 h, eqv_n2 h⟩⟩
instance {o : Fl} {e : α → PV} {f : β → PV} : NN (kQ2 o e f) := ⟨fun _ _ => rfl, fun a => have h := (by simp [kS, kT, kL, kP2, kP3, kQ2, dat]); ⟨eqv_n1 h, eqv_n2 h⟩⟩
theorem is_O {e : α → PV} [NN e] (neg : Bool) (a : Option α) : oIs neg (kO e a) .non = some (.bl (neg != a.isNone)) := by
  cases a with
  | none => cases neg <;> rfl
  | some a => rw [show kO e (some a) = e a from rfl, NN.nn]; cases neg <;> rfl
/-- equality -/
class DE (e e' : α → PV) [DecidableEq α] : Prop where
  eq : ∀ a b, PyData.eqv (dat (e a)) (dat (e' b)) = decide (a = b)
class Dp (e : α → PV) (n : outParam Nat) : Prop where
  dp : ∀ a, (dat (e a)).depth ≤ n
  cl : ∀ a, (dat (e a)).canLay0 = true
instance : DE PV.int PV.int := ⟨fun a b => by simp [dat, PyData.eqv]; rfl⟩
instance : DE PV.bl PV.bl := ⟨fun a b => by cases a <;> cases b <;> simp [dat, PyData.eqv]⟩
instance : DE kS kS := ⟨fun a b => by
  simp only [kS, dat, PyData.eqv]
  by_cases h : a = b
  · subst h; simp
  · have : ¬ a.1 = b.1 := fun z => h (Subtype.ext z)
    simp [h, this]⟩
instance : DE kU kU := ⟨fun a b => by simp [kU, dat, PyData.eqv]⟩
instance {e e' : α → PV} [DecidableEq α] [DE e e'] [NN e] [NN e'] : DE (kO e) (kO e') := ⟨fun a b => by
  cases a <;> cases b <;> simp [kO, dat, PyData.eqv, DE.eq, (NN.nd _).1, (NN.nd _).2]⟩
theorem eqvAll_map {e e' : α → PV} [DecidableEq α] [DE e e'] : ∀ (xs ys : List α), PyData.eqvAll ((xs.map e).map dat) ((ys.map e').map dat) = decide (xs = ys)
  | [], [] => by simp [PyData.eqvAll]
  | [], _ :: _ => by simp [PyData.eqvAll]
  | _ :: _, [] => by simp [PyData.eqvAll]
  | x :: xs, y :: ys => by
    have ih := eqvAll_map (e := e) (e' := e') xs ys
    simp only [List.map_cons, PyData.eqvAll, ih, DE.eq (e := e) (e' := e') x y, List.cons.injEq, Bool.decide_and]
instance {e e' : α → PV} [DecidableEq α] [DE e e'] : DE (kT e) (kT e') := ⟨fun a b => by
  simp only [kT, dat, PyData.eqv]; exact eqvAll_map a b⟩
instance {o o' : Fl} {e e' : α → PV} [DecidableEq α] [DE e e'] : DE (kL o e) (kL o' e') := ⟨fun a b => by
  simp only [kL, dat, PyData.eqv]; exact eqvAll_map a b⟩
instance {e e' : α → PV} {f f' : β → PV} [DecidableEq α] [DecidableEq β] [DE e e'] [DE f f'] : DE (kP2 e f) (kP2 e' f') := ⟨fun a b => by
  obtain ⟨a1, a2⟩ := a
  obtain ⟨b1, b2⟩ := b
  simp [kP2, dat, PyData.eqv, PyData.eqvAll, DE.eq]⟩
instance {e e' : α → PV} {f f' : β → PV} {g g' : γ → PV} [DecidableEq α] [DecidableEq β] [DecidableEq γ] [DE e e'] [DE f f'] [DE g g'] : DE (kP3 e f g) (kP3 e' f' g') := ⟨fun a b => by
  obtain ⟨a1, a2, a3⟩ := a
  obtain ⟨b1, b2, b3⟩ := b
  simp [kP3, dat, PyData.eqv, PyData.eqvAll, DE.eq]⟩
instance {o o' : Fl} {e e' : α → PV} {f f' : β → PV} [DecidableEq α] [DecidableEq β] [DE e e'] [DE f f'] : DE (kQ2 o e f) (kQ2 o' e' f') := ⟨fun a b => by
  obtain ⟨a1, a2⟩ := a
  obtain ⟨b1, b2⟩ := b
  simp [kQ2, dat, PyData.eqv, PyData.eqvAll, DE.eq]⟩
instance : Dp PV.int 0 := ⟨fun a => by simp [dat, PyData.depth], fun a => by simp [dat, PyData.canLay0]⟩
instance : Dp PV.bl 0 := ⟨fun a => by simp [dat, PyData.depth], fun a => by simp [dat, PyData.canLay0]⟩
instance : Dp kU 0 := ⟨fun a => by simp [kU, dat, PyData.depth], fun a => by simp [kU, dat, PyData.canLay0]⟩
instance : Dp kS 0 := ⟨fun a => by simp [kS, dat, PyData.depth], fun a => by simpa [kS, dat, PyData.canLay0] using a.2⟩
instance {e : α → PV} {n : Nat} [Dp e n] : Dp (kO e) n := ⟨fun a => by
  cases a with
  | none => simp [kO, dat, PyData.depth]
  | some a => exact Dp.dp a, fun a => by
  cases a with
  | none => simp [kO, dat, PyData.canLay0]
  | some a => exact Dp.cl a⟩
theorem depthAll_le {n : Nat} : ∀ (xs : List PyData), (∀ x ∈ xs, x.depth ≤ n) → PyData.depthAll xs ≤ n
  | [], _ => by simp [PyData.depthAll]
  | x :: xs, h => by
    have h1 := h x List.mem_cons_self
    have h2 := depthAll_le xs fun y hy => h y (List.mem_cons_of_mem _ hy)
    simp only [PyData.depthAll]; omega
theorem canLayAll_of : ∀ (xs : List PyData), (∀ x ∈ xs, x.canLay0 = true) → PyData.canLayAll0 xs = true
  | [], _ => by simp [PyData.canLayAll0]
  | x :: xs, h => by
    simp only [PyData.canLayAll0, h x List.mem_cons_self, canLayAll_of xs fun y hy => h y (List.mem_cons_of_mem _ hy), Bool.and_true]
theorem dp_seq {e : α → PV} {n : Nat} [Dp e n] (xs : List α) : PyData.depthAll ((xs.map e).map dat) ≤ n ∧ PyData.canLayAll0 ((xs.map e).map dat) = true :=
  ⟨depthAll_le _ fun x hx => by
    obtain ⟨y, hy, rfl⟩ := List.mem_map.mp hx
    obtain ⟨z, _, rfl⟩ := List.mem_map.mp hy
    exact Dp.dp z, canLayAll_of _ fun x hx => by
    obtain ⟨y, hy, rfl⟩ := List.mem_map.mp hx
    obtain ⟨z, _, rfl⟩ := List.mem_map.mp hy
    exact Dp.cl z⟩
instance {e : α → PV} {n : Nat} [Dp e n] : Dp (kT e) (n + 1) := ⟨fun a => by
  have := (dp_seq (e := e) a).1
  simp only [kT, dat, PyData.depth]; omega, fun a => by
  simpa only [kT, dat, PyData.canLay0] using (dp_seq (e := e) a).2⟩
instance {o : Fl} {e : α → PV} {n : Nat} [Dp e n] : Dp (kL o e) (n + 1) := ⟨fun a => by
  have := (dp_seq (e := e) a).1
  simp only [kL, dat, PyData.depth]; omega, fun a => by
  simpa only [kL, dat, PyData.canLay0] using (dp_seq (e := e) a).2⟩
instance {e : α → PV} {f : β → PV} {n m : Nat} [Dp e n] [Dp f m] : Dp (kP2 e f) (max n m + 1) := ⟨fun a => by
  have h1 := Dp.dp (e := e) a.1
  have h2 := Dp.dp (e := f) a.2
  simp only [kP2, dat, PyData.depth, PyData.depthAll, List.map_cons, List.map_nil]; omega, fun a => by
  simp only [kP2, dat, PyData.canLay0, PyData.canLayAll0, List.map_cons, List.map_nil, Dp.cl, Bool.and_true]⟩
instance {o : Fl} {e : α → PV} {f : β → PV} {n m : Nat} [Dp e n] [Dp f m] : Dp (kQ2 o e f) (max n m + 1) := ⟨fun a => by
  have h1 := Dp.dp (e := e) a.1
  have h2 := Dp.dp (e := f) a.2
  simp only [kQ2, dat, PyData.depth, PyData.depthAll, List.map_cons, List.map_nil]; omega, fun a => by
  simp only [kQ2, dat, PyData.canLay0, PyData.canLayAll0, List.map_cons, List.map_nil, Dp.cl, Bool.and_true]⟩
instance {e : α → PV} {f : β → PV} {g : γ → PV} {n m k : Nat} [Dp e n] [Dp f m] [Dp g k] : Dp (kP3 e f g) (max n (max m k) + 1) := ⟨fun a => by
  have h1 := Dp.dp (e := e) a.1
  have h2 := Dp.dp (e := f) a.2.1
  have h3 := Dp.dp (e := g) a.2.2
  simp only [kP3, dat, PyData.depth, PyData.depthAll, List.map_cons, List.map_nil]; omega, fun a => by
  simp only [kP3, dat, PyData.canLay0, PyData.canLayAll0, List.map_cons, List.map_nil, Dp.cl, Bool.and_true]⟩
theorem laid_of {e : α → PV} {n : Nat} [Dp e n] (h : n ≤ 64) (a : α) : laid (e a) = true := by
  have h1 := Dp.dp (e := e) a
  unfold laid SeqAt.shaped
  rw [Dp.cl]
  simp; omega
theorem eq_D {e e' : α → PV} {n m : Nat} [DecidableEq α] [DE e e'] [Dp e n] [Dp e' m] (hn : n ≤ 64 := by decide) (hm : m ≤ 64 := by decide) (a b : α) : oEq false (e a) (e' b) = some (.bl (decide (a = b))) := by
  unfold oEq
  rw [laid_of hn, laid_of hm, DE.eq (e := e) (e' := e')]
  simp
theorem ne_D {e e' : α → PV} {n m : Nat} [DecidableEq α] [DE e e'] [Dp e n] [Dp e' m] (hn : n ≤ 64 := by decide) (hm : m ≤ 64 := by decide) (a b : α) : oEq true (e a) (e' b) = some (.bl (!decide (a = b))) := by
  unfold oEq
  rw [laid_of hn, laid_of hm, DE.eq (e := e) (e' := e')]
  simp
class Flt (e : α → PV) : Prop where
  fl : ∀ a, flat (e a) = true
instance : Flt PV.int := ⟨fun _ => rfl⟩
instance : Flt PV.bl := ⟨fun _ => rfl⟩
instance : Flt kS := ⟨fun _ => rfl⟩
instance : Flt kU := ⟨fun _ => rfl⟩
instance {e : α → PV} [Flt e] : Flt (kO e) := ⟨fun a => by cases a with
  | none => rfl
  | some a => exact Flt.fl a⟩
theorem hasIn_map {e e' : α → PV} [DecidableEq α] [DE e e'] (x : α) : ∀ xs : List α, hasIn (xs.map e) (e' x) = decide (x ∈ xs)
  | [] => by simp [hasIn]
  | y :: ys => by
    have ih := hasIn_map (e := e) (e' := e') x ys
    unfold hasIn at ih ⊢
    rw [List.map_cons, List.any_cons, ih, DE.eq (e := e) (e' := e')]
    by_cases h : y = x
    · subst h; simp
    · have : ¬ x = y := fun z => h z.symm
      simp [h, this]
theorem flatAll {e : α → PV} [Flt e] (xs : List α) : (xs.map e).all flat = true := by
  rw [List.all_map, List.all_eq_true]; intro x _; exact Flt.fl x
theorem in_L {e e' : α → PV} {o : Fl} [DecidableEq α] [DE e e'] [Flt e] [Flt e'] (neg : Bool) (x : α) (xs : List α) : oIn neg (e' x) (kL o e xs) = some (.bl (neg != decide (x ∈ xs))) := by
  simp only [oIn, kL, flatAll, Flt.fl, hasIn_map]; simp
theorem in_T {e e' : α → PV} [DecidableEq α] [DE e e'] [Flt e] [Flt e'] (neg : Bool) (x : α) (xs : List α) : oIn neg (e' x) (kT e xs) = some (.bl (neg != decide (x ∈ xs))) := by
  simp only [oIn, kT, flatAll, Flt.fl, hasIn_map]; simp
end
inductive Sl where
  | is (a : PV)
  | jk
  | any
def Mat : List Sl → List PV → Prop
  | [], ρ => ρ = []
  | .is a :: ps, ρ => ∃ ρ', ρ = a :: ρ' ∧ Mat ps ρ'
  | .jk :: ps, ρ => ∃ x ρ', ρ = x :: ρ' ∧ x.isIo = false ∧ Mat ps ρ'
  | .any :: ps, ρ => ∃ x ρ', ρ = x :: ρ' ∧ Mat ps ρ'
/-- the words follow the typed reading -/
def Sim {α β : Type} (E : List PV → Prop) (Q : β → α → List PV → Prop) (r : R α) (t : TX β) : Prop :=
  match t with
  | .ok b => ∃ a ρ, r = .ok a ρ ∧ Q b a ρ
  | .ex c xs => ∃ ρ, r = .exc c xs ρ ∧ E ρ
  | .no => True
def seqR (r : R Fw) (K : M Fw) : R Fw := match r with
  | .ok .nx ρ => K ρ
  | r => r
section
variable {α β γ δ σ ι : Type} {E : List PV → Prop} {Q : β → α → List PV → Prop} {Qw : β → Fw → List PV → Prop} {ρ ρ1 ρ2 : List PV} {t : TX β} {K : Hd → M α} {KT : Bool → M α} {KA : List Hd → M α} {fa fb fc : M Hd} {fs : M (List Hd)} {ta tb : M Bool} {op op' : PV → PV → Option PV} {a b c x y : PV} {h h1 h2 : Hd}
theorem Sim.no {r : R α} : Sim E Q r .no := trivial
theorem x_done {b : β} {a : α} (h : Q b a ρ) : Sim E Q (.ok a ρ) (.ok b) := ⟨a, ρ, rfl, h⟩
theorem R_bind_assoc {α β γ : Type} (r : R α) (k : α → M β) (l : β → M γ) : (r.bind k).bind l = r.bind fun a ρ => (k a ρ).bind l := by cases r <;> rfl
theorem x_fin {r : R α} (h : Sim E Q (r.bind .ok) t) : Sim E Q r t := by cases r <;> exact h
theorem x_bind {r : R γ} {Qm : δ → γ → List PV → Prop} {k : γ → M α} {m : TX δ} {T : δ → TX β} (h1 : Sim E Qm r m) (h2 : ∀ g a ρ, Qm g a ρ → Sim E Q (k a ρ) (T g)) : Sim E Q (r.bind k) (m.bind T) := by
  cases m with
  | ok g => obtain ⟨a, ρ, rfl, q⟩ := h1; exact h2 g a ρ q
  | ex c xs => obtain ⟨ρ, rfl, q⟩ := h1; exact ⟨ρ, rfl, q⟩
  | no => trivial
theorem x_ite {b : Bool} {r1 r2 : R α} {t1 t2 : TX β} (h1 : Sim E Q r1 t1) (h2 : Sim E Q r2 t2) : Sim E Q (if b = true then r1 else r2) (if b = true then t1 else t2) := by
  cases b
  · exact h2
  · exact h1
theorem x_bin (k : Sim E Q ((fa ρ).bind fun h1 ρ1 => (fb ρ1).bind fun h2 ρ2 => (ofO ρ2 (op (hv ρ2 h1) (hv ρ2 h2))).bind K) t) : Sim E Q ((eBin op fa fb ρ).bind K) t := by
  unfold eBin; rw [R_bind_assoc]; simp only [R_bind_assoc]; exact k
theorem x_fn {op : List PV → Option PV} (k : Sim E Q ((fs ρ).bind fun hs ρ1 => (ofO ρ1 (op (hs.map (hv ρ1)))).bind K) t) : Sim E Q ((eFn op fs ρ).bind K) t := by
  unfold eFn; rw [R_bind_assoc]; exact k
/-- a step that always gives c -/
theorem x_o {o : Option PV} (h : o = some c) (k : Sim E Q (K (.tm c) ρ) t) : Sim E Q ((ofO ρ o).bind K) t := by rw [h]; exact k
/-- a step that gives what m gives -/
def OS1 {γ : Type} (o : Option PV) (m : TX γ) (e : γ → PV) : Prop := ∀ g, m = .ok g → o = some (e g)
def NoEx {γ : Type} (m : TX γ) : Prop := ∀ c xs, m ≠ .ex c xs
theorem x_p {o : Option PV} {m : TX γ} {e : γ → PV} {T : γ → TX β} (h : OS1 o m e) (n : NoEx m) (k : ∀ g, m = .ok g → Sim E Q (K (.tm (e g)) ρ) (T g)) : Sim E Q ((ofO ρ o).bind K) (m.bind T) := by
  cases m with
  | ok g => rw [h g rfl]; exact k g rfl
  | ex c xs => exact absurd rfl (n c xs)
  | no => trivial
theorem x_ofB {o : Option Bool} {b : Bool} (h : o = some b) (k : Sim E Q (KT b ρ) t) : Sim E Q ((ofB ρ o).bind KT) t := by rw [h]; exact k
theorem x_and (k : Sim E Q ((fa ρ).bind fun h ρ1 => (ofB ρ1 (blOf (hv ρ1 h))).bind fun b ρ2 => (if b = true then fb ρ2 else .ok (.tm (.bl false)) ρ2).bind K) t) : Sim E Q ((eAnd fa fb ρ).bind K) t := by
  unfold eAnd; simp only [R_bind_assoc]; exact k
theorem x_if (k : Sim E Q ((ta ρ).bind fun b ρ1 => (if b = true then fa ρ1 else fb ρ1).bind K) t) : Sim E Q ((eIf ta fa fb ρ).bind K) t := by
  unfold eIf; simp only [R_bind_assoc]; exact k
theorem x_tB (k : Sim E Q ((fa ρ).bind fun h ρ1 => (ofB ρ1 (blOf (hv ρ1 h))).bind KT) t) : Sim E Q ((tB fa ρ).bind KT) t := by
  unfold tB; simp only [R_bind_assoc]; exact k
theorem x_tE (k : Sim E Q ((fa ρ).bind fun h ρ1 => (ofB ρ1 (tru (hv ρ1 h))).bind KT) t) : Sim E Q ((tE fa ρ).bind KT) t := by
  unfold tE; simp only [R_bind_assoc]; exact k
theorem x_tNot (k : Sim E Q ((ta ρ).bind fun b ρ1 => KT (!b) ρ1) t) : Sim E Q ((tNot ta ρ).bind KT) t := by
  unfold tNot; simp only [R_bind_assoc]; exact k
theorem x_tAnd (k : Sim E Q ((ta ρ).bind fun b ρ1 => (if b = true then tb ρ1 else .ok false ρ1).bind KT) t) : Sim E Q ((tAnd ta tb ρ).bind KT) t := by
  unfold tAnd; simp only [R_bind_assoc]; exact k
theorem x_tOr (k : Sim E Q ((ta ρ).bind fun b ρ1 => (if b = true then .ok true ρ1 else tb ρ1).bind KT) t) : Sim E Q ((tOr ta tb ρ).bind KT) t := by
  unfold tOr; simp only [R_bind_assoc]; exact k
theorem x_tYes (k : Sim E Q (KT true ρ) t) : Sim E Q ((tYesV ρ).bind KT) t := k
theorem x_anil (k : Sim E Q (KA [] ρ) t) : Sim E Q ((aNil ρ).bind KA) t := k
theorem x_acons (k : Sim E Q ((fa ρ).bind fun h ρ1 => (fs ρ1).bind fun hs ρ2 => KA (h :: hs) ρ2) t) : Sim E Q ((aCons fa fs ρ).bind KA) t := by
  unfold aCons; simp only [R_bind_assoc]; exact k
inductive Tks : List Hd → List PV → List PV → List PV → Prop
  | nil {ρ : List PV} : Tks [] ρ [] ρ
  | tm {ρ ρ' : List PV} {a b : PV} {hs : List Hd} {as : List PV} (h : a.setFl .fz = b) (r : Tks hs ρ as ρ') : Tks (.tm a :: hs) ρ (b :: as) ρ'
  | sl {ρ ρ' : List PV} {i : Nat} {b : PV} {hs : List Hd} {as : List PV} (h : fzOf (nth ρ i) = some b) (r : Tks hs (ρ.set i b) as ρ') : Tks (.sl i :: hs) ρ (b :: as) ρ'
  | fz {ρ ρ' : List PV} {i : Nat} {hs : List Hd} {as : List PV} {b : PV} (h : FzV b) (e : nth ρ i = b) (r : Tks hs ρ as ρ') : Tks (.sl i :: hs) ρ (b :: as) ρ'
theorem Tks.ok {hs : List Hd} {ρ as ρ' : List PV} (h : Tks hs ρ as ρ') : takes hs ρ = some (as, ρ') := by
  induction h with
  | nil => rfl
  | tm h r ih => subst h; simp only [takes, take, ih]
  | sl h r ih => simp only [takes, take, h, ih]
  | fz h e r ih => subst e; simp only [takes, take, show fzOf _ = _ from h, set_nth, ih]
def kTup (hs : List Hd) : M Hd := fun ρ1 => match takes hs ρ1 with
  | some (as, ρ2) => if as.length ≤ lim then .ok (.tm (.tup as)) ρ2 else .stuck
  | none => .stuck
def kLst (hs : List Hd) : M Hd := fun ρ1 => match takes hs ρ1 with
  | some (as, ρ2) => if as.length ≤ lim then .ok (.tm (.lst .ow as)) ρ2 else .stuck
  | none => .stuck
theorem x_tup {as : List PV} (k : Sim E Q ((fs ρ).bind fun hs ρ1 => (kTup hs ρ1).bind K) t) : Sim E Q ((eTup fs ρ).bind K) t := by
  unfold eTup; rw [R_bind_assoc]; exact k
theorem x_tupE {hs : List Hd} {as : List PV} (h : Tks hs ρ as ρ1) (hl : as.length ≤ lim) (hc : PV.tup as = c) (k : Sim E Q (K (.tm c) ρ1) t) : Sim E Q ((kTup hs ρ).bind K) t := by subst hc; unfold kTup; rw [h.ok]; simp only [if_pos hl]; exact k
theorem x_lst (k : Sim E Q ((fs ρ).bind fun hs ρ1 => (kLst hs ρ1).bind K) t) : Sim E Q ((eLst fs ρ).bind K) t := by
  unfold eLst; rw [R_bind_assoc]; exact k
theorem x_lstE {hs : List Hd} {as : List PV} (h : Tks hs ρ as ρ1) (hl : as.length ≤ lim) (hc : PV.lst .ow as = c) (k : Sim E Q (K (.tm c) ρ1) t) : Sim E Q ((kLst hs ρ).bind K) t := by subst hc; unfold kLst; rw [h.ok]; simp only [if_pos hl]; exact k
end
end VT
set_option Elab.async false
set_option linter.all false
set_option maxRecDepth 100000
namespace VT
open PySem PySem.Spec PyProof.Rows VL
section
variable {α β γ δ σ ι : Type} {E : List PV → Prop} {Q : β → α → List PV → Prop} {Qw : β → Fw → List PV → Prop} {ρ ρ1 ρ2 : List PV} {t : TX β} {KH : Hd → M α} {KX : List PV → M α} {K : M Fw} {fa fb fc f : M Hd} {fs : M (List Hd)} {ta tb : M Bool} {A B : M Fw} {a b c x y : PV} {h h1 h2 : Hd} {i j : Nat}
theorem s_last (k : Sim E Qw (sSeq A sNx ρ) t) : Sim E Qw (A ρ) t := by
  have : sSeq A sNx ρ = A ρ := by
    unfold sSeq
    cases A ρ with
    | ok a ρ => cases a <;> rfl
    | _ => rfl
  rw [this] at k; exact k
theorem s_assoc {C : M Fw} (k : Sim E Qw (sSeq A (sSeq B C) ρ) t) : Sim E Qw (sSeq (sSeq A B) C ρ) t := by
  have : sSeq (sSeq A B) C ρ = sSeq A (sSeq B C) ρ := by
    unfold sSeq
    cases A ρ with
    | ok a ρ => cases a <;> rfl
    | _ => rfl
  rw [this]; exact k
theorem s_nx (k : Sim E Qw (K ρ) t) : Sim E Qw (sSeq sNx K ρ) t := k
theorem seqR_bind {r : R γ} {k : γ → M Fw} : seqR (r.bind k) K = r.bind fun a ρ => seqR (k a ρ) K := by cases r <;> rfl
def kSet (i : Nat) (K : M Fw) (h : Hd) : M Fw := fun ρ => match keep h ρ with
  | some (a, ρ1) => (match setAt i a ρ1 with
    | some ρ2 => K ρ2
    | none => .stuck)
  | none => .stuck
theorem s_set (k : Sim E Qw ((f ρ).bind (kSet i K)) t) : Sim E Qw (sSeq (sSet i f) K ρ) t := by
  have : sSeq (sSet i f) K ρ = (f ρ).bind (kSet i K) := by
    unfold sSeq sSet
    cases f ρ with
    | ok h ρ1 =>
      simp only [R.bind_ok, kSet]
      cases keep h ρ1 with
      | none => rfl
      | some p =>
        obtain ⟨a, ρ2⟩ := p
        simp only
        cases setAt i a ρ2 <;> rfl
    | _ => rfl
  rw [this]; exact k
theorem x_set_tm (hi : (nth ρ i).isIo = false) (ha : a.isIo = false) (k : Sim E Qw (K (ρ.set i a)) t) : Sim E Qw (kSet i K (.tm a) ρ) t := by
  simp only [kSet, keep, setAt, hi, ha, Bool.or_self, Bool.false_eq_true, if_false]; exact k
theorem x_set_sl (hf : fzOf (nth ρ j) = some a) (hi : (nth (ρ.set j a) i).isIo = false) (k : Sim E Qw (K ((ρ.set j a).set i a)) t) : Sim E Qw (kSet i K (.sl j) ρ) t := by
  have ha := (fzOf_eq hf).2.2.2.1
  simp only [kSet, keep, take, hf, setAt, hi, ha, Bool.or_self, Bool.false_eq_true, if_false]; exact k
theorem x_set_fz (hf : FzV a) (e : nth ρ j = a) (hi : (nth ρ i).isIo = false) (k : Sim E Qw (K (ρ.set i a)) t) : Sim E Qw (kSet i K (.sl j) ρ) t := by
  subst e
  refine x_set_sl (a := nth ρ j) hf ?_ ?_
  · rw [set_nth]; exact hi
  · rw [set_nth]; exact k
theorem s_E (k : Sim E Qw ((f ρ).bind fun _ ρ1 => K ρ1) t) : Sim E Qw (sSeq (sE f) K ρ) t := by
  have : sSeq (sE f) K ρ = (f ρ).bind fun _ ρ1 => K ρ1 := by unfold sSeq sE; cases f ρ <;> rfl
  rw [this]; exact k
def kRet (h : Hd) : M Fw := fun ρ => match h with
  | .tm a => .ok (.rt a) ρ
  | .sl j => if (nth ρ j).isIo = true then .stuck else .ok (.rt (nth ρ j)) (ρ.set j .emp)
theorem s_ret (k : Sim E Qw ((f ρ).bind kRet) t) : Sim E Qw (sSeq (sRet f) K ρ) t := by
  have : sSeq (sRet f) K ρ = (f ρ).bind kRet := by
    unfold sSeq sRet
    cases f ρ with
    | ok h ρ1 =>
      simp only [R.bind_ok, kRet]
      cases h with
      | tm a => rfl
      | sl j => by_cases hc : (nth ρ1 j).isIo = true <;> simp [hc]
    | _ => rfl
  rw [this]; exact k
theorem s_if (k : Sim E Qw ((ta ρ).bind fun b ρ1 => if b = true then sSeq A K ρ1 else sSeq B K ρ1) t) : Sim E Qw (sSeq (sIf ta A B) K ρ) t := by
  have : sSeq (sIf ta A B) K ρ = (ta ρ).bind fun b ρ1 => if b = true then sSeq A K ρ1 else sSeq B K ρ1 := by
    unfold sSeq sIf
    cases ta ρ with
    | ok b ρ1 => cases b <;> rfl
    | _ => rfl
  rw [this]; exact k
def jnQ (P : σ → List Sl) (s : σ) (a : Fw) (ρ : List PV) : Prop := a = .nx ∧ Mat (P s) ρ
def lpQ (P : σ → List Sl) (s : σ) (a : Fw) (ρ : List PV) : Prop := (a = .nx ∨ a = .ct) ∧ Mat (P s) ρ
def goQ (P : σ → List Sl) (rq : β → PV → List PV → Prop) (g : Go σ β) (a : Fw) (ρ : List PV) : Prop := match g with
  | .nx s => (a = .nx ∨ a = .ct) ∧ Mat (P s) ρ
  | .bk s => a = .bk ∧ Mat (P s) ρ
  | .rt b => ∃ v, a = .rt v ∧ rq b v ρ
def jgQ (P : σ → List Sl) (rq : β → PV → List PV → Prop) (g : Go σ β) (a : Fw) (ρ : List PV) : Prop := match g with
  | .nx s => a = .nx ∧ Mat (P s) ρ
  | .bk _ => False
  | .rt b => ∃ v, a = .rt v ∧ rq b v ρ
def fnQ (rq : β → PV → List PV → Prop) (b : β) (a : Fw) (ρ : List PV) : Prop := ∃ v, (a = .rt v ∨ (a = .nx ∧ v = .non)) ∧ rq b v ρ
theorem s_join {P : σ → List Sl} {m : TX σ} {T : σ → TX β} (h1 : Sim E (jnQ P) (A ρ) m) (h2 : ∀ s ρ1, Mat (P s) ρ1 → Sim E Qw (K ρ1) (T s)) : Sim E Qw (sSeq A K ρ) (m.bind T) := by
  unfold sSeq
  cases m with
  | ok s => obtain ⟨a, ρ1, e, rfl, q⟩ := h1; rw [e]; exact h2 s ρ1 q
  | ex c xs => obtain ⟨ρ1, e, q⟩ := h1; rw [e]; exact ⟨ρ1, rfl, q⟩
  | no => trivial
theorem s_joinG {P : σ → List Sl} {rq : γ → PV → List PV → Prop} {m : TX (Go σ γ)} {f0 : σ → TX β} {r0 : γ → TX β} (h1 : Sim E (jgQ P rq) (A ρ) m) (h2 : ∀ s ρ1, Mat (P s) ρ1 → Sim E Qw (K ρ1) (f0 s)) (h3 : ∀ b v ρ1, rq b v ρ1 → Sim E Qw (.ok (.rt v) ρ1) (r0 b)) : Sim E Qw (sSeq A K ρ) (m.bind (Go.elim f0 r0)) := by
  unfold sSeq
  cases m with
  | ok g =>
    obtain ⟨a, ρ1, e, q⟩ := h1
    rw [e]
    cases g with
    | nx s => obtain ⟨rfl, q⟩ := q; exact h2 s ρ1 q
    | bk s => exact q.elim
    | rt b => obtain ⟨v, rfl, q⟩ := q; exact h3 b v ρ1 q
  | ex c xs => obtain ⟨ρ1, e, q⟩ := h1; rw [e]; exact ⟨ρ1, rfl, q⟩
  | no => trivial
theorem fn_ret {rq : β → PV → List PV → Prop} {b : β} {v : PV} (h : rq b v ρ) : Sim E (fnQ rq) (.ok (.rt v) ρ) (.ok b) := x_done ⟨v, .inl rfl, h⟩
theorem go_ret {P : σ → List Sl} {rq : β → PV → List PV → Prop} {b : β} {v : PV} (h : rq b v ρ) : Sim E (goQ P rq) (.ok (.rt v) ρ) (.ok (.rt b)) := x_done ⟨v, rfl, h⟩
def tgF (t : Tg) (f : M Fw) (x : PV) : M Fw := fun ρ => match t x ρ with
  | some ρ1 => f ρ1
  | none => .stuck
theorem x_tg {tg : Tg} {g : M Fw} (h : tg x ρ = some ρ1) (k : Sim E Qw (g ρ1) t) : Sim E Qw (tgF tg g x ρ) t := by unfold tgF; rw [h]; exact k
theorem tg_N (hi : (nth ρ i).isIo = false) (hx : x.isIo = false) : gN i x ρ = some (ρ.set i x) := by
  show (if ((nth ρ i).isIo || x.isIo) = true then none else some (ρ.set i x)) = _
  rw [hi, hx]; rfl
theorem tg_T2 {t1 t2 : Tg} (h1 : t1 x ρ = some ρ1) (h2 : t2 y ρ1 = some ρ2) : gT [t1, t2] (.tup [x, y]) ρ = some ρ2 := by
  simp only [gT, gL, h1, h2]
theorem loop_fold {P : σ → List Sl} {e : ι → PV} {tg : Tg} {g : M Fw} {bd : σ → ι → TX σ} : ∀ {L : List ι} (body : ∀ s x ρ, x ∈ L → Mat (P s) ρ → Sim E (lpQ P) (tgF tg g (e x) ρ) (bd s x)) {s : σ} {ρ : List PV}, Mat (P s) ρ → Sim E (jnQ P) (loop tg g (L.map e) ρ) (tfold L s bd)
  | [], _, s, ρ, h => ⟨.nx, ρ, rfl, rfl, h⟩
  | x :: L, body, s, ρ, h => by
    have b := body s x ρ List.mem_cons_self h
    simp only [List.map_cons, loop, tfold]
    unfold tgF at b
    cases eb : bd s x with
    | no => trivial
    | ex c xs =>
      rw [eb] at b
      obtain ⟨ρ1, e1, q⟩ := b
      cases et : tg (e x) ρ with
      | none => rw [et] at e1; cases e1
      | some ρ2 => rw [et] at e1; simp only at e1 ⊢; rw [e1]; exact ⟨ρ1, rfl, q⟩
    | ok s1 =>
      rw [eb] at b
      obtain ⟨a, ρ1, e1, q1, q2⟩ := b
      cases et : tg (e x) ρ with
      | none => rw [et] at e1; cases e1
      | some ρ2 =>
        rw [et] at e1
        simp only at e1 ⊢
        rw [e1]
        have := loop_fold (L := L) (fun s y ρ hy hM => body s y ρ (List.mem_cons_of_mem _ hy) hM) q2
        rcases q1 with rfl | rfl <;> exact this
theorem loop_for {P : σ → List Sl} {rq : γ → PV → List PV → Prop} {e : ι → PV} {tg : Tg} {g : M Fw} {bd : σ → ι → TX (Go σ γ)} : ∀ {L : List ι} (body : ∀ s x ρ, x ∈ L → Mat (P s) ρ → Sim E (goQ P rq) (tgF tg g (e x) ρ) (bd s x)) {s : σ} {ρ : List PV}, Mat (P s) ρ → Sim E (jgQ P rq) (loop tg g (L.map e) ρ) (tfor L s bd)
  | [], _, s, ρ, h => ⟨.nx, ρ, rfl, rfl, h⟩
  | x :: L, body, s, ρ, h => by
    have b := body s x ρ List.mem_cons_self h
    simp only [List.map_cons, loop, tfor]
    unfold tgF at b
    cases eb : bd s x with
    | no => trivial
    | ex c xs =>
      rw [eb] at b
      obtain ⟨ρ1, e1, q⟩ := b
      cases et : tg (e x) ρ with
      | none => rw [et] at e1; cases e1
      | some ρ2 => rw [et] at e1; simp only at e1 ⊢; rw [e1]; exact ⟨ρ1, rfl, q⟩
    | ok s1 =>
      rw [eb] at b
      obtain ⟨a, ρ1, e1, q1⟩ := b
      cases et : tg (e x) ρ with
      | none => rw [et] at e1; cases e1
      | some ρ2 =>
        rw [et] at e1
        simp only at e1 ⊢
        rw [e1]
        cases s1 with
        | nx s1 =>
          obtain ⟨q1, q2⟩ := q1
          have := loop_for (L := L) (fun s y ρ hy hM => body s y ρ (List.mem_cons_of_mem _ hy) hM) q2
          rcases q1 with rfl | rfl <;> exact this
        | bk s1 => obtain ⟨rfl, q2⟩ := q1; exact ⟨.nx, ρ1, rfl, rfl, q2⟩
        | rt b => obtain ⟨v, rfl, q2⟩ := q1; exact ⟨.rt v, ρ1, rfl, v, rfl, q2⟩
theorem r_join {P : σ → List Sl} {m : TX σ} {T : σ → TX β} {r : R Fw} (h1 : Sim E (jnQ P) r m) (h2 : ∀ s ρ1, Mat (P s) ρ1 → Sim E Qw (K ρ1) (T s)) : Sim E Qw (seqR r K) (m.bind T) := s_join (A := fun _ => r) (ρ := []) h1 h2
theorem r_joinG {P : σ → List Sl} {rq : γ → PV → List PV → Prop} {m : TX (Go σ γ)} {f0 : σ → TX β} {r0 : γ → TX β} {r : R Fw} (h1 : Sim E (jgQ P rq) r m) (h2 : ∀ s ρ1, Mat (P s) ρ1 → Sim E Qw (K ρ1) (f0 s)) (h3 : ∀ b v ρ1, rq b v ρ1 → Sim E Qw (.ok (.rt v) ρ1) (r0 b)) : Sim E Qw (seqR r K) (m.bind (Go.elim f0 r0)) := s_joinG (A := fun _ => r) (ρ := []) h1 h2 h3
/-- a for in its place -/
theorem x_fold {P : σ → List Sl} {e : ι → PV} {tg : Tg} {g : M Fw} {bd : σ → ι → TX σ} {L : List ι} {s : σ} {T : σ → TX β} (h0 : Mat (P s) ρ) (body : ∀ s x ρ, x ∈ L → Mat (P s) ρ → Sim E (lpQ P) (tgF tg g (e x) ρ) (bd s x)) (h2 : ∀ s ρ1, Mat (P s) ρ1 → Sim E Qw (K ρ1) (T s)) : Sim E Qw (seqR (loop tg g (L.map e) ρ) K) ((tfold L s bd).bind T) := r_join (loop_fold body h0) h2
theorem x_for {P : σ → List Sl} {rq : γ → PV → List PV → Prop} {e : ι → PV} {tg : Tg} {g : M Fw} {bd : σ → ι → TX (Go σ γ)} {L : List ι} {s : σ} {f0 : σ → TX β} {r0 : γ → TX β} (h0 : Mat (P s) ρ) (body : ∀ s x ρ, x ∈ L → Mat (P s) ρ → Sim E (goQ P rq) (tgF tg g (e x) ρ) (bd s x)) (h2 : ∀ s ρ1, Mat (P s) ρ1 → Sim E Qw (K ρ1) (f0 s)) (h3 : ∀ b v ρ1, rq b v ρ1 → Sim E Qw (.ok (.rt v) ρ1) (r0 b)) : Sim E Qw (seqR (loop tg g (L.map e) ρ) K) ((tfor L s bd).bind (Go.elim f0 r0)) := r_joinG (loop_for body h0) h2 h3
theorem s_for {fi : M (List PV)} {tg : Tg} {g : M Fw} (k : Sim E Qw ((fi ρ).bind fun xs ρ1 => seqR (loop tg g xs ρ1) K) t) : Sim E Qw (sSeq (sFor fi tg g) K ρ) t := by
  have : sSeq (sFor fi tg g) K ρ = (fi ρ).bind fun xs ρ1 => seqR (loop tg g xs ρ1) K := by
    show seqR ((fi ρ).bind fun xs ρ1 => loop tg g xs ρ1) K = _
    rw [seqR_bind]
  rw [this]; exact k
def kIt (h : Hd) : M (List PV) := fun ρ1 => match take ρ1 h with
  | some (a, ρ2) => ofX ρ2 (seqOf a)
  | none => .stuck
theorem x_iSeq (k : Sim E Q ((f ρ).bind fun h ρ1 => (kIt h ρ1).bind KX) t) : Sim E Q ((iSeq f ρ).bind KX) t := by
  have : (iSeq f ρ).bind KX = (f ρ).bind fun h ρ1 => (kIt h ρ1).bind KX := by unfold iSeq; rw [R_bind_assoc]; rfl
  rw [this]; exact k
theorem x_it_tm {xs : List PV} (hs : seqOf (a.setFl .fz) = some xs) (k : Sim E Q (KX xs ρ) t) : Sim E Q ((kIt (.tm a) ρ).bind KX) t := by
  simp only [kIt, take, hs, ofX, R.bind_ok]; exact k
theorem x_it_sl {xs : List PV} (hf : fzOf (nth ρ i) = some a) (hs : seqOf a = some xs) (k : Sim E Q (KX xs (ρ.set i a)) t) : Sim E Q ((kIt (.sl i) ρ).bind KX) t := by
  simp only [kIt, take, hf, hs, ofX, R.bind_ok]; exact k
theorem x_it_fz {xs : List PV} (hf : FzV a) (e : nth ρ i = a) (hs : seqOf a = some xs) (k : Sim E Q (KX xs ρ) t) : Sim E Q ((kIt (.sl i) ρ).bind KX) t := by
  subst e
  exact x_it_sl (show fzOf _ = some _ from hf) hs (by rw [set_nth]; exact k)
theorem rgL_map (a b : Int) : rgL a b = (rgI a b).map PV.int := by simp [rgL, rgI]
def kRg1 (hs : List Hd) : M (List PV) := fun ρ1 => match hs.map (hv ρ1) with
    | [.int n] => ofX ρ1 (oRg 0 n)
    | _ => .stuck
def kRg2 (hs : List Hd) : M (List PV) := fun ρ1 => match hs.map (hv ρ1) with
    | [.int a, .int b] => ofX ρ1 (oRg a b)
    | _ => .stuck
def kERg (tup : Bool) (h : Hd) : M Hd := fun ρ1 => match hv ρ1 h with
  | .int n => (match oRg 0 n with | some xs => .ok (.tm (if tup = true then .tup xs else .lst .ow xs)) ρ1 | none => .stuck)
  | _ => .stuck
def kEnum (hs : List Hd) : M (List PV) := fun ρ1 => match takes hs ρ1 with
  | some ([a], ρ2) => ofX ρ2 ((seqOf a).map fun xs => pairs xs 0)
  | _ => .stuck
theorem x_iRg1 (k : Sim E Q ((fs ρ).bind fun hs ρ1 => (kRg1 hs ρ1).bind KX) t) : Sim E Q ((iRg1 fs ρ).bind KX) t := by
  unfold iRg1; rw [R_bind_assoc]; exact k
theorem x_iRg2 (k : Sim E Q ((fs ρ).bind fun hs ρ1 => (kRg2 hs ρ1).bind KX) t) : Sim E Q ((iRg2 fs ρ).bind KX) t := by
  unfold iRg2; rw [R_bind_assoc]; exact k
theorem x_rg1E {n : Int} {T : List Int → TX β} (hn : hv ρ h = .int n) (k : Sim E Q (KX ((rgI 0 n).map PV.int) ρ) (T (rgI 0 n))) : Sim E Q ((kRg1 [h] ρ).bind KX) ((trg 0 n).bind T) := by
  unfold trg
  by_cases hc : Int.natAbs 0 ≤ lim ∧ Int.natAbs n ≤ lim
  · rw [if_pos hc]
    simp only [kRg1, kRg2, kERg, List.map_cons, List.map_nil, hn, oRg, if_pos hc, ofX, R.bind_ok, TX.bind_ok, rgL_map]; exact k
  · rw [if_neg hc]; trivial
theorem x_rg2E {n m : Int} {T : List Int → TX β} (hn : hv ρ h1 = .int n) (hm : hv ρ h2 = .int m) (k : Sim E Q (KX ((rgI n m).map PV.int) ρ) (T (rgI n m))) : Sim E Q ((kRg2 [h1, h2] ρ).bind KX) ((trg n m).bind T) := by
  unfold trg
  by_cases hc : Int.natAbs n ≤ lim ∧ Int.natAbs m ≤ lim
  · rw [if_pos hc]
    simp only [kRg1, kRg2, kERg, List.map_cons, List.map_nil, hn, hm, oRg, if_pos hc, ofX, R.bind_ok, TX.bind_ok, rgL_map]; exact k
  · rw [if_neg hc]; trivial
/-- list(range(n)) -/
theorem x_eRg1 {tup : Bool} (k : Sim E Q ((fa ρ).bind fun h ρ1 => (kERg tup h ρ1).bind KH) t) : Sim E Q ((eRg1 tup fa ρ).bind KH) t := by
  unfold eRg1; rw [R_bind_assoc]; exact k
theorem x_eRg1E {tup : Bool} {n : Int} {T : List Int → TX β} {e : List Int → PV} (hn : hv ρ h = .int n) (he : ∀ xs, (if tup = true then kT PV.int xs else kL .ow PV.int xs) = e xs) (k : ∀ xs, Sim E Q (KH (.tm (e xs)) ρ) (T xs)) : Sim E Q ((kERg tup h ρ).bind KH) ((trg 0 n).bind T) := by
  unfold trg
  by_cases hc : Int.natAbs 0 ≤ lim ∧ Int.natAbs n ≤ lim
  · rw [if_pos hc]
    have := k (rgI 0 n); rw [← he] at this; simp only [kERg, hn, oRg, if_pos hc, R.bind_ok, TX.bind_ok, rgL_map]; exact this
  · rw [if_neg hc]; trivial
def tenum (xs : List ι) : List (Int × ι) := xs.zipIdx.map fun p => ((p.2 : Int), p.1)
theorem pairs_map {e : ι → PV} : ∀ (xs : List ι) (n : Nat), pairs (xs.map e) n = (xs.zipIdx n).map fun p => kP2 PV.int e ((p.2 : Int), p.1)
  | [], _ => rfl
  | x :: xs, n => by simp only [List.map_cons, pairs, List.zipIdx_cons, pairs_map xs (n + 1)]; rfl
theorem pairs_enum {e : ι → PV} (xs : List ι) : pairs (xs.map e) 0 = (tenum xs).map (kP2 PV.int e) := by
  rw [pairs_map, tenum, List.map_map]; rfl
theorem x_iEnum (k : Sim E Q ((fs ρ).bind fun hs ρ1 => (kEnum hs ρ1).bind KX) t) : Sim E Q ((iEnumV fs ρ).bind KX) t := by
  unfold iEnumV; rw [R_bind_assoc]; exact k
theorem x_enumE {e : ι → PV} {xs : List ι} {hs : List Hd} (h : Tks hs ρ [a] ρ1) (hs' : seqOf a = some (xs.map e)) (k : Sim E Q (KX ((tenum xs).map (kP2 PV.int e)) ρ1) t) : Sim E Q ((kEnum hs ρ).bind KX) t := by
  unfold kEnum; rw [h.ok]; simp only [hs', Option.map_some, ofX, R.bind_ok, pairs_enum]; exact k
def ioF (o : Fl) : Fl := match o with
  | .fz => .fz
  | _ => .io
theorem ioF_or (o : Fl) : ioF o = .io ∨ ioF o = .fz := by cases o <;> simp [ioF]
theorem forN_T {tg : Tg} {g : M Fw} {xs : List PV} (e : nth ρ j = .tup xs) (k : Sim E Qw (seqR (loop tg g xs ρ) K) t) : Sim E Qw (sSeq (sForN j tg g) K ρ) t := by
  have hf : sForN j tg g ρ = loop tg g xs ρ := by
    have ne : eN j ρ = .ok (.sl j) ρ := by unfold eN; rw [e]; rfl
    unfold sForN
    rw [e]
    show sFor (iSeq (eN j)) tg g ρ = _
    unfold sFor iSeq
    rw [ne]
    simp only [R.bind_ok, take, e, fzOf, seqOf, ofX]
    have := set_nth (ρ := ρ) (i := j)
    rw [e] at this
    rw [this]
  show Sim E Qw (seqR (sForN j tg g ρ) K) t
  rw [hf]; exact k
theorem forN_fz {tg : Tg} {g : M Fw} {xs : List PV} (e : nth ρ j = .lst .fz xs) (k : Sim E Qw (seqR (loop tg g xs ρ) K) t) : Sim E Qw (sSeq (sForN j tg g) K ρ) t := by
  have hf : sForN j tg g ρ = loop tg g xs ρ := by
    have ne : eN j ρ = .ok (.sl j) ρ := by unfold eN; rw [e]; rfl
    unfold sForN
    rw [e]
    show sFor (iSeq (eN j)) tg g ρ = _
    unfold sFor iSeq
    rw [ne]
    simp only [R.bind_ok, take, e, fzOf, seqOf, ofX]
    have := set_nth (ρ := ρ) (i := j)
    rw [e] at this
    rw [this]
  show Sim E Qw (seqR (sForN j tg g ρ) K) t
  rw [hf]; exact k
theorem forE_fz {tg : Tg} {g : M Fw} {xs : List PV} (e : nth ρ j = .lst .fz xs) (k : Sim E Qw (seqR (loop tg g (pairs xs 0) ρ) K) t) : Sim E Qw (sSeq (sForE j tg g) K ρ) t := by
  have hf : sForE j tg g ρ = loop tg g (pairs xs 0) ρ := by
    have ne : eN j ρ = .ok (.sl j) ρ := by unfold eN; rw [e]; rfl
    unfold sForE
    rw [e]
    show sFor (iEnumV (aCons (eN j) aNil)) tg g ρ = _
    unfold sFor iEnumV aCons aNil
    rw [ne]
    simp only [R.bind_ok, takes, take, e, fzOf, seqOf, ofX, Option.map_some]
    have := set_nth (ρ := ρ) (i := j)
    rw [e] at this
    rw [this]
  show Sim E Qw (seqR (sForE j tg g ρ) K) t
  rw [hf]; exact k
/-- the walk by places follows the typed one -/
theorem loopJ_for {P : σ → List Sl} {rq : γ → PV → List PV → Prop} {w : Nat → PV → PV} {ys : List PV} {e : ι → PV} {tg : Tg} {g : M Fw} {bd : σ → ι → TX (Go σ γ)} {L : List ι} (hL : ∀ i y, ys[i]? = some y → ∃ x, L[i]? = some x ∧ w i y = e x) (hlen : ys.length = L.length)
    (inv : ∀ s ρ, Mat (P s) ρ → nth ρ j = .lst .io ys) (body : ∀ s x ρ, x ∈ L → Mat (P s) ρ → Sim E (goQ P rq) (tgF tg g (e x) ρ) (bd s x)) :
    ∀ (m : Nat) (s : σ) (ρ : List PV), m ≤ ys.length → Mat (P s) ρ → Sim E (jgQ P rq) (loopJ w j ys.length tg g m ρ) (tfor (L.drop (ys.length - m)) s bd)
  | 0, s, ρ, _, h => by
    rw [Nat.sub_zero, List.drop_eq_nil_of_le (show L.length ≤ ys.length by omega)]
    have := inv s ρ h
    have ok : okAt j ys.length ρ = true := by unfold okAt; rw [this]; simp
    simp only [loopJ, if_pos ok]
    exact ⟨.nx, ρ, rfl, rfl, h⟩
  | m + 1, s, ρ, hm, h => by
    have hi : ys.length - (m + 1) < ys.length := by omega
    obtain ⟨x, hx, hw⟩ := hL (ys.length - (m + 1)) _ (List.getElem?_eq_getElem hi)
    have hx' : ys.length - (m + 1) < L.length := by omega
    have hd : L.drop (ys.length - (m + 1)) = x :: L.drop (ys.length - m) := by
      rw [List.drop_eq_getElem_cons hx', show ys.length - (m + 1) + 1 = ys.length - m from by omega]
      rw [List.getElem?_eq_getElem hx'] at hx
      cases hx; rfl
    rw [hd]
    have hj := inv s ρ h
    have b := body s x ρ (List.mem_of_getElem? hx) h
    simp only [loopJ, nowAt, hj, if_true, List.getElem?_eq_getElem hi, hw, tfor]
    unfold tgF at b
    cases eb : bd s x with
    | no => trivial
    | ex c xs =>
      rw [eb] at b
      obtain ⟨ρ1, e1, q⟩ := b
      cases et : tg (e x) ρ with
      | none => rw [et] at e1; cases e1
      | some ρ2 => rw [et] at e1; simp only at e1 ⊢; rw [e1]; exact ⟨ρ1, rfl, q⟩
    | ok s1 =>
      rw [eb] at b
      obtain ⟨a, ρ1, e1, q1⟩ := b
      cases et : tg (e x) ρ with
      | none => rw [et] at e1; cases e1
      | some ρ2 =>
        rw [et] at e1
        simp only at e1 ⊢
        rw [e1]
        cases s1 with
        | nx s1 =>
          obtain ⟨q1, q2⟩ := q1
          have := loopJ_for hL hlen inv body m s1 ρ1 (by omega) q2
          rcases q1 with rfl | rfl <;> exact this
        | bk s1 => obtain ⟨rfl, q2⟩ := q1; exact ⟨.nx, ρ1, rfl, rfl, q2⟩
        | rt b => obtain ⟨v, rfl, q2⟩ := q1; exact ⟨.rt v, ρ1, rfl, v, rfl, q2⟩
theorem tfor_fold {L : List ι} {bd : σ → ι → TX σ} : ∀ {s : σ}, (tfor (β := Empty) L s fun s x => (bd s x).bind fun s' => .ok (.nx s')) = (tfold L s bd).bind fun s' => .ok (.nx s') := by
  induction L with
  | nil => intro s; rfl
  | cons x L ih =>
    intro s
    simp only [tfor, tfold]
    cases bd s x with
    | ok s' => simp only [TX.bind_ok]; exact ih
    | _ => rfl
theorem loopJ_fold {P : σ → List Sl} {w : Nat → PV → PV} {ys : List PV} {e : ι → PV} {tg : Tg} {g : M Fw} {bd : σ → ι → TX σ} {L : List ι} (hL : ∀ i y, ys[i]? = some y → ∃ x, L[i]? = some x ∧ w i y = e x) (hlen : ys.length = L.length)
    (inv : ∀ s ρ, Mat (P s) ρ → nth ρ j = .lst .io ys) (body : ∀ s x ρ, x ∈ L → Mat (P s) ρ → Sim E (lpQ P) (tgF tg g (e x) ρ) (bd s x)) {s : σ} (h : Mat (P s) ρ) : Sim E (jnQ P) (loopJ w j ys.length tg g ys.length ρ) (tfold L s bd) := by
  have := loopJ_for (E := E) (rq := fun (_ : Empty) _ _ => False) (bd := fun s x => (bd s x).bind fun s' => .ok (.nx s')) hL hlen inv (fun s x ρ hx hM => by
    have b := body s x ρ hx hM
    cases eb : bd s x with
    | ok s1 => rw [eb] at b; obtain ⟨a, ρ1, e1, q⟩ := b; exact ⟨a, ρ1, e1, q⟩
    | ex c xs => rw [eb] at b; exact b
    | no => trivial) ys.length s ρ (Nat.le_refl _) h
  rw [Nat.sub_self, List.drop_zero, tfor_fold] at this
  cases et : tfold L s bd with
  | ok s1 => rw [et] at this; obtain ⟨a, ρ1, e1, q⟩ := this; exact ⟨a, ρ1, e1, q⟩
  | ex c xs => rw [et] at this; exact this
  | no => trivial
theorem get_map {e : ι → PV} {L : List ι} {i : Nat} {y : PV} (h : (L.map e)[i]? = some y) : ∃ x, L[i]? = some x ∧ wId i y = e x := by
  rw [List.getElem?_map] at h
  obtain ⟨x, hx, rfl⟩ := Option.map_eq_some_iff.mp h
  exact ⟨x, hx, rfl⟩
theorem get_enum {e : ι → PV} {L : List ι} {i : Nat} {y : PV} (h : (L.map e)[i]? = some y) : ∃ x, (tenum L)[i]? = some x ∧ wPair i y = kP2 PV.int e x := by
  rw [List.getElem?_map] at h
  obtain ⟨x, hx, rfl⟩ := Option.map_eq_some_iff.mp h
  refine ⟨((i : Int), x), ?_, rfl⟩
  simp [tenum, List.getElem?_map, List.getElem?_zipIdx, hx]
theorem forN_for {P : σ → List Sl} {rq : γ → PV → List PV → Prop} {e : ι → PV} {tg : Tg} {g : M Fw} {bd : σ → ι → TX (Go σ γ)} {L : List ι} {s : σ} {f0 : σ → TX β} {r0 : γ → TX β} {w : Fl} (hw : w = .io ∨ w = .fz) (e1 : nth ρ j = kL w e L) (inv : ∀ s ρ, Mat (P s) ρ → nth ρ j = kL w e L) (h0 : Mat (P s) ρ) (body : ∀ s x ρ, x ∈ L → Mat (P s) ρ → Sim E (goQ P rq) (tgF tg g (e x) ρ) (bd s x)) (h2 : ∀ s ρ1, Mat (P s) ρ1 → Sim E Qw (K ρ1) (f0 s)) (h3 : ∀ b v ρ1, rq b v ρ1 → Sim E Qw (.ok (.rt v) ρ1) (r0 b)) : Sim E Qw (sSeq (sForN j tg g) K ρ) ((tfor L s bd).bind (Go.elim f0 r0)) := by
  rcases hw with rfl | rfl
  · refine s_joinG (P := P) ?_ h2 h3
    have := loopJ_for (E := E) (w := wId) (ys := L.map e) (L := L) (tg := tg) (g := g) (rq := rq) (fun i y h => get_map h) (by simp) inv body (L.map e).length s ρ (Nat.le_refl _) h0
    rw [Nat.sub_self, List.drop_zero] at this
    unfold sForN
    rw [e1]
    exact this
  · exact forN_fz e1 (x_for h0 body h2 h3)
theorem forE_fold {P : σ → List Sl} {e : ι → PV} {tg : Tg} {g : M Fw} {bd : σ → Int × ι → TX σ} {L : List ι} {s : σ} {T : σ → TX β} {w : Fl} (hw : w = .io ∨ w = .fz) (e1 : nth ρ j = kL w e L) (inv : ∀ s ρ, Mat (P s) ρ → nth ρ j = kL w e L) (h0 : Mat (P s) ρ) (body : ∀ s x ρ, x ∈ tenum L → Mat (P s) ρ → Sim E (lpQ P) (tgF tg g (kP2 PV.int e x) ρ) (bd s x)) (h2 : ∀ s ρ1, Mat (P s) ρ1 → Sim E Qw (K ρ1) (T s)) : Sim E Qw (sSeq (sForE j tg g) K ρ) ((tfold (tenum L) s bd).bind T) := by
  rcases hw with rfl | rfl
  · refine s_join (P := P) ?_ h2
    have := loopJ_fold (E := E) (w := wPair) (ys := L.map e) (L := tenum L) (tg := tg) (g := g) (fun i y h => get_enum h) (by simp [tenum]) inv body h0
    unfold sForE
    rw [e1]
    exact this
  · exact forE_fz e1 (by rw [pairs_enum]; exact x_fold h0 body h2)
end
end VT
set_option Elab.async false
set_option linter.all false
set_option maxRecDepth 100000
namespace VT
open PySem PySem.Spec PyProof.Rows VL
/-- what raises within a comprehension is not read -/
def nox {α : Type} : TX α → TX α
  | .ok a => .ok a
  | _ => .no
@[simp] theorem nox_ok {α : Type} (a : α) : nox (.ok a) = .ok a := rfl
/-- a comprehension without a state -/
def tlcP {α β : Type} (L : List α) (b : α → TX (Option β)) : TX (List β) := (tlc [] L () fun _ x => (nox (b x)).bind fun o => .ok (o, ())).bind fun r => .ok r.1
def tlcS {α β σ : Type} (L : List α) (s : σ) (b : σ → α → TX (Option β × σ)) : TX (List β × σ) := tlc [] L s fun s x => nox (b s x)
theorem tlcP_filterMap {α β : Type} {L : List α} {b : α → TX (Option β)} {f : α → Option β} (hL : L.length ≤ lim) (h : ∀ x ∈ L, b x = .ok (f x)) : tlcP L b = .ok (L.filterMap f) := by
  unfold tlcP
  rw [tlc_filterMap hL (f := f) (fun x hx => by rw [h x hx]; rfl)]
  rfl
theorem tlcP_map {α β : Type} {L : List α} {b : α → TX (Option β)} {f : α → β} (hL : L.length ≤ lim) (h : ∀ x ∈ L, b x = .ok (some (f x))) : tlcP L b = .ok (L.map f) := by
  unfold tlcP
  rw [tlc_map hL (f := f) (fun x hx => by rw [h x hx]; rfl)]
  rfl
theorem tlcP_filter {α β : Type} {L : List α} {b : α → TX (Option β)} {p : α → Bool} {f : α → β} (hL : L.length ≤ lim) (h : ∀ x ∈ L, b x = .ok (if p x = true then some (f x) else none)) : tlcP L b = .ok ((L.filter p).map f) := by
  rw [tlcP_filterMap hL h]
  congr 1
  clear h hL
  induction L with
  | nil => rfl
  | cons x L ih =>
    rw [List.filterMap_cons, List.filter_cons]
    cases p x <;> simp [ih]
theorem Ok.nox {α : Type} {t : TX α} {Q : α → Prop} (h : Ok t Q) : Ok (VT.nox t) Q := by
  obtain ⟨a, e, q⟩ := h; exact ⟨a, by rw [e]; rfl, q⟩
section
variable {α β γ δ σ ι : Type} {E : List PV → Prop} {Q : β → α → List PV → Prop} {Qw : β → Fw → List PV → Prop} {ρ ρ1 ρ2 : List PV} {t : TX β} {KH : Hd → M α} {KX : List PV → M α} {K : M Fw} {fa fb fc fe f fo fi fv : M Hd} {fs : M (List Hd)} {ta tb tt : M Bool} {A B : M Fw} {a b c x y : PV} {h h0 h1 h2 : Hd} {i j : Nat} {tg : Tg} {own : List Nat}
/-- one turn -/
def lcb (tg : Tg) (tt : M Bool) (fe : M Hd) (x : PV) : M (Option PV) := fun ρ => match tg x ρ with
  | some ρ1 => (tt ρ1).bind fun b ρ2 => if b = true then (fe ρ2).bind fun h ρ3 => (match take ρ3 h with
    | some (a, ρ4) => .ok (some a) ρ4
    | none => .stuck) else .ok none ρ2
  | none => .stuck
def lcQ (P : σ → List Sl) (e : γ → PV) (own : List Nat) (r : Option γ × σ) (o : Option PV) (ρ : List PV) : Prop := o = r.1.map e ∧ Mat (P r.2) (wipeQ ρ own)
theorem lcl_sim {P : σ → List Sl} {e : ι → PV} {e' : γ → PV} {bd : σ → ι → TX (Option γ × σ)} : ∀ {L : List ι} (body : ∀ s x ρ, x ∈ L → Mat (P s) ρ → Sim (fun _ => True) (lcQ P e' own) (lcb tg tt fe (e x) ρ) (bd s x)) {s : σ} {acc : List γ} {ρ : List PV}, Mat (P s) ρ →
    Sim (fun _ => True) (fun r ys ρ => ys = r.1.map e' ∧ Mat (P r.2) ρ) (lcl tg tt fe own (L.map e) (acc.map e') ρ) (tlc acc L s fun s x => nox (bd s x))
  | [], _, s, acc, ρ, h => ⟨_, ρ, rfl, rfl, h⟩
  | x :: L, body, s, acc, ρ, h => by
    have b := body s x ρ List.mem_cons_self h
    simp only [List.map_cons, lcl, tlc]
    cases eb : bd s x with
    | no => trivial
    | ex c xs => trivial
    | ok r =>
      rw [eb] at b
      obtain ⟨o, ρ1, e1, q1, q2⟩ := b
      subst q1
      unfold lcb at e1
      simp only [nox_ok, TX.bind_ok]
      cases et : tg (e x) ρ with
      | none => rw [et] at e1; cases e1
      | some ρ2 =>
        rw [et] at e1
        simp only at e1 ⊢
        cases ett : tt ρ2 with
        | stuck => rw [ett] at e1; cases e1
        | exc _ _ _ => rw [ett] at e1; cases e1
        | ok b ρ3 =>
          rw [ett] at e1
          simp only [R.bind_ok] at e1
          cases b with
          | false =>
            simp only [Bool.false_eq_true, if_false, R.ok.injEq] at e1
            obtain ⟨e1, rfl⟩ := e1
            obtain ⟨r1, s1⟩ := r
            cases r1 with
            | some _ => cases e1
            | none => exact lcl_sim (L := L) (fun s y ρ hy hM => body s y ρ (List.mem_cons_of_mem _ hy) hM) q2
          | true =>
            simp only [if_true] at e1
            cases ef : fe ρ3 with
            | stuck => rw [ef] at e1; cases e1
            | exc _ _ _ => rw [ef] at e1; cases e1
            | ok h ρ4 =>
              rw [ef] at e1
              simp only [R.bind_ok] at e1
              cases etk : take ρ4 h with
              | none => rw [etk] at e1; cases e1
              | some p =>
                obtain ⟨a, ρ5⟩ := p
                rw [etk] at e1
                simp only [R.ok.injEq] at e1
                obtain ⟨e1, rfl⟩ := e1
                obtain ⟨r1, s1⟩ := r
                cases r1 with
                | none => cases e1
                | some y =>
                  simp only [Option.map_some, Option.some.injEq] at e1
                  subst e1
                  simp only [ef, etk, List.length_map]
                  by_cases hc : acc.length < lim
                  · simp only [if_pos hc]
                    have := lcl_sim (L := L) (acc := acc ++ [y]) (fun s y ρ hy hM => body s y ρ (List.mem_cons_of_mem _ hy) hM) q2
                    rw [List.map_append] at this
                    exact this
                  · simp only [if_neg hc]; trivial
def kLc (tg : Tg) (tt : M Bool) (fe : M Hd) (own : List Nat) (xs : List PV) : M Hd := fun ρ1 => match lcl tg tt fe own xs [] (wipeQ ρ1 own) with
  | .ok ys ρ2 => .ok (.tm (.lst .ow ys)) (restP ρ2 ρ1 own)
  | _ => .stuck
theorem x_lc {fi : M (List PV)} (k : Sim E Q ((fi ρ).bind fun xs ρ1 => (kLc tg tt fe own xs ρ1).bind KH) t) : Sim E Q ((eLc fi tg tt fe own ρ).bind KH) t := by
  unfold eLc; rw [R_bind_assoc]; exact k
theorem x_lcS {P : σ → List Sl} {e : ι → PV} {e' : γ → PV} {bd : σ → ι → TX (Option γ × σ)} {L : List ι} {s : σ} {T : List γ × σ → TX β} (h0 : Mat (P s) (wipeQ ρ own)) (body : ∀ s x ρ, x ∈ L → Mat (P s) ρ → Sim (fun _ => True) (lcQ P e' own) (lcb tg tt fe (e x) ρ) (bd s x))
    (k : ∀ ys s ρ2 ρ3, Mat (P s) ρ2 → restP ρ2 ρ own = ρ3 → Sim E Q (KH (.tm (kL .ow e' ys)) ρ3) (T (ys, s))) : Sim E Q ((kLc tg tt fe own (L.map e) ρ).bind KH) ((tlcS L s bd).bind T) := by
  have := lcl_sim (e' := e') (acc := []) body h0
  unfold tlcS
  cases et : tlc [] L s fun s x => nox (bd s x) with
  | no => trivial
  | ex c xs =>
    exfalso
    clear this k h0 body
    revert et
    generalize ([] : List γ) = acc
    intro et
    induction L generalizing acc s with
    | nil => cases et
    | cons x L ih =>
      unfold tlc at et
      cases eb : bd s x with
      | ok r =>
        rw [eb] at et
        obtain ⟨o, s1⟩ := r
        cases o with
        | none => exact ih _ et
        | some y =>
          simp only [nox_ok, TX.bind_ok] at et
          split at et
          · exact ih _ et
          · cases et
      | ex _ _ => rw [eb] at et; cases et
      | no => rw [eb] at et; cases et
  | ok r =>
    rw [et] at this
    obtain ⟨ys, ρ2, e1, e2, q⟩ := this
    simp only [List.map_nil] at e1
    unfold kLc
    rw [e1]
    subst e2
    exact k r.1 r.2 ρ2 _ q rfl
def lcQ0 (P : List Sl) (e : γ → PV) (own : List Nat) (r : Option γ) (o : Option PV) (ρ : List PV) : Prop := o = r.map e ∧ Mat P (wipeQ ρ own)
theorem x_lcP {P : List Sl} {e : ι → PV} {e' : γ → PV} {bd : ι → TX (Option γ)} {L : List ι} {T : List γ → TX β} (h0 : Mat P (wipeQ ρ own)) (body : ∀ x ρ, x ∈ L → Mat P ρ → Sim (fun _ => True) (lcQ0 P e' own) (lcb tg tt fe (e x) ρ) (bd x))
    (k : ∀ ys ρ2 ρ3, Mat P ρ2 → restP ρ2 ρ own = ρ3 → Sim E Q (KH (.tm (kL .ow e' ys)) ρ3) (T ys)) : Sim E Q ((kLc tg tt fe own (L.map e) ρ).bind KH) ((tlcP L bd).bind T) := by
  have := x_lcS (E := E) (Q := Q) (KH := KH) (P := fun _ : Unit => P) (e := e) (e' := e') (bd := fun _ x => (bd x).bind fun o => .ok (o, ())) (L := L) (s := ()) (T := fun r => T r.1) (tg := tg) (tt := tt) (fe := fe) h0 (fun s x ρ hx hM => by
    have b := body x ρ hx hM
    cases eb : bd x with
    | ok o => rw [eb] at b; obtain ⟨a, ρ1, e1, q⟩ := b; exact ⟨a, ρ1, e1, q⟩
    | ex c xs => rw [eb] at b; exact b
    | no => trivial) (fun ys s ρ2 ρ3 q e => k ys ρ2 ρ3 q e)
  have e2 : (tlcS L () fun (_ : Unit) x => (bd x).bind fun o => .ok (o, ())).bind (fun r => T r.1) = (tlcP L bd).bind T := by
    unfold tlcS tlcP
    rw [TX.bind_assoc]
    have : (fun (s : Unit) x => nox ((bd x).bind fun o => .ok (o, ()))) = fun (s : Unit) x => (nox (bd x)).bind fun o => .ok (o, ()) := by
      funext s x; cases bd x <;> rfl
    rw [this]
    rfl
  rw [e2] at this
  exact this
/-- a turn's parts -/
def kTk (h : Hd) : M (Option PV) := fun ρ3 => match take ρ3 h with
    | some (a, ρ4) => .ok (some a) ρ4
    | none => .stuck
theorem lc_tg {QO : β → Option PV → List PV → Prop} (h : tg x ρ = some ρ1) (k : Sim E QO ((tt ρ1).bind fun b ρ2 => if b = true then (fe ρ2).bind fun h ρ3 => kTk h ρ3 else .ok none ρ2) t) : Sim E QO (lcb tg tt fe x ρ) t := by unfold lcb; rw [h]; exact k
theorem lc_yes {QO : β → Option PV → List PV → Prop} (k : Sim E QO ((fe ρ).bind fun h ρ3 => kTk h ρ3) t) : Sim E QO (if true = true then (fe ρ).bind fun h ρ3 => kTk h ρ3 else .ok none ρ) t := k
theorem lc_tm {QO : β → Option PV → List PV → Prop} {r : β} (h : a.setFl .fz = b) (q : QO r (some b) ρ) : Sim E QO ((kTk (.tm a) ρ)) (.ok r) := by subst h; exact x_done q
theorem lc_sl {QO : β → Option PV → List PV → Prop} {r : β} (h : fzOf (nth ρ i) = some b) (q : QO r (some b) (ρ.set i b)) : Sim E QO ((kTk (.sl i) ρ)) (.ok r) := by simp only [kTk, take, h]; exact x_done q
theorem lc_fz {QO : β → Option PV → List PV → Prop} {r : β} (h : FzV b) (e : nth ρ i = b) (q : QO r (some b) ρ) : Sim E QO ((kTk (.sl i) ρ)) (.ok r) := by subst e; exact lc_sl (show fzOf _ = some _ from h) (by rw [set_nth]; exact q)
def kSub (h0 h1 : Hd) (K : M Fw) (h2 : Hd) : M Fw := fun ρ3 => match h1, take ρ3 h0 with
  | .sl j, some (a, ρ4) => (match nth ρ4 j, hv ρ4 h2 with
    | .lst .fz _, _ => .stuck
    | .lst o xs, .int k => (match L2.ixN xs.length k with
      | some m => K (ρ4.set j (.lst o (xs.set m a)))
      | none => .stuck)
    | _, _ => .stuck)
  | _, _ => .stuck
theorem s_sub (k : Sim E Qw ((fv ρ).bind fun h0 ρ1 => (fo ρ1).bind fun h1 ρ2 => (fi ρ2).bind (kSub h0 h1 K)) t) : Sim E Qw (sSeq (sSub fo fi fv) K ρ) t := by
  have : sSeq (sSub fo fi fv) K ρ = (fv ρ).bind fun h0 ρ1 => (fo ρ1).bind fun h1 ρ2 => (fi ρ2).bind (kSub h0 h1 K) := by
    show seqR ((fv ρ).bind _) K = _
    rw [seqR_bind]
    congr 1; funext h0 ρ1
    rw [seqR_bind]
    congr 1; funext h1 ρ2
    rw [seqR_bind]
    congr 1; funext h2 ρ3
    unfold kSub
    cases h1 with
    | tm a => rfl
    | sl j =>
      cases take ρ3 h0 with
      | none => rfl
      | some p =>
        obtain ⟨a, ρ4⟩ := p
        simp only
        cases nth ρ4 j with
        | lst o xs =>
          cases o with
          | fz => rfl
          | ow =>
            cases hv ρ4 h2 with
            | int k => simp only; cases L2.ixN xs.length k <;> rfl
            | _ => rfl
          | io =>
            cases hv ρ4 h2 with
            | int k => simp only; cases L2.ixN xs.length k <;> rfl
            | _ => rfl
        | _ => rfl
  rw [this]; exact k
theorem x_sub {o : Fl} {e : γ → PV} {xs : List γ} {v : γ} {k : Int} {T : List γ → TX β} (ht : take ρ h0 = some (e v, ρ1)) (hj : nth ρ1 j = kL o e xs) (ho : o ≠ .fz) (hi : hv ρ1 h2 = .int k) (kk : ∀ ys, Sim E Qw (K (ρ1.set j (kL o e ys))) (T ys)) : Sim E Qw (kSub h0 (.sl j) K h2 ρ) ((tset xs k v).bind T) := by
  unfold kSub tset
  simp only [ht, hj, hi]
  cases q : L2.ixN xs.length k with
  | none => trivial
  | some m =>
    have := kk (xs.set m v)
    unfold kL at this ⊢
    rw [List.map_set] at this
    cases o with
    | fz => exact absurd rfl ho
    | ow => simp only [List.length_map, q]; exact this
    | io => simp only [List.length_map, q]; exact this
theorem x_subQ2 {o : Fl} {e : γ → PV} {e' : δ → PV} {p : γ × δ} {v : γ} (ht : take ρ h0 = some (e v, ρ1)) (hj : nth ρ1 j = kQ2 o e e' p) (ho : o ≠ .fz) (hi : hv ρ1 h2 = .int 0) (kk : Sim E Qw (K (ρ1.set j (kQ2 o e e' (v, p.2)))) t) : Sim E Qw (kSub h0 (.sl j) K h2 ρ) t := by
  unfold kSub
  simp only [ht, hj, hi]
  unfold kQ2 at kk ⊢
  cases o with
  | fz => exact absurd rfl ho
  | ow => exact kk
  | io => exact kk
theorem x_subQ2' {o : Fl} {e : γ → PV} {e' : δ → PV} {p : γ × δ} {v : δ} (ht : take ρ h0 = some (e' v, ρ1)) (hj : nth ρ1 j = kQ2 o e e' p) (ho : o ≠ .fz) (hi : hv ρ1 h2 = .int 1) (kk : Sim E Qw (K (ρ1.set j (kQ2 o e e' (p.1, v)))) t) : Sim E Qw (kSub h0 (.sl j) K h2 ρ) t := by
  unfold kSub
  simp only [ht, hj, hi]
  unfold kQ2 at kk ⊢
  cases o with
  | fz => exact absurd rfl ho
  | ow => exact kk
  | io => exact kk
theorem take_tm (h : a.setFl .fz = b) : take ρ (.tm a) = some (b, ρ) := by subst h; rfl
theorem take_fz (h : FzV b) (e : nth ρ i = b) : take ρ (.sl i) = some (b, ρ) := by subst e; simp only [take, show fzOf _ = some _ from h, set_nth]
theorem x_mu {T : String} {op : PV → List PV → Option (PV × PV)} (k : Sim E Q ((fo ρ).bind fun h ρ1 => (if VL.kT (hv ρ1 h) = T then (fs ρ1).bind fun hs ρ2 => muEnd op h (takes hs ρ2) else .stuck).bind KH) t) : Sim E Q ((eMu T op fo fs ρ).bind KH) t := by
  unfold eMu; rw [R_bind_assoc]; exact k
theorem x_muL {o : Fl} {e : γ → PV} {xs : List γ} {op : PV → List PV → Option (PV × PV)} (hj : hv ρ h = kL o e xs) (k : Sim E Q ((fs ρ).bind fun hs ρ2 => (muEnd op h (takes hs ρ2)).bind KH) t) : Sim E Q ((if VL.kT (hv ρ h) = "list" then (fs ρ).bind fun hs ρ2 => muEnd op h (takes hs ρ2) else .stuck).bind KH) t := by
  rw [hj, if_pos (show VL.kT (kL o e xs) = "list" from rfl), R_bind_assoc]; exact k
theorem x_app {o : Fl} {e : γ → PV} {xs : List γ} {v : γ} {hs : List Hd} {T : List γ → TX β} (ht : Tks hs ρ [e v] ρ1) (hj : nth ρ1 j = kL o e xs) (ho : o ≠ .fz) (kk : ∀ ys, Sim E Q (KH (.tm .non) (ρ1.set j (kL o e ys))) (T ys)) : Sim E Q ((muEnd uAppend (.sl j) (takes hs ρ)).bind KH) ((tapp xs v).bind T) := by
  rw [ht.ok]
  unfold tapp
  by_cases hc : xs.length < lim
  · rw [if_pos hc]
    have := kk (xs ++ [v])
    unfold kL at this
    rw [List.map_append] at this
    simp only [muEnd, hj, kL, uAppend, if_neg ho, List.length_map, if_pos hc]
    exact this
  · rw [if_neg hc]; trivial
theorem x_pop1 {o : Fl} {e : γ → PV} {xs : List γ} {k : Int} {hs : List Hd} {T : γ × List γ → TX β} (ht : Tks hs ρ [.int k] ρ1) (hj : nth ρ1 j = kL o e xs) (ho : o ≠ .fz) (kk : ∀ y ys, Sim E Q (KH (.tm (e y)) (ρ1.set j (kL o e ys))) (T (y, ys))) : Sim E Q ((muEnd uPop1 (.sl j) (takes hs ρ)).bind KH) ((tpop xs k).bind T) := by
  rw [ht.ok]
  unfold tpop
  by_cases hc : k.natAbs ≤ lim
  · rw [if_pos hc]
    simp only [muEnd, hj, kL, uPop1, if_neg ho, List.length_map, if_pos hc]
    cases q : L2.ixN xs.length k with
    | none => trivial
    | some m =>
      simp only [List.getElem?_map, opt_some, TX.bind_ok]
      cases q2 : xs[m]? with
      | none => trivial
      | some y =>
        have := kk y (xs.eraseIdx m)
        unfold kL at this
        rw [← My.eraseIdx_map] at this
        exact this
  · rw [if_neg hc]; trivial
theorem x_ins {o : Fl} {e : γ → PV} {xs : List γ} {k : Int} {v : γ} {hs : List Hd} {T : List γ → TX β} (ht : Tks hs ρ [.int k, e v] ρ1) (hj : nth ρ1 j = kL o e xs) (ho : o ≠ .fz) (kk : ∀ ys, Sim E Q (KH (.tm .non) (ρ1.set j (kL o e ys))) (T ys)) : Sim E Q ((muEnd uInsert (.sl j) (takes hs ρ)).bind KH) ((tins xs k v).bind T) := by
  rw [ht.ok]
  unfold tins
  by_cases hc : xs.length < lim ∧ 0 ≤ k ∧ k < 2 ^ 63
  · rw [if_pos hc]
    have := kk (xs.take k.toNat ++ [v] ++ xs.drop k.toNat)
    unfold kL at this
    simp only [List.map_append, List.map_cons, List.map_nil, List.map_take, List.map_drop] at this
    simp only [muEnd, hj, kL, uInsert, if_neg ho, List.length_map, if_pos hc]
    exact this
  · rw [if_neg hc]; trivial
theorem x_ext {o o' : Fl} {e : γ → PV} {xs ys : List γ} {hs : List Hd} {T : List γ → TX β} (ht : Tks hs ρ [kL o' e ys] ρ1) (hj : nth ρ1 j = kL o e xs) (ho : o ≠ .fz) (kk : ∀ ys, Sim E Q (KH (.tm .non) (ρ1.set j (kL o e ys))) (T ys)) : Sim E Q ((muEnd uExtendA (.sl j) (takes hs ρ)).bind KH) ((tcat xs ys).bind T) := by
  rw [ht.ok]
  unfold tcat
  by_cases hc : xs.length + ys.length ≤ lim
  · rw [if_pos hc]
    have := kk (xs ++ ys)
    unfold kL at this
    rw [List.map_append] at this
    simp only [muEnd, hj, kL, uExtendA, if_neg ho, List.length_map, if_pos hc]
    exact this
  · rw [if_neg hc]; trivial
def FS (r : R PV) (m : TX γ) (v : γ → PV) (fin : γ → List PV) (fe : List PV → Prop) : Prop := match m with
  | .ok g => r = .ok (v g) (fin g)
  | .ex c xs => ∃ fn, r = .exc c xs fn ∧ fe fn
  | .no => True
theorem bk_nil {fin : List PV} : back ρ [] fin = ρ := rfl
theorem bk_tm {hs : List Hd} {fn : List PV} {z : PV} (r : back ρ hs fn = ρ1) : back ρ (.tm a :: hs) (z :: fn) = ρ1 := r
theorem bk_fz {hs : List Hd} {fn : List PV} {z : PV} (h : FzV a) (e : nth ρ i = a) (r : back ρ hs fn = ρ1) : back ρ (.sl i :: hs) (z :: fn) = ρ1 := by
  subst e
  simp only [back, h.own, Bool.false_eq_true, if_false]; exact r
def exitR (a : PV) : PV := if a.own = true then a.setFl .ow else a
theorem bk_ro {hs : List Hd} {fn : List PV} (he : a.isErr = false) (e : nth ρ i = a) (r : back ρ hs fn = ρ1) : back ρ (.sl i :: hs) (exitR a :: fn) = ρ1 := by
  subst e
  unfold exitR
  by_cases ho : (nth ρ i).own = true
  · have : PV.reFl (nth ρ i).fl ((nth ρ i).setFl .ow) = nth ρ i := by
      cases hn : nth ρ i with
      | lst o xs => cases o <;> simp [PV.reFl, PV.setFl, PV.own, PV.fl]
      | dK o _ xs => cases o <;> simp [PV.reFl, PV.setFl, PV.own, PV.fl]
      | dN o _ xs => cases o <;> simp [PV.reFl, PV.setFl, PV.own, PV.fl]
      | obj o _ xs => cases o <;> simp [PV.reFl, PV.setFl, PV.own, PV.fl]
      | err _ _ _ => rw [hn] at he; cases he
      | _ => rw [hn] at ho; cases ho
    simp only [back, ho, if_true, List.headD_cons, this, set_nth, List.tail_cons]; exact r
  · simp only [back, if_neg ho, List.tail_cons]; exact r
theorem bk_mut {hs : List Hd} {fn : List PV} {z z' : PV} (e : nth ρ i = a) (ho : a.own = true) (hz : PV.reFl a.fl z = z') (r : back (ρ.set i z') hs fn = ρ1) : back ρ (.sl i :: hs) (z :: fn) = ρ1 := by
  subst e; subst hz
  simp only [back, ho, if_true, List.headD_cons, List.tail_cons]; exact r
theorem kQ2_own {o : Fl} {e : γ → PV} {e' : δ → PV} {p : γ × δ} (ho : o ≠ .fz) : (kQ2 o e e' p).own = true := by cases o <;> first | rfl | exact absurd rfl ho
theorem x_call {F : List PV → R PV} (k : Sim E Q ((fs ρ).bind fun hs ρ1 => (callH F hs ρ1 fun a ρ3 => .ok (.tm a) ρ3).bind KH) t) : Sim E Q ((eCall F fs ρ).bind KH) t := by
  unfold eCall; rw [R_bind_assoc]; exact k
theorem x_callE {F : List PV → R PV} {hs : List Hd} {m : TX γ} {v : γ → PV} {fin : γ → List PV} {fe : List PV → Prop} {R' : γ → List PV} {T : γ → TX β} (ok : okArgs hs ρ = true) (hF : FS (F (hs.map (hv ρ))) m v fin fe) (bk : ∀ g, back ρ hs (fin g) = R' g) (ex : ∀ fn, fe fn → E (back ρ hs fn)) (k : ∀ g, m = .ok g → Sim E Q (KH (.tm (v g)) (R' g)) (T g)) : Sim E Q ((callH F hs ρ fun a ρ3 => .ok (.tm a) ρ3).bind KH) (m.bind T) := by
  unfold callH
  rw [if_pos ok]
  cases m with
  | ok g => have hF : _ = _ := hF; rw [hF]; simp only [R.bind_ok, bk]; exact k g rfl
  | ex c xs => obtain ⟨fn, e, q⟩ := hF; rw [e]; exact ⟨_, rfl, ex fn q⟩
  | no => trivial
theorem x_meth {cn : String} {F : List PV → R PV} (k : Sim E Q ((fo ρ).bind fun h ρ1 => (if isObj cn (hv ρ1 h) = true then (fs ρ1).bind fun hs ρ2 => callH F (h :: hs) ρ2 fun a ρ3 => .ok (.tm a) ρ3 else .stuck).bind KH) t) : Sim E Q ((eMeth cn F fo fs ρ).bind KH) t := by
  unfold eMeth; rw [R_bind_assoc]; exact k
theorem x_methO {cn : String} {F : List PV → R PV} (ho : isObj cn (hv ρ h) = true) (k : Sim E Q ((fs ρ).bind fun hs ρ2 => (callH F (h :: hs) ρ2 fun a ρ3 => .ok (.tm a) ρ3).bind KH) t) : Sim E Q ((if isObj cn (hv ρ h) = true then (fs ρ).bind fun hs ρ2 => callH F (h :: hs) ρ2 fun a ρ3 => .ok (.tm a) ρ3 else .stuck).bind KH) t := by
  rw [if_pos ho, R_bind_assoc]; exact k
def kProp (cn : String) (F : List PV → R PV) (h : Hd) : M Hd := fun ρ1 => if isObj cn (hv ρ1 h) = true then (match F [hv ρ1 h] with
    | .ok a fin => .ok (.tm a) (back ρ1 [h] fin)
    | _ => .stuck) else .stuck
theorem x_prop {cn : String} {F : List PV → R PV} (k : Sim E Q ((fo ρ).bind fun h ρ1 => (kProp cn F h ρ1).bind KH) t) : Sim E Q ((eProp cn F fo ρ).bind KH) t := by
  unfold eProp; rw [R_bind_assoc]; exact k
theorem x_propE {cn : String} {F : List PV → R PV} {m : TX γ} {v : γ → PV} {fin : γ → List PV} {fe : List PV → Prop} {R' : γ → List PV} {T : γ → TX β} (ho : isObj cn (hv ρ h) = true) (hF : FS (F [hv ρ h]) m v fin fe) (bk : ∀ g, back ρ [h] (fin g) = R' g) (k : ∀ g, m = .ok g → Sim E Q (KH (.tm (v g)) (R' g)) (T g)) : Sim E Q ((kProp cn F h ρ).bind KH) ((nox m).bind T) := by
  unfold kProp
  rw [if_pos ho]
  cases m with
  | ok g => have hF : _ = _ := hF; rw [hF]; simp only [R.bind_ok, bk]; exact k g rfl
  | ex c xs => trivial
  | no => trivial
def kMk (c : String) (imm : Bool) (F : List PV → R PV) (hs : List Hd) : M Hd := fun ρ1 => if okArgs hs ρ1 = true then (match F (.obj .io c [] :: hs.map (hv ρ1)) with
  | .ok .non (s :: fin) => .ok (.tm (if imm = true then s.setFl .fz else s)) (back ρ1 hs fin)
  | .exc c' xs (_ :: fin) => .exc c' xs (back ρ1 hs fin)
  | _ => .stuck) else .stuck
theorem x_make {cn : String} {imm : Bool} {F : List PV → R PV} (k : Sim E Q ((fs ρ).bind fun hs ρ1 => (kMk cn imm F hs ρ1).bind KH) t) : Sim E Q ((eMake cn imm F fs ρ).bind KH) t := by
  unfold eMake; rw [R_bind_assoc]; exact k
/-- the own object is the first of what is handed back -/
theorem x_makeE {cn : String} {imm : Bool} {F : List PV → R PV} {hs : List Hd} {m : TX γ} {v : γ → PV} {fin : γ → List PV} {fe : List PV → Prop} {R' : γ → List PV} {T : γ → TX β} (ok : okArgs hs ρ = true) (hF : FS (F (.obj .io cn [] :: hs.map (hv ρ))) m (fun _ => .non) (fun g => v g :: fin g) (fun fn => ∃ z fn', fn = z :: fn' ∧ fe fn')) (bk : ∀ g, back ρ hs (fin g) = R' g) (ex : ∀ fn, fe fn → E (back ρ hs fn)) {v' : γ → PV} (hv' : ∀ g, (if imm = true then (v g).setFl .fz else v g) = v' g) (k : ∀ g, m = .ok g → Sim E Q (KH (.tm (v' g)) (R' g)) (T g)) : Sim E Q ((kMk cn imm F hs ρ).bind KH) (m.bind T) := by
  unfold kMk
  rw [if_pos ok]
  cases m with
  | ok g => have hF : _ = _ := hF; rw [hF]; simp only [R.bind_ok, bk, hv']; exact k g rfl
  | ex c xs => obtain ⟨fn, e, z, fn', rfl, q⟩ := hF; rw [e]; exact ⟨_, rfl, ex fn' q⟩
  | no => trivial
def kRaise (cn : String) (ok : PV → Bool) (hs : List Hd) : M Fw := fun ρ1 => match takes hs ρ1 with
  | some ([a], ρ2) => if ok a = true then .exc cn [a] ρ2 else .stuck
  | _ => .stuck
theorem s_raise1 {cn : String} {ok : PV → Bool} (k : Sim E Qw ((fs ρ).bind fun hs ρ1 => (kRaise cn ok hs ρ1)) t) : Sim E Qw (sSeq (sRaise1 cn ok fs) K ρ) t := by
  have : sSeq (sRaise1 cn ok fs) K ρ = (fs ρ).bind fun hs ρ1 => (kRaise cn ok hs ρ1) := by
    show seqR ((fs ρ).bind _) K = _
    rw [seqR_bind]
    congr 1; funext hs ρ1
    unfold kRaise
    cases takes hs ρ1 with
    | none => rfl
    | some p =>
      obtain ⟨as, ρ2⟩ := p
      rcases as with _ | ⟨a, _ | ⟨b, as⟩⟩
      · rfl
      · by_cases hc : ok a = true <;> simp [hc, seqR]
      · rfl
  rw [this]; exact k
theorem x_raise1 {cn : String} {ok : PV → Bool} {hs : List Hd} (h : Tks hs ρ [a] ρ1) (he : E ρ1) : Sim E Qw (kRaise cn ok hs ρ) ((guard (ok a)).bind fun _ => .ex cn [a]) := by
  unfold kRaise
  rw [h.ok]
  cases hc : ok a with
  | false => trivial
  | true => simp only [hc, if_true]; exact ⟨ρ1, rfl, he⟩
def kAt (cn : String) (k' : Nat) (K : M Fw) (h0 h1 : Hd) : M Fw := fun ρ2 => match h1, take ρ2 h0 with
  | .sl j, some (a, ρ3) => (match nth ρ3 j with
    | .obj .fz _ _ => .stuck
    | .obj o c' xs => if c' = cn then (match putA xs k' a with
      | some ys => K (ρ3.set j (.obj o c' ys))
      | none => .stuck) else .stuck
    | _ => .stuck)
  | _, _ => .stuck
theorem s_at {cn : String} {k' : Nat} (k : Sim E Qw ((fv ρ).bind fun h0 ρ1 => (fo ρ1).bind fun h1 ρ2 => (kAt cn k' K h0 h1 ρ2)) t) : Sim E Qw (sSeq (sAt cn k' fo fv) K ρ) t := by
  have : sSeq (sAt cn k' fo fv) K ρ = (fv ρ).bind fun h0 ρ1 => (fo ρ1).bind fun h1 ρ2 => (kAt cn k' K h0 h1 ρ2) := by
    show seqR ((fv ρ).bind _) K = _
    rw [seqR_bind]
    congr 1; funext h0 ρ1
    rw [seqR_bind]
    congr 1; funext h1 ρ2
    unfold kAt
    cases h1 with
    | tm a => rfl
    | sl j =>
      cases take ρ2 h0 with
      | none => rfl
      | some p =>
        obtain ⟨a, ρ3⟩ := p
        simp only
        cases nth ρ3 j with
        | obj o c' xs =>
          cases o with
          | fz => rfl
          | ow =>
            by_cases hc : c' = cn
            · simp only [if_pos hc]
              cases putA xs k' a <;> rfl
            · simp only [if_neg hc]; rfl
          | io =>
            by_cases hc : c' = cn
            · simp only [if_pos hc]
              cases putA xs k' a <;> rfl
            · simp only [if_neg hc]; rfl
        | _ => rfl
  rw [this]; exact k
theorem x_at {cn : String} {k' : Nat} {xs ys : List PV} (ht : take ρ h0 = some (a, ρ1)) (hj : nth ρ1 j = .obj .io cn xs) (hp : putA xs k' a = some ys) (kk : Sim E Qw (K (ρ1.set j (.obj .io cn ys))) t) : Sim E Qw (kAt cn k' K h0 (.sl j) ρ) t := by
  simp only [kAt, ht, hj, if_true, hp]; exact kk
theorem ar_nil : ([] : List PV).map PV.toIo = [] := rfl
theorem ar_fz {as bs : List PV} (h : FzV a) (r : as.map PV.toIo = bs) : (a :: as).map PV.toIo = a :: bs := by rw [List.map_cons, h.toIo, r]
theorem ar_Q2m {o : Fl} {e : γ → PV} {e' : δ → PV} {p : γ × δ} {as bs : List PV} (ho : o ≠ .fz) (r : as.map PV.toIo = bs) : (kQ2 o e e' p :: as).map PV.toIo = kQ2 .io e e' p :: bs := by rw [List.map_cons, r]; cases o <;> first | rfl | exact absurd rfl ho
theorem ar_any {as bs : List PV} (h : a.toIo = b) (r : as.map PV.toIo = bs) : (a :: as).map PV.toIo = b :: bs := by rw [List.map_cons, h, r]
/-- what is handed back, place by place -/
def Ex (as : List PV) (k : Nat) (ρ fn : List PV) : Prop := exitF as (ρ.drop k) = fn
theorem ex_nil {k : Nat} : Ex [] k ρ [] := rfl
theorem nth_drop : ∀ (ρ : List PV) (k : Nat), (ρ.drop k).headD .emp = nth ρ k
  | [], k => by simp [nth]
  | x :: ρ, 0 => rfl
  | x :: ρ, k + 1 => by rw [List.drop_succ_cons, nth_drop ρ k]; rfl
theorem ex_step {as fn : List PV} {k : Nat} (r : Ex as (k + 1) ρ fn) : Ex (a :: as) k ρ (exit1 a (nth ρ k) :: fn) := by
  unfold Ex at r ⊢
  simp only [exitF]
  rw [nth_drop, ← r]
  congr 1
  rw [List.tail_drop]
theorem ex_fz {as fn : List PV} {k : Nat} (h : FzV a) (r : Ex as (k + 1) ρ fn) : Ex (a :: as) k ρ (a :: fn) := by
  have := ex_step (a := a) r
  unfold exit1 at this; rw [h.own] at this; exact this
theorem ex_ro {as fn : List PV} {k : Nat} (h : a.own = true → nth ρ k = a.toIo) (he : a.isErr = false) (r : Ex as (k + 1) ρ fn) : Ex (a :: as) k ρ (exitR a :: fn) := by
  have := ex_step (a := a) r
  have e : exit1 a (nth ρ k) = exitR a := by
    unfold exit1 exitR
    by_cases ho : a.own = true
    · rw [if_pos ho, if_pos ho, h ho]
      cases a with
      | lst o xs => cases o <;> first | rfl | cases ho
      | dK o _ xs => cases o <;> first | rfl | cases ho
      | dN o _ xs => cases o <;> first | rfl | cases ho
      | obj o _ xs => cases o <;> first | rfl | cases ho
      | err _ _ _ => cases he
      | _ => cases ho
    · rw [if_neg ho, if_neg ho]
  rw [e] at this; exact this
theorem ex_mut {as fn : List PV} {k : Nat} {z z' : PV} (ho : a.own = true) (h : nth ρ k = z) (hi : z.isIo = true) (hz : z.setFl .ow = z') (r : Ex as (k + 1) ρ fn) : Ex (a :: as) k ρ (z' :: fn) := by
  have := ex_step (a := a) r
  unfold exit1 at this; rw [if_pos ho, h, if_pos hi, hz] at this; exact this
theorem fs_run {np n : Nat} {W : M Fw} {args ρ0 ps : List PV} {m : TX γ} {v : γ → PV} {fin : γ → List PV} {fe : List PV → Prop} {rq : γ → PV → List PV → Prop} (hl : args.length = np) (hp : args.map PV.toIo = ps) (h0 : ps ++ List.replicate (n - np) .emp = ρ0) (h : Sim E (fnQ rq) (W ρ0) m)
    (hq : ∀ g w ρ, rq g w ρ → w = v g ∧ Ex args 0 ρ (fin g)) (hE : ∀ ρ, E ρ → ∃ fn, Ex args 0 ρ fn ∧ fe fn) : FS (runF np n W args) m v fin fe := by
  subst hp; subst h0
  unfold runF
  rw [if_pos hl]
  cases m with
  | ok g =>
    obtain ⟨a, ρ, e, w, hw, q⟩ := h
    obtain ⟨rfl, e2⟩ := hq g w ρ q
    unfold Ex at e2
    rw [List.drop_zero] at e2
    rw [e]
    rcases hw with rfl | ⟨rfl, hw⟩
    · simp only [FS, e2]
    · simp only [FS, e2, hw]
  | ex c xs =>
    obtain ⟨ρ, e, q⟩ := h
    obtain ⟨fn, e2, q2⟩ := hE ρ q
    unfold Ex at e2
    rw [List.drop_zero] at e2
    rw [e]
    exact ⟨_, rfl, by rw [e2]; exact q2⟩
  | no => trivial
theorem FS.ok {r : R PV} {m : TX γ} {v : γ → PV} {fin : γ → List PV} {fe : List PV → Prop} {g : γ} (h : FS r m v fin fe) (e : m = .ok g) : r = .ok (v g) (fin g) := by subst e; exact h
end
end VT
set_option Elab.async false
set_option linter.all false
set_option maxRecDepth 100000
namespace VT
open PySem PySem.Spec PyProof.Rows VL
section
variable {α β γ δ σ ι : Type} {E : List PV → Prop} {Q : β → α → List PV → Prop} {Qw : β → Fw → List PV → Prop} {ρ ρ1 ρ2 : List PV} {t : TX β} {KH : Hd → M α} {KT : Bool → M α} {KX : List PV → M α} {K : M Fw} {fa fb fc fe f fo fi fv : M Hd} {fs : M (List Hd)} {ta tb tt : M Bool} {A B : M Fw} {a b c x y : PV} {h h0 h1 h2 h3 : Hd} {i j : Nat} {op op' : PV → PV → Option PV} {u v : Bool}
theorem x_eq {r : R γ} {K : γ → M α} {g : γ} (h : r = .ok g ρ) (k : Sim E Q (K g ρ) t) : Sim E Q (r.bind K) t := by rw [h]; exact k
theorem e_N (h : (nth ρ i).isEmp = false) : eN i ρ = .ok (.sl i) ρ := by unfold eN; rw [h]; rfl
theorem e_Nf (h : FzV a) (e : nth ρ i = a) : eN i ρ = .ok (.sl i) ρ := by subst e; exact e_N h.emp
theorem e_C : eC a ρ = .ok (.tm a) ρ := rfl
theorem e_bin (ha : fa ρ = .ok h1 ρ) (hb : fb ρ = .ok h2 ρ) (ho : op (hv ρ h1) (hv ρ h2) = some c) : eBin op fa fb ρ = .ok (.tm c) ρ := by
  unfold eBin; rw [ha]; simp only [R.bind_ok, hb, ho, ofO]
theorem e_un {op : PV → Option PV} (ha : fa ρ = .ok h1 ρ) (ho : op (hv ρ h1) = some c) : eUn op fa ρ = .ok (.tm c) ρ := by
  unfold eUn; rw [ha]; simp only [R.bind_ok, ho, ofO]
theorem e_fn {op : List PV → Option PV} {hs : List Hd} (ha : fs ρ = .ok hs ρ) (ho : op (hs.map (hv ρ)) = some c) : eFn op fs ρ = .ok (.tm c) ρ := by
  unfold eFn; rw [ha]; simp only [R.bind_ok, ho, ofO]
theorem e_nil : aNil ρ = .ok [] ρ := rfl
theorem e_cons {hs : List Hd} (ha : fa ρ = .ok h1 ρ) (hs' : fs ρ = .ok hs ρ) : aCons fa fs ρ = .ok (h1 :: hs) ρ := by
  unfold aCons; rw [ha]; simp only [R.bind_ok, hs']
theorem e_tup {hs : List Hd} {as : List PV} (ha : fs ρ = .ok hs ρ) (ht : Tks hs ρ as ρ) (hl : as.length ≤ lim) (hc : PV.tup as = c) : eTup fs ρ = .ok (.tm c) ρ := by
  subst hc; unfold eTup; rw [ha]; simp only [R.bind_ok, ht.ok, if_pos hl]
theorem e_lst {hs : List Hd} {as : List PV} (ha : fs ρ = .ok hs ρ) (ht : Tks hs ρ as ρ) (hl : as.length ≤ lim) (hc : PV.lst .ow as = c) : eLst fs ρ = .ok (.tm c) ρ := by
  subst hc; unfold eLst; rw [ha]; simp only [R.bind_ok, ht.ok, if_pos hl]
theorem e_not (ha : fa ρ = .ok h1 ρ) (hb : blOf (hv ρ h1) = some u) : eNot fa ρ = .ok (.tm (.bl (!u))) ρ := by
  unfold eNot; rw [ha]; simp only [R.bind_ok, hb, ofB]
theorem e_and (ha : fa ρ = .ok h1 ρ) (hb : blOf (hv ρ h1) = some u) (hc : fb ρ = .ok (.tm (.bl v)) ρ) : eAnd fa fb ρ = .ok (.tm (.bl (u && v))) ρ := by
  unfold eAnd; rw [ha]; simp only [R.bind_ok, hb, ofB]; cases u <;> simp [hc]
theorem e_or (ha : fa ρ = .ok h1 ρ) (hb : blOf (hv ρ h1) = some u) (hc : fb ρ = .ok (.tm (.bl v)) ρ) : eOr fa fb ρ = .ok (.tm (.bl (u || v))) ρ := by
  unfold eOr; rw [ha]; simp only [R.bind_ok, hb, ofB]; cases u <;> simp [hc]
theorem e_ch (ha : fa ρ = .ok h1 ρ) (hb : fb ρ = .ok h2 ρ) (hc : fc ρ = .ok h3 ρ) (ho : op (hv ρ h1) (hv ρ h2) = some (.bl u)) (ho' : op' (hv ρ h2) (hv ρ h3) = some (.bl v)) : eCh op op' fa fb fc ρ = .ok (.tm (.bl (u && v))) ρ := by
  unfold eCh; rw [ha]; simp only [R.bind_ok, hb, ho, Option.bind_some, blOf, ofB]; cases u <;> simp [hc, ho', ofO]
theorem p_none : VL.part none ρ = .ok none ρ := rfl
theorem p_some {n : Int} (ha : fa ρ = .ok h1 ρ) (hb : hv ρ h1 = .int n) : VL.part (some fa) ρ = .ok (some n) ρ := by
  unfold VL.part; simp only [ha, R.bind_ok, hb]
theorem e_sl {fl fh : Option (M Hd)} {lo hi : Option Int} (ha : fa ρ = .ok h1 ρ) (hl : VL.part fl ρ = .ok lo ρ) (hh : VL.part fh ρ = .ok hi ρ) (ho : oCut (hv ρ h1) lo hi = some c) : eSl fa fl fh ρ = .ok (.tm c) ρ := by
  unfold eSl; rw [ha]; simp only [R.bind_ok, hl, hh, ho, ofO]
theorem t_tB (ha : fa ρ = .ok h1 ρ) (hb : blOf (hv ρ h1) = some u) : tB fa ρ = .ok u ρ := by
  unfold tB; rw [ha]; simp only [R.bind_ok, hb, ofB]
theorem t_tE (ha : fa ρ = .ok h1 ρ) (hb : tru (hv ρ h1) = some u) : tE fa ρ = .ok u ρ := by
  unfold tE; rw [ha]; simp only [R.bind_ok, hb, ofB]
theorem t_not (ha : ta ρ = .ok u ρ) : tNot ta ρ = .ok (!u) ρ := by unfold tNot; rw [ha]; rfl
theorem t_or (ha : ta ρ = .ok u ρ) (hb : tb ρ = .ok v ρ) : tOr ta tb ρ = .ok (u || v) ρ := by
  unfold tOr; rw [ha]; cases u <;> simp [hb]
def ePQ (ρ1 : List PV) (g : γ) (a : γ) (ρ : List PV) : Prop := a = g ∧ ρ = ρ1
theorem pq_done {g : γ} : Sim E (ePQ ρ) (.ok g ρ) (.ok g) := x_done ⟨rfl, rfl⟩
theorem x_pure {r : R γ} {K : γ → M α} {m : TX γ} {T : γ → TX β} (h1 : Sim E (ePQ ρ1) r m) (k : ∀ g, Sim E Q (K g ρ1) (T g)) : Sim E Q (r.bind K) (m.bind T) :=
  x_bind h1 fun g a ρ q => by obtain ⟨rfl, rfl⟩ := q; exact k a
theorem x_tAndP {m : TX Bool} {T : Bool → TX β} (h1 : Sim E (ePQ ρ) (tb ρ) m) (k : ∀ g, Sim E Q (KT g ρ) (T g)) : Sim E Q ((if u = true then tb ρ else .ok false ρ).bind KT) ((if u = true then m else .ok false).bind T) :=
  x_pure (x_ite h1 pq_done) k
theorem x_tOrP {m : TX Bool} {T : Bool → TX β} (h1 : Sim E (ePQ ρ) (tb ρ) m) (k : ∀ g, Sim E Q (KT g ρ) (T g)) : Sim E Q ((if u = true then .ok true ρ else tb ρ).bind KT) ((if u = true then .ok true else m).bind T) :=
  x_pure (x_ite pq_done h1) k
/-- a value by whatever head, nothing changed -/
def hQ (e : γ → PV) (ρ1 : List PV) (g : γ) (h : Hd) (ρ : List PV) : Prop := hv ρ1 h = e g ∧ ρ = ρ1
theorem hq_done {e : γ → PV} {g : γ} (q : hv ρ h = e g) : Sim E (hQ e ρ) (.ok h ρ) (.ok g) := x_done ⟨q, rfl⟩
theorem x_pureH {e : γ → PV} {r : R Hd} {m : TX γ} {T : γ → TX β} (h1 : Sim E (hQ e ρ1) r m) (k : ∀ g h, hv ρ1 h = e g → Sim E Q (KH h ρ1) (T g)) : Sim E Q (r.bind KH) (m.bind T) :=
  x_bind h1 fun g a ρ q => by obtain ⟨q, rfl⟩ := q; exact k g a q
theorem x_ifP {e : γ → PV} {m1 m2 : TX γ} {T : γ → TX β} (h1 : Sim E (hQ e ρ) (fa ρ) m1) (h2 : Sim E (hQ e ρ) (fb ρ) m2) (k : ∀ g h, hv ρ h = e g → Sim E Q (KH h ρ) (T g)) : Sim E Q ((if u = true then fa ρ else fb ρ).bind KH) ((if u = true then m1 else m2).bind T) :=
  x_pureH (x_ite h1 h2) k
/-- the rest twice -/
theorem x_dup {r1 r2 : R γ} {K : γ → M α} {t1 t2 : TX β} (h1 : Sim E Q (r1.bind K) t1) (h2 : Sim E Q (r2.bind K) t2) : Sim E Q ((if u = true then r1 else r2).bind K) (if u = true then t1 else t2) := by
  cases u
  · exact h2
  · exact h1
theorem Tks.hd {hs : List Hd} {as : List PV} (hf : FzV b) (e : hv ρ h = b) (r : Tks hs ρ as ρ1) : Tks (h :: hs) ρ (b :: as) ρ1 := by
  cases h with
  | sl i => exact .fz hf e r
  | tm a => exact .tm (by rw [show a = b from e]; exact hf.set) r
theorem take_v (hf : FzV b) (e : hv ρ h = b) : take ρ h = some (b, ρ) := by
  cases h with
  | sl i => exact take_fz hf e
  | tm a => rw [show a = b from e]; exact take_tm hf.set
theorem lc_v {QO : β → Option PV → List PV → Prop} {r : β} (hf : FzV b) (e : hv ρ h = b) (q : QO r (some b) ρ) : Sim E QO ((kTk h ρ)) (.ok r) := by unfold kTk; rw [take_v hf e]; exact x_done q
theorem x_opt {o : Option γ} {r : R α} {T : γ → TX β} (k : ∀ g, o = some g → Sim E Q r (T g)) : Sim E Q r ((opt o).bind T) := by
  cases o with
  | none => trivial
  | some g => exact k g rfl
theorem x_callR {F : List PV → R PV} {hs : List Hd} {m : TX γ} {v : γ → PV} {f0 : List PV} {T : γ → TX β} (ok : okArgs hs ρ = true) (hF : FS (F (hs.map (hv ρ))) m v (fun _ => f0) (fun fn => fn = f0)) (bk : back ρ hs f0 = ρ) (ex : E ρ) (k : ∀ g, Sim E Q (KH (.tm (v g)) ρ) (T g)) : Sim E Q ((callH F hs ρ fun a ρ3 => .ok (.tm a) ρ3).bind KH) (m.bind T) :=
  x_callE ok hF (fun _ => bk) (fun fn e => by rw [show fn = f0 from e, bk]; exact ex) fun g _ => k g
theorem x_propR {cn : String} {F : List PV → R PV} {m : TX γ} {v : γ → PV} {f0 : List PV} {T : γ → TX β} (ho : isObj cn (hv ρ h) = true) (hF : FS (F [hv ρ h]) m v (fun _ => f0) (fun fn => fn = f0)) (bk : back ρ [h] f0 = ρ) (k : ∀ g, Sim E Q (KH (.tm (v g)) ρ) (T g)) : Sim E Q ((kProp cn F h ρ).bind KH) ((nox m).bind T) :=
  x_propE ho hF (fun _ => bk) fun g _ => k g
theorem os_ix {e : γ → PV} {o : Fl} {xs : List γ} {k : Int} (ha : hv ρ h1 = kL o e xs) (hb : hv ρ h2 = .int k) : OS1 (oIx (hv ρ h1) (hv ρ h2)) (tix xs k) e := by
  intro g hg
  rw [ha, hb]
  unfold tix at hg
  simp only [kL, oIx, L2.atI, List.length_map, List.getElem?_map] at hg ⊢
  cases q : L2.ixN xs.length k with
  | none => rw [q] at hg; cases hg
  | some m =>
    rw [q] at hg
    simp only [Option.bind_some] at hg ⊢
    cases q2 : xs[m]? with
    | none => rw [q2] at hg; cases hg
    | some z => rw [q2] at hg; cases hg; rfl
theorem os_ixT {e : γ → PV} {xs : List γ} {k : Int} (ha : hv ρ h1 = kT e xs) (hb : hv ρ h2 = .int k) : OS1 (oIx (hv ρ h1) (hv ρ h2)) (tix xs k) e := by
  have := os_ix (ρ := [kL .ow e xs, .int k]) (h1 := .sl 0) (h2 := .sl 1) (e := e) (xs := xs) (k := k) rfl rfl
  rw [ha, hb]; exact this
theorem os_ixS {xs : List Int} {k : Int} (ha : hv ρ h1 = .scr xs) (hb : hv ρ h2 = .int k) : OS1 (oIx (hv ρ h1) (hv ρ h2)) (tix xs k) PV.int := by
  intro g hg
  rw [ha, hb]
  unfold tix at hg
  simp only [oIx]
  cases q : L2.atI xs k with
  | none => rw [q] at hg; cases hg
  | some z => rw [q] at hg; cases hg; rfl
theorem nx_ix {xs : List γ} {k : Int} : NoEx (tix xs k) := by intro c ys h; unfold tix at h; cases q : L2.atI xs k <;> rw [q] at h <;> cases h
theorem os_mul {x y : Int} (ha : hv ρ h1 = .int x) (hb : hv ρ h2 = .int y) : OS1 (oMul (hv ρ h1) (hv ρ h2)) (tmul x y) PV.int := by
  intro g hg; rw [ha, hb]; unfold tmul at hg; simp only [oMul]
  by_cases hc : cMul x y = true
  · rw [if_pos hc] at hg ⊢; cases hg; rfl
  · rw [if_neg hc] at hg; cases hg
theorem nx_mul {x y : Int} : NoEx (tmul x y) := by intro c ys h; unfold tmul at h; split at h <;> cases h
theorem os_div {x y : Int} (ha : hv ρ h1 = .int x) (hb : hv ρ h2 = .int y) : OS1 (oDiv (hv ρ h1) (hv ρ h2)) (tdiv x y) PV.int := by
  intro g hg; rw [ha, hb]; unfold tdiv at hg; simp only [oDiv, oI]
  by_cases hc : 0 < y ∧ y < wide
  · rw [if_pos hc] at hg; rw [if_pos (by simpa using hc)]; cases hg; rfl
  · rw [if_neg hc] at hg; cases hg
theorem nx_div {x y : Int} : NoEx (tdiv x y) := by intro c ys h; unfold tdiv at h; split at h <;> cases h
theorem os_mod {x y : Int} (ha : hv ρ h1 = .int x) (hb : hv ρ h2 = .int y) : OS1 (oMod (hv ρ h1) (hv ρ h2)) (tmod x y) PV.int := by
  intro g hg; rw [ha, hb]; unfold tmod at hg; simp only [oMod, oI]
  by_cases hc : 0 < y
  · rw [if_pos hc] at hg; rw [if_pos (by simpa using hc)]; cases hg; rfl
  · rw [if_neg hc] at hg; cases hg
theorem nx_mod {x y : Int} : NoEx (tmod x y) := by intro c ys h; unfold tmod at h; split at h <;> cases h
theorem os_catL {e : γ → PV} {o o' : Fl} {xs ys : List γ} (ha : hv ρ h1 = kL o e xs) (hb : hv ρ h2 = kL o' e ys) : OS1 (oAdd (hv ρ h1) (hv ρ h2)) (tcat xs ys) (kL .ow e) := by
  intro g hg; rw [ha, hb]; unfold tcat at hg; simp only [oAdd, kL, List.length_map]
  by_cases hc : xs.length + ys.length ≤ lim
  · rw [if_pos hc] at hg ⊢; cases hg; simp
  · rw [if_neg hc] at hg; cases hg
theorem os_catT {e : γ → PV} {xs ys : List γ} (ha : hv ρ h1 = kT e xs) (hb : hv ρ h2 = kT e ys) : OS1 (oAdd (hv ρ h1) (hv ρ h2)) (tcat xs ys) (kT e) := by
  intro g hg; rw [ha, hb]; unfold tcat at hg; simp only [oAdd, kT, List.length_map]
  by_cases hc : xs.length + ys.length ≤ lim
  · rw [if_pos hc] at hg ⊢; cases hg; simp
  · rw [if_neg hc] at hg; cases hg
theorem nx_cat {xs ys : List γ} : NoEx (tcat xs ys) := by intro c zs h; unfold tcat at h; split at h <;> cases h
theorem cut_L {e : γ → PV} {o : Fl} {xs : List γ} {lo hi : Option Int} : oCut (kL o e xs) lo hi = some (kL .ow e (tcut xs lo hi)) := by
  simp only [kL, oCut, cutL, tcut, List.length_map, List.map_take, List.map_drop]
theorem len_L {e : γ → PV} {o : Fl} {xs : List γ} : oLen [kL o e xs] = some (.int (xs.length : Nat)) := by simp only [kL, oLen, List.length_map]
theorem len_T {e : γ → PV} {xs : List γ} : oLen [kT e xs] = some (.int (xs.length : Nat)) := by simp only [kT, oLen, List.length_map]
theorem tru_T {e : γ → PV} {xs : List γ} : tru (kT e xs) = some (!xs.isEmpty) := by cases xs <;> rfl
theorem at_ok {cn : String} {k : Nat} {o : Fl} {xs : List PV} (hx : xs[k]? = some c) : oAt cn k (.obj o cn xs) = some c := by simp only [oAt, if_true, hx]
theorem isObj_ok {cn : String} {o : Fl} {xs : List PV} : isObj cn (.obj o cn xs) = true := by simp [isObj]
end
end VT
set_option Elab.async false
set_option linter.all false
set_option maxRecDepth 100000
namespace VT
open PySem PySem.Spec PyProof.Rows VL
section
variable {α β γ δ σ ι : Type} {E : List PV → Prop} {Q : β → α → List PV → Prop} {Qw : β → Fw → List PV → Prop} {ρ ρ1 ρ2 : List PV} {t : TX β} {KH : Hd → M α} {KT : Bool → M α} {KX : List PV → M α} {K : M Fw} {fa fb fc fe f fo fi fv : M Hd} {fs : M (List Hd)} {ta tb tt : M Bool} {A B : M Fw} {a b c x y : PV} {h h0 h1 h2 h3 : Hd} {i j : Nat} {op op' : PV → PV → Option PV} {u v : Bool}
theorem s_rho {W : M Fw} (e : ρ = ρ1) (k : Sim E Qw (W ρ1) t) : Sim E Qw (W ρ) t := by subst e; exact k
theorem ret_sl (e : nth ρ j = a) (hi : a.isIo = false) (k : Sim E Qw (.ok (.rt a) (ρ.set j .emp)) t) : Sim E Qw (kRet (.sl j) ρ) t := by
  subst e; simp only [kRet, hi, Bool.false_eq_true, if_false]; exact k
theorem eqD (e e' : γ → PV) {n m : Nat} [DecidableEq γ] [DE e e'] [Dp e n] [Dp e' m] (a b : γ) (hn : n ≤ 64 := by decide) (hm : m ≤ 64 := by decide) : oEq false (e a) (e' b) = some (.bl (teq a b)) := eq_D hn hm a b
theorem neD (e e' : γ → PV) {n m : Nat} [DecidableEq γ] [DE e e'] [Dp e n] [Dp e' m] (a b : γ) (hn : n ≤ 64 := by decide) (hm : m ≤ 64 := by decide) : oEq true (e a) (e' b) = some (.bl (!teq a b)) := ne_D hn hm a b
theorem isN (e : γ → PV) [NN e] (a : Option γ) : oIs false (kO e a) .non = some (.bl a.isNone) := by rw [is_O]; simp
theorem isnN (e : γ → PV) [NN e] (a : Option γ) : oIs true (kO e a) .non = some (.bl a.isSome) := by rw [is_O]; cases a <;> rfl
theorem inLs (e e' : γ → PV) {o : Fl} [DecidableEq γ] [DE e e'] [Flt e] [Flt e'] (x : γ) (xs : List γ) : oIn false (e' x) (kL o e xs) = some (.bl (tmem x xs)) := by rw [in_L]; simp [tmem]
theorem ninLs (e e' : γ → PV) {o : Fl} [DecidableEq γ] [DE e e'] [Flt e] [Flt e'] (x : γ) (xs : List γ) : oIn true (e' x) (kL o e xs) = some (.bl (!tmem x xs)) := by rw [in_L]; simp [tmem]
theorem inTs (e e' : γ → PV) [DecidableEq γ] [DE e e'] [Flt e] [Flt e'] (x : γ) (xs : List γ) : oIn false (e' x) (kT e xs) = some (.bl (tmem x xs)) := by rw [in_T]; simp [tmem]
theorem ninTs (e e' : γ → PV) [DecidableEq γ] [DE e e'] [Flt e] [Flt e'] (x : γ) (xs : List γ) : oIn true (e' x) (kT e xs) = some (.bl (!tmem x xs)) := by rw [in_T]; simp [tmem]
theorem mulL {x y : Int} (ha : a = .int x) (hb : b = .int y) (h1 : -(2 ^ 64) < x) (h2 : x < 2 ^ 64) : oMul a b = some (.int (x * y)) := by
  subst ha; subst hb; simp only [oMul, cm_l h1 h2, if_true]
theorem divC {x y : Int} (ha : a = .int x) (hb : b = .int y) (h : 0 < y ∧ y < 1073741824) : oDiv a b = some (.int (x / y)) := by
  subst ha; subst hb; simp only [oDiv, oI]; rw [if_pos (decide_eq_true ⟨h.1, wide_30 h.2⟩)]
theorem modC {x y : Int} (ha : a = .int x) (hb : b = .int y) (h : 0 < y) : oMod a b = some (.int (x % y)) := by
  subst ha; subst hb; simp only [oMod, oI]; rw [if_pos (by simpa using h)]
theorem powC {x y z : Int} (ha : a = .int x) (hb : b = .int y) (h : 0 ≤ y ∧ y ≤ 1000000 ∧ x.natAbs < 2 ^ 64) (hz : x ^ y.toNat = z) : oPow a b = some (.int z) := by
  subst ha; subst hb; subst hz; simp only [oPow, oI]; rw [if_pos (by simpa using h)]
theorem isi {s n : String} (h : tyN a = s) (hs : s ≠ "") (hk : L2.kitB s n = some u) : oIsi [a, .ty n] = some (.bl u) := by
  subst h; simp only [oIsi, if_neg hs, hk, Option.map_some]
theorem ok_nil : okArgs [] ρ = true := rfl
theorem ok_tm {hs : List Hd} (r : okArgs hs ρ = true) : okArgs (.tm a :: hs) ρ = true := r
theorem ok_fz {hs : List Hd} (h : FzV a) (e : nth ρ i = a) (r : okArgs hs ρ = true) : okArgs (.sl i :: hs) ρ = true := by
  subst e; simp only [okArgs, h.own, r]; rfl
theorem ok_own {hs : List Hd} (h : hs.any (isSl i) = false) (r : okArgs hs ρ = true) : okArgs (.sl i :: hs) ρ = true := by
  simp only [okArgs, h, r]; simp
theorem wh_for {P : σ → List Sl} {rq : γ → PV → List PV → Prop} {c : M Bool} {g : M Fw} {cd : σ → TX Bool} {bd : σ → TX (Go σ γ)} (test : ∀ s ρ, Mat (P s) ρ → Sim E (fun b b' ρ' => b' = b ∧ Mat (P s) ρ') (c ρ) (cd s)) (body : ∀ s ρ, Mat (P s) ρ → Sim E (goQ P rq) (g ρ) (bd s)) : ∀ (n : Nat) {s : σ} {ρ : List PV}, Mat (P s) ρ → Sim E (jgQ P rq) (wh c g n ρ) (twh n s cd bd)
  | 0, _, _, _ => trivial
  | n + 1, s, ρ, h => by
    have t := test s ρ h
    unfold wh twh
    cases ec : cd s with
    | no => trivial
    | ex cn xs => rw [ec] at t; obtain ⟨ρ1, e1, q⟩ := t; rw [e1]; exact ⟨ρ1, rfl, q⟩
    | ok b =>
      rw [ec] at t
      obtain ⟨b', ρ1, e1, rfl, q⟩ := t
      rw [e1]
      simp only [R.bind_ok, TX.bind_ok]
      cases b' with
      | false => exact ⟨.nx, ρ1, rfl, rfl, q⟩
      | true =>
        simp only [if_true]
        have b := body s ρ1 q
        cases eb : bd s with
        | no => trivial
        | ex cn xs => rw [eb] at b; obtain ⟨ρ2, e2, q⟩ := b; rw [e2]; exact ⟨ρ2, rfl, q⟩
        | ok g' =>
          rw [eb] at b
          obtain ⟨a, ρ2, e2, q1⟩ := b
          rw [e2]
          cases g' with
          | nx s1 =>
            obtain ⟨q1, q2⟩ := q1
            have := wh_for test body n q2
            rcases q1 with rfl | rfl <;> exact this
          | bk s1 => obtain ⟨rfl, q2⟩ := q1; exact ⟨.nx, ρ2, rfl, rfl, q2⟩
          | rt b => obtain ⟨v, rfl, q2⟩ := q1; exact ⟨.rt v, ρ2, rfl, v, rfl, q2⟩
theorem x_wh {P : σ → List Sl} {rq : γ → PV → List PV → Prop} {c : M Bool} {g : M Fw} {cd : σ → TX Bool} {bd : σ → TX (Go σ γ)} {n : Nat} {s : σ} {f0 : σ → TX β} {r0 : γ → TX β} (h0 : Mat (P s) ρ) (test : ∀ s ρ, Mat (P s) ρ → Sim E (fun b b' ρ' => b' = b ∧ Mat (P s) ρ') (c ρ) (cd s)) (body : ∀ s ρ, Mat (P s) ρ → Sim E (goQ P rq) (g ρ) (bd s)) (h2 : ∀ s ρ1, Mat (P s) ρ1 → Sim E Qw (K ρ1) (f0 s)) (h3 : ∀ b v ρ1, rq b v ρ1 → Sim E Qw (.ok (.rt v) ρ1) (r0 b)) : Sim E Qw (sSeq (sWh n c g) K ρ) ((twh n s cd bd).bind (Go.elim f0 r0)) := s_joinG (A := sWh n c g) (wh_for test body n h0) h2 h3
end
end VT
set_option Elab.async false
set_option linter.all false
set_option maxRecDepth 100000
namespace VT
open PySem PySem.Spec PyProof.Rows VL
def mp {α : Type} (F : List PV → List PV) : R α → R α
  | .ok a ρ => .ok a (F ρ)
  | .exc c xs ρ => .exc c xs (F ρ)
  | .stuck => .stuck
section
variable {i j : Nat} {c : String} {xs : List PV} {α β : Type}
/-- the family f, with the error in slot i, is worth g without it -/
def DI (i : Nat) (c : String) (xs : List PV) (N : α → Prop) (f : Option Addr → M α) (g : M α) : Prop :=
  ∀ σ d, nth σ i = .emp → f d (σ.set i (.err d c xs)) = mp (fun ρ => ρ.set i (.err d c xs)) (g σ) ∧ ∀ a ρ, g σ = .ok a ρ → N a ∧ nth ρ i = .emp
theorem DI.bind {N : α → Prop} {N' : β → Prop} {f : Option Addr → M α} {g : M α} {k : Option Addr → α → M β} {l : α → M β} (h : DI i c xs N f g) (hk : ∀ a, N a → DI i c xs N' (fun d => k d a) (l a)) : DI i c xs N' (fun d ρ => (f d ρ).bind (k d)) (fun ρ => (g ρ).bind l) := by
  intro σ d e
  obtain ⟨h1, h2⟩ := h σ d e
  simp only [h1]
  cases q : g σ with
  | ok a ρ =>
    obtain ⟨n, e2⟩ := h2 a ρ q
    obtain ⟨h3, h4⟩ := hk a n ρ d e2
    exact ⟨by simp only [mp, R.bind_ok]; exact h3, fun b ρ' q' => h4 b ρ' (by simpa using q')⟩
  | exc c' ys ρ => exact ⟨rfl, fun _ _ z => by cases z⟩
  | stuck => exact ⟨rfl, fun _ _ z => by cases z⟩
theorem DI.ok {N : α → Prop} {a : α} (n : N a) : DI i c xs N (fun _ ρ => .ok a ρ) (fun ρ => .ok a ρ) := fun σ d e => ⟨rfl, fun b ρ z => by cases z; exact ⟨n, e⟩⟩
theorem DI.stuck {N : α → Prop} : DI i c xs N (fun _ _ => .stuck) (fun _ => .stuck) := fun σ d e => ⟨rfl, fun b ρ z => by cases z⟩
theorem DI.of {N : α → Prop} {F : List PV → Option α} {o : PV → PV} (hF : ∀ σ d, F (σ.set i (.err d c xs)) = F σ) (n : ∀ σ a, F σ = some a → N a) : DI i c xs N (fun _ ρ => match F ρ with | some a => .ok a ρ | none => .stuck) (fun ρ => match F ρ with | some a => .ok a ρ | none => .stuck) := by
  intro σ d e
  simp only [hF]
  cases q : F σ with
  | some a => exact ⟨rfl, fun b ρ z => by cases z; exact ⟨n σ _ q, e⟩⟩
  | none => exact ⟨rfl, fun b ρ z => by cases z⟩
end
section
variable {β γ : Type} {E : List PV → Prop} {Q : β → Fw → List PV → Prop} {ρ : List PV} {i : Nat} {c : String} {xs : List PV} {t : TX β}
/-- try: m; what it raises is handed to h -/
def ttry {α β : Type} (m : TX α) (k : α → TX β) (h : String → List PV → TX β) : TX β := match m with
  | .ok a => k a
  | .ex c xs => h c xs
  | .no => .no
@[simp] theorem ttry_ok {α β : Type} (a : α) (k : α → TX β) (h : String → List PV → TX β) : ttry (.ok a) k h = k a := rfl
@[simp] theorem ttry_ex {α β : Type} (c : String) (xs : List PV) (k : α → TX β) (h : String → List PV → TX β) : ttry (.ex c xs : TX α) k h = h c xs := rfl
/-- a decoder: what a value is, if it is of that kind -/
class Dc {α : Type} (e : α → PV) where
  dc : PV → Option α
  ok : ∀ p a, dc p = some a → p = e a
  re : ∀ a, dc (e a) = some a
def dcI : PV → Option Int | .int i => some i | _ => none
def dcB : PV → Option Bool | .bl i => some i | _ => none
def dcU : PV → Option Unit | .non => some () | _ => none
def dcS : PV → Option OS | .str s => if h : PyData.strOk s = true then some ⟨s, h⟩ else none | _ => none
def dcO {α : Type} (d : PV → Option α) : PV → Option (Option α) | .non => some none | p => (d p).map some
instance : Dc PV.int := ⟨dcI, fun p a h => (by cases p <;> cases h; rfl), fun _ => rfl⟩
instance : Dc PV.bl := ⟨dcB, fun p a h => (by cases p <;> cases h; rfl), fun _ => rfl⟩
instance : Dc kU := ⟨dcU, fun p a h => (by cases p <;> cases h; rfl), fun _ => rfl⟩
instance : Dc kS := ⟨dcS, fun p a h => (by
  cases p with
  | str s =>
    unfold dcS at h
    by_cases hc : PyData.strOk s = true
    · simp only [dif_pos hc] at h; cases h; rfl
    · simp only [dif_neg hc] at h; cases h
  | _ => cases h), fun a => by unfold dcS kS; simp only [dif_pos a.2]⟩
instance {α : Type} {e : α → PV} [Dc e] [NN e] : Dc (kO e) := ⟨dcO (Dc.dc e), fun p a h => (by
  cases p with
  | non => cases h; rfl
  | _ =>
    simp only [dcO] at h
    obtain ⟨b, hb, rfl⟩ := Option.map_eq_some_iff.mp h
    exact Dc.ok (e := e) _ _ hb), fun a => (by
  cases a with
  | none => rfl
  | some a =>
    have h1 := Dc.re (e := e) a
    have h2 := NN.nn (e := e) a false
    show dcO (Dc.dc e) (e a) = _
    cases q : e a with
    | non => rw [q] at h2; cases h2
    | _ => simp only [dcO, ← q, h1, Option.map_some])⟩
def dcs {α : Type} (d : PV → Option α) : List PV → Option (List α)
  | [] => some []
  | p :: ps => match d p, dcs d ps with
    | some a, some as => some (a :: as)
    | _, _ => none
theorem dcs_ok {α : Type} {e : α → PV} [Dc e] : ∀ (ps : List PV) (as : List α), dcs (Dc.dc e) ps = some as → ps = as.map e
  | [], as, h => by cases h; rfl
  | p :: ps, as, h => by
    simp only [dcs] at h
    cases q1 : Dc.dc e p with
    | none => rw [q1] at h; cases h
    | some a =>
      cases q2 : dcs (Dc.dc e) ps with
      | none => rw [q1, q2] at h; cases h
      | some bs => rw [q1, q2] at h; cases h; rw [List.map_cons, ← Dc.ok p a q1, ← dcs_ok ps bs q2]
theorem dcs_re {α : Type} {e : α → PV} [Dc e] : ∀ as : List α, dcs (Dc.dc e) (as.map e) = some as
  | [] => rfl
  | a :: as => by simp only [List.map_cons, dcs, Dc.re, dcs_re as]
def dcT {α : Type} (d : PV → Option α) : PV → Option (List α) | .tup ps => dcs d ps | _ => none
def dcL {α : Type} (d : PV → Option α) : PV → Option (List α) | .lst .fz ps => dcs d ps | _ => none
instance {α : Type} {e : α → PV} [Dc e] : Dc (kT e) := ⟨dcT (Dc.dc e), fun p as h => (by
  cases p with
  | tup ps => unfold kT; rw [dcs_ok _ _ h]
  | _ => cases h), fun as => dcs_re as⟩
instance {α : Type} {e : α → PV} [Dc e] : Dc (kL .fz e) := ⟨dcL (Dc.dc e), fun p as h => (by
  cases p with
  | lst o ps =>
    cases o with
    | fz => unfold kL; rw [dcs_ok _ _ h]
    | _ => cases h
  | _ => cases h), fun as => dcs_re as⟩
end
end VT
namespace VT
open PySem PySem.Spec PyProof.Rows VL
end VT
set_option Elab.async false
set_option linter.all false
set_option maxRecDepth 100000
namespace VT
open PySem PySem.Spec PyProof.Rows VL
section
variable {α β γ δ : Type}
def kX (e : α → PV) (f : β → PV) : α ⊕ β → PV
  | .inl a => e a
  | .inr b => f b
instance {e : α → PV} {f : β → PV} [Fz e] [Fz f] : Fz (kX e f) := ⟨fun a => by cases a with
  | inl a => exact Fz.fz (e := e) a
  | inr a => exact Fz.fz (e := f) a⟩
instance {e : α → PV} {f : β → PV} [NN e] [NN f] : NN (kX e f) := ⟨fun a n => (by cases a with
  | inl a => exact NN.nn (e := e) a n
  | inr a => exact NN.nn (e := f) a n), fun a => (by cases a with
  | inl a => exact NN.nd (e := e) a
  | inr a => exact NN.nd (e := f) a)⟩
instance {e : α → PV} {f : β → PV} [Flt e] [Flt f] : Flt (kX e f) := ⟨fun a => by cases a with
  | inl a => exact Flt.fl (e := e) a
  | inr a => exact Flt.fl (e := f) a⟩
instance {e : α → PV} {f : β → PV} {n m : Nat} [Dp e n] [Dp f m] : Dp (kX e f) (max n m) := ⟨fun a => by
  cases a with
  | inl a => exact Nat.le_trans (Dp.dp (e := e) a) (Nat.le_max_left ..)
  | inr a => exact Nat.le_trans (Dp.dp (e := f) a) (Nat.le_max_right ..), fun a => by cases a with
  | inl a => exact Dp.cl (e := e) a
  | inr a => exact Dp.cl (e := f) a⟩
def kindD : PyData → Nat
  | .none => 0
  | .bool _ | .int _ => 1
  | .str _ => 2
  | .list _ => 3
  | .tuple _ => 4
  | .dict _ => 5
theorem eqv_kind {a b : PyData} (h : kindD a ≠ kindD b) : PyData.eqv a b = false := by
  cases a <;> cases b <;> first | exact absurd rfl h | simp [PyData.eqv]
class Kd (e : α → PV) (k : outParam Nat) : Prop where
  kd : ∀ a, kindD (dat (e a)) = k
instance : Kd PV.int 1 := ⟨fun _ => by simp [dat, kindD]⟩
instance : Kd PV.bl 1 := ⟨fun _ => by simp [dat, kindD]⟩
instance : Kd kS 2 := ⟨fun _ => by simp [kS, dat, kindD]⟩
instance : Kd kU 0 := ⟨fun _ => by simp [kU, dat, kindD]⟩
instance {e : α → PV} : Kd (kT e) 4 := ⟨fun _ => by simp [kT, dat, kindD]⟩
instance {o : Fl} {e : α → PV} : Kd (kL o e) 3 := ⟨fun _ => by simp [kL, dat, kindD]⟩
instance {e : α → PV} {f : β → PV} : Kd (kP2 e f) 4 := ⟨fun _ => by simp [kP2, dat, kindD]⟩
instance {e : α → PV} {f : β → PV} {g : γ → PV} : Kd (kP3 e f g) 4 := ⟨fun _ => by simp [kP3, dat, kindD]⟩
instance {o : Fl} {e : α → PV} {f : β → PV} : Kd (kQ2 o e f) 3 := ⟨fun _ => by simp [kQ2, dat, kindD]⟩
class NeK (k l : Nat) : Prop where
  ne : k ≠ l
instance : NeK 0 1 := ⟨by decide⟩
instance : NeK 0 2 := ⟨by decide⟩
instance : NeK 0 3 := ⟨by decide⟩
instance : NeK 0 4 := ⟨by decide⟩
instance : NeK 1 0 := ⟨by decide⟩
instance : NeK 1 2 := ⟨by decide⟩
instance : NeK 1 3 := ⟨by decide⟩
instance : NeK 1 4 := ⟨by decide⟩
instance : NeK 2 0 := ⟨by decide⟩
instance : NeK 2 1 := ⟨by decide⟩
instance : NeK 2 3 := ⟨by decide⟩
instance : NeK 2 4 := ⟨by decide⟩
instance : NeK 3 0 := ⟨by decide⟩
instance : NeK 3 1 := ⟨by decide⟩
instance : NeK 3 2 := ⟨by decide⟩
instance : NeK 3 4 := ⟨by decide⟩
instance : NeK 4 0 := ⟨by decide⟩
instance : NeK 4 1 := ⟨by decide⟩
instance : NeK 4 2 := ⟨by decide⟩
instance : NeK 4 3 := ⟨by decide⟩
instance {e e' : α → PV} {f f' : β → PV} {k l k' l' : Nat} [DecidableEq α] [DecidableEq β] [DE e e'] [DE f f'] [Kd e k] [Kd f' l] [NeK k l] [Kd e' k'] [Kd f l'] [NeK l' k'] : DE (kX e f) (kX e' f') := ⟨fun a b => by
  cases a with
  | inl a =>
    cases b with
    | inl b => simp only [kX, DE.eq, Sum.inl.injEq]
    | inr b =>
      simp only [kX]
      rw [eqv_kind (by rw [Kd.kd (e := e), Kd.kd (e := f')]; exact NeK.ne)]
      simp
  | inr a =>
    cases b with
    | inr b => simp only [kX, DE.eq, Sum.inr.injEq]
    | inl b =>
      simp only [kX]
      rw [eqv_kind (by rw [Kd.kd (e := f), Kd.kd (e := e')]; exact NeK.ne)]
      simp⟩
instance {e e' : α → PV} {f f' : β → PV} {g g' : γ → PV} {o o' : Fl} [DecidableEq α] [DecidableEq β] [DecidableEq γ] [DE e e'] [DE f f'] [DE g g'] : DE (kQ3 o e f g) (kQ3 o' e' f' g') := ⟨fun a b => by
  obtain ⟨a1, a2, a3⟩ := a
  obtain ⟨b1, b2, b3⟩ := b
  simp [kQ3, dat, PyData.eqv, PyData.eqvAll, DE.eq]⟩
instance {e : α → PV} {f : β → PV} {g : γ → PV} {o : Fl} {n m k : Nat} [Dp e n] [Dp f m] [Dp g k] : Dp (kQ3 o e f g) (max n (max m k) + 1) := ⟨fun a => by
  have h1 := Dp.dp (e := e) a.1
  have h2 := Dp.dp (e := f) a.2.1
  have h3 := Dp.dp (e := g) a.2.2
  simp only [kQ3, dat, PyData.depth, PyData.depthAll, List.map_cons, List.map_nil]; omega, fun a => by
  simp only [kQ3, dat, PyData.canLay0, PyData.canLayAll0, List.map_cons, List.map_nil, Dp.cl, Bool.and_true]⟩
end
end VT
namespace VT
open PySem PySem.Spec PyProof.Rows VL
section
variable {α β γ δ : Type}
theorem kL_cast {o : Fl} {e : α → PV} {e' : β → PV} {f : α → β} {xs : List α} (h : ∀ z, e z = e' (f z)) : kL o e xs = kL o e' (xs.map f) := by
  unfold kL; rw [List.map_map]; congr 1; exact List.map_congr_left fun z _ => h z
end
end VT
namespace VT
open PySem PySem.Spec PyProof.Rows VL
end VT
namespace VT
open PySem PySem.Spec PyProof.Rows VL
section
variable {α β γ δ : Type}
/-- what lies as its flag says -/
class FlE (E : Fl → α → PV) : Prop where
  io : ∀ o a, (E o a).toIo = E (ioF o) a
  ne : ∀ o a, (E o a).isErr = false
  em : ∀ o a, (E o a).isEmp = false
  iw : ∀ a, (E .ow a).isIo = false
instance {e : α → PV} : FlE (fun o => kL o e) := ⟨fun o a => by cases o <;> rfl, fun _ _ => rfl, fun _ _ => rfl, fun _ => rfl⟩
instance {e : α → PV} {f : β → PV} : FlE (fun o => kQ2 o e f) := ⟨fun o a => by cases o <;> rfl, fun _ _ => rfl, fun _ _ => rfl, fun _ => rfl⟩
instance {e : α → PV} {f : β → PV} {g : γ → PV} : FlE (fun o => kQ3 o e f g) := ⟨fun o a => by cases o <;> rfl, fun _ _ => rfl, fun _ _ => rfl, fun _ => rfl⟩
instance {e : α → PV} {f : β → PV} {g : γ → PV} {h : δ → PV} : FlE (fun o => kQ4 o e f g h) := ⟨fun o a => by cases o <;> rfl, fun _ _ => rfl, fun _ _ => rfl, fun _ => rfl⟩
theorem fz_ne {a : PV} (h : FzV a) : a.isErr = false := by cases a <;> first | rfl | cases h
instance {e : α → PV} [Fz e] : FlE (fun _ => e) := ⟨fun o a => FzV.toIo (FzV.of e a), fun _ a => fz_ne (FzV.of e a), fun _ a => (FzV.of e a).emp, fun a => (FzV.of e a).io⟩
instance {E : Fl → α → PV} {E' : Fl → β → PV} [FlE E] [FlE E'] : FlE (fun o => kX (E o) (E' o)) := ⟨fun o a => by cases a with
  | inl a => exact FlE.io (E := E) o a
  | inr a => exact FlE.io (E := E') o a, fun o a => by cases a with
  | inl a => exact FlE.ne (E := E) o a
  | inr a => exact FlE.ne (E := E') o a, fun o a => by cases a with
  | inl a => exact FlE.em (E := E) o a
  | inr a => exact FlE.em (E := E') o a, fun a => by cases a with
  | inl a => exact FlE.iw (E := E) a
  | inr a => exact FlE.iw (E := E') a⟩
theorem ar_of (E : Fl → α → PV) [FlE E] {o : Fl} {a : α} {as bs : List PV} (r : as.map PV.toIo = bs) : (E o a :: as).map PV.toIo = E (ioF o) a :: bs := by rw [List.map_cons, r, FlE.io]
theorem toIo_of (E : Fl → α → PV) [FlE E] {o : Fl} {a : α} : (E o a).toIo = E (ioF o) a := FlE.io o a
theorem ne_of (E : Fl → α → PV) [FlE E] {o : Fl} {a : α} : (E o a).isErr = false := FlE.ne o a
end
section
variable {α β γ δ : Type} {E : List PV → Prop} {Q : β → α → List PV → Prop} {ρ : List PV} {KH : Hd → M α}
theorem x_callM {F : List PV → R PV} {hs : List Hd} {m : TX γ} {v : γ → PV} {fin : γ → List PV} {f0 : PV → List PV} {R' : γ → List PV} {R0 : PV → List PV} {T : γ → TX β} (ok : okArgs hs ρ = true) (hF : FS (F (hs.map (hv ρ))) m v fin (fun fn => ∃ z, fn = f0 z)) (bk : ∀ g, back ρ hs (fin g) = R' g) (bx : ∀ z, back ρ hs (f0 z) = R0 z) (ex : ∀ z, E (R0 z)) (k : ∀ g, Sim E Q (KH (.tm (v g)) (R' g)) (T g)) : Sim E Q ((callH F hs ρ fun a ρ3 => .ok (.tm a) ρ3).bind KH) (m.bind T) :=
  x_callE ok hF bk (fun fn ⟨z, e⟩ => by rw [e, bx]; exact ex z) fun g _ => k g
end
end VT
set_option linter.all false
set_option linter.all false
set_option maxRecDepth 100000
set_option Elab.async false
namespace Law
open VL VT PySem
def t__law_tape (a_script : (List Int)) (a_k : Int) : TX (Int × Int) :=
if (decide (a_k < (a_script.length : Int))) = true then (
TX.bind (tix a_script a_k) fun v1 =>
.ok ((iabs v1), (0 : Int))) else (
.ok (a_k, (0 : Int)))
def t__law_take (a_tape_here : (Int × Int)) (a_size_here : Int) : TX (Int × (Int × Int)) :=
if (decide ((1000000000000000000 : Int) ≤ a_tape_here.1)) = true then (
TX.bind (tdiv a_tape_here.1 a_size_here) fun v1 =>
TX.bind (tmod a_tape_here.1 a_size_here) fun v2 =>
.ok (v2, (v1, (a_tape_here.1, (a_tape_here.2 + (1 : Int))).2))) else (
TX.bind (tmul (((a_tape_here.1 + ((7919 : Int) * (a_tape_here.1, (a_tape_here.2 + (1 : Int))).2)) + (13 : Int)) % (2147483647 : Int)) ((((a_tape_here.1 + ((7919 : Int) * (a_tape_here.1, (a_tape_here.2 + (1 : Int))).2)) + (13 : Int)) % (2147483647 : Int)) + (48271 : Int))) fun v3 =>
TX.bind (tmul (v3 % (2147483629 : Int)) ((v3 % (2147483629 : Int)) + (69621 : Int))) fun v4 =>
TX.bind (tmod (((v4 + ((31 : Int) * (a_tape_here.1, (a_tape_here.2 + (1 : Int))).2)) % (2147483647 : Int)) / (9 : Int)) a_size_here) fun v5 =>
.ok (v5, (a_tape_here.1, (a_tape_here.2 + (1 : Int)))))
def t__law_turns (a_tape_here : (Int × Int)) (a_n : Int) : TX ((List Int) × (Int × Int)) :=
TX.bind (trg 0 a_n) fun v1 =>
TX.bind (trg 0 a_n) fun v2 =>
TX.bind (tfold v2 ((a_tape_here, v1, ([] : (List Int))) : ((Int × Int) × (List Int) × (List Int))) fun s4 x3 =>
TX.bind (t__law_take s4.1 (s4.2.1.length : Int)) fun v9 =>
TX.bind (tpop s4.2.1 v9.1) fun v10 =>
TX.bind (tapp s4.2.2 v10.1) fun v11 =>
.ok (v9.2, v10.2, v11)) fun s12 =>
.ok (s12.2.2, s12.1)
def t__law_parents (a_tape_here : (Int × Int)) (a_n : Int) : TX ((List (Option Int)) × (Int × Int)) :=
TX.bind (t__law_turns a_tape_here a_n) fun v1 =>
TX.bind (t__law_take v1.2 (4 : Int)) fun v2 =>
TX.bind (trg 0 a_n) fun v3 =>
TX.bind (tlcP v3 fun x4 =>
.ok (some (none : (Option Int)))) fun v8 =>
TX.bind (trg (1 : Int) a_n) fun v11 =>
TX.bind (tfold v11 ((v2.2, v8) : ((Int × Int) × (List (Option Int)))) fun s13 x12 =>
TX.bind (t__law_take s13.1 (x12 + (1 : Int))) fun v19 =>
TX.bind (
if (teq v2.1 (0 : Int)) = true then (
.ok x12) else (
.ok v19.1)) fun s20 =>
TX.bind (
if (teq v2.1 (1 : Int)) = true then (
.ok (0 : Int)) else (
.ok s20)) fun s23 =>
TX.bind (
if (decide ((0 : Int) < s23)) = true then (
TX.bind (tix v1.1 (s23 - (1 : Int))) fun v26 =>
TX.bind (tix v1.1 x12) fun v27 =>
TX.bind (tset s13.2 v27 (some v26)) fun v28 =>
.ok v28) else (
.ok s13.2)) fun s29 =>
.ok (v19.2, s29)) fun s32 =>
.ok (s32.2, s32.1)
def t__law_kinds (a_tape_here : (Int × Int)) (a_parents_here : (List (Option Int))) (a_fair : Bool) : TX ((List OS) × (Int × Int)) :=
TX.bind (trg 0 (a_parents_here.length : Int)) fun v1 =>
TX.bind (tfold v1 ((a_tape_here, ([] : (List OS))) : ((Int × Int) × (List OS))) fun s3 x2 =>
TX.bind (t__law_take s3.1 (4 : Int)) fun v9 =>
TX.bind (
if (a_fair || (tmem (some x2) a_parents_here)) = true then (
.ok (v9.1 % (2 : Int))) else (
.ok v9.1)) fun s10 =>
TX.bind (tix [(lit "up"), (lit "down"), (lit "first"), (lit "last")] s10) fun v13 =>
TX.bind (tapp s3.2 v13) fun v14 =>
.ok (v9.2, v14)) fun s15 =>
.ok (s15.2, s15.1)
def t_way_ends (a_parents : (List (Option Int))) (a_field : Int) : TX Bool :=
TX.bind (tfor a_parents ((some a_field) : ((Option Int))) fun s2 x1 =>
if s2.isNone = true then (
.ok (.rt true)) else (
TX.bind (opt s2) fun v7 =>
TX.bind (tix a_parents v7) fun v9 =>
.ok (.nx v9))) (Go.elim (σ := ((Option Int))) (β := Bool) (fun s10 =>
.ok s10.isNone) fun b14 => .ok b14)
def t_is_ranked (a_kind : OS) : TX Bool :=
.ok ((teq a_kind (lit "up")) || (teq a_kind (lit "down")))
def t_check_forest (a_parents : (List (Option Int))) (a_kinds : (List OS)) : TX Unit :=
if ((!(teq (a_parents.length : Int) (a_kinds.length : Int))) || ((decide ((a_parents.length : Int) < (1 : Int))) || (decide ((16 : Int) < (a_parents.length : Int))))) = true then (
TX.bind (guard (fmtOk PV.non)) fun _ => TX.ex "BadForest" [PV.non]) else (
TX.bind (tfold (tenum a_parents) (() : Unit) fun s2 x1 =>
TX.bind (if x1.2.isSome = true then (TX.bind (opt x1.2) fun v9 =>
TX.bind (if (decide (v9 < (0 : Int))) = true then .ok true else (.ok (decide ((a_parents.length : Int) ≤ v9)))) fun v11 =>
.ok v11) else .ok false) fun v12 =>
if v12 = true then (
TX.bind (guard (fmtOk (PV.int x1.1))) fun _ => TX.ex "BadForest" [(PV.int x1.1)]) else (
.ok ())) fun s13 =>
TX.bind (trg 0 (a_parents.length : Int)) fun v19 =>
TX.bind (tfold v19 (() : Unit) fun s21 x20 =>
TX.bind (t_way_ends a_parents x20) fun v28 =>
if (!v28) = true then (
TX.bind (guard (fmtOk (PV.int x20))) fun _ => TX.ex "BadForest" [(PV.int x20)]) else (
.ok ())) fun s29 =>
TX.bind (tfold (tenum a_kinds) (() : Unit) fun s36 x35 =>
TX.bind (t_is_ranked x35.2) fun v43 =>
TX.bind (if (!v43) = true then (.ok (tmem (some x35.1) a_parents)) else .ok false) fun v44 =>
if v44 = true then (
TX.bind (guard (fmtOk (PV.int x35.1))) fun _ => TX.ex "BadForest" [(PV.int x35.1)]) else (
.ok ())) fun s45 =>
.ok ())
structure O_Forest where
  fields : Int
  parents : (List (Option Int))
  kinds : (List OS)
def kC_Forest (o : Fl) (x : O_Forest) : PV := .obj o "Forest" [PV.int x.fields, (kT (kO PV.int)) x.parents, (kT kS) x.kinds]
instance : Fz (kC_Forest .fz) := ⟨fun _ => rfl⟩
instance : FlE (fun o => kC_Forest o) := ⟨fun o a => by cases o <;> rfl, fun _ _ => rfl, fun _ _ => rfl, fun _ => rfl⟩
def t_Forest____init__ (a_parents : (List (Option Int))) (a_kinds : (List OS)) : TX O_Forest :=
TX.bind (t_check_forest a_parents a_kinds) fun v1 =>
.ok (O_Forest.mk (a_parents.length : Int) a_parents a_kinds)
def t__law_path (a_parents_here : (List (Option Int))) (a_field : Int) : TX (List Int) :=
TX.bind (trg 0 (a_parents_here.length : Int)) fun v1 =>
TX.bind (tfold v1 ([a_field] : ((List Int))) fun s3 x2 =>
TX.bind (
TX.bind (tix s3 (0 : Int)) fun v8 =>
TX.bind (tix a_parents_here v8) fun v9 =>
if v9.isSome = true then (
TX.bind (tix s3 (0 : Int)) fun v10 =>
TX.bind (tix a_parents_here v10) fun v11 =>
TX.bind (opt v11) fun v12 =>
TX.bind (tins s3 (0 : Int) v12) fun v14 =>
.ok v14) else (
.ok s3)) fun s15 =>
.ok s15) fun s18 =>
.ok s18
def t_Forest__path (a_self : O_Forest) (a_field : Int) : TX (List Int) :=
TX.bind (twh 1000 ([a_field] : ((List Int))) (fun s2 => TX.bind (tix s2 (0 : Int)) fun v6 =>
TX.bind (tix a_self.parents v6) fun v7 =>
.ok v7.isSome) fun s2 =>
TX.bind (tix s2 (0 : Int)) fun v8 =>
TX.bind (tix a_self.parents v8) fun v9 =>
TX.bind (opt v9) fun v10 =>
TX.bind (tcat [v10] s2) fun v12 =>
.ok (.nx v12)) (Go.elim (σ := ((List Int))) (β := Empty) (fun s13 =>
.ok s13) fun b16 => .no)
def t__law_is_integer_v3 (a_actual : Int) : TX Bool :=
.ok (true && (!false))
def t__law_is_record (a_actual : (List Int)) (a_n : Int) : TX Bool :=
if ((!true) || (!(teq (a_actual.length : Int) a_n))) = true then (
.ok false) else (
TX.bind (tfor a_actual (() : Unit) fun s2 x1 =>
TX.bind (t__law_is_integer_v3 x1) fun v7 =>
if (!v7) = true then (
.ok (.rt false)) else (
.ok (.nx ()))) (Go.elim (σ := Unit) (β := Bool) (fun s8 =>
.ok true) fun b12 => .ok b12))
end Law
set_option Elab.async false
set_option linter.all false
namespace VL
open PySem PySem.Spec PyProof.Rows L2
end VL
set_option linter.all false
set_option maxRecDepth 100000
set_option Elab.async false
namespace VT
open PySem PySem.Spec PyProof.Rows VL
/-- plain values, n deep: None, ints, strings, tuples of such -/
def plB : Nat → PV → Bool
  | _, .non => true
  | _, .int _ => true
  | _, .str s => PyData.strOk s
  | n + 1, .tup xs => decide (xs.length ≤ lim) && xs.all (plB n)
  | _, _ => false
def samB : Nat → PV → PV → Bool
  | _, .non, .non => true
  | _, .int a, .int b => decide (a = b)
  | _, .str a, .str b => decide (a = b)
  | n + 1, .tup xs, .tup ys => decide (xs.length = ys.length) && (xs.zip ys).all fun p => samB n p.1 p.2
  | _, _, _ => false
theorem plB_tup {n : Nat} {xs : List PV} (h : plB (n + 1) (.tup xs) = true) : xs.length ≤ lim ∧ ∀ x ∈ xs, plB n x = true := by
  unfold plB at h
  simpa using h
/-- flags of encodings: what is frozen -/
class FlZ {α : Type} (E : Fl → α → PV) : Prop where
  sf : ∀ o a, (E o a).setFl .fz = E .fz a
  fo : ∀ a, fzOf (E .ow a) = some (E .fz a)
section
variable {α β γ δ : Type}
instance {e : α → PV} : FlZ (fun o => kL o e) := ⟨fun _ _ => rfl, fun _ => rfl⟩
instance {e : α → PV} {f : β → PV} : FlZ (fun o => kQ2 o e f) := ⟨fun _ _ => rfl, fun _ => rfl⟩
instance {e : α → PV} {f : β → PV} {g : γ → PV} : FlZ (fun o => kQ3 o e f g) := ⟨fun _ _ => rfl, fun _ => rfl⟩
instance {e : α → PV} {f : β → PV} {g : γ → PV} {h : δ → PV} : FlZ (fun o => kQ4 o e f g h) := ⟨fun _ _ => rfl, fun _ => rfl⟩
instance {e : α → PV} [Fz e] : FlZ (fun _ => e) := ⟨fun _ a => (FzV.of e a).set, fun a => FzV.of e a⟩
instance {E : Fl → α → PV} {E' : Fl → β → PV} [FlZ E] [FlZ E'] : FlZ (fun o => kX (E o) (E' o)) := ⟨fun o a => by cases a with
  | inl a => exact FlZ.sf (E := E) o a
  | inr a => exact FlZ.sf (E := E') o a, fun a => by cases a with
  | inl a => exact FlZ.fo (E := E) a
  | inr a => exact FlZ.fo (E := E') a⟩
end
/-- an encoding of plain values that are the same when their values are -/
class Sm {α : Type} [DecidableEq α] (e : α → PV) : Prop where
  eq : ∀ (n : Nat) (a b : α), plB n (e a) = true → plB n (e b) = true → samB n (e a) (e b) = decide (a = b)
section
variable {α β γ : Type} [DecidableEq α] [DecidableEq β] [DecidableEq γ]
@[simp] theorem plB_non (n : Nat) : plB n .non = true := by cases n <;> rfl
@[simp] theorem plB_int (n : Nat) (i : Int) : plB n (.int i) = true := by cases n <;> rfl
@[simp] theorem plB_kS (n : Nat) (s : OS) : plB n (kS s) = true := by cases n <;> exact s.2
theorem samB_non (n : Nat) {p : PV} (h : p ≠ .non) : samB n .non p = false ∧ samB n p .non = false := by
  cases p <;> first | exact absurd rfl h | (constructor <;> cases n <;> rfl)
theorem nn_ne {e : α → PV} [NN e] (a : α) : e a ≠ .non := fun z => by
  have := NN.nn (e := e) a true
  rw [z] at this
  cases this
instance : Sm PV.int := ⟨fun n a b _ _ => by cases n <;> rfl⟩
instance : Sm kS := ⟨fun n a b _ _ => by
  have : samB n (kS a) (kS b) = decide (a.1 = b.1) := by cases n <;> rfl
  rw [this]
  exact decide_eq_decide.mpr (Subtype.ext_iff.symm)⟩
instance {e : α → PV} [Sm e] [NN e] : Sm (kO e) := ⟨fun n a b h1 h2 => by
  cases a with
  | none =>
    cases b with
    | none => cases n <;> rfl
    | some b => rw [show kO e none = .non from rfl, show kO e (some b) = e b from rfl, (samB_non n (nn_ne b)).1]; simp
  | some a =>
    cases b with
    | none => rw [show kO e none = .non from rfl, show kO e (some a) = e a from rfl, (samB_non n (nn_ne a)).2]; simp
    | some b =>
      have := Sm.eq (e := e) n a b h1 h2
      rw [show kO e (some a) = e a from rfl, show kO e (some b) = e b from rfl, this]
      simp⟩
theorem all_map {e : α → PV} [Sm e] {n : Nat} : ∀ (xs ys : List α), (∀ x ∈ xs.map e, plB n x = true) → (∀ x ∈ ys.map e, plB n x = true) → (decide (xs.length = ys.length) && (((xs.map e).zip (ys.map e)).all fun p => samB n p.1 p.2)) = decide (xs = ys)
  | [], [], _, _ => rfl
  | [], _ :: _, _, _ => rfl
  | _ :: _, [], _, _ => rfl
  | x :: xs, y :: ys, h1, h2 => by
    have ih := all_map xs ys (fun z hz => h1 z (by simp at hz ⊢; exact .inr hz)) (fun z hz => h2 z (by simp at hz ⊢; exact .inr hz))
    have e1 := Sm.eq (e := e) n x y (h1 _ (by simp)) (h2 _ (by simp))
    simp only [List.map_cons, List.zip_cons_cons, List.all_cons, e1, List.length_cons, List.cons.injEq, Nat.add_right_cancel_iff]
    by_cases q : x = y
    · simp only [q, decide_true, Bool.true_and, true_and]; exact ih
    · simp [q]
instance {e : α → PV} [Sm e] : Sm (kT e) := ⟨fun n a b h1 h2 => by
  cases n with
  | zero => cases h1
  | succ n =>
    have := all_map (e := e) a b (plB_tup h1).2 (plB_tup h2).2
    rw [← this]
    show (decide ((a.map e).length = (b.map e).length) && _) = _
    rw [List.length_map, List.length_map]⟩
instance {e : α → PV} {f : β → PV} [Sm e] [Sm f] : Sm (kP2 e f) := ⟨fun n a b h1 h2 => by
  cases n with
  | zero => cases h1
  | succ n =>
    have k1 := (plB_tup h1).2
    have k2 := (plB_tup h2).2
    have e1 := Sm.eq (e := e) n a.1 b.1 (k1 _ (by simp)) (k2 _ (by simp))
    have e2 := Sm.eq (e := f) n a.2 b.2 (k1 _ (by simp)) (k2 _ (by simp))
    show (decide (2 = 2) && (samB n (e a.1) (e b.1) && (samB n (f a.2) (f b.2) && true))) = _
    rw [e1, e2]
    simp [Prod.ext_iff]⟩
instance {e : α → PV} {f : β → PV} {g : γ → PV} [Sm e] [Sm f] [Sm g] : Sm (kP3 e f g) := ⟨fun n a b h1 h2 => by
  cases n with
  | zero => cases h1
  | succ n =>
    have k1 := (plB_tup h1).2
    have k2 := (plB_tup h2).2
    have e1 := Sm.eq (e := e) n a.1 b.1 (k1 _ (by simp)) (k2 _ (by simp))
    have e2 := Sm.eq (e := f) n a.2.1 b.2.1 (k1 _ (by simp)) (k2 _ (by simp))
    have e3 := Sm.eq (e := g) n a.2.2 b.2.2 (k1 _ (by simp)) (k2 _ (by simp))
    show (decide (3 = 3) && (samB n (e a.1) (e b.1) && (samB n (f a.2.1) (f b.2.1) && (samB n (g a.2.2) (g b.2.2) && true)))) = _
    rw [e1, e2, e3]
    simp [Prod.ext_iff]⟩
end
end VT
set_option linter.all false
set_option maxRecDepth 100000
set_option Elab.async false
namespace Law
open VL VT PySem
def t_raised (a_kind : OS) (a_value : Int) (a_by_ : Int) : TX Int :=
if (teq a_kind (lit "down")) = true then (
.ok (a_value - a_by_)) else (
.ok (a_value + a_by_))
def t__law_side_v2 (a_parents_here : (List (Option Int))) (a_kinds_here : (List OS)) (a_field : Int) (a_older : (List Int)) (a_newer : (List Int)) : TX Int :=
TX.bind (t__law_path a_parents_here a_field) fun v1 =>
TX.bind (tfor v1 (() : Unit) fun s3 x2 =>
TX.bind (tix a_older x2) fun v8 =>
TX.bind (tix a_newer x2) fun v9 =>
if (!(teq v8 v9)) = true then (
TX.bind (tix a_kinds_here x2) fun v10 =>
if (teq v10 (lit "first")) = true then (
.ok (.rt (0 : Int))) else (
TX.bind (tix a_kinds_here x2) fun v11 =>
if (teq v11 (lit "last")) = true then (
.ok (.rt (1 : Int))) else (
TX.bind (tix a_older x2) fun v12 =>
TX.bind (tix a_newer x2) fun v13 =>
TX.bind (tix a_kinds_here x2) fun v14 =>
.ok (.rt (b2i (!(teq (decide (v13 < v12)) (teq v14 (lit "up"))))))))) else (
.ok (.nx ()))) (Go.elim (σ := Unit) (β := Int) (fun s15 =>
.ok (0 : Int)) fun b19 => .ok b19)
def t__law_merge_v2 (a_parents_here : (List (Option Int))) (a_kinds_here : (List OS)) (a_older : (List Int)) (a_newer : (List Int)) : TX (List Int) :=
TX.bind (trg 0 (a_parents_here.length : Int)) fun v1 =>
TX.bind (tlcP v1 fun x2 =>
TX.bind (t__law_side_v2 a_parents_here a_kinds_here x2 a_older a_newer) fun v6 =>
TX.bind (tix [a_older, a_newer] v6) fun v7 =>
TX.bind (tix v7 x2) fun v8 =>
.ok (some v8)) fun v9 =>
.ok v9
end Law
set_option linter.all false
set_option maxRecDepth 100000
set_option Elab.async false
set_option Elab.async false
set_option linter.all false
set_option maxRecDepth 100000
namespace VL
open PySem PySem.Spec PyProof.Rows L2
open My (NK nkV nD mergeN)
section
variable {α β : Type}
def kin (ks : List NK) (k : NK) : Bool := ks.any fun j => decide (j = k)
end
def pvK : PV → Option NK
  | .non => some none
  | .int i => some (some (.inl i))
  | .str x => some (some (.inr x))
  | _ => none
end VL
set_option Elab.async false
set_option linter.all false
set_option maxRecDepth 100000
namespace VL
open PySem PySem.Spec PyProof.Rows L2
end VL
set_option Elab.async false
set_option linter.all false
set_option maxRecDepth 100000
namespace VL
open PySem PySem.Spec PyProof.Rows L2
/-- the two numbers of a pair, as they lie -/
def pairOf (h : Heap) : Value → Int × Int
  | .ref a => match h.get? a with
    | some o => (match o.data with
      | .seq its _ => (match its.toList with
        | [.int i _, .int j _] => (i, j)
        | _ => (0, 0))
      | _ => (0, 0))
    | none => (0, 0)
  | _ => (0, 0)
theorem pairOf_of {h : Heap} {v : Value} {i j : Int} (p : Srt.IsPair h v i j) : pairOf h v = (i, j) := by
  obtain ⟨a, o, t, u, n, rfl, e1, _, e2⟩ := p
  simp only [pairOf, e1, e2]
def PairsAt (K : PySem.W.Frag) (H : Hp) (L : List (V × Int × Int)) : Prop := ∀ p ∈ L, ∃ t, p.1 = .ref t ∧ SqT K H t [.int p.2.1, .int p.2.2]
def rSortedPS (K : PySem.W.Frag) : List V → Hp → VK → Prop := fun vs H Q => ∃ (a : Addr) (L : List (V × Int × Int)), vs = [V.ref a] ∧ SqL K H a (L.map (·.1)) ∧ PairsAt K H L ∧
  ∀ (L' : List (V × Int × Int)) p, L'.Perm L → (L'.map (·.2)).Pairwise (fun x y => SrtO.lexB y x = false) → H p = none → Q (.ref p) (upd H p (.lst (L'.map (·.1))))
section
variable {X : Cx}
theorem pairs_lie {pins : List (Addr × Obj)} {σ : L2.St} {H : Hp} {s : Shared} (I : Inv X pins σ H s) : ∀ {L : List (V × Int × Int)} {its : List Value}, PairsAt X.K H L → Vals (L.map (·.1)) its →
    L = its.map (fun u => (backV u, pairOf s.heap u)) ∧ ∀ u ∈ its, (∃ a, u = Value.ref a) ∧ Srt.IsPair s.heap u (pairOf s.heap u).1 (pairOf s.heap u).2
  | [], _, _, r => by cases r; exact ⟨rfl, fun u hu => by cases hu⟩
  | (v, i, j) :: L, _, hp, r => by
    cases r with
    | @cons _ u _ us r t =>
      obtain ⟨e, hs⟩ := pairs_lie I (L := L) (fun p h => hp p (List.mem_cons_of_mem _ h)) t
      obtain ⟨a, ev, hq⟩ := hp _ List.mem_cons_self
      simp only at ev hq
      subst ev
      obtain rfl : u = Value.ref a := r
      obtain ⟨its2, r2, o, ho, hc, n, hd⟩ : ∃ its2, Vals [V.int i, V.int j] its2 ∧ ∃ o, s.heap.get? a = some o ∧ o.cls = .type "tuple" ∧ ∃ n, o.data = .seq its2.toArray n := by
        obtain ⟨its2, r2, ht, _⟩ := I.tuple hq
        exact ⟨its2, r2, ht⟩
      obtain ⟨u1, u2, rfl, ri, rj⟩ := vals2 r2
      obtain ⟨t1, rfl⟩ := ri
      obtain ⟨t2, rfl⟩ := rj
      have ip : Srt.IsPair s.heap (.ref a) i j := ⟨a, o, t1, t2, n, rfl, ho, hc, hd⟩
      have ek := pairOf_of ip
      refine ⟨by rw [List.map_cons, ek, ← e]; rfl, fun w hw => ?_⟩
      rcases List.mem_cons.mp hw with rfl | hw
      · exact ⟨⟨a, rfl⟩, by rw [ek]; exact ip⟩
      · exact hs w hw
theorem cr_sortedPS : CallR X (.builtin "sorted") (rSortedPS X.K) := by
  intro pins s σ H vs us Q I r h
  obtain ⟨a, L, rfl, hs, hx, q⟩ := h
  obtain ⟨its, rv, hl, hz⟩ := I.list hs
  obtain ⟨u, rfl, ru⟩ := vals1 r
  obtain rfl : u = Value.ref a := ru
  obtain ⟨eL, hp⟩ := pairs_lie I hx rv
  have hz2 : its.length ≤ sizeLine := by
    have := rv.length
    omega
  refine SrtO.sorted_pairsO (k := pairOf s.heap) hl.isList hz2 (fun v hv => (hp v hv).2) fun h' d out h1 h2 kp hd hn => ?_
  obtain ⟨n, hn⟩ := hn
  have back : ∀ u ∈ out, ∃ a, u = Value.ref a := fun u hu => (hp u (h2.perm.mem_iff.mp hu)).1
  have ol : out.length = its.length := h2.perm.length_eq
  have lie : Vals ((out.map fun u => (backV u, pairOf s.heap u)).map (·.1)) out := by
    rw [List.map_map]
    exact vals_back back
  refine ⟨.ref d, _, I.laid (o := .lst ((out.map fun u => (backV u, pairOf s.heap u)).map (·.1))) kp hd ⟨?_, out, n, lie, hn⟩, rfl, q (out.map fun u => (backV u, pairOf s.heap u)) d (by rw [eL]; exact h2.perm.map _) ?_ (I.hok.fresh hd)⟩
  · simp only [List.length_map]
    omega
  · rw [List.map_map]
    exact List.pairwise_map.mpr h1
end
def pairsI : List PV → Option (List (Int × Int))
  | [] => some []
  | .tup [.int i, .int j] :: r => (pairsI r).map ((i, j) :: ·)
  | _ :: _ => none
def ePr (p : Int × Int) : PV := .tup [.int p.1, .int p.2]
theorem pairsI_ok : ∀ {xs : List PV} {ns : List (Int × Int)}, pairsI xs = some ns → xs = ns.map ePr
  | [], ns, h => by cases h; rfl
  | x :: r, ns, h => by
    unfold pairsI at h
    split at h
    · rename_i h0; cases h0
    · rename_i i j r' h0
      cases h0
      obtain ⟨ms, e, rfl⟩ := Option.map_eq_some_iff.mp h
      rw [pairsI_ok e]; rfl
    · cases h
def leP (p q : Int × Int) : Bool := !SrtO.lexB q p
def insP (x : Int × Int) : List (Int × Int) → List (Int × Int)
  | [] => [x]
  | y :: ys => if leP x y = true then x :: y :: ys else y :: insP x ys
def sortP : List (Int × Int) → List (Int × Int)
  | [] => []
  | x :: xs => insP x (sortP xs)
theorem leP_iff {p q : Int × Int} : leP p q = true ↔ p.1 < q.1 ∨ (p.1 = q.1 ∧ p.2 ≤ q.2) := by
  have := SrtO.lexB_iff (p := q) (q := p)
  unfold leP
  cases e : SrtO.lexB q p with
  | true => rw [e] at this; have := this.mp rfl; simp only [Bool.not_true, Bool.false_eq_true, false_iff]; omega
  | false =>
    simp only [Bool.not_false, true_iff]
    have : ¬ (q.1 < p.1 ∨ (q.1 = p.1 ∧ q.2 < p.2)) := fun z => by rw [this.mpr z] at e; cases e
    omega
theorem insP_perm (x : Int × Int) : ∀ ys, (insP x ys).Perm (x :: ys)
  | [] => .refl _
  | y :: ys => by
    unfold insP
    split
    · exact .refl _
    · exact ((insP_perm x ys).cons y).trans (.swap ..)
theorem sortP_perm : ∀ xs, (sortP xs).Perm xs
  | [] => .refl _
  | x :: xs => (insP_perm x _).trans ((sortP_perm xs).cons x)
theorem insP_sorted (x : Int × Int) : ∀ {ys : List (Int × Int)}, ys.Pairwise (fun a b => leP a b = true) → (insP x ys).Pairwise (fun a b => leP a b = true)
  | [], _ => by simp [insP]
  | y :: ys, h => by
    unfold insP
    have h1 := List.pairwise_cons.mp h
    split
    · rename_i hc
      exact List.pairwise_cons.mpr ⟨fun z hz => by
        rcases List.mem_cons.mp hz with rfl | hz
        · exact hc
        · have a := leP_iff.mp hc
          have b := leP_iff.mp (h1.1 z hz)
          exact leP_iff.mpr (by omega), h⟩
    · rename_i hc
      exact List.pairwise_cons.mpr ⟨fun z hz => by
        rcases List.mem_cons.mp ((insP_perm x ys).mem_iff.mp hz) with rfl | hz
        · have a : ¬ (z.1 < y.1 ∨ (z.1 = y.1 ∧ z.2 ≤ y.2)) := fun q => hc (leP_iff.mpr q)
          exact leP_iff.mpr (by omega)
        · exact h1.1 z hz, insP_sorted x h1.2⟩
theorem sortP_sorted : ∀ xs, (sortP xs).Pairwise (fun a b => leP a b = true)
  | [] => .nil
  | x :: xs => insP_sorted x (sortP_sorted xs)
theorem sortedP_uniq : ∀ {xs ys : List (Int × Int)}, xs.Perm ys → xs.Pairwise (fun a b => leP a b = true) → ys.Pairwise (fun a b => leP a b = true) → xs = ys
  | [], ys, p, _, _ => by rw [List.nil_perm.mp p]
  | x :: xs, [], p, _, _ => by have := p.length_eq; simp at this
  | x :: xs, y :: ys, p, h1, h2 => by
    have a := List.pairwise_cons.mp h1
    have b := List.pairwise_cons.mp h2
    have hxy : x = y := by
      have m1 : x ∈ y :: ys := p.mem_iff.mp List.mem_cons_self
      have m2 : y ∈ x :: xs := p.mem_iff.mpr List.mem_cons_self
      rcases List.mem_cons.mp m1 with e | m1
      · exact e
      · rcases List.mem_cons.mp m2 with e | m2
        · exact e.symm
        · have u := leP_iff.mp (a.1 y m2)
          have w := leP_iff.mp (b.1 x m1)
          exact Prod.ext (by omega) (by omega)
    subst hxy
    rw [sortedP_uniq (List.Perm.cons_inv p) a.2 b.2]
def oSortedA : List PV → Option PV
  | [.lst o xs] => match intsOf xs with
    | some ns => some (.lst .ow ((sortI ns).map .int))
    | none => (pairsI xs).map fun ns => .lst .ow ((sortP ns).map ePr)
  | _ => none
theorem reps_pairs {T : Tb} {F : Hp} : ∀ {L : List (V × Int × Int)}, (∀ p ∈ L, Rep T F (ePr p.2) p.1) → Reps T F ((L.map (·.2)).map ePr) (L.map (·.1))
  | [], _ => .nil
  | p :: L, h => .cons (h p List.mem_cons_self) rfl (reps_pairs fun q hq => h q (List.mem_cons_of_mem _ hq))
theorem reps_zip {T : Tb} {F : Hp} : ∀ {ns : List (Int × Int)} {vs : List V}, Reps T F (ns.map ePr) vs → (vs.zip ns).map (·.1) = vs ∧ (vs.zip ns).map (·.2) = ns ∧ ∀ p ∈ vs.zip ns, Rep T F (ePr p.2) p.1
  | [], vs, r => by
    have : vs = ([] : List V) := by simpa only [List.map_nil, Reps] using r
    subst this
    exact ⟨rfl, rfl, fun p h => by cases h⟩
  | n :: ns, _, r => by
    obtain ⟨w, ws, rfl, h1, _, h2⟩ := r.inv
    obtain ⟨e1, e2, e3⟩ := reps_zip h2
    refine ⟨by rw [List.zip_cons_cons, List.map_cons, e1], by rw [List.zip_cons_cons, List.map_cons, e2], fun p hp => ?_⟩
    rw [List.zip_cons_cons] at hp
    rcases List.mem_cons.mp hp with rfl | hp
    · exact h1
    · exact e3 p hp
theorem f_sortedA {T : Tb} : Fnv T oSortedA (fun xs H Q => rSortedI T.K xs H Q ∨ rSortedPS T.K xs H Q) := by
  intro H l as c vs Q k hl hm e q
  unfold oSortedA at e
  split at e
  · rename_i o xs
    split at e
    · rename_i ns en
      refine .inl (f_sorted H l _ c vs Q k hl hm ?_ q)
      simp only [oSorted, en, Option.map_some]
      exact e
    · right
      obtain ⟨ns, e1, rfl⟩ := Option.map_eq_some_iff.mp e
      have := pairsI_ok e1
      subst this
      obtain ⟨v, rfl, m⟩ := one_arg rfl hl hm
      obtain ⟨p, vs, rfl, h1, hl2, F, s, r⟩ := k.g_lst m
      obtain ⟨e1, e2, e3⟩ := reps_zip r
      refine ⟨p, vs.zip ns, rfl, by rw [e1]; exact SqL.of h1, fun x hx => ?_, fun L' t pm st ht => q _ _ ?_⟩
      · have := e3 x hx
        unfold ePr at this
        simp only [Rep] at this
        obtain ⟨t, us, e4, h4, h5⟩ := this
        refine ⟨t, e4, ?_⟩
        have : us = [V.int x.2.1, V.int x.2.2] := by
          obtain ⟨w, ws, rfl, h6, _, h7⟩ := h5.inv
          obtain ⟨w', ws', rfl, h8, _, h9⟩ := h7.inv
          simp only [Rep] at h6 h8
          simp only [Reps] at h9
          rw [h6, h8, h9]
        rw [← this]
        exact s.seqT h4
      · have eS : L'.map (·.2) = sortP ns := by
          refine sortedP_uniq ((pm.map (·.2)).trans ?_) ?_ (sortP_sorted ns)
          · rw [e2]; exact (sortP_perm ns).symm
          · refine st.imp fun {a b} h => ?_
            unfold leP
            rw [h]; rfl
        rw [← eS]
        refine Hold.new_own k ht rfl fun F' s' o' => ⟨t, _, rfl, upd_same, ?_⟩
        have r' := reps_lst s' o' m h1
        obtain ⟨_, _, e3'⟩ := reps_zip r'
        exact reps_pairs fun x hx => e3' x (pm.mem_iff.mp hx)
  · cases e
end VL
set_option linter.all false
set_option maxRecDepth 100000
set_option Elab.async false
namespace VT
open PySem PySem.Spec PyProof.Rows VL
open My (NK)
section
variable {κ α β γ δ σ : Type}
/-- what may be a key -/
class Ke (e : κ → PV) where
  nk : κ → NK
  ok : ∀ a, pvK (e a) = some (nk a)
  inj : ∀ {a b}, nk a = nk b → a = b
instance : Ke PV.int := ⟨fun i => some (.inl i), fun _ => rfl, fun h => by cases h; rfl⟩
instance : Ke kS := ⟨fun x => some (.inr x.1), fun _ => rfl, fun h => by injection h with h; injection h with h; exact Subtype.ext h⟩
instance : Ke (kO PV.int) := ⟨fun o => o.map fun i => .inl i, fun o => by cases o <;> rfl, fun {a b} h => by cases a <;> cases b <;> first | rfl | (cases h; done) | (cases h; rfl)⟩
instance : Ke (kO kS) := ⟨fun o => o.map fun x => .inr x.1, fun o => by cases o <;> rfl, fun {a b} h => by
  cases a <;> cases b
  · rfl
  · cases h
  · cases h
  · injection h with h; injection h with h; rw [Subtype.ext h]⟩
def kD (o : Fl) (e : κ → PV) [Ke e] (f : α → PV) (l : List (κ × α)) : PV := .dN o (l.map fun p => Ke.nk e p.1) (l.map fun p => f p.2)
instance {e : κ → PV} [Ke e] {f : α → PV} : Fz (kD .fz e f) := ⟨fun _ => rfl⟩
instance {e : κ → PV} [Ke e] {f : α → PV} : FlE (fun o => kD o e f) := ⟨fun o a => by cases o <;> rfl, fun _ _ => rfl, fun _ _ => rfl, fun _ => rfl⟩
variable [DecidableEq κ]
variable {e : κ → PV} [Ke e] {f : α → PV} {l : List (κ × α)} {k : κ} {a : α}
variable {ρ ρ1 : List PV} {h0 h1 h2 : Hd}
end
/-- encodings that never lie alike -/
class Dj {α β : Type} (e : α → PV) (f : β → PV) : Prop where
  l : ∀ (n : Nat) (a : α) (b : β), samB n (e a) (f b) = false
  r : ∀ (n : Nat) (a : α) (b : β), samB n (f b) (e a) = false
instance : Dj PV.int kS := ⟨fun n a b => by cases n <;> rfl, fun n a b => by cases n <;> rfl⟩
instance {β : Type} {f : β → PV} : Dj PV.int (kT f) := ⟨fun n a b => by cases n <;> rfl, fun n a b => by cases n <;> rfl⟩
instance {β : Type} {f : β → PV} : Dj kS (kT f) := ⟨fun n a b => by cases n <;> rfl, fun n a b => by cases n <;> rfl⟩
instance {α β γ : Type} {e : α → PV} {f : β → PV} {g : γ → PV} [Dj e f] [Dj e g] : Dj e (kX f g) := ⟨fun n a b => by
  cases b with
  | inl b => exact Dj.l n a b
  | inr b => exact Dj.l n a b, fun n a b => by
  cases b with
  | inl b => exact Dj.r n a b
  | inr b => exact Dj.r n a b⟩
instance {α β : Type} [DecidableEq α] [DecidableEq β] {e : α → PV} {f : β → PV} [Sm e] [Sm f] [Dj e f] : Sm (kX e f) := ⟨fun n a b h1 h2 => by
  cases a with
  | inl a =>
    cases b with
    | inl b =>
      have := Sm.eq (e := e) n a b h1 h2
      show samB n (e a) (e b) = _
      rw [this]
      simp
    | inr b =>
      show samB n (e a) (f b) = _
      rw [Dj.l n a b]
      simp
  | inr a =>
    cases b with
    | inl b =>
      show samB n (f a) (e b) = _
      rw [Dj.r n b a]
      simp
    | inr b =>
      have := Sm.eq (e := f) n a b h1 h2
      show samB n (f a) (f b) = _
      rw [this]
      simp⟩
end VT
set_option linter.all false
set_option maxRecDepth 100000
set_option Elab.async false
namespace Law
open VL VT PySem
@[irreducible] def t__law_fields (a_tape_here : (Int × Int)) : TX (Int × (Int × Int)) :=
TX.bind (t__law_take a_tape_here (8 : Int)) fun v1 =>
if (teq v1.1 (7 : Int)) = true then (
TX.bind (t__law_take v1.2 (2 : Int)) fun v2 =>
.ok (((7 : Int) + v2.1), v2.2)) else (
TX.bind (t__law_take v1.2 (6 : Int)) fun v3 =>
.ok (((1 : Int) + v3.1), v3.2))
@[irreducible] def t__law_fold (a_parents_here : (List (Option Int))) (a_kinds_here : (List OS)) (a_records : (List (List Int))) : TX (List Int) :=
TX.bind (tix a_records (0 : Int)) fun v1 =>
TX.bind (tfold (tcut a_records (some (1 : Int)) none) (v1 : ((List Int))) fun s3 x2 =>
TX.bind (t__law_merge_v2 a_parents_here a_kinds_here s3 x2) fun v8 =>
.ok v8) fun s9 =>
.ok s9
end Law
set_option linter.all false
set_option maxRecDepth 100000
set_option Elab.async false
set_option linter.all false
set_option maxRecDepth 100000
set_option synthInstance.maxSize 2000
set_option Elab.async false
set_option Elab.async false
set_option linter.all false
set_option maxRecDepth 100000
namespace VL
open PySem PySem.Spec PyProof.Rows L2
def oRevL : List PV → Option PV
  | [.lst _ xs] => some (.lst .ow xs.reverse)
  | _ => none
section
variable {g : G} {X : Cx} {a : Expr} {fa : M Hd} {p p2 pos pos2 : Pos}
theorem revL_un : eFn oRevL (aCons fa aNil) = eUn (fun a => oRevL [a]) fa := by
  funext ρ
  show (((fa ρ).bind _)).bind _ = (fa ρ).bind _
  cases fa ρ <;> rfl
end
end VL
set_option linter.all false
set_option maxRecDepth 100000
set_option Elab.async false
namespace VT
open PySem PySem.Spec PyProof.Rows VL
theorem revL_L {γ : Type} {e : γ → PV} {o : Fl} {xs : List γ} : oRevL [kL o e xs] = some (kL .ow e xs.reverse) := by
  simp only [kL, oRevL, List.map_reverse]
end VT
set_option linter.all false
set_option maxRecDepth 100000
set_option synthInstance.maxSize 2000
set_option Elab.async false
set_option Elab.async false
set_option linter.all false
set_option maxRecDepth 100000
namespace VL
open PySem PySem.Spec PyProof.Rows L2
end VL
set_option linter.all false
set_option maxRecDepth 100000
set_option Elab.async false
namespace VT
open PySem PySem.Spec PyProof.Rows VL
end VT
set_option linter.all false
set_option maxRecDepth 100000
set_option synthInstance.maxSize 2000
set_option Elab.async false
set_option Elab.async false
set_option linter.all false
set_option maxRecDepth 100000
namespace VL
open PySem PySem.Spec PyProof.Rows L2
end VL
set_option linter.all false
set_option maxRecDepth 100000
set_option Elab.async false
namespace VT
open PySem PySem.Spec PyProof.Rows VL
end VT
set_option linter.all false
set_option maxRecDepth 100000
set_option synthInstance.maxSize 2000
set_option Elab.async false
set_option Elab.async false
set_option linter.all false
set_option maxRecDepth 100000
namespace VL
open PySem PySem.Spec PyProof.Rows L2
end VL
set_option linter.all false
set_option maxRecDepth 100000
set_option Elab.async false
namespace VT
open PySem PySem.Spec PyProof.Rows VL
end VT
set_option linter.all false
set_option maxRecDepth 100000
set_option synthInstance.maxSize 2000
set_option Elab.async false
namespace Law
open VL VT PySem
structure O_PlainBook where
  forest : O_Forest
  hangs : (List (Option Int))
def kC_PlainBook (o : Fl) (x : O_PlainBook) : PV := .obj o "PlainBook" [(kC_Forest .fz) x.forest, (kT (kO PV.int)) x.hangs]
instance : Fz (kC_PlainBook .fz) := ⟨fun _ => rfl⟩
instance : FlE (fun o => kC_PlainBook o) := ⟨fun o a => by cases o <;> rfl, fun _ _ => rfl, fun _ _ => rfl, fun _ => rfl⟩
end Law
set_option Elab.async false
set_option linter.all false
set_option maxRecDepth 100000
namespace My
open PySem PySem.Spec PyProof.Rows L2 PySem.W
/-- the class's method of an operator -/
structure MOp (K : PySem.W.Frag) (C f : Addr) (op : Operator) : Prop where
  at_ : PySem.W.findIn K (.ref C) (PySem.dunder op.info.2) = some (some (.ref f))
  fn : PySem.W.isFn K (.ref f) = true
  sf : PySem.W.selfFirst K C = true
structure DfB (K : PySem.W.Frag) (C : Addr) (op : Operator) (qual : Str) (st : Stmt) (ps : List Str) : Prop where
  ex : ∃ (f : Addr) (fd : FuncData), Fun K (PySem.dunder op.info.2) qual st f fd ∧ Binds K fd ps [] ∧ MOp K C f op
structure DnB (CX : CXT) (P : Program) (w : World) (K : PySem.W.Frag) (mg : Str → Option Value) (base : Heap) (k : Nat) (C : Addr) (op : Operator) (sp : Sp) : Prop where
  ex : ∃ (f : Addr) (fd : FuncData) (ps : List Str), FnG P w K mg base CX k f fd ps sp ∧ MOp K C f op ∧ Binds K fd ps []
section
variable {P : Program} {w : World} {K : PySem.W.Frag} {mg : Str → Option Value} {base : Heap} {C : Addr} {qual : Str} {st : Stmt} {N ps : List Str} {k : Nat} {sp : Sp} {op : Operator}
theorem DfB.okX (F : DfB K C op qual st ps) (S : FnScope N ps (defScope st)) (len : ∀ vs H Q E, sp vs H Q E → vs.length = ps.length)
    (body : ∀ (f : Addr) (cdv : Value) (A : Around) (outer : List Env) (s : Shared) (H : Hp) (vs : List V) (Q : VK) (E : XK),
      RoomG k (A.deeper (envOfC qual (defScope st) s.heap.objs.size f cdv)) → sp vs H Q E →
      ∃ t, PSs (cxOf (L2N.CX P w) P w K mg base N qual (defScope st) f cdv A outer s H E) (defBody st) t ∧
        t { nx := fun _ H' => Q .non H', rt := Q } (start N vs) H) : DnB (L2N.CX P w) P w K mg base (k + 1) C op sp := by
  obtain ⟨f, fd, F, b, m⟩ := F.ex
  exact ⟨f, fd, ps, okG F S len (body f), m, b⟩
end
end My
set_option Elab.async false
set_option linter.all false
set_option maxRecDepth 100000
namespace VL
open PySem PySem.Spec PyProof.Rows L2
end VL
set_option Elab.async false
set_option linter.all false
set_option maxRecDepth 100000
namespace VL
open PySem PySem.Spec PyProof.Rows L2
def oIsC (c : String) : List PV → Option PV
  | [.obj _ c' _, .cls d] => if c' = c ∧ d = c then some (.bl true) else none
  | _ => none
end VL
set_option linter.all false
set_option maxRecDepth 100000
set_option Elab.async false
namespace VT
open PySem VL
theorem isC {o : Fl} {c : String} {xs : List PV} : oIsC c [.obj o c xs, .cls c] = some (.bl true) := by simp [oIsC]
end VT
set_option Elab.async false
set_option linter.all false
set_option maxRecDepth 100000
namespace VL
open PySem PySem.Spec PyProof.Rows L2
end VL
set_option linter.all false
set_option maxRecDepth 100000
set_option Elab.async false
namespace VT
open PySem PySem.Spec PyProof.Rows VL
end VT
set_option linter.all false
set_option maxRecDepth 100000
set_option synthInstance.maxSize 2000
set_option Elab.async false
set_option Elab.async false
set_option linter.all false
set_option maxRecDepth 100000
namespace VL
open PySem PySem.Spec PyProof.Rows L2
def shw (a : PV) : Str := (dat a).shown
def shwOk (a : PV) : Bool := (dat a).canLay0 && ((dat a).showable && (decide ((dat a).depth ≤ 64) && (PyData.strOk (shw a) && decide ((shw a).length ≤ sizeLine))))
def oRepr : List PV → Option PV
  | [a] => if shwOk a = true then some (.str (shw a)) else none
  | _ => none
def rRepr (K : PySem.W.Frag) : List V → Hp → VK → Prop := fun xs H Q => ∃ v d, xs = [v] ∧ Dp K H v d ∧ d.showable = true ∧ d.hasDict = false ∧ d.depth ≤ 64 ∧ d.shown.length ≤ sizeLine ∧ Q (.str d.shown) H
theorem call_reprG {X : Cx} {k : Nat} (r : My.RoomG k X.A) : CallR X (.builtin "repr") (rRepr X.K) := by
  intro pins s σ H xs us Q I rv h
  obtain ⟨v, d, rfl, hd, sh, nd, dp, ln, q⟩ := h
  obtain ⟨u, rfl, ru⟩ := vals1 rv
  obtain ⟨as, R⟩ := Dp.reads I d v u hd ru
  have un := r.un
  have go : ∀ a, u = .ref a → wpAny (model X.prog X.w) X.A (call (.builtin "repr") [u]) (EP X pins σ Q) X.xe s := fun a e => by
    subst e
    exact repr_of_reads' R sh (PyData.noDict_hsm nd) r.gd (by omega) (fun _ _ e => e) (fun h' w tk keep => ⟨.str d.shown, H, I.kept keep, ⟨w, rfl⟩, q⟩) ln
  cases R with
  | none => exact PySem.P.repr_of_none ⟨.str _, H, I.tok _, ⟨_, rfl⟩, q⟩
  | bool b => exact PySem.P.repr_of_bool ⟨.str _, H, I.tok _, ⟨_, rfl⟩, q⟩
  | int i t => exact PySem.P.repr_of_int (by simpa [PyData.showable] using sh) ⟨.str _, H, I.tok _, ⟨_, rfl⟩, q⟩
  | str x t => exact PySem.P.repr_of_str ⟨.str _, H, I.tok _, ⟨_, rfl⟩, q⟩ (by simpa [PyData.shown] using ln)
  | list h1 h2 h3 h4 => exact go _ rfl
  | tuple h1 h2 h3 h4 => exact go _ rfl
  | dict h1 h2 h3 h4 h5 => exact go _ rfl
theorem f_repr {T : Tb} : Fnv T oRepr (rRepr T.K) := by
  intro H l as c vs Q k hl hm e q
  unfold oRepr at e
  split at e
  · rename_i a
    split at e
    · rename_i ok
      cases e
      unfold shwOk at ok
      simp only [Bool.and_eq_true, decide_eq_true_eq] at ok
      obtain ⟨v0, rfl, m0⟩ := one_arg rfl hl hm
      exact ⟨v0, dat a, rfl, k.dp m0 ok.1, ok.2.1, PyData.hasDict_of_canLay _ ok.1, ok.2.2.1, ok.2.2.2.2, q _ _ k.str⟩
    · cases e
  · cases e
end VL
set_option linter.all false
set_option maxRecDepth 100000
set_option Elab.async false
namespace VT
open PySem PySem.Spec PyProof.Rows VL
def rtx (a : PV) : OS := if h : PyData.strOk (shw a) = true then ⟨shw a, h⟩ else lit ""
def trepr (a : PV) : TX OS := if shwOk a = true then .ok (rtx a) else .no
theorem trepr_ok {a : PV} (h : shwOk a = true) : trepr a = .ok (rtx a) := by simp [trepr, h]
theorem shwOk_str {a : PV} (h : shwOk a = true) : PyData.strOk (shw a) = true := by
  unfold shwOk at h
  simp only [Bool.and_eq_true] at h
  exact h.2.2.2.1
theorem shwOk_dat {a b : PV} (e : dat b = dat a) : shwOk b = shwOk a ∧ shw b = shw a := by
  have h : shw b = shw a := by unfold shw; rw [e]
  exact ⟨by unfold shwOk; rw [h, e], h⟩
theorem os_repr {a b : PV} (e : dat b = dat a) : OS1 (oRepr [b]) (trepr a) kS := by
  obtain ⟨e1, e2⟩ := shwOk_dat e
  intro g hg
  unfold trepr at hg
  split at hg
  · rename_i h
    cases hg
    have s := shwOk_str h
    simp only [oRepr, e1, if_pos h, e2, kS, rtx, dif_pos s]
  · cases hg
theorem nx_repr {a : PV} : NoEx (trepr a) := by intro c ys h; unfold trepr at h; split at h <;> cases h
/-- what is told of d: at most n signs, at most k deep -/
structure Sh (n k : Nat) (d : PyData) : Prop where
  lay : d.canLay0 = true
  num : d.showable = true
  dep : d.depth ≤ k
  str : PyData.strOk d.shown = true
  len : d.shown.length ≤ n
theorem Sh.ok {n k : Nat} {a : PV} (h : Sh n k (dat a)) (hn : n ≤ sizeLine) (hk : k ≤ 64) : shwOk a = true := by
  unfold shwOk shw
  simp only [Bool.and_eq_true, decide_eq_true_eq]
  exact ⟨h.lay, h.num, Nat.le_trans h.dep hk, h.str, Nat.le_trans h.len hn⟩
theorem Sh.mono {n m k l : Nat} {d : PyData} (h : Sh n k d) (hn : n ≤ m) (hk : k ≤ l) : Sh m l d := ⟨h.lay, h.num, Nat.le_trans h.dep hk, h.str, Nat.le_trans h.len hn⟩
theorem strOk_app {x y : Str} (h : PyData.strOk x = true) (h2 : PyData.strOk y = true) : PyData.strOk (x ++ y) = true := by
  show PyData.strOk ⟨x.cps ++ y.cps⟩ = true
  unfold PyData.strOk at *
  simp only [Array.all_eq_true', decide_eq_true_eq] at *
  intro c hc
  rcases Array.mem_append.mp hc with hc | hc
  · exact h c hc
  · exact h2 c hc
theorem strOk_of (s : String) : PyData.strOk (Str.ofString s) = true := by
  rw [Str.ofString_eq_toList]
  unfold PyData.strOk
  simp only [Array.all_eq_true', decide_eq_true_eq]
  intro c hc
  obtain ⟨ch, _, rfl⟩ := List.mem_map.mp (by simpa using hc)
  have := ch.valid
  simp only [UInt32.isValidChar, Nat.isValidChar] at this
  show ch.val.toNat < _
  omega
theorem sh_int {i : Int} (h : i.natAbs.log2 < 1920) : Sh 1921 0 (.int i) := ⟨by simp [PyData.canLay0], by simpa [PyData.showable] using h, by simp [PyData.depth], by simp only [PyData.shown]; exact strOk_of _, by simp only [PyData.shown]; exact int_text_len_1921 h⟩
theorem shownAll_eq : ∀ ds : List PyData, PyData.shownAll ds = ds.map PyData.shown
  | [] => by simp [PyData.shownAll]
  | d :: ds => by simp only [PyData.shownAll, List.map_cons, shownAll_eq ds]
theorem strOk_join : ∀ ts : List Str, (∀ t ∈ ts, PyData.strOk t = true) → PyData.strOk (Str.join ", " ts) = true
  | [], _ => by decide +kernel
  | [t], h => h t List.mem_cons_self
  | t :: u :: ts, h => by
    show PyData.strOk (t ++ (", " : String) ++ Str.join ", " (u :: ts)) = true
    exact strOk_app (strOk_app (h t List.mem_cons_self) (strOk_of _)) (strOk_join (u :: ts) fun x hx => h x (List.mem_cons_of_mem _ hx))
theorem piled_le {n m : Nat} : ∀ {ts : List Str}, (∀ t ∈ ts, t.length ≤ n) → ts.length ≤ m → piled ts ≤ m * (n + 2)
  | [], _, _ => by rw [piled_nil]; exact Nat.zero_le _
  | t :: ts, h, hm => by
    rw [piled_cons]
    obtain ⟨m, rfl⟩ : ∃ m', m = m' + 1 := ⟨m - 1, by simp at hm; omega⟩
    have := piled_le (n := n) (m := m) (ts := ts) (fun x hx => h x (List.mem_cons_of_mem _ hx)) (by simpa using hm)
    have := h t List.mem_cons_self
    rw [Nat.succ_mul]
    omega
theorem join_le {n m : Nat} {ts : List Str} (h : ∀ t ∈ ts, t.length ≤ n) (hm : ts.length ≤ m) : (Str.join ", " ts).length ≤ m * (n + 2) := by
  by_cases e : ts = []
  · subst e
    exact Nat.le_trans (show (Str.join ", " []).length ≤ 0 by decide +kernel) (Nat.zero_le _)
  · have := join_length_add ts e
    have := piled_le h hm
    omega
theorem sh_list {n k m : Nat} {ds : List PyData} (h : ∀ d ∈ ds, Sh n k d) (hm : ds.length ≤ m) : Sh (m * (n + 2) + 2) (k + 1) (.list ds) := by
  have e : (PyData.list ds).shown = ("[" : Str) ++ Str.join ", " (ds.map PyData.shown) ++ "]" := by simp only [PyData.shown]; rw [shownAll_eq, listText_eq_join]
  refine ⟨by simp only [PyData.canLay0]; exact canAll.mpr fun d hd => (h d hd).lay, ?_, by simp only [PyData.depth]; have := depAll.mpr fun d hd => (h d hd).dep; omega, ?_, ?_⟩
  · simp only [PyData.showable]
    clear hm e
    induction ds with
    | nil => simp [PyData.showableAll]
    | cons d ds ih => simp only [PyData.showableAll, (h d List.mem_cons_self).num, Bool.true_and]; exact ih fun x hx => h x (List.mem_cons_of_mem _ hx)
  · rw [e]
    exact strOk_app (strOk_app (strOk_of _) (strOk_join _ fun t ht => by obtain ⟨d, hd, rfl⟩ := List.mem_map.mp ht; exact (h d hd).str)) (strOk_of _)
  · rw [e, strLen_append, strLen_append]
    have := join_le (n := n) (m := m) (ts := ds.map PyData.shown) (fun t ht => by obtain ⟨d, hd, rfl⟩ := List.mem_map.mp ht; exact (h d hd).len) (by simpa using hm)
    have e1 : ("[" : Str).length = 1 := by decide +kernel
    have e2 : (("]" : String) : Str).length = 1 := by decide +kernel
    omega
theorem sh_tuple {n k m : Nat} {ds : List PyData} (h : ∀ d ∈ ds, Sh n k d) (hm : ds.length ≤ m) : Sh (m * (n + 2) + 3) (k + 1) (.tuple ds) := by
  have e : (PyData.tuple ds).shown = ("(" : Str) ++ Str.join ", " (ds.map PyData.shown) ++ (if (ds.map PyData.shown).length == 1 then ",)" else ")" : String) := by simp only [PyData.shown]; rw [shownAll_eq]; rfl
  refine ⟨by simp only [PyData.canLay0]; exact canAll.mpr fun d hd => (h d hd).lay, ?_, by simp only [PyData.depth]; have := depAll.mpr fun d hd => (h d hd).dep; omega, ?_, ?_⟩
  · simp only [PyData.showable]
    clear hm e
    induction ds with
    | nil => simp [PyData.showableAll]
    | cons d ds ih => simp only [PyData.showableAll, (h d List.mem_cons_self).num, Bool.true_and]; exact ih fun x hx => h x (List.mem_cons_of_mem _ hx)
  · rw [e]
    exact strOk_app (strOk_app (strOk_of _) (strOk_join _ fun t ht => by obtain ⟨d, hd, rfl⟩ := List.mem_map.mp ht; exact (h d hd).str)) (strOk_of _)
  · rw [e, strLen_append, strLen_append]
    have := join_le (n := n) (m := m) (ts := ds.map PyData.shown) (fun t ht => by obtain ⟨d, hd, rfl⟩ := List.mem_map.mp ht; exact (h d hd).len) (by simpa using hm)
    have e1 : ("(" : Str).length = 1 := by decide +kernel
    have e2 : ((if (ds.map PyData.shown).length == 1 then ",)" else ")" : String) : Str).length ≤ 2 := by
      split <;> decide +kernel
    omega
end VT
set_option linter.all false
set_option maxRecDepth 100000
set_option synthInstance.maxSize 2000
set_option Elab.async false
set_option Elab.async false
set_option linter.all false
set_option maxRecDepth 100000
namespace VL
open PySem PySem.Spec PyProof.Rows L2 L2H HotX
theorem _root_.L2H.RoomH.units {k : Nat} {A : Around} (r : RoomH k A) : A.units + 64 < cLine := by have := r.un; omega
end VL
set_option Elab.async false
set_option linter.all false
set_option maxRecDepth 100000
namespace VL
open PySem PySem.Spec PyProof.Rows L2
end VL
set_option linter.all false
set_option maxRecDepth 100000
set_option Elab.async false
namespace VT
open PySem PySem.Spec PyProof.Rows VL
end VT
set_option linter.all false
set_option maxRecDepth 100000
set_option synthInstance.maxSize 2000
set_option Elab.async false
namespace Law
open VL VT PySem
@[irreducible] def t_Forest__leaves (a_self : O_Forest) : TX (List Int) :=
TX.bind (trg 0 a_self.fields) fun v1 =>
TX.bind (tlcP v1 fun x2 =>
if (!(tmem (some x2) a_self.parents)) = true then (.ok (some x2)) else .ok none) fun v6 =>
.ok v6
@[irreducible] def t_ranked_leaves (a_forest : O_Forest) : TX (List Int) :=
TX.bind (nox (t_Forest__leaves a_forest)) fun v1 =>
TX.bind (tlcP v1 fun x2 =>
TX.bind (tix a_forest.kinds x2) fun v6 =>
TX.bind (t_is_ranked v6) fun v7 =>
if v7 = true then (.ok (some x2)) else .ok none) fun v8 =>
.ok v8
@[irreducible] def t_Forest__children (a_self : O_Forest) (a_field : (Option Int)) : TX (List Int) :=
TX.bind (trg 0 a_self.fields) fun v1 =>
TX.bind (tlcP v1 fun x2 =>
TX.bind (tix a_self.parents x2) fun v6 =>
if (teq v6 a_field) = true then (.ok (some x2)) else .ok none) fun v7 =>
.ok v7
@[irreducible] def t_hung_classes (a_forest : O_Forest) (a_kind : OS) : TX (List ((Option Int) × (List Int))) :=
TX.bind (trg 0 a_forest.fields) fun v1 =>
TX.bind (tcat [(none : (Option Int))] (v1.map fun (z : Int) => (some z))) fun v2 =>
TX.bind (tfold v2 (([] : (List ((Option Int) × (List Int)))) : ((List ((Option Int) × (List Int))))) fun s4 x3 =>
TX.bind (t_Forest__children a_forest x3) fun v11 =>
TX.bind (tlcP v11 fun x12 =>
TX.bind (tix a_forest.kinds x12) fun v17 =>
if (teq v17 a_kind) = true then (.ok (some x12)) else .ok none) fun v18 =>
TX.bind (
if (!v18.isEmpty) = true then (
TX.bind (tapp s4 (x3, v18)) fun v21 =>
.ok v21) else (
.ok s4)) fun s22 =>
.ok s22) fun s26 =>
.ok s26
@[irreducible] def t_class_count (a_forest : O_Forest) : TX Int :=
TX.bind (t_ranked_leaves a_forest) fun v1 =>
TX.bind (t_hung_classes a_forest (lit "first")) fun v2 =>
TX.bind (t_hung_classes a_forest (lit "last")) fun v3 =>
.ok (((v1.length : Int) + (v2.length : Int)) + (v3.length : Int))
@[irreducible] def t__law_class_count (a_parents_here : (List (Option Int))) (a_kinds_here : (List OS)) : TX Int :=
TX.bind (trg 0 (a_parents_here.length : Int)) fun v1 =>
TX.bind (tfold v1 ((0 : Int) : (Int)) fun s3 x2 =>
TX.bind (
TX.bind (if (!(tmem (some x2) a_parents_here)) = true then (TX.bind (tix a_kinds_here x2) fun v10 =>
.ok (tmem v10 [(lit "up"), (lit "down")])) else .ok false) fun v11 =>
if v11 = true then (
.ok (s3 + (1 : Int))) else (
.ok s3)) fun s12 =>
.ok s12) fun s17 =>
TX.bind (trg 0 (a_parents_here.length : Int)) fun v23 =>
TX.bind (tcat [(none : (Option Int))] (v23.map fun (z : Int) => (some z))) fun v24 =>
TX.bind (tfold v24 (s17 : (Int)) fun s26 x25 =>
TX.bind (trg 0 (a_parents_here.length : Int)) fun v33 =>
TX.bind (tlcP v33 fun x34 =>
TX.bind (tix a_parents_here x34) fun v39 =>
if (teq v39 x25) = true then (TX.bind (tix a_kinds_here x34) fun v40 =>
.ok (some v40)) else .ok none) fun v41 =>
.ok ((s26 + (b2i (tmem (lit "first") v41))) + (b2i (tmem (lit "last") v41)))) fun s44 =>
.ok s44
end Law
set_option linter.all false
set_option maxRecDepth 100000
set_option Elab.async false
namespace VT
open PySem PySem.Spec PyProof.Rows VL
section
variable {α : Type}
instance {E : Fl → α → PV} [FlE E] : FlE (fun o => kO (E o)) := ⟨fun o a => by cases a with
  | none => rfl
  | some a => exact FlE.io (E := E) o a, fun o a => by cases a with
  | none => rfl
  | some a => exact FlE.ne (E := E) o a, fun o a => by cases a with
  | none => rfl
  | some a => exact FlE.em (E := E) o a, fun a => by cases a with
  | none => rfl
  | some a => exact FlE.iw (E := E) a⟩
instance {E : Fl → α → PV} [FlZ E] : FlZ (fun o => kO (E o)) := ⟨fun o a => by cases a with
  | none => rfl
  | some a => exact FlZ.sf (E := E) o a, fun a => by cases a with
  | none => rfl
  | some a => exact FlZ.fo (E := E) a⟩
end
end VT
set_option linter.all false
set_option maxRecDepth 100000
set_option synthInstance.maxSize 2000
set_option Elab.async false
namespace Law
open VL VT PySem
@[irreducible] def t_zeros_raised (a_forest : O_Forest) (a_fields : (List Int)) : TX (List Int) :=
TX.bind (tlcP (tenum a_forest.kinds) fun x1 =>
TX.bind (if (tmem x1.1 a_fields) = true then (TX.bind (t_raised x1.2 (0 : Int) (1 : Int)) fun v6 =>
.ok v6) else (.ok (0 : Int))) fun v7 =>
.ok (some v7)) fun v10 =>
.ok v10
end Law
set_option Elab.async false
set_option linter.all false
set_option maxRecDepth 100000
namespace VL
open PySem PySem.Spec PyProof.Rows L2
end VL
set_option linter.all false
set_option maxRecDepth 100000
set_option Elab.async false
namespace VT
open PySem PySem.Spec PyProof.Rows VL
end VT
set_option linter.all false
set_option maxRecDepth 100000
set_option synthInstance.maxSize 2000
set_option Elab.async false
set_option Elab.async false
set_option linter.all false
set_option maxRecDepth 100000
namespace VL
open PySem PySem.Spec PyProof.Rows L2
def leD (a b : PV) : Bool := PySem.W.dataLe false dat a b
def tupD : PyData → Bool
  | .tuple (_ :: _) => true
  | _ => false
def othD : PyData → Bool
  | .none => false
  | .tuple _ => false
  | _ => true
def okSortD (xs : List PV) : Bool := (xs.all fun a => (dat a).canLay0 && decide ((dat a).depth ≤ 60)) && ((xs.all fun a => xs.all fun b => PySem.W.alike (dat a) (dat b)) && ((xs.all fun a => tupD (dat a)) || xs.all fun a => othD (dat a)))
def oSortD : List PV → Option PV
  | [.lst _ xs] => if okSortD xs = true then some (.lst .ow (xs.mergeSort leD)) else none
  | _ => none
def rSortD (K : PySem.W.Frag) : List V → Hp → VK → Prop := fun vs H Q => ∃ (a : Addr) (L : List (V × PV)), vs = [V.ref a] ∧ SqL K H a (L.map (·.1)) ∧ (∀ p ∈ L, Dp K H p.1 (dat p.2) ∧ (dat p.2).depth ≤ 60) ∧ PySem.W.AllAlike (L.map fun p => dat p.2) ∧ PySem.W.Sortable (L.map fun p => dat p.2) ∧
  ∀ p, H p = none → Q (.ref p) (upd H p (.lst ((L.mergeSort (PySem.W.dataLe false fun p => dat p.2)).map (·.1))))
theorem vals_each : ∀ {L : List (V × PV)} {us : List Value}, Vals (L.map (·.1)) us → PySem.W.EachIs (fun v (p : V × PV) => RelV p.1 v) us L
  | [], _, r => by cases r; exact .nil
  | _ :: _, _, r => by
    cases r with
    | cons h t => exact .cons h (vals_each t)
theorem each_vals : ∀ {L : List (V × PV)} {us : List Value}, PySem.W.EachIs (fun v (p : V × PV) => RelV p.1 v) us L → Vals (L.map (·.1)) us
  | _, _, .nil => .nil
  | _, _, .cons h t => .cons h (each_vals t)
theorem each_reads {X : Cx} {pins : List (Addr × Obj)} {σ : L2.St} {H : Hp} {s : Shared} (I : Inv X pins σ H s) : ∀ {L : List (V × PV)} {us : List Value}, (∀ p ∈ L, Dp X.K H p.1 (dat p.2)) → PySem.W.EachIs (fun v (p : V × PV) => RelV p.1 v) us L → PySem.W.EachIs (fun v (p : V × PV) => ∃ as, Reads s.heap v (dat p.2) as) us L
  | _, _, _, .nil => .nil
  | _, _, hL, .cons h t => .cons (Dp.reads I _ _ _ (hL _ List.mem_cons_self) h) (each_reads I (fun p hp => hL p (List.mem_cons_of_mem _ hp)) t)
theorem call_sortD {X : Cx} {k : Nat} (r : My.RoomG k X.A) : CallR X (.builtin "sorted") (rSortD X.K) := by
  intro pins s σ H vs us Q I rv0 h
  obtain ⟨a, L, rfl, hs, hL, al, so, q⟩ := h
  obtain ⟨its, rv, hl, hz⟩ := I.list hs
  obtain ⟨u, rfl, ru⟩ := vals1 rv0
  obtain rfl : u = Value.ref a := ru
  have e := vals_each rv
  have hlen : its.length = L.length := e.length
  have un := hu65 r
  refine PySem.W.sorted_data (s := s) hl.isList e (each_reads I (fun p hp => (hL p hp).1) e) al so (by rw [← hlen]; have := rv.length; omega) (fun p hp => by
    have := (hL p hp).2
    show X.A.units + 2 + (dat p.2).depth < cLine
    omega) fun out lo eo => ?_
  obtain ⟨n, hn⟩ := sortedAll_at s.heap its (List.toArray out)
  have vo := each_vals eo
  refine ⟨.ref (s.heap.objs.size + 1), _, I.laid (o := .lst ((L.mergeSort (PySem.W.dataLe false fun p => dat p.2)).map (·.1))) (fun b o e => sortedAll_old e) (Nat.le_succ _) ⟨?_, out, n, vo, hn⟩, rfl, q _ (I.hok.fresh (Nat.le_succ _))⟩
  have h1 := vo.length
  have h2 := rv.length
  omega
theorem reps_zipD {T : Tb} {F : Hp} : ∀ {xs : List PV} {vs : List V}, Reps T F xs vs → (vs.zip xs).map (·.1) = vs ∧ (vs.zip xs).map (·.2) = xs ∧ ∀ p ∈ vs.zip xs, Rep T F p.2 p.1 ∧ p.2.own = false
  | [], vs, r => by
    have : vs = ([] : List V) := by simpa only [Reps] using r
    subst this
    exact ⟨rfl, rfl, fun p h => by cases h⟩
  | n :: ns, _, r => by
    obtain ⟨w, ws, rfl, h1, ho, h2⟩ := r.inv
    obtain ⟨e1, e2, e3⟩ := reps_zipD h2
    refine ⟨by rw [List.zip_cons_cons, List.map_cons, e1], by rw [List.zip_cons_cons, List.map_cons, e2], fun p hp => ?_⟩
    rw [List.zip_cons_cons] at hp
    rcases List.mem_cons.mp hp with rfl | hp
    · exact ⟨h1, ho⟩
    · exact e3 p hp
theorem reps_ofD {T : Tb} {F : Hp} : ∀ {L : List (V × PV)}, (∀ p ∈ L, Rep T F p.2 p.1 ∧ p.2.own = false) → Reps T F (L.map (·.2)) (L.map (·.1))
  | [], _ => .nil
  | p :: L, h => .cons (h p List.mem_cons_self).1 (h p List.mem_cons_self).2 (reps_ofD fun q hq => h q (List.mem_cons_of_mem _ hq))
theorem f_sortD {T : Tb} : Fnv T oSortD (rSortD T.K) := by
  intro H l as c vs Q k hl hm e q
  unfold oSortD at e
  split at e
  · rename_i o xs
    split at e
    · rename_i ok
      cases e
      unfold okSortD at ok
      simp only [Bool.and_eq_true, Bool.or_eq_true, List.all_eq_true, decide_eq_true_eq] at ok
      obtain ⟨ok1, ok2, ok3⟩ := ok
      obtain ⟨v, rfl, m⟩ := one_arg rfl hl hm
      obtain ⟨p, vs, rfl, h1, hl2, F, s, r⟩ := k.g_lst m
      obtain ⟨e1, e2, e3⟩ := reps_zipD r
      have memx : ∀ x ∈ vs.zip xs, x.2 ∈ xs := fun x hx => by rw [← e2]; exact List.mem_map.mpr ⟨x, hx, rfl⟩
      have em : (vs.zip xs).map (fun p => dat p.2) = xs.map dat := by
        have : (fun p : V × PV => dat p.2) = dat ∘ (·.2) := rfl
        rw [this, ← List.map_map, e2]
      refine ⟨p, vs.zip xs, rfl, by rw [e1]; exact SqL.of h1, fun x hx => ?_, ?_, ?_, fun t ht => q _ _ ?_⟩
      · refine ⟨?_, (ok1 _ (memx x hx)).2⟩
        have kk := k.add (e3 x hx).2 fun F s o => ((reps_zipD (reps_lst s o m h1)).2.2 x hx).1
        exact kk.dp List.mem_cons_self (ok1 _ (memx x hx)).1
      · rw [em]
        intro d hd d' hd'
        obtain ⟨x, hx, rfl⟩ := List.mem_map.mp hd
        obtain ⟨y, hy, rfl⟩ := List.mem_map.mp hd'
        exact ok2 x hx y hy
      · rw [em]
        rcases ok3 with h | h
        · refine .inl fun d hd => ?_
          obtain ⟨x, hx, rfl⟩ := List.mem_map.mp hd
          have := h x hx
          unfold tupD at this
          split at this
          · rename_i y r e; exact ⟨y, r, e⟩
          · cases this
        · refine .inr fun d hd => ?_
          obtain ⟨x, hx, rfl⟩ := List.mem_map.mp hd
          have := h x hx
          unfold othD at this
          refine ⟨fun z => ?_, fun ys z => ?_⟩
          · rw [z] at this; cases this
          · rw [z] at this; cases this
      · have eS : ((vs.zip xs).mergeSort (PySem.W.dataLe false fun p => dat p.2)).map (·.2) = xs.mergeSort leD := by
          rw [List.map_mergeSort (r := PySem.W.dataLe false fun p : V × PV => dat p.2) (s := leD) (f := fun p : V × PV => p.2) (fun a _ b _ => rfl), e2]
        rw [← eS]
        refine Hold.new_own k ht rfl fun F' s' o' => ⟨t, _, rfl, upd_same, ?_⟩
        have r' := reps_lst s' o' m h1
        obtain ⟨_, _, e3'⟩ := reps_zipD r'
        exact reps_ofD fun x hx => e3' x ((List.mergeSort_perm _ _).mem_iff.mp hx)
    · cases e
  · cases e
def oSortedB (as : List PV) : Option PV := match oSortedA as with
  | some r => some r
  | none => oSortD as
theorem f_sortedB {T : Tb} : Fnv T oSortedB (fun xs H Q => (rSortedI T.K xs H Q ∨ rSortedPS T.K xs H Q) ∨ rSortD T.K xs H Q) := by
  intro H l as c vs Q k hl hm e q
  unfold oSortedB at e
  split at e
  · rename_i r er
    cases e
    exact .inl (f_sortedA H l _ c vs Q k hl hm er q)
  · exact .inr (f_sortD H l _ c vs Q k hl hm e q)
end VL
namespace VL
open PySem PySem.Spec PyProof.Rows L2
section
variable {g : G} {X : Cx} {a : Expr} {fa : M Hd} {k : Nat} {p1 p2 p3 pos : Pos}
/-- a[::-1] -/
theorem ev_revSl (hK : X.K = g.T.K) (ha : EV g X a fa) : EV g X (.Subscript a (.Slice none none (some (.UnaryOp .USub (.Constant (.int 1) k p1) p2)) p3) pos) (eFn oRevL (aCons fa aNil)) := by
  rw [revL_un]
  exact ev_of (pe_revL ha) fun σ H Q ρ τ ft h hP => stepE (ε := []) ft (nilT h) hP fun h1 ρ1 hP1 v H1 f1 s1 k1 => by
    rw [List.nil_append] at k1
    cases e : oRevL [hv ρ1 h1] with
    | none => simp only [e] at hP1; exact hP1.elim
    | some d =>
      simp only [e] at hP1
      have m := mem_hv (τ := τ) f1 s1
      cases e2 : hv ρ1 h1 <;> rw [e2] at e m <;> simp only [oRevL] at e <;> try cases e
      rename_i o xs
      obtain ⟨q, vs, rfl, h2, l1, _⟩ := k1.g_lst m
      refine ⟨q, vs, rfl, by rw [hK]; exact SqL.of h2, fun t ht => hP1 _ _ f1 slot_tm ?_⟩
      have kk : Hold g.T (upd H1 t (.lst vs.reverse)) ((PV.lst .ow xs.reverse, V.ref t) :: _) := Hold.new_own k1 ht rfl fun F s o' => ⟨t, _, rfl, upd_same, (reps_lst s o' m h2).reverse⟩
      exact kk.sub (.cons_cons _ (List.sublist_append_right ..))
end
end VL
set_option linter.all false
set_option maxRecDepth 100000
set_option Elab.async false
namespace VT
open PySem PySem.Spec PyProof.Rows VL
/-- data with an order of their own -/
class Od {α : Type} [DecidableEq α] (e : α → PV) where
  lt : α → α → Bool
  al : ∀ a b, PySem.W.alike (dat (e a)) (dat (e b)) = true
  lt_eq : ∀ a b, PySem.W.dataLt (dat (e a)) (dat (e b)) = lt a b
  ev : ∀ a b, PyData.eqv (dat (e a)) (dat (e b)) = decide (a = b)
instance : Od PV.int where
  lt a b := decide (a < b)
  al a b := by simp [dat, PySem.W.alike]
  lt_eq a b := by show PySem.W.dataLt (dat (.int a)) (dat (.int b)) = _; rw [dat_int, dat_int]; exact PySem.W.dataLt_int a b
  ev a b := by simp [dat, PyData.eqv]; rfl
section
variable {α β : Type} [DecidableEq α] [DecidableEq β] {e : α → PV} {f : β → PV} [Od e] [Od f]
def ltL (e : α → PV) [Od e] : List α → List α → Bool
  | [], [] => false
  | [], _ :: _ => true
  | _ :: _, [] => false
  | x :: xs, y :: ys => if x = y then ltL e xs ys else Od.lt e x y
def ltP2 (e : α → PV) (f : β → PV) [Od e] [Od f] (p q : α × β) : Bool := if p.1 = q.1 then Od.lt f p.2 q.2 else Od.lt e p.1 q.1
theorem lt_irr (a : α) : Od.lt e a a = false := by rw [← Od.lt_eq]; exact PyProof.Rows.lex_irrefl _
theorem al_all : ∀ xs ys : List α, PySem.W.alikeAll (xs.map fun a => dat (e a)) (ys.map fun a => dat (e a)) = true
  | [], _ => by rw [List.map_nil, PySem.W.alikeAll]
  | _ :: _, [] => by rw [List.map_nil, List.map_cons, PySem.W.alikeAll]
  | x :: xs, y :: ys => by
    rw [List.map_cons, List.map_cons, PySem.W.alikeAll, Od.al x y, al_all xs ys]
    rfl
theorem lx_all : ∀ xs ys : List α, PyProof.Rows.lexLt PyProof.Rows.itemOrd (PySem.W.keyToksAll (xs.map fun a => dat (e a))) (PySem.W.keyToksAll (ys.map fun a => dat (e a))) = ltL e xs ys
  | [], [] => PyProof.Rows.lex_irrefl _
  | [], y :: ys => by
    rw [List.map_nil, List.map_cons, PySem.W.toks_all_cons]
    simp only [PySem.W.keyToksAll]
    rw [PyProof.Rows.lex_diff (O := PyProof.Rows.itemOrd) (by simp)]
    rfl
  | x :: xs, [] => by
    rw [List.map_nil, List.map_cons, PySem.W.toks_all_cons]
    simp only [PySem.W.keyToksAll]
    rw [PyProof.Rows.lex_diff (O := PyProof.Rows.itemOrd) (by simp)]
    rfl
  | x :: xs, y :: ys => by
    rw [List.map_cons, List.map_cons, ltL]
    by_cases h : x = y
    · rw [if_pos h, PySem.W.dataLt_all_yes (Od.al x y) (by rw [Od.ev, decide_eq_true_eq]; exact h), lx_all xs ys]
    · rw [if_neg h, PySem.W.dataLt_all_no (Od.al x y) (by rw [Od.ev, decide_eq_false_iff_not]; exact h)]
      exact Od.lt_eq x y
theorem dat_kT (xs : List α) : dat (kT e xs) = .tuple (xs.map fun a => dat (e a)) := by
  unfold kT
  rw [dat_tup, List.map_map]
  rfl
theorem eqv_all : ∀ xs ys : List α, PyData.eqvAll (xs.map fun a => dat (e a)) (ys.map fun a => dat (e a)) = decide (xs = ys)
  | [], [] => by simp [PyData.eqvAll]
  | [], _ :: _ => by simp [PyData.eqvAll]
  | _ :: _, [] => by simp [PyData.eqvAll]
  | x :: xs, y :: ys => by
    simp only [List.map_cons, PyData.eqvAll, Od.ev, eqv_all xs ys]
    by_cases h : x = y <;> by_cases h2 : xs = ys <;> simp [h, h2]
instance : Od (kT e) where
  lt := ltL e
  al xs ys := by rw [dat_kT, dat_kT]; simp only [PySem.W.alike]; exact al_all (e := e) xs ys
  lt_eq xs ys := by rw [dat_kT, dat_kT]; exact (PySem.W.dataLt_tuple _ _).trans (lx_all (e := e) xs ys)
  ev xs ys := by rw [dat_kT, dat_kT]; simp only [PyData.eqv]; exact eqv_all (e := e) xs ys
theorem dat_kP2 (p : α × β) : dat (kP2 e f p) = .tuple [dat (e p.1), dat (f p.2)] := by
  unfold kP2
  rw [dat_tup]
  rfl
instance : Od (kP2 e f) where
  lt := ltP2 e f
  al p q := by
    rw [dat_kP2, dat_kP2]
    simp only [PySem.W.alike, PySem.W.alikeAll, Od.al, Bool.and_self]
  lt_eq p q := by
    rw [dat_kP2, dat_kP2, PySem.W.dataLt_pair (Od.al p.1 q.1) (Od.al p.2 q.2), Od.ev, Od.ev, Od.lt_eq, Od.lt_eq]
    unfold ltP2
    by_cases h : p.1 = q.1
    · rw [if_pos (decide_eq_true h), if_pos h]
      by_cases h2 : p.2 = q.2
      · rw [if_pos (decide_eq_true h2), h2, lt_irr]
      · rw [if_neg (by simpa using h2)]
    · rw [if_neg (by simpa using h), if_neg h]
  ev p q := by
    rw [dat_kP2, dat_kP2]
    simp only [PyData.eqv, PyData.eqvAll, Od.ev]
    obtain ⟨a, b⟩ := p
    obtain ⟨c, d⟩ := q
    by_cases h : a = c <;> by_cases h2 : b = d <;> simp [h, h2]
/-- what may be sorted, and isn't what another rule sorts -/
class SoD (e : α → PV) : Prop where
  tup : ∀ a, tupD (dat (e a)) = true
  no1 : ∀ a r, intsOf (e a :: r) = none
  no2 : ∀ a r, pairsI (e a :: r) = none
instance {α : Type} {e : α → PV} : SoD (kP2 PV.int (kT e)) := ⟨fun a => by unfold kP2; rw [dat_tup]; rfl, fun _ _ => rfl, fun _ _ => rfl⟩
instance {α : Type} {e : α → PV} : SoD (kP2 (kT e) PV.int) := ⟨fun a => by unfold kP2; rw [dat_tup]; rfl, fun _ _ => rfl, fun _ _ => rfl⟩
def leT (e : α → PV) [Od e] (a b : α) : Bool := !Od.lt e b a
def sortT (e : α → PV) [Od e] (xs : List α) : List α := xs.mergeSort (leT e)
theorem leD_T (a b : α) : leD (e a) (e b) = leT e a b := by
  show (!PySem.W.dataLt (dat (e b)) (dat (e a))) = _
  rw [Od.lt_eq]
  rfl
theorem okSort {n : Nat} [Dp e n] [SoD e] (hn : n ≤ 60) (xs : List α) : okSortD (xs.map e) = true := by
  unfold okSortD
  simp only [Bool.and_eq_true, Bool.or_eq_true, List.all_eq_true, decide_eq_true_eq]
  refine ⟨fun x hx => ?_, fun x hx y hy => ?_, .inl fun x hx => ?_⟩
  · obtain ⟨a, _, rfl⟩ := List.mem_map.mp hx
    exact ⟨Dp.cl a, Nat.le_trans (Dp.dp a) hn⟩
  · obtain ⟨a, _, rfl⟩ := List.mem_map.mp hx
    obtain ⟨b, _, rfl⟩ := List.mem_map.mp hy
    exact Od.al a b
  · obtain ⟨a, _, rfl⟩ := List.mem_map.mp hx
    exact SoD.tup a
theorem sortedB_D {n : Nat} {o : Fl} {xs : List α} [Dp e n] [SoD e] (hn : n ≤ 60 := by decide) : oSortedB [kL o e xs] = some (kL .ow e (sortT e xs)) := by
  have d : oSortD [kL o e xs] = some (kL .ow e (sortT e xs)) := by
    unfold kL oSortD sortT
    simp only [okSort hn xs, if_true]
    rw [List.map_mergeSort (r := leT e) (s := leD) (f := e) (fun a _ b _ => (leD_T a b).symm)]
  cases xs with
  | nil =>
    unfold sortT
    rw [List.mergeSort_nil]
    rfl
  | cons x xs =>
    unfold oSortedB
    have a0 : oSortedA [kL o e (x :: xs)] = none := by
      unfold kL oSortedA
      simp only [List.map_cons, SoD.no1, SoD.no2, Option.map_none]
    rw [a0]
    exact d
end
end VT
set_option linter.all false
set_option maxRecDepth 100000
set_option synthInstance.maxSize 2000
set_option Elab.async false
namespace Law
open VL VT PySem
@[irreducible] def t_hung_by_way (a_forest : O_Forest) (a_kind : OS) : TX (List (List Int)) :=
TX.bind (t_hung_classes a_forest a_kind) fun v1 =>
TX.bind (tlcP v1 fun x2 =>
TX.bind (tix x2.2 (0 : Int)) fun v6 =>
TX.bind (t_Forest__path a_forest v6) fun v7 =>
.ok (some ((v7.length : Int), x2.2))) fun v8 =>
TX.bind (tlcP (sortT (kP2 PV.int (kT PV.int)) v8) fun x11 =>
.ok (some x11.2)) fun v15 =>
.ok v15
@[irreducible] def t_needy_row (a_forest : O_Forest) : TX (List (List Int)) :=
TX.bind (t_hung_by_way a_forest (lit "first")) fun v1 =>
TX.bind (t_ranked_leaves a_forest) fun v2 =>
TX.bind (tlcP v2 fun x3 =>
.ok (some [x3])) fun v7 =>
TX.bind (tcat v1 v7) fun v10 =>
TX.bind (t_hung_by_way a_forest (lit "last")) fun v11 =>
TX.bind (tcat v10 v11.reverse) fun v12 =>
TX.bind (tlcP v12 fun x13 =>
TX.bind (tix x13 (0 : Int)) fun v17 =>
TX.bind (t_Forest__path a_forest v17) fun v18 =>
TX.bind (tcat v18 x13) fun v19 =>
TX.bind (t_zeros_raised a_forest v19) fun v20 =>
.ok (some v20)) fun v21 =>
.ok v21
@[irreducible] def t__law_needs_all (a_parents_here : (List (Option Int))) (a_kinds_here : (List OS)) (a_row : (List (List Int))) : TX Bool :=
TX.bind (t__law_fold a_parents_here a_kinds_here a_row) fun v1 =>
TX.bind (trg 0 (a_row.length : Int)) fun v2 =>
TX.bind (tfor v2 (() : Unit) fun s4 x3 =>
TX.bind (tcat (tcut a_row none (some x3)) (tcut a_row (some (x3 + (1 : Int))) none)) fun v10 =>
TX.bind (if (!(teq v10 ([] : (List (List Int))))) = true then (TX.bind (t__law_fold a_parents_here a_kinds_here v10) fun v11 =>
.ok (teq v11 v1)) else .ok false) fun v12 =>
if v12 = true then (
.ok (.rt false)) else (
.ok (.nx ()))) (Go.elim (σ := Unit) (β := Bool) (fun s13 =>
.ok true) fun b18 => .ok b18)
@[irreducible] def t__law_is_needy (a_forest : O_Forest) (a_parents_here : (List (Option Int))) (a_kinds_here : (List OS)) : TX Bool :=
TX.bind (t_class_count a_forest) fun v1 =>
TX.bind (t__law_is_integer_v3 v1) fun v2 =>
TX.bind (if (!v2) = true then .ok true else (TX.bind (t__law_class_count a_parents_here a_kinds_here) fun v3 =>
.ok (!(teq v1 v3)))) fun v4 =>
if v4 = true then (
.ok false) else (
TX.bind (t_needy_row a_forest) fun v5 =>
if ((!true) || (!(teq (v5.length : Int) v1))) = true then (
.ok false) else (
TX.bind (tfor v5 (() : Unit) fun s7 x6 =>
TX.bind (t__law_is_record x6 (a_parents_here.length : Int)) fun v13 =>
if (!v13) = true then (
.ok (.rt false)) else (
TX.bind (tlcP x6 fun x14 =>
if (!((decide ((-(1 : Int)) ≤ x14)) && (decide (x14 ≤ (1 : Int))))) = true then (.ok (some x14)) else .ok none) fun v18 =>
if (!(teq v18 ([] : (List Int)))) = true then (
.ok (.rt false)) else (
.ok (.nx ())))) (Go.elim (σ := Unit) (β := Bool) (fun s21 =>
TX.bind (t__law_needs_all a_parents_here a_kinds_here v5) fun v26 =>
.ok v26) fun b27 => .ok b27)))
@[irreducible] def t_law_v15 (a_script : (List Int)) : TX Bool :=
TX.bind (t__law_tape a_script (0 : Int)) fun v1 =>
TX.bind (t__law_fields v1) fun v2 =>
TX.bind (t__law_parents v2.2 v2.1) fun v3 =>
TX.bind (t__law_tape a_script (1 : Int)) fun v4 =>
TX.bind (t__law_kinds v4 v3.1 false) fun v5 =>
TX.bind (t__law_tape a_script (2 : Int)) fun v6 =>
TX.bind (t__law_kinds v6 v3.1 false) fun v7 =>
TX.bind (t_Forest____init__ v3.1 v5.1) fun v8 =>
TX.bind (t_Forest____init__ v3.1 v7.1) fun v9 =>
TX.bind (t__law_is_needy v8 v3.1 v5.1) fun v10 =>
if (!v10) = true then (
.ok false) else (
TX.bind (t_needy_row v8) fun v11 =>
TX.bind (trepr ((kL .fz (kT PV.int)) v11)) fun v12 =>
TX.bind (tlcP v3.1 fun x13 =>
.ok (some (1 : Int))) fun v17 =>
TX.bind (tins v11 (0 : Int) v17) fun v20 =>
TX.bind (tlcP v3.1 fun x21 =>
.ok (some (0 : Int))) fun v25 =>
TX.bind (tapp v20 v25) fun v28 =>
TX.bind (t__law_is_needy v9 v3.1 v7.1) fun v29 =>
if (!v29) = true then (
.ok false) else (
if ((!(teq v8.parents v3.1)) || (!(teq v8.kinds v5.1))) = true then (
.ok false) else (
TX.bind (t_needy_row v8) fun v30 =>
TX.bind (trepr ((kL .fz (kT PV.int)) v30)) fun v31 =>
if (teq v31 v12) = true then (
TX.bind (t__law_is_needy v8 v3.1 v5.1) fun v32 =>
.ok v32) else (
.ok false))))
end Law
set_option Elab.async false
set_option linter.all false
set_option maxRecDepth 100000
namespace Law
open PySem PySem.Spec PyProof.Rows L2 VL
noncomputable section
def W__law_tape : M Fw := (sSeq (sIf (tB (eBin oLt (eN 1) (eFn oLen (aCons (eN 0) aNil)))) (sRet (eLst (aCons (eFn oAbs (aCons (eBin oIx (eN 0) (eN 1)) aNil)) (aCons (eC (.int 0)) aNil)))) sNx)
    (sRet (eLst (aCons (eN 1) (aCons (eC (.int 0)) aNil)))))
def F__law_tape : List PV → R PV := runF 2 2 W__law_tape
def W__law_take : M Fw := (sSeq (sSet 2 (eBin oIx (eN 0) (eC (.int 0))))
    (sSeq (sSub (eN 0) (eC (.int 1)) (eBin oAdd (eBin oIx (eN 0) (eC (.int 1))) (eC (.int 1))))
    (sSeq (sSet 3 (eBin oIx (eN 0) (eC (.int 1))))
    (sSeq (sIf (tB (eBin oGe (eN 2) (eBin oPow (eC (.int 10)) (eC (.int 18))))) (sSeq (sSub (eN 0) (eC (.int 0)) (eBin oDiv (eN 2) (eN 1)))
    (sRet (eBin oMod (eFn oInt (aCons (eN 2) aNil)) (eN 1)))) sNx)
    (sSeq (sSet 4 (eBin oMod (eFn oInt (aCons (eBin oAdd (eBin oAdd (eN 2) (eBin oMul (eC (.int 7919)) (eN 3))) (eC (.int 13))) aNil)) (eC (.int 2147483647))))
    (sSeq (sSet 4 (eBin oMod (eFn oInt (aCons (eBin oMul (eN 4) (eBin oAdd (eN 4) (eC (.int 48271)))) aNil)) (eC (.int 2147483629))))
    (sSeq (sSet 4 (eBin oMod (eFn oInt (aCons (eBin oAdd (eBin oMul (eN 4) (eBin oAdd (eN 4) (eC (.int 69621)))) (eBin oMul (eC (.int 31)) (eN 3))) aNil)) (eC (.int 2147483647))))
    (sRet (eBin oMod (eFn oInt (aCons (eBin oDiv (eN 4) (eC (.int 9))) aNil)) (eN 1))))))))))
def F__law_take : List PV → R PV := runF 2 5 W__law_take
def W__law_fields : M Fw := (sSeq (sIf (tB (eBin (oEq false) (eCall F__law_take (aCons (eN 0) (aCons (eC (.int 8)) aNil))) (eC (.int 7)))) (sRet (eBin oAdd (eC (.int 7)) (eCall F__law_take (aCons (eN 0) (aCons (eC (.int 2)) aNil))))) sNx)
    (sRet (eBin oAdd (eC (.int 1)) (eCall F__law_take (aCons (eN 0) (aCons (eC (.int 6)) aNil))))))
def F__law_fields : List PV → R PV := runF 1 1 W__law_fields
def B__law_turns_1 : M Fw := (sE (eMu "list" uAppend (eN 3) (aCons (eMu "list" uPop1 (eN 2) (aCons (eCall F__law_take (aCons (eN 0) (aCons (eFn oLen (aCons (eN 2) aNil)) aNil))) aNil)) aNil)))
def W__law_turns : M Fw := (sSeq (sSet 2 (eRg1 false (eN 1)))
    (sSeq (sSet 3 (eLst aNil))
    (sSeq (sFor (iRg1 (aCons (eN 1) aNil)) (gN 4) B__law_turns_1)
    (sRet (eN 3)))))
def F__law_turns : List PV → R PV := runF 2 5 W__law_turns
def B__law_parents_1 : M Hd := (eC .non)
def B__law_parents_2 : M Fw := (sSeq (sSet 6 (eCall F__law_take (aCons (eN 0) (aCons (eBin oAdd (eN 5) (eC (.int 1))) aNil))))
    (sSeq (sIf (tB (eBin (oEq false) (eN 3) (eC (.int 0)))) (sSet 6 (eN 5)) sNx)
    (sSeq (sIf (tB (eBin (oEq false) (eN 3) (eC (.int 1)))) (sSet 6 (eC (.int 0))) sNx)
    (sIf (tB (eBin oGt (eN 6) (eC (.int 0)))) (sSub (eN 4) (eBin oIx (eN 2) (eN 5)) (eBin oIx (eN 2) (eBin oSub (eN 6) (eC (.int 1))))) sNx))))
def W__law_parents : M Fw := (sSeq (sSet 2 (eCall F__law_turns (aCons (eN 0) (aCons (eN 1) aNil))))
    (sSeq (sSet 3 (eCall F__law_take (aCons (eN 0) (aCons (eC (.int 4)) aNil))))
    (sSeq (sSet 4 (eLc (iRg1 (aCons (eN 1) aNil)) (gN 5) tYesV B__law_parents_1 [5]))
    (sSeq (sFor (iRg2 (aCons (eC (.int 1)) (aCons (eN 1) aNil))) (gN 5) B__law_parents_2)
    (sRet (eN 4))))))
def F__law_parents : List PV → R PV := runF 2 7 W__law_parents
def B__law_kinds_1 : M Fw := (sSeq (sSet 5 (eCall F__law_take (aCons (eN 0) (aCons (eC (.int 4)) aNil))))
    (sSeq (sIf (tOr (tE (eN 2)) (tB (eBin (oIn false) (eN 4) (eN 1)))) (sSet 5 (eBin oMod (eFn oInt (aCons (eN 5) aNil)) (eC (.int 2)))) sNx)
    (sE (eMu "list" uAppend (eN 3) (aCons (eBin oIx (eLst (aCons (eC (.str "up")) (aCons (eC (.str "down")) (aCons (eC (.str "first")) (aCons (eC (.str "last")) aNil))))) (eN 5)) aNil)))))
def W__law_kinds : M Fw := (sSeq (sSet 3 (eLst aNil))
    (sSeq (sFor (iRg1 (aCons (eFn oLen (aCons (eN 1) aNil)) aNil)) (gN 4) B__law_kinds_1)
    (sRet (eN 3))))
def F__law_kinds : List PV → R PV := runF 3 6 W__law_kinds
def B_way_ends_1 : M Fw := (sSeq (sIf (tB (eBin (oIs false) (eN 1) (eC .non))) (sRet (eC (.bl true))) sNx)
    (sSet 1 (eBin oIx (eN 0) (eN 1))))
def W_way_ends : M Fw := (sSeq (sForN 0 (gN 2) B_way_ends_1)
    (sRet (eBin (oIs false) (eN 1) (eC .non))))
def F_way_ends : List PV → R PV := runF 2 3 W_way_ends
def W_is_ranked : M Fw := (sRet (eOr (eBin (oEq false) (eN 0) (eC (.str "up"))) (eBin (oEq false) (eN 0) (eC (.str "down")))))
def F_is_ranked : List PV → R PV := runF 1 1 W_is_ranked
def B_check_forest_1 : M Fw := (sIf (tAnd (tB (eBin (oIs true) (eN 4) (eC .non))) (tOr (tB (eBin oLt (eN 4) (eC (.int 0)))) (tB (eBin oGe (eN 4) (eN 2))))) (sRaise1 "BadForest" fmtOk (aCons (eN 3) aNil)) sNx)
def B_check_forest_2 : M Fw := (sIf (tNot (tE (eCall F_way_ends (aCons (eN 0) (aCons (eN 3) aNil))))) (sRaise1 "BadForest" fmtOk (aCons (eN 3) aNil)) sNx)
def B_check_forest_3 : M Fw := (sIf (tAnd (tNot (tE (eCall F_is_ranked (aCons (eN 5) aNil)))) (tB (eBin (oIn false) (eN 3) (eN 0)))) (sRaise1 "BadForest" fmtOk (aCons (eN 3) aNil)) sNx)
def W_check_forest : M Fw := (sSeq (sSet 2 (eFn oLen (aCons (eN 0) aNil)))
    (sSeq (sIf (tOr (tB (eBin (oEq true) (eN 2) (eFn oLen (aCons (eN 1) aNil)))) (tOr (tB (eBin oLt (eN 2) (eC (.int 1)))) (tB (eBin oGt (eN 2) (eC (.int 16)))))) (sRaise1 "BadForest" fmtOk (aCons (eC .non) aNil)) sNx)
    (sSeq (sForE 0 (gT [(gN 3), (gN 4)]) B_check_forest_1)
    (sSeq (sFor (iRg1 (aCons (eN 2) aNil)) (gN 3) B_check_forest_2)
    (sForE 1 (gT [(gN 3), (gN 5)]) B_check_forest_3)))))
def F_check_forest : List PV → R PV := runF 2 6 W_check_forest
def W_Forest____init__ : M Fw := (sSeq (sE (eCall F_check_forest (aCons (eN 1) (aCons (eN 2) aNil))))
    (sSeq (sAt "Forest" 0 (eN 0) (eFn oLen (aCons (eN 1) aNil)))
    (sSeq (sAt "Forest" 1 (eN 0) (eFn oTuple (aCons (eN 1) aNil)))
    (sAt "Forest" 2 (eN 0) (eFn oTuple (aCons (eN 2) aNil))))))
def F_Forest____init__ : List PV → R PV := runF 3 3 W_Forest____init__
def B_Forest__leaves_1 : M Hd := (eN 1)
def B_Forest__leaves_2 : M Bool := (tB (eBin (oIn true) (eN 1) (eUn (oAt "Forest" 1) (eN 0))))
def W_Forest__leaves : M Fw := (sRet (eFn oTuple (aCons (eLc (iRg1 (aCons (eUn (oAt "Forest" 0) (eN 0)) aNil)) (gN 1) B_Forest__leaves_2 B_Forest__leaves_1 [1]) aNil)))
def F_Forest__leaves : List PV → R PV := runF 1 2 W_Forest__leaves
def B_ranked_leaves_1 : M Hd := (eN 1)
def B_ranked_leaves_2 : M Bool := (tE (eCall F_is_ranked (aCons (eBin oIx (eUn (oAt "Forest" 2) (eN 0)) (eN 1)) aNil)))
def W_ranked_leaves : M Fw := (sRet (eLc (iSeq (eProp "Forest" F_Forest__leaves (eN 0))) (gN 1) B_ranked_leaves_2 B_ranked_leaves_1 [1]))
def F_ranked_leaves : List PV → R PV := runF 1 2 W_ranked_leaves
def B_Forest__children_1 : M Hd := (eN 2)
def B_Forest__children_2 : M Bool := (tB (eBin (oEq false) (eBin oIx (eUn (oAt "Forest" 1) (eN 0)) (eN 2)) (eN 1)))
def W_Forest__children : M Fw := (sRet (eFn oTuple (aCons (eLc (iRg1 (aCons (eUn (oAt "Forest" 0) (eN 0)) aNil)) (gN 2) B_Forest__children_2 B_Forest__children_1 [2]) aNil)))
def F_Forest__children : List PV → R PV := runF 2 3 W_Forest__children
def B_hung_classes_1 : M Hd := (eN 5)
def B_hung_classes_2 : M Bool := (tB (eBin (oEq false) (eBin oIx (eUn (oAt "Forest" 2) (eN 0)) (eN 5)) (eN 1)))
def B_hung_classes_3 : M Fw := (sSeq (sSet 4 (eFn oTuple (aCons (eLc (iSeq (eMeth "Forest" F_Forest__children (eN 0) (aCons (eN 3) aNil))) (gN 5) B_hung_classes_2 B_hung_classes_1 [5]) aNil)))
    (sIf (tE (eN 4)) (sE (eMu "list" uAppend (eN 2) (aCons (eTup (aCons (eN 3) (aCons (eN 4) aNil))) aNil))) sNx))
def W_hung_classes : M Fw := (sSeq (sSet 2 (eLst aNil))
    (sSeq (sFor (iSeq (eBin oAdd (eLst (aCons (eC .non) aNil)) (eRg1 false (eUn (oAt "Forest" 0) (eN 0))))) (gN 3) B_hung_classes_3)
    (sRet (eN 2))))
def F_hung_classes : List PV → R PV := runF 2 6 W_hung_classes
def W_class_count : M Fw := (sRet (eBin oAdd (eBin oAdd (eFn oLen (aCons (eCall F_ranked_leaves (aCons (eN 0) aNil)) aNil)) (eFn oLen (aCons (eCall F_hung_classes (aCons (eN 0) (aCons (eC (.str "first")) aNil))) aNil))) (eFn oLen (aCons (eCall F_hung_classes (aCons (eN 0) (aCons (eC (.str "last")) aNil))) aNil))))
def F_class_count : List PV → R PV := runF 1 1 W_class_count
def W__law_is_integer : M Fw := (sRet (eAnd (eFn oIsi (aCons (eN 0) (aCons (eC (.ty "int")) aNil))) (eNot (eFn oIsi (aCons (eN 0) (aCons (eC (.ty "bool")) aNil))))))
def F__law_is_integer : List PV → R PV := runF 1 1 W__law_is_integer
def B__law_class_count_1 : M Fw := (sIf (tAnd (tB (eBin (oIn true) (eN 3) (eN 0))) (tB (eBin (oIn false) (eBin oIx (eN 1) (eN 3)) (eLst (aCons (eC (.str "up")) (aCons (eC (.str "down")) aNil)))))) (sSet 2 (eBin oAdd (eN 2) (eC (.int 1)))) sNx)
def B__law_class_count_2 : M Hd := (eBin oIx (eN 1) (eN 3))
def B__law_class_count_3 : M Bool := (tB (eBin (oEq false) (eBin oIx (eN 0) (eN 3)) (eN 4)))
def B__law_class_count_4 : M Fw := (sSeq (sSet 5 (eLc (iRg1 (aCons (eFn oLen (aCons (eN 0) aNil)) aNil)) (gN 3) B__law_class_count_3 B__law_class_count_2 [3]))
    (sSet 2 (eBin oAdd (eBin oAdd (eN 2) (eFn oInt (aCons (eBin (oIn false) (eC (.str "first")) (eN 5)) aNil))) (eFn oInt (aCons (eBin (oIn false) (eC (.str "last")) (eN 5)) aNil)))))
def W__law_class_count : M Fw := (sSeq (sSet 2 (eC (.int 0)))
    (sSeq (sFor (iRg1 (aCons (eFn oLen (aCons (eN 0) aNil)) aNil)) (gN 3) B__law_class_count_1)
    (sSeq (sFor (iSeq (eBin oAdd (eLst (aCons (eC .non) aNil)) (eRg1 false (eFn oLen (aCons (eN 0) aNil))))) (gN 4) B__law_class_count_4)
    (sRet (eN 2)))))
def F__law_class_count : List PV → R PV := runF 2 6 W__law_class_count
def B_Forest__path_1 : M Fw := (sSet 2 (eBin oAdd (eTup (aCons (eBin oIx (eUn (oAt "Forest" 1) (eN 0)) (eBin oIx (eN 2) (eC (.int 0)))) aNil)) (eN 2)))
def B_Forest__path_2 : M Bool := (tB (eBin (oIs true) (eBin oIx (eUn (oAt "Forest" 1) (eN 0)) (eBin oIx (eN 2) (eC (.int 0)))) (eC .non)))
def W_Forest__path : M Fw := (sSeq (sSet 2 (eTup (aCons (eN 1) aNil)))
    (sSeq (sWh 1000 B_Forest__path_2 B_Forest__path_1)
    (sRet (eN 2))))
def F_Forest__path : List PV → R PV := runF 2 3 W_Forest__path
def B_hung_by_way_1 : M Hd := (eTup (aCons (eFn oLen (aCons (eMeth "Forest" F_Forest__path (eN 0) (aCons (eBin oIx (eN 4) (eC (.int 0))) aNil)) aNil)) (aCons (eN 4) aNil)))
def B_hung_by_way_2 : M Hd := (eN 4)
def W_hung_by_way : M Fw := (sSeq (sSet 2 (eFn oSortedB (aCons (eLc (iSeq (eCall F_hung_classes (aCons (eN 0) (aCons (eN 1) aNil)))) (gT [(gN 3), (gN 4)]) tYesV B_hung_by_way_1 [3, 4]) aNil)))
    (sRet (eLc (iSeq (eN 2)) (gT [(gN 3), (gN 4)]) tYesV B_hung_by_way_2 [3, 4])))
def F_hung_by_way : List PV → R PV := runF 2 5 W_hung_by_way
def W_raised : M Fw := (sSeq (sIf (tB (eBin (oEq false) (eN 0) (eC (.str "down")))) (sRet (eBin oSub (eN 1) (eN 2))) sNx)
    (sRet (eBin oAdd (eN 1) (eN 2))))
def F_raised : List PV → R PV := runF 3 3 W_raised
def B_zeros_raised_1 : M Hd := (eIf (tB (eBin (oIn false) (eN 2) (eN 1))) (eCall F_raised (aCons (eN 3) (aCons (eC (.int 0)) (aCons (eC (.int 1)) aNil)))) (eC (.int 0)))
def W_zeros_raised : M Fw := (sRet (eFn oTuple (aCons (eLc (iEnumV (aCons (eUn (oAt "Forest" 2) (eN 0)) aNil)) (gT [(gN 2), (gN 3)]) tYesV B_zeros_raised_1 [2, 3]) aNil)))
def F_zeros_raised : List PV → R PV := runF 2 4 W_zeros_raised
def B_needy_row_1 : M Hd := (eTup (aCons (eN 2) aNil))
def B_needy_row_2 : M Hd := (eCall F_zeros_raised (aCons (eN 0) (aCons (eBin oAdd (eMeth "Forest" F_Forest__path (eN 0) (aCons (eBin oIx (eN 3) (eC (.int 0))) aNil)) (eN 3)) aNil)))
def W_needy_row : M Fw := (sSeq (sSet 1 (eCall F_hung_by_way (aCons (eN 0) (aCons (eC (.str "first")) aNil))))
    (sSeq (sE (eMu "list" uExtendA (eN 1) (aCons (eLc (iSeq (eCall F_ranked_leaves (aCons (eN 0) aNil))) (gN 2) tYesV B_needy_row_1 [2]) aNil)))
    (sSeq (sE (eMu "list" uExtendA (eN 1) (aCons (eFn oRevL (aCons (eCall F_hung_by_way (aCons (eN 0) (aCons (eC (.str "last")) aNil))) aNil)) aNil)))
    (sRet (eLc (iSeq (eN 1)) (gN 3) tYesV B_needy_row_2 [3])))))
def F_needy_row : List PV → R PV := runF 1 4 W_needy_row
def B__law_is_record_1 : M Fw := (sIf (tNot (tE (eCall F__law_is_integer (aCons (eN 2) aNil)))) (sRet (eC (.bl false))) sNx)
def W__law_is_record : M Fw := (sSeq (sIf (tOr (tNot (tE (eFn oIsi (aCons (eN 0) (aCons (eC (.ty "tuple")) aNil))))) (tB (eBin (oEq true) (eFn oLen (aCons (eN 0) aNil)) (eN 1)))) (sRet (eC (.bl false))) sNx)
    (sSeq (sForN 0 (gN 2) B__law_is_record_1)
    (sRet (eC (.bl true)))))
def F__law_is_record : List PV → R PV := runF 2 3 W__law_is_record
def B__law_path_1 : M Fw := (sIf (tB (eBin (oIs true) (eBin oIx (eN 0) (eBin oIx (eN 2) (eC (.int 0)))) (eC .non))) (sE (eMu "list" uInsert (eN 2) (aCons (eC (.int 0)) (aCons (eBin oIx (eN 0) (eBin oIx (eN 2) (eC (.int 0)))) aNil)))) sNx)
def W__law_path : M Fw := (sSeq (sSet 2 (eLst (aCons (eN 1) aNil)))
    (sSeq (sFor (iRg1 (aCons (eFn oLen (aCons (eN 0) aNil)) aNil)) (gN 3) B__law_path_1)
    (sRet (eN 2))))
def F__law_path : List PV → R PV := runF 2 4 W__law_path
def B__law_side_1 : M Fw := (sIf (tB (eBin (oEq true) (eBin oIx (eN 3) (eN 5)) (eBin oIx (eN 4) (eN 5)))) (sSeq (sIf (tB (eBin (oEq false) (eBin oIx (eN 1) (eN 5)) (eC (.str "first")))) (sRet (eC (.int 0))) sNx)
    (sSeq (sIf (tB (eBin (oEq false) (eBin oIx (eN 1) (eN 5)) (eC (.str "last")))) (sRet (eC (.int 1))) sNx)
    (sRet (eFn oInt (aCons (eBin (oEq true) (eBin oGt (eBin oIx (eN 3) (eN 5)) (eBin oIx (eN 4) (eN 5))) (eBin (oEq false) (eBin oIx (eN 1) (eN 5)) (eC (.str "up")))) aNil))))) sNx)
def W__law_side : M Fw := (sSeq (sFor (iSeq (eCall F__law_path (aCons (eN 0) (aCons (eN 2) aNil)))) (gN 5) B__law_side_1)
    (sRet (eC (.int 0))))
def F__law_side : List PV → R PV := runF 5 6 W__law_side
def B__law_merge_1 : M Hd := (eBin oIx (eBin oIx (eN 4) (eCall F__law_side (aCons (eN 0) (aCons (eN 1) (aCons (eN 5) (aCons (eN 2) (aCons (eN 3) aNil))))))) (eN 5))
def W__law_merge : M Fw := (sSeq (sSet 4 (eLst (aCons (eN 2) (aCons (eN 3) aNil))))
    (sRet (eFn oTuple (aCons (eLc (iRg1 (aCons (eFn oLen (aCons (eN 0) aNil)) aNil)) (gN 5) tYesV B__law_merge_1 [5]) aNil))))
def F__law_merge : List PV → R PV := runF 4 6 W__law_merge
def B__law_fold_1 : M Fw := (sSet 3 (eCall F__law_merge (aCons (eN 0) (aCons (eN 1) (aCons (eN 3) (aCons (eN 4) aNil))))))
def W__law_fold : M Fw := (sSeq (sSet 3 (eBin oIx (eN 2) (eC (.int 0))))
    (sSeq (sFor (iSeq (eSl (eN 2) (some (eC (.int 1))) none)) (gN 4) B__law_fold_1)
    (sRet (eN 3))))
def F__law_fold : List PV → R PV := runF 3 5 W__law_fold
def B__law_needs_all_1 : M Fw := (sSeq (sSet 5 (eBin oAdd (eSl (eN 2) none (some (eN 4))) (eSl (eN 2) (some (eBin oAdd (eN 4) (eC (.int 1)))) none)))
    (sIf (tAnd (tB (eBin (oEq true) (eN 5) (eLst aNil))) (tB (eBin (oEq false) (eCall F__law_fold (aCons (eN 0) (aCons (eN 1) (aCons (eN 5) aNil)))) (eN 3)))) (sRet (eC (.bl false))) sNx))
def W__law_needs_all : M Fw := (sSeq (sSet 3 (eCall F__law_fold (aCons (eN 0) (aCons (eN 1) (aCons (eN 2) aNil)))))
    (sSeq (sFor (iRg1 (aCons (eFn oLen (aCons (eN 2) aNil)) aNil)) (gN 4) B__law_needs_all_1)
    (sRet (eC (.bl true)))))
def F__law_needs_all : List PV → R PV := runF 3 6 W__law_needs_all
def B__law_is_needy_1 : M Hd := (eN 6)
def B__law_is_needy_2 : M Bool := (tNot (tB (eCh oLe oLe (eUn oNeg (eC (.int 1))) (eN 6) (eC (.int 1)))))
def B__law_is_needy_3 : M Fw := (sSeq (sIf (tNot (tE (eCall F__law_is_record (aCons (eN 5) (aCons (eFn oLen (aCons (eN 1) aNil)) aNil))))) (sRet (eC (.bl false))) sNx)
    (sIf (tB (eBin (oEq true) (eLc (iSeq (eN 5)) (gN 6) B__law_is_needy_2 B__law_is_needy_1 [6]) (eLst aNil))) (sRet (eC (.bl false))) sNx))
def W__law_is_needy : M Fw := (sSeq (sSet 3 (eCall F_class_count (aCons (eN 0) aNil)))
    (sSeq (sIf (tOr (tNot (tE (eCall F__law_is_integer (aCons (eN 3) aNil)))) (tB (eBin (oEq true) (eN 3) (eCall F__law_class_count (aCons (eN 1) (aCons (eN 2) aNil)))))) (sRet (eC (.bl false))) sNx)
    (sSeq (sSet 4 (eCall F_needy_row (aCons (eN 0) aNil)))
    (sSeq (sIf (tOr (tNot (tE (eFn oIsi (aCons (eN 4) (aCons (eC (.ty "list")) aNil))))) (tB (eBin (oEq true) (eFn oLen (aCons (eN 4) aNil)) (eN 3)))) (sRet (eC (.bl false))) sNx)
    (sSeq (sFor (iSeq (eN 4)) (gN 5) B__law_is_needy_3)
    (sRet (eCall F__law_needs_all (aCons (eN 1) (aCons (eN 2) (aCons (eFn oList (aCons (eN 4) aNil)) aNil))))))))))
def F__law_is_needy : List PV → R PV := runF 3 7 W__law_is_needy
def B_law_1 : M Hd := (eC (.int 1))
def B_law_2 : M Hd := (eC (.int 0))
def W_law : M Fw := (sSeq (sSet 1 (eCall F__law_tape (aCons (eN 0) (aCons (eC (.int 0)) aNil))))
    (sSeq (sSet 2 (eCall F__law_parents (aCons (eN 1) (aCons (eCall F__law_fields (aCons (eN 1) aNil)) aNil))))
    (sSeq (sSet 3 (eCall F__law_kinds (aCons (eCall F__law_tape (aCons (eN 0) (aCons (eC (.int 1)) aNil))) (aCons (eN 2) (aCons (eC (.bl false)) aNil)))))
    (sSeq (sSet 4 (eCall F__law_kinds (aCons (eCall F__law_tape (aCons (eN 0) (aCons (eC (.int 2)) aNil))) (aCons (eN 2) (aCons (eC (.bl false)) aNil)))))
    (sSeq (sSet 5 (eMake "Forest" true F_Forest____init__ (aCons (eFn oList (aCons (eN 2) aNil)) (aCons (eFn oList (aCons (eN 3) aNil)) aNil))))
    (sSeq (sSet 6 (eMake "Forest" true F_Forest____init__ (aCons (eFn oList (aCons (eN 2) aNil)) (aCons (eFn oList (aCons (eN 4) aNil)) aNil))))
    (sSeq (sIf (tNot (tE (eCall F__law_is_needy (aCons (eN 5) (aCons (eN 2) (aCons (eN 3) aNil)))))) (sRet (eC (.bl false))) sNx)
    (sSeq (sSet 7 (eCall F_needy_row (aCons (eN 5) aNil)))
    (sSeq (sSet 8 (eFn oRepr (aCons (eN 7) aNil)))
    (sSeq (sE (eMu "list" uInsert (eN 7) (aCons (eC (.int 0)) (aCons (eFn oTuple (aCons (eLc (iSeq (eN 2)) (gN 9) tYesV B_law_1 [9]) aNil)) aNil))))
    (sSeq (sE (eMu "list" uAppend (eN 7) (aCons (eFn oTuple (aCons (eLc (iSeq (eN 2)) (gN 9) tYesV B_law_2 [9]) aNil)) aNil)))
    (sSeq (sIf (tNot (tE (eCall F__law_is_needy (aCons (eN 6) (aCons (eN 2) (aCons (eN 4) aNil)))))) (sRet (eC (.bl false))) sNx)
    (sSeq (sIf (tOr (tB (eBin (oEq true) (eUn (oAt "Forest" 1) (eN 5)) (eFn oTuple (aCons (eN 2) aNil)))) (tB (eBin (oEq true) (eUn (oAt "Forest" 2) (eN 5)) (eFn oTuple (aCons (eN 3) aNil))))) (sRet (eC (.bl false))) sNx)
    (sRet (eAnd (eBin (oEq false) (eFn oRepr (aCons (eCall F_needy_row (aCons (eN 5) aNil)) aNil)) (eN 8)) (eCall F__law_is_needy (aCons (eN 5) (aCons (eN 2) (aCons (eN 3) aNil)))))))))))))))))))
def F_law : List PV → R PV := runF 1 10 W_law
end
end Law
set_option linter.all false
set_option maxRecDepth 100000
set_option synthInstance.maxSize 2000
set_option Elab.async false
namespace Law
open VL VT PySem
set_option maxHeartbeats 1000000 in
theorem sim__law_tape (a_script : (List Int)) (a_k : Int) : FS (F__law_tape [(PV.scr a_script), (PV.int a_k)]) (t__law_tape a_script a_k) (fun b => (kQ2 .ow PV.int PV.int) b) (fun b => [(PV.scr a_script), (PV.int a_k)]) (fun fn => fn = [(PV.scr a_script), (PV.int a_k)]) := by
  refine fs_run (E := fun r => True) (rq := (fun (b : (Int × Int)) w r => w = (kQ2 .ow PV.int PV.int) b)) (ρ0 := [(PV.scr a_script), (PV.int a_k)]) rfl (ar_fz (FzV.of PV.scr a_script) (ar_fz (FzV.of PV.int a_k) ar_nil)) rfl ?_ (fun b w r h => ⟨h, (ex_fz (FzV.of PV.scr a_script) (ex_fz (FzV.of PV.int a_k) ex_nil))⟩) (fun r h => ⟨_, (ex_fz (FzV.of PV.scr a_script) (ex_fz (FzV.of PV.int a_k) ex_nil)), rfl⟩)
  refine s_last ?_
  refine s_assoc ?_
  refine s_if ?_
  refine x_eq (t_tB (e_bin (e_N rfl) (e_fn (e_cons (e_N rfl) e_nil) rfl) rfl) rfl) ?_
  refine x_ite ?_ ?_
  · refine s_ret ?_
    refine x_lst ?_
    refine x_acons ?_
    refine x_fn ?_
    refine x_acons ?_
    refine x_bin ?_
    refine x_eq (e_N rfl) ?_
    refine x_eq (e_N rfl) ?_
    refine x_p (os_ixS rfl rfl) nx_ix fun v1 _ => ?_
    refine x_anil ?_
    refine x_o (c := (PV.int (iabs v1))) rfl ?_
    refine x_acons ?_
    refine x_eq e_C ?_
    refine x_anil ?_
    refine x_lstE (.tm rfl (.tm rfl .nil)) (Nat.le_of_ble_eq_true rfl) (c := ((kQ2 .ow PV.int PV.int) ((iabs v1), (0 : Int)))) rfl ?_
    exact fn_ret rfl
  refine s_nx ?_
  refine s_ret ?_
  refine x_eq (e_lst (e_cons (e_N rfl) (e_cons e_C e_nil)) (.fz (FzV.of PV.int a_k) rfl (.tm rfl .nil)) (Nat.le_of_ble_eq_true rfl) (c := ((kQ2 .ow PV.int PV.int) (a_k, (0 : Int)))) rfl) ?_
  exact fn_ret rfl
set_option maxHeartbeats 1000000 in
theorem sim__law_take (a_tape_here : (Int × Int)) (a_size : Int) (o0 : Fl) (ho0 : o0 ≠ .fz) : FS (F__law_take [((kQ2 o0 PV.int PV.int) a_tape_here), (PV.int a_size)]) (t__law_take a_tape_here a_size) (fun b => PV.int b.1) (fun b => [(kQ2 .ow PV.int PV.int) b.2, (PV.int a_size)]) (fun fn => ∃ z0, fn = [z0, (PV.int a_size)]) := by
  refine fs_run (E := fun r => True) (rq := (fun (b : (Int × (Int × Int))) w r => w = PV.int b.1 ∧ nth r 0 = (kQ2 .io PV.int PV.int) b.2)) (ρ0 := [((kQ2 .io PV.int PV.int) a_tape_here), (PV.int a_size), .emp, .emp, .emp]) rfl (ar_Q2m ho0 (ar_fz (FzV.of PV.int a_size) ar_nil)) rfl ?_ (fun b w r h => ⟨h.1, (ex_mut (kQ2_own ho0) h.2 rfl rfl (ex_fz (FzV.of PV.int a_size) ex_nil))⟩) (fun r h => ⟨_, (ex_step (ex_fz (FzV.of PV.int a_size) ex_nil)), _, rfl⟩)
  refine s_last ?_
  refine s_assoc ?_
  refine s_set ?_
  refine x_eq (e_bin (e_N rfl) e_C (c := (PV.int a_tape_here.1)) rfl) ?_
  refine x_set_tm rfl rfl ?_
  refine s_rho (ρ1 := ([((kQ2 .io PV.int PV.int) a_tape_here), (PV.int a_size), (PV.int a_tape_here.1), .emp, .emp] : List PV)) rfl ?_
  refine s_assoc ?_
  refine s_sub ?_
  refine x_eq (e_bin (e_bin (e_N rfl) e_C (c := (PV.int a_tape_here.2)) rfl) e_C rfl) ?_
  refine x_eq (e_N rfl) ?_
  refine x_eq e_C ?_
  refine x_subQ2' (o := .io) (e := PV.int) (e' := PV.int) (p := a_tape_here) (v := (a_tape_here.2 + (1 : Int))) (take_tm rfl) rfl (by decide) rfl ?_
  refine s_rho (ρ1 := ([((kQ2 .io PV.int PV.int) (a_tape_here.1, (a_tape_here.2 + (1 : Int)))), (PV.int a_size), (PV.int a_tape_here.1), .emp, .emp] : List PV)) rfl ?_
  refine s_assoc ?_
  refine s_set ?_
  refine x_eq (e_bin (e_N rfl) e_C (c := (PV.int (a_tape_here.1, (a_tape_here.2 + (1 : Int))).2)) rfl) ?_
  refine x_set_tm rfl rfl ?_
  refine s_rho (ρ1 := ([((kQ2 .io PV.int PV.int) (a_tape_here.1, (a_tape_here.2 + (1 : Int)))), (PV.int a_size), (PV.int a_tape_here.1), (PV.int (a_tape_here.1, (a_tape_here.2 + (1 : Int))).2), .emp] : List PV)) rfl ?_
  refine s_assoc ?_
  refine s_if ?_
  refine x_eq (t_tB (e_bin (e_N rfl) (e_bin e_C e_C (powC (z := (1000000000000000000 : Int)) rfl rfl (by decide) (by decide))) rfl) rfl) ?_
  refine x_ite ?_ ?_
  · refine s_assoc ?_
    refine s_sub ?_
    refine x_bin ?_
    refine x_eq (e_N rfl) ?_
    refine x_eq (e_N rfl) ?_
    refine x_p (os_div rfl rfl) nx_div fun v1 _ => ?_
    refine x_eq (e_N rfl) ?_
    refine x_eq e_C ?_
    refine x_subQ2 (o := .io) (e := PV.int) (e' := PV.int) (p := (a_tape_here.1, (a_tape_here.2 + (1 : Int)))) (v := v1) (take_tm rfl) rfl (by decide) rfl ?_
    refine s_rho (ρ1 := ([((kQ2 .io PV.int PV.int) (v1, (a_tape_here.1, (a_tape_here.2 + (1 : Int))).2)), (PV.int a_size), (PV.int a_tape_here.1), (PV.int (a_tape_here.1, (a_tape_here.2 + (1 : Int))).2), .emp] : List PV)) rfl ?_
    refine s_ret ?_
    refine x_bin ?_
    refine x_eq (e_fn (e_cons (e_N rfl) e_nil) (c := PV.int a_tape_here.1) rfl) ?_
    refine x_eq (e_N rfl) ?_
    refine x_p (os_mod rfl rfl) nx_mod fun v2 _ => ?_
    exact fn_ret ⟨rfl, rfl⟩
  refine s_nx ?_
  refine s_assoc ?_
  refine s_set ?_
  refine x_eq (e_bin (e_fn (e_cons (e_bin (e_bin (e_N rfl) (e_bin e_C (e_N rfl) (mulL rfl rfl (by decide) (by decide))) rfl) e_C rfl) e_nil) (c := PV.int ((a_tape_here.1 + ((7919 : Int) * (a_tape_here.1, (a_tape_here.2 + (1 : Int))).2)) + (13 : Int))) rfl) e_C (modC rfl rfl (by decide))) ?_
  refine x_set_tm rfl rfl ?_
  refine s_rho (ρ1 := ([((kQ2 .io PV.int PV.int) (a_tape_here.1, (a_tape_here.2 + (1 : Int)))), (PV.int a_size), (PV.int a_tape_here.1), (PV.int (a_tape_here.1, (a_tape_here.2 + (1 : Int))).2), (PV.int (((a_tape_here.1 + ((7919 : Int) * (a_tape_here.1, (a_tape_here.2 + (1 : Int))).2)) + (13 : Int)) % (2147483647 : Int)))] : List PV)) rfl ?_
  refine s_assoc ?_
  refine s_set ?_
  refine x_bin ?_
  refine x_fn ?_
  refine x_acons ?_
  refine x_bin ?_
  refine x_eq (e_N rfl) ?_
  refine x_eq (e_bin (e_N rfl) e_C rfl) ?_
  refine x_p (os_mul rfl rfl) nx_mul fun v3 _ => ?_
  refine x_anil ?_
  refine x_o (c := (PV.int v3)) rfl ?_
  refine x_eq e_C ?_
  refine x_o (modC rfl rfl (by decide)) ?_
  refine x_set_tm rfl rfl ?_
  refine s_rho (ρ1 := ([((kQ2 .io PV.int PV.int) (a_tape_here.1, (a_tape_here.2 + (1 : Int)))), (PV.int a_size), (PV.int a_tape_here.1), (PV.int (a_tape_here.1, (a_tape_here.2 + (1 : Int))).2), (PV.int (v3 % (2147483629 : Int)))] : List PV)) rfl ?_
  refine s_assoc ?_
  refine s_set ?_
  refine x_bin ?_
  refine x_fn ?_
  refine x_acons ?_
  refine x_bin ?_
  refine x_bin ?_
  refine x_eq (e_N rfl) ?_
  refine x_eq (e_bin (e_N rfl) e_C rfl) ?_
  refine x_p (os_mul rfl rfl) nx_mul fun v4 _ => ?_
  refine x_eq (e_bin e_C (e_N rfl) (mulL rfl rfl (by decide) (by decide))) ?_
  refine x_o rfl ?_
  refine x_anil ?_
  refine x_o (c := (PV.int (v4 + ((31 : Int) * (a_tape_here.1, (a_tape_here.2 + (1 : Int))).2)))) rfl ?_
  refine x_eq e_C ?_
  refine x_o (modC rfl rfl (by decide)) ?_
  refine x_set_tm rfl rfl ?_
  refine s_rho (ρ1 := ([((kQ2 .io PV.int PV.int) (a_tape_here.1, (a_tape_here.2 + (1 : Int)))), (PV.int a_size), (PV.int a_tape_here.1), (PV.int (a_tape_here.1, (a_tape_here.2 + (1 : Int))).2), (PV.int ((v4 + ((31 : Int) * (a_tape_here.1, (a_tape_here.2 + (1 : Int))).2)) % (2147483647 : Int)))] : List PV)) rfl ?_
  refine s_ret ?_
  refine x_bin ?_
  refine x_eq (e_fn (e_cons (e_bin (e_N rfl) e_C (divC rfl rfl (by decide))) e_nil) (c := PV.int (((v4 + ((31 : Int) * (a_tape_here.1, (a_tape_here.2 + (1 : Int))).2)) % (2147483647 : Int)) / (9 : Int))) rfl) ?_
  refine x_eq (e_N rfl) ?_
  refine x_p (os_mod rfl rfl) nx_mod fun v5 _ => ?_
  exact fn_ret ⟨rfl, rfl⟩
set_option maxHeartbeats 1000000 in
theorem sim__law_fields (a_tape_here : (Int × Int)) (o0 : Fl) (ho0 : o0 ≠ .fz) : FS (F__law_fields [((kQ2 o0 PV.int PV.int) a_tape_here)]) (t__law_fields a_tape_here) (fun b => PV.int b.1) (fun b => [(kQ2 .ow PV.int PV.int) b.2]) (fun fn => ∃ z0, fn = [z0]) := by
  refine fs_run (E := fun r => True) (rq := (fun (b : (Int × (Int × Int))) w r => w = PV.int b.1 ∧ nth r 0 = (kQ2 .io PV.int PV.int) b.2)) (ρ0 := [((kQ2 .io PV.int PV.int) a_tape_here)]) rfl (ar_Q2m ho0 ar_nil) rfl ?_ (fun b w r h => ⟨h.1, (ex_mut (kQ2_own ho0) h.2 rfl rfl ex_nil)⟩) (fun r h => ⟨_, (ex_step ex_nil), _, rfl⟩)
  unfold t__law_fields
  refine s_last ?_
  refine s_assoc ?_
  refine s_if ?_
  refine x_tB ?_
  refine x_bin ?_
  refine x_call ?_
  refine x_eq (e_cons (e_N rfl) (e_cons e_C e_nil)) ?_
  refine x_callM (ok_own rfl (ok_tm ok_nil)) (sim__law_take a_tape_here (8 : Int) .io (by decide)) (fun v1 => (bk_mut (z' := (kQ2 .io PV.int PV.int) v1.2) rfl rfl rfl (bk_tm bk_nil))) (fun z0 => (bk_mut rfl rfl rfl (bk_tm bk_nil))) (fun z0 => trivial) fun v1 => ?_
  refine x_eq e_C ?_
  refine x_o (eqD PV.int PV.int v1.1 (7 : Int)) ?_
  refine x_ofB rfl ?_
  refine x_ite ?_ ?_
  · refine s_ret ?_
    refine x_bin ?_
    refine x_eq e_C ?_
    refine x_call ?_
    refine x_eq (e_cons (e_N rfl) (e_cons e_C e_nil)) ?_
    refine x_callM (ok_own rfl (ok_tm ok_nil)) (sim__law_take v1.2 (2 : Int) .io (by decide)) (fun v2 => (bk_mut (z' := (kQ2 .io PV.int PV.int) v2.2) rfl rfl rfl (bk_tm bk_nil))) (fun z0 => (bk_mut rfl rfl rfl (bk_tm bk_nil))) (fun z0 => trivial) fun v2 => ?_
    refine x_o rfl ?_
    exact fn_ret ⟨rfl, rfl⟩
  refine s_nx ?_
  refine s_ret ?_
  refine x_bin ?_
  refine x_eq e_C ?_
  refine x_call ?_
  refine x_eq (e_cons (e_N rfl) (e_cons e_C e_nil)) ?_
  refine x_callM (ok_own rfl (ok_tm ok_nil)) (sim__law_take v1.2 (6 : Int) .io (by decide)) (fun v3 => (bk_mut (z' := (kQ2 .io PV.int PV.int) v3.2) rfl rfl rfl (bk_tm bk_nil))) (fun z0 => (bk_mut rfl rfl rfl (bk_tm bk_nil))) (fun z0 => trivial) fun v3 => ?_
  refine x_o rfl ?_
  exact fn_ret ⟨rfl, rfl⟩
set_option maxHeartbeats 1000000 in
theorem sim__law_turns (a_tape_here : (Int × Int)) (a_n : Int) (o0 : Fl) (ho0 : o0 ≠ .fz) : FS (F__law_turns [((kQ2 o0 PV.int PV.int) a_tape_here), (PV.int a_n)]) (t__law_turns a_tape_here a_n) (fun b => (kL .ow PV.int) b.1) (fun b => [(kQ2 .ow PV.int PV.int) b.2, (PV.int a_n)]) (fun fn => ∃ z0, fn = [z0, (PV.int a_n)]) := by
  refine fs_run (E := fun r => True) (rq := (fun (b : ((List Int) × (Int × Int))) w r => w = (kL .ow PV.int) b.1 ∧ nth r 0 = (kQ2 .io PV.int PV.int) b.2)) (ρ0 := [((kQ2 .io PV.int PV.int) a_tape_here), (PV.int a_n), .emp, .emp, .emp]) rfl (ar_Q2m ho0 (ar_fz (FzV.of PV.int a_n) ar_nil)) rfl ?_ (fun b w r h => ⟨h.1, (ex_mut (kQ2_own ho0) h.2 rfl rfl (ex_fz (FzV.of PV.int a_n) ex_nil))⟩) (fun r h => ⟨_, (ex_step (ex_fz (FzV.of PV.int a_n) ex_nil)), _, rfl⟩)
  refine s_last ?_
  refine s_assoc ?_
  refine s_set ?_
  refine x_eRg1 ?_
  refine x_eq (e_N rfl) ?_
  refine x_eRg1E (e := (kL .ow PV.int)) rfl (fun _ => rfl) fun v1 => ?_
  refine x_set_tm rfl rfl ?_
  refine s_rho (ρ1 := ([((kQ2 .io PV.int PV.int) a_tape_here), (PV.int a_n), ((kL .ow PV.int) v1), .emp, .emp] : List PV)) rfl ?_
  refine s_assoc ?_
  refine s_set ?_
  refine x_eq (e_lst e_nil .nil (Nat.le_of_ble_eq_true rfl) (c := ((kL .ow PV.int) ([] : (List Int)))) rfl) ?_
  refine x_set_tm rfl rfl ?_
  refine s_rho (ρ1 := ([((kQ2 .io PV.int PV.int) a_tape_here), (PV.int a_n), ((kL .ow PV.int) v1), ((kL .ow PV.int) ([] : (List Int))), .emp] : List PV)) rfl ?_
  refine s_assoc ?_
  refine s_for ?_
  refine x_iRg1 ?_
  refine x_eq (e_cons (e_N rfl) e_nil) ?_
  refine x_rg1E rfl ?_
  generalize rgI 0 a_n = v2
  refine x_fold (P := fun s4 : ((Int × Int) × (List Int) × (List Int)) => [.is ((kQ2 .io PV.int PV.int) s4.1), .is (PV.int a_n), .is ((kL .ow PV.int) s4.2.1), .is ((kL .ow PV.int) s4.2.2), .jk]) (e := PV.int) ⟨_, rfl, _, rfl, _, rfl, _, rfl, _, _, rfl, rfl, rfl⟩ (fun s4 x3 r5 e7 m6 => ?_) fun s12 r13 m14 => ?_
  · obtain ⟨_, rfl, _, rfl, _, rfl, _, rfl, j8v, _, rfl, j8, rfl⟩ := m6
    refine x_tg (tg_N j8 rfl) ?_
    refine s_rho (ρ1 := ([((kQ2 .io PV.int PV.int) s4.1), (PV.int a_n), ((kL .ow PV.int) s4.2.1), ((kL .ow PV.int) s4.2.2), (PV.int x3)] : List PV)) rfl ?_
    refine s_last ?_
    refine s_E ?_
    refine x_mu ?_
    refine x_eq (e_N rfl) ?_
    refine x_muL (e := PV.int) (xs := s4.2.2) rfl ?_
    refine x_acons ?_
    refine x_mu ?_
    refine x_eq (e_N rfl) ?_
    refine x_muL (e := PV.int) (xs := s4.2.1) rfl ?_
    refine x_acons ?_
    refine x_call ?_
    refine x_eq (e_cons (e_N rfl) (e_cons (e_fn (e_cons (e_N rfl) e_nil) (len_L (e := PV.int) (xs := s4.2.1))) e_nil)) ?_
    refine x_callM (ok_own rfl (ok_tm ok_nil)) (sim__law_take s4.1 (s4.2.1.length : Int) .io (by decide)) (fun v9 => (bk_mut (z' := (kQ2 .io PV.int PV.int) v9.2) rfl rfl rfl (bk_tm bk_nil))) (fun z0 => (bk_mut rfl rfl rfl (bk_tm bk_nil))) (fun z0 => trivial) fun v9 => ?_
    refine x_anil ?_
    refine x_pop1 (o := .ow) (e := PV.int) (xs := s4.2.1) (.tm rfl .nil) rfl (by decide) fun v10a v10b => ?_
    generalize hg : (v10a, v10b) = v10
    obtain ⟨rfl, rfl⟩ : v10a = v10.1 ∧ v10b = v10.2 := by rw [← hg]; exact ⟨rfl, rfl⟩
    clear hg
    refine x_anil ?_
    refine x_app (o := .ow) (e := PV.int) (xs := s4.2.2) (v := v10.1) (.tm rfl .nil) rfl (by decide) fun v11 => ?_
    exact x_done ⟨.inl rfl, ⟨_, rfl, _, rfl, _, rfl, _, rfl, _, _, rfl, rfl, rfl⟩⟩
  obtain ⟨_, rfl, _, rfl, _, rfl, _, rfl, j15v, _, rfl, j15, rfl⟩ := m14
  refine s_ret ?_
  refine x_eq (e_N rfl) ?_
  refine ret_sl (a := ((kL .ow PV.int) s12.2.2)) rfl rfl ?_
  exact fn_ret ⟨rfl, rfl⟩
set_option maxHeartbeats 1000000 in
theorem sim__law_parents (a_tape_here : (Int × Int)) (a_n : Int) (o0 : Fl) (ho0 : o0 ≠ .fz) : FS (F__law_parents [((kQ2 o0 PV.int PV.int) a_tape_here), (PV.int a_n)]) (t__law_parents a_tape_here a_n) (fun b => (kL .ow (kO PV.int)) b.1) (fun b => [(kQ2 .ow PV.int PV.int) b.2, (PV.int a_n)]) (fun fn => ∃ z0, fn = [z0, (PV.int a_n)]) := by
  refine fs_run (E := fun r => True) (rq := (fun (b : ((List (Option Int)) × (Int × Int))) w r => w = (kL .ow (kO PV.int)) b.1 ∧ nth r 0 = (kQ2 .io PV.int PV.int) b.2)) (ρ0 := [((kQ2 .io PV.int PV.int) a_tape_here), (PV.int a_n), .emp, .emp, .emp, .emp, .emp]) rfl (ar_Q2m ho0 (ar_fz (FzV.of PV.int a_n) ar_nil)) rfl ?_ (fun b w r h => ⟨h.1, (ex_mut (kQ2_own ho0) h.2 rfl rfl (ex_fz (FzV.of PV.int a_n) ex_nil))⟩) (fun r h => ⟨_, (ex_step (ex_fz (FzV.of PV.int a_n) ex_nil)), _, rfl⟩)
  refine s_last ?_
  refine s_assoc ?_
  refine s_set ?_
  refine x_call ?_
  refine x_eq (e_cons (e_N rfl) (e_cons (e_N rfl) e_nil)) ?_
  refine x_callM (ok_own rfl (ok_fz (FzV.of PV.int a_n) rfl ok_nil)) (sim__law_turns a_tape_here a_n .io (by decide)) (fun v1 => (bk_mut (z' := (kQ2 .io PV.int PV.int) v1.2) rfl rfl rfl (bk_fz (FzV.of PV.int a_n) rfl bk_nil))) (fun z0 => (bk_mut rfl rfl rfl (bk_fz (FzV.of PV.int a_n) rfl bk_nil))) (fun z0 => trivial) fun v1 => ?_
  refine x_set_tm rfl rfl ?_
  refine s_rho (ρ1 := ([((kQ2 .io PV.int PV.int) v1.2), (PV.int a_n), ((kL .ow PV.int) v1.1), .emp, .emp, .emp, .emp] : List PV)) rfl ?_
  refine s_assoc ?_
  refine s_set ?_
  refine x_call ?_
  refine x_eq (e_cons (e_N rfl) (e_cons e_C e_nil)) ?_
  refine x_callM (ok_own rfl (ok_tm ok_nil)) (sim__law_take v1.2 (4 : Int) .io (by decide)) (fun v2 => (bk_mut (z' := (kQ2 .io PV.int PV.int) v2.2) rfl rfl rfl (bk_tm bk_nil))) (fun z0 => (bk_mut rfl rfl rfl (bk_tm bk_nil))) (fun z0 => trivial) fun v2 => ?_
  refine x_set_tm rfl rfl ?_
  refine s_rho (ρ1 := ([((kQ2 .io PV.int PV.int) v2.2), (PV.int a_n), ((kL .ow PV.int) v1.1), (PV.int v2.1), .emp, .emp, .emp] : List PV)) rfl ?_
  refine s_assoc ?_
  refine s_set ?_
  refine x_lc ?_
  refine x_iRg1 ?_
  refine x_eq (e_cons (e_N rfl) e_nil) ?_
  refine x_rg1E rfl ?_
  generalize rgI 0 a_n = v3
  refine x_lcP (P := [.is ((kQ2 .io PV.int PV.int) v2.2), .is (PV.int a_n), .is ((kL .ow PV.int) v1.1), .is (PV.int v2.1), .is .emp, .is .emp, .is .emp]) (e := PV.int) (e' := (kO PV.int)) ⟨_, rfl, _, rfl, _, rfl, _, rfl, _, rfl, _, rfl, _, rfl, rfl⟩ (fun x4 r6 _ m7 => ?_) fun v8 r9 r9c m10 m10e => ?_
  · obtain ⟨_, rfl, _, rfl, _, rfl, _, rfl, _, rfl, _, rfl, _, rfl, rfl⟩ := m7
    refine lc_tg (tg_N rfl rfl) ?_
    refine x_tYes ?_
    refine lc_yes ?_
    refine x_eq e_C ?_
    refine lc_tm rfl ⟨rfl, ⟨_, rfl, _, rfl, _, rfl, _, rfl, _, rfl, _, rfl, _, rfl, rfl⟩⟩
  obtain ⟨_, rfl, _, rfl, _, rfl, _, rfl, _, rfl, _, rfl, _, rfl, rfl⟩ := m10
  obtain rfl : ([((kQ2 .io PV.int PV.int) v2.2), (PV.int a_n), ((kL .ow PV.int) v1.1), (PV.int v2.1), .emp, .emp, .emp] : List PV) = r9c := m10e
  refine x_set_tm rfl rfl ?_
  refine s_rho (ρ1 := ([((kQ2 .io PV.int PV.int) v2.2), (PV.int a_n), ((kL .ow PV.int) v1.1), (PV.int v2.1), ((kL .ow (kO PV.int)) v8), .emp, .emp] : List PV)) rfl ?_
  refine s_assoc ?_
  refine s_for ?_
  refine x_iRg2 ?_
  refine x_eq (e_cons e_C (e_cons (e_N rfl) e_nil)) ?_
  refine x_rg2E rfl rfl ?_
  generalize rgI (1 : Int) a_n = v11
  refine x_fold (P := fun s13 : ((Int × Int) × (List (Option Int))) => [.is ((kQ2 .io PV.int PV.int) s13.1), .is (PV.int a_n), .is ((kL .ow PV.int) v1.1), .is (PV.int v2.1), .is ((kL .ow (kO PV.int)) s13.2), .jk, .jk]) (e := PV.int) ⟨_, rfl, _, rfl, _, rfl, _, rfl, _, rfl, _, _, rfl, rfl, _, _, rfl, rfl, rfl⟩ (fun s13 x12 r14 e16 m15 => ?_) fun s32 r33 m34 => ?_
  · obtain ⟨_, rfl, _, rfl, _, rfl, _, rfl, _, rfl, j17v, _, rfl, j17, j18v, _, rfl, j18, rfl⟩ := m15
    refine x_tg (tg_N j17 rfl) ?_
    refine s_rho (ρ1 := ([((kQ2 .io PV.int PV.int) s13.1), (PV.int a_n), ((kL .ow PV.int) v1.1), (PV.int v2.1), ((kL .ow (kO PV.int)) s13.2), (PV.int x12), j18v] : List PV)) rfl ?_
    refine s_last ?_
    refine s_assoc ?_
    refine s_set ?_
    refine x_call ?_
    refine x_eq (e_cons (e_N rfl) (e_cons (e_bin (e_N rfl) e_C rfl) e_nil)) ?_
    refine x_callM (ok_own rfl (ok_tm ok_nil)) (sim__law_take s13.1 (x12 + (1 : Int)) .io (by decide)) (fun v19 => (bk_mut (z' := (kQ2 .io PV.int PV.int) v19.2) rfl rfl rfl (bk_tm bk_nil))) (fun z0 => (bk_mut rfl rfl rfl (bk_tm bk_nil))) (fun z0 => trivial) fun v19 => ?_
    refine x_set_tm j18 rfl ?_
    refine s_rho (ρ1 := ([((kQ2 .io PV.int PV.int) v19.2), (PV.int a_n), ((kL .ow PV.int) v1.1), (PV.int v2.1), ((kL .ow (kO PV.int)) s13.2), (PV.int x12), (PV.int v19.1)] : List PV)) rfl ?_
    refine s_assoc ?_
    refine s_join (P := fun s => [.is ((kQ2 .io PV.int PV.int) v19.2), .is (PV.int a_n), .is ((kL .ow PV.int) v1.1), .is (PV.int v2.1), .is ((kL .ow (kO PV.int)) s13.2), .is (PV.int x12), .is (PV.int s)]) ?_ fun s20 r21 m22 => ?_
    · refine s_last ?_
      refine s_if ?_
      refine x_eq (t_tB (e_bin (e_N rfl) e_C (eqD PV.int PV.int v2.1 (0 : Int))) rfl) ?_
      refine x_ite ?_ ?_
      · refine s_set ?_
        refine x_eq (e_N rfl) ?_
        refine x_set_fz (FzV.of PV.int x12) rfl rfl ?_
        exact x_done ⟨rfl, ⟨_, rfl, _, rfl, _, rfl, _, rfl, _, rfl, _, rfl, _, rfl, rfl⟩⟩
      refine s_nx ?_
      exact x_done ⟨rfl, ⟨_, rfl, _, rfl, _, rfl, _, rfl, _, rfl, _, rfl, _, rfl, rfl⟩⟩
    obtain ⟨_, rfl, _, rfl, _, rfl, _, rfl, _, rfl, _, rfl, _, rfl, rfl⟩ := m22
    refine s_assoc ?_
    refine s_join (P := fun s => [.is ((kQ2 .io PV.int PV.int) v19.2), .is (PV.int a_n), .is ((kL .ow PV.int) v1.1), .is (PV.int v2.1), .is ((kL .ow (kO PV.int)) s13.2), .is (PV.int x12), .is (PV.int s)]) ?_ fun s23 r24 m25 => ?_
    · refine s_last ?_
      refine s_if ?_
      refine x_eq (t_tB (e_bin (e_N rfl) e_C (eqD PV.int PV.int v2.1 (1 : Int))) rfl) ?_
      refine x_ite ?_ ?_
      · refine s_set ?_
        refine x_eq e_C ?_
        refine x_set_tm rfl rfl ?_
        exact x_done ⟨rfl, ⟨_, rfl, _, rfl, _, rfl, _, rfl, _, rfl, _, rfl, _, rfl, rfl⟩⟩
      refine s_nx ?_
      exact x_done ⟨rfl, ⟨_, rfl, _, rfl, _, rfl, _, rfl, _, rfl, _, rfl, _, rfl, rfl⟩⟩
    obtain ⟨_, rfl, _, rfl, _, rfl, _, rfl, _, rfl, _, rfl, _, rfl, rfl⟩ := m25
    refine s_join (P := fun s => [.is ((kQ2 .io PV.int PV.int) v19.2), .is (PV.int a_n), .is ((kL .ow PV.int) v1.1), .is (PV.int v2.1), .is ((kL .ow (kO PV.int)) s), .is (PV.int x12), .is (PV.int s23)]) ?_ fun s29 r30 m31 => ?_
    · refine s_last ?_
      refine s_if ?_
      refine x_eq (t_tB (e_bin (e_N rfl) e_C rfl) rfl) ?_
      refine x_ite ?_ ?_
      · refine s_sub ?_
        refine x_bin ?_
        refine x_eq (e_N rfl) ?_
        refine x_eq (e_bin (e_N rfl) e_C rfl) ?_
        refine x_p (os_ix (e := PV.int) (xs := v1.1) rfl rfl) nx_ix fun v26 _ => ?_
        refine x_eq (e_N rfl) ?_
        refine x_bin ?_
        refine x_eq (e_N rfl) ?_
        refine x_eq (e_N rfl) ?_
        refine x_p (os_ix (e := PV.int) (xs := v1.1) rfl rfl) nx_ix fun v27 _ => ?_
        refine x_sub (o := .ow) (e := (kO PV.int)) (xs := s13.2) (v := (some v26)) (take_tm rfl) rfl (by decide) rfl fun v28 => ?_
        exact x_done ⟨rfl, ⟨_, rfl, _, rfl, _, rfl, _, rfl, _, rfl, _, rfl, _, rfl, rfl⟩⟩
      refine s_nx ?_
      exact x_done ⟨rfl, ⟨_, rfl, _, rfl, _, rfl, _, rfl, _, rfl, _, rfl, _, rfl, rfl⟩⟩
    obtain ⟨_, rfl, _, rfl, _, rfl, _, rfl, _, rfl, _, rfl, _, rfl, rfl⟩ := m31
    exact x_done ⟨.inl rfl, ⟨_, rfl, _, rfl, _, rfl, _, rfl, _, rfl, _, _, rfl, rfl, _, _, rfl, rfl, rfl⟩⟩
  obtain ⟨_, rfl, _, rfl, _, rfl, _, rfl, _, rfl, j35v, _, rfl, j35, j36v, _, rfl, j36, rfl⟩ := m34
  refine s_ret ?_
  refine x_eq (e_N rfl) ?_
  refine ret_sl (a := ((kL .ow (kO PV.int)) s32.2)) rfl rfl ?_
  exact fn_ret ⟨rfl, rfl⟩
set_option maxHeartbeats 1000000 in
theorem sim__law_kinds (a_tape_here : (Int × Int)) (a_parents_here : (List (Option Int))) (a_fair : Bool) (o0 : Fl) (ho0 : o0 ≠ .fz) (o1 : Fl) : FS (F__law_kinds [((kQ2 o0 PV.int PV.int) a_tape_here), ((kL o1 (kO PV.int)) a_parents_here), (PV.bl a_fair)]) (t__law_kinds a_tape_here a_parents_here a_fair) (fun b => (kL .ow kS) b.1) (fun b => [(kQ2 .ow PV.int PV.int) b.2, exitR ((kL o1 (kO PV.int)) a_parents_here), (PV.bl a_fair)]) (fun fn => ∃ z0, fn = [z0, exitR ((kL o1 (kO PV.int)) a_parents_here), (PV.bl a_fair)]) := by
  refine fs_run (E := fun r => nth r 1 = (kL (ioF o1) (kO PV.int)) a_parents_here) (rq := (fun (b : ((List OS) × (Int × Int))) w r => w = (kL .ow kS) b.1 ∧ nth r 0 = (kQ2 .io PV.int PV.int) b.2 ∧ nth r 1 = (kL (ioF o1) (kO PV.int)) a_parents_here)) (ρ0 := [((kQ2 .io PV.int PV.int) a_tape_here), ((kL (ioF o1) (kO PV.int)) a_parents_here), (PV.bl a_fair), .emp, .emp, .emp]) rfl (ar_Q2m ho0 (ar_of (fun o => (kL o (kO PV.int))) (ar_fz (FzV.of PV.bl a_fair) ar_nil))) rfl ?_ (fun b w r h => ⟨h.1, (ex_mut (kQ2_own ho0) h.2.1 rfl rfl (ex_ro (fun _ => h.2.2.trans (toIo_of (fun o => (kL o (kO PV.int)))).symm) (ne_of (fun o => (kL o (kO PV.int)))) (ex_fz (FzV.of PV.bl a_fair) ex_nil)))⟩) (fun r h => ⟨_, (ex_step (ex_ro (fun _ => h.trans (toIo_of (fun o => (kL o (kO PV.int)))).symm) (ne_of (fun o => (kL o (kO PV.int)))) (ex_fz (FzV.of PV.bl a_fair) ex_nil))), _, rfl⟩)
  refine s_last ?_
  refine s_assoc ?_
  refine s_set ?_
  refine x_eq (e_lst e_nil .nil (Nat.le_of_ble_eq_true rfl) (c := ((kL .ow kS) ([] : (List OS)))) rfl) ?_
  refine x_set_tm rfl rfl ?_
  refine s_rho (ρ1 := ([((kQ2 .io PV.int PV.int) a_tape_here), ((kL (ioF o1) (kO PV.int)) a_parents_here), (PV.bl a_fair), ((kL .ow kS) ([] : (List OS))), .emp, .emp] : List PV)) rfl ?_
  refine s_assoc ?_
  refine s_for ?_
  refine x_iRg1 ?_
  refine x_eq (e_cons (e_fn (e_cons (e_N rfl) e_nil) (len_L (e := (kO PV.int)) (xs := a_parents_here))) e_nil) ?_
  refine x_rg1E rfl ?_
  generalize rgI 0 (a_parents_here.length : Int) = v1
  refine x_fold (P := fun s3 : ((Int × Int) × (List OS)) => [.is ((kQ2 .io PV.int PV.int) s3.1), .is ((kL (ioF o1) (kO PV.int)) a_parents_here), .is (PV.bl a_fair), .is ((kL .ow kS) s3.2), .jk, .jk]) (e := PV.int) ⟨_, rfl, _, rfl, _, rfl, _, rfl, _, _, rfl, rfl, _, _, rfl, rfl, rfl⟩ (fun s3 x2 r4 e6 m5 => ?_) fun s15 r16 m17 => ?_
  · obtain ⟨_, rfl, _, rfl, _, rfl, _, rfl, j7v, _, rfl, j7, j8v, _, rfl, j8, rfl⟩ := m5
    refine x_tg (tg_N j7 rfl) ?_
    refine s_rho (ρ1 := ([((kQ2 .io PV.int PV.int) s3.1), ((kL (ioF o1) (kO PV.int)) a_parents_here), (PV.bl a_fair), ((kL .ow kS) s3.2), (PV.int x2), j8v] : List PV)) rfl ?_
    refine s_last ?_
    refine s_assoc ?_
    refine s_set ?_
    refine x_call ?_
    refine x_eq (e_cons (e_N rfl) (e_cons e_C e_nil)) ?_
    refine x_callM (ok_own rfl (ok_tm ok_nil)) (sim__law_take s3.1 (4 : Int) .io (by decide)) (fun v9 => (bk_mut (z' := (kQ2 .io PV.int PV.int) v9.2) rfl rfl rfl (bk_tm bk_nil))) (fun z0 => (bk_mut rfl rfl rfl (bk_tm bk_nil))) (fun z0 => rfl) fun v9 => ?_
    refine x_set_tm j8 rfl ?_
    refine s_rho (ρ1 := ([((kQ2 .io PV.int PV.int) v9.2), ((kL (ioF o1) (kO PV.int)) a_parents_here), (PV.bl a_fair), ((kL .ow kS) s3.2), (PV.int x2), (PV.int v9.1)] : List PV)) rfl ?_
    refine s_assoc ?_
    refine s_join (P := fun s => [.is ((kQ2 .io PV.int PV.int) v9.2), .is ((kL (ioF o1) (kO PV.int)) a_parents_here), .is (PV.bl a_fair), .is ((kL .ow kS) s3.2), .is (PV.int x2), .is (PV.int s)]) ?_ fun s10 r11 m12 => ?_
    · refine s_last ?_
      refine s_if ?_
      refine x_eq (t_or (t_tE (e_N rfl) rfl) (t_tB (e_bin (e_N rfl) (e_N rfl) (inLs (kO PV.int) (kO PV.int) (some x2) a_parents_here)) rfl)) ?_
      refine x_ite ?_ ?_
      · refine s_set ?_
        refine x_eq (e_bin (e_fn (e_cons (e_N rfl) e_nil) (c := PV.int v9.1) rfl) e_C (modC rfl rfl (by decide))) ?_
        refine x_set_tm rfl rfl ?_
        exact x_done ⟨rfl, ⟨_, rfl, _, rfl, _, rfl, _, rfl, _, rfl, _, rfl, rfl⟩⟩
      refine s_nx ?_
      exact x_done ⟨rfl, ⟨_, rfl, _, rfl, _, rfl, _, rfl, _, rfl, _, rfl, rfl⟩⟩
    obtain ⟨_, rfl, _, rfl, _, rfl, _, rfl, _, rfl, _, rfl, rfl⟩ := m12
    refine s_E ?_
    refine x_mu ?_
    refine x_eq (e_N rfl) ?_
    refine x_muL (e := kS) (xs := s3.2) rfl ?_
    refine x_acons ?_
    refine x_bin ?_
    refine x_eq (e_lst (e_cons e_C (e_cons e_C (e_cons e_C (e_cons e_C e_nil)))) (.tm rfl (.tm rfl (.tm rfl (.tm rfl .nil)))) (Nat.le_of_ble_eq_true rfl) (c := ((kL .ow kS) [(lit "up"), (lit "down"), (lit "first"), (lit "last")])) rfl) ?_
    refine x_eq (e_N rfl) ?_
    refine x_p (os_ix (e := kS) (xs := [(lit "up"), (lit "down"), (lit "first"), (lit "last")]) rfl rfl) nx_ix fun v13 _ => ?_
    refine x_anil ?_
    refine x_app (o := .ow) (e := kS) (xs := s3.2) (v := v13) (.tm rfl .nil) rfl (by decide) fun v14 => ?_
    exact x_done ⟨.inl rfl, ⟨_, rfl, _, rfl, _, rfl, _, rfl, _, _, rfl, rfl, _, _, rfl, rfl, rfl⟩⟩
  obtain ⟨_, rfl, _, rfl, _, rfl, _, rfl, j18v, _, rfl, j18, j19v, _, rfl, j19, rfl⟩ := m17
  refine s_ret ?_
  refine x_eq (e_N rfl) ?_
  refine ret_sl (a := ((kL .ow kS) s15.2)) rfl rfl ?_
  exact fn_ret ⟨rfl, rfl, rfl⟩
set_option maxHeartbeats 1000000 in
theorem sim_way_ends (a_parents : (List (Option Int))) (a_field : Int) (o0 : Fl) : FS (F_way_ends [((kL o0 (kO PV.int)) a_parents), (PV.int a_field)]) (t_way_ends a_parents a_field) (fun b => PV.bl b) (fun b => [exitR ((kL o0 (kO PV.int)) a_parents), (PV.int a_field)]) (fun fn => fn = [exitR ((kL o0 (kO PV.int)) a_parents), (PV.int a_field)]) := by
  refine fs_run (E := fun r => nth r 0 = (kL (ioF o0) (kO PV.int)) a_parents) (rq := (fun (b : Bool) w r => w = PV.bl b ∧ nth r 0 = (kL (ioF o0) (kO PV.int)) a_parents)) (ρ0 := [((kL (ioF o0) (kO PV.int)) a_parents), (PV.int a_field), .emp]) rfl (ar_of (fun o => (kL o (kO PV.int))) (ar_fz (FzV.of PV.int a_field) ar_nil)) rfl ?_ (fun b w r h => ⟨h.1, (ex_ro (fun _ => h.2.trans (toIo_of (fun o => (kL o (kO PV.int)))).symm) (ne_of (fun o => (kL o (kO PV.int)))) (ex_fz (FzV.of PV.int a_field) ex_nil))⟩) (fun r h => ⟨_, (ex_ro (fun _ => h.trans (toIo_of (fun o => (kL o (kO PV.int)))).symm) (ne_of (fun o => (kL o (kO PV.int)))) (ex_fz (FzV.of PV.int a_field) ex_nil)), rfl⟩)
  refine s_last ?_
  refine s_assoc ?_
  refine forN_for (P := fun s2 : ((Option Int)) => [.is ((kL (ioF o0) (kO PV.int)) a_parents), .is ((kO PV.int) s2), .jk]) (e := (kO PV.int)) (rq := (fun (b : Bool) w r => w = PV.bl b ∧ nth r 0 = (kL (ioF o0) (kO PV.int)) a_parents)) (ioF_or o0) rfl (fun s2 r3 m4 => by obtain ⟨_, rfl, _, rfl, j6v, _, rfl, j6, rfl⟩ := m4; rfl) ⟨_, rfl, _, rfl, _, _, rfl, rfl, rfl⟩ (fun s2 x1 r3 e5 m4 => ?_) (fun s10 r11 m12 => ?_) (fun b14 w15 r16 q17 => ?_)
  · obtain ⟨_, rfl, _, rfl, j6v, _, rfl, j6, rfl⟩ := m4
    refine x_tg (tg_N j6 (FzV.of (kO PV.int) x1).io) ?_
    refine s_rho (ρ1 := ([((kL (ioF o0) (kO PV.int)) a_parents), ((kO PV.int) s2), ((kO PV.int) x1)] : List PV)) rfl ?_
    refine s_last ?_
    refine s_assoc ?_
    refine s_if ?_
    refine x_eq (t_tB (e_bin (e_Nf (FzV.of (kO PV.int) s2) rfl) e_C (isN PV.int s2)) rfl) ?_
    refine x_ite ?_ ?_
    · refine s_ret ?_
      refine x_eq e_C ?_
      exact go_ret ⟨rfl, rfl⟩
    refine s_nx ?_
    refine s_set ?_
    refine x_bin ?_
    refine x_eq (e_N rfl) ?_
    refine x_eq (e_Nf (FzV.of (kO PV.int) s2) rfl) ?_
    refine x_opt fun v7 e8 => ?_
    have e8z : ((kO PV.int) s2) = (PV.int v7) := by rw [e8]; rfl
    try rw [e8z]
    try rw [e8]
    refine x_p (os_ix (e := (kO PV.int)) (xs := a_parents) rfl rfl) nx_ix fun v9 _ => ?_
    refine x_set_tm rfl (FzV.of (kO PV.int) v9).io ?_
    exact x_done ⟨.inl rfl, ⟨_, rfl, _, rfl, _, _, rfl, (FzV.of (kO PV.int) x1).io, rfl⟩⟩
  · obtain ⟨_, rfl, _, rfl, j13v, _, rfl, j13, rfl⟩ := m12
    refine s_ret ?_
    refine x_eq (e_bin (e_Nf (FzV.of (kO PV.int) s10) rfl) e_C (isN PV.int s10)) ?_
    exact fn_ret ⟨rfl, rfl⟩
  exact fn_ret q17
set_option maxHeartbeats 1000000 in
theorem sim_is_ranked (a_kind : OS) : FS (F_is_ranked [(kS a_kind)]) (t_is_ranked a_kind) (fun b => PV.bl b) (fun b => [(kS a_kind)]) (fun fn => fn = [(kS a_kind)]) := by
  refine fs_run (E := fun r => True) (rq := (fun (b : Bool) w r => w = PV.bl b)) (ρ0 := [(kS a_kind)]) rfl (ar_fz (FzV.of kS a_kind) ar_nil) rfl ?_ (fun b w r h => ⟨h, (ex_fz (FzV.of kS a_kind) ex_nil)⟩) (fun r h => ⟨_, (ex_fz (FzV.of kS a_kind) ex_nil), rfl⟩)
  refine s_last ?_
  refine s_ret ?_
  refine x_eq (e_or (e_bin (e_N rfl) e_C (eqD kS kS a_kind (lit "up"))) rfl (e_bin (e_N rfl) e_C (eqD kS kS a_kind (lit "down")))) ?_
  exact fn_ret rfl
set_option maxHeartbeats 1000000 in
theorem sim_check_forest (a_parents : (List (Option Int))) (a_kinds : (List OS)) (o0 : Fl) (o1 : Fl) : FS (F_check_forest [((kL o0 (kO PV.int)) a_parents), ((kL o1 kS) a_kinds)]) (t_check_forest a_parents a_kinds) (fun _ => PV.non) (fun b => [exitR ((kL o0 (kO PV.int)) a_parents), exitR ((kL o1 kS) a_kinds)]) (fun fn => fn = [exitR ((kL o0 (kO PV.int)) a_parents), exitR ((kL o1 kS) a_kinds)]) := by
  refine fs_run (E := fun r => nth r 0 = (kL (ioF o0) (kO PV.int)) a_parents ∧ nth r 1 = (kL (ioF o1) kS) a_kinds) (rq := (fun (b : Unit) w r => w = PV.non ∧ nth r 0 = (kL (ioF o0) (kO PV.int)) a_parents ∧ nth r 1 = (kL (ioF o1) kS) a_kinds)) (ρ0 := [((kL (ioF o0) (kO PV.int)) a_parents), ((kL (ioF o1) kS) a_kinds), .emp, .emp, .emp, .emp]) rfl (ar_of (fun o => (kL o (kO PV.int))) (ar_of (fun o => (kL o kS)) ar_nil)) rfl ?_ (fun b w r h => ⟨h.1, (ex_ro (fun _ => h.2.1.trans (toIo_of (fun o => (kL o (kO PV.int)))).symm) (ne_of (fun o => (kL o (kO PV.int)))) (ex_ro (fun _ => h.2.2.trans (toIo_of (fun o => (kL o kS))).symm) (ne_of (fun o => (kL o kS))) ex_nil))⟩) (fun r h => ⟨_, (ex_ro (fun _ => h.1.trans (toIo_of (fun o => (kL o (kO PV.int)))).symm) (ne_of (fun o => (kL o (kO PV.int)))) (ex_ro (fun _ => h.2.trans (toIo_of (fun o => (kL o kS))).symm) (ne_of (fun o => (kL o kS))) ex_nil)), rfl⟩)
  refine s_last ?_
  refine s_assoc ?_
  refine s_set ?_
  refine x_eq (e_fn (e_cons (e_N rfl) e_nil) (len_L (e := (kO PV.int)) (xs := a_parents))) ?_
  refine x_set_tm rfl rfl ?_
  refine s_rho (ρ1 := ([((kL (ioF o0) (kO PV.int)) a_parents), ((kL (ioF o1) kS) a_kinds), (PV.int (a_parents.length : Int)), .emp, .emp, .emp] : List PV)) rfl ?_
  refine s_assoc ?_
  refine s_if ?_
  refine x_eq (t_or (t_tB (e_bin (e_N rfl) (e_fn (e_cons (e_N rfl) e_nil) (len_L (e := kS) (xs := a_kinds))) (neD PV.int PV.int (a_parents.length : Int) (a_kinds.length : Int))) rfl) (t_or (t_tB (e_bin (e_N rfl) e_C rfl) rfl) (t_tB (e_bin (e_N rfl) e_C rfl) rfl))) ?_
  refine x_ite ?_ ?_
  · refine s_raise1 ?_
    refine x_eq (e_cons e_C e_nil) ?_
    exact x_raise1 (.tm rfl .nil) ⟨rfl, rfl⟩
  refine s_nx ?_
  refine s_assoc ?_
  refine forE_fold (P := fun s2 : Unit => [.is ((kL (ioF o0) (kO PV.int)) a_parents), .is ((kL (ioF o1) kS) a_kinds), .is (PV.int (a_parents.length : Int)), .jk, .jk, .jk]) (e := (kO PV.int)) (ioF_or o0) rfl (fun s2 r3 m4 => by obtain ⟨_, rfl, _, rfl, _, rfl, j6v, _, rfl, j6, j7v, _, rfl, j7, j8v, _, rfl, j8, rfl⟩ := m4; rfl) ⟨_, rfl, _, rfl, _, rfl, _, _, rfl, rfl, _, _, rfl, rfl, _, _, rfl, rfl, rfl⟩ (fun s2 x1 r3 e5 m4 => ?_) fun s13 r14 m15 => ?_
  · obtain ⟨_, rfl, _, rfl, _, rfl, j6v, _, rfl, j6, j7v, _, rfl, j7, j8v, _, rfl, j8, rfl⟩ := m4
    refine x_tg (tg_T2 (tg_N j6 rfl) (tg_N j7 (FzV.of (kO PV.int) x1.2).io)) ?_
    refine s_rho (ρ1 := ([((kL (ioF o0) (kO PV.int)) a_parents), ((kL (ioF o1) kS) a_kinds), (PV.int (a_parents.length : Int)), (PV.int x1.1), ((kO PV.int) x1.2), j8v] : List PV)) rfl ?_
    refine s_last ?_
    refine s_if ?_
    refine x_tAnd ?_
    refine x_eq (t_tB (e_bin (e_Nf (FzV.of (kO PV.int) x1.2) rfl) e_C (isnN PV.int x1.2)) rfl) ?_
    refine x_tAndP ?_ fun v12 => ?_
    · refine x_fin ?_
      refine x_tOr ?_
      refine x_tB ?_
      refine x_bin ?_
      refine x_eq (e_Nf (FzV.of (kO PV.int) x1.2) rfl) ?_
      refine x_eq e_C ?_
      refine x_opt fun v9 e10 => ?_
      have e10z : ((kO PV.int) x1.2) = (PV.int v9) := by rw [e10]; rfl
      try rw [e10z]
      try rw [e10]
      refine x_o rfl ?_
      refine x_ofB rfl ?_
      refine x_tOrP ?_ fun v11 => ?_
      · refine x_fin ?_
        refine x_eq (t_tB (e_bin (e_N rfl) (e_N rfl) rfl) rfl) ?_
        exact pq_done
      exact pq_done
    refine x_ite ?_ ?_
    · refine s_raise1 ?_
      refine x_eq (e_cons (e_N rfl) e_nil) ?_
      exact x_raise1 (.fz (FzV.of PV.int x1.1) rfl .nil) ⟨rfl, rfl⟩
    refine s_nx ?_
    exact x_done ⟨.inl rfl, ⟨_, rfl, _, rfl, _, rfl, _, _, rfl, rfl, _, _, rfl, (FzV.of (kO PV.int) x1.2).io, _, _, rfl, j8, rfl⟩⟩
  obtain ⟨_, rfl, _, rfl, _, rfl, j16v, _, rfl, j16, j17v, _, rfl, j17, j18v, _, rfl, j18, rfl⟩ := m15
  refine s_assoc ?_
  refine s_for ?_
  refine x_iRg1 ?_
  refine x_eq (e_cons (e_N rfl) e_nil) ?_
  refine x_rg1E rfl ?_
  generalize rgI 0 (a_parents.length : Int) = v19
  refine x_fold (P := fun s21 : Unit => [.is ((kL (ioF o0) (kO PV.int)) a_parents), .is ((kL (ioF o1) kS) a_kinds), .is (PV.int (a_parents.length : Int)), .jk, .jk, .jk]) (e := PV.int) ⟨_, rfl, _, rfl, _, rfl, _, _, rfl, j16, _, _, rfl, j17, _, _, rfl, j18, rfl⟩ (fun s21 x20 r22 e24 m23 => ?_) fun s29 r30 m31 => ?_
  · obtain ⟨_, rfl, _, rfl, _, rfl, j25v, _, rfl, j25, j26v, _, rfl, j26, j27v, _, rfl, j27, rfl⟩ := m23
    refine x_tg (tg_N j25 rfl) ?_
    refine s_rho (ρ1 := ([((kL (ioF o0) (kO PV.int)) a_parents), ((kL (ioF o1) kS) a_kinds), (PV.int (a_parents.length : Int)), (PV.int x20), j26v, j27v] : List PV)) rfl ?_
    refine s_last ?_
    refine s_if ?_
    refine x_tNot ?_
    refine x_tE ?_
    refine x_call ?_
    refine x_eq (e_cons (e_N rfl) (e_cons (e_N rfl) e_nil)) ?_
    refine x_callR (ok_own rfl (ok_fz (FzV.of PV.int x20) rfl ok_nil)) (sim_way_ends a_parents x20 (ioF o0)) (bk_ro rfl rfl (bk_fz (FzV.of PV.int x20) rfl bk_nil)) ⟨rfl, rfl⟩ fun v28 => ?_
    refine x_ofB rfl ?_
    refine x_ite ?_ ?_
    · refine s_raise1 ?_
      refine x_eq (e_cons (e_N rfl) e_nil) ?_
      exact x_raise1 (.fz (FzV.of PV.int x20) rfl .nil) ⟨rfl, rfl⟩
    refine s_nx ?_
    exact x_done ⟨.inl rfl, ⟨_, rfl, _, rfl, _, rfl, _, _, rfl, rfl, _, _, rfl, j26, _, _, rfl, j27, rfl⟩⟩
  obtain ⟨_, rfl, _, rfl, _, rfl, j32v, _, rfl, j32, j33v, _, rfl, j33, j34v, _, rfl, j34, rfl⟩ := m31
  refine forE_fold (P := fun s36 : Unit => [.is ((kL (ioF o0) (kO PV.int)) a_parents), .is ((kL (ioF o1) kS) a_kinds), .is (PV.int (a_parents.length : Int)), .jk, .jk, .jk]) (e := kS) (ioF_or o1) rfl (fun s36 r37 m38 => by obtain ⟨_, rfl, _, rfl, _, rfl, j40v, _, rfl, j40, j41v, _, rfl, j41, j42v, _, rfl, j42, rfl⟩ := m38; rfl) ⟨_, rfl, _, rfl, _, rfl, _, _, rfl, j32, _, _, rfl, j33, _, _, rfl, j34, rfl⟩ (fun s36 x35 r37 e39 m38 => ?_) fun s45 r46 m47 => ?_
  · obtain ⟨_, rfl, _, rfl, _, rfl, j40v, _, rfl, j40, j41v, _, rfl, j41, j42v, _, rfl, j42, rfl⟩ := m38
    refine x_tg (tg_T2 (tg_N j40 rfl) (tg_N j42 rfl)) ?_
    refine s_rho (ρ1 := ([((kL (ioF o0) (kO PV.int)) a_parents), ((kL (ioF o1) kS) a_kinds), (PV.int (a_parents.length : Int)), (PV.int x35.1), j41v, (kS x35.2)] : List PV)) rfl ?_
    refine s_last ?_
    refine s_if ?_
    refine x_tAnd ?_
    refine x_tNot ?_
    refine x_tE ?_
    refine x_call ?_
    refine x_eq (e_cons (e_N rfl) e_nil) ?_
    refine x_callR (ok_fz (FzV.of kS x35.2) rfl ok_nil) (sim_is_ranked x35.2) (bk_fz (FzV.of kS x35.2) rfl bk_nil) ⟨rfl, rfl⟩ fun v43 => ?_
    refine x_ofB rfl ?_
    refine x_tAndP ?_ fun v44 => ?_
    · refine x_fin ?_
      refine x_eq (t_tB (e_bin (e_N rfl) (e_N rfl) (inLs (kO PV.int) (kO PV.int) (some x35.1) a_parents)) rfl) ?_
      exact pq_done
    refine x_ite ?_ ?_
    · refine s_raise1 ?_
      refine x_eq (e_cons (e_N rfl) e_nil) ?_
      exact x_raise1 (.fz (FzV.of PV.int x35.1) rfl .nil) ⟨rfl, rfl⟩
    refine s_nx ?_
    exact x_done ⟨.inl rfl, ⟨_, rfl, _, rfl, _, rfl, _, _, rfl, rfl, _, _, rfl, j41, _, _, rfl, rfl, rfl⟩⟩
  obtain ⟨_, rfl, _, rfl, _, rfl, j48v, _, rfl, j48, j49v, _, rfl, j49, j50v, _, rfl, j50, rfl⟩ := m47
  exact x_done ⟨_, .inr ⟨rfl, rfl⟩, ⟨rfl, rfl, rfl⟩⟩
set_option maxHeartbeats 1000000 in
theorem sim_Forest____init__ (a_parents : (List (Option Int))) (a_kinds : (List OS)) (o1 : Fl) (o2 : Fl) : FS (F_Forest____init__ [(.obj .io "Forest" []), ((kL o1 (kO PV.int)) a_parents), ((kL o2 kS) a_kinds)]) (t_Forest____init__ a_parents a_kinds) (fun _ => PV.non) (fun b => [kC_Forest .ow b, exitR ((kL o1 (kO PV.int)) a_parents), exitR ((kL o2 kS) a_kinds)]) (fun fn => ∃ z fn', fn = z :: fn' ∧ fn' = [exitR ((kL o1 (kO PV.int)) a_parents), exitR ((kL o2 kS) a_kinds)]) := by
  refine fs_run (E := fun r => nth r 1 = (kL (ioF o1) (kO PV.int)) a_parents ∧ nth r 2 = (kL (ioF o2) kS) a_kinds) (rq := (fun (b : O_Forest) w r => w = PV.non ∧ nth r 0 = kC_Forest .io b ∧ nth r 1 = (kL (ioF o1) (kO PV.int)) a_parents ∧ nth r 2 = (kL (ioF o2) kS) a_kinds)) (ρ0 := [(.obj .io "Forest" []), ((kL (ioF o1) (kO PV.int)) a_parents), ((kL (ioF o2) kS) a_kinds)]) rfl (ar_any rfl (ar_of (fun o => (kL o (kO PV.int))) (ar_of (fun o => (kL o kS)) ar_nil))) rfl ?_ (fun b w r h => ⟨h.1, (ex_mut rfl h.2.1 rfl rfl (ex_ro (fun _ => h.2.2.1.trans (toIo_of (fun o => (kL o (kO PV.int)))).symm) (ne_of (fun o => (kL o (kO PV.int)))) (ex_ro (fun _ => h.2.2.2.trans (toIo_of (fun o => (kL o kS))).symm) (ne_of (fun o => (kL o kS))) ex_nil)))⟩) (fun r h => ⟨_, (ex_step (ex_ro (fun _ => h.1.trans (toIo_of (fun o => (kL o (kO PV.int)))).symm) (ne_of (fun o => (kL o (kO PV.int)))) (ex_ro (fun _ => h.2.trans (toIo_of (fun o => (kL o kS))).symm) (ne_of (fun o => (kL o kS))) ex_nil))), _, _, rfl, rfl⟩)
  refine s_last ?_
  refine s_assoc ?_
  refine s_E ?_
  refine x_call ?_
  refine x_eq (e_cons (e_N rfl) (e_cons (e_N rfl) e_nil)) ?_
  refine x_callR (ok_own rfl (ok_own rfl ok_nil)) (sim_check_forest a_parents a_kinds (ioF o1) (ioF o2)) (bk_ro rfl rfl (bk_ro rfl rfl bk_nil)) ⟨rfl, rfl⟩ fun v1 => ?_
  refine s_rho (ρ1 := ([(.obj .io "Forest" []), ((kL (ioF o1) (kO PV.int)) a_parents), ((kL (ioF o2) kS) a_kinds)] : List PV)) rfl ?_
  refine s_assoc ?_
  refine s_at ?_
  refine x_eq (e_fn (e_cons (e_N rfl) e_nil) (len_L (e := (kO PV.int)) (xs := a_parents))) ?_
  refine x_eq (e_N rfl) ?_
  refine x_at (take_tm rfl) rfl rfl ?_
  refine s_rho (ρ1 := ([(.obj .io "Forest" [(PV.int (a_parents.length : Int))]), ((kL (ioF o1) (kO PV.int)) a_parents), ((kL (ioF o2) kS) a_kinds)] : List PV)) rfl ?_
  refine s_assoc ?_
  refine s_at ?_
  refine x_eq (e_fn (e_cons (e_N rfl) e_nil) (c := ((kT (kO PV.int)) a_parents)) rfl) ?_
  refine x_eq (e_N rfl) ?_
  refine x_at (take_tm rfl) rfl rfl ?_
  refine s_rho (ρ1 := ([(.obj .io "Forest" [(PV.int (a_parents.length : Int)), ((kT (kO PV.int)) a_parents)]), ((kL (ioF o1) (kO PV.int)) a_parents), ((kL (ioF o2) kS) a_kinds)] : List PV)) rfl ?_
  refine s_at ?_
  refine x_eq (e_fn (e_cons (e_N rfl) e_nil) (c := ((kT kS) a_kinds)) rfl) ?_
  refine x_eq (e_N rfl) ?_
  refine x_at (take_tm rfl) rfl rfl ?_
  exact x_done ⟨_, .inr ⟨rfl, rfl⟩, ⟨rfl, rfl, rfl, rfl⟩⟩
set_option maxHeartbeats 1000000 in
theorem sim_Forest__leaves (a_self : O_Forest) : FS (F_Forest__leaves [((kC_Forest .fz) a_self)]) (t_Forest__leaves a_self) (fun b => (kT PV.int) b) (fun b => [((kC_Forest .fz) a_self)]) (fun fn => fn = [((kC_Forest .fz) a_self)]) := by
  refine fs_run (E := fun r => True) (rq := (fun (b : (List Int)) w r => w = (kT PV.int) b)) (ρ0 := [((kC_Forest .fz) a_self), .emp]) rfl (ar_fz (FzV.of (kC_Forest .fz) a_self) ar_nil) rfl ?_ (fun b w r h => ⟨h, (ex_fz (FzV.of (kC_Forest .fz) a_self) ex_nil)⟩) (fun r h => ⟨_, (ex_fz (FzV.of (kC_Forest .fz) a_self) ex_nil), rfl⟩)
  unfold t_Forest__leaves
  refine s_last ?_
  refine s_ret ?_
  refine x_fn ?_
  refine x_acons ?_
  refine x_lc ?_
  refine x_iRg1 ?_
  refine x_eq (e_cons (e_un (e_N rfl) (at_ok (c := (PV.int a_self.fields)) rfl)) e_nil) ?_
  refine x_rg1E rfl ?_
  generalize rgI 0 a_self.fields = v1
  refine x_lcP (P := [.is ((kC_Forest .fz) a_self), .is .emp]) (e := PV.int) (e' := PV.int) ⟨_, rfl, _, rfl, rfl⟩ (fun x2 r4 _ m5 => ?_) fun v6 r7 r7c m8 m8e => ?_
  · obtain ⟨_, rfl, _, rfl, rfl⟩ := m5
    refine lc_tg (tg_N rfl rfl) ?_
    refine x_eq (t_tB (e_bin (e_N rfl) (e_un (e_N rfl) (at_ok (c := ((kT (kO PV.int)) a_self.parents)) rfl)) (ninTs (kO PV.int) (kO PV.int) (some x2) a_self.parents)) rfl) ?_
    refine x_ite ?_ ?_
    · refine x_eq (e_N rfl) ?_
      refine lc_fz (FzV.of PV.int x2) rfl ⟨rfl, ⟨_, rfl, _, rfl, rfl⟩⟩
    exact x_done ⟨rfl, ⟨_, rfl, _, rfl, rfl⟩⟩
  obtain ⟨_, rfl, _, rfl, rfl⟩ := m8
  obtain rfl : ([((kC_Forest .fz) a_self), .emp] : List PV) = r7c := m8e
  refine x_anil ?_
  refine x_o (c := ((kT PV.int) v6)) rfl ?_
  exact fn_ret rfl
set_option maxHeartbeats 1000000 in
theorem sim_ranked_leaves (a_forest : O_Forest) : FS (F_ranked_leaves [((kC_Forest .fz) a_forest)]) (t_ranked_leaves a_forest) (fun b => (kL .ow PV.int) b) (fun b => [((kC_Forest .fz) a_forest)]) (fun fn => fn = [((kC_Forest .fz) a_forest)]) := by
  refine fs_run (E := fun r => True) (rq := (fun (b : (List Int)) w r => w = (kL .ow PV.int) b)) (ρ0 := [((kC_Forest .fz) a_forest), .emp]) rfl (ar_fz (FzV.of (kC_Forest .fz) a_forest) ar_nil) rfl ?_ (fun b w r h => ⟨h, (ex_fz (FzV.of (kC_Forest .fz) a_forest) ex_nil)⟩) (fun r h => ⟨_, (ex_fz (FzV.of (kC_Forest .fz) a_forest) ex_nil), rfl⟩)
  unfold t_ranked_leaves
  refine s_last ?_
  refine s_ret ?_
  refine x_lc ?_
  refine x_iSeq ?_
  refine x_prop ?_
  refine x_eq (e_N rfl) ?_
  refine x_propR isObj_ok (sim_Forest__leaves a_forest) (bk_fz (FzV.of (kC_Forest .fz) a_forest) rfl bk_nil) fun v1 => ?_
  refine x_it_tm (xs := v1.map PV.int) rfl ?_
  refine x_lcP (P := [.is ((kC_Forest .fz) a_forest), .is .emp]) (e := PV.int) (e' := PV.int) ⟨_, rfl, _, rfl, rfl⟩ (fun x2 r4 _ m5 => ?_) fun v8 r9 r9c m10 m10e => ?_
  · obtain ⟨_, rfl, _, rfl, rfl⟩ := m5
    refine lc_tg (tg_N rfl rfl) ?_
    refine x_tE ?_
    refine x_call ?_
    refine x_acons ?_
    refine x_bin ?_
    refine x_eq (e_un (e_N rfl) (at_ok (c := ((kT kS) a_forest.kinds)) rfl)) ?_
    refine x_eq (e_N rfl) ?_
    refine x_p (os_ixT (e := kS) (xs := a_forest.kinds) rfl rfl) nx_ix fun v6 _ => ?_
    refine x_anil ?_
    refine x_callR (ok_tm ok_nil) (sim_is_ranked v6) (bk_tm bk_nil) trivial fun v7 => ?_
    refine x_ofB rfl ?_
    refine x_ite ?_ ?_
    · refine x_eq (e_N rfl) ?_
      refine lc_fz (FzV.of PV.int x2) rfl ⟨rfl, ⟨_, rfl, _, rfl, rfl⟩⟩
    exact x_done ⟨rfl, ⟨_, rfl, _, rfl, rfl⟩⟩
  obtain ⟨_, rfl, _, rfl, rfl⟩ := m10
  obtain rfl : ([((kC_Forest .fz) a_forest), .emp] : List PV) = r9c := m10e
  exact fn_ret rfl
set_option maxHeartbeats 1000000 in
theorem sim_Forest__children (a_self : O_Forest) (a_field : (Option Int)) : FS (F_Forest__children [((kC_Forest .fz) a_self), ((kO PV.int) a_field)]) (t_Forest__children a_self a_field) (fun b => (kT PV.int) b) (fun b => [((kC_Forest .fz) a_self), ((kO PV.int) a_field)]) (fun fn => fn = [((kC_Forest .fz) a_self), ((kO PV.int) a_field)]) := by
  refine fs_run (E := fun r => True) (rq := (fun (b : (List Int)) w r => w = (kT PV.int) b)) (ρ0 := [((kC_Forest .fz) a_self), ((kO PV.int) a_field), .emp]) rfl (ar_fz (FzV.of (kC_Forest .fz) a_self) (ar_fz (FzV.of (kO PV.int) a_field) ar_nil)) rfl ?_ (fun b w r h => ⟨h, (ex_fz (FzV.of (kC_Forest .fz) a_self) (ex_fz (FzV.of (kO PV.int) a_field) ex_nil))⟩) (fun r h => ⟨_, (ex_fz (FzV.of (kC_Forest .fz) a_self) (ex_fz (FzV.of (kO PV.int) a_field) ex_nil)), rfl⟩)
  unfold t_Forest__children
  refine s_last ?_
  refine s_ret ?_
  refine x_fn ?_
  refine x_acons ?_
  refine x_lc ?_
  refine x_iRg1 ?_
  refine x_eq (e_cons (e_un (e_N rfl) (at_ok (c := (PV.int a_self.fields)) rfl)) e_nil) ?_
  refine x_rg1E rfl ?_
  generalize rgI 0 a_self.fields = v1
  refine x_lcP (P := [.is ((kC_Forest .fz) a_self), .is ((kO PV.int) a_field), .is .emp]) (e := PV.int) (e' := PV.int) ⟨_, rfl, _, rfl, _, rfl, rfl⟩ (fun x2 r4 _ m5 => ?_) fun v7 r8 r8c m9 m9e => ?_
  · obtain ⟨_, rfl, _, rfl, _, rfl, rfl⟩ := m5
    refine lc_tg (tg_N rfl rfl) ?_
    refine x_tB ?_
    refine x_bin ?_
    refine x_bin ?_
    refine x_eq (e_un (e_N rfl) (at_ok (c := ((kT (kO PV.int)) a_self.parents)) rfl)) ?_
    refine x_eq (e_N rfl) ?_
    refine x_p (os_ixT (e := (kO PV.int)) (xs := a_self.parents) rfl rfl) nx_ix fun v6 _ => ?_
    refine x_eq (e_Nf (FzV.of (kO PV.int) a_field) rfl) ?_
    refine x_o (eqD (kO PV.int) (kO PV.int) v6 a_field) ?_
    refine x_ofB rfl ?_
    refine x_ite ?_ ?_
    · refine x_eq (e_N rfl) ?_
      refine lc_fz (FzV.of PV.int x2) rfl ⟨rfl, ⟨_, rfl, _, rfl, _, rfl, rfl⟩⟩
    exact x_done ⟨rfl, ⟨_, rfl, _, rfl, _, rfl, rfl⟩⟩
  obtain ⟨_, rfl, _, rfl, _, rfl, rfl⟩ := m9
  obtain rfl : ([((kC_Forest .fz) a_self), ((kO PV.int) a_field), .emp] : List PV) = r8c := m9e
  refine x_anil ?_
  refine x_o (c := ((kT PV.int) v7)) rfl ?_
  exact fn_ret rfl
set_option maxHeartbeats 1000000 in
theorem sim_hung_classes (a_forest : O_Forest) (a_kind : OS) : FS (F_hung_classes [((kC_Forest .fz) a_forest), (kS a_kind)]) (t_hung_classes a_forest a_kind) (fun b => (kL .ow (kP2 (kO PV.int) (kT PV.int))) b) (fun b => [((kC_Forest .fz) a_forest), (kS a_kind)]) (fun fn => fn = [((kC_Forest .fz) a_forest), (kS a_kind)]) := by
  refine fs_run (E := fun r => True) (rq := (fun (b : (List ((Option Int) × (List Int)))) w r => w = (kL .ow (kP2 (kO PV.int) (kT PV.int))) b)) (ρ0 := [((kC_Forest .fz) a_forest), (kS a_kind), .emp, .emp, .emp, .emp]) rfl (ar_fz (FzV.of (kC_Forest .fz) a_forest) (ar_fz (FzV.of kS a_kind) ar_nil)) rfl ?_ (fun b w r h => ⟨h, (ex_fz (FzV.of (kC_Forest .fz) a_forest) (ex_fz (FzV.of kS a_kind) ex_nil))⟩) (fun r h => ⟨_, (ex_fz (FzV.of (kC_Forest .fz) a_forest) (ex_fz (FzV.of kS a_kind) ex_nil)), rfl⟩)
  unfold t_hung_classes
  refine s_last ?_
  refine s_assoc ?_
  refine s_set ?_
  refine x_eq (e_lst e_nil .nil (Nat.le_of_ble_eq_true rfl) (c := ((kL .ow (kP2 (kO PV.int) (kT PV.int))) ([] : (List ((Option Int) × (List Int)))))) rfl) ?_
  refine x_set_tm rfl rfl ?_
  refine s_rho (ρ1 := ([((kC_Forest .fz) a_forest), (kS a_kind), ((kL .ow (kP2 (kO PV.int) (kT PV.int))) ([] : (List ((Option Int) × (List Int))))), .emp, .emp, .emp] : List PV)) rfl ?_
  refine s_assoc ?_
  refine s_for ?_
  refine x_iSeq ?_
  refine x_bin ?_
  refine x_eq (e_lst (e_cons e_C e_nil) (.tm rfl .nil) (Nat.le_of_ble_eq_true rfl) (c := ((kL .ow kU) [()])) rfl) ?_
  refine x_eRg1 ?_
  refine x_eq (e_un (e_N rfl) (at_ok (c := (PV.int a_forest.fields)) rfl)) ?_
  refine x_eRg1E (e := (kL .ow PV.int)) rfl (fun _ => rfl) fun v1 => ?_
  refine x_p (os_catL (e := (kO PV.int)) (xs := [(none : (Option Int))]) (ys := (v1.map fun (z : Int) => (some z))) rfl (show ((kL .ow PV.int) v1) = (kL .ow (kO PV.int)) (v1.map fun (z : Int) => (some z)) from (kL_cast (f := fun (z : Int) => (some z)) fun z => rfl))) nx_cat fun v2 _ => ?_
  refine x_it_tm (xs := v2.map (kO PV.int)) rfl ?_
  refine x_fold (P := fun s4 : ((List ((Option Int) × (List Int)))) => [.is ((kC_Forest .fz) a_forest), .is (kS a_kind), .is ((kL .ow (kP2 (kO PV.int) (kT PV.int))) s4), .jk, .jk, .jk]) (e := (kO PV.int)) ⟨_, rfl, _, rfl, _, rfl, _, _, rfl, rfl, _, _, rfl, rfl, _, _, rfl, rfl, rfl⟩ (fun s4 x3 r5 e7 m6 => ?_) fun s26 r27 m28 => ?_
  · obtain ⟨_, rfl, _, rfl, _, rfl, j8v, _, rfl, j8, j9v, _, rfl, j9, j10v, _, rfl, j10, rfl⟩ := m6
    refine x_tg (tg_N j8 (FzV.of (kO PV.int) x3).io) ?_
    refine s_rho (ρ1 := ([((kC_Forest .fz) a_forest), (kS a_kind), ((kL .ow (kP2 (kO PV.int) (kT PV.int))) s4), ((kO PV.int) x3), j9v, j10v] : List PV)) rfl ?_
    refine s_last ?_
    refine s_assoc ?_
    refine s_set ?_
    refine x_fn ?_
    refine x_acons ?_
    refine x_lc ?_
    refine x_iSeq ?_
    refine x_meth ?_
    refine x_eq (e_N rfl) ?_
    refine x_methO isObj_ok ?_
    refine x_eq (e_cons (e_Nf (FzV.of (kO PV.int) x3) rfl) e_nil) ?_
    refine x_callR (ok_fz (FzV.of (kC_Forest .fz) a_forest) rfl (ok_fz (FzV.of (kO PV.int) x3) rfl ok_nil)) (sim_Forest__children a_forest x3) (bk_fz (FzV.of (kC_Forest .fz) a_forest) rfl (bk_fz (FzV.of (kO PV.int) x3) rfl bk_nil)) trivial fun v11 => ?_
    refine x_it_tm (xs := v11.map PV.int) rfl ?_
    refine x_lcP (P := [.is ((kC_Forest .fz) a_forest), .is (kS a_kind), .is ((kL .ow (kP2 (kO PV.int) (kT PV.int))) s4), .is ((kO PV.int) x3), .jk, .is .emp]) (e := PV.int) (e' := PV.int) ⟨_, rfl, _, rfl, _, rfl, _, rfl, _, _, rfl, j9, _, rfl, rfl⟩ (fun x12 r14 _ m15 => ?_) fun v18 r19 r19c m20 m20e => ?_
    · obtain ⟨_, rfl, _, rfl, _, rfl, _, rfl, j16v, _, rfl, j16, _, rfl, rfl⟩ := m15
      refine lc_tg (tg_N rfl rfl) ?_
      refine x_tB ?_
      refine x_bin ?_
      refine x_bin ?_
      refine x_eq (e_un (e_N rfl) (at_ok (c := ((kT kS) a_forest.kinds)) rfl)) ?_
      refine x_eq (e_N rfl) ?_
      refine x_p (os_ixT (e := kS) (xs := a_forest.kinds) rfl rfl) nx_ix fun v17 _ => ?_
      refine x_eq (e_N rfl) ?_
      refine x_o (eqD kS kS v17 a_kind) ?_
      refine x_ofB rfl ?_
      refine x_ite ?_ ?_
      · refine x_eq (e_N rfl) ?_
        refine lc_fz (FzV.of PV.int x12) rfl ⟨rfl, ⟨_, rfl, _, rfl, _, rfl, _, rfl, _, _, rfl, j16, _, rfl, rfl⟩⟩
      exact x_done ⟨rfl, ⟨_, rfl, _, rfl, _, rfl, _, rfl, _, _, rfl, j16, _, rfl, rfl⟩⟩
    obtain ⟨_, rfl, _, rfl, _, rfl, _, rfl, j16v, _, rfl, j16, _, rfl, rfl⟩ := m20
    obtain rfl : ([((kC_Forest .fz) a_forest), (kS a_kind), ((kL .ow (kP2 (kO PV.int) (kT PV.int))) s4), ((kO PV.int) x3), j16v, j10v] : List PV) = r19c := m20e
    refine x_anil ?_
    refine x_o (c := ((kT PV.int) v18)) rfl ?_
    refine x_set_tm j16 rfl ?_
    refine s_rho (ρ1 := ([((kC_Forest .fz) a_forest), (kS a_kind), ((kL .ow (kP2 (kO PV.int) (kT PV.int))) s4), ((kO PV.int) x3), ((kT PV.int) v18), j10v] : List PV)) rfl ?_
    refine s_join (P := fun s => [.is ((kC_Forest .fz) a_forest), .is (kS a_kind), .is ((kL .ow (kP2 (kO PV.int) (kT PV.int))) s), .is ((kO PV.int) x3), .is ((kT PV.int) v18), .jk]) ?_ fun s22 r23 m24 => ?_
    · refine s_last ?_
      refine s_if ?_
      refine x_eq (t_tE (e_N rfl) (tru_T (e := PV.int) (xs := v18))) ?_
      refine x_ite ?_ ?_
      · refine s_E ?_
        refine x_mu ?_
        refine x_eq (e_N rfl) ?_
        refine x_muL (e := (kP2 (kO PV.int) (kT PV.int))) (xs := s4) rfl ?_
        refine x_eq (e_cons (e_tup (e_cons (e_Nf (FzV.of (kO PV.int) x3) rfl) (e_cons (e_N rfl) e_nil)) (.fz (FzV.of (kO PV.int) x3) rfl (.fz (FzV.of (kT PV.int) v18) rfl .nil)) (Nat.le_of_ble_eq_true rfl) (c := ((kP2 (kO PV.int) (kT PV.int)) (x3, v18))) rfl) e_nil) ?_
        refine x_app (o := .ow) (e := (kP2 (kO PV.int) (kT PV.int))) (xs := s4) (v := (x3, v18)) (.tm rfl .nil) rfl (by decide) fun v21 => ?_
        exact x_done ⟨rfl, ⟨_, rfl, _, rfl, _, rfl, _, rfl, _, rfl, _, _, rfl, j10, rfl⟩⟩
      refine s_nx ?_
      exact x_done ⟨rfl, ⟨_, rfl, _, rfl, _, rfl, _, rfl, _, rfl, _, _, rfl, j10, rfl⟩⟩
    obtain ⟨_, rfl, _, rfl, _, rfl, _, rfl, _, rfl, j25v, _, rfl, j25, rfl⟩ := m24
    exact x_done ⟨.inl rfl, ⟨_, rfl, _, rfl, _, rfl, _, _, rfl, (FzV.of (kO PV.int) x3).io, _, _, rfl, rfl, _, _, rfl, j25, rfl⟩⟩
  obtain ⟨_, rfl, _, rfl, _, rfl, j29v, _, rfl, j29, j30v, _, rfl, j30, j31v, _, rfl, j31, rfl⟩ := m28
  refine s_ret ?_
  refine x_eq (e_N rfl) ?_
  refine ret_sl (a := ((kL .ow (kP2 (kO PV.int) (kT PV.int))) s26)) rfl rfl ?_
  exact fn_ret rfl
set_option maxHeartbeats 1000000 in
theorem sim_class_count (a_forest : O_Forest) : FS (F_class_count [((kC_Forest .fz) a_forest)]) (t_class_count a_forest) (fun b => PV.int b) (fun b => [((kC_Forest .fz) a_forest)]) (fun fn => fn = [((kC_Forest .fz) a_forest)]) := by
  refine fs_run (E := fun r => True) (rq := (fun (b : Int) w r => w = PV.int b)) (ρ0 := [((kC_Forest .fz) a_forest)]) rfl (ar_fz (FzV.of (kC_Forest .fz) a_forest) ar_nil) rfl ?_ (fun b w r h => ⟨h, (ex_fz (FzV.of (kC_Forest .fz) a_forest) ex_nil)⟩) (fun r h => ⟨_, (ex_fz (FzV.of (kC_Forest .fz) a_forest) ex_nil), rfl⟩)
  unfold t_class_count
  refine s_last ?_
  refine s_ret ?_
  refine x_bin ?_
  refine x_bin ?_
  refine x_fn ?_
  refine x_acons ?_
  refine x_call ?_
  refine x_eq (e_cons (e_N rfl) e_nil) ?_
  refine x_callR (ok_fz (FzV.of (kC_Forest .fz) a_forest) rfl ok_nil) (sim_ranked_leaves a_forest) (bk_fz (FzV.of (kC_Forest .fz) a_forest) rfl bk_nil) trivial fun v1 => ?_
  refine x_anil ?_
  refine x_o (c := (PV.int (v1.length : Int))) (len_L (e := PV.int) (xs := v1)) ?_
  refine x_fn ?_
  refine x_acons ?_
  refine x_call ?_
  refine x_eq (e_cons (e_N rfl) (e_cons e_C e_nil)) ?_
  refine x_callR (ok_fz (FzV.of (kC_Forest .fz) a_forest) rfl (ok_tm ok_nil)) (sim_hung_classes a_forest (lit "first")) (bk_fz (FzV.of (kC_Forest .fz) a_forest) rfl (bk_tm bk_nil)) trivial fun v2 => ?_
  refine x_anil ?_
  refine x_o (c := (PV.int (v2.length : Int))) (len_L (e := (kP2 (kO PV.int) (kT PV.int))) (xs := v2)) ?_
  refine x_o rfl ?_
  refine x_fn ?_
  refine x_acons ?_
  refine x_call ?_
  refine x_eq (e_cons (e_N rfl) (e_cons e_C e_nil)) ?_
  refine x_callR (ok_fz (FzV.of (kC_Forest .fz) a_forest) rfl (ok_tm ok_nil)) (sim_hung_classes a_forest (lit "last")) (bk_fz (FzV.of (kC_Forest .fz) a_forest) rfl (bk_tm bk_nil)) trivial fun v3 => ?_
  refine x_anil ?_
  refine x_o (c := (PV.int (v3.length : Int))) (len_L (e := (kP2 (kO PV.int) (kT PV.int))) (xs := v3)) ?_
  refine x_o rfl ?_
  exact fn_ret rfl
set_option maxHeartbeats 1000000 in
theorem sim__law_is_integer (a_actual : Int) : FS (F__law_is_integer [(PV.int a_actual)]) (t__law_is_integer_v3 a_actual) (fun b => PV.bl b) (fun b => [(PV.int a_actual)]) (fun fn => fn = [(PV.int a_actual)]) := by
  refine fs_run (E := fun r => True) (rq := (fun (b : Bool) w r => w = PV.bl b)) (ρ0 := [(PV.int a_actual)]) rfl (ar_fz (FzV.of PV.int a_actual) ar_nil) rfl ?_ (fun b w r h => ⟨h, (ex_fz (FzV.of PV.int a_actual) ex_nil)⟩) (fun r h => ⟨_, (ex_fz (FzV.of PV.int a_actual) ex_nil), rfl⟩)
  refine s_last ?_
  refine s_ret ?_
  refine x_eq (e_and (e_fn (e_cons (e_N rfl) (e_cons e_C e_nil)) (isi (s := "int") rfl (by decide) rfl)) rfl (e_not (e_fn (e_cons (e_N rfl) (e_cons e_C e_nil)) (isi (s := "int") rfl (by decide) rfl)) rfl)) ?_
  exact fn_ret rfl
set_option maxHeartbeats 1000000 in
theorem sim__law_class_count (a_parents_here : (List (Option Int))) (a_kinds_here : (List OS)) (o0 : Fl) (o1 : Fl) : FS (F__law_class_count [((kL o0 (kO PV.int)) a_parents_here), ((kL o1 kS) a_kinds_here)]) (t__law_class_count a_parents_here a_kinds_here) (fun b => PV.int b) (fun b => [exitR ((kL o0 (kO PV.int)) a_parents_here), exitR ((kL o1 kS) a_kinds_here)]) (fun fn => fn = [exitR ((kL o0 (kO PV.int)) a_parents_here), exitR ((kL o1 kS) a_kinds_here)]) := by
  refine fs_run (E := fun r => nth r 0 = (kL (ioF o0) (kO PV.int)) a_parents_here ∧ nth r 1 = (kL (ioF o1) kS) a_kinds_here) (rq := (fun (b : Int) w r => w = PV.int b ∧ nth r 0 = (kL (ioF o0) (kO PV.int)) a_parents_here ∧ nth r 1 = (kL (ioF o1) kS) a_kinds_here)) (ρ0 := [((kL (ioF o0) (kO PV.int)) a_parents_here), ((kL (ioF o1) kS) a_kinds_here), .emp, .emp, .emp, .emp]) rfl (ar_of (fun o => (kL o (kO PV.int))) (ar_of (fun o => (kL o kS)) ar_nil)) rfl ?_ (fun b w r h => ⟨h.1, (ex_ro (fun _ => h.2.1.trans (toIo_of (fun o => (kL o (kO PV.int)))).symm) (ne_of (fun o => (kL o (kO PV.int)))) (ex_ro (fun _ => h.2.2.trans (toIo_of (fun o => (kL o kS))).symm) (ne_of (fun o => (kL o kS))) ex_nil))⟩) (fun r h => ⟨_, (ex_ro (fun _ => h.1.trans (toIo_of (fun o => (kL o (kO PV.int)))).symm) (ne_of (fun o => (kL o (kO PV.int)))) (ex_ro (fun _ => h.2.trans (toIo_of (fun o => (kL o kS))).symm) (ne_of (fun o => (kL o kS))) ex_nil)), rfl⟩)
  unfold t__law_class_count
  refine s_last ?_
  refine s_assoc ?_
  refine s_set ?_
  refine x_eq e_C ?_
  refine x_set_tm rfl rfl ?_
  refine s_rho (ρ1 := ([((kL (ioF o0) (kO PV.int)) a_parents_here), ((kL (ioF o1) kS) a_kinds_here), (PV.int (0 : Int)), .emp, .emp, .emp] : List PV)) rfl ?_
  refine s_assoc ?_
  refine s_for ?_
  refine x_iRg1 ?_
  refine x_eq (e_cons (e_fn (e_cons (e_N rfl) e_nil) (len_L (e := (kO PV.int)) (xs := a_parents_here))) e_nil) ?_
  refine x_rg1E rfl ?_
  generalize rgI 0 (a_parents_here.length : Int) = v1
  refine x_fold (P := fun s3 : (Int) => [.is ((kL (ioF o0) (kO PV.int)) a_parents_here), .is ((kL (ioF o1) kS) a_kinds_here), .is (PV.int s3), .jk, .jk, .jk]) (e := PV.int) ⟨_, rfl, _, rfl, _, rfl, _, _, rfl, rfl, _, _, rfl, rfl, _, _, rfl, rfl, rfl⟩ (fun s3 x2 r4 e6 m5 => ?_) fun s17 r18 m19 => ?_
  · obtain ⟨_, rfl, _, rfl, _, rfl, j7v, _, rfl, j7, j8v, _, rfl, j8, j9v, _, rfl, j9, rfl⟩ := m5
    refine x_tg (tg_N j7 rfl) ?_
    refine s_rho (ρ1 := ([((kL (ioF o0) (kO PV.int)) a_parents_here), ((kL (ioF o1) kS) a_kinds_here), (PV.int s3), (PV.int x2), j8v, j9v] : List PV)) rfl ?_
    refine s_last ?_
    refine s_join (P := fun s => [.is ((kL (ioF o0) (kO PV.int)) a_parents_here), .is ((kL (ioF o1) kS) a_kinds_here), .is (PV.int s), .is (PV.int x2), .jk, .jk]) ?_ fun s12 r13 m14 => ?_
    · refine s_last ?_
      refine s_if ?_
      refine x_tAnd ?_
      refine x_eq (t_tB (e_bin (e_N rfl) (e_N rfl) (ninLs (kO PV.int) (kO PV.int) (some x2) a_parents_here)) rfl) ?_
      refine x_tAndP ?_ fun v11 => ?_
      · refine x_fin ?_
        refine x_tB ?_
        refine x_bin ?_
        refine x_bin ?_
        refine x_eq (e_N rfl) ?_
        refine x_eq (e_N rfl) ?_
        refine x_p (os_ix (e := kS) (xs := a_kinds_here) rfl rfl) nx_ix fun v10 _ => ?_
        refine x_eq (e_lst (e_cons e_C (e_cons e_C e_nil)) (.tm rfl (.tm rfl .nil)) (Nat.le_of_ble_eq_true rfl) (c := ((kL .ow kS) [(lit "up"), (lit "down")])) rfl) ?_
        refine x_o (inLs kS kS v10 [(lit "up"), (lit "down")]) ?_
        refine x_ofB rfl ?_
        exact pq_done
      refine x_ite ?_ ?_
      · refine s_set ?_
        refine x_eq (e_bin (e_N rfl) e_C rfl) ?_
        refine x_set_tm rfl rfl ?_
        exact x_done ⟨rfl, ⟨_, rfl, _, rfl, _, rfl, _, rfl, _, _, rfl, j8, _, _, rfl, j9, rfl⟩⟩
      refine s_nx ?_
      exact x_done ⟨rfl, ⟨_, rfl, _, rfl, _, rfl, _, rfl, _, _, rfl, j8, _, _, rfl, j9, rfl⟩⟩
    obtain ⟨_, rfl, _, rfl, _, rfl, _, rfl, j15v, _, rfl, j15, j16v, _, rfl, j16, rfl⟩ := m14
    exact x_done ⟨.inl rfl, ⟨_, rfl, _, rfl, _, rfl, _, _, rfl, rfl, _, _, rfl, j15, _, _, rfl, j16, rfl⟩⟩
  obtain ⟨_, rfl, _, rfl, _, rfl, j20v, _, rfl, j20, j21v, _, rfl, j21, j22v, _, rfl, j22, rfl⟩ := m19
  refine s_assoc ?_
  refine s_for ?_
  refine x_iSeq ?_
  refine x_bin ?_
  refine x_eq (e_lst (e_cons e_C e_nil) (.tm rfl .nil) (Nat.le_of_ble_eq_true rfl) (c := ((kL .ow kU) [()])) rfl) ?_
  refine x_eRg1 ?_
  refine x_eq (e_fn (e_cons (e_N rfl) e_nil) (len_L (e := (kO PV.int)) (xs := a_parents_here))) ?_
  refine x_eRg1E (e := (kL .ow PV.int)) rfl (fun _ => rfl) fun v23 => ?_
  refine x_p (os_catL (e := (kO PV.int)) (xs := [(none : (Option Int))]) (ys := (v23.map fun (z : Int) => (some z))) rfl (show ((kL .ow PV.int) v23) = (kL .ow (kO PV.int)) (v23.map fun (z : Int) => (some z)) from (kL_cast (f := fun (z : Int) => (some z)) fun z => rfl))) nx_cat fun v24 _ => ?_
  refine x_it_tm (xs := v24.map (kO PV.int)) rfl ?_
  refine x_fold (P := fun s26 : (Int) => [.is ((kL (ioF o0) (kO PV.int)) a_parents_here), .is ((kL (ioF o1) kS) a_kinds_here), .is (PV.int s26), .jk, .jk, .jk]) (e := (kO PV.int)) ⟨_, rfl, _, rfl, _, rfl, _, _, rfl, j20, _, _, rfl, j21, _, _, rfl, j22, rfl⟩ (fun s26 x25 r27 e29 m28 => ?_) fun s44 r45 m46 => ?_
  · obtain ⟨_, rfl, _, rfl, _, rfl, j30v, _, rfl, j30, j31v, _, rfl, j31, j32v, _, rfl, j32, rfl⟩ := m28
    refine x_tg (tg_N j31 (FzV.of (kO PV.int) x25).io) ?_
    refine s_rho (ρ1 := ([((kL (ioF o0) (kO PV.int)) a_parents_here), ((kL (ioF o1) kS) a_kinds_here), (PV.int s26), j30v, ((kO PV.int) x25), j32v] : List PV)) rfl ?_
    refine s_last ?_
    refine s_assoc ?_
    refine s_set ?_
    refine x_lc ?_
    refine x_iRg1 ?_
    refine x_eq (e_cons (e_fn (e_cons (e_N rfl) e_nil) (len_L (e := (kO PV.int)) (xs := a_parents_here))) e_nil) ?_
    refine x_rg1E rfl ?_
    generalize rgI 0 (a_parents_here.length : Int) = v33
    refine x_lcP (P := [.is ((kL (ioF o0) (kO PV.int)) a_parents_here), .is ((kL (ioF o1) kS) a_kinds_here), .is (PV.int s26), .is .emp, .is ((kO PV.int) x25), .jk]) (e := PV.int) (e' := kS) ⟨_, rfl, _, rfl, _, rfl, _, rfl, _, rfl, _, _, rfl, j32, rfl⟩ (fun x34 r36 _ m37 => ?_) fun v41 r42 r42c m43 m43e => ?_
    · obtain ⟨_, rfl, _, rfl, _, rfl, _, rfl, _, rfl, j38v, _, rfl, j38, rfl⟩ := m37
      refine lc_tg (tg_N rfl rfl) ?_
      refine x_tB ?_
      refine x_bin ?_
      refine x_bin ?_
      refine x_eq (e_N rfl) ?_
      refine x_eq (e_N rfl) ?_
      refine x_p (os_ix (e := (kO PV.int)) (xs := a_parents_here) rfl rfl) nx_ix fun v39 _ => ?_
      refine x_eq (e_Nf (FzV.of (kO PV.int) x25) rfl) ?_
      refine x_o (eqD (kO PV.int) (kO PV.int) v39 x25) ?_
      refine x_ofB rfl ?_
      refine x_ite ?_ ?_
      · refine x_bin ?_
        refine x_eq (e_N rfl) ?_
        refine x_eq (e_N rfl) ?_
        refine x_p (os_ix (e := kS) (xs := a_kinds_here) rfl rfl) nx_ix fun v40 _ => ?_
        refine lc_tm rfl ⟨rfl, ⟨_, rfl, _, rfl, _, rfl, _, rfl, _, rfl, _, _, rfl, j38, rfl⟩⟩
      exact x_done ⟨rfl, ⟨_, rfl, _, rfl, _, rfl, _, rfl, _, rfl, _, _, rfl, j38, rfl⟩⟩
    obtain ⟨_, rfl, _, rfl, _, rfl, _, rfl, _, rfl, j38v, _, rfl, j38, rfl⟩ := m43
    obtain rfl : ([((kL (ioF o0) (kO PV.int)) a_parents_here), ((kL (ioF o1) kS) a_kinds_here), (PV.int s26), j30v, ((kO PV.int) x25), j38v] : List PV) = r42c := m43e
    refine x_set_tm j38 rfl ?_
    refine s_rho (ρ1 := ([((kL (ioF o0) (kO PV.int)) a_parents_here), ((kL (ioF o1) kS) a_kinds_here), (PV.int s26), j30v, ((kO PV.int) x25), ((kL .ow kS) v41)] : List PV)) rfl ?_
    refine s_set ?_
    refine x_eq (e_bin (e_bin (e_N rfl) (e_fn (e_cons (e_bin e_C (e_N rfl) (inLs kS kS (lit "first") v41)) e_nil) (c := PV.int (b2i (tmem (lit "first") v41))) rfl) rfl) (e_fn (e_cons (e_bin e_C (e_N rfl) (inLs kS kS (lit "last") v41)) e_nil) (c := PV.int (b2i (tmem (lit "last") v41))) rfl) rfl) ?_
    refine x_set_tm rfl rfl ?_
    exact x_done ⟨.inl rfl, ⟨_, rfl, _, rfl, _, rfl, _, _, rfl, j30, _, _, rfl, (FzV.of (kO PV.int) x25).io, _, _, rfl, rfl, rfl⟩⟩
  obtain ⟨_, rfl, _, rfl, _, rfl, j47v, _, rfl, j47, j48v, _, rfl, j48, j49v, _, rfl, j49, rfl⟩ := m46
  refine s_ret ?_
  refine x_eq (e_N rfl) ?_
  refine ret_sl (a := (PV.int s44)) rfl rfl ?_
  exact fn_ret ⟨rfl, rfl, rfl⟩
set_option maxHeartbeats 1000000 in
theorem sim_Forest__path (a_self : O_Forest) (a_field : Int) : FS (F_Forest__path [((kC_Forest .fz) a_self), (PV.int a_field)]) (t_Forest__path a_self a_field) (fun b => (kT PV.int) b) (fun b => [((kC_Forest .fz) a_self), (PV.int a_field)]) (fun fn => fn = [((kC_Forest .fz) a_self), (PV.int a_field)]) := by
  refine fs_run (E := fun r => True) (rq := (fun (b : (List Int)) w r => w = (kT PV.int) b)) (ρ0 := [((kC_Forest .fz) a_self), (PV.int a_field), .emp]) rfl (ar_fz (FzV.of (kC_Forest .fz) a_self) (ar_fz (FzV.of PV.int a_field) ar_nil)) rfl ?_ (fun b w r h => ⟨h, (ex_fz (FzV.of (kC_Forest .fz) a_self) (ex_fz (FzV.of PV.int a_field) ex_nil))⟩) (fun r h => ⟨_, (ex_fz (FzV.of (kC_Forest .fz) a_self) (ex_fz (FzV.of PV.int a_field) ex_nil)), rfl⟩)
  refine s_last ?_
  refine s_assoc ?_
  refine s_set ?_
  refine x_eq (e_tup (e_cons (e_N rfl) e_nil) (.fz (FzV.of PV.int a_field) rfl .nil) (Nat.le_of_ble_eq_true rfl) (c := ((kT PV.int) [a_field])) rfl) ?_
  refine x_set_tm rfl rfl ?_
  refine s_rho (ρ1 := ([((kC_Forest .fz) a_self), (PV.int a_field), ((kT PV.int) [a_field])] : List PV)) rfl ?_
  refine s_assoc ?_
  refine x_wh (P := fun s2 : ((List Int)) => [.is ((kC_Forest .fz) a_self), .is (PV.int a_field), .is ((kT PV.int) s2)]) (rq := (fun (_ : Empty) _ _ => False)) ⟨_, rfl, _, rfl, _, rfl, rfl⟩ (fun s2 r3 m4 => ?_) (fun s2 r3 m4 => ?_) (fun s13 r14 m15 => ?_) (fun b16 => nomatch b16)
  · obtain ⟨_, rfl, _, rfl, _, rfl, rfl⟩ := m4
    refine x_fin ?_
    refine x_tB ?_
    refine x_bin ?_
    refine x_bin ?_
    refine x_eq (e_un (e_N rfl) (at_ok (c := ((kT (kO PV.int)) a_self.parents)) rfl)) ?_
    refine x_bin ?_
    refine x_eq (e_N rfl) ?_
    refine x_eq e_C ?_
    refine x_p (os_ixT (e := PV.int) (xs := s2) rfl rfl) nx_ix fun v6 _ => ?_
    refine x_p (os_ixT (e := (kO PV.int)) (xs := a_self.parents) rfl rfl) nx_ix fun v7 _ => ?_
    refine x_eq e_C ?_
    refine x_o (isnN PV.int v7) ?_
    refine x_ofB rfl ?_
    exact x_done ⟨rfl, ⟨_, rfl, _, rfl, _, rfl, rfl⟩⟩
  · obtain ⟨_, rfl, _, rfl, _, rfl, rfl⟩ := m4
    refine s_last ?_
    refine s_set ?_
    refine x_bin ?_
    refine x_tup (as := []) ?_
    refine x_acons ?_
    refine x_bin ?_
    refine x_eq (e_un (e_N rfl) (at_ok (c := ((kT (kO PV.int)) a_self.parents)) rfl)) ?_
    refine x_bin ?_
    refine x_eq (e_N rfl) ?_
    refine x_eq e_C ?_
    refine x_p (os_ixT (e := PV.int) (xs := s2) rfl rfl) nx_ix fun v8 _ => ?_
    refine x_p (os_ixT (e := (kO PV.int)) (xs := a_self.parents) rfl rfl) nx_ix fun v9 _ => ?_
    refine x_anil ?_
    refine x_opt fun v10 e11 => ?_
    have e11z : ((kO PV.int) v9) = (PV.int v10) := by rw [e11]; rfl
    try rw [e11z]
    try rw [e11]
    refine x_tupE (.tm rfl .nil) (Nat.le_of_ble_eq_true rfl) (c := ((kT PV.int) [v10])) rfl ?_
    refine x_eq (e_N rfl) ?_
    refine x_p (os_catT (e := PV.int) (xs := [v10]) (ys := s2) rfl rfl) nx_cat fun v12 _ => ?_
    refine x_set_tm rfl rfl ?_
    exact x_done ⟨.inl rfl, ⟨_, rfl, _, rfl, _, rfl, rfl⟩⟩
  obtain ⟨_, rfl, _, rfl, _, rfl, rfl⟩ := m15
  refine s_ret ?_
  refine x_eq (e_N rfl) ?_
  refine ret_sl (a := ((kT PV.int) s13)) rfl rfl ?_
  exact fn_ret rfl
set_option maxHeartbeats 1000000 in
theorem sim_hung_by_way (a_forest : O_Forest) (a_kind : OS) : FS (F_hung_by_way [((kC_Forest .fz) a_forest), (kS a_kind)]) (t_hung_by_way a_forest a_kind) (fun b => (kL .ow (kT PV.int)) b) (fun b => [((kC_Forest .fz) a_forest), (kS a_kind)]) (fun fn => fn = [((kC_Forest .fz) a_forest), (kS a_kind)]) := by
  refine fs_run (E := fun r => True) (rq := (fun (b : (List (List Int))) w r => w = (kL .ow (kT PV.int)) b)) (ρ0 := [((kC_Forest .fz) a_forest), (kS a_kind), .emp, .emp, .emp]) rfl (ar_fz (FzV.of (kC_Forest .fz) a_forest) (ar_fz (FzV.of kS a_kind) ar_nil)) rfl ?_ (fun b w r h => ⟨h, (ex_fz (FzV.of (kC_Forest .fz) a_forest) (ex_fz (FzV.of kS a_kind) ex_nil))⟩) (fun r h => ⟨_, (ex_fz (FzV.of (kC_Forest .fz) a_forest) (ex_fz (FzV.of kS a_kind) ex_nil)), rfl⟩)
  unfold t_hung_by_way
  refine s_last ?_
  refine s_assoc ?_
  refine s_set ?_
  refine x_fn ?_
  refine x_acons ?_
  refine x_lc ?_
  refine x_iSeq ?_
  refine x_call ?_
  refine x_eq (e_cons (e_N rfl) (e_cons (e_N rfl) e_nil)) ?_
  refine x_callR (ok_fz (FzV.of (kC_Forest .fz) a_forest) rfl (ok_fz (FzV.of kS a_kind) rfl ok_nil)) (sim_hung_classes a_forest a_kind) (bk_fz (FzV.of (kC_Forest .fz) a_forest) rfl (bk_fz (FzV.of kS a_kind) rfl bk_nil)) trivial fun v1 => ?_
  refine x_it_tm (xs := v1.map (kP2 (kO PV.int) (kT PV.int))) rfl ?_
  refine x_lcP (P := [.is ((kC_Forest .fz) a_forest), .is (kS a_kind), .is .emp, .is .emp, .is .emp]) (e := (kP2 (kO PV.int) (kT PV.int))) (e' := (kP2 PV.int (kT PV.int))) ⟨_, rfl, _, rfl, _, rfl, _, rfl, _, rfl, rfl⟩ (fun x2 r4 _ m5 => ?_) fun v8 r9 r9c m10 m10e => ?_
  · obtain ⟨_, rfl, _, rfl, _, rfl, _, rfl, _, rfl, rfl⟩ := m5
    refine lc_tg (tg_T2 (tg_N rfl (FzV.of (kO PV.int) x2.1).io) (tg_N rfl rfl)) ?_
    refine x_tYes ?_
    refine lc_yes ?_
    refine x_tup (as := []) ?_
    refine x_acons ?_
    refine x_fn ?_
    refine x_acons ?_
    refine x_meth ?_
    refine x_eq (e_N rfl) ?_
    refine x_methO isObj_ok ?_
    refine x_acons ?_
    refine x_bin ?_
    refine x_eq (e_N rfl) ?_
    refine x_eq e_C ?_
    refine x_p (os_ixT (e := PV.int) (xs := x2.2) rfl rfl) nx_ix fun v6 _ => ?_
    refine x_anil ?_
    refine x_callR (ok_fz (FzV.of (kC_Forest .fz) a_forest) rfl (ok_tm ok_nil)) (sim_Forest__path a_forest v6) (bk_fz (FzV.of (kC_Forest .fz) a_forest) rfl (bk_tm bk_nil)) trivial fun v7 => ?_
    refine x_anil ?_
    refine x_o (c := (PV.int (v7.length : Int))) (len_T (e := PV.int) (xs := v7)) ?_
    refine x_acons ?_
    refine x_eq (e_N rfl) ?_
    refine x_anil ?_
    refine x_tupE (.tm rfl (.fz (FzV.of (kT PV.int) x2.2) rfl .nil)) (Nat.le_of_ble_eq_true rfl) (c := ((kP2 PV.int (kT PV.int)) ((v7.length : Int), x2.2))) rfl ?_
    refine lc_tm rfl ⟨rfl, ⟨_, rfl, _, rfl, _, rfl, _, rfl, _, rfl, rfl⟩⟩
  obtain ⟨_, rfl, _, rfl, _, rfl, _, rfl, _, rfl, rfl⟩ := m10
  obtain rfl : ([((kC_Forest .fz) a_forest), (kS a_kind), .emp, .emp, .emp] : List PV) = r9c := m10e
  refine x_anil ?_
  refine x_o (c := ((kL .ow (kP2 PV.int (kT PV.int))) (sortT (kP2 PV.int (kT PV.int)) v8))) (sortedB_D (e := (kP2 PV.int (kT PV.int))) (xs := v8)) ?_
  refine x_set_tm rfl rfl ?_
  refine s_rho (ρ1 := ([((kC_Forest .fz) a_forest), (kS a_kind), ((kL .ow (kP2 PV.int (kT PV.int))) (sortT (kP2 PV.int (kT PV.int)) v8)), .emp, .emp] : List PV)) rfl ?_
  refine s_ret ?_
  refine x_lc ?_
  refine x_iSeq ?_
  refine x_eq (e_N rfl) ?_
  refine x_it_sl (xs := (sortT (kP2 PV.int (kT PV.int)) v8).map (kP2 PV.int (kT PV.int))) rfl rfl ?_
  refine x_lcP (P := [.is ((kC_Forest .fz) a_forest), .is (kS a_kind), .is ((kL .fz (kP2 PV.int (kT PV.int))) (sortT (kP2 PV.int (kT PV.int)) v8)), .is .emp, .is .emp]) (e := (kP2 PV.int (kT PV.int))) (e' := (kT PV.int)) ⟨_, rfl, _, rfl, _, rfl, _, rfl, _, rfl, rfl⟩ (fun x11 r13 _ m14 => ?_) fun v15 r16 r16c m17 m17e => ?_
  · obtain ⟨_, rfl, _, rfl, _, rfl, _, rfl, _, rfl, rfl⟩ := m14
    refine lc_tg (tg_T2 (tg_N rfl rfl) (tg_N rfl rfl)) ?_
    refine x_tYes ?_
    refine lc_yes ?_
    refine x_eq (e_N rfl) ?_
    refine lc_fz (FzV.of (kT PV.int) x11.2) rfl ⟨rfl, ⟨_, rfl, _, rfl, _, rfl, _, rfl, _, rfl, rfl⟩⟩
  obtain ⟨_, rfl, _, rfl, _, rfl, _, rfl, _, rfl, rfl⟩ := m17
  obtain rfl : ([((kC_Forest .fz) a_forest), (kS a_kind), ((kL .fz (kP2 PV.int (kT PV.int))) (sortT (kP2 PV.int (kT PV.int)) v8)), .emp, .emp] : List PV) = r16c := m17e
  exact fn_ret rfl
set_option maxHeartbeats 1000000 in
theorem sim_raised (a_kind : OS) (a_value : Int) (a_by_ : Int) : FS (F_raised [(kS a_kind), (PV.int a_value), (PV.int a_by_)]) (t_raised a_kind a_value a_by_) (fun b => PV.int b) (fun b => [(kS a_kind), (PV.int a_value), (PV.int a_by_)]) (fun fn => fn = [(kS a_kind), (PV.int a_value), (PV.int a_by_)]) := by
  refine fs_run (E := fun r => True) (rq := (fun (b : Int) w r => w = PV.int b)) (ρ0 := [(kS a_kind), (PV.int a_value), (PV.int a_by_)]) rfl (ar_fz (FzV.of kS a_kind) (ar_fz (FzV.of PV.int a_value) (ar_fz (FzV.of PV.int a_by_) ar_nil))) rfl ?_ (fun b w r h => ⟨h, (ex_fz (FzV.of kS a_kind) (ex_fz (FzV.of PV.int a_value) (ex_fz (FzV.of PV.int a_by_) ex_nil)))⟩) (fun r h => ⟨_, (ex_fz (FzV.of kS a_kind) (ex_fz (FzV.of PV.int a_value) (ex_fz (FzV.of PV.int a_by_) ex_nil))), rfl⟩)
  refine s_last ?_
  refine s_assoc ?_
  refine s_if ?_
  refine x_eq (t_tB (e_bin (e_N rfl) e_C (eqD kS kS a_kind (lit "down"))) rfl) ?_
  refine x_ite ?_ ?_
  · refine s_ret ?_
    refine x_eq (e_bin (e_N rfl) (e_N rfl) rfl) ?_
    exact fn_ret rfl
  refine s_nx ?_
  refine s_ret ?_
  refine x_eq (e_bin (e_N rfl) (e_N rfl) rfl) ?_
  exact fn_ret rfl
set_option maxHeartbeats 1000000 in
theorem sim_zeros_raised (a_forest : O_Forest) (a_fields : (List Int)) : FS (F_zeros_raised [((kC_Forest .fz) a_forest), ((kT PV.int) a_fields)]) (t_zeros_raised a_forest a_fields) (fun b => (kT PV.int) b) (fun b => [((kC_Forest .fz) a_forest), ((kT PV.int) a_fields)]) (fun fn => fn = [((kC_Forest .fz) a_forest), ((kT PV.int) a_fields)]) := by
  refine fs_run (E := fun r => True) (rq := (fun (b : (List Int)) w r => w = (kT PV.int) b)) (ρ0 := [((kC_Forest .fz) a_forest), ((kT PV.int) a_fields), .emp, .emp]) rfl (ar_fz (FzV.of (kC_Forest .fz) a_forest) (ar_fz (FzV.of (kT PV.int) a_fields) ar_nil)) rfl ?_ (fun b w r h => ⟨h, (ex_fz (FzV.of (kC_Forest .fz) a_forest) (ex_fz (FzV.of (kT PV.int) a_fields) ex_nil))⟩) (fun r h => ⟨_, (ex_fz (FzV.of (kC_Forest .fz) a_forest) (ex_fz (FzV.of (kT PV.int) a_fields) ex_nil)), rfl⟩)
  unfold t_zeros_raised
  refine s_last ?_
  refine s_ret ?_
  refine x_fn ?_
  refine x_acons ?_
  refine x_lc ?_
  refine x_iEnum ?_
  refine x_eq (e_cons (e_un (e_N rfl) (at_ok (c := ((kT kS) a_forest.kinds)) rfl)) e_nil) ?_
  refine x_enumE (e := kS) (xs := a_forest.kinds) (.tm rfl .nil) rfl ?_
  refine x_lcP (P := [.is ((kC_Forest .fz) a_forest), .is ((kT PV.int) a_fields), .is .emp, .is .emp]) (e := (kP2 PV.int kS)) (e' := PV.int) ⟨_, rfl, _, rfl, _, rfl, _, rfl, rfl⟩ (fun x1 r3 _ m4 => ?_) fun v10 r11 r11c m12 m12e => ?_
  · obtain ⟨_, rfl, _, rfl, _, rfl, _, rfl, rfl⟩ := m4
    refine lc_tg (tg_T2 (tg_N rfl rfl) (tg_N rfl rfl)) ?_
    refine x_tYes ?_
    refine lc_yes ?_
    refine x_if ?_
    refine x_eq (t_tB (e_bin (e_N rfl) (e_N rfl) (inTs PV.int PV.int x1.1 a_fields)) rfl) ?_
    refine x_ifP (e := PV.int) ?_ ?_ fun v7 h8 e9 => ?_
    · refine x_fin ?_
      refine x_call ?_
      refine x_eq (e_cons (e_N rfl) (e_cons e_C (e_cons e_C e_nil))) ?_
      refine x_callR (ok_fz (FzV.of kS x1.2) rfl (ok_tm (ok_tm ok_nil))) (sim_raised x1.2 (0 : Int) (1 : Int)) (bk_fz (FzV.of kS x1.2) rfl (bk_tm (bk_tm bk_nil))) trivial fun v6 => ?_
      exact hq_done rfl
    · refine x_fin ?_
      refine x_eq e_C ?_
      exact hq_done rfl
    refine lc_v (FzV.of PV.int v7) e9 ⟨rfl, ⟨_, rfl, _, rfl, _, rfl, _, rfl, rfl⟩⟩
  obtain ⟨_, rfl, _, rfl, _, rfl, _, rfl, rfl⟩ := m12
  obtain rfl : ([((kC_Forest .fz) a_forest), ((kT PV.int) a_fields), .emp, .emp] : List PV) = r11c := m12e
  refine x_anil ?_
  refine x_o (c := ((kT PV.int) v10)) rfl ?_
  exact fn_ret rfl
set_option maxHeartbeats 1000000 in
theorem sim_needy_row (a_forest : O_Forest) : FS (F_needy_row [((kC_Forest .fz) a_forest)]) (t_needy_row a_forest) (fun b => (kL .ow (kT PV.int)) b) (fun b => [((kC_Forest .fz) a_forest)]) (fun fn => fn = [((kC_Forest .fz) a_forest)]) := by
  refine fs_run (E := fun r => True) (rq := (fun (b : (List (List Int))) w r => w = (kL .ow (kT PV.int)) b)) (ρ0 := [((kC_Forest .fz) a_forest), .emp, .emp, .emp]) rfl (ar_fz (FzV.of (kC_Forest .fz) a_forest) ar_nil) rfl ?_ (fun b w r h => ⟨h, (ex_fz (FzV.of (kC_Forest .fz) a_forest) ex_nil)⟩) (fun r h => ⟨_, (ex_fz (FzV.of (kC_Forest .fz) a_forest) ex_nil), rfl⟩)
  unfold t_needy_row
  refine s_last ?_
  refine s_assoc ?_
  refine s_set ?_
  refine x_call ?_
  refine x_eq (e_cons (e_N rfl) (e_cons e_C e_nil)) ?_
  refine x_callR (ok_fz (FzV.of (kC_Forest .fz) a_forest) rfl (ok_tm ok_nil)) (sim_hung_by_way a_forest (lit "first")) (bk_fz (FzV.of (kC_Forest .fz) a_forest) rfl (bk_tm bk_nil)) trivial fun v1 => ?_
  refine x_set_tm rfl rfl ?_
  refine s_rho (ρ1 := ([((kC_Forest .fz) a_forest), ((kL .ow (kT PV.int)) v1), .emp, .emp] : List PV)) rfl ?_
  refine s_assoc ?_
  refine s_E ?_
  refine x_mu ?_
  refine x_eq (e_N rfl) ?_
  refine x_muL (e := (kT PV.int)) (xs := v1) rfl ?_
  refine x_acons ?_
  refine x_lc ?_
  refine x_iSeq ?_
  refine x_call ?_
  refine x_eq (e_cons (e_N rfl) e_nil) ?_
  refine x_callR (ok_fz (FzV.of (kC_Forest .fz) a_forest) rfl ok_nil) (sim_ranked_leaves a_forest) (bk_fz (FzV.of (kC_Forest .fz) a_forest) rfl bk_nil) trivial fun v2 => ?_
  refine x_it_tm (xs := v2.map PV.int) rfl ?_
  refine x_lcP (P := [.is ((kC_Forest .fz) a_forest), .is ((kL .ow (kT PV.int)) v1), .is .emp, .is .emp]) (e := PV.int) (e' := (kT PV.int)) ⟨_, rfl, _, rfl, _, rfl, _, rfl, rfl⟩ (fun x3 r5 _ m6 => ?_) fun v7 r8 r8c m9 m9e => ?_
  · obtain ⟨_, rfl, _, rfl, _, rfl, _, rfl, rfl⟩ := m6
    refine lc_tg (tg_N rfl rfl) ?_
    refine x_tYes ?_
    refine lc_yes ?_
    refine x_eq (e_tup (e_cons (e_N rfl) e_nil) (.fz (FzV.of PV.int x3) rfl .nil) (Nat.le_of_ble_eq_true rfl) (c := ((kT PV.int) [x3])) rfl) ?_
    refine lc_tm rfl ⟨rfl, ⟨_, rfl, _, rfl, _, rfl, _, rfl, rfl⟩⟩
  obtain ⟨_, rfl, _, rfl, _, rfl, _, rfl, rfl⟩ := m9
  obtain rfl : ([((kC_Forest .fz) a_forest), ((kL .ow (kT PV.int)) v1), .emp, .emp] : List PV) = r8c := m9e
  refine x_anil ?_
  refine x_ext (o := .ow) (e := (kT PV.int)) (xs := v1) (o' := .fz) (ys := v7) (.tm rfl .nil) rfl (by decide) fun v10 => ?_
  refine s_rho (ρ1 := ([((kC_Forest .fz) a_forest), ((kL .ow (kT PV.int)) v10), .emp, .emp] : List PV)) rfl ?_
  refine s_assoc ?_
  refine s_E ?_
  refine x_mu ?_
  refine x_eq (e_N rfl) ?_
  refine x_muL (e := (kT PV.int)) (xs := v10) rfl ?_
  refine x_acons ?_
  refine x_fn ?_
  refine x_acons ?_
  refine x_call ?_
  refine x_eq (e_cons (e_N rfl) (e_cons e_C e_nil)) ?_
  refine x_callR (ok_fz (FzV.of (kC_Forest .fz) a_forest) rfl (ok_tm ok_nil)) (sim_hung_by_way a_forest (lit "last")) (bk_fz (FzV.of (kC_Forest .fz) a_forest) rfl (bk_tm bk_nil)) trivial fun v11 => ?_
  refine x_anil ?_
  refine x_o (c := ((kL .ow (kT PV.int)) v11.reverse)) (revL_L (e := (kT PV.int)) (xs := v11)) ?_
  refine x_anil ?_
  refine x_ext (o := .ow) (e := (kT PV.int)) (xs := v10) (o' := .fz) (ys := v11.reverse) (.tm rfl .nil) rfl (by decide) fun v12 => ?_
  refine s_rho (ρ1 := ([((kC_Forest .fz) a_forest), ((kL .ow (kT PV.int)) v12), .emp, .emp] : List PV)) rfl ?_
  refine s_ret ?_
  refine x_lc ?_
  refine x_iSeq ?_
  refine x_eq (e_N rfl) ?_
  refine x_it_sl (xs := v12.map (kT PV.int)) rfl rfl ?_
  refine x_lcP (P := [.is ((kC_Forest .fz) a_forest), .is ((kL .fz (kT PV.int)) v12), .is .emp, .is .emp]) (e := (kT PV.int)) (e' := (kT PV.int)) ⟨_, rfl, _, rfl, _, rfl, _, rfl, rfl⟩ (fun x13 r15 _ m16 => ?_) fun v21 r22 r22c m23 m23e => ?_
  · obtain ⟨_, rfl, _, rfl, _, rfl, _, rfl, rfl⟩ := m16
    refine lc_tg (tg_N rfl rfl) ?_
    refine x_tYes ?_
    refine lc_yes ?_
    refine x_call ?_
    refine x_acons ?_
    refine x_eq (e_N rfl) ?_
    refine x_acons ?_
    refine x_bin ?_
    refine x_meth ?_
    refine x_eq (e_N rfl) ?_
    refine x_methO isObj_ok ?_
    refine x_acons ?_
    refine x_bin ?_
    refine x_eq (e_N rfl) ?_
    refine x_eq e_C ?_
    refine x_p (os_ixT (e := PV.int) (xs := x13) rfl rfl) nx_ix fun v17 _ => ?_
    refine x_anil ?_
    refine x_callR (ok_fz (FzV.of (kC_Forest .fz) a_forest) rfl (ok_tm ok_nil)) (sim_Forest__path a_forest v17) (bk_fz (FzV.of (kC_Forest .fz) a_forest) rfl (bk_tm bk_nil)) trivial fun v18 => ?_
    refine x_eq (e_N rfl) ?_
    refine x_p (os_catT (e := PV.int) (xs := v18) (ys := x13) rfl rfl) nx_cat fun v19 _ => ?_
    refine x_anil ?_
    refine x_callR (ok_fz (FzV.of (kC_Forest .fz) a_forest) rfl (ok_tm ok_nil)) (sim_zeros_raised a_forest v19) (bk_fz (FzV.of (kC_Forest .fz) a_forest) rfl (bk_tm bk_nil)) trivial fun v20 => ?_
    refine lc_tm rfl ⟨rfl, ⟨_, rfl, _, rfl, _, rfl, _, rfl, rfl⟩⟩
  obtain ⟨_, rfl, _, rfl, _, rfl, _, rfl, rfl⟩ := m23
  obtain rfl : ([((kC_Forest .fz) a_forest), ((kL .fz (kT PV.int)) v12), .emp, .emp] : List PV) = r22c := m23e
  exact fn_ret rfl
set_option maxHeartbeats 1000000 in
theorem sim__law_is_record (a_actual : (List Int)) (a_n : Int) : FS (F__law_is_record [((kT PV.int) a_actual), (PV.int a_n)]) (t__law_is_record a_actual a_n) (fun b => PV.bl b) (fun b => [((kT PV.int) a_actual), (PV.int a_n)]) (fun fn => fn = [((kT PV.int) a_actual), (PV.int a_n)]) := by
  refine fs_run (E := fun r => True) (rq := (fun (b : Bool) w r => w = PV.bl b)) (ρ0 := [((kT PV.int) a_actual), (PV.int a_n), .emp]) rfl (ar_fz (FzV.of (kT PV.int) a_actual) (ar_fz (FzV.of PV.int a_n) ar_nil)) rfl ?_ (fun b w r h => ⟨h, (ex_fz (FzV.of (kT PV.int) a_actual) (ex_fz (FzV.of PV.int a_n) ex_nil))⟩) (fun r h => ⟨_, (ex_fz (FzV.of (kT PV.int) a_actual) (ex_fz (FzV.of PV.int a_n) ex_nil)), rfl⟩)
  refine s_last ?_
  refine s_assoc ?_
  refine s_if ?_
  refine x_eq (t_or (t_not (t_tE (e_fn (e_cons (e_N rfl) (e_cons e_C e_nil)) (isi (s := "tuple") rfl (by decide) rfl)) rfl)) (t_tB (e_bin (e_fn (e_cons (e_N rfl) e_nil) (len_T (e := PV.int) (xs := a_actual))) (e_N rfl) (neD PV.int PV.int (a_actual.length : Int) a_n)) rfl)) ?_
  refine x_ite ?_ ?_
  · refine s_ret ?_
    refine x_eq e_C ?_
    exact fn_ret rfl
  refine s_nx ?_
  refine s_assoc ?_
  refine forN_T (xs := a_actual.map PV.int) rfl ?_
  refine x_for (P := fun s2 : Unit => [.is ((kT PV.int) a_actual), .is (PV.int a_n), .jk]) (e := PV.int) (rq := (fun (b : Bool) w r => w = PV.bl b)) ⟨_, rfl, _, rfl, _, _, rfl, rfl, rfl⟩ (fun s2 x1 r3 e5 m4 => ?_) (fun s8 r9 m10 => ?_) (fun b12 w13 r14 q15 => ?_)
  · obtain ⟨_, rfl, _, rfl, j6v, _, rfl, j6, rfl⟩ := m4
    refine x_tg (tg_N j6 rfl) ?_
    refine s_rho (ρ1 := ([((kT PV.int) a_actual), (PV.int a_n), (PV.int x1)] : List PV)) rfl ?_
    refine s_last ?_
    refine s_if ?_
    refine x_tNot ?_
    refine x_tE ?_
    refine x_call ?_
    refine x_eq (e_cons (e_N rfl) e_nil) ?_
    refine x_callR (ok_fz (FzV.of PV.int x1) rfl ok_nil) (sim__law_is_integer x1) (bk_fz (FzV.of PV.int x1) rfl bk_nil) trivial fun v7 => ?_
    refine x_ofB rfl ?_
    refine x_ite ?_ ?_
    · refine s_ret ?_
      refine x_eq e_C ?_
      exact go_ret rfl
    refine s_nx ?_
    exact x_done ⟨.inl rfl, ⟨_, rfl, _, rfl, _, _, rfl, rfl, rfl⟩⟩
  · obtain ⟨_, rfl, _, rfl, j11v, _, rfl, j11, rfl⟩ := m10
    refine s_ret ?_
    refine x_eq e_C ?_
    exact fn_ret rfl
  exact fn_ret q15
set_option maxHeartbeats 1000000 in
theorem sim__law_path (a_parents_here : (List (Option Int))) (a_field : Int) (o0 : Fl) : FS (F__law_path [((kL o0 (kO PV.int)) a_parents_here), (PV.int a_field)]) (t__law_path a_parents_here a_field) (fun b => (kL .ow PV.int) b) (fun b => [exitR ((kL o0 (kO PV.int)) a_parents_here), (PV.int a_field)]) (fun fn => fn = [exitR ((kL o0 (kO PV.int)) a_parents_here), (PV.int a_field)]) := by
  refine fs_run (E := fun r => nth r 0 = (kL (ioF o0) (kO PV.int)) a_parents_here) (rq := (fun (b : (List Int)) w r => w = (kL .ow PV.int) b ∧ nth r 0 = (kL (ioF o0) (kO PV.int)) a_parents_here)) (ρ0 := [((kL (ioF o0) (kO PV.int)) a_parents_here), (PV.int a_field), .emp, .emp]) rfl (ar_of (fun o => (kL o (kO PV.int))) (ar_fz (FzV.of PV.int a_field) ar_nil)) rfl ?_ (fun b w r h => ⟨h.1, (ex_ro (fun _ => h.2.trans (toIo_of (fun o => (kL o (kO PV.int)))).symm) (ne_of (fun o => (kL o (kO PV.int)))) (ex_fz (FzV.of PV.int a_field) ex_nil))⟩) (fun r h => ⟨_, (ex_ro (fun _ => h.trans (toIo_of (fun o => (kL o (kO PV.int)))).symm) (ne_of (fun o => (kL o (kO PV.int)))) (ex_fz (FzV.of PV.int a_field) ex_nil)), rfl⟩)
  refine s_last ?_
  refine s_assoc ?_
  refine s_set ?_
  refine x_eq (e_lst (e_cons (e_N rfl) e_nil) (.fz (FzV.of PV.int a_field) rfl .nil) (Nat.le_of_ble_eq_true rfl) (c := ((kL .ow PV.int) [a_field])) rfl) ?_
  refine x_set_tm rfl rfl ?_
  refine s_rho (ρ1 := ([((kL (ioF o0) (kO PV.int)) a_parents_here), (PV.int a_field), ((kL .ow PV.int) [a_field]), .emp] : List PV)) rfl ?_
  refine s_assoc ?_
  refine s_for ?_
  refine x_iRg1 ?_
  refine x_eq (e_cons (e_fn (e_cons (e_N rfl) e_nil) (len_L (e := (kO PV.int)) (xs := a_parents_here))) e_nil) ?_
  refine x_rg1E rfl ?_
  generalize rgI 0 (a_parents_here.length : Int) = v1
  refine x_fold (P := fun s3 : ((List Int)) => [.is ((kL (ioF o0) (kO PV.int)) a_parents_here), .is (PV.int a_field), .is ((kL .ow PV.int) s3), .jk]) (e := PV.int) ⟨_, rfl, _, rfl, _, rfl, _, _, rfl, rfl, rfl⟩ (fun s3 x2 r4 e6 m5 => ?_) fun s18 r19 m20 => ?_
  · obtain ⟨_, rfl, _, rfl, _, rfl, j7v, _, rfl, j7, rfl⟩ := m5
    refine x_tg (tg_N j7 rfl) ?_
    refine s_rho (ρ1 := ([((kL (ioF o0) (kO PV.int)) a_parents_here), (PV.int a_field), ((kL .ow PV.int) s3), (PV.int x2)] : List PV)) rfl ?_
    refine s_last ?_
    refine s_join (P := fun s => [.is ((kL (ioF o0) (kO PV.int)) a_parents_here), .is (PV.int a_field), .is ((kL .ow PV.int) s), .is (PV.int x2)]) ?_ fun s15 r16 m17 => ?_
    · refine s_last ?_
      refine s_if ?_
      refine x_tB ?_
      refine x_bin ?_
      refine x_bin ?_
      refine x_eq (e_N rfl) ?_
      refine x_bin ?_
      refine x_eq (e_N rfl) ?_
      refine x_eq e_C ?_
      refine x_p (os_ix (e := PV.int) (xs := s3) rfl rfl) nx_ix fun v8 _ => ?_
      refine x_p (os_ix (e := (kO PV.int)) (xs := a_parents_here) rfl rfl) nx_ix fun v9 _ => ?_
      refine x_eq e_C ?_
      refine x_o (isnN PV.int v9) ?_
      refine x_ofB rfl ?_
      refine x_ite ?_ ?_
      · refine s_E ?_
        refine x_mu ?_
        refine x_eq (e_N rfl) ?_
        refine x_muL (e := PV.int) (xs := s3) rfl ?_
        refine x_acons ?_
        refine x_eq e_C ?_
        refine x_acons ?_
        refine x_bin ?_
        refine x_eq (e_N rfl) ?_
        refine x_bin ?_
        refine x_eq (e_N rfl) ?_
        refine x_eq e_C ?_
        refine x_p (os_ix (e := PV.int) (xs := s3) rfl rfl) nx_ix fun v10 _ => ?_
        refine x_p (os_ix (e := (kO PV.int)) (xs := a_parents_here) rfl rfl) nx_ix fun v11 _ => ?_
        refine x_anil ?_
        refine x_opt fun v12 e13 => ?_
        have e13z : ((kO PV.int) v11) = (PV.int v12) := by rw [e13]; rfl
        try rw [e13z]
        try rw [e13]
        refine x_ins (o := .ow) (e := PV.int) (xs := s3) (v := v12) (.tm rfl (.tm rfl .nil)) rfl (by decide) fun v14 => ?_
        exact x_done ⟨rfl, ⟨_, rfl, _, rfl, _, rfl, _, rfl, rfl⟩⟩
      refine s_nx ?_
      exact x_done ⟨rfl, ⟨_, rfl, _, rfl, _, rfl, _, rfl, rfl⟩⟩
    obtain ⟨_, rfl, _, rfl, _, rfl, _, rfl, rfl⟩ := m17
    exact x_done ⟨.inl rfl, ⟨_, rfl, _, rfl, _, rfl, _, _, rfl, rfl, rfl⟩⟩
  obtain ⟨_, rfl, _, rfl, _, rfl, j21v, _, rfl, j21, rfl⟩ := m20
  refine s_ret ?_
  refine x_eq (e_N rfl) ?_
  refine ret_sl (a := ((kL .ow PV.int) s18)) rfl rfl ?_
  exact fn_ret ⟨rfl, rfl⟩
set_option maxHeartbeats 1000000 in
theorem sim__law_side (a_parents_here : (List (Option Int))) (a_kinds_here : (List OS)) (a_field : Int) (a_older : (List Int)) (a_newer : (List Int)) (o0 : Fl) (o1 : Fl) : FS (F__law_side [((kL o0 (kO PV.int)) a_parents_here), ((kL o1 kS) a_kinds_here), (PV.int a_field), ((kT PV.int) a_older), ((kT PV.int) a_newer)]) (t__law_side_v2 a_parents_here a_kinds_here a_field a_older a_newer) (fun b => PV.int b) (fun b => [exitR ((kL o0 (kO PV.int)) a_parents_here), exitR ((kL o1 kS) a_kinds_here), (PV.int a_field), ((kT PV.int) a_older), ((kT PV.int) a_newer)]) (fun fn => fn = [exitR ((kL o0 (kO PV.int)) a_parents_here), exitR ((kL o1 kS) a_kinds_here), (PV.int a_field), ((kT PV.int) a_older), ((kT PV.int) a_newer)]) := by
  refine fs_run (E := fun r => nth r 0 = (kL (ioF o0) (kO PV.int)) a_parents_here ∧ nth r 1 = (kL (ioF o1) kS) a_kinds_here) (rq := (fun (b : Int) w r => w = PV.int b ∧ nth r 0 = (kL (ioF o0) (kO PV.int)) a_parents_here ∧ nth r 1 = (kL (ioF o1) kS) a_kinds_here)) (ρ0 := [((kL (ioF o0) (kO PV.int)) a_parents_here), ((kL (ioF o1) kS) a_kinds_here), (PV.int a_field), ((kT PV.int) a_older), ((kT PV.int) a_newer), .emp]) rfl (ar_of (fun o => (kL o (kO PV.int))) (ar_of (fun o => (kL o kS)) (ar_fz (FzV.of PV.int a_field) (ar_fz (FzV.of (kT PV.int) a_older) (ar_fz (FzV.of (kT PV.int) a_newer) ar_nil))))) rfl ?_ (fun b w r h => ⟨h.1, (ex_ro (fun _ => h.2.1.trans (toIo_of (fun o => (kL o (kO PV.int)))).symm) (ne_of (fun o => (kL o (kO PV.int)))) (ex_ro (fun _ => h.2.2.trans (toIo_of (fun o => (kL o kS))).symm) (ne_of (fun o => (kL o kS))) (ex_fz (FzV.of PV.int a_field) (ex_fz (FzV.of (kT PV.int) a_older) (ex_fz (FzV.of (kT PV.int) a_newer) ex_nil)))))⟩) (fun r h => ⟨_, (ex_ro (fun _ => h.1.trans (toIo_of (fun o => (kL o (kO PV.int)))).symm) (ne_of (fun o => (kL o (kO PV.int)))) (ex_ro (fun _ => h.2.trans (toIo_of (fun o => (kL o kS))).symm) (ne_of (fun o => (kL o kS))) (ex_fz (FzV.of PV.int a_field) (ex_fz (FzV.of (kT PV.int) a_older) (ex_fz (FzV.of (kT PV.int) a_newer) ex_nil))))), rfl⟩)
  refine s_last ?_
  refine s_assoc ?_
  refine s_for ?_
  refine x_iSeq ?_
  refine x_call ?_
  refine x_eq (e_cons (e_N rfl) (e_cons (e_N rfl) e_nil)) ?_
  refine x_callR (ok_own rfl (ok_fz (FzV.of PV.int a_field) rfl ok_nil)) (sim__law_path a_parents_here a_field (ioF o0)) (bk_ro rfl rfl (bk_fz (FzV.of PV.int a_field) rfl bk_nil)) ⟨rfl, rfl⟩ fun v1 => ?_
  refine x_it_tm (xs := v1.map PV.int) rfl ?_
  refine x_for (P := fun s3 : Unit => [.is ((kL (ioF o0) (kO PV.int)) a_parents_here), .is ((kL (ioF o1) kS) a_kinds_here), .is (PV.int a_field), .is ((kT PV.int) a_older), .is ((kT PV.int) a_newer), .jk]) (e := PV.int) (rq := (fun (b : Int) w r => w = PV.int b ∧ nth r 0 = (kL (ioF o0) (kO PV.int)) a_parents_here ∧ nth r 1 = (kL (ioF o1) kS) a_kinds_here)) ⟨_, rfl, _, rfl, _, rfl, _, rfl, _, rfl, _, _, rfl, rfl, rfl⟩ (fun s3 x2 r4 e6 m5 => ?_) (fun s15 r16 m17 => ?_) (fun b19 w20 r21 q22 => ?_)
  · obtain ⟨_, rfl, _, rfl, _, rfl, _, rfl, _, rfl, j7v, _, rfl, j7, rfl⟩ := m5
    refine x_tg (tg_N j7 rfl) ?_
    refine s_rho (ρ1 := ([((kL (ioF o0) (kO PV.int)) a_parents_here), ((kL (ioF o1) kS) a_kinds_here), (PV.int a_field), ((kT PV.int) a_older), ((kT PV.int) a_newer), (PV.int x2)] : List PV)) rfl ?_
    refine s_last ?_
    refine s_if ?_
    refine x_tB ?_
    refine x_bin ?_
    refine x_bin ?_
    refine x_eq (e_N rfl) ?_
    refine x_eq (e_N rfl) ?_
    refine x_p (os_ixT (e := PV.int) (xs := a_older) rfl rfl) nx_ix fun v8 _ => ?_
    refine x_bin ?_
    refine x_eq (e_N rfl) ?_
    refine x_eq (e_N rfl) ?_
    refine x_p (os_ixT (e := PV.int) (xs := a_newer) rfl rfl) nx_ix fun v9 _ => ?_
    refine x_o (neD PV.int PV.int v8 v9) ?_
    refine x_ofB rfl ?_
    refine x_ite ?_ ?_
    · refine s_assoc ?_
      refine s_if ?_
      refine x_tB ?_
      refine x_bin ?_
      refine x_bin ?_
      refine x_eq (e_N rfl) ?_
      refine x_eq (e_N rfl) ?_
      refine x_p (os_ix (e := kS) (xs := a_kinds_here) rfl rfl) nx_ix fun v10 _ => ?_
      refine x_eq e_C ?_
      refine x_o (eqD kS kS v10 (lit "first")) ?_
      refine x_ofB rfl ?_
      refine x_ite ?_ ?_
      · refine s_ret ?_
        refine x_eq e_C ?_
        exact go_ret ⟨rfl, rfl, rfl⟩
      refine s_nx ?_
      refine s_assoc ?_
      refine s_if ?_
      refine x_tB ?_
      refine x_bin ?_
      refine x_bin ?_
      refine x_eq (e_N rfl) ?_
      refine x_eq (e_N rfl) ?_
      refine x_p (os_ix (e := kS) (xs := a_kinds_here) rfl rfl) nx_ix fun v11 _ => ?_
      refine x_eq e_C ?_
      refine x_o (eqD kS kS v11 (lit "last")) ?_
      refine x_ofB rfl ?_
      refine x_ite ?_ ?_
      · refine s_ret ?_
        refine x_eq e_C ?_
        exact go_ret ⟨rfl, rfl, rfl⟩
      refine s_nx ?_
      refine s_ret ?_
      refine x_fn ?_
      refine x_acons ?_
      refine x_bin ?_
      refine x_bin ?_
      refine x_bin ?_
      refine x_eq (e_N rfl) ?_
      refine x_eq (e_N rfl) ?_
      refine x_p (os_ixT (e := PV.int) (xs := a_older) rfl rfl) nx_ix fun v12 _ => ?_
      refine x_bin ?_
      refine x_eq (e_N rfl) ?_
      refine x_eq (e_N rfl) ?_
      refine x_p (os_ixT (e := PV.int) (xs := a_newer) rfl rfl) nx_ix fun v13 _ => ?_
      refine x_o rfl ?_
      refine x_bin ?_
      refine x_bin ?_
      refine x_eq (e_N rfl) ?_
      refine x_eq (e_N rfl) ?_
      refine x_p (os_ix (e := kS) (xs := a_kinds_here) rfl rfl) nx_ix fun v14 _ => ?_
      refine x_eq e_C ?_
      refine x_o (eqD kS kS v14 (lit "up")) ?_
      refine x_o (neD PV.bl PV.bl (decide (v13 < v12)) (teq v14 (lit "up"))) ?_
      refine x_anil ?_
      refine x_o (c := (PV.int (b2i (!(teq (decide (v13 < v12)) (teq v14 (lit "up"))))))) rfl ?_
      exact go_ret ⟨rfl, rfl, rfl⟩
    refine s_nx ?_
    exact x_done ⟨.inl rfl, ⟨_, rfl, _, rfl, _, rfl, _, rfl, _, rfl, _, _, rfl, rfl, rfl⟩⟩
  · obtain ⟨_, rfl, _, rfl, _, rfl, _, rfl, _, rfl, j18v, _, rfl, j18, rfl⟩ := m17
    refine s_ret ?_
    refine x_eq e_C ?_
    exact fn_ret ⟨rfl, rfl, rfl⟩
  exact fn_ret q22
set_option maxHeartbeats 1000000 in
theorem sim__law_merge (a_parents_here : (List (Option Int))) (a_kinds_here : (List OS)) (a_older : (List Int)) (a_newer : (List Int)) (o0 : Fl) (o1 : Fl) : FS (F__law_merge [((kL o0 (kO PV.int)) a_parents_here), ((kL o1 kS) a_kinds_here), ((kT PV.int) a_older), ((kT PV.int) a_newer)]) (t__law_merge_v2 a_parents_here a_kinds_here a_older a_newer) (fun b => (kT PV.int) b) (fun b => [exitR ((kL o0 (kO PV.int)) a_parents_here), exitR ((kL o1 kS) a_kinds_here), ((kT PV.int) a_older), ((kT PV.int) a_newer)]) (fun fn => fn = [exitR ((kL o0 (kO PV.int)) a_parents_here), exitR ((kL o1 kS) a_kinds_here), ((kT PV.int) a_older), ((kT PV.int) a_newer)]) := by
  refine fs_run (E := fun r => nth r 0 = (kL (ioF o0) (kO PV.int)) a_parents_here ∧ nth r 1 = (kL (ioF o1) kS) a_kinds_here) (rq := (fun (b : (List Int)) w r => w = (kT PV.int) b ∧ nth r 0 = (kL (ioF o0) (kO PV.int)) a_parents_here ∧ nth r 1 = (kL (ioF o1) kS) a_kinds_here)) (ρ0 := [((kL (ioF o0) (kO PV.int)) a_parents_here), ((kL (ioF o1) kS) a_kinds_here), ((kT PV.int) a_older), ((kT PV.int) a_newer), .emp, .emp]) rfl (ar_of (fun o => (kL o (kO PV.int))) (ar_of (fun o => (kL o kS)) (ar_fz (FzV.of (kT PV.int) a_older) (ar_fz (FzV.of (kT PV.int) a_newer) ar_nil)))) rfl ?_ (fun b w r h => ⟨h.1, (ex_ro (fun _ => h.2.1.trans (toIo_of (fun o => (kL o (kO PV.int)))).symm) (ne_of (fun o => (kL o (kO PV.int)))) (ex_ro (fun _ => h.2.2.trans (toIo_of (fun o => (kL o kS))).symm) (ne_of (fun o => (kL o kS))) (ex_fz (FzV.of (kT PV.int) a_older) (ex_fz (FzV.of (kT PV.int) a_newer) ex_nil))))⟩) (fun r h => ⟨_, (ex_ro (fun _ => h.1.trans (toIo_of (fun o => (kL o (kO PV.int)))).symm) (ne_of (fun o => (kL o (kO PV.int)))) (ex_ro (fun _ => h.2.trans (toIo_of (fun o => (kL o kS))).symm) (ne_of (fun o => (kL o kS))) (ex_fz (FzV.of (kT PV.int) a_older) (ex_fz (FzV.of (kT PV.int) a_newer) ex_nil)))), rfl⟩)
  refine s_last ?_
  refine s_assoc ?_
  refine s_set ?_
  refine x_eq (e_lst (e_cons (e_N rfl) (e_cons (e_N rfl) e_nil)) (.fz (FzV.of (kT PV.int) a_older) rfl (.fz (FzV.of (kT PV.int) a_newer) rfl .nil)) (Nat.le_of_ble_eq_true rfl) (c := ((kL .ow (kT PV.int)) [a_older, a_newer])) rfl) ?_
  refine x_set_tm rfl rfl ?_
  refine s_rho (ρ1 := ([((kL (ioF o0) (kO PV.int)) a_parents_here), ((kL (ioF o1) kS) a_kinds_here), ((kT PV.int) a_older), ((kT PV.int) a_newer), ((kL .ow (kT PV.int)) [a_older, a_newer]), .emp] : List PV)) rfl ?_
  refine s_ret ?_
  refine x_fn ?_
  refine x_acons ?_
  refine x_lc ?_
  refine x_iRg1 ?_
  refine x_eq (e_cons (e_fn (e_cons (e_N rfl) e_nil) (len_L (e := (kO PV.int)) (xs := a_parents_here))) e_nil) ?_
  refine x_rg1E rfl ?_
  generalize rgI 0 (a_parents_here.length : Int) = v1
  refine x_lcP (P := [.is ((kL (ioF o0) (kO PV.int)) a_parents_here), .is ((kL (ioF o1) kS) a_kinds_here), .is ((kT PV.int) a_older), .is ((kT PV.int) a_newer), .is ((kL .ow (kT PV.int)) [a_older, a_newer]), .is .emp]) (e := PV.int) (e' := PV.int) ⟨_, rfl, _, rfl, _, rfl, _, rfl, _, rfl, _, rfl, rfl⟩ (fun x2 r4 _ m5 => ?_) fun v9 r10 r10c m11 m11e => ?_
  · obtain ⟨_, rfl, _, rfl, _, rfl, _, rfl, _, rfl, _, rfl, rfl⟩ := m5
    refine lc_tg (tg_N rfl rfl) ?_
    refine x_tYes ?_
    refine lc_yes ?_
    refine x_bin ?_
    refine x_bin ?_
    refine x_eq (e_N rfl) ?_
    refine x_call ?_
    refine x_eq (e_cons (e_N rfl) (e_cons (e_N rfl) (e_cons (e_N rfl) (e_cons (e_N rfl) (e_cons (e_N rfl) e_nil))))) ?_
    refine x_callR (ok_own rfl (ok_own rfl (ok_fz (FzV.of PV.int x2) rfl (ok_fz (FzV.of (kT PV.int) a_older) rfl (ok_fz (FzV.of (kT PV.int) a_newer) rfl ok_nil))))) (sim__law_side a_parents_here a_kinds_here x2 a_older a_newer (ioF o0) (ioF o1)) (bk_ro rfl rfl (bk_ro rfl rfl (bk_fz (FzV.of PV.int x2) rfl (bk_fz (FzV.of (kT PV.int) a_older) rfl (bk_fz (FzV.of (kT PV.int) a_newer) rfl bk_nil))))) trivial fun v6 => ?_
    refine x_p (os_ix (e := (kT PV.int)) (xs := [a_older, a_newer]) rfl rfl) nx_ix fun v7 _ => ?_
    refine x_eq (e_N rfl) ?_
    refine x_p (os_ixT (e := PV.int) (xs := v7) rfl rfl) nx_ix fun v8 _ => ?_
    refine lc_tm rfl ⟨rfl, ⟨_, rfl, _, rfl, _, rfl, _, rfl, _, rfl, _, rfl, rfl⟩⟩
  obtain ⟨_, rfl, _, rfl, _, rfl, _, rfl, _, rfl, _, rfl, rfl⟩ := m11
  obtain rfl : ([((kL (ioF o0) (kO PV.int)) a_parents_here), ((kL (ioF o1) kS) a_kinds_here), ((kT PV.int) a_older), ((kT PV.int) a_newer), ((kL .ow (kT PV.int)) [a_older, a_newer]), .emp] : List PV) = r10c := m11e
  refine x_anil ?_
  refine x_o (c := ((kT PV.int) v9)) rfl ?_
  exact fn_ret ⟨rfl, rfl, rfl⟩
set_option maxHeartbeats 1000000 in
theorem sim__law_fold (a_parents_here : (List (Option Int))) (a_kinds_here : (List OS)) (a_records : (List (List Int))) (o0 : Fl) (o1 : Fl) (o2 : Fl) : FS (F__law_fold [((kL o0 (kO PV.int)) a_parents_here), ((kL o1 kS) a_kinds_here), ((kL o2 (kT PV.int)) a_records)]) (t__law_fold a_parents_here a_kinds_here a_records) (fun b => (kT PV.int) b) (fun b => [exitR ((kL o0 (kO PV.int)) a_parents_here), exitR ((kL o1 kS) a_kinds_here), exitR ((kL o2 (kT PV.int)) a_records)]) (fun fn => fn = [exitR ((kL o0 (kO PV.int)) a_parents_here), exitR ((kL o1 kS) a_kinds_here), exitR ((kL o2 (kT PV.int)) a_records)]) := by
  refine fs_run (E := fun r => nth r 0 = (kL (ioF o0) (kO PV.int)) a_parents_here ∧ nth r 1 = (kL (ioF o1) kS) a_kinds_here ∧ nth r 2 = (kL (ioF o2) (kT PV.int)) a_records) (rq := (fun (b : (List Int)) w r => w = (kT PV.int) b ∧ nth r 0 = (kL (ioF o0) (kO PV.int)) a_parents_here ∧ nth r 1 = (kL (ioF o1) kS) a_kinds_here ∧ nth r 2 = (kL (ioF o2) (kT PV.int)) a_records)) (ρ0 := [((kL (ioF o0) (kO PV.int)) a_parents_here), ((kL (ioF o1) kS) a_kinds_here), ((kL (ioF o2) (kT PV.int)) a_records), .emp, .emp]) rfl (ar_of (fun o => (kL o (kO PV.int))) (ar_of (fun o => (kL o kS)) (ar_of (fun o => (kL o (kT PV.int))) ar_nil))) rfl ?_ (fun b w r h => ⟨h.1, (ex_ro (fun _ => h.2.1.trans (toIo_of (fun o => (kL o (kO PV.int)))).symm) (ne_of (fun o => (kL o (kO PV.int)))) (ex_ro (fun _ => h.2.2.1.trans (toIo_of (fun o => (kL o kS))).symm) (ne_of (fun o => (kL o kS))) (ex_ro (fun _ => h.2.2.2.trans (toIo_of (fun o => (kL o (kT PV.int)))).symm) (ne_of (fun o => (kL o (kT PV.int)))) ex_nil)))⟩) (fun r h => ⟨_, (ex_ro (fun _ => h.1.trans (toIo_of (fun o => (kL o (kO PV.int)))).symm) (ne_of (fun o => (kL o (kO PV.int)))) (ex_ro (fun _ => h.2.1.trans (toIo_of (fun o => (kL o kS))).symm) (ne_of (fun o => (kL o kS))) (ex_ro (fun _ => h.2.2.trans (toIo_of (fun o => (kL o (kT PV.int)))).symm) (ne_of (fun o => (kL o (kT PV.int)))) ex_nil))), rfl⟩)
  unfold t__law_fold
  refine s_last ?_
  refine s_assoc ?_
  refine s_set ?_
  refine x_bin ?_
  refine x_eq (e_N rfl) ?_
  refine x_eq e_C ?_
  refine x_p (os_ix (e := (kT PV.int)) (xs := a_records) rfl rfl) nx_ix fun v1 _ => ?_
  refine x_set_tm rfl rfl ?_
  refine s_rho (ρ1 := ([((kL (ioF o0) (kO PV.int)) a_parents_here), ((kL (ioF o1) kS) a_kinds_here), ((kL (ioF o2) (kT PV.int)) a_records), ((kT PV.int) v1), .emp] : List PV)) rfl ?_
  refine s_assoc ?_
  refine s_for ?_
  refine x_iSeq ?_
  refine x_eq (e_sl (e_N rfl) (p_some e_C rfl) p_none (cut_L (e := (kT PV.int)) (xs := a_records))) ?_
  refine x_it_tm (xs := (tcut a_records (some (1 : Int)) none).map (kT PV.int)) rfl ?_
  refine x_fold (P := fun s3 : ((List Int)) => [.is ((kL (ioF o0) (kO PV.int)) a_parents_here), .is ((kL (ioF o1) kS) a_kinds_here), .is ((kL (ioF o2) (kT PV.int)) a_records), .is ((kT PV.int) s3), .jk]) (e := (kT PV.int)) ⟨_, rfl, _, rfl, _, rfl, _, rfl, _, _, rfl, rfl, rfl⟩ (fun s3 x2 r4 e6 m5 => ?_) fun s9 r10 m11 => ?_
  · obtain ⟨_, rfl, _, rfl, _, rfl, _, rfl, j7v, _, rfl, j7, rfl⟩ := m5
    refine x_tg (tg_N j7 rfl) ?_
    refine s_rho (ρ1 := ([((kL (ioF o0) (kO PV.int)) a_parents_here), ((kL (ioF o1) kS) a_kinds_here), ((kL (ioF o2) (kT PV.int)) a_records), ((kT PV.int) s3), ((kT PV.int) x2)] : List PV)) rfl ?_
    refine s_last ?_
    refine s_set ?_
    refine x_call ?_
    refine x_eq (e_cons (e_N rfl) (e_cons (e_N rfl) (e_cons (e_N rfl) (e_cons (e_N rfl) e_nil)))) ?_
    refine x_callR (ok_own rfl (ok_own rfl (ok_fz (FzV.of (kT PV.int) s3) rfl (ok_fz (FzV.of (kT PV.int) x2) rfl ok_nil)))) (sim__law_merge a_parents_here a_kinds_here s3 x2 (ioF o0) (ioF o1)) (bk_ro rfl rfl (bk_ro rfl rfl (bk_fz (FzV.of (kT PV.int) s3) rfl (bk_fz (FzV.of (kT PV.int) x2) rfl bk_nil)))) ⟨rfl, rfl, rfl⟩ fun v8 => ?_
    refine x_set_tm rfl rfl ?_
    exact x_done ⟨.inl rfl, ⟨_, rfl, _, rfl, _, rfl, _, rfl, _, _, rfl, rfl, rfl⟩⟩
  obtain ⟨_, rfl, _, rfl, _, rfl, _, rfl, j12v, _, rfl, j12, rfl⟩ := m11
  refine s_ret ?_
  refine x_eq (e_N rfl) ?_
  refine ret_sl (a := ((kT PV.int) s9)) rfl rfl ?_
  exact fn_ret ⟨rfl, rfl, rfl, rfl⟩
set_option maxHeartbeats 1000000 in
theorem sim__law_needs_all (a_parents_here : (List (Option Int))) (a_kinds_here : (List OS)) (a_row : (List (List Int))) (o0 : Fl) (o1 : Fl) (o2 : Fl) : FS (F__law_needs_all [((kL o0 (kO PV.int)) a_parents_here), ((kL o1 kS) a_kinds_here), ((kL o2 (kT PV.int)) a_row)]) (t__law_needs_all a_parents_here a_kinds_here a_row) (fun b => PV.bl b) (fun b => [exitR ((kL o0 (kO PV.int)) a_parents_here), exitR ((kL o1 kS) a_kinds_here), exitR ((kL o2 (kT PV.int)) a_row)]) (fun fn => fn = [exitR ((kL o0 (kO PV.int)) a_parents_here), exitR ((kL o1 kS) a_kinds_here), exitR ((kL o2 (kT PV.int)) a_row)]) := by
  refine fs_run (E := fun r => nth r 0 = (kL (ioF o0) (kO PV.int)) a_parents_here ∧ nth r 1 = (kL (ioF o1) kS) a_kinds_here ∧ nth r 2 = (kL (ioF o2) (kT PV.int)) a_row) (rq := (fun (b : Bool) w r => w = PV.bl b ∧ nth r 0 = (kL (ioF o0) (kO PV.int)) a_parents_here ∧ nth r 1 = (kL (ioF o1) kS) a_kinds_here ∧ nth r 2 = (kL (ioF o2) (kT PV.int)) a_row)) (ρ0 := [((kL (ioF o0) (kO PV.int)) a_parents_here), ((kL (ioF o1) kS) a_kinds_here), ((kL (ioF o2) (kT PV.int)) a_row), .emp, .emp, .emp]) rfl (ar_of (fun o => (kL o (kO PV.int))) (ar_of (fun o => (kL o kS)) (ar_of (fun o => (kL o (kT PV.int))) ar_nil))) rfl ?_ (fun b w r h => ⟨h.1, (ex_ro (fun _ => h.2.1.trans (toIo_of (fun o => (kL o (kO PV.int)))).symm) (ne_of (fun o => (kL o (kO PV.int)))) (ex_ro (fun _ => h.2.2.1.trans (toIo_of (fun o => (kL o kS))).symm) (ne_of (fun o => (kL o kS))) (ex_ro (fun _ => h.2.2.2.trans (toIo_of (fun o => (kL o (kT PV.int)))).symm) (ne_of (fun o => (kL o (kT PV.int)))) ex_nil)))⟩) (fun r h => ⟨_, (ex_ro (fun _ => h.1.trans (toIo_of (fun o => (kL o (kO PV.int)))).symm) (ne_of (fun o => (kL o (kO PV.int)))) (ex_ro (fun _ => h.2.1.trans (toIo_of (fun o => (kL o kS))).symm) (ne_of (fun o => (kL o kS))) (ex_ro (fun _ => h.2.2.trans (toIo_of (fun o => (kL o (kT PV.int)))).symm) (ne_of (fun o => (kL o (kT PV.int)))) ex_nil))), rfl⟩)
  unfold t__law_needs_all
  refine s_last ?_
  refine s_assoc ?_
  refine s_set ?_
  refine x_call ?_
  refine x_eq (e_cons (e_N rfl) (e_cons (e_N rfl) (e_cons (e_N rfl) e_nil))) ?_
  refine x_callR (ok_own rfl (ok_own rfl (ok_own rfl ok_nil))) (sim__law_fold a_parents_here a_kinds_here a_row (ioF o0) (ioF o1) (ioF o2)) (bk_ro rfl rfl (bk_ro rfl rfl (bk_ro rfl rfl bk_nil))) ⟨rfl, rfl, rfl⟩ fun v1 => ?_
  refine x_set_tm rfl rfl ?_
  refine s_rho (ρ1 := ([((kL (ioF o0) (kO PV.int)) a_parents_here), ((kL (ioF o1) kS) a_kinds_here), ((kL (ioF o2) (kT PV.int)) a_row), ((kT PV.int) v1), .emp, .emp] : List PV)) rfl ?_
  refine s_assoc ?_
  refine s_for ?_
  refine x_iRg1 ?_
  refine x_eq (e_cons (e_fn (e_cons (e_N rfl) e_nil) (len_L (e := (kT PV.int)) (xs := a_row))) e_nil) ?_
  refine x_rg1E rfl ?_
  generalize rgI 0 (a_row.length : Int) = v2
  refine x_for (P := fun s4 : Unit => [.is ((kL (ioF o0) (kO PV.int)) a_parents_here), .is ((kL (ioF o1) kS) a_kinds_here), .is ((kL (ioF o2) (kT PV.int)) a_row), .is ((kT PV.int) v1), .jk, .jk]) (e := PV.int) (rq := (fun (b : Bool) w r => w = PV.bl b ∧ nth r 0 = (kL (ioF o0) (kO PV.int)) a_parents_here ∧ nth r 1 = (kL (ioF o1) kS) a_kinds_here ∧ nth r 2 = (kL (ioF o2) (kT PV.int)) a_row)) ⟨_, rfl, _, rfl, _, rfl, _, rfl, _, _, rfl, rfl, _, _, rfl, rfl, rfl⟩ (fun s4 x3 r5 e7 m6 => ?_) (fun s13 r14 m15 => ?_) (fun b18 w19 r20 q21 => ?_)
  · obtain ⟨_, rfl, _, rfl, _, rfl, _, rfl, j8v, _, rfl, j8, j9v, _, rfl, j9, rfl⟩ := m6
    refine x_tg (tg_N j8 rfl) ?_
    refine s_rho (ρ1 := ([((kL (ioF o0) (kO PV.int)) a_parents_here), ((kL (ioF o1) kS) a_kinds_here), ((kL (ioF o2) (kT PV.int)) a_row), ((kT PV.int) v1), (PV.int x3), j9v] : List PV)) rfl ?_
    refine s_last ?_
    refine s_assoc ?_
    refine s_set ?_
    refine x_bin ?_
    refine x_eq (e_sl (e_N rfl) p_none (p_some (e_N rfl) rfl) (cut_L (e := (kT PV.int)) (xs := a_row))) ?_
    refine x_eq (e_sl (e_N rfl) (p_some (e_bin (e_N rfl) e_C rfl) rfl) p_none (cut_L (e := (kT PV.int)) (xs := a_row))) ?_
    refine x_p (os_catL (e := (kT PV.int)) (xs := (tcut a_row none (some x3))) (ys := (tcut a_row (some (x3 + (1 : Int))) none)) rfl rfl) nx_cat fun v10 _ => ?_
    refine x_set_tm j9 rfl ?_
    refine s_rho (ρ1 := ([((kL (ioF o0) (kO PV.int)) a_parents_here), ((kL (ioF o1) kS) a_kinds_here), ((kL (ioF o2) (kT PV.int)) a_row), ((kT PV.int) v1), (PV.int x3), ((kL .ow (kT PV.int)) v10)] : List PV)) rfl ?_
    refine s_if ?_
    refine x_tAnd ?_
    refine x_eq (t_tB (e_bin (e_N rfl) (e_lst e_nil .nil (Nat.le_of_ble_eq_true rfl) (c := ((kL .ow PV.int) ([] : List Int))) rfl) (neD (kL .ow (kT PV.int)) (kL .ow (kT PV.int)) v10 ([] : (List (List Int))))) rfl) ?_
    refine x_tAndP ?_ fun v12 => ?_
    · refine x_fin ?_
      refine x_tB ?_
      refine x_bin ?_
      refine x_call ?_
      refine x_eq (e_cons (e_N rfl) (e_cons (e_N rfl) (e_cons (e_N rfl) e_nil))) ?_
      refine x_callR (ok_own rfl (ok_own rfl (ok_own rfl ok_nil))) (sim__law_fold a_parents_here a_kinds_here v10 (ioF o0) (ioF o1) .ow) (bk_ro rfl rfl (bk_ro rfl rfl (bk_ro rfl rfl bk_nil))) ⟨rfl, rfl, rfl⟩ fun v11 => ?_
      refine x_eq (e_N rfl) ?_
      refine x_o (eqD (kT PV.int) (kT PV.int) v11 v1) ?_
      refine x_ofB rfl ?_
      exact pq_done
    refine x_ite ?_ ?_
    · refine s_ret ?_
      refine x_eq e_C ?_
      exact go_ret ⟨rfl, rfl, rfl, rfl⟩
    refine s_nx ?_
    exact x_done ⟨.inl rfl, ⟨_, rfl, _, rfl, _, rfl, _, rfl, _, _, rfl, rfl, _, _, rfl, rfl, rfl⟩⟩
  · obtain ⟨_, rfl, _, rfl, _, rfl, _, rfl, j16v, _, rfl, j16, j17v, _, rfl, j17, rfl⟩ := m15
    refine s_ret ?_
    refine x_eq e_C ?_
    exact fn_ret ⟨rfl, rfl, rfl, rfl⟩
  exact fn_ret q21
set_option maxHeartbeats 1000000 in
theorem sim__law_is_needy (a_forest : O_Forest) (a_parents_here : (List (Option Int))) (a_kinds_here : (List OS)) (o1 : Fl) (o2 : Fl) : FS (F__law_is_needy [((kC_Forest .fz) a_forest), ((kL o1 (kO PV.int)) a_parents_here), ((kL o2 kS) a_kinds_here)]) (t__law_is_needy a_forest a_parents_here a_kinds_here) (fun b => PV.bl b) (fun b => [((kC_Forest .fz) a_forest), exitR ((kL o1 (kO PV.int)) a_parents_here), exitR ((kL o2 kS) a_kinds_here)]) (fun fn => fn = [((kC_Forest .fz) a_forest), exitR ((kL o1 (kO PV.int)) a_parents_here), exitR ((kL o2 kS) a_kinds_here)]) := by
  refine fs_run (E := fun r => nth r 1 = (kL (ioF o1) (kO PV.int)) a_parents_here ∧ nth r 2 = (kL (ioF o2) kS) a_kinds_here) (rq := (fun (b : Bool) w r => w = PV.bl b ∧ nth r 1 = (kL (ioF o1) (kO PV.int)) a_parents_here ∧ nth r 2 = (kL (ioF o2) kS) a_kinds_here)) (ρ0 := [((kC_Forest .fz) a_forest), ((kL (ioF o1) (kO PV.int)) a_parents_here), ((kL (ioF o2) kS) a_kinds_here), .emp, .emp, .emp, .emp]) rfl (ar_fz (FzV.of (kC_Forest .fz) a_forest) (ar_of (fun o => (kL o (kO PV.int))) (ar_of (fun o => (kL o kS)) ar_nil))) rfl ?_ (fun b w r h => ⟨h.1, (ex_fz (FzV.of (kC_Forest .fz) a_forest) (ex_ro (fun _ => h.2.1.trans (toIo_of (fun o => (kL o (kO PV.int)))).symm) (ne_of (fun o => (kL o (kO PV.int)))) (ex_ro (fun _ => h.2.2.trans (toIo_of (fun o => (kL o kS))).symm) (ne_of (fun o => (kL o kS))) ex_nil)))⟩) (fun r h => ⟨_, (ex_fz (FzV.of (kC_Forest .fz) a_forest) (ex_ro (fun _ => h.1.trans (toIo_of (fun o => (kL o (kO PV.int)))).symm) (ne_of (fun o => (kL o (kO PV.int)))) (ex_ro (fun _ => h.2.trans (toIo_of (fun o => (kL o kS))).symm) (ne_of (fun o => (kL o kS))) ex_nil))), rfl⟩)
  unfold t__law_is_needy
  refine s_last ?_
  refine s_assoc ?_
  refine s_set ?_
  refine x_call ?_
  refine x_eq (e_cons (e_N rfl) e_nil) ?_
  refine x_callR (ok_fz (FzV.of (kC_Forest .fz) a_forest) rfl ok_nil) (sim_class_count a_forest) (bk_fz (FzV.of (kC_Forest .fz) a_forest) rfl bk_nil) ⟨rfl, rfl⟩ fun v1 => ?_
  refine x_set_tm rfl rfl ?_
  refine s_rho (ρ1 := ([((kC_Forest .fz) a_forest), ((kL (ioF o1) (kO PV.int)) a_parents_here), ((kL (ioF o2) kS) a_kinds_here), (PV.int v1), .emp, .emp, .emp] : List PV)) rfl ?_
  refine s_assoc ?_
  refine s_if ?_
  refine x_tOr ?_
  refine x_tNot ?_
  refine x_tE ?_
  refine x_call ?_
  refine x_eq (e_cons (e_N rfl) e_nil) ?_
  refine x_callR (ok_fz (FzV.of PV.int v1) rfl ok_nil) (sim__law_is_integer v1) (bk_fz (FzV.of PV.int v1) rfl bk_nil) ⟨rfl, rfl⟩ fun v2 => ?_
  refine x_ofB rfl ?_
  refine x_tOrP ?_ fun v4 => ?_
  · refine x_fin ?_
    refine x_tB ?_
    refine x_bin ?_
    refine x_eq (e_N rfl) ?_
    refine x_call ?_
    refine x_eq (e_cons (e_N rfl) (e_cons (e_N rfl) e_nil)) ?_
    refine x_callR (ok_own rfl (ok_own rfl ok_nil)) (sim__law_class_count a_parents_here a_kinds_here (ioF o1) (ioF o2)) (bk_ro rfl rfl (bk_ro rfl rfl bk_nil)) ⟨rfl, rfl⟩ fun v3 => ?_
    refine x_o (neD PV.int PV.int v1 v3) ?_
    refine x_ofB rfl ?_
    exact pq_done
  refine x_ite ?_ ?_
  · refine s_ret ?_
    refine x_eq e_C ?_
    exact fn_ret ⟨rfl, rfl, rfl⟩
  refine s_nx ?_
  refine s_assoc ?_
  refine s_set ?_
  refine x_call ?_
  refine x_eq (e_cons (e_N rfl) e_nil) ?_
  refine x_callR (ok_fz (FzV.of (kC_Forest .fz) a_forest) rfl ok_nil) (sim_needy_row a_forest) (bk_fz (FzV.of (kC_Forest .fz) a_forest) rfl bk_nil) ⟨rfl, rfl⟩ fun v5 => ?_
  refine x_set_tm rfl rfl ?_
  refine s_rho (ρ1 := ([((kC_Forest .fz) a_forest), ((kL (ioF o1) (kO PV.int)) a_parents_here), ((kL (ioF o2) kS) a_kinds_here), (PV.int v1), ((kL .ow (kT PV.int)) v5), .emp, .emp] : List PV)) rfl ?_
  refine s_assoc ?_
  refine s_if ?_
  refine x_eq (t_or (t_not (t_tE (e_fn (e_cons (e_N rfl) (e_cons e_C e_nil)) (isi (s := "list") rfl (by decide) rfl)) rfl)) (t_tB (e_bin (e_fn (e_cons (e_N rfl) e_nil) (len_L (e := (kT PV.int)) (xs := v5))) (e_N rfl) (neD PV.int PV.int (v5.length : Int) v1)) rfl)) ?_
  refine x_ite ?_ ?_
  · refine s_ret ?_
    refine x_eq e_C ?_
    exact fn_ret ⟨rfl, rfl, rfl⟩
  refine s_nx ?_
  refine s_assoc ?_
  refine s_for ?_
  refine x_iSeq ?_
  refine x_eq (e_N rfl) ?_
  refine x_it_sl (xs := v5.map (kT PV.int)) rfl rfl ?_
  refine x_for (P := fun s7 : Unit => [.is ((kC_Forest .fz) a_forest), .is ((kL (ioF o1) (kO PV.int)) a_parents_here), .is ((kL (ioF o2) kS) a_kinds_here), .is (PV.int v1), .is ((kL .fz (kT PV.int)) v5), .jk, .jk]) (e := (kT PV.int)) (rq := (fun (b : Bool) w r => w = PV.bl b ∧ nth r 1 = (kL (ioF o1) (kO PV.int)) a_parents_here ∧ nth r 2 = (kL (ioF o2) kS) a_kinds_here)) ⟨_, rfl, _, rfl, _, rfl, _, rfl, _, rfl, _, _, rfl, rfl, _, _, rfl, rfl, rfl⟩ (fun s7 x6 r8 e10 m9 => ?_) (fun s21 r22 m23 => ?_) (fun b27 w28 r29 q30 => ?_)
  · obtain ⟨_, rfl, _, rfl, _, rfl, _, rfl, _, rfl, j11v, _, rfl, j11, j12v, _, rfl, j12, rfl⟩ := m9
    refine x_tg (tg_N j11 rfl) ?_
    refine s_rho (ρ1 := ([((kC_Forest .fz) a_forest), ((kL (ioF o1) (kO PV.int)) a_parents_here), ((kL (ioF o2) kS) a_kinds_here), (PV.int v1), ((kL .fz (kT PV.int)) v5), ((kT PV.int) x6), j12v] : List PV)) rfl ?_
    refine s_last ?_
    refine s_assoc ?_
    refine s_if ?_
    refine x_tNot ?_
    refine x_tE ?_
    refine x_call ?_
    refine x_eq (e_cons (e_N rfl) (e_cons (e_fn (e_cons (e_N rfl) e_nil) (len_L (e := (kO PV.int)) (xs := a_parents_here))) e_nil)) ?_
    refine x_callR (ok_fz (FzV.of (kT PV.int) x6) rfl (ok_tm ok_nil)) (sim__law_is_record x6 (a_parents_here.length : Int)) (bk_fz (FzV.of (kT PV.int) x6) rfl (bk_tm bk_nil)) ⟨rfl, rfl⟩ fun v13 => ?_
    refine x_ofB rfl ?_
    refine x_ite ?_ ?_
    · refine s_ret ?_
      refine x_eq e_C ?_
      exact go_ret ⟨rfl, rfl, rfl⟩
    refine s_nx ?_
    refine s_if ?_
    refine x_tB ?_
    refine x_bin ?_
    refine x_lc ?_
    refine x_iSeq ?_
    refine x_eq (e_N rfl) ?_
    refine x_it_fz (xs := x6.map PV.int) (FzV.of (kT PV.int) x6) rfl rfl ?_
    refine x_lcP (P := [.is ((kC_Forest .fz) a_forest), .is ((kL (ioF o1) (kO PV.int)) a_parents_here), .is ((kL (ioF o2) kS) a_kinds_here), .is (PV.int v1), .is ((kL .fz (kT PV.int)) v5), .is ((kT PV.int) x6), .is .emp]) (e := PV.int) (e' := PV.int) ⟨_, rfl, _, rfl, _, rfl, _, rfl, _, rfl, _, rfl, _, rfl, rfl⟩ (fun x14 r16 _ m17 => ?_) fun v18 r19 r19c m20 m20e => ?_
    · obtain ⟨_, rfl, _, rfl, _, rfl, _, rfl, _, rfl, _, rfl, _, rfl, rfl⟩ := m17
      refine lc_tg (tg_N rfl rfl) ?_
      refine x_eq (t_not (t_tB (e_ch (e_un e_C rfl) (e_N rfl) e_C rfl rfl) rfl)) ?_
      refine x_ite ?_ ?_
      · refine x_eq (e_N rfl) ?_
        refine lc_fz (FzV.of PV.int x14) rfl ⟨rfl, ⟨_, rfl, _, rfl, _, rfl, _, rfl, _, rfl, _, rfl, _, rfl, rfl⟩⟩
      exact x_done ⟨rfl, ⟨_, rfl, _, rfl, _, rfl, _, rfl, _, rfl, _, rfl, _, rfl, rfl⟩⟩
    obtain ⟨_, rfl, _, rfl, _, rfl, _, rfl, _, rfl, _, rfl, _, rfl, rfl⟩ := m20
    obtain rfl : ([((kC_Forest .fz) a_forest), ((kL (ioF o1) (kO PV.int)) a_parents_here), ((kL (ioF o2) kS) a_kinds_here), (PV.int v1), ((kL .fz (kT PV.int)) v5), ((kT PV.int) x6), j12v] : List PV) = r19c := m20e
    refine x_eq (e_lst e_nil .nil (Nat.le_of_ble_eq_true rfl) (c := ((kL .ow PV.int) ([] : List Int))) rfl) ?_
    refine x_o (neD (kL .ow PV.int) (kL .ow PV.int) v18 ([] : (List Int))) ?_
    refine x_ofB rfl ?_
    refine x_ite ?_ ?_
    · refine s_ret ?_
      refine x_eq e_C ?_
      exact go_ret ⟨rfl, rfl, rfl⟩
    refine s_nx ?_
    exact x_done ⟨.inl rfl, ⟨_, rfl, _, rfl, _, rfl, _, rfl, _, rfl, _, _, rfl, rfl, _, _, rfl, j12, rfl⟩⟩
  · obtain ⟨_, rfl, _, rfl, _, rfl, _, rfl, _, rfl, j24v, _, rfl, j24, j25v, _, rfl, j25, rfl⟩ := m23
    refine s_ret ?_
    refine x_call ?_
    refine x_eq (e_cons (e_N rfl) (e_cons (e_N rfl) (e_cons (e_fn (e_cons (e_N rfl) e_nil) (c := ((kL .ow (kT PV.int)) v5)) rfl) e_nil))) ?_
    refine x_callR (ok_own rfl (ok_own rfl (ok_tm ok_nil))) (sim__law_needs_all a_parents_here a_kinds_here v5 (ioF o1) (ioF o2) .ow) (bk_ro rfl rfl (bk_ro rfl rfl (bk_tm bk_nil))) ⟨rfl, rfl⟩ fun v26 => ?_
    exact fn_ret ⟨rfl, rfl, rfl⟩
  exact fn_ret q30
set_option maxHeartbeats 1000000 in
theorem sim_law (a_script : (List Int)) : FS (F_law [(PV.scr a_script)]) (t_law_v15 a_script) (fun b => PV.bl b) (fun b => [(PV.scr a_script)]) (fun fn => fn = [(PV.scr a_script)]) := by
  refine fs_run (E := fun r => True) (rq := (fun (b : Bool) w r => w = PV.bl b)) (ρ0 := [(PV.scr a_script), .emp, .emp, .emp, .emp, .emp, .emp, .emp, .emp, .emp]) rfl (ar_fz (FzV.of PV.scr a_script) ar_nil) rfl ?_ (fun b w r h => ⟨h, (ex_fz (FzV.of PV.scr a_script) ex_nil)⟩) (fun r h => ⟨_, (ex_fz (FzV.of PV.scr a_script) ex_nil), rfl⟩)
  unfold t_law_v15
  refine s_last ?_
  refine s_assoc ?_
  refine s_set ?_
  refine x_call ?_
  refine x_eq (e_cons (e_N rfl) (e_cons e_C e_nil)) ?_
  refine x_callR (ok_fz (FzV.of PV.scr a_script) rfl (ok_tm ok_nil)) (sim__law_tape a_script (0 : Int)) (bk_fz (FzV.of PV.scr a_script) rfl (bk_tm bk_nil)) trivial fun v1 => ?_
  refine x_set_tm rfl rfl ?_
  refine s_rho (ρ1 := ([(PV.scr a_script), ((kQ2 .ow PV.int PV.int) v1), .emp, .emp, .emp, .emp, .emp, .emp, .emp, .emp] : List PV)) rfl ?_
  refine s_assoc ?_
  refine s_set ?_
  refine x_call ?_
  refine x_acons ?_
  refine x_eq (e_N rfl) ?_
  refine x_acons ?_
  refine x_call ?_
  refine x_eq (e_cons (e_N rfl) e_nil) ?_
  refine x_callM (ok_own rfl ok_nil) (sim__law_fields v1 .ow (by decide)) (fun v2 => (bk_mut (z' := (kQ2 .ow PV.int PV.int) v2.2) rfl rfl rfl bk_nil)) (fun z0 => (bk_mut rfl rfl rfl bk_nil)) (fun z0 => trivial) fun v2 => ?_
  refine x_anil ?_
  refine x_callM (ok_own rfl (ok_tm ok_nil)) (sim__law_parents v2.2 v2.1 .ow (by decide)) (fun v3 => (bk_mut (z' := (kQ2 .ow PV.int PV.int) v3.2) rfl rfl rfl (bk_tm bk_nil))) (fun z0 => (bk_mut rfl rfl rfl (bk_tm bk_nil))) (fun z0 => trivial) fun v3 => ?_
  refine x_set_tm rfl rfl ?_
  refine s_rho (ρ1 := ([(PV.scr a_script), ((kQ2 .ow PV.int PV.int) v3.2), ((kL .ow (kO PV.int)) v3.1), .emp, .emp, .emp, .emp, .emp, .emp, .emp] : List PV)) rfl ?_
  refine s_assoc ?_
  refine s_set ?_
  refine x_call ?_
  refine x_acons ?_
  refine x_call ?_
  refine x_eq (e_cons (e_N rfl) (e_cons e_C e_nil)) ?_
  refine x_callR (ok_fz (FzV.of PV.scr a_script) rfl (ok_tm ok_nil)) (sim__law_tape a_script (1 : Int)) (bk_fz (FzV.of PV.scr a_script) rfl (bk_tm bk_nil)) trivial fun v4 => ?_
  refine x_acons ?_
  refine x_eq (e_N rfl) ?_
  refine x_acons ?_
  refine x_eq e_C ?_
  refine x_anil ?_
  refine x_callM (ok_tm (ok_own rfl (ok_tm ok_nil))) (sim__law_kinds v4 v3.1 false .ow (by decide) .ow) (fun v5 => (bk_tm (bk_ro rfl rfl (bk_tm bk_nil)))) (fun z0 => (bk_tm (bk_ro rfl rfl (bk_tm bk_nil)))) (fun z0 => trivial) fun v5 => ?_
  refine x_set_tm rfl rfl ?_
  refine s_rho (ρ1 := ([(PV.scr a_script), ((kQ2 .ow PV.int PV.int) v3.2), ((kL .ow (kO PV.int)) v3.1), ((kL .ow kS) v5.1), .emp, .emp, .emp, .emp, .emp, .emp] : List PV)) rfl ?_
  refine s_assoc ?_
  refine s_set ?_
  refine x_call ?_
  refine x_acons ?_
  refine x_call ?_
  refine x_eq (e_cons (e_N rfl) (e_cons e_C e_nil)) ?_
  refine x_callR (ok_fz (FzV.of PV.scr a_script) rfl (ok_tm ok_nil)) (sim__law_tape a_script (2 : Int)) (bk_fz (FzV.of PV.scr a_script) rfl (bk_tm bk_nil)) trivial fun v6 => ?_
  refine x_acons ?_
  refine x_eq (e_N rfl) ?_
  refine x_acons ?_
  refine x_eq e_C ?_
  refine x_anil ?_
  refine x_callM (ok_tm (ok_own rfl (ok_tm ok_nil))) (sim__law_kinds v6 v3.1 false .ow (by decide) .ow) (fun v7 => (bk_tm (bk_ro rfl rfl (bk_tm bk_nil)))) (fun z0 => (bk_tm (bk_ro rfl rfl (bk_tm bk_nil)))) (fun z0 => trivial) fun v7 => ?_
  refine x_set_tm rfl rfl ?_
  refine s_rho (ρ1 := ([(PV.scr a_script), ((kQ2 .ow PV.int PV.int) v3.2), ((kL .ow (kO PV.int)) v3.1), ((kL .ow kS) v5.1), ((kL .ow kS) v7.1), .emp, .emp, .emp, .emp, .emp] : List PV)) rfl ?_
  refine s_assoc ?_
  refine s_set ?_
  refine x_make ?_
  refine x_eq (e_cons (e_fn (e_cons (e_N rfl) e_nil) (c := ((kL .ow (kO PV.int)) v3.1)) rfl) (e_cons (e_fn (e_cons (e_N rfl) e_nil) (c := ((kL .ow kS) v5.1)) rfl) e_nil)) ?_
  refine x_makeE (ok_tm (ok_tm ok_nil)) (sim_Forest____init__ v3.1 v5.1 .ow .ow) (fun _ => (bk_tm (bk_tm bk_nil))) (fun _ _ => trivial) (v' := (kC_Forest .fz)) (fun _ => rfl) fun v8 _ => ?_
  refine x_set_tm rfl rfl ?_
  refine s_rho (ρ1 := ([(PV.scr a_script), ((kQ2 .ow PV.int PV.int) v3.2), ((kL .ow (kO PV.int)) v3.1), ((kL .ow kS) v5.1), ((kL .ow kS) v7.1), ((kC_Forest .fz) v8), .emp, .emp, .emp, .emp] : List PV)) rfl ?_
  refine s_assoc ?_
  refine s_set ?_
  refine x_make ?_
  refine x_eq (e_cons (e_fn (e_cons (e_N rfl) e_nil) (c := ((kL .ow (kO PV.int)) v3.1)) rfl) (e_cons (e_fn (e_cons (e_N rfl) e_nil) (c := ((kL .ow kS) v7.1)) rfl) e_nil)) ?_
  refine x_makeE (ok_tm (ok_tm ok_nil)) (sim_Forest____init__ v3.1 v7.1 .ow .ow) (fun _ => (bk_tm (bk_tm bk_nil))) (fun _ _ => trivial) (v' := (kC_Forest .fz)) (fun _ => rfl) fun v9 _ => ?_
  refine x_set_tm rfl rfl ?_
  refine s_rho (ρ1 := ([(PV.scr a_script), ((kQ2 .ow PV.int PV.int) v3.2), ((kL .ow (kO PV.int)) v3.1), ((kL .ow kS) v5.1), ((kL .ow kS) v7.1), ((kC_Forest .fz) v8), ((kC_Forest .fz) v9), .emp, .emp, .emp] : List PV)) rfl ?_
  refine s_assoc ?_
  refine s_if ?_
  refine x_tNot ?_
  refine x_tE ?_
  refine x_call ?_
  refine x_eq (e_cons (e_N rfl) (e_cons (e_N rfl) (e_cons (e_N rfl) e_nil))) ?_
  refine x_callR (ok_fz (FzV.of (kC_Forest .fz) v8) rfl (ok_own rfl (ok_own rfl ok_nil))) (sim__law_is_needy v8 v3.1 v5.1 .ow .ow) (bk_fz (FzV.of (kC_Forest .fz) v8) rfl (bk_ro rfl rfl (bk_ro rfl rfl bk_nil))) trivial fun v10 => ?_
  refine x_ofB rfl ?_
  refine x_ite ?_ ?_
  · refine s_ret ?_
    refine x_eq e_C ?_
    exact fn_ret rfl
  refine s_nx ?_
  refine s_assoc ?_
  refine s_set ?_
  refine x_call ?_
  refine x_eq (e_cons (e_N rfl) e_nil) ?_
  refine x_callR (ok_fz (FzV.of (kC_Forest .fz) v8) rfl ok_nil) (sim_needy_row v8) (bk_fz (FzV.of (kC_Forest .fz) v8) rfl bk_nil) trivial fun v11 => ?_
  refine x_set_tm rfl rfl ?_
  refine s_rho (ρ1 := ([(PV.scr a_script), ((kQ2 .ow PV.int PV.int) v3.2), ((kL .ow (kO PV.int)) v3.1), ((kL .ow kS) v5.1), ((kL .ow kS) v7.1), ((kC_Forest .fz) v8), ((kC_Forest .fz) v9), ((kL .ow (kT PV.int)) v11), .emp, .emp] : List PV)) rfl ?_
  refine s_assoc ?_
  refine s_set ?_
  refine x_fn ?_
  refine x_eq (e_cons (e_N rfl) e_nil) ?_
  refine x_p (os_repr (a := ((kL .fz (kT PV.int)) v11)) (by show dat ((kL .ow (kT PV.int)) v11) = dat ((kL .fz (kT PV.int)) v11); simp only [VT.kL, VT.kQ2, VT.kQ3, VT.kQ4, dat_lst])) nx_repr fun v12 _ => ?_
  refine x_set_tm rfl rfl ?_
  refine s_rho (ρ1 := ([(PV.scr a_script), ((kQ2 .ow PV.int PV.int) v3.2), ((kL .ow (kO PV.int)) v3.1), ((kL .ow kS) v5.1), ((kL .ow kS) v7.1), ((kC_Forest .fz) v8), ((kC_Forest .fz) v9), ((kL .ow (kT PV.int)) v11), (kS v12), .emp] : List PV)) rfl ?_
  refine s_assoc ?_
  refine s_E ?_
  refine x_mu ?_
  refine x_eq (e_N rfl) ?_
  refine x_muL (e := (kT PV.int)) (xs := v11) rfl ?_
  refine x_acons ?_
  refine x_eq e_C ?_
  refine x_acons ?_
  refine x_fn ?_
  refine x_acons ?_
  refine x_lc ?_
  refine x_iSeq ?_
  refine x_eq (e_N rfl) ?_
  refine x_it_sl (xs := v3.1.map (kO PV.int)) rfl rfl ?_
  refine x_lcP (P := [.is (PV.scr a_script), .is ((kQ2 .ow PV.int PV.int) v3.2), .is ((kL .fz (kO PV.int)) v3.1), .is ((kL .ow kS) v5.1), .is ((kL .ow kS) v7.1), .is ((kC_Forest .fz) v8), .is ((kC_Forest .fz) v9), .is ((kL .ow (kT PV.int)) v11), .is (kS v12), .is .emp]) (e := (kO PV.int)) (e' := PV.int) ⟨_, rfl, _, rfl, _, rfl, _, rfl, _, rfl, _, rfl, _, rfl, _, rfl, _, rfl, _, rfl, rfl⟩ (fun x13 r15 _ m16 => ?_) fun v17 r18 r18c m19 m19e => ?_
  · obtain ⟨_, rfl, _, rfl, _, rfl, _, rfl, _, rfl, _, rfl, _, rfl, _, rfl, _, rfl, _, rfl, rfl⟩ := m16
    refine lc_tg (tg_N rfl (FzV.of (kO PV.int) x13).io) ?_
    refine x_tYes ?_
    refine lc_yes ?_
    refine x_eq e_C ?_
    refine lc_tm rfl ⟨rfl, ⟨_, rfl, _, rfl, _, rfl, _, rfl, _, rfl, _, rfl, _, rfl, _, rfl, _, rfl, _, rfl, rfl⟩⟩
  obtain ⟨_, rfl, _, rfl, _, rfl, _, rfl, _, rfl, _, rfl, _, rfl, _, rfl, _, rfl, _, rfl, rfl⟩ := m19
  obtain rfl : ([(PV.scr a_script), ((kQ2 .ow PV.int PV.int) v3.2), ((kL .fz (kO PV.int)) v3.1), ((kL .ow kS) v5.1), ((kL .ow kS) v7.1), ((kC_Forest .fz) v8), ((kC_Forest .fz) v9), ((kL .ow (kT PV.int)) v11), (kS v12), .emp] : List PV) = r18c := m19e
  refine x_anil ?_
  refine x_o (c := ((kT PV.int) v17)) rfl ?_
  refine x_anil ?_
  refine x_ins (o := .ow) (e := (kT PV.int)) (xs := v11) (v := v17) (.tm rfl (.tm rfl .nil)) rfl (by decide) fun v20 => ?_
  refine s_rho (ρ1 := ([(PV.scr a_script), ((kQ2 .ow PV.int PV.int) v3.2), ((kL .fz (kO PV.int)) v3.1), ((kL .ow kS) v5.1), ((kL .ow kS) v7.1), ((kC_Forest .fz) v8), ((kC_Forest .fz) v9), ((kL .ow (kT PV.int)) v20), (kS v12), .emp] : List PV)) rfl ?_
  refine s_assoc ?_
  refine s_E ?_
  refine x_mu ?_
  refine x_eq (e_N rfl) ?_
  refine x_muL (e := (kT PV.int)) (xs := v20) rfl ?_
  refine x_acons ?_
  refine x_fn ?_
  refine x_acons ?_
  refine x_lc ?_
  refine x_iSeq ?_
  refine x_eq (e_N rfl) ?_
  refine x_it_fz (xs := v3.1.map (kO PV.int)) (FzV.of (kL .fz (kO PV.int)) v3.1) rfl rfl ?_
  refine x_lcP (P := [.is (PV.scr a_script), .is ((kQ2 .ow PV.int PV.int) v3.2), .is ((kL .fz (kO PV.int)) v3.1), .is ((kL .ow kS) v5.1), .is ((kL .ow kS) v7.1), .is ((kC_Forest .fz) v8), .is ((kC_Forest .fz) v9), .is ((kL .ow (kT PV.int)) v20), .is (kS v12), .is .emp]) (e := (kO PV.int)) (e' := PV.int) ⟨_, rfl, _, rfl, _, rfl, _, rfl, _, rfl, _, rfl, _, rfl, _, rfl, _, rfl, _, rfl, rfl⟩ (fun x21 r23 _ m24 => ?_) fun v25 r26 r26c m27 m27e => ?_
  · obtain ⟨_, rfl, _, rfl, _, rfl, _, rfl, _, rfl, _, rfl, _, rfl, _, rfl, _, rfl, _, rfl, rfl⟩ := m24
    refine lc_tg (tg_N rfl (FzV.of (kO PV.int) x21).io) ?_
    refine x_tYes ?_
    refine lc_yes ?_
    refine x_eq e_C ?_
    refine lc_tm rfl ⟨rfl, ⟨_, rfl, _, rfl, _, rfl, _, rfl, _, rfl, _, rfl, _, rfl, _, rfl, _, rfl, _, rfl, rfl⟩⟩
  obtain ⟨_, rfl, _, rfl, _, rfl, _, rfl, _, rfl, _, rfl, _, rfl, _, rfl, _, rfl, _, rfl, rfl⟩ := m27
  obtain rfl : ([(PV.scr a_script), ((kQ2 .ow PV.int PV.int) v3.2), ((kL .fz (kO PV.int)) v3.1), ((kL .ow kS) v5.1), ((kL .ow kS) v7.1), ((kC_Forest .fz) v8), ((kC_Forest .fz) v9), ((kL .ow (kT PV.int)) v20), (kS v12), .emp] : List PV) = r26c := m27e
  refine x_anil ?_
  refine x_o (c := ((kT PV.int) v25)) rfl ?_
  refine x_anil ?_
  refine x_app (o := .ow) (e := (kT PV.int)) (xs := v20) (v := v25) (.tm rfl .nil) rfl (by decide) fun v28 => ?_
  refine s_rho (ρ1 := ([(PV.scr a_script), ((kQ2 .ow PV.int PV.int) v3.2), ((kL .fz (kO PV.int)) v3.1), ((kL .ow kS) v5.1), ((kL .ow kS) v7.1), ((kC_Forest .fz) v8), ((kC_Forest .fz) v9), ((kL .ow (kT PV.int)) v28), (kS v12), .emp] : List PV)) rfl ?_
  refine s_assoc ?_
  refine s_if ?_
  refine x_tNot ?_
  refine x_tE ?_
  refine x_call ?_
  refine x_eq (e_cons (e_N rfl) (e_cons (e_N rfl) (e_cons (e_N rfl) e_nil))) ?_
  refine x_callR (ok_fz (FzV.of (kC_Forest .fz) v9) rfl (ok_fz (FzV.of (kL .fz (kO PV.int)) v3.1) rfl (ok_own rfl ok_nil))) (sim__law_is_needy v9 v3.1 v7.1 .fz .ow) (bk_fz (FzV.of (kC_Forest .fz) v9) rfl (bk_fz (FzV.of (kL .fz (kO PV.int)) v3.1) rfl (bk_ro rfl rfl bk_nil))) trivial fun v29 => ?_
  refine x_ofB rfl ?_
  refine x_ite ?_ ?_
  · refine s_ret ?_
    refine x_eq e_C ?_
    exact fn_ret rfl
  refine s_nx ?_
  refine s_assoc ?_
  refine s_if ?_
  refine x_eq (t_or (t_tB (e_bin (e_un (e_N rfl) (at_ok (c := ((kT (kO PV.int)) v8.parents)) rfl)) (e_fn (e_cons (e_N rfl) e_nil) (c := ((kT (kO PV.int)) v3.1)) rfl) (neD (kT (kO PV.int)) (kT (kO PV.int)) v8.parents v3.1)) rfl) (t_tB (e_bin (e_un (e_N rfl) (at_ok (c := ((kT kS) v8.kinds)) rfl)) (e_fn (e_cons (e_N rfl) e_nil) (c := ((kT kS) v5.1)) rfl) (neD (kT kS) (kT kS) v8.kinds v5.1)) rfl)) ?_
  refine x_ite ?_ ?_
  · refine s_ret ?_
    refine x_eq e_C ?_
    exact fn_ret rfl
  refine s_nx ?_
  refine s_ret ?_
  refine x_and ?_
  refine x_bin ?_
  refine x_fn ?_
  refine x_acons ?_
  refine x_call ?_
  refine x_eq (e_cons (e_N rfl) e_nil) ?_
  refine x_callR (ok_fz (FzV.of (kC_Forest .fz) v8) rfl ok_nil) (sim_needy_row v8) (bk_fz (FzV.of (kC_Forest .fz) v8) rfl bk_nil) trivial fun v30 => ?_
  refine x_anil ?_
  refine x_p (os_repr (a := ((kL .fz (kT PV.int)) v30)) (by show dat ((kL .ow (kT PV.int)) v30) = dat ((kL .fz (kT PV.int)) v30); simp only [VT.kL, VT.kQ2, VT.kQ3, VT.kQ4, dat_lst])) nx_repr fun v31 _ => ?_
  refine x_eq (e_N rfl) ?_
  refine x_o (eqD kS kS v31 v12) ?_
  refine x_ofB rfl ?_
  refine x_dup ?_ ?_
  · refine x_call ?_
    refine x_eq (e_cons (e_N rfl) (e_cons (e_N rfl) (e_cons (e_N rfl) e_nil))) ?_
    refine x_callR (ok_fz (FzV.of (kC_Forest .fz) v8) rfl (ok_fz (FzV.of (kL .fz (kO PV.int)) v3.1) rfl (ok_own rfl ok_nil))) (sim__law_is_needy v8 v3.1 v5.1 .fz .ow) (bk_fz (FzV.of (kC_Forest .fz) v8) rfl (bk_fz (FzV.of (kL .fz (kO PV.int)) v3.1) rfl (bk_ro rfl rfl bk_nil))) trivial fun v32 => ?_
    exact fn_ret rfl
  exact fn_ret rfl
end Law
set_option linter.all false
set_option maxRecDepth 100000
set_option Elab.async false
namespace Law
open VL VT PySem
open My (par Acy path par_lt par_get par_mem mem_par par_set path_root path_step path_len path_lt path_self acy_of eraseIdx_perm eraseIdx_map)
def oI : Option Nat → Option Int
  | none => none
  | some n => some (n : Int)
@[simp] theorem oI_none : oI none = none := rfl
@[simp] theorem oI_some (n : Nat) : oI (some n) = some (n : Int) := rfl
def nI (l : List Nat) : List Int := l.map fun i : Nat => (i : Int)
@[simp] theorem nI_len (l : List Nat) : (nI l).length = l.length := by simp [nI]
@[simp] theorem nI_cons (a : Nat) (l : List Nat) : nI (a :: l) = (a : Int) :: nI l := rfl
theorem mem_oI {ps : List (Option Nat)} {i : Nat} : some (i : Int) ∈ ps.map oI ↔ some i ∈ ps := by
  rw [List.mem_map]
  constructor
  · rintro ⟨x, hx, e⟩
    cases x with
    | none => cases e
    | some j =>
      have : (j : Int) = i := by simpa using e
      have : j = i := by omega
      exact this ▸ hx
  · exact fun h => ⟨_, h, rfl⟩
theorem par_tix {ps : List (Option Nat)} {i : Nat} (h : i < ps.length) : tix (ps.map oI) (i : Int) = .ok (oI (par ps i)) := tix_n (by rw [List.getElem?_map, par_get h]; rfl)
theorem tenum_mem {α : Type} {xs : List α} {x : Int × α} (h : x ∈ tenum xs) : ∃ i : Nat, x.1 = (i : Int) ∧ xs[i]? = some x.2 := by
  unfold tenum at h
  obtain ⟨p, hp, rfl⟩ := List.mem_map.mp h
  exact ⟨p.2, rfl, by simpa using List.mem_zipIdx' hp |>.2 ▸ (List.getElem?_eq_getElem (List.mem_zipIdx' hp).1)⟩
theorem tfold_unit {α : Type} {L : List α} {b : Unit → α → TX Unit} (h : ∀ x ∈ L, b () x = .ok ()) : tfold L () b = .ok () := by
  rw [tfold_eq (f := fun _ _ => ()) (fun s x hx => h x hx)]
theorem mem_rg {n : Nat} {x : Int} (h : x ∈ (List.range n).map fun i : Nat => (i : Int)) : ∃ i : Nat, x = (i : Int) ∧ i < n := by
  obtain ⟨i, hi, rfl⟩ := List.mem_map.mp h
  exact ⟨i, rfl, List.mem_range.mp hi⟩
theorem th_tape (sc : List Int) (k : Int) (h0 : 0 ≤ k) : Ok (t__law_tape sc k) fun _ => True := by
  unfold t__law_tape
  split
  · rename_i h
    exact (tix_ok h0 (by simpa using h)).bind fun a _ => Ok.of trivial
  · exact Ok.of trivial
theorem th_take (t : Int × Int) (s : Int) (h : 0 < s) (h2 : s < 1073741824) : Ok (t__law_take t s) fun r => 0 ≤ r.1 ∧ r.1 < s := by
  unfold t__law_take
  split
  · simp only [tdiv_ok h h2, TX.bind_ok, tmod_ok h]
    exact ⟨_, rfl, Int.emod_nonneg _ (by omega), Int.emod_lt_of_pos _ h⟩
  · rw [tmul_l (by omega) (by omega), TX.bind_ok, tmul_l (by omega) (by omega), TX.bind_ok, tmod_ok h, TX.bind_ok]
    exact ⟨_, rfl, Int.emod_nonneg _ (by omega), Int.emod_lt_of_pos _ h⟩
theorem th_turns (t : Int × Int) (n : Nat) (hn : n ≤ 1000) : Ok (t__law_turns t n) fun r => ∃ ts : List Nat, r.1 = nI ts ∧ ts.length = n ∧ ts.Nodup ∧ ∀ x ∈ ts, x < n := by
  unfold t__law_turns
  rw [trg_nat (by unfold lim; omega)]
  simp only [TX.bind_ok]
  refine Ok.bind (tfold_rg (fun k s => ∃ left ts : List Nat, s.2.1 = nI left ∧ s.2.2 = nI ts ∧ (ts ++ left).Perm (List.range n) ∧ ts.length = k) ⟨List.range n, [], rfl, rfl, .refl _, rfl⟩ ?_) fun s h => ?_
  · rintro k ⟨t, l, tt⟩ hk ⟨left, ts, rfl, rfl, hp, hl⟩
    have hlen : ts.length + left.length = n := by have := hp.length_eq; simpa using this
    refine (th_take t ((nI left).length : Int) (by rw [nI_len]; omega) (by rw [nI_len]; omega)).bind fun v9 h9 => ?_
    rw [nI_len] at h9
    obtain ⟨j, hj⟩ := Int.eq_ofNat_of_zero_le h9.1
    have hj2 : j < left.length := by omega
    rw [hj]
    simp only [Int.ofNat_eq_natCast]
    rw [tpop_n (by unfold lim; omega) (by simpa using hj2), TX.bind_ok, tapp_ok (by simp [lim]; omega), TX.bind_ok]
    refine Ok.of ⟨left.eraseIdx j, ts ++ [left[j]], ?_, ?_, ?_, by simp [hl]⟩
    · unfold nI; rw [eraseIdx_map]
    · simp [nI]
    · refine List.Perm.trans ?_ hp
      rw [List.append_assoc]
      exact (eraseIdx_perm hj2).append_left ts
  · obtain ⟨left, ts, h1, h2, hp, hl⟩ := h
    have hlen : ts.length + left.length = n := by have := hp.length_eq; simpa using this
    have : left = [] := List.length_eq_zero_iff.mp (by omega)
    subst this
    simp only [List.append_nil] at hp
    exact Ok.of ⟨ts, h2, hl, hp.nodup_iff.mpr List.nodup_range, fun x hx => List.mem_range.mp (hp.mem_iff.mp hx)⟩
theorem tfold_rg1 {σ : Type} {n : Nat} {s : σ} {b : σ → Int → TX σ} (hn : 1 ≤ n) (hl : n ≤ lim) (I : σ → Prop) (h0 : I s)
    (step : ∀ (k : Nat) s, 1 ≤ k → k < n → I s → Ok (b s k) I) : Ok ((trg 1 (n : Int)).bind fun v => tfold v s b) I := by
  rw [trg_ok (by decide) (by simpa using hl), TX.bind_ok]
  refine tfold_inv (fun _ => I) h0 fun A x B s e h => ?_
  have hx : x ∈ rgI 1 (n : Int) := by rw [e]; simp
  unfold rgI at hx
  obtain ⟨i, hi, rfl⟩ := List.mem_map.mp hx
  have := List.mem_range.mp hi
  have e2 : (1 : Int) + (i : Int) = ((1 + i : Nat) : Int) := by omega
  rw [e2]
  exact step (1 + i) s (by omega) (by omega) h
theorem th_parents (t : Int × Int) (n : Nat) (hn1 : 1 ≤ n) (hn : n ≤ 1000) : Ok (t__law_parents t n) fun r => ∃ ps : List (Option Nat), r.1 = ps.map oI ∧ ps.length = n ∧ Acy ps := by
  unfold t__law_parents
  refine (th_turns t n hn).bind fun v1 h1 => ?_
  obtain ⟨ts, e1, lt, nd, hm⟩ := h1
  refine (th_take _ 4 (by decide) (by decide)).bind fun v2 h2 => ?_
  rw [trg_nat (by unfold lim; omega), TX.bind_ok, tlcP_map (f := fun _ => (none : Option Int)) (by simp [lim]; omega) (fun x _ => rfl), TX.bind_ok, ← TX.bind_assoc]
  rw [e1]
  refine Ok.bind (tfold_rg1 hn1 (by unfold lim; omega) (fun s => ∃ ps : List (Option Nat), s.2 = ps.map oI ∧ ps.length = n ∧ ∀ i p : Nat, par ps i = some p → ∃ a b : Nat, a < b ∧ ts[a]? = some p ∧ ts[b]? = some i) ?_ ?_) fun s h => ?_
  · refine ⟨List.replicate n none, ?_, by simp, fun i p h => ?_⟩
    · simp only [List.map_map, List.map_replicate]
      exact List.ext_getElem (by simp) (by simp)
    · unfold par at h
      rw [List.getElem?_replicate] at h
      split at h <;> cases h
  · rintro i ⟨t, l⟩ i1 i2 ⟨ps, rfl, lp, hp⟩
    refine (th_take _ _ (by omega) (by omega)).bind fun v19 h19 => ?_
    have key : ∀ pk : Int, 0 ≤ pk → pk ≤ i → Ok (if (decide ((0 : Int) < pk)) = true then (
        TX.bind (tix (nI ts) (pk - (1 : Int))) fun v26 =>
        TX.bind (tix (nI ts) (i : Int)) fun v27 =>
        TX.bind (tset (ps.map oI) v27 (some v26)) fun v28 =>
        .ok v28) else (
        .ok (ps.map oI))) fun r => ∃ ps : List (Option Nat), r = ps.map oI ∧ ps.length = n ∧ ∀ i p : Nat, par ps i = some p → ∃ a b : Nat, a < b ∧ ts[a]? = some p ∧ ts[b]? = some i := by
      intro pk p0 p1
      split
      · rename_i hpk
        have hpk : 0 < pk := by simpa using hpk
        obtain ⟨a, ha⟩ : ∃ a, ts[(pk - 1).toNat]? = some a := ⟨_, List.getElem?_eq_getElem (by omega)⟩
        obtain ⟨b, hb⟩ : ∃ b, ts[i]? = some b := ⟨_, List.getElem?_eq_getElem (by omega)⟩
        have hbn : b < n := hm b (List.mem_of_getElem? hb)
        rw [tix_i (a := (a : Int)) (by omega) (by unfold nI; rw [List.getElem?_map, ha]; rfl), TX.bind_ok, tix_n (a := (b : Int)) (by unfold nI; rw [List.getElem?_map, hb]; rfl), TX.bind_ok, tset_n (by simpa [lp] using hbn), TX.bind_ok]
        refine Ok.of ⟨ps.set b (some a), by rw [List.map_set]; rfl, by simpa using lp, fun j p hj => ?_⟩
        rw [par_set (by omega)] at hj
        split at hj
        · rename_i ej
          subst ej
          cases hj
          exact ⟨_, _, by omega, ha, hb⟩
        · exact hp j p hj
      · exact Ok.of ⟨ps, rfl, lp, hp⟩
    have pick : Ok (if (teq v2.1 (0 : Int)) = true then (.ok (i : Int)) else (.ok v19.1)) fun r => 0 ≤ r ∧ r ≤ i := by
      split
      · exact Ok.of ⟨by omega, by omega⟩
      · exact Ok.of ⟨by omega, by omega⟩
    refine pick.bind fun s20 h20 => ?_
    have pick2 : Ok (if (teq v2.1 (1 : Int)) = true then (.ok (0 : Int)) else (.ok s20)) fun r => 0 ≤ r ∧ r ≤ i := by
      split
      · exact Ok.of ⟨by omega, by omega⟩
      · exact Ok.of ⟨by omega, by omega⟩
    refine pick2.bind fun s23 h23 => ?_
    exact (key s23 h23.1 h23.2).bind fun r hr => Ok.of hr
  · obtain ⟨ps, e, lp, hp⟩ := h
    exact Ok.of ⟨ps, e, lp, acy_of nd (by omega) (by rw [lp]; exact hm) hp⟩
/-- the four words -/
def w4 (k : OS) : Prop := k = lit "up" ∨ k = lit "down" ∨ k = lit "first" ∨ k = lit "last"
structure KOk (ps : List (Option Nat)) (ks : List OS) : Prop where
  len : ks.length = ps.length
  four : ∀ k ∈ ks, w4 k
  leaf : ∀ (i : Nat) (k : OS), ks[i]? = some k → k ≠ lit "up" → k ≠ lit "down" → some i ∉ ps
theorem th_kinds (t : Int × Int) (ps : List (Option Nat)) (fair : Bool) (hn : ps.length ≤ 1000) : Ok (t__law_kinds t (ps.map oI) fair) fun r => KOk ps r.1 := by
  unfold t__law_kinds
  rw [List.length_map, trg_nat (by unfold lim; omega), TX.bind_ok]
  refine Ok.bind (tfold_rg (fun k s => s.2.length = k ∧ (∀ x ∈ s.2, w4 x) ∧ ∀ (i : Nat) (x : OS), s.2[i]? = some x → x ≠ lit "up" → x ≠ lit "down" → some i ∉ ps) ⟨rfl, by simp, by simp⟩ ?_) fun s h => Ok.of ⟨h.1, h.2.1, h.2.2⟩
  rintro k ⟨t, ks⟩ hk ⟨rfl, h4, hl⟩
  refine (th_take _ 4 (by decide) (by decide)).bind fun v9 h9 => ?_
  have pick : Ok (if (fair || (tmem (some (ks.length : Int)) (ps.map oI))) = true then (TX.ok (v9.1 % (2 : Int))) else (.ok v9.1)) fun r => 0 ≤ r ∧ r < 4 ∧ (some ks.length ∈ ps → r < 2) := by
    split
    · exact Ok.of ⟨by omega, by omega, fun _ => by omega⟩
    · rename_i hb
      refine Ok.of ⟨by omega, by omega, fun hm => absurd ?_ hb⟩
      simp only [Bool.or_eq_true, tmem_iff]
      exact .inr (mem_oI.mpr hm)
  refine pick.bind fun s10 h10 => ?_
  obtain ⟨p0, p1, p2⟩ := h10
  have four : ∃ w : OS, tix [(lit "up"), (lit "down"), (lit "first"), (lit "last")] s10 = .ok w ∧ w4 w ∧ (s10 < 2 → w = lit "up" ∨ w = lit "down") := by
    have : s10 = 0 ∨ s10 = 1 ∨ s10 = 2 ∨ s10 = 3 := by omega
    rcases this with rfl | rfl | rfl | rfl
    · exact ⟨_, tix_zero _ _, .inl rfl, fun _ => .inl rfl⟩
    · exact ⟨_, tix_one _ _ _, .inr (.inl rfl), fun _ => .inr rfl⟩
    · exact ⟨_, tix_two _ _ _ _, .inr (.inr (.inl rfl)), fun h => by omega⟩
    · exact ⟨_, tix_three _ _ _ _ _, .inr (.inr (.inr rfl)), fun h => by omega⟩
  obtain ⟨w, e, w1, w2⟩ := four
  rw [e, TX.bind_ok, tapp_ok (by show ks.length < lim; have hk : ks.length < ps.length := hk; unfold lim; omega), TX.bind_ok]
  refine Ok.of ⟨by simp, fun x hx => ?_, fun i x hx n1 n2 hm => ?_⟩
  · rcases List.mem_append.mp hx with hx | hx
    · exact h4 x hx
    · rw [List.mem_singleton.mp hx]; exact w1
  · by_cases hi : i < ks.length
    · rw [List.getElem?_append_left hi] at hx
      exact hl i x hx n1 n2 hm
    · have : i = ks.length := by
        have := (List.getElem?_eq_some_iff.mp hx).1
        simp at this
        omega
      subst this
      simp at hx
      subst hx
      rcases w2 (p2 hm) with q | q
      · exact n1 q
      · exact n2 q
theorem th_way (ps : List (Option Nat)) (i : Nat) (ac : Acy ps) (hi : i < ps.length) : t_way_ends (ps.map oI) (i : Int) = .ok true := by
  obtain ⟨r, r1, r2⟩ := ac.rk
  have key : ∀ (L : List (Option Int)) (o : Option Nat), (∀ j, o = some j → j < ps.length ∧ r j < L.length) → 
      TX.bind (tfor L (oI o) fun s2 x1 =>
        if s2.isNone = true then (
        .ok (.rt true)) else (
        TX.bind (opt s2) fun v7 =>
        TX.bind (tix (ps.map oI) v7) fun v9 =>
        .ok (.nx v9))) (Go.elim (σ := ((Option Int))) (β := Bool) (fun s10 =>
        .ok s10.isNone) fun b14 => .ok b14) = .ok true := by
    intro L
    induction L with
    | nil =>
      intro o h
      cases o with
      | none => rfl
      | some j => exact absurd (h j rfl).2 (by simp)
    | cons x L ih =>
      intro o h
      cases o with
      | none => rfl
      | some j =>
        have hj := h j rfl
        rw [tfor_cons]
        simp only [oI_some, Option.isNone_some, Bool.false_eq_true, if_false, opt_some, TX.bind_ok, par_tix hj.1]
        refine ih (par ps j) fun q hq => ⟨ac.lt hq, ?_⟩
        have := r2 hq
        simp at hj
        omega
  unfold t_way_ends
  exact key _ (some i) fun j hj => by cases hj; exact ⟨hi, by simpa using r1 i hi⟩
structure FOk (ps : List (Option Nat)) (ks : List OS) : Prop where
  pos : 1 ≤ ps.length
  most : ps.length ≤ 16
  acy : Acy ps
  k : KOk ps ks
theorem th_check (ps : List (Option Nat)) (ks : List OS) (ok : FOk ps ks) : t_check_forest (ps.map oI) ks = .ok () := by
  have hl := ok.k.len
  have h1 := ok.pos
  have h2 := ok.most
  unfold t_check_forest
  rw [if_neg (by simp only [List.length_map, hl, teq_self, Bool.not_true, Bool.false_or, Bool.or_eq_true, decide_eq_true_eq]; omega)]
  rw [tfold_unit, TX.bind_ok, List.length_map, trg_nat (by unfold lim; omega), TX.bind_ok, tfold_unit, TX.bind_ok, tfold_unit, TX.bind_ok]
  · intro x hx
    obtain ⟨i, e1, e2⟩ := tenum_mem hx
    unfold t_is_ranked
    simp only [TX.bind_ok]
    by_cases q : x.2 = lit "up" ∨ x.2 = lit "down"
    · have : ((teq x.2 (lit "up")) || (teq x.2 (lit "down"))) = true := by simpa using q
      rw [this]
      rfl
    · have : ((teq x.2 (lit "up")) || (teq x.2 (lit "down"))) = false := by simpa using q
      rw [this, e1]
      simp only [Bool.not_false, if_true, TX.bind_ok]
      rw [if_neg]
      rw [tmem_iff, mem_oI]
      exact ok.k.leaf i x.2 e2 (fun z => q (.inl z)) (fun z => q (.inr z))
  · intro x hx
    obtain ⟨i, rfl, hi⟩ := mem_rg hx
    rw [th_way ps i ok.acy hi]
    rfl
  · intro x hx
    obtain ⟨i, e1, e2⟩ := tenum_mem hx
    rw [List.getElem?_map] at e2
    obtain ⟨o, ho, e3⟩ := Option.map_eq_some_iff.mp e2
    rw [← e3]
    cases o with
    | none => rfl
    | some p =>
      have hi := (List.getElem?_eq_some_iff.mp ho).1
      have hp : p < ps.length := ok.acy.lt (i := i) (by unfold par; rw [ho]; rfl)
      simp only [oI_some, Option.isSome_some, if_true, opt_some, TX.bind_ok, List.length_map]
      rw [if_neg (by simp), TX.bind_ok, TX.bind_ok, if_neg (by simp; omega)]
theorem th_init (ps : List (Option Nat)) (ks : List OS) (ok : FOk ps ks) : t_Forest____init__ (ps.map oI) ks = .ok ⟨(ps.length : Int), ps.map oI, ks⟩ := by
  unfold t_Forest____init__
  rw [th_check ps ks ok, TX.bind_ok, List.length_map]
theorem th_path (ps : List (Option Nat)) (i : Nat) (ac : Acy ps) (hn : ps.length ≤ 1000) (hi : i < ps.length) : t__law_path (ps.map oI) (i : Int) = .ok (nI (path ps i)) := by
  obtain ⟨r, r1, r2⟩ := ac.rk
  have ri := r1 i hi
  unfold t__law_path
  rw [List.length_map, trg_nat (by unfold lim; omega), TX.bind_ok]
  simp only [TX.bind_id]
  obtain ⟨s, e, j, rest, e2, e3, hj, h3, h4⟩ := tfold_rg (n := ps.length) (s := [(i : Int)]) (b := fun s3 x2 => (TX.bind (tix s3 (0 : Int)) fun v8 =>
    TX.bind (tix (ps.map oI) v8) fun v9 =>
    if v9.isSome = true then (
    TX.bind (tix s3 (0 : Int)) fun v10 =>
    TX.bind (tix (ps.map oI) v10) fun v11 =>
    TX.bind (opt v11) fun v12 =>
    (tins s3 (0 : Int) v12)) else (
    .ok s3))) (fun k s => ∃ (j : Nat) (rest : List Nat), s = nI (j :: rest) ∧ path ps i = path ps j ++ rest ∧ j < ps.length ∧ rest.length ≤ k ∧ (par ps j = none ∨ r j + k ≤ r i))
    ⟨i, [], rfl, by simp, hi, by simp, .inr (by omega)⟩ (by
      rintro k s hk ⟨j, rest, rfl, e3, hj, h3, h4⟩
      simp only [nI_cons, tix_zero, TX.bind_ok, par_tix hj]
      cases q : par ps j with
      | none => exact Ok.of ⟨j, rest, rfl, e3, hj, by omega, .inl q⟩
      | some p =>
        have := r2 q
        simp only [oI_some, Option.isSome_some, if_true, opt_some, TX.bind_ok]
        rw [tins_zero (by simp [lim]; omega)]
        refine Ok.of ⟨p, j :: rest, rfl, ?_, ac.lt q, by simp; omega, ?_⟩
        · rw [e3, path_step ac q]; simp
        · rcases h4 with h4 | h4
          · rw [h4] at q; cases q
          · exact .inr (by omega))
  rw [e, e2]
  rcases h4 with h4 | h4
  · rw [e3, path_root h4]; rfl
  · omega
theorem th_fpath (ps : List (Option Nat)) (i : Nat) (fo : O_Forest) (hf : fo.parents = ps.map oI) (ac : Acy ps) (hn : ps.length ≤ 900) (hi : i < ps.length) : t_Forest__path fo (i : Int) = .ok (nI (path ps i)) := by
  obtain ⟨r, r1, r2⟩ := ac.rk
  have ri := r1 i hi
  have key : ∀ (m j : Nat) (rest : List Nat), r j < m → j < ps.length → rest.length + r j ≤ 1000 → twh m (nI (j :: rest)) (fun s2 => TX.bind (tix s2 (0 : Int)) fun v6 =>
      TX.bind (tix fo.parents v6) fun v7 =>
      .ok v7.isSome) (fun s2 =>
      TX.bind (tix s2 (0 : Int)) fun v8 =>
      TX.bind (tix fo.parents v8) fun v9 =>
      TX.bind (opt v9) fun v10 =>
      TX.bind (tcat [v10] s2) fun v12 =>
      .ok (.nx v12)) = .ok (Go.nx (β := Empty) (nI (path ps j ++ rest))) := by
    intro m
    induction m with
    | zero => intro j rest h; omega
    | succ m ih =>
      intro j rest h1 h2 h3
      unfold twh
      simp only [nI_cons, tix_zero, TX.bind_ok, hf, par_tix h2]
      cases q : par ps j with
      | none =>
        simp only [oI_none, Option.isSome_none, Bool.false_eq_true, if_false]
        rw [path_root q]; rfl
      | some p =>
        have := r2 q
        simp only [oI_some, Option.isSome_some, if_true, opt_some, TX.bind_ok]
        rw [tcat_ok (by simp [lim]; omega)]
        have := ih p (j :: rest) (by omega) (ac.lt q) (by simp; omega)
        simp only [hf, nI_cons] at this
        rw [path_step ac q]
        simpa using this
  unfold t_Forest__path
  have := key 1000 i [] (by omega) hi (by simp; omega)
  simp only [nI_cons, List.append_nil] at this
  rw [show ([(i : Int)] : List Int) = (i : Int) :: nI [] from rfl, this]
  rfl
end Law
set_option linter.all false
set_option maxRecDepth 100000
set_option Elab.async false
namespace Law
open VL VT PySem
open My (par Acy path par_lt par_get par_mem mem_par par_set path_root path_step path_len path_lt path_self)
section
variable {α β : Type}
def fndG (g : α → β) : Option α → Go Unit β
  | some x => .rt (g x)
  | none => .nx ()
theorem tenum_eq (xs : List α) (d : α) : tenum xs = (List.range xs.length).map fun i : Nat => ((i : Int), xs.getD i d) := by
  refine List.ext_getElem (by simp [tenum]) fun i h1 h2 => ?_
  have : i < xs.length := by simpa [tenum] using h1
  simp [tenum, this]
theorem tix_at {xs : List α} {i : Nat} {d : α} (h : i < xs.length) : tix xs (i : Int) = .ok (xs.getD i d) := by
  rw [tix_lt h]; simp [List.getD, h]
end
@[simp] theorem mem_nI {l : List Nat} {x : Int} : x ∈ nI l ↔ ∃ i ∈ l, (i : Int) = x := by unfold nI; exact List.mem_map
/-- the first field of a list at which the records differ -/
def fd (xs ys : List Int) (js : List Nat) : Option Nat := js.find? fun j => !decide (xs.getD j 0 = ys.getD j 0)
/-- the newer value wins at this field -/
def newerK (k : OS) (x y : Int) : Bool := if k = lit "first" then false else if k = lit "last" then true else (decide (y < x)) != decide (k = lit "up")
def kd (ks : List OS) (d : Nat) : OS := ks.getD d (lit "up")
theorem kd_w4 {ks : List OS} (h : ∀ k ∈ ks, w4 k) (d : Nat) : w4 (kd ks d) := by
  unfold kd
  by_cases q : d < ks.length
  · rw [show ks.getD d (lit "up") = ks[d] from by simp [List.getD, q]]
    exact h _ (List.getElem_mem q)
  · rw [show ks.getD d (lit "up") = lit "up" from by simp [List.getD, Nat.le_of_not_lt q]]
    exact .inl rfl
def winD (ks : List OS) (xs ys : List Int) : Option Nat → Bool
  | none => false
  | some d => newerK (kd ks d) (xs.getD d 0) (ys.getD d 0)
def sideN (ps : List (Option Nat)) (ks : List OS) (xs ys : List Int) (f : Nat) : Bool := winD ks xs ys (fd xs ys (path ps f))
def mgA (ps : List (Option Nat)) (ks : List OS) (xs ys : List Int) (f : Nat) : Int := if sideN ps ks xs ys f = true then ys.getD f 0 else xs.getD f 0
def mg (ps : List (Option Nat)) (ks : List OS) (xs ys : List Int) : List Int := (List.range ps.length).map fun f => mgA ps ks xs ys f
theorem mg_len {ps : List (Option Nat)} {ks : List OS} {xs ys : List Int} : (mg ps ks xs ys).length = ps.length := by simp [mg]
theorem mg_at {ps : List (Option Nat)} {ks : List OS} {xs ys : List Int} {f : Nat} (h : f < ps.length) : (mg ps ks xs ys).getD f 0 = mgA ps ks xs ys f := by simp [mg, List.getD, h]
/-- a forest as the program holds it -/
def foO (ps : List (Option Nat)) (ks : List OS) : O_Forest := ⟨(ps.length : Int), ps.map oI, ks⟩
def wh (xs : List Int) (l : List (Option Int)) : List Int := (xs.zip l).map fun p => p.2.getD p.1
theorem path_pre {ps : List (Option Nat)} (ac : Acy ps) {g : Nat} : ∀ (n : Nat) (R : List Nat) {f : Nat} {P : List Nat}, R.length = n → path ps f = P ++ g :: R → path ps g = P ++ [g] := by
  intro n
  induction n with
  | zero =>
    intro R f P hR e
    have : R = [] := List.length_eq_zero_iff.mp hR
    subst this
    have : f = g := by
      cases q : par ps f with
      | none => rw [path_root q] at e; simpa using (List.append_inj' (s₁ := []) e rfl).2
      | some p => rw [path_step ac q] at e; simpa using (List.append_inj' e rfl).2
    subst this
    exact e
  | succ n ih =>
    intro R f P hR e
    have hne : R ≠ [] := by rintro rfl; cases hR
    obtain ⟨R', z, rfl⟩ : ∃ R' z, R = R' ++ [z] := ⟨R.dropLast, R.getLast hne, (List.dropLast_concat_getLast hne).symm⟩
    cases q : par ps f with
    | none =>
      rw [path_root q] at e
      have := congrArg List.length e
      simp at this
      omega
    | some p =>
      rw [path_step ac q] at e
      have e2 : path ps p ++ [f] = (P ++ g :: R') ++ [z] := by rw [e]; simp
      exact ih R' (by simpa using hR) (List.append_inj' e2 rfl).1
theorem fd_none {xs ys : List Int} {js : List Nat} (h : ∀ j ∈ js, xs.getD j 0 = ys.getD j 0) : fd xs ys js = none := by
  unfold fd
  rw [List.find?_eq_none]
  intro j hj
  simpa using h j hj
theorem fd_some {xs ys : List Int} {A B : List Nat} {d : Nat} (h : ∀ j ∈ A, xs.getD j 0 = ys.getD j 0) (hd : xs.getD d 0 ≠ ys.getD d 0) : fd xs ys (A ++ d :: B) = some d := by
  unfold fd
  rw [List.find?_append, show A.find? _ = none from fd_none h, List.find?_cons]
  simp only [Option.none_or]
  have : (!decide (xs.getD d 0 = ys.getD d 0)) = true := by simpa using hd
  rw [this]
theorem fd_cases {xs ys : List Int} {js : List Nat} : (fd xs ys js = none ∧ ∀ j ∈ js, xs.getD j 0 = ys.getD j 0) ∨ ∃ A d B, js = A ++ d :: B ∧ fd xs ys js = some d ∧ (∀ j ∈ A, xs.getD j 0 = ys.getD j 0) ∧ xs.getD d 0 ≠ ys.getD d 0 := by
  cases q : fd xs ys js with
  | none => exact .inl ⟨rfl, fun j hj => by simpa using (List.find?_eq_none.mp q) j hj⟩
  | some d =>
    obtain ⟨hp, A, B, e, hA⟩ := List.find?_eq_some_iff_append.mp q
    exact .inr ⟨A, d, B, e, rfl, fun j hj => by simpa using hA j hj, by simpa using hp⟩
/-- along a way the result is the newer record, or the older one -/
theorem mg_dich {ps : List (Option Nat)} {ks : List OS} {xs ys : List Int} (ac : Acy ps) (f : Nat) : (∀ g ∈ path ps f, mgA ps ks xs ys g = ys.getD g 0) ∨ (sideN ps ks xs ys f = false ∧ ∀ g ∈ path ps f, mgA ps ks xs ys g = xs.getD g 0) := by
  rcases fd_cases (xs := xs) (ys := ys) (js := path ps f) with ⟨q, h⟩ | ⟨A, d, B, e, q, h, hd⟩
  · left
    intro g hg
    unfold mgA
    split
    · rfl
    · exact h g hg
  · have inA : ∀ g ∈ A, mgA ps ks xs ys g = xs.getD g 0 := by
      intro g hg
      obtain ⟨P, R, eA⟩ := List.append_of_mem hg
      have := path_pre ac _ (R ++ d :: B) rfl (by rw [e, eA]; simp : path ps f = P ++ g :: (R ++ d :: B))
      unfold mgA sideN
      rw [this, fd_none (fun j hj => h j (by rw [eA]; have z : j ∈ P ∨ j = g := (by simpa using hj); rcases z with z | z <;> simp [z]))]
      rfl
    have inB : ∀ g ∈ d :: B, sideN ps ks xs ys g = newerK (kd ks d) (xs.getD d 0) (ys.getD d 0) := by
      intro g hg
      obtain ⟨P, R, eB⟩ := List.append_of_mem hg
      have e2 := path_pre ac _ R rfl (by rw [e, eB]; simp : path ps f = (A ++ P) ++ g :: R)
      have : ∃ T, path ps g = A ++ d :: T := by
        rw [e2]
        cases P with
        | nil => simp at eB; exact ⟨[], by rw [eB.1]; simp⟩
        | cons z P => simp at eB; exact ⟨P ++ [g], by rw [eB.1]; simp⟩
      obtain ⟨T, eT⟩ := this
      unfold sideN
      rw [eT, fd_some h hd]
      rfl
    have sf : sideN ps ks xs ys f = newerK (kd ks d) (xs.getD d 0) (ys.getD d 0) := by
      unfold sideN; rw [q]; rfl
    cases w : newerK (kd ks d) (xs.getD d 0) (ys.getD d 0) with
    | true =>
      left
      intro g hg
      rw [e] at hg
      rcases List.mem_append.mp hg with hg | hg
      · rw [inA g hg, h g hg]
      · unfold mgA; rw [inB g hg, w, if_pos rfl]
    | false =>
      right
      refine ⟨by rw [sf, w], fun g hg => ?_⟩
      rw [e] at hg
      rcases List.mem_append.mp hg with hg | hg
      · exact inA g hg
      · unfold mgA; rw [inB g hg, w, if_neg (by simp)]
end Law
set_option linter.all false
set_option maxRecDepth 100000
set_option Elab.async false
namespace Law
open VL VT PySem
open My (par Acy path par_lt par_get par_mem mem_par par_set path_root path_step path_len path_lt path_self)
section
variable {α β γ σ : Type}
theorem tfor_map {L : List γ} {f : γ → α} {b : Unit → α → TX (Go Unit β)} {p : γ → Bool} {g : γ → β} (h : ∀ x ∈ L, b () (f x) = .ok (if p x = true then .rt (g x) else .nx ())) : tfor (L.map f) () b = .ok (fndG g (L.find? p)) := by
  induction L with
  | nil => rfl
  | cons x L ih =>
    rw [List.map_cons, tfor_cons, h x List.mem_cons_self, TX.bind_ok, List.find?_cons]
    cases p x with
    | true => rfl
    | false => exact ih fun y hy => h y (List.mem_cons_of_mem _ hy)
theorem tfor_const {L : List α} {s : σ} {b : σ → α → TX (Go σ β)} (h : ∀ x ∈ L, b s x = .ok (.nx s)) : tfor L s b = .ok (.nx s) := by
  induction L with
  | nil => rfl
  | cons x L ih =>
    rw [tfor_cons, h x List.mem_cons_self, TX.bind_ok]
    exact ih fun y hy => h y (List.mem_cons_of_mem _ hy)
end
def rk (k : OS) : Bool := (teq k (lit "up")) || (teq k (lit "down"))
def ub (ks : List OS) : Option Nat := (List.range ks.length).find? fun i => !rk (kd ks i)
def pmiss (l : List (Option Int)) : Option Nat → Bool
  | some q => (l.getD q none).isNone
  | none => false
def lbad (ps : List (Option Nat)) (l : List (Option Int)) (i : Nat) : Bool := (l.getD i none).isSome && pmiss l (par ps i)
def lb (ps : List (Option Nat)) (l : List (Option Int)) : Option Nat := (List.range ps.length).find? (lbad ps l)
/-- what must be told -/
def due (ps : List (Option Nat)) (ks : List OS) (xs : List Int) (l : List (Option Int)) : Option (OS × (Int ⊕ List (Option Int))) :=
  match ub ks with
  | some i => some (lit "NotFair", .inl (i : Int))
  | none => if xs.length ≠ ps.length then some (lit "BadRecord", .inr (xs.map fun z : Int => some z)) else if l.length ≠ ps.length then some (lit "BadRecord", .inr l) else
    match lb ps l with
    | some i => some (lit "BadLetter", .inl (i : Int))
    | none => none
def told (ps : List (Option Nat)) (ks : List OS) (xs : List Int) (l : List (Option Int)) : List (List Int) ⊕ List (OS × (Int ⊕ List (Option Int))) :=
  match due ps ks xs l with
  | some r => .inr [r]
  | none => .inl [mg ps ks xs (wh xs l)]
end Law
set_option linter.all false
set_option maxRecDepth 100000
set_option Elab.async false
namespace Law
open VL VT PySem
open My (par Acy path par_lt par_get par_mem mem_par par_set path_root path_step path_len path_lt path_self)
theorem teq_xor : ∀ a b : Bool, (!teq a b) = (a != b) := by decide
theorem th_side2 (ps : List (Option Nat)) (ks : List OS) (f : Nat) (xs ys : List Int) (ok : FOk ps ks) (hf : f < ps.length) (h1 : xs.length = ps.length) (h2 : ys.length = ps.length) : t__law_side_v2 (ps.map oI) ks (f : Int) xs ys = .ok (b2i (sideN ps ks xs ys f)) := by
  have hn := ok.most
  unfold t__law_side_v2
  rw [th_path ps f ok.acy (by omega) hf, TX.bind_ok, show nI (path ps f) = (path ps f).map fun i : Nat => (i : Int) from rfl, tfor_map (p := fun j => !decide (xs.getD j 0 = ys.getD j 0)) (g := fun j => b2i (newerK (kd ks j) (xs.getD j 0) (ys.getD j 0))), TX.bind_ok]
  · unfold sideN
    rw [show (path ps f).find? (fun j => !decide (xs.getD j 0 = ys.getD j 0)) = fd xs ys (path ps f) from rfl]
    cases fd xs ys (path ps f) <;> rfl
  · intro j hj
    have hl := path_lt ok.acy hf j hj
    have hk := ok.k.len
    rw [tix_at (d := 0) (by omega), tix_at (d := 0) (by omega), tix_at (d := lit "up") (by omega)]
    simp only [TX.bind_ok, show ks.getD j (lit "up") = kd ks j from rfl]
    rw [show teq (xs.getD j 0) (ys.getD j 0) = decide (xs.getD j 0 = ys.getD j 0) from rfl]
    cases decide (xs.getD j 0 = ys.getD j 0) with
    | true => rfl
    | false =>
      simp only [Bool.not_false, if_true, TX.bind_ok]
      unfold newerK
      simp only [teq_iff]
      split
      · rfl
      · split
        · rfl
        · rw [teq_xor]; rfl
theorem th_merge2 (ps : List (Option Nat)) (ks : List OS) (xs ys : List Int) (ok : FOk ps ks) (h1 : xs.length = ps.length) (h2 : ys.length = ps.length) : t__law_merge_v2 (ps.map oI) ks xs ys = .ok (mg ps ks xs ys) := by
  have hn := ok.most
  unfold t__law_merge_v2
  rw [List.length_map, trg_nat (by unfold lim; omega), TX.bind_ok, tlcP_map (f := fun x : Int => mgA ps ks xs ys x.toNat) (by simp [lim]; omega), TX.bind_ok]
  · rw [List.map_map]; rfl
  · intro x hx
    obtain ⟨i, rfl, hi⟩ := mem_rg hx
    rw [th_side2 ps ks i xs ys ok hi h1 h2, TX.bind_ok, Int.toNat_natCast]
    unfold mgA
    cases sideN ps ks xs ys i with
    | true => rw [show b2i true = 1 from rfl, tix_one, TX.bind_ok, tix_at (d := 0) (by omega)]; rfl
    | false => rw [show b2i false = 0 from rfl, tix_zero, TX.bind_ok, tix_at (d := 0) (by omega)]; rfl
/-- kinds that rank -/
theorem rk_of {ks : List OS} (hu : ub ks = none) {d : Nat} : kd ks d = lit "up" ∨ kd ks d = lit "down" := by
  by_cases h : d < ks.length
  · have := List.find?_eq_none.mp hu d (List.mem_range.mpr h)
    by_cases q : kd ks d = lit "up"
    · exact .inl q
    · right; simp [rk] at this; exact this q
  · left
    unfold kd
    simp [List.getD, Nat.le_of_not_lt h]
end Law
set_option linter.all false
set_option maxRecDepth 100000
set_option Elab.async false
set_option linter.all false
set_option maxRecDepth 100000
set_option Elab.async false
namespace Law
open VL VT PySem
open My (par Acy path par_lt par_get par_mem mem_par par_set path_root path_step path_len path_lt path_self)
theorem side_pre {ps : List (Option Nat)} {ks : List OS} {xs ys : List Int} (ac : Acy ps) {f g : Nat} (hg : g ∈ path ps f) : sideN ps ks xs ys g = false ∨ sideN ps ks xs ys g = sideN ps ks xs ys f := by
  rcases fd_cases (xs := xs) (ys := ys) (js := path ps f) with ⟨q, h⟩ | ⟨A, d, B, e, q, h, hd⟩
  · left
    obtain ⟨P, R, eA⟩ := List.append_of_mem hg
    have := path_pre ac _ R rfl eA
    unfold sideN
    rw [this, fd_none (fun j hj => h j (by rw [eA]; have z : j ∈ P ∨ j = g := (by simpa using hj); rcases z with z | z <;> simp [z]))]
    rfl
  · rw [e] at hg
    rcases List.mem_append.mp hg with hg | hg
    · left
      obtain ⟨P, R, eA⟩ := List.append_of_mem hg
      have := path_pre ac _ (R ++ d :: B) rfl (by rw [e, eA]; simp : path ps f = P ++ g :: (R ++ d :: B))
      unfold sideN
      rw [this, fd_none (fun j hj => h j (by rw [eA]; have z : j ∈ P ∨ j = g := (by simpa using hj); rcases z with z | z <;> simp [z]))]
      rfl
    · right
      obtain ⟨P, R, eB⟩ := List.append_of_mem hg
      have e2 := path_pre ac _ R rfl (by rw [e, eB]; simp : path ps f = (A ++ P) ++ g :: R)
      have : ∃ T, path ps g = A ++ d :: T := by
        rw [e2]
        cases P with
        | nil => simp at eB; exact ⟨[], by rw [eB.1]; simp⟩
        | cons z P => simp at eB; exact ⟨P ++ [g], by rw [eB.1]; simp⟩
      obtain ⟨T, eT⟩ := this
      unfold sideN
      rw [eT, fd_some h hd, q]
theorem newerK_up (x y : Int) : newerK (lit "up") x y = (decide (y < x) != true) := rfl
theorem newerK_down (x y : Int) : newerK (lit "down") x y = (decide (y < x) != false) := rfl
end Law
set_option linter.all false
set_option maxRecDepth 100000
set_option Elab.async false
namespace Law
open VL VT PySem
open My (par Acy path par_lt par_get par_mem mem_par par_set path_root path_step path_len path_lt path_self)
/-- lexicographic order, first entries first -/
def lxb : List Int → List Int → Bool
  | x :: xs, y :: ys => decide (x < y) || (decide (x = y) && lxb xs ys)
  | _, _ => false
theorem lx_irr : ∀ a : List Int, lxb a a = false
  | [] => rfl
  | x :: a => by simp [lxb, lx_irr a]
theorem lx_trans : ∀ {a b c : List Int}, lxb a b = true → lxb b c = true → lxb a c = true
  | [], _, _, h, _ => by simp [lxb] at h
  | _ :: _, [], _, h, _ => by simp [lxb] at h
  | _ :: _, _ :: _, [], _, h => by simp [lxb] at h
  | x :: a, y :: b, z :: c, h1, h2 => by
    simp only [lxb, Bool.or_eq_true, Bool.and_eq_true, decide_eq_true_eq] at h1 h2 ⊢
    rcases h1 with h1 | ⟨h1, g1⟩
    · rcases h2 with h2 | ⟨h2, g2⟩
      · exact .inl (by omega)
      · exact .inl (by omega)
    · rcases h2 with h2 | ⟨h2, g2⟩
      · exact .inl (by omega)
      · exact .inr ⟨by omega, lx_trans g1 g2⟩
theorem lx_tri : ∀ {a b : List Int}, a.length = b.length → lxb a b = false → lxb b a = false → a = b
  | [], [], _, _, _ => rfl
  | [], _ :: _, h, _, _ => by cases h
  | _ :: _, [], h, _, _ => by cases h
  | x :: a, y :: b, h, h1, h2 => by
    simp only [lxb, Bool.or_eq_false_iff, decide_eq_false_iff_not, Bool.and_eq_false_iff] at h1 h2
    have e : x = y := by omega
    subst e
    have g1 : lxb a b = false := by rcases h1.2 with z | z; exact absurd rfl z; exact z
    have g2 : lxb b a = false := by rcases h2.2 with z | z; exact absurd rfl z; exact z
    rw [lx_tri (by simpa using h) g1 g2]
/-- not above: lxb b a = false says a is at least b -/
theorem lx_le_trans {a b c : List Int} (h1 : a.length = b.length) (h2 : b.length = c.length) (h : lxb b a = false) (g : lxb c b = false) : lxb c a = false := by
  cases q : lxb c a with
  | false => rfl
  | true =>
    cases r : lxb a b with
    | true => rw [lx_trans q r] at g; cases g
    | false => rw [lx_tri h1 r h] at q; rw [q] at g; cases g
theorem lx_asymm {a b : List Int} (h : lxb a b = true) : lxb b a = false := by
  cases q : lxb b a with
  | false => rfl
  | true => have := lx_trans h q; rw [lx_irr] at this; cases this
/-- a value turned so that greater is better -/
def tvk (k : OS) (x : Int) : Int := if k = lit "down" then -x else x
theorem tvk_inj {k : OS} {x y : Int} (h : tvk k x = tvk k y) : x = y := by unfold tvk at h; split at h <;> omega
theorem tvk_lt {k : OS} (hk : k = lit "up" ∨ k = lit "down") {x y : Int} (hne : x ≠ y) : newerK k x y = decide (tvk k x < tvk k y) := by
  unfold tvk
  rcases hk with rfl | rfl
  · rw [newerK_up, if_neg (by decide), if_neg (by decide)]
    by_cases q : y < x
    · rw [decide_eq_true q, decide_eq_false (by omega)]; rfl
    · rw [decide_eq_false q, decide_eq_true (by omega)]; rfl
  · rw [newerK_down, if_pos rfl, if_pos rfl]
    by_cases q : y < x
    · rw [decide_eq_true q, decide_eq_true (by omega)]; rfl
    · rw [decide_eq_false q, decide_eq_false (by omega)]; rfl
def tvL (ks : List OS) (xs : List Int) (js : List Nat) : List Int := js.map fun j => tvk (kd ks j) (xs.getD j 0)
def tv (ps : List (Option Nat)) (ks : List OS) (xs : List Int) (f : Nat) : List Int := tvL ks xs (path ps f)
theorem tvL_len {ks : List OS} {xs ys : List Int} {js : List Nat} : (tvL ks xs js).length = (tvL ks ys js).length := by simp [tvL]
theorem tv_len {ps : List (Option Nat)} {ks : List OS} {xs ys : List Int} {f : Nat} : (tv ps ks xs f).length = (tv ps ks ys f).length := tvL_len
theorem winD_lx {ks : List OS} (hu : ub ks = none) {xs ys : List Int} : ∀ js : List Nat, winD ks xs ys (fd xs ys js) = lxb (tvL ks xs js) (tvL ks ys js)
  | [] => rfl
  | j :: js => by
    have ih := winD_lx hu (xs := xs) (ys := ys) js
    show winD ks xs ys (fd xs ys (j :: js)) = (decide (tvk (kd ks j) (xs.getD j 0) < tvk (kd ks j) (ys.getD j 0)) || (decide (tvk (kd ks j) (xs.getD j 0) = tvk (kd ks j) (ys.getD j 0)) && lxb (tvL ks xs js) (tvL ks ys js)))
    by_cases q : xs.getD j 0 = ys.getD j 0
    · have : fd xs ys (j :: js) = fd xs ys js := by
        unfold fd
        rw [List.find?_cons, decide_eq_true q]
        rfl
      rw [this, ih, q]
      simp
    · have : fd xs ys (j :: js) = some j := by
        unfold fd
        rw [List.find?_cons, decide_eq_false q]
        rfl
      rw [this]
      show newerK (kd ks j) (xs.getD j 0) (ys.getD j 0) = _
      rw [tvk_lt (rk_of hu) q, decide_eq_false (fun z => q (tvk_inj z))]
      simp
theorem side_lx {ps : List (Option Nat)} {ks : List OS} (hu : ub ks = none) {xs ys : List Int} {f : Nat} : sideN ps ks xs ys f = lxb (tv ps ks xs f) (tv ps ks ys f) := winD_lx hu _
theorem tvL_eq {ks : List OS} {xs ys : List Int} {js : List Nat} : tvL ks xs js = tvL ks ys js ↔ ∀ j ∈ js, xs.getD j 0 = ys.getD j 0 := by
  unfold tvL
  rw [List.map_inj_left]
  exact ⟨fun h j hj => tvk_inj (h j hj), fun h j hj => by rw [h j hj]⟩
theorem tv_eq {ps : List (Option Nat)} {ks : List OS} {xs ys : List Int} {f : Nat} : tv ps ks xs f = tv ps ks ys f ↔ ∀ j ∈ path ps f, xs.getD j 0 = ys.getD j 0 := tvL_eq
def mx (a b : List Int) : List Int := if lxb a b = true then b else a
/-- along the way of f the merge is the one that wins at f -/
theorem mg_way {ps : List (Option Nat)} {ks : List OS} {xs ys : List Int} (ac : Acy ps) {f : Nat} : ∀ g ∈ path ps f, mgA ps ks xs ys g = if sideN ps ks xs ys f = true then ys.getD g 0 else xs.getD g 0 := by
  intro g hg
  cases s : sideN ps ks xs ys f with
  | true =>
    rcases mg_dich (ks := ks) (xs := xs) (ys := ys) ac f with h | ⟨h, _⟩
    · rw [h g hg]; rfl
    · rw [s] at h; cases h
  | false =>
    unfold mgA
    rcases side_pre (ks := ks) (xs := xs) (ys := ys) ac hg with h | h
    · rw [h]
    · rw [h, s]
theorem tv_mg {ps : List (Option Nat)} {ks : List OS} {xs ys : List Int} (ac : Acy ps) (hu : ub ks = none) {f : Nat} (hf : f < ps.length) : tv ps ks (mg ps ks xs ys) f = mx (tv ps ks xs f) (tv ps ks ys f) := by
  unfold mx
  rw [← side_lx hu]
  split
  · rename_i s
    rw [tv_eq]
    intro g hg
    rw [mg_at (path_lt ac hf g hg), mg_way ac g hg, if_pos s]
  · rename_i s
    rw [tv_eq]
    intro g hg
    rw [mg_at (path_lt ac hf g hg), mg_way ac g hg, if_neg s]
theorem mxt {a b : List Int} (h : lxb a b = true) : mx a b = b := by unfold mx; rw [if_pos h]
theorem mxf {a b : List Int} (h : lxb a b = false) : mx a b = a := by unfold mx; rw [h]; rfl
/-- at least: no way of the second is above the first's -/
def upon (ps : List (Option Nat)) (ks : List OS) (r x : List Int) : Prop := ∀ f, f < ps.length → lxb (tv ps ks r f) (tv ps ks x f) = false
theorem upon_self {ps : List (Option Nat)} {ks : List OS} {x : List Int} : upon ps ks x x := fun _ _ => lx_irr _
theorem upon_mg {ps : List (Option Nat)} {ks : List OS} {x y : List Int} (ac : Acy ps) (hu : ub ks = none) : upon ps ks (mg ps ks x y) x := by
  intro f hf
  rw [tv_mg ac hu hf]
  unfold mx
  split
  · rename_i h; exact lx_asymm h
  · exact lx_irr _
theorem upon_mg_r {ps : List (Option Nat)} {ks : List OS} {x y : List Int} (ac : Acy ps) (hu : ub ks = none) : upon ps ks (mg ps ks x y) y := by
  intro f hf
  rw [tv_mg ac hu hf]
  unfold mx
  split
  · exact lx_irr _
  · rename_i h; exact Bool.eq_false_iff.mpr h
theorem upon_trans {ps : List (Option Nat)} {ks : List OS} {x y z : List Int} (h : upon ps ks x y) (g : upon ps ks y z) : upon ps ks x z := fun f hf => by
  cases q : lxb (tv ps ks x f) (tv ps ks z f) with
  | false => rfl
  | true =>
    have a := h f hf
    have b := g f hf
    cases r : lxb (tv ps ks y f) (tv ps ks x f) with
    | true => rw [lx_trans r q] at b; cases b
    | false => rw [lx_tri tv_len a r, b] at q; cases q
end Law
set_option linter.all false
set_option maxRecDepth 100000
set_option Elab.async false
namespace Law
open VL VT PySem
open My (par Acy path par_lt par_get par_mem mem_par par_set path_root path_step path_len path_lt path_self)
def Rk (k : OS) : Prop := k = lit "up" ∨ k = lit "down"
theorem Rk.nf {k : OS} (h : Rk k) : k ≠ lit "first" ∧ k ≠ lit "last" := by rcases h with rfl | rfl <;> decide
theorem w4_cases {k : OS} (h : w4 k) : Rk k ∨ k = lit "first" ∨ k = lit "last" := by
  rcases h with h | h | h | h
  · exact .inl (.inl h)
  · exact .inl (.inr h)
  · exact .inr (.inl h)
  · exact .inr (.inr h)
/-- the way ahead of a field -/
def anc (ps : List (Option Nat)) (f : Nat) : List Nat := match par ps f with
  | some p => path ps p
  | none => []
theorem path_anc {ps : List (Option Nat)} (ac : Acy ps) (f : Nat) : path ps f = anc ps f ++ [f] := by
  unfold anc
  cases q : par ps f with
  | none => rw [path_root q]; rfl
  | some p => rw [path_step ac q]
theorem path_has_child {ps : List (Option Nat)} (ac : Acy ps) : ∀ (n : Nat) (f : Nat), (path ps f).length ≤ n → ∀ g ∈ path ps f, g = f ∨ some g ∈ ps := by
  intro n
  induction n with
  | zero =>
    intro f h
    have := My.path_ne ps f
    exact absurd (List.length_eq_zero_iff.mp (by omega)) this
  | succ n ih =>
    intro f hl g hg
    cases q : par ps f with
    | none => rw [path_root q] at hg; exact .inl (List.mem_singleton.mp hg)
    | some p =>
      rw [path_step ac q] at hg hl
      rcases List.mem_append.mp hg with hg | hg
      · rcases ih p (by simp at hl; omega) g hg with h | h
        · rw [h]; exact .inr (par_mem q)
        · exact .inr h
      · exact .inl (List.mem_singleton.mp hg)
theorem child_rk {ps : List (Option Nat)} {ks : List OS} (ok : FOk ps ks) {g : Nat} (h : some g ∈ ps) : Rk (kd ks g) := by
  have w := kd_w4 ok.k.four g
  have lt : g < ks.length := by
    obtain ⟨i, hi⟩ := mem_par h
    have := ok.acy.lt hi
    have := ok.k.len
    omega
  have leaf := ok.k.leaf g (kd ks g) (by unfold kd; simp [List.getD, lt])
  rcases w with w | w | w | w
  · exact .inl w
  · exact .inr w
  · exact absurd h (leaf (by rw [w]; decide) (by rw [w]; decide))
  · exact absurd h (leaf (by rw [w]; decide) (by rw [w]; decide))
theorem anc_rk {ps : List (Option Nat)} {ks : List OS} (ok : FOk ps ks) (f : Nat) : ∀ g ∈ anc ps f, Rk (kd ks g) := by
  intro g hg
  unfold anc at hg
  cases q : par ps f with
  | none => rw [q] at hg; cases hg
  | some p =>
    rw [q] at hg
    rcases path_has_child ok.acy _ p (Nat.le_refl _) g hg with h | h
    · rw [h]; exact child_rk ok (par_mem q)
    · exact child_rk ok h
theorem anc_lt {ps : List (Option Nat)} (ac : Acy ps) {f : Nat} (hf : f < ps.length) : ∀ g ∈ anc ps f, g < ps.length := fun g hg => path_lt ac hf g (by rw [path_anc ac]; exact List.mem_append_left _ hg)
theorem winD_lx' {ks : List OS} {xs ys : List Int} : ∀ js : List Nat, (∀ j ∈ js, Rk (kd ks j)) → winD ks xs ys (fd xs ys js) = lxb (tvL ks xs js) (tvL ks ys js)
  | [], _ => rfl
  | j :: js, hr => by
    have ih := winD_lx' (ks := ks) (xs := xs) (ys := ys) js fun i hi => hr i (List.mem_cons_of_mem _ hi)
    show winD ks xs ys (fd xs ys (j :: js)) = (decide (tvk (kd ks j) (xs.getD j 0) < tvk (kd ks j) (ys.getD j 0)) || (decide (tvk (kd ks j) (xs.getD j 0) = tvk (kd ks j) (ys.getD j 0)) && lxb (tvL ks xs js) (tvL ks ys js)))
    by_cases q : xs.getD j 0 = ys.getD j 0
    · have : fd xs ys (j :: js) = fd xs ys js := by
        unfold fd
        rw [List.find?_cons, decide_eq_true q]
        rfl
      rw [this, ih, q]
      simp
    · have : fd xs ys (j :: js) = some j := by
        unfold fd
        rw [List.find?_cons, decide_eq_false q]
        rfl
      rw [this]
      show newerK (kd ks j) (xs.getD j 0) (ys.getD j 0) = _
      rw [tvk_lt (hr j List.mem_cons_self) q, decide_eq_false (fun z => q (tvk_inj z))]
      simp
theorem fd_snoc {xs ys : List Int} {A : List Nat} {f : Nat} : fd xs ys (A ++ [f]) = match fd xs ys A with
    | some d => some d
    | none => if xs.getD f 0 = ys.getD f 0 then none else some f := by
  unfold fd
  rw [List.find?_append]
  cases A.find? (fun j => !decide (xs.getD j 0 = ys.getD j 0)) with
  | some d => rfl
  | none =>
    simp only [Option.none_or, List.find?_cons, List.find?_nil]
    by_cases q : xs.getD f 0 = ys.getD f 0
    · rw [decide_eq_true q, if_pos q]; rfl
    · rw [decide_eq_false q, if_neg q]; rfl
theorem fd_none_tv {ks : List OS} {xs ys : List Int} {A : List Nat} : fd xs ys A = none ↔ tvL ks xs A = tvL ks ys A := by
  rw [tvL_eq]
  constructor
  · intro h
    rcases fd_cases (xs := xs) (ys := ys) (js := A) with ⟨_, q⟩ | ⟨_, _, _, _, q, _⟩
    · exact q
    · rw [h] at q; cases q
  · exact fd_none
theorem side_rk {ps : List (Option Nat)} {ks : List OS} {xs ys : List Int} {f : Nat} (h : ∀ g ∈ path ps f, Rk (kd ks g)) : sideN ps ks xs ys f = lxb (tv ps ks xs f) (tv ps ks ys f) := winD_lx' _ h
/-- what a merge has in a field -/
def mf (ps : List (Option Nat)) (ks : List OS) (xs ys : List Int) (f : Nat) : Int :=
  if kd ks f = lit "first" then (if lxb (tvL ks xs (anc ps f)) (tvL ks ys (anc ps f)) = true then ys.getD f 0 else xs.getD f 0)
  else if kd ks f = lit "last" then (if lxb (tvL ks ys (anc ps f)) (tvL ks xs (anc ps f)) = true then xs.getD f 0 else ys.getD f 0)
  else (if lxb (tv ps ks xs f) (tv ps ks ys f) = true then ys.getD f 0 else xs.getD f 0)
theorem path_rk {ps : List (Option Nat)} {ks : List OS} (ok : FOk ps ks) {f : Nat} (h : Rk (kd ks f)) : ∀ g ∈ path ps f, Rk (kd ks g) := by
  intro g hg
  rw [path_anc ok.acy] at hg
  rcases List.mem_append.mp hg with hg | hg
  · exact anc_rk ok f g hg
  · rw [List.mem_singleton.mp hg]; exact h
theorem mgA_mf {ps : List (Option Nat)} {ks : List OS} (ok : FOk ps ks) {xs ys : List Int} {f : Nat} : mgA ps ks xs ys f = mf ps ks xs ys f := by
  unfold mf
  rcases w4_cases (kd_w4 ok.k.four f) with h | h | h
  · rw [if_neg h.nf.1, if_neg h.nf.2, ← side_rk (path_rk ok h)]
    rfl
  · rw [if_pos h]
    have hw := winD_lx' (xs := xs) (ys := ys) (anc ps f) (anc_rk ok f)
    unfold mgA sideN
    rw [path_anc ok.acy, fd_snoc]
    cases q : fd xs ys (anc ps f) with
    | some d => rw [q] at hw; simp only; rw [hw]
    | none =>
      rw [q] at hw
      rw [← hw]
      simp only
      by_cases z : xs.getD f 0 = ys.getD f 0
      · rw [if_pos z]
      · rw [if_neg z]
        show (if newerK (kd ks f) _ _ = true then _ else _) = _
        rw [h]; rfl
  · rw [if_neg (by rw [h]; decide), if_pos h]
    have hw := winD_lx' (xs := xs) (ys := ys) (anc ps f) (anc_rk ok f)
    unfold mgA sideN
    rw [path_anc ok.acy, fd_snoc]
    cases q : fd xs ys (anc ps f) with
    | some d =>
      rw [q] at hw
      simp only
      rw [hw]
      have ne : tvL ks xs (anc ps f) ≠ tvL ks ys (anc ps f) := fun z => by rw [fd_none_tv.mpr z] at q; cases q
      cases r : lxb (tvL ks xs (anc ps f)) (tvL ks ys (anc ps f)) with
      | true => rw [lx_asymm r]; rfl
      | false =>
        cases r2 : lxb (tvL ks ys (anc ps f)) (tvL ks xs (anc ps f)) with
        | true => rfl
        | false => exact absurd (lx_tri tvL_len r r2) ne
    | none =>
      have e := (fd_none_tv (ks := ks)).mp q
      rw [e, lx_irr]
      simp only
      by_cases z : xs.getD f 0 = ys.getD f 0
      · rw [if_pos z]; exact z
      · rw [if_neg z]
        show (if newerK (kd ks f) _ _ = true then _ else _) = _
        rw [h]; rfl
/-- a list of fields: nothing, or the whole way of a field whose kinds rank -/
inductive Way (ps : List (Option Nat)) (ks : List OS) : List Nat → Prop
  | nil : Way ps ks []
  | path (p : Nat) (hp : p < ps.length) (h : ∀ g ∈ path ps p, Rk (kd ks g)) : Way ps ks (path ps p)
theorem Way.rk {ps : List (Option Nat)} {ks : List OS} {js : List Nat} (w : Way ps ks js) : ∀ g ∈ js, Rk (kd ks g) := by
  cases w with
  | nil => intro g h; cases h
  | path p hp h => exact h
theorem Way.lt {ps : List (Option Nat)} {ks : List OS} {js : List Nat} (ac : Acy ps) (w : Way ps ks js) : ∀ g ∈ js, g < ps.length := by
  cases w with
  | nil => intro g h; cases h
  | path p hp h => exact path_lt ac hp
theorem way_anc {ps : List (Option Nat)} {ks : List OS} (ok : FOk ps ks) (f : Nat) : Way ps ks (anc ps f) := by
  have := anc_rk ok f
  unfold anc at this ⊢
  cases q : par ps f with
  | none => exact .nil
  | some p => rw [q] at this; exact .path p (ok.acy.lt q) this
/-- along a way the merge is the one that is greater there -/
theorem mg_along {ps : List (Option Nat)} {ks : List OS} {xs ys : List Int} (ok : FOk ps ks) {js : List Nat} (w : Way ps ks js) : ∀ g ∈ js, mgA ps ks xs ys g = if lxb (tvL ks xs js) (tvL ks ys js) = true then ys.getD g 0 else xs.getD g 0 := by
  cases w with
  | nil => intro g h; cases h
  | path p hp h =>
    intro g hg
    rw [mg_way ok.acy g hg, side_rk h]
    rfl
theorem tvL_mg {ps : List (Option Nat)} {ks : List OS} {xs ys : List Int} (ok : FOk ps ks) {js : List Nat} (w : Way ps ks js) : tvL ks (mg ps ks xs ys) js = mx (tvL ks xs js) (tvL ks ys js) := by
  have key := mg_along (xs := xs) (ys := ys) ok w
  unfold mx
  split
  · rename_i s
    rw [tvL_eq]
    intro g hg
    rw [mg_at (w.lt ok.acy g hg), key g hg, if_pos s]
  · rename_i s
    rw [tvL_eq]
    intro g hg
    rw [mg_at (w.lt ok.acy g hg), key g hg, if_neg s]
theorem mf_first {ps : List (Option Nat)} {ks : List OS} {f : Nat} (h : kd ks f = lit "first") {xs ys : List Int} : mf ps ks xs ys f = if lxb (tvL ks xs (anc ps f)) (tvL ks ys (anc ps f)) = true then ys.getD f 0 else xs.getD f 0 := by
  unfold mf; rw [if_pos h]
theorem mf_last {ps : List (Option Nat)} {ks : List OS} {f : Nat} (h : kd ks f = lit "last") {xs ys : List Int} : mf ps ks xs ys f = if lxb (tvL ks ys (anc ps f)) (tvL ks xs (anc ps f)) = true then xs.getD f 0 else ys.getD f 0 := by
  unfold mf; rw [if_neg (by rw [h]; decide), if_pos h]
def endL (ps : List (Option Nat)) (ks : List OS) : List (List Int) → List Int
  | [] => []
  | x :: L => L.foldl (mg ps ks) x
theorem endL_snoc {ps : List (Option Nat)} {ks : List OS} {R : List (List Int)} (h : R ≠ []) (y : List Int) : endL ps ks (R ++ [y]) = mg ps ks (endL ps ks R) y := by
  cases R with
  | nil => exact absurd rfl h
  | cons x L => show (L ++ [y]).foldl _ x = _; rw [List.foldl_append]; rfl
end Law
set_option linter.all false
set_option maxRecDepth 100000
set_option Elab.async false
namespace Law
open VL VT PySem
open My (par Acy path par_lt par_get par_mem mem_par par_set path_root path_step path_len path_lt path_self)
theorem snoc_ind {α : Type} {P : List α → Prop} (h1 : ∀ x, P [x]) (h2 : ∀ L y, L ≠ [] → P L → P (L ++ [y])) : ∀ L, L ≠ [] → P L := by
  suffices ∀ (n : Nat) (L : List α), L.length = n → L ≠ [] → P L from fun L h => this _ L rfl h
  intro n
  induction n with
  | zero => intro L h1 h2; exact absurd (List.length_eq_zero_iff.mp h1) h2
  | succ n ih =>
    intro L hl hne
    rw [← List.dropLast_concat_getLast hne]
    by_cases q : L.dropLast = []
    · rw [q]; exact h1 _
    · exact h2 _ _ q (ih _ (by simp [hl]) q)
def rr (R : List (List Int)) (i : Nat) : List Int := R.getD i []
theorem rr_l {R : List (List Int)} {y : List Int} {i : Nat} (h : i < R.length) : rr (R ++ [y]) i = rr R i := by simp [rr, List.getD, List.getElem?_append_left h]
theorem rr_r {R : List (List Int)} {y : List Int} : rr (R ++ [y]) R.length = y := by simp [rr, List.getD]
section
variable {ps : List (Option Nat)} {ks : List OS}
/-- along a way the end is the greatest -/
theorem end_max (ok : FOk ps ks) {js : List Nat} (w : Way ps ks js) : ∀ R, R ≠ [] → (∀ i, i < R.length → lxb (tvL ks (endL ps ks R) js) (tvL ks (rr R i) js) = false) ∧ ∃ i, i < R.length ∧ tvL ks (rr R i) js = tvL ks (endL ps ks R) js := by
  refine snoc_ind ?_ ?_
  · intro x
    refine ⟨fun i hi => ?_, 0, by simp, rfl⟩
    have : i = 0 := by simp at hi; omega
    subst this
    exact lx_irr _
  · rintro R y hne ⟨h1, i, hi, e⟩
    rw [endL_snoc hne, tvL_mg ok w]
    constructor
    · intro k hk
      rw [List.length_append] at hk; simp at hk
      by_cases q : k < R.length
      · rw [rr_l q]
        unfold mx
        split
        · rename_i c
          cases z : lxb (tvL ks y js) (tvL ks (rr R k) js) with
          | false => rfl
          | true => have := lx_trans c z; rw [h1 k q] at this; cases this
        · exact h1 k q
      · have : k = R.length := by omega
        subst this
        rw [rr_r]
        unfold mx
        split
        · exact lx_irr _
        · rename_i c; exact Bool.eq_false_iff.mpr c
    · cases q : lxb (tvL ks (endL ps ks R) js) (tvL ks y js) with
      | true => exact ⟨R.length, by simp, by rw [rr_r, mxt q]⟩
      | false => exact ⟨i, by simp; omega, by rw [rr_l hi, mxf q, e]⟩
theorem end_first (ok : FOk ps ks) {f : Nat} (hf : f < ps.length) (h : kd ks f = lit "first") : ∀ R, R ≠ [] → ∃ i, i < R.length ∧ tvL ks (rr R i) (anc ps f) = tvL ks (endL ps ks R) (anc ps f) ∧ (∀ k, k < i → lxb (tvL ks (rr R k) (anc ps f)) (tvL ks (rr R i) (anc ps f)) = true) ∧ (rr R i).getD f 0 = (endL ps ks R).getD f 0 := by
  have w := way_anc ok f
  refine snoc_ind ?_ ?_
  · intro x; exact ⟨0, by simp, rfl, fun k hk => by omega, rfl⟩
  · rintro R y hne ⟨i, hi, e, lt, v⟩
    rw [endL_snoc hne, tvL_mg ok w, mg_at hf, mgA_mf ok, mf_first h]
    cases q : lxb (tvL ks (endL ps ks R) (anc ps f)) (tvL ks y (anc ps f)) with
    | true =>
      refine ⟨R.length, by simp, by rw [rr_r, mxt q], fun k hk => ?_, by rw [rr_r]; rfl⟩
      rw [rr_l hk, rr_r]
      have m := (end_max ok w R hne).1 k hk
      cases z : lxb (tvL ks (rr R k) (anc ps f)) (tvL ks y (anc ps f)) with
      | true => rfl
      | false => rw [lx_le_trans tvL_len tvL_len z m] at q; cases q
    | false => exact ⟨i, by simp; omega, by rw [rr_l hi, mxf q, e], fun k hk => by rw [rr_l (by omega), rr_l hi]; exact lt k hk, by rw [rr_l hi]; exact v⟩
theorem end_last (ok : FOk ps ks) {f : Nat} (hf : f < ps.length) (h : kd ks f = lit "last") : ∀ R, R ≠ [] → ∃ i, i < R.length ∧ tvL ks (rr R i) (anc ps f) = tvL ks (endL ps ks R) (anc ps f) ∧ (∀ k, i < k → k < R.length → lxb (tvL ks (rr R k) (anc ps f)) (tvL ks (rr R i) (anc ps f)) = true) ∧ (rr R i).getD f 0 = (endL ps ks R).getD f 0 := by
  have w := way_anc ok f
  refine snoc_ind ?_ ?_
  · intro x; exact ⟨0, by simp, rfl, fun k h1 h2 => by simp at h2; omega, rfl⟩
  · rintro R y hne ⟨i, hi, e, lt, v⟩
    rw [endL_snoc hne, tvL_mg ok w, mg_at hf, mgA_mf ok, mf_last h]
    cases q : lxb (tvL ks y (anc ps f)) (tvL ks (endL ps ks R) (anc ps f)) with
    | true =>
      refine ⟨i, by simp; omega, by rw [rr_l hi, mxf (lx_asymm q), e], fun k h1 h2 => ?_, by rw [rr_l hi]; exact v⟩
      rw [rr_l hi]
      by_cases z : k < R.length
      · rw [rr_l z]; exact lt k h1 z
      · have : k = R.length := by simp at h2; omega
        subst this
        rw [rr_r, e]; exact q
    | false =>
      refine ⟨R.length, by simp, ?_, fun k h1 h2 => by simp at h2; omega, by rw [rr_r]; rfl⟩
      rw [rr_r]
      cases r : lxb (tvL ks (endL ps ks R) (anc ps f)) (tvL ks y (anc ps f)) with
      | true => rw [mxt r]
      | false => rw [mxf r]; exact lx_tri tvL_len q r
def KP (ks : List OS) (R : List (List Int)) (js : List Nat) : List Nat := (List.range R.length).filter fun i => (List.range R.length).all fun k => !lxb (tvL ks (rr R i) js) (tvL ks (rr R k) js)
variable {R : List (List Int)} {js : List Nat} {i : Nat}
theorem mem_KP : i ∈ KP ks R js ↔ i < R.length ∧ ∀ k, k < R.length → lxb (tvL ks (rr R i) js) (tvL ks (rr R k) js) = false := by simp [KP]
theorem KP_end (ok : FOk ps ks) (w : Way ps ks js) (hne : R ≠ []) (hi : i ∈ KP ks R js) : tvL ks (rr R i) js = tvL ks (endL ps ks R) js := by
  obtain ⟨h1, k, hk, e⟩ := end_max ok w R hne
  have ⟨a, b⟩ := mem_KP.mp hi
  exact lx_tri tvL_len (by rw [← e]; exact b k hk) (h1 i a)
theorem KP_of (ok : FOk ps ks) (w : Way ps ks js) (hne : R ≠ []) (hi : i < R.length) (e : tvL ks (rr R i) js = tvL ks (endL ps ks R) js) : i ∈ KP ks R js :=
  mem_KP.mpr ⟨hi, fun k hk => by rw [e]; exact (end_max ok w R hne).1 k hk⟩
theorem KP_ne (ok : FOk ps ks) (w : Way ps ks js) (hne : R ≠ []) : KP ks R js ≠ [] := by
  obtain ⟨h1, k, hk, e⟩ := end_max ok w R hne
  have := KP_of ok w hne hk e
  intro z
  rw [z] at this
  cases this
theorem KP_sorted : (KP ks R js).Pairwise (· < ·) := List.Pairwise.filter _ List.pairwise_lt_range
theorem head_of {l : List Nat} (s : l.Pairwise (· < ·)) {i : Nat} (hi : i ∈ l) (h : ∀ k ∈ l, ¬ k < i) : ∃ L, l = i :: L := by
  obtain ⟨A, B, rfl⟩ := List.append_of_mem hi
  cases A with
  | nil => exact ⟨B, rfl⟩
  | cons a A => exact absurd ((List.pairwise_cons.mp s).1 i (by simp)) (h a (by simp))
theorem last_of {l : List Nat} (s : l.Pairwise (· < ·)) {i : Nat} (hi : i ∈ l) (h : ∀ k ∈ l, ¬ i < k) : ∃ L, l = L ++ [i] := by
  obtain ⟨A, B, rfl⟩ := List.append_of_mem hi
  cases B with
  | nil => exact ⟨A, rfl⟩
  | cons b B => exact absurd ((List.pairwise_cons.mp (List.pairwise_append.mp s).2.1).1 b (by simp)) (h b (by simp))
/-- what is kept for a field -/
def KF (ps : List (Option Nat)) (ks : List OS) (R : List (List Int)) (f : Nat) : List Nat :=
  if kd ks f = lit "first" then (KP ks R (anc ps f)).take 1
  else if kd ks f = lit "last" then (KP ks R (anc ps f)).drop ((KP ks R (anc ps f)).length - 1)
  else KP ks R (path ps f)
theorem KF_end (ok : FOk ps ks) (hne : R ≠ []) {f : Nat} (hf : f < ps.length) : ∃ i L, KF ps ks R f = i :: L ∧ i < R.length ∧ (rr R i).getD f 0 = (endL ps ks R).getD f 0 := by
  unfold KF
  rcases w4_cases (kd_w4 ok.k.four f) with h | h | h
  · rw [if_neg h.nf.1, if_neg h.nf.2]
    have w : Way ps ks (path ps f) := .path f hf (path_rk ok h)
    have ne := KP_ne ok w hne
    cases q : KP ks R (path ps f) with
    | nil => exact absurd q ne
    | cons i L =>
      have hi : i ∈ KP ks R (path ps f) := by rw [q]; exact List.mem_cons_self
      exact ⟨i, L, rfl, (mem_KP.mp hi).1, tvL_eq.mp (KP_end ok w hne hi) f (path_self ps ok.acy f)⟩
  · rw [if_pos h]
    obtain ⟨i, hi, e, lt, v⟩ := end_first ok hf h R hne
    obtain ⟨L, q⟩ := head_of KP_sorted (KP_of ok (way_anc ok f) hne hi e) fun k hk z => by
      have := (mem_KP.mp hk).2 i hi
      rw [lt k z] at this; cases this
    rw [q]
    exact ⟨i, [], rfl, hi, v⟩
  · rw [if_neg (by rw [h]; decide), if_pos h]
    obtain ⟨i, hi, e, lt, v⟩ := end_last ok hf h R hne
    obtain ⟨L, q⟩ := last_of KP_sorted (KP_of ok (way_anc ok f) hne hi e) fun k hk z => by
      have := (mem_KP.mp hk).2 i hi
      rw [lt k z (mem_KP.mp hk).1] at this; cases this
    rw [q]
    refine ⟨i, [], ?_, hi, v⟩
    rw [List.length_append, List.length_singleton, Nat.add_sub_cancel, List.drop_left]
end
end Law
set_option linter.all false
set_option maxRecDepth 100000
set_option Elab.async false
set_option linter.all false
set_option maxRecDepth 100000
set_option Elab.async false
namespace Law
open VL VT PySem
open My (par Acy path par_lt par_get par_mem mem_par par_set path_root path_step path_len path_lt path_self)
/-- the fields that win -/
def winL (ps : List (Option Nat)) (ks : List OS) (xs ys : List Int) : List Nat := (List.range ps.length).filter fun f => sideN ps ks xs ys f
theorem mem_nIc {l : List Nat} {i : Nat} : (i : Int) ∈ nI l ↔ i ∈ l := by
  rw [mem_nI]
  constructor
  · rintro ⟨j, hj, e⟩
    have : j = i := by omega
    exact this ▸ hj
  · exact fun h => ⟨i, h, rfl⟩
/-- a field that must be sent -/
def ndd (ps : List (Option Nat)) (ks : List OS) (xs ys : List Int) (j : Nat) : Bool := (winL ps ks xs ys).any fun f => decide (j ∈ path ps f)
def llt (ps : List (Option Nat)) (ks : List OS) (xs ys : List Int) : List (Option Int) := (List.range ps.length).map fun j => if ndd ps ks xs ys j = true then some (ys.getD j 0) else none
end Law
set_option linter.all false
set_option maxRecDepth 100000
set_option Elab.async false
namespace Law
open VL VT PySem
open My (par Acy path par_lt par_get par_mem mem_par par_set path_root path_step path_len path_lt path_self)
theorem cut_drop1 {α : Type} {xs : List α} : tcut xs (some (1 : Int)) none = xs.drop 1 := by
  unfold tcut
  rw [HT.sIx_none, show HT.sIx xs.length 0 (some (1 : Int)) = min 1 xs.length from HT.sIx_nat _ 0 1]
  cases xs with
  | nil => rfl
  | cons x xs =>
    rw [Nat.min_eq_left (by simp)]
    exact List.take_of_length_le (by simp)
end Law
set_option linter.all false
set_option maxRecDepth 100000
set_option Elab.async false
namespace Law
open VL VT PySem
open My (par Acy path par_lt par_get par_mem mem_par par_set path_root path_step path_len path_lt path_self)
def rz (k : OS) (b : Int) : Int := if k = lit "down" then b - 1 else b + 1
theorem rz_ne {k : OS} {x : Int} : rz k x ≠ x := by unfold rz; split <;> omega
end Law
set_option linter.all false
set_option maxRecDepth 100000
set_option Elab.async false
namespace Law
open VL VT PySem
open My (par Acy path par_lt par_get par_mem mem_par par_set path_root path_step path_len path_lt path_self)
theorem upon_lub {ps : List (Option Nat)} {ks : List OS} {x y z : List Int} (ac : Acy ps) (hu : ub ks = none) (h1 : upon ps ks z x) (h2 : upon ps ks z y) : upon ps ks z (mg ps ks x y) := by
  intro f hf
  rw [tv_mg ac hu hf]
  unfold mx
  split
  · exact h2 f hf
  · exact h1 f hf
end Law
set_option linter.all false
set_option maxRecDepth 100000
set_option Elab.async false
namespace Law
open VL VT PySem
open My (par Acy path par_lt par_get par_mem mem_par par_set path_root path_step path_len path_lt path_self)
abbrev Pst := Option (Int × (List (Option Int)) × (List Int))
theorem rr_set {H : List (List Int)} {i j : Nat} {v : List Int} : rr (H.set i v) j = if i = j ∧ i < H.length then v else rr H j := by
  unfold rr
  rw [List.getD, List.getElem?_set]
  by_cases q : i = j
  · subst q
    by_cases z : i < H.length
    · rw [if_pos rfl, if_pos z, if_pos ⟨rfl, z⟩]; rfl
    · rw [if_pos rfl, if_neg z, if_neg (fun w => z w.2)]
      simp [List.getD, z]
  · rw [if_neg q, if_neg (fun w => q w.1)]; rfl
theorem rr_mem {H : List (List Int)} {i : Nat} (h : i < H.length) : rr H i ∈ H := by unfold rr; simp [List.getD, h]
section
variable {ps : List (Option Nat)} {ks : List OS} {F H : List (List Int)} {E E' : List Int}
/-- all houses together are the end E; each is at least its first copy -/
structure St (ps : List (Option Nat)) (ks : List OS) (F H : List (List Int)) (E : List Int) : Prop where
  hl : H.length = F.length
  h : ∀ i, i < H.length → (rr H i).length = ps.length
  le : ∀ i, i < H.length → upon ps ks E (rr H i)
  lub : ∀ z : List Int, (∀ i, i < H.length → upon ps ks z (rr H i)) → upon ps ks z E
  fi : ∀ i, i < H.length → upon ps ks (rr H i) (rr F i)
theorem up_set {i : Nat} {r : List Int} (ac : Acy ps) (hu : ub ks = none) (j : Nat) : upon ps ks (rr (H.set i (mg ps ks (rr H i) r)) j) (rr H j) := by
  rw [rr_set]
  split
  · rename_i z; rw [← z.1]; exact upon_mg ac hu
  · exact upon_self
theorem St.grow (s : St ps ks F H E) (ac : Acy ps) (hu : ub ks = none) {i : Nat} {r : List Int} (hi : i < H.length) (e1 : upon ps ks E' E) (e2 : upon ps ks E' r) (e3 : ∀ z, upon ps ks z E → upon ps ks z r → upon ps ks z E') : St ps ks F (H.set i (mg ps ks (rr H i) r)) E' := by
  refine ⟨by rw [List.length_set]; exact s.hl, fun j hj => ?_, fun j hj => ?_, fun z hz => ?_, fun j hj => ?_⟩
  · rw [List.length_set] at hj
    rw [rr_set]
    split
    · exact mg_len
    · exact s.h j hj
  · rw [List.length_set] at hj
    rw [rr_set]
    split
    · exact upon_lub ac hu (upon_trans e1 (s.le i hi)) e2
    · exact upon_trans e1 (s.le j hj)
  · refine e3 z (s.lub z fun j hj => upon_trans (hz j (by rw [List.length_set]; exact hj)) (up_set ac hu j)) ?_
    have := hz i (by rw [List.length_set]; exact hi)
    rw [rr_set, if_pos ⟨rfl, hi⟩] at this
    exact upon_trans this (upon_mg_r ac hu)
  · rw [List.length_set] at hj
    exact upon_trans (up_set ac hu j) (s.fi j hj)
/-- a letter on its way -/
def Post (ps : List (Option Nat)) (ks : List OS) (E : List Int) (H : List (List Int)) (p : Pst) : Prop :=
  ∃ (to : Nat) (kn sn : List Int), p = some ((to : Int), llt ps ks kn sn, sn) ∧ to < H.length ∧ sn.length = ps.length ∧ upon ps ks E sn ∧ upon ps ks (rr H to) kn
theorem Post.grow {p : Pst} (h : Post ps ks E H p) (ac : Acy ps) (hu : ub ks = none) {i : Nat} {r : List Int} (e1 : upon ps ks E' E) : Post ps ks E' (H.set i (mg ps ks (rr H i) r)) p := by
  obtain ⟨to, kn, sn, rfl, h1, h2, h3, h4⟩ := h
  exact ⟨to, kn, sn, rfl, by rw [List.length_set]; exact h1, h2, upon_trans e1 h3, upon_trans (up_set ac hu to) h4⟩
structure Wk (ps : List (Option Nat)) (ks : List OS) (F H L : List (List Int)) (P : List Pst) : Prop where
  st : St ps ks F H (endL ps ks L)
  ne : L ≠ []
  ln : ∀ x ∈ L, x.length = ps.length
  po : ∀ p ∈ P, Post ps ks (endL ps ks L) H p
variable {L : List (List Int)} {P : List Pst}
theorem Wk.add (w : Wk ps ks F H L P) (ac : Acy ps) (hu : ub ks = none) {i : Nat} {r : List Int} (hi : i < H.length) (hr : r.length = ps.length) : Wk ps ks F (H.set i (mg ps ks (rr H i) r)) (L ++ [r]) P := by
  have e : endL ps ks (L ++ [r]) = mg ps ks (endL ps ks L) r := endL_snoc w.ne r
  refine ⟨?_, by simp, fun x hx => ?_, fun p hp => ?_⟩
  · rw [e]
    exact w.st.grow ac hu hi (upon_mg ac hu) (upon_mg_r ac hu) fun z h1 h2 => upon_lub ac hu h1 h2
  · rcases List.mem_append.mp hx with hx | hx
    · exact w.ln x hx
    · rw [List.mem_singleton.mp hx]; exact hr
  · rw [e]
    exact (w.po p hp).grow ac hu (upon_mg ac hu)
theorem Wk.take (w : Wk ps ks F H L P) (ac : Acy ps) (hu : ub ks = none) {i : Nat} {r : List Int} (hi : i < H.length) (hr : upon ps ks (endL ps ks L) r) : Wk ps ks F (H.set i (mg ps ks (rr H i) r)) L P :=
  ⟨w.st.grow ac hu hi upon_self hr fun z h1 _ => h1, w.ne, w.ln, fun p hp => (w.po p hp).grow ac hu upon_self⟩
end
end Law
set_option linter.all false
set_option maxRecDepth 100000
set_option Elab.async false
set_option linter.all false
set_option maxRecDepth 100000
set_option synthInstance.maxSize 2000
set_option Elab.async false
set_option linter.all false
set_option maxRecDepth 100000
set_option synthInstance.maxSize 2000
set_option Elab.async false
set_option linter.all false
set_option maxRecDepth 100000
set_option synthInstance.maxSize 2000
set_option Elab.async false
set_option linter.all false
set_option maxRecDepth 100000
set_option synthInstance.maxSize 2000
set_option Elab.async false
set_option linter.all false
set_option maxRecDepth 100000
set_option synthInstance.maxSize 2000
set_option Elab.async false
namespace Law
open VL VT PySem
open My (par Acy path par_lt par_get par_mem mem_par par_set path_root path_step path_len path_lt path_self)
theorem mem_er {W : List (List Int)} {i : Nat} {x : List Int} : x ∈ W.eraseIdx i ↔ ∃ j, j < W.length ∧ j ≠ i ∧ rr W j = x := by
  rw [List.mem_eraseIdx_iff_getElem]
  constructor
  · rintro ⟨j, hj, ne, e⟩
    exact ⟨j, hj, ne, by unfold rr; simp [List.getD, hj, e]⟩
  · rintro ⟨j, hj, ne, e⟩
    refine ⟨j, hj, ne, ?_⟩
    unfold rr at e
    simpa [List.getD, hj] using e
end Law
set_option linter.all false
set_option maxRecDepth 100000
set_option synthInstance.maxSize 2000
set_option Elab.async false
namespace Law
open VL VT PySem
open My (par Acy path par_lt par_get par_mem mem_par par_set path_root path_step path_len path_lt path_self)
theorem tcut_take {α : Type} {X : List α} {p : Nat} (hp : p ≤ X.length) : tcut X none (some (p : Int)) = X.take p := by
  unfold tcut
  rw [HT.sIx_none, show HT.sIx X.length X.length (some (p : Int)) = min p X.length from HT.sIx_nat _ _ _, List.drop_zero, Nat.min_eq_left hp, Nat.sub_zero]
theorem tcut_drop {α : Type} {X : List α} {p : Nat} (hp : p ≤ X.length) : tcut X (some (p : Int)) none = X.drop p := by
  unfold tcut
  rw [HT.sIx_none, show HT.sIx X.length 0 (some (p : Int)) = min p X.length from HT.sIx_nat _ _ _, Nat.min_eq_left hp]
  exact List.take_of_length_le (by simp)
end Law
set_option linter.all false
set_option maxRecDepth 100000
set_option synthInstance.maxSize 2000
set_option Elab.async false
namespace Law
open VL VT PySem
open My (par Acy path par_lt par_get par_mem mem_par par_set path_root path_step path_len path_lt path_self)
def js (ps : List (Option Nat)) : Option Nat → List Nat
  | none => []
  | some f => path ps f
end Law
set_option linter.all false
set_option maxRecDepth 100000
set_option synthInstance.maxSize 2000
set_option Elab.async false
set_option linter.all false
set_option maxRecDepth 100000
set_option synthInstance.maxSize 2000
set_option Elab.async false
set_option linter.all false
set_option maxRecDepth 100000
set_option synthInstance.maxSize 2000
set_option Elab.async false
set_option linter.all false
set_option maxRecDepth 100000
set_option Elab.async false
namespace Law
open VL VT PySem
open My (par Acy path par_lt par_get par_mem mem_par par_set path_root path_step path_len path_lt path_self)
theorem th_fields3 (t : Int × Int) : Ok (t__law_fields t) fun r => 1 ≤ r.1 ∧ r.1 ≤ 8 := by
  unfold t__law_fields
  refine (th_take t 8 (by decide) (by decide)).bind fun v1 _ => ?_
  split
  · exact (th_take v1.2 2 (by decide) (by decide)).bind fun v2 h2 => Ok.of ⟨by simp only; omega, by simp only; omega⟩
  · exact (th_take v1.2 6 (by decide) (by decide)).bind fun v2 h2 => Ok.of ⟨by simp only; omega, by simp only; omega⟩
section
variable {ps : List (Option Nat)} {ks : List OS}
theorem th_foldR (ok : FOk ps ks) (R : List (List Int)) (hne : R ≠ []) (hR : ∀ x ∈ R, x.length = ps.length) : t__law_fold (ps.map oI) ks R = .ok (endL ps ks R) := by
  cases R with
  | nil => exact absurd rfl hne
  | cons x L =>
    unfold t__law_fold
    rw [tix_zero, TX.bind_ok, cut_drop1, TX.bind_id]
    show tfold L x _ = .ok (L.foldl (mg ps ks) x)
    have : ∀ (L : List (List Int)) (x : List Int), x.length = ps.length → (∀ y ∈ L, y.length = ps.length) → (tfold L x fun s3 x2 => TX.bind (t__law_merge_v2 (ps.map oI) ks s3 x2) fun v8 => .ok v8) = .ok (L.foldl (mg ps ks) x) := by
      intro L
      induction L with
      | nil => intro x _ _; rfl
      | cons y L ih =>
        intro x hx hL
        rw [tfold_cons, th_merge2 ps ks x y ok hx (hL y List.mem_cons_self), TX.bind_ok, TX.bind_ok, ih _ mg_len fun z hz => hL z (List.mem_cons_of_mem _ hz)]
        rfl
    exact this L x (hR x List.mem_cons_self) fun y hy => hR y (List.mem_cons_of_mem _ hy)
end
end Law
set_option linter.all false
set_option maxRecDepth 100000
set_option Elab.async false
set_option linter.all false
set_option maxRecDepth 100000
set_option Elab.async false
set_option linter.all false
set_option maxRecDepth 100000
set_option Elab.async false
namespace Law
open VL VT PySem
open My (par Acy path par_lt par_get par_mem mem_par par_set path_root path_step path_len path_lt path_self)
section
variable (ps : List (Option Nat)) (ks : List OS)
def rkB (k : OS) : Bool := teq k (lit "up") || teq k (lit "down")
def lvN : List Nat := (List.range ps.length).filter fun i => !decide (some i ∈ ps)
def rlN : List Nat := (lvN ps).filter fun i => rkB (kd ks i)
def hgN (k : OS) (p : Option Nat) : List Nat := ((List.range ps.length).filter fun c => decide (par ps c = p)).filter fun c => decide (kd ks c = k)
def pN : List (Option Nat) := none :: (List.range ps.length).map some
def clN (k : OS) : List (Option Nat × List Nat) := ((pN ps).filter fun p => !(hgN ps ks k p).isEmpty).map fun p => (p, hgN ps ks k p)
def ccN : Nat := (rlN ps ks).length + (clN ps ks (lit "first")).length + (clN ps ks (lit "last")).length
end
def eC (p : Option Nat × List Nat) : Option Int × List Int := (oI p.1, nI p.2)
theorem rkB_iff {k : OS} : rkB k = true ↔ Rk k := by unfold rkB Rk; simp
section
variable {ps : List (Option Nat)} {ks : List OS}
theorem filt_nI {n : Nat} {p : Nat → Bool} : ((List.range n).map fun i : Nat => (i : Int)).filter (fun x => p x.toNat) = nI ((List.range n).filter p) := by
  unfold nI
  rw [List.filter_map]
  rfl
theorem filt_nI' {l : List Nat} {p : Nat → Bool} : (nI l).filter (fun x => p x.toNat) = nI (l.filter p) := by
  unfold nI
  rw [List.filter_map]
  rfl
theorem par_iff {i : Nat} (hi : i < ps.length) {p : Option Nat} : (oI (par ps i) = oI p) ↔ par ps i = p := by
  cases par ps i <;> cases p <;> first | (simp [oI]; done) | (simp only [oI, Option.some.injEq]; omega)
theorem th_leavesN (hn : ps.length ≤ 16) : t_Forest__leaves (foO ps ks) = .ok (nI (lvN ps)) := by
  unfold t_Forest__leaves
  rw [show (foO ps ks).fields = (ps.length : Int) from rfl, show (foO ps ks).parents = ps.map oI from rfl, trg_nat (by unfold lim; omega), TX.bind_ok]
  rw [tlcP_filter (p := fun x : Int => !decide (some x.toNat ∈ ps)) (f := fun x => x) (by simp [lim]; omega), TX.bind_ok, List.map_id', filt_nI (p := fun i => !decide (some i ∈ ps))]
  · rfl
  · intro x hx
    obtain ⟨i, rfl, hi⟩ := mem_rg hx
    have : tmem (some (i : Int)) (ps.map oI) = decide (some i ∈ ps) := by
      by_cases c : some i ∈ ps
      · rw [decide_eq_true c, tmem_iff, mem_oI]; exact c
      · rw [decide_eq_false c, tmem_iffF, mem_oI]; exact c
    rw [this, Int.toNat_natCast]
    split <;> rfl
theorem th_rankedN (hk : ks.length = ps.length) (hn : ps.length ≤ 16) : t_ranked_leaves (foO ps ks) = .ok (nI (rlN ps ks)) := by
  unfold t_ranked_leaves
  rw [th_leavesN hn]
  show TX.bind (.ok _) _ = _
  rw [TX.bind_ok]
  have l1 : (lvN ps).length ≤ ps.length := Nat.le_trans (List.length_filter_le _ _) (by simp)
  rw [tlcP_filter (p := fun x : Int => rkB (kd ks x.toNat)) (f := fun x => x) (by rw [nI_len]; unfold lim; omega), TX.bind_ok, List.map_id', filt_nI' (p := fun i => rkB (kd ks i))]
  · rfl
  · intro x hx
    obtain ⟨i, hi, rfl⟩ := mem_nI.mp hx
    have hi := List.mem_range.mp (List.mem_filter.mp hi).1
    rw [show (foO ps ks).kinds = ks from rfl, tix_at (d := lit "up") (by omega), TX.bind_ok, show ks.getD i (lit "up") = kd ks i from rfl]
    show (TX.bind (.ok (rkB (kd ks i))) _) = _
    rw [TX.bind_ok, Int.toNat_natCast]
    split <;> rfl
theorem th_children (hn : ps.length ≤ 16) (p : Option Nat) : t_Forest__children (foO ps ks) (oI p) = .ok (nI ((List.range ps.length).filter fun c => decide (par ps c = p))) := by
  unfold t_Forest__children
  rw [show (foO ps ks).fields = (ps.length : Int) from rfl, show (foO ps ks).parents = ps.map oI from rfl, trg_nat (by unfold lim; omega), TX.bind_ok]
  rw [tlcP_filter (p := fun x : Int => decide (par ps x.toNat = p)) (f := fun x => x) (by simp [lim]; omega), TX.bind_ok, List.map_id', filt_nI (p := fun i => decide (par ps i = p))]
  intro x hx
  obtain ⟨i, rfl, hi⟩ := mem_rg hx
  rw [par_tix hi, TX.bind_ok, Int.toNat_natCast]
  by_cases c : par ps i = p
  · rw [if_pos (by rw [teq_iff, c]), if_pos (decide_eq_true c)]
  · rw [if_neg (by rw [teq_iff, par_iff hi]; exact c), if_neg (by simpa using c)]
theorem th_hang (hk : ks.length = ps.length) (k : OS) {l : List Nat} (hl : ∀ i ∈ l, i < ps.length) (hz : l.length ≤ 1000) : (tlcP (nI l) fun x12 => TX.bind (tix (foO ps ks).kinds x12) fun v17 => if (teq v17 k) = true then (.ok (some x12)) else .ok none) = .ok (nI (l.filter fun c => decide (kd ks c = k))) := by
  rw [tlcP_filter (p := fun x : Int => decide (kd ks x.toNat = k)) (f := fun x => x) (by rw [nI_len]; unfold lim; omega), List.map_id', filt_nI' (p := fun i => decide (kd ks i = k))]
  intro x hx
  obtain ⟨i, hi, rfl⟩ := mem_nI.mp hx
  have hi := hl i hi
  rw [show (foO ps ks).kinds = ks from rfl, tix_at (d := lit "up") (by omega), TX.bind_ok, show ks.getD i (lit "up") = kd ks i from rfl, Int.toNat_natCast]
  by_cases c : kd ks i = k
  · rw [if_pos (by rw [teq_iff]; exact c), if_pos (decide_eq_true c)]
  · rw [if_neg (by rw [teq_iff]; exact c), if_neg (by simpa using c)]
theorem kids_lt {p : Option Nat} : ∀ i ∈ (List.range ps.length).filter fun c => decide (par ps c = p), i < ps.length := fun i hi => List.mem_range.mp (List.mem_filter.mp hi).1
theorem kids_len {p : Option Nat} : ((List.range ps.length).filter fun c => decide (par ps c = p)).length ≤ ps.length := Nat.le_trans (List.length_filter_le _ _) (by simp)
theorem nI_emp {l : List Nat} : (nI l).isEmpty = l.isEmpty := by cases l <;> rfl
theorem pN_int : ([(none : Option Int)] ++ (((List.range ps.length).map fun i : Nat => (i : Int)).map fun (z : Int) => (some z))) = (pN ps).map oI := by
  unfold pN
  rw [List.map_cons, List.map_map, List.map_map]
  rfl
theorem th_hungN (hk : ks.length = ps.length) (hn : ps.length ≤ 16) (k : OS) : t_hung_classes (foO ps ks) k = .ok ((clN ps ks k).map eC) := by
  unfold t_hung_classes
  rw [show (foO ps ks).fields = (ps.length : Int) from rfl, trg_nat (by unfold lim; omega), TX.bind_ok, tcat_ok (by simp [lim]; omega), TX.bind_ok, pN_int, TX.bind_id]
  have go : ∀ (P : List (Option Nat)) (s : List (Option Int × List Int)), s.length + P.length ≤ 1000 → (tfold (P.map oI) s fun s4 x3 => TX.bind (t_Forest__children (foO ps ks) x3) fun v11 =>
      TX.bind (tlcP v11 fun x12 => TX.bind (tix (foO ps ks).kinds x12) fun v17 => if (teq v17 k) = true then (.ok (some x12)) else .ok none) fun v18 =>
      TX.bind (if (!v18.isEmpty) = true then (TX.bind (tapp s4 (x3, v18)) fun v21 => .ok v21) else (.ok s4)) fun s22 => .ok s22) = .ok (s ++ ((P.filter fun p => !(hgN ps ks k p).isEmpty).map fun p => (p, hgN ps ks k p)).map eC) := by
    intro P
    induction P with
    | nil => intro s _; simp
    | cons p P ih =>
      intro s hs
      rw [List.map_cons, tfold_cons, th_children hn, TX.bind_ok, th_hang hk k kids_lt (Nat.le_trans kids_len (by omega)), TX.bind_ok, nI_emp, show ((List.range ps.length).filter fun c => decide (par ps c = p)).filter (fun c => decide (kd ks c = k)) = hgN ps ks k p from rfl]
      by_cases c : (hgN ps ks k p).isEmpty = true
      · rw [if_neg (by rw [c]; decide), TX.bind_ok, TX.bind_ok, ih s (by simp at hs; omega), List.filter_cons_of_neg (p := fun p => !(hgN ps ks k p).isEmpty) (by rw [c]; decide)]
      · have c' : (!(hgN ps ks k p).isEmpty) = true := by simpa using c
        rw [if_pos c', tapp_ok (by unfold lim; simp at hs; omega), TX.bind_ok, TX.bind_ok, TX.bind_ok, ih _ (by simp at hs ⊢; omega), List.filter_cons_of_pos (p := fun p => !(hgN ps ks k p).isEmpty) c', List.map_cons, List.map_cons, List.append_assoc]
        rfl
  rw [go (pN ps) [] (by simp [pN]; omega)]
  rfl
theorem th_ccount (hk : ks.length = ps.length) (hn : ps.length ≤ 16) : t_class_count (foO ps ks) = .ok ((ccN ps ks : Nat) : Int) := by
  unfold t_class_count
  rw [th_rankedN hk hn, TX.bind_ok, th_hungN hk hn, TX.bind_ok, th_hungN hk hn, TX.bind_ok, nI_len, List.length_map, List.length_map]
  unfold ccN
  congr 1
theorem cl_len (k : OS) : (clN ps ks k).length = ((pN ps).filter fun p => !(hgN ps ks k p).isEmpty).length := by unfold clN; rw [List.length_map]
theorem hang_mem {p : Option Nat} (k : OS) : tmem k (((List.range ps.length).filter fun c => decide (par ps c = p)).map fun c => kd ks c) = !(hgN ps ks k p).isEmpty := by
  unfold hgN
  generalize (List.range ps.length).filter (fun c => decide (par ps c = p)) = l
  rw [Bool.eq_iff_iff, tmem_iff]
  constructor
  · intro h
    obtain ⟨c, hc, e⟩ := List.mem_map.mp h
    simp only [Bool.not_eq_true', List.isEmpty_eq_false_iff]
    exact List.ne_nil_of_mem (List.mem_filter.mpr ⟨hc, decide_eq_true e⟩)
  · intro h
    simp only [Bool.not_eq_true', List.isEmpty_eq_false_iff] at h
    obtain ⟨c, hc⟩ := List.exists_mem_of_ne_nil _ h
    have := List.mem_filter.mp hc
    exact List.mem_map.mpr ⟨c, this.1, of_decide_eq_true this.2⟩
theorem th_lccount (hk : ks.length = ps.length) (hn : ps.length ≤ 16) : t__law_class_count (ps.map oI) ks = .ok ((ccN ps ks : Nat) : Int) := by
  unfold t__law_class_count
  rw [List.length_map, trg_nat (by unfold lim; omega), TX.bind_ok]
  have one : ∀ (L : List Nat) (s : Nat), (∀ i ∈ L, i < ps.length) → (tfold (nI L) ((s : Nat) : Int) fun s3 x2 => TX.bind (TX.bind (if (!(tmem (some x2) (ps.map oI))) = true then (TX.bind (tix ks x2) fun v10 => .ok (tmem v10 [(lit "up"), (lit "down")])) else .ok false) fun v11 =>
      if v11 = true then (.ok (s3 + (1 : Int))) else (.ok s3)) fun s12 => .ok s12) = .ok (((s + ((L.filter fun i => !decide (some i ∈ ps)).filter fun i => rkB (kd ks i)).length : Nat) : Int)) := by
    intro L
    induction L with
    | nil => intro s _; rfl
    | cons i L ih =>
      intro s hL
      have hi := hL i List.mem_cons_self
      have ih' := fun s => ih s fun j hj => hL j (List.mem_cons_of_mem _ hj)
      have tm : tmem (some (i : Int)) (ps.map oI) = decide (some i ∈ ps) := by
        by_cases c : some i ∈ ps
        · rw [decide_eq_true c, tmem_iff, mem_oI]; exact c
        · rw [decide_eq_false c, tmem_iffF, mem_oI]; exact c
      rw [nI_cons, tfold_cons, tm]
      by_cases c : some i ∈ ps
      · rw [decide_eq_true c, if_neg (by decide), TX.bind_ok, if_neg (by decide), TX.bind_ok, TX.bind_ok, ih' s, List.filter_cons_of_neg (p := fun i => !decide (some i ∈ ps)) (by simp [c])]
      · rw [decide_eq_false c, if_pos (by decide), tix_at (d := lit "up") (by omega), TX.bind_ok, TX.bind_ok, show ks.getD i (lit "up") = kd ks i from rfl, List.filter_cons_of_pos (p := fun i => !decide (some i ∈ ps)) (by simp [c])]
        have rk : tmem (kd ks i) [lit "up", lit "down"] = rkB (kd ks i) := by
          rw [Bool.eq_iff_iff, tmem_iff, rkB_iff]
          unfold Rk
          simp
        rw [rk]
        by_cases r : rkB (kd ks i) = true
        · rw [if_pos r, TX.bind_ok, TX.bind_ok, List.filter_cons_of_pos (p := fun i => rkB (kd ks i)) r, List.length_cons]
          have := ih' (s + 1)
          rw [show ((s + 1 : Nat) : Int) = (s : Int) + 1 by omega] at this
          rw [this]
          congr 1
          omega
        · rw [if_neg r, TX.bind_ok, TX.bind_ok, List.filter_cons_of_neg (p := fun i => rkB (kd ks i)) r, ih' s]
  have o1 := one (List.range ps.length) 0 fun i hi => List.mem_range.mp hi
  rw [show ((List.range ps.length).map fun i : Nat => (i : Int)) = nI (List.range ps.length) from rfl]
  rw [show ((0 : Nat) : Int) = 0 from rfl] at o1
  rw [o1, TX.bind_ok, TX.bind_ok, show nI (List.range ps.length) = ((List.range ps.length).map fun i : Nat => (i : Int)) from rfl, tcat_ok (by simp [lim]; omega), TX.bind_ok, pN_int, TX.bind_id]
  have two : ∀ (P : List (Option Nat)) (s : Nat), (tfold (P.map oI) ((s : Nat) : Int) fun s26 x25 => TX.bind (.ok ((List.range ps.length).map fun i : Nat => (i : Int))) fun v33 =>
      TX.bind (tlcP v33 fun x34 => TX.bind (tix (ps.map oI) x34) fun v39 => if (teq v39 x25) = true then (TX.bind (tix ks x34) fun v40 => .ok (some v40)) else .ok none) fun v41 =>
      .ok ((s26 + (b2i (tmem (lit "first") v41))) + (b2i (tmem (lit "last") v41)))) = .ok (((s + (P.filter fun p => !(hgN ps ks (lit "first") p).isEmpty).length + (P.filter fun p => !(hgN ps ks (lit "last") p).isEmpty).length : Nat) : Int)) := by
    intro P
    induction P with
    | nil => intro s; rfl
    | cons p P ih =>
      intro s
      have kids : (tlcP ((List.range ps.length).map fun i : Nat => (i : Int)) fun x34 => TX.bind (tix (ps.map oI) x34) fun v39 => if (teq v39 (oI p)) = true then (TX.bind (tix ks x34) fun v40 => .ok (some v40)) else .ok none) = .ok (((List.range ps.length).filter fun c => decide (par ps c = p)).map fun c => kd ks c) := by
        rw [tlcP_filter (p := fun x : Int => decide (par ps x.toNat = p)) (f := fun x => kd ks x.toNat) (by simp [lim]; omega), filt_nI (p := fun i => decide (par ps i = p))]
        · unfold nI; rw [List.map_map]; rfl
        · intro x hx
          obtain ⟨i, rfl, hi⟩ := mem_rg hx
          rw [par_tix hi, TX.bind_ok, Int.toNat_natCast]
          by_cases c : par ps i = p
          · rw [if_pos (by rw [teq_iff, c]), if_pos (decide_eq_true c), tix_at (d := lit "up") (by omega), TX.bind_ok]; rfl
          · rw [if_neg (by rw [teq_iff, par_iff hi]; exact c), if_neg (by simpa using c)]
      rw [List.map_cons, tfold_cons, TX.bind_ok, kids, TX.bind_ok, TX.bind_ok, hang_mem, hang_mem]
      have add : ∀ b : Bool, b2i b = ((if b = true then 1 else 0 : Nat) : Int) := fun b => by cases b <;> rfl
      rw [add, add]
      have := ih (s + (if (!(hgN ps ks (lit "first") p).isEmpty) = true then 1 else 0) + (if (!(hgN ps ks (lit "last") p).isEmpty) = true then 1 else 0))
      rw [show ((s : Int) + ((if (!(hgN ps ks (lit "first") p).isEmpty) = true then 1 else 0 : Nat) : Int) + ((if (!(hgN ps ks (lit "last") p).isEmpty) = true then 1 else 0 : Nat) : Int)) = ((s + (if (!(hgN ps ks (lit "first") p).isEmpty) = true then 1 else 0) + (if (!(hgN ps ks (lit "last") p).isEmpty) = true then 1 else 0) : Nat) : Int) by omega, this]
      congr 1
      rw [List.filter_cons, List.filter_cons]
      split <;> split <;> simp <;> omega
  rw [two (pN ps)]
  congr 1
  unfold ccN
  rw [cl_len, cl_len]
  unfold rlN lvN
  omega
end
end Law
set_option linter.all false
set_option maxRecDepth 100000
set_option Elab.async false
namespace Law
open VL VT PySem
open My (par Acy path par_lt par_get par_mem mem_par par_set path_root path_step path_len path_lt path_self)
def fstN (l : List Nat) : Nat := l.getD 0 0
section
variable {ps : List (Option Nat)} {ks : List OS} {R : List (List Int)}
theorem fst_mem {l : List Nat} (h : l ≠ []) : fstN l ∈ l := by
  cases l with
  | nil => exact absurd rfl h
  | cons a l => exact List.mem_cons_self
theorem mem_hg {k : OS} {p : Option Nat} {c : Nat} : c ∈ hgN ps ks k p ↔ c < ps.length ∧ par ps c = p ∧ kd ks c = k := by
  unfold hgN
  simp only [List.mem_filter, List.mem_range, decide_eq_true_eq]
  exact ⟨fun h => ⟨h.1.1, h.1.2, h.2⟩, fun h => ⟨⟨h.1, h.2.1⟩, h.2.2⟩⟩
theorem mem_cl {k : OS} {p : Option Nat} {h : List Nat} : (p, h) ∈ clN ps ks k ↔ p ∈ pN ps ∧ hgN ps ks k p ≠ [] ∧ h = hgN ps ks k p := by
  unfold clN
  rw [List.mem_map]
  constructor
  · rintro ⟨q, hq, e⟩
    cases e
    have := List.mem_filter.mp hq
    exact ⟨this.1, by simpa using this.2, rfl⟩
  · rintro ⟨h1, h2, rfl⟩
    exact ⟨p, List.mem_filter.mpr ⟨h1, by simpa using h2⟩, rfl⟩
theorem cl_of {f : Nat} (ac : Acy ps) (hf : f < ps.length) : (par ps f, hgN ps ks (kd ks f) (par ps f)) ∈ clN ps ks (kd ks f) := by
  refine mem_cl.mpr ⟨?_, List.ne_nil_of_mem (mem_hg.mpr ⟨hf, rfl, rfl⟩), rfl⟩
  unfold pN
  cases q : par ps f with
  | none => exact List.mem_cons_self
  | some p => exact List.mem_cons_of_mem _ (List.mem_map_of_mem (List.mem_range.mpr (ac.lt q)))
end
end Law
set_option linter.all false
set_option maxRecDepth 100000
set_option Elab.async false
namespace Law
open VL VT PySem
open My (par Acy path par_lt par_get par_mem mem_par par_set path_root path_step path_len path_lt path_self)
theorem getD_nI {l : List Nat} {j : Nat} : (nI l).getD j 0 = ((l.getD j 0 : Nat) : Int) := by
  unfold nI
  simp only [List.getD_eq_getElem?_getD, List.getElem?_map]
  cases l[j]? <;> rfl
section
variable {ps : List (Option Nat)} {ks : List OS}
theorem pN_len : (pN ps).length = ps.length + 1 := by simp [pN]
theorem cl_le {k : OS} : (clN ps ks k).length ≤ ps.length + 1 := by
  rw [cl_len]
  exact Nat.le_trans (List.length_filter_le _ _) (by rw [pN_len]; omega)
theorem rl_le : (rlN ps ks).length ≤ ps.length := Nat.le_trans (List.length_filter_le _ _) (Nat.le_trans (List.length_filter_le _ _) (by simp))
end
end Law
set_option linter.all false
set_option maxRecDepth 100000
set_option synthInstance.maxSize 2000
set_option Elab.async false
namespace Law
open VL VT PySem
open My (par Acy path par_lt par_get par_mem mem_par par_set path_root path_step path_len path_lt path_self)
section
variable {ps : List (Option Nat)} {ks : List OS}
theorem path_rank {r : Nat → Nat} (ac : Acy ps) (hr : ∀ {i p : Nat}, par ps i = some p → r p < r i) : ∀ (n i : Nat), r i ≤ n → ∀ j ∈ path ps i, r j ≤ r i := by
  intro n
  induction n with
  | zero =>
    intro i hi j hj
    cases e : par ps i with
    | none => rw [path_root e] at hj; rw [List.mem_singleton.mp hj]; exact Nat.le_refl _
    | some p => have := hr e; omega
  | succ n ih =>
    intro i hi j hj
    cases e : par ps i with
    | none => rw [path_root e] at hj; rw [List.mem_singleton.mp hj]; exact Nat.le_refl _
    | some p =>
      have h1 := hr e
      rw [path_step ac e] at hj
      rcases List.mem_append.mp hj with hj | hj
      · have := ih p (by omega) j hj; omega
      · rw [List.mem_singleton.mp hj]; exact Nat.le_refl _
theorem not_anc (ac : Acy ps) (f : Nat) : f ∉ anc ps f := by
  obtain ⟨r, r1, r2⟩ := ac.rk
  unfold anc
  cases e : par ps f with
  | none => simp
  | some p =>
    intro h
    have h1 := path_rank ac r2 (r p) p (Nat.le_refl _) f h
    have h2 := r2 e
    omega
theorem anc_path (ac : Acy ps) {f g : Nat} (h : g ∈ anc ps f) : g ∈ path ps f := by rw [path_anc ac]; exact List.mem_append_left _ h
theorem th_raisedF (k : OS) (v : Int) : t_raised k v 1 = .ok (rz k v) := by
  unfold t_raised rz
  simp only [teq_iff]
  split <;> rfl
theorem tvk_0 {k : OS} : tvk k 0 = 0 := by unfold tvk; split <;> rfl
theorem tvk_rz {k : OS} : tvk k (rz k 0) = 1 := by
  unfold tvk rz
  split <;> rfl
theorem tmem_nI {a : Nat} {l : List Nat} : tmem (a : Int) (nI l) = decide (a ∈ l) := by
  by_cases c : a ∈ l
  · rw [decide_eq_true c, tmem_iff]; exact mem_nIc.mpr c
  · rw [decide_eq_false c, tmem_iffF]; exact fun z => c (mem_nIc.mp z)
theorem leaf_over (ac : Acy ps) (f : Nat) : ∀ (k g : Nat), ps.length - (path ps g).length ≤ k → g < ps.length → f ∈ path ps g → ∃ l, l ∈ lvN ps ∧ f ∈ path ps l := by
  intro k
  induction k with
  | zero =>
    intro g hk hg hf
    refine ⟨g, List.mem_filter.mpr ⟨List.mem_range.mpr hg, ?_⟩, hf⟩
    rw [Bool.not_eq_true', decide_eq_false_iff_not]
    intro hm
    obtain ⟨c, hc⟩ := mem_par hm
    have l1 := path_len ac (par_lt hc)
    rw [path_step ac hc, List.length_append, List.length_singleton] at l1
    omega
  | succ k ih =>
    intro g hk hg hf
    by_cases hm : some g ∈ ps
    · obtain ⟨c, hc⟩ := mem_par hm
      have l1 := path_len ac (par_lt hc)
      have e := path_step ac hc
      refine ih c ?_ (par_lt hc) ?_
      · rw [e, List.length_append, List.length_singleton] at l1 ⊢; omega
      · rw [e]; exact List.mem_append_left _ hf
    · exact ⟨g, List.mem_filter.mpr ⟨List.mem_range.mpr hg, by rw [Bool.not_eq_true', decide_eq_false_iff_not]; exact hm⟩, hf⟩
end
end Law
set_option linter.all false
set_option maxRecDepth 100000
set_option synthInstance.maxSize 2000
set_option Elab.async false
set_option linter.all false
set_option maxRecDepth 100000
set_option synthInstance.maxSize 2000
set_option Elab.async false
namespace Law
open VL VT PySem
open My (par Acy path par_lt par_get par_mem mem_par par_set path_root path_step path_len path_lt path_self)
/-- lexicographic: no entry is greater -/
theorem lx_pt : ∀ {a b : List Int}, a.length = b.length → (∀ i, i < a.length → a.getD i 0 ≤ b.getD i 0) → lxb b a = false
  | [], [], _, _ => rfl
  | x :: a, y :: b, hl, h => by
    have h0 := h 0 (by simp)
    have ih := lx_pt (a := a) (b := b) (by simpa using hl) fun i hi => by
      have := h (i + 1) (by simpa using hi)
      simpa [List.getD] using this
    simp only [List.getD, List.getElem?_cons_zero, Option.getD_some] at h0
    unfold lxb
    simp only [ih, Bool.and_false, Bool.or_false]
    by_cases c : y < x
    · omega
    · simp [c]
section
variable {ps : List (Option Nat)} {ks : List OS}
theorem leaf_only (ac : Acy ps) {l f : Nat} (h : some l ∉ ps) (hp : l ∈ path ps f) : l = f := by
  rcases path_has_child ac _ f (Nat.le_refl _) l hp with e | e
  · exact e
  · exact absurd e h
end
end Law
set_option linter.all false
set_option maxRecDepth 100000
set_option synthInstance.maxSize 2000
set_option Elab.async false
namespace Law
open VL VT PySem
open My (par Acy path par_lt par_get par_mem mem_par par_set path_root path_step path_len path_lt path_self)
section
variable {ps : List (Option Nat)} {ks : List OS}
theorem lv_lt {l : Nat} (h : l ∈ lvN ps) : l < ps.length := List.mem_range.mp (List.mem_filter.mp h).1
theorem lv_leaf {l : Nat} (h : l ∈ lvN ps) : some l ∉ ps := by
  have := (List.mem_filter.mp h).2
  simpa using this
end
end Law
set_option linter.all false
set_option maxRecDepth 100000
set_option synthInstance.maxSize 2000
set_option Elab.async false
set_option linter.all false
set_option maxRecDepth 100000
set_option synthInstance.maxSize 2000
set_option Elab.async false
namespace Law
open VL VT PySem
structure Lin {α : Type} (lt : α → α → Bool) : Prop where
  irr : ∀ a, lt a a = false
  tr : ∀ {a b c}, lt a b = true → lt b c = true → lt a c = true
  tri : ∀ {a b}, lt a b = false → lt b a = false → a = b
theorem lin_I : Lin (Od.lt PV.int) where
  irr a := by show decide (a < a) = false; simp
  tr h1 h2 := by
    have h1 := of_decide_eq_true h1
    have h2 := of_decide_eq_true h2
    exact decide_eq_true (by omega)
  tri h1 h2 := by
    have h1 := of_decide_eq_false h1
    have h2 := of_decide_eq_false h2
    omega
section
variable {α β : Type} [DecidableEq α] [DecidableEq β] {e : α → PV} {f : β → PV} [Od e] [Od f]
theorem ltL_irr (h : Lin (Od.lt e)) : ∀ a : List α, ltL e a a = false
  | [] => rfl
  | x :: a => by rw [ltL, if_pos rfl]; exact ltL_irr h a
theorem ltL_tr (h : Lin (Od.lt e)) : ∀ {a b c : List α}, ltL e a b = true → ltL e b c = true → ltL e a c = true
  | [], [], _, h1, _ => by cases h1
  | [], _ :: _, [], _, h2 => by cases h2
  | [], _ :: _, _ :: _, _, _ => rfl
  | _ :: _, [], _, h1, _ => by cases h1
  | _ :: _, _ :: _, [], _, h2 => by cases h2
  | x :: a, y :: b, z :: c, h1, h2 => by
    rw [ltL] at h1 h2 ⊢
    by_cases q : x = y
    · subst q
      rw [if_pos rfl] at h1
      by_cases p : x = z
      · subst p
        rw [if_pos rfl] at h2 ⊢
        exact ltL_tr h h1 h2
      · rw [if_neg p] at h2 ⊢
        exact h2
    · rw [if_neg q] at h1
      by_cases p : y = z
      · subst p
        rw [if_neg q]
        exact h1
      · rw [if_neg p] at h2
        by_cases r : x = z
        · subst r
          have := h.tr h1 h2
          rw [h.irr] at this
          cases this
        · rw [if_neg r]
          exact h.tr h1 h2
theorem ltL_tri (h : Lin (Od.lt e)) : ∀ {a b : List α}, ltL e a b = false → ltL e b a = false → a = b
  | [], [], _, _ => rfl
  | [], _ :: _, h1, _ => by cases h1
  | _ :: _, [], _, h2 => by cases h2
  | x :: a, y :: b, h1, h2 => by
    rw [ltL] at h1 h2
    by_cases q : x = y
    · subst q
      rw [if_pos rfl] at h1 h2
      rw [ltL_tri h h1 h2]
    · rw [if_neg q] at h1
      rw [if_neg (fun z => q z.symm)] at h2
      exact absurd (h.tri h1 h2) q
theorem lin_L (h : Lin (Od.lt e)) : Lin (Od.lt (VT.kT e)) where
  irr := ltL_irr h
  tr := ltL_tr h
  tri := ltL_tri h
theorem lin_P (h1 : Lin (Od.lt e)) (h2 : Lin (Od.lt f)) : Lin (Od.lt (VT.kP2 e f)) where
  irr p := by
    show ltP2 e f p p = false
    unfold ltP2
    rw [if_pos rfl]
    exact h2.irr _
  tr {p q r} a b := by
    change ltP2 e f p q = true at a
    change ltP2 e f q r = true at b
    show ltP2 e f p r = true
    unfold ltP2 at a b ⊢
    by_cases x : p.1 = q.1
    · rw [if_pos x] at a
      by_cases y : q.1 = r.1
      · rw [if_pos y] at b
        rw [if_pos (x.trans y)]
        exact h2.tr a b
      · rw [if_neg y] at b
        rw [if_neg (fun z => y (x.symm.trans z)), x]
        exact b
    · rw [if_neg x] at a
      by_cases y : q.1 = r.1
      · rw [if_neg (fun z => x (z.trans y.symm)), ← y]
        exact a
      · rw [if_neg y] at b
        by_cases z : p.1 = r.1
        · rw [z] at a
          have := h1.tr a b
          rw [h1.irr] at this
          cases this
        · rw [if_neg z]
          exact h1.tr a b
  tri {p q} a b := by
    change ltP2 e f p q = false at a
    change ltP2 e f q p = false at b
    unfold ltP2 at a b
    by_cases x : p.1 = q.1
    · rw [if_pos x] at a
      rw [if_pos x.symm] at b
      exact Prod.ext x (h2.tri a b)
    · rw [if_neg x] at a
      rw [if_neg (fun z => x z.symm)] at b
      exact absurd (h1.tri a b) x
theorem sortT_perm (xs : List α) : (sortT e xs).Perm xs := List.mergeSort_perm _ _
theorem sortT_asc (h : Lin (Od.lt e)) (xs : List α) : (sortT e xs).Pairwise fun a b => Od.lt e b a = false := by
  have := List.pairwise_mergeSort (le := leT e) (fun a b c h1 h2 => by
    unfold leT at *
    simp only [Bool.not_eq_true'] at *
    cases q : Od.lt e c a with
    | false => rfl
    | true =>
      by_cases x : Od.lt e a b = true
      · have := h.tr q x
        rw [h2] at this
        cases this
      · have := h.tri (by simpa using x) h1
        subst this
        rw [h2] at q
        cases q) (fun a b => by
    unfold leT
    cases q : Od.lt e b a with
    | false => rfl
    | true =>
      cases p : Od.lt e a b with
      | false => rfl
      | true =>
        have := h.tr q p
        rw [h.irr] at this
        cases this) xs
  exact this.imp fun {a b} h => by
    unfold leT at h
    simpa using h
end
end Law
set_option linter.all false
set_option maxRecDepth 100000
set_option synthInstance.maxSize 2000
set_option Elab.async false
namespace Law
open VL VT PySem
open My (par Acy path par_lt par_get par_mem mem_par par_set path_root path_step path_len path_lt path_self)
section
variable {ps : List (Option Nat)} {ks : List OS}
theorem path_prf (ac : Acy ps) {p : Nat} : ∀ (n q : Nat), (path ps q).length ≤ n → p ∈ path ps q → ∃ r, path ps q = path ps p ++ r := by
  intro n
  induction n with
  | zero =>
    intro q hq hp
    have : path ps q = [] := List.eq_nil_of_length_eq_zero (by omega)
    rw [this] at hp
    cases hp
  | succ n ih =>
    intro q hq hp
    cases e : par ps q with
    | none =>
      rw [path_root e] at hp ⊢
      rw [List.mem_singleton.mp hp, path_root e]
      exact ⟨[], rfl⟩
    | some q' =>
      have e2 := path_step ac e
      rw [e2] at hp hq ⊢
      rw [List.length_append, List.length_singleton] at hq
      rcases List.mem_append.mp hp with hp | hp
      · obtain ⟨r, er⟩ := ih q' (by omega) hp
        rw [er]
        exact ⟨r ++ [q], by rw [List.append_assoc]⟩
      · rw [List.mem_singleton.mp hp]
        exact ⟨[], by rw [List.append_nil, e2]⟩
theorem par_eq (ac : Acy ps) {f d : Nat} (h : ∀ j ∈ anc ps f, j ∈ anc ps d) (hl : (anc ps d).length ≤ (anc ps f).length) : par ps d = par ps f := by
  have ne : ∀ q, path ps q ≠ [] := fun q z => by have := path_self ps ac q; rw [z] at this; cases this
  unfold anc at h hl
  cases ef : par ps f with
  | none =>
    rw [ef] at hl
    cases ed : par ps d with
    | none => rfl
    | some q =>
      rw [ed] at hl
      exact absurd (List.eq_nil_of_length_eq_zero (Nat.le_zero.mp hl)) (ne q)
  | some p =>
    rw [ef] at h hl
    have hp := h p (path_self ps ac p)
    cases ed : par ps d with
    | none => rw [ed] at hp; cases hp
    | some q =>
      rw [ed] at hp hl
      simp only at hp hl
      obtain ⟨r, er⟩ := path_prf ac _ q (Nat.le_refl _) hp
      have hr : r = [] := by
        rw [er, List.length_append] at hl
        exact List.eq_nil_of_length_eq_zero (by omega)
      rw [hr, List.append_nil, path_anc ac, path_anc ac] at er
      have := congrArg List.getLast? er
      simp at this
      rw [this]
def wy (ps : List (Option Nat)) (C : List Nat) : Nat := (path ps (fstN C)).length
def rcC (ps : List (Option Nat)) (ks : List OS) (C : List Nat) : List Int := (List.range ps.length).map fun g => if g ∈ path ps (fstN C) ++ C then rz (kd ks g) 0 else 0
theorem rcC_len {C : List Nat} : (rcC ps ks C).length = ps.length := by simp [rcC]
theorem rcC_at {C : List Nat} {g : Nat} (h : g < ps.length) : (rcC ps ks C).getD g 0 = if g ∈ path ps (fstN C) ++ C then rz (kd ks g) 0 else 0 := by simp [rcC, List.getD, h]
/-- the leaves of a kind beneath one parent, or one ranked leaf -/
inductive Klas (ps : List (Option Nat)) (ks : List OS) : List Nat → Prop
  | rk (f : Nat) (hf : f ∈ rlN ps ks) : Klas ps ks [f]
  | hg (k : OS) (hk : k = lit "first" ∨ k = lit "last") (p : Option Nat) (h : hgN ps ks k p ≠ []) : Klas ps ks (hgN ps ks k p)
theorem Klas.ne {C : List Nat} (h : Klas ps ks C) : C ≠ [] := by
  cases h with
  | rk f hf => simp
  | hg k hk p h => exact h
theorem fl_ne : (lit "first" : OS) ≠ lit "last" := by decide
theorem Klas.leaf (ok : FOk ps ks) {C : List Nat} (h : Klas ps ks C) : ∀ f ∈ C, f < ps.length ∧ some f ∉ ps := by
  intro f hf
  cases h with
  | rk g hg =>
    rw [List.mem_singleton.mp hf]
    have := (List.mem_filter.mp hg).1
    exact ⟨lv_lt this, lv_leaf this⟩
  | hg k hk p h =>
    obtain ⟨h1, h2, h3⟩ := mem_hg.mp hf
    refine ⟨h1, ?_⟩
    have hl : f < ks.length := by rw [ok.k.len]; exact h1
    refine ok.k.leaf f (kd ks f) ?_ ?_ ?_
    · simp [kd, List.getD, hl]
    · rw [h3]; rcases hk with rfl | rfl <;> decide
    · rw [h3]; rcases hk with rfl | rfl <;> decide
theorem rl_rk {f : Nat} (h : f ∈ rlN ps ks) : Rk (kd ks f) := rkB_iff.mp (List.mem_filter.mp h).2
theorem Klas.dj {C D : List Nat} (hC : Klas ps ks C) (hD : Klas ps ks D) {f : Nat} (h1 : f ∈ C) (h2 : f ∈ D) : C = D := by
  have no : ∀ {k : OS}, (k = lit "first" ∨ k = lit "last") → kd ks f = k → ¬ Rk (kd ks f) := fun hk e r => by
    rcases hk with z | z
    · exact r.nf.1 (e.trans z)
    · exact r.nf.2 (e.trans z)
  cases hC with
  | rk a ha =>
    obtain rfl := List.mem_singleton.mp h1
    cases hD with
    | rk b hb => rw [List.mem_singleton.mp h2]
    | hg k hk p h => exact absurd (rl_rk ha) (no hk (mem_hg.mp h2).2.2)
  | hg k hk p h =>
    cases hD with
    | rk b hb =>
      obtain rfl := List.mem_singleton.mp h2
      exact absurd (rl_rk hb) (no hk (mem_hg.mp h1).2.2)
    | hg k' hk' p' h' =>
      obtain ⟨_, e1, e2⟩ := mem_hg.mp h1
      obtain ⟨_, e3, e4⟩ := mem_hg.mp h2
      rw [← e1, ← e2, ← e3, ← e4]
theorem Klas.hang {C : List Nat} (hC : Klas ps ks C) {k : OS} (hk : k = lit "first" ∨ k = lit "last") {f : Nat} (h1 : f ∈ C) (h2 : kd ks f = k) : C = hgN ps ks k (par ps f) := by
  cases hC with
  | rk a ha =>
    obtain rfl := List.mem_singleton.mp h1
    have r := rl_rk ha
    rcases hk with z | z
    · exact absurd (h2.trans z) r.nf.1
    · exact absurd (h2.trans z) r.nf.2
  | hg k' hk' p' h' =>
    obtain ⟨_, e3, e4⟩ := mem_hg.mp h1
    rw [← e3, ← e4, ← h2]
structure Row (ps : List (Option Nat)) (ks : List OS) (F M G : List (List Nat)) : Prop where
  cls : ∀ C ∈ F ++ (M ++ G), Klas ps ks C
  nd : (F ++ (M ++ G)).Nodup
  ne : F ++ (M ++ G) ≠ []
  fa : F.Pairwise fun C D => wy ps C ≤ wy ps D
  ga : G.Pairwise fun C D => wy ps D ≤ wy ps C
  fk : ∀ C ∈ F, ∀ f ∈ C, kd ks f = lit "first"
  mdk : ∀ C ∈ M, ∀ f ∈ C, Rk (kd ks f)
  gk : ∀ C ∈ G, ∀ f ∈ C, kd ks f = lit "last"
variable {F M G : List (List Nat)}
/-- the leaves of a class are raised by its own record alone -/
theorem mark0 (ok : FOk ps ks) {C D : List Nat} (hC : Klas ps ks C) (hD : Klas ps ks D) (ne : C ≠ D) {f : Nat} (hf : f ∈ C) : (rcC ps ks D).getD f 0 = 0 := by
  obtain ⟨h1, h2⟩ := hC.leaf ok f hf
  rw [rcC_at h1, if_neg]
  intro z
  have : f ∈ D := by
    rcases List.mem_append.mp z with z | z
    · rw [leaf_only ok.acy h2 z]
      exact fst_mem hD.ne
    · exact z
  exact ne (hC.dj hD hf this)
theorem rcC_le {D : List Nat} {js : List Nat} (hj : ∀ j ∈ js, j < ps.length) {C : List Nat} (hC : ∀ j ∈ js, j ∈ path ps (fstN C)) : lxb (tvL ks (rcC ps ks C) js) (tvL ks (rcC ps ks D) js) = false := by
  refine lx_pt tvL_len fun i hi => ?_
  have hi : i < js.length := by simpa [tvL] using hi
  have hm := List.getElem_mem hi
  have e1 : ∀ r : List Int, (tvL ks r js).getD i 0 = tvk (kd ks js[i]) (r.getD js[i] 0) := fun r => by simp [tvL, List.getD, hi]
  rw [e1, e1, rcC_at (hj _ hm), rcC_at (hj _ hm), if_pos (List.mem_append_left _ (hC _ hm)), tvk_rz]
  split
  · rw [tvk_rz]; exact Int.le_refl _
  · rw [tvk_0]; decide
/-- a class of the same kind that is kept along the same way is the same one -/
theorem one_cls (ok : FOk ps ks) {C D : List Nat} (hC : Klas ps ks C) (hD : Klas ps ks D) {k : OS} (hk : k = lit "first" ∨ k = lit "last") (kC : ∀ f ∈ C, kd ks f = k) (kD : ∀ f ∈ D, kd ks f = k) (hw : wy ps D ≤ wy ps C) {f : Nat} (hf : f ∈ C)
    (e : tvL ks (rcC ps ks D) (anc ps f) = tvL ks (rcC ps ks C) (anc ps f)) : C = D := by
  obtain ⟨f1, f2⟩ := hC.leaf ok f hf
  have m0 := fst_mem hC.ne
  have d0 := fst_mem hD.ne
  obtain ⟨d1, d2⟩ := hD.leaf ok _ d0
  have hp : ∀ g ∈ C, par ps g = par ps f := fun g hg => by
    have a := hC.hang hk hf (kC f hf)
    rw [a] at hg
    exact (mem_hg.mp hg).2.1
  have an : anc ps (fstN C) = anc ps f := by unfold anc; rw [hp _ m0]
  have sub : ∀ j ∈ anc ps f, j ∈ anc ps (fstN D) := by
    intro j hj
    have jl := anc_lt ok.acy f1 j hj
    have v := tvL_eq.mp e j hj
    have jc : j ∈ path ps (fstN C) ++ C := by
      rw [← an] at hj
      exact List.mem_append_left _ (anc_path ok.acy hj)
    rw [rcC_at jl, rcC_at jl, if_pos jc] at v
    have jd : j ∈ path ps (fstN D) ++ D := by
      by_cases z : j ∈ path ps (fstN D) ++ D
      · exact z
      · rw [if_neg z] at v
        exact absurd v.symm rz_ne
    have ch : some j ∈ ps := by
      rcases path_has_child ok.acy _ f (Nat.le_refl _) j (anc_path ok.acy hj) with z | z
      · exact absurd (z ▸ hj) (not_anc ok.acy f)
      · exact z
    rcases List.mem_append.mp jd with z | z
    · rw [path_anc ok.acy] at z
      rcases List.mem_append.mp z with z | z
      · exact z
      · rw [List.mem_singleton.mp z] at ch
        exact absurd ch d2
    · exact absurd ch (hD.leaf ok j z).2
  have len : (anc ps (fstN D)).length ≤ (anc ps f).length := by
    unfold wy at hw
    rw [path_anc ok.acy, path_anc ok.acy, an] at hw
    simpa using hw
  have pe := par_eq ok.acy sub len
  refine hC.dj hD ?_ d0 (f := fstN D)
  rw [hC.hang hk hf (kC f hf)]
  exact mem_hg.mpr ⟨d1, pe, kD _ d0⟩
theorem rr_mapC {W : List (List Nat)} {i : Nat} (h : i < W.length) : rr (W.map (rcC ps ks)) i = rcC ps ks W[i] := by simp [rr, List.getD, h]
theorem mark1 (ok : FOk ps ks) (r : Row ps ks F M G) {C : List Nat} (hC : C ∈ F ++ (M ++ G)) : (endL ps ks ((F ++ (M ++ G)).map (rcC ps ks))).getD (fstN C) 0 = rz (kd ks (fstN C)) 0 := by
  obtain ⟨c, hc, ec⟩ := List.getElem_of_mem hC
  have cC := r.cls C hC
  have m0 := fst_mem cC.ne
  obtain ⟨f1, f2⟩ := cC.leaf ok _ m0
  have hne : (F ++ (M ++ G)).map (rcC ps ks) ≠ [] := by
    intro z
    exact r.ne (List.map_eq_nil_iff.mp z)
  have own : (rcC ps ks C).getD (fstN C) 0 = rz (kd ks (fstN C)) 0 := by rw [rcC_at f1, if_pos (List.mem_append_right _ m0)]
  have hlen : ((F ++ (M ++ G)).map (rcC ps ks)).length = (F ++ (M ++ G)).length := List.length_map _
  have rc : rr ((F ++ (M ++ G)).map (rcC ps ks)) c = rcC ps ks C := by rw [rr_mapC hc, ec]
  have best : ∀ js, (∀ j ∈ js, j < ps.length) → (∀ j ∈ js, j ∈ path ps (fstN C)) → ∀ i, i < (F ++ (M ++ G)).length → lxb (tvL ks (rcC ps ks C) js) (tvL ks (rr ((F ++ (M ++ G)).map (rcC ps ks)) i) js) = false := fun js h1 h2 i hi => by
    rw [rr_mapC hi]
    exact rcC_le h1 h2
  have ancl : ∀ j ∈ anc ps (fstN C), j < ps.length := anc_lt ok.acy f1
  have ancp : ∀ j ∈ anc ps (fstN C), j ∈ path ps (fstN C) := fun j hj => anc_path ok.acy hj
  have eqA : ∀ i, i < (F ++ (M ++ G)).length → tvL ks (rr ((F ++ (M ++ G)).map (rcC ps ks)) i) (anc ps (fstN C)) = tvL ks (endL ps ks ((F ++ (M ++ G)).map (rcC ps ks))) (anc ps (fstN C)) → tvL ks (rr ((F ++ (M ++ G)).map (rcC ps ks)) i) (anc ps (fstN C)) = tvL ks (rcC ps ks C) (anc ps (fstN C)) := fun i hi e => by
    obtain ⟨mx, _⟩ := end_max ok (way_anc ok (fstN C)) _ hne
    have a := mx c (by rw [hlen]; exact hc)
    rw [rc, ← e] at a
    exact lx_tri tvL_len a (best _ ancl ancp i hi)
  have w4 := kd_w4 ok.k.four (fstN C)
  rcases w4_cases w4 with rk | hf | hl
  · obtain ⟨mx, i, hi, e⟩ := end_max ok (.path (fstN C) f1 (path_rk ok rk)) _ hne
    have a := mx c (by rw [hlen]; exact hc)
    rw [rc, ← e] at a
    have t := lx_tri tvL_len a (best _ (path_lt ok.acy f1) (fun j hj => hj) i (by rw [← hlen]; exact hi))
    have := tvL_eq.mp (e.symm.trans t) (fstN C) (path_self ps ok.acy (fstN C))
    rw [this, own]
  · obtain ⟨i, hi, e1, e2, e3⟩ := end_first ok f1 hf _ hne
    rw [hlen] at hi
    rw [← e3]
    have ti := eqA i hi e1
    by_cases z : i = c
    · subst z; rw [rc, own]
    · by_cases lt : c < i
      · have a := e2 c lt
        rw [rc, ti, lx_irr] at a
        cases a
      · exfalso
        have cF : c < F.length := by
          by_cases q : c < F.length
          · exact q
          · exfalso
            rw [List.getElem_append_right (by omega)] at ec
            have : C ∈ M ++ G := by rw [← ec]; exact List.getElem_mem _
            rcases List.mem_append.mp this with y | y
            · exact (r.mdk C y _ m0).nf.1 hf
            · exact fl_ne (hf.symm.trans (r.gk C y _ m0))
        have iF : i < F.length := by omega
        have eC : F[c] = C := by rw [List.getElem_append_left cF] at ec; exact ec
        have ord := List.pairwise_iff_getElem.mp r.fa i c iF cF (by omega)
        rw [eC] at ord
        have eD : (F ++ (M ++ G))[i] = F[i] := List.getElem_append_left iF
        rw [rr_mapC hi, eD] at ti
        have hD : Klas ps ks F[i] := r.cls _ (List.mem_append_left _ (List.getElem_mem iF))
        have same := one_cls ok cC hD (.inl rfl) (r.fk C (by rw [← eC]; exact List.getElem_mem cF)) (r.fk _ (List.getElem_mem iF)) ord m0 ti
        have nd := List.pairwise_iff_getElem.mp r.nd i c hi hc (by omega)
        rw [eD, ec] at nd
        exact nd same.symm
  · obtain ⟨i, hi, e1, e2, e3⟩ := end_last ok f1 hl _ hne
    rw [hlen] at hi
    rw [← e3]
    have ti := eqA i hi e1
    by_cases z : i = c
    · subst z; rw [rc, own]
    · by_cases lt : i < c
      · have a := e2 c lt (by rw [hlen]; exact hc)
        rw [rc, ti, lx_irr] at a
        cases a
      · exfalso
        have cF : F.length + M.length ≤ c := by
          by_cases q : F.length + M.length ≤ c
          · exact q
          · exfalso
            by_cases q2 : c < F.length
            · rw [List.getElem_append_left q2] at ec
              have : C ∈ F := by rw [← ec]; exact List.getElem_mem _
              exact fl_ne ((r.fk C this _ m0).symm.trans hl)
            · rw [List.getElem_append_right (by omega), List.getElem_append_left (by omega)] at ec
              have : C ∈ M := by rw [← ec]; exact List.getElem_mem _
              exact (r.mdk C this _ m0).nf.2 hl
        have lens : (F ++ (M ++ G)).length = F.length + (M.length + G.length) := by rw [List.length_append, List.length_append]
        have gG : ∀ t (ht : t < (F ++ (M ++ G)).length) (h2 : F.length + M.length ≤ t), (F ++ (M ++ G))[t] = G[t - F.length - M.length]'(by omega) := fun t ht h2 => by
          rw [List.getElem_append_right (by omega), List.getElem_append_right (by omega)]
        have eC : G[c - F.length - M.length]'(by omega) = C := by rw [← gG c hc cF]; exact ec
        have eD := gG i hi (by omega)
        have ord := List.pairwise_iff_getElem.mp r.ga (c - F.length - M.length) (i - F.length - M.length) (by omega) (by omega) (by omega)
        rw [eC] at ord
        rw [rr_mapC hi, eD] at ti
        have hDm : G[i - F.length - M.length]'(by omega) ∈ G := List.getElem_mem _
        have hD : Klas ps ks (G[i - F.length - M.length]'(by omega)) := r.cls _ (List.mem_append_right _ (List.mem_append_right _ hDm))
        have same := one_cls ok cC hD (.inr rfl) (r.gk C (by rw [← eC]; exact List.getElem_mem _)) (r.gk _ hDm) ord m0 ti
        have nd := List.pairwise_iff_getElem.mp r.nd c i hc hi (by omega)
        rw [eD, ec] at nd
        exact nd same
theorem needs_each (ok : FOk ps ks) (r : Row ps ks F M G) {x : Nat} (hx : x < (F ++ (M ++ G)).length) (hn : ((F ++ (M ++ G)).map (rcC ps ks)).eraseIdx x ≠ []) : endL ps ks (((F ++ (M ++ G)).map (rcC ps ks)).eraseIdx x) ≠ endL ps ks ((F ++ (M ++ G)).map (rcC ps ks)) := by
  intro e
  have hC := List.getElem_mem hx
  have cC := r.cls _ hC
  have m0 := fst_mem cC.ne
  obtain ⟨f1, f2⟩ := cC.leaf ok _ m0
  have m := mark1 ok r hC
  rw [← e] at m
  obtain ⟨i, L, e1, hi, e3⟩ := KF_end ok hn f1
  rw [← e3] at m
  obtain ⟨j, hj, ne, er⟩ := mem_er.mp (rr_mem hi)
  rw [List.length_map] at hj
  rw [← er, rr_mapC hj] at m
  have dist : (F ++ (M ++ G))[x] ≠ (F ++ (M ++ G))[j] := fun z => by
    rcases Nat.lt_or_gt_of_ne ne with h | h
    · exact List.pairwise_iff_getElem.mp r.nd j x hj hx h z.symm
    · exact List.pairwise_iff_getElem.mp r.nd x j hx hj h z
  rw [mark0 ok cC (r.cls _ (List.getElem_mem hj)) dist m0] at m
  exact rz_ne m.symm
end
end Law
set_option linter.all false
set_option maxRecDepth 100000
set_option synthInstance.maxSize 2000
set_option Elab.async false
namespace Law
open VL VT PySem
open My (par Acy path par_lt par_get par_mem mem_par par_set path_root path_step path_len path_lt path_self)
section
variable {ps : List (Option Nat)} {ks : List OS}
def gW (ps : List (Option Nat)) (C : List Nat) : Int × List Int := ((wy ps C : Int), nI C)
theorem toN_nI (C : List Nat) : (nI C).map Int.toNat = C := by
  unfold nI
  rw [List.map_map]
  have : (Int.toNat ∘ fun i : Nat => (i : Int)) = id := funext fun i => Int.toNat_natCast i
  rw [this, List.map_id]
theorem th_zrJ (ok : FOk ps ks) (js : List Nat) : t_zeros_raised (foO ps ks) (nI js) = .ok ((List.range ps.length).map fun g => if g ∈ js then rz (kd ks g) 0 else 0) := by
  have hk := ok.k.len
  have hn := ok.most
  unfold t_zeros_raised
  rw [show (foO ps ks).kinds = ks from rfl, tenum_eq ks (lit "up"), TX.bind_id]
  rw [tlcP_map (f := fun x : Int × OS => if x.1.toNat ∈ js then rz x.2 0 else 0) (by simp [lim]; omega)]
  · rw [List.map_map, hk]
    rfl
  · intro x hx
    obtain ⟨i, _, rfl⟩ := List.mem_map.mp hx
    show TX.bind (if tmem (i : Int) (nI js) = true then _ else _) _ = .ok (some (if ((i : Int).toNat) ∈ js then rz (ks.getD i (lit "up")) 0 else 0))
    rw [tmem_nI, Int.toNat_natCast]
    by_cases c : i ∈ js
    · rw [decide_eq_true c, if_pos rfl, th_raisedF, TX.bind_ok, TX.bind_ok, if_pos c]
    · rw [decide_eq_false c, if_neg (by decide), TX.bind_ok, if_neg c]
theorem th_hbw (ok : FOk ps ks) (k : OS) : ∃ F : List (List Nat), t_hung_by_way (foO ps ks) k = .ok (F.map nI) ∧ F.Perm ((clN ps ks k).map (·.2)) ∧ F.Pairwise fun C D => wy ps C ≤ wy ps D := by
  have hn := ok.most
  have hk := ok.k.len
  have cl := cl_le (ps := ps) (ks := ks) (k := k)
  have v8 : (tlcP ((clN ps ks k).map eC) fun x2 => TX.bind (tix x2.2 (0 : Int)) fun v6 => TX.bind (t_Forest__path (foO ps ks) v6) fun v7 => .ok (some ((v7.length : Int), x2.2))) = .ok (((clN ps ks k).map (·.2)).map (gW ps)) := by
    rw [tlcP_map (f := fun x : Option Int × List Int => gW ps (x.2.map Int.toNat)) (by rw [List.length_map]; unfold lim; omega)]
    · rw [List.map_map, List.map_map]
      congr 1
      refine List.map_congr_left fun c _ => ?_
      show gW ps ((nI c.2).map Int.toNat) = _
      rw [toN_nI]
      rfl
    · intro x hx
      obtain ⟨⟨p, C⟩, hc, rfl⟩ := List.mem_map.mp hx
      obtain ⟨_, h2, rfl⟩ := mem_cl.mp hc
      obtain ⟨c1, _, _⟩ := mem_hg.mp (fst_mem h2)
      have p0 : 0 < (nI (hgN ps ks k p)).length := by rw [nI_len]; exact List.length_pos_iff.mpr h2
      have t0 := tix_at (xs := nI (hgN ps ks k p)) (i := 0) (d := 0) p0
      rw [show ((0 : Nat) : Int) = 0 from rfl] at t0
      show TX.bind (tix (nI (hgN ps ks k p)) 0) _ = .ok (some (gW ps ((nI (hgN ps ks k p)).map Int.toNat)))
      rw [t0, TX.bind_ok, getD_nI, show (hgN ps ks k p).getD 0 0 = fstN (hgN ps ks k p) from rfl, th_fpath ps _ (foO ps ks) rfl ok.acy (by omega) c1, TX.bind_ok, nI_len, toN_nI]
      rfl
  let S := sortT (VT.kP2 PV.int (VT.kT PV.int)) (((clN ps ks k).map (·.2)).map (gW ps))
  have perm : S.Perm (((clN ps ks k).map (·.2)).map (gW ps)) := sortT_perm _
  have asc := sortT_asc (lin_P lin_I (lin_L lin_I)) (((clN ps ks k).map (·.2)).map (gW ps))
  have eF : S = (S.map fun p => p.2.map Int.toNat).map (gW ps) := by
    rw [List.map_map]
    refine (List.map_id S).symm.trans (List.map_congr_left fun x hx => ?_)
    obtain ⟨C, _, rfl⟩ := List.mem_map.mp (perm.mem_iff.mp hx)
    show gW ps C = gW ps ((nI C).map Int.toNat)
    rw [toN_nI]
  refine ⟨S.map fun p => p.2.map Int.toNat, ?_, ?_, ?_⟩
  · unfold t_hung_by_way
    rw [th_hungN hk hn, TX.bind_ok, v8, TX.bind_ok, TX.bind_id]
    rw [tlcP_map (f := fun x : Int × List Int => x.2) (by
      have := perm.length_eq
      rw [List.length_map, List.length_map] at this
      show S.length ≤ _
      unfold lim
      omega)]
    · congr 1
      show S.map _ = _
      conv => lhs; rw [eF]
      rw [List.map_map]
      rfl
    · intro x _; rfl
  · have := perm.map fun p : Int × List Int => p.2.map Int.toNat
    refine this.trans (List.Perm.of_eq ?_)
    rw [List.map_map]
    refine (List.map_congr_left fun C _ => ?_).trans (List.map_id _)
    show (nI C).map Int.toNat = id C
    rw [toN_nI]
    rfl
  · have a2 : ((S.map fun p => p.2.map Int.toNat).map (gW ps)).Pairwise fun a b => Od.lt (VT.kP2 PV.int (VT.kT PV.int)) b a = false := by
      rw [← eF]
      exact asc
    refine (List.pairwise_map.mp a2).imp fun {C D} h => ?_
    change ltP2 PV.int (VT.kT PV.int) (gW ps D) (gW ps C) = false at h
    unfold ltP2 at h
    by_cases x : (gW ps D).1 = (gW ps C).1
    · have x : ((wy ps D : Nat) : Int) = (wy ps C : Nat) := x
      omega
    · rw [if_neg x] at h
      have h := of_decide_eq_false h
      have h : ¬ ((wy ps D : Nat) : Int) < (wy ps C : Nat) := h
      omega
theorem cl_nodup (k : OS) : ((clN ps ks k).map (·.2)).Nodup := by
  have p1 : (pN ps).Nodup := by
    unfold pN
    refine List.nodup_cons.mpr ⟨by simp, ?_⟩
    exact List.Pairwise.map _ (fun a b h => by simpa using h) List.nodup_range
  unfold clN
  rw [List.map_map]
  refine List.pairwise_map.mpr ((p1.filter _).imp_of_mem fun {p q} hp hq hne => ?_)
  intro e
  have e : hgN ps ks k p = hgN ps ks k q := e
  have h := (List.mem_filter.mp hp).2
  have ne : hgN ps ks k p ≠ [] := by simpa using h
  have m := fst_mem ne
  have m2 := m
  rw [e] at m2
  have a := (mem_hg.mp m).2.1
  rw [e] at a
  exact hne (a.symm.trans (mem_hg.mp m2).2.1)
theorem cl_cls (k : OS) (hk : k = lit "first" ∨ k = lit "last") {C : List Nat} (h : C ∈ (clN ps ks k).map (·.2)) : Klas ps ks C ∧ ∀ f ∈ C, kd ks f = k := by
  obtain ⟨⟨p, D⟩, hc, rfl⟩ := List.mem_map.mp h
  obtain ⟨_, h2, rfl⟩ := mem_cl.mp hc
  exact ⟨.hg k hk p h2, fun f hf => (mem_hg.mp hf).2.2⟩
theorem th_row5 (ok : FOk ps ks) : ∃ F M G, Row ps ks F M G ∧ (F ++ (M ++ G)).length = ccN ps ks ∧ t_needy_row (foO ps ks) = .ok ((F ++ (M ++ G)).map (rcC ps ks)) := by
  have hn := ok.most
  have hk := ok.k.len
  obtain ⟨F, eF, pF, aF⟩ := th_hbw ok (lit "first")
  obtain ⟨G, eG, pG, aG⟩ := th_hbw ok (lit "last")
  have c1 := cl_le (ps := ps) (ks := ks) (k := lit "first")
  have c2 := cl_le (ps := ps) (ks := ks) (k := lit "last")
  have c3 := rl_le (ps := ps) (ks := ks)
  have lF : F.length = (clN ps ks (lit "first")).length := by rw [pF.length_eq, List.length_map]
  have lG : G.length = (clN ps ks (lit "last")).length := by rw [pG.length_eq, List.length_map]
  have clsF : ∀ C ∈ F, Klas ps ks C ∧ ∀ f ∈ C, kd ks f = lit "first" := fun C hC => cl_cls _ (.inl rfl) (pF.mem_iff.mp hC)
  have clsG : ∀ C ∈ G, Klas ps ks C ∧ ∀ f ∈ C, kd ks f = lit "last" := fun C hC => cl_cls _ (.inr rfl) (pG.mem_iff.mp hC)
  have clsM : ∀ C ∈ (rlN ps ks).map (fun f => [f]), Klas ps ks C ∧ ∀ f ∈ C, Rk (kd ks f) := fun C hC => by
    obtain ⟨f, hf, rfl⟩ := List.mem_map.mp hC
    exact ⟨.rk f hf, fun g hg => by rw [List.mem_singleton.mp hg]; exact rl_rk hf⟩
  have clsA : ∀ C ∈ F ++ ((rlN ps ks).map (fun f => [f]) ++ G.reverse), Klas ps ks C := fun C hC => by
    rcases List.mem_append.mp hC with h | h
    · exact (clsF C h).1
    · rcases List.mem_append.mp h with h | h
      · exact (clsM C h).1
      · exact (clsG C (List.mem_reverse.mp h)).1
  have row : Row ps ks F ((rlN ps ks).map fun f => [f]) G.reverse := by
    refine ⟨clsA, ?_, ?_, aF, List.pairwise_reverse.mpr aG, fun C h => (clsF C h).2, fun C h => (clsM C h).2, fun C h => (clsG C (List.mem_reverse.mp h)).2⟩
    · refine List.nodup_append.mpr ⟨(pF.nodup_iff).mpr (cl_nodup _), List.nodup_append.mpr ⟨?_, ?_, ?_⟩, ?_⟩
      · have : (rlN ps ks).Nodup := (List.nodup_range.filter _).filter _
        exact List.Pairwise.map _ (fun a b h => by simpa using h) this
      · exact (List.reverse_perm G).nodup_iff.mpr ((pG.nodup_iff).mpr (cl_nodup _))
      · intro C hC D hD e
        subst e
        have m := fst_mem (clsM C hC).1.ne
        exact ((clsM C hC).2 _ m).nf.2 ((clsG C (List.mem_reverse.mp hD)).2 _ m)
      · intro C hC D hD e
        subst e
        have m := fst_mem (clsF C hC).1.ne
        have kf := (clsF C hC).2 _ m
        rcases List.mem_append.mp hD with h | h
        · exact ((clsM C h).2 _ m).nf.1 kf
        · exact fl_ne (kf.symm.trans ((clsG C (List.mem_reverse.mp h)).2 _ m))
    · obtain ⟨l, hl, _⟩ := leaf_over ok.acy 0 ps.length 0 (by omega) ok.pos (path_self ps ok.acy 0)
      have l1 := lv_lt hl
      intro z
      obtain ⟨z1, z2⟩ := List.append_eq_nil_iff.mp z
      obtain ⟨z2, z3⟩ := List.append_eq_nil_iff.mp z2
      have z3 : G = [] := by simpa using z3
      have cof := cl_of (ks := ks) ok.acy l1
      rcases w4_cases (kd_w4 ok.k.four l) with rk | hf | hh
      · have : l ∈ rlN ps ks := List.mem_filter.mpr ⟨hl, rkB_iff.mpr rk⟩
        rw [List.map_eq_nil_iff.mp z2] at this
        cases this
      · rw [hf] at cof
        have := pF.mem_iff.mpr (List.mem_map_of_mem (f := (·.2)) cof)
        rw [z1] at this
        cases this
      · rw [hh] at cof
        have := pG.mem_iff.mpr (List.mem_map_of_mem (f := (·.2)) cof)
        rw [z3] at this
        cases this
  refine ⟨F, (rlN ps ks).map fun f => [f], G.reverse, row, ?_, ?_⟩
  · rw [List.length_append, List.length_append, List.length_map, List.length_reverse, lF, lG]
    unfold ccN
    omega
  · unfold t_needy_row
    have v7 : (tlcP (nI (rlN ps ks)) fun x3 => .ok (some [x3])) = .ok (((rlN ps ks).map fun f => [f]).map nI) := by
      rw [tlcP_map (f := fun x : Int => [x]) (by rw [nI_len]; unfold lim; omega)]
      · unfold nI
        rw [List.map_map, List.map_map]
        rfl
      · intro x _; rfl
    have lens : (F ++ ((rlN ps ks).map (fun f => [f]) ++ G.reverse)).length ≤ 100 := by
      rw [List.length_append, List.length_append, List.length_map, List.length_reverse, lF, lG]
      omega
    have l2 : F.length + ((rlN ps ks).length + G.length) ≤ 100 := by
      rw [List.length_append, List.length_append, List.length_map, List.length_reverse] at lens
      exact lens
    have ap : (F.map nI ++ ((rlN ps ks).map fun f => [f]).map nI) ++ (G.map nI).reverse = (F ++ ((rlN ps ks).map (fun f => [f]) ++ G.reverse)).map nI := by
      rw [List.map_append, List.map_append, List.map_reverse, List.append_assoc]
    rw [eF, TX.bind_ok, th_rankedN hk hn, TX.bind_ok, v7, TX.bind_ok, tcat_ok (by simp [lim]; omega), TX.bind_ok, eG, TX.bind_ok, tcat_ok (by simp [lim]; omega), TX.bind_ok, ap, TX.bind_id]
    rw [tlcP_map (f := fun x : List Int => rcC ps ks (x.map Int.toNat)) (by rw [List.length_map]; unfold lim; omega)]
    · rw [List.map_map]
      congr 1
      refine List.map_congr_left fun C _ => ?_
      show rcC ps ks ((nI C).map Int.toNat) = _
      rw [toN_nI]
    · intro x hx
      obtain ⟨C, hC, rfl⟩ := List.mem_map.mp hx
      have cC := clsA C hC
      have p0 : 0 < (nI C).length := by rw [nI_len]; exact List.length_pos_iff.mpr cC.ne
      have t0 := tix_at (xs := nI C) (i := 0) (d := 0) p0
      rw [show ((0 : Nat) : Int) = 0 from rfl] at t0
      obtain ⟨f1, _⟩ := cC.leaf ok _ (fst_mem cC.ne)
      have pl := path_len ok.acy f1
      have cl : C.length ≤ 16 := by
        cases cC with
        | rk f hf => simp
        | hg k hk p h =>
          unfold hgN
          exact Nat.le_trans (List.length_filter_le _ _) (Nat.le_trans kids_len hn)
      rw [t0, TX.bind_ok, getD_nI, show C.getD 0 0 = fstN C from rfl, th_fpath ps _ (foO ps ks) rfl ok.acy (by omega) f1, TX.bind_ok, tcat_ok (by rw [nI_len, nI_len]; unfold lim; omega), TX.bind_ok]
      have : nI (path ps (fstN C)) ++ nI C = nI (path ps (fstN C) ++ C) := by unfold nI; rw [List.map_append]
      rw [this, th_zrJ ok, TX.bind_ok, toN_nI]
      rfl
end
end Law
set_option linter.all false
set_option maxRecDepth 100000
set_option synthInstance.maxSize 2000
set_option Elab.async false
namespace Law
open VL VT PySem
open My (par Acy path par_lt par_get par_mem mem_par par_set path_root path_step path_len path_lt path_self)
section
variable {ps : List (Option Nat)} {ks : List OS}
theorem th_isrec9 (xs : List Int) (n : Nat) (h : xs.length = n) : t__law_is_record xs n = .ok true := by
  unfold t__law_is_record
  rw [if_neg (by simp [h]), tfor_const, TX.bind_ok]
  · rfl
  · intro x _
    rfl
theorem cc_le (hn : ps.length ≤ 16) : ccN ps ks ≤ 50 := by
  have c1 := cl_le (ps := ps) (ks := ks) (k := lit "first")
  have c2 := cl_le (ps := ps) (ks := ks) (k := lit "last")
  have c3 := rl_le (ps := ps) (ks := ks)
  unfold ccN
  omega
theorem rcC_abs {C : List Nat} : ∀ x ∈ rcC ps ks C, -1 ≤ x ∧ x ≤ 1 := fun x hx => by
  obtain ⟨g, _, rfl⟩ := List.mem_map.mp hx
  unfold rz
  split
  · split <;> decide
  · decide
theorem th_needsall (ok : FOk ps ks) {F M G : List (List Nat)} (r : Row ps ks F M G) (hl : (F ++ (M ++ G)).length ≤ 50) : t__law_needs_all (ps.map oI) ks ((F ++ (M ++ G)).map (rcC ps ks)) = .ok true := by
  have hR : ∀ x ∈ (F ++ (M ++ G)).map (rcC ps ks), x.length = ps.length := fun x hx => by
    obtain ⟨C, _, rfl⟩ := List.mem_map.mp hx
    exact rcC_len
  have hne : (F ++ (M ++ G)).map (rcC ps ks) ≠ [] := fun z => r.ne (List.map_eq_nil_iff.mp z)
  have lm : ((F ++ (M ++ G)).map (rcC ps ks)).length = (F ++ (M ++ G)).length := List.length_map _
  unfold t__law_needs_all
  rw [th_foldR ok _ hne hR, TX.bind_ok, trg_nat (by rw [lm]; unfold lim; omega), TX.bind_ok, tfor_const, TX.bind_ok]
  · rfl
  intro x hx
  obtain ⟨i, rfl, hi⟩ := mem_rg hx
  rw [show ((i : Int) + 1) = ((i + 1 : Nat) : Int) by omega, tcut_take (by omega), tcut_drop (by omega), tcat_ok (by rw [List.length_take, List.length_drop]; unfold lim; omega), TX.bind_ok, ← List.eraseIdx_eq_take_drop_succ]
  by_cases z : ((F ++ (M ++ G)).map (rcC ps ks)).eraseIdx i = []
  · rw [if_neg (by rw [z, teq_self]; decide), TX.bind_ok, if_neg (by decide)]
  · have n := needs_each ok r (by rw [← lm]; exact hi) z
    rw [if_pos (by rw [show teq (((F ++ (M ++ G)).map (rcC ps ks)).eraseIdx i) [] = false from decide_eq_false z]; rfl), th_foldR ok _ z (fun x hx => hR x (List.mem_of_mem_eraseIdx hx)), TX.bind_ok, show teq (endL ps ks (((F ++ (M ++ G)).map (rcC ps ks)).eraseIdx i)) (endL ps ks ((F ++ (M ++ G)).map (rcC ps ks))) = false from decide_eq_false n, TX.bind_ok, if_neg (by decide)]
theorem th_needy9 (ok : FOk ps ks) : t__law_is_needy (foO ps ks) (ps.map oI) ks = .ok true := by
  have hn := ok.most
  have hk := ok.k.len
  obtain ⟨F, M, G, r, hl, e⟩ := th_row5 ok
  have cc := cc_le (ps := ps) (ks := ks) hn
  unfold t__law_is_needy
  rw [th_ccount hk hn, TX.bind_ok, show t__law_is_integer_v3 ((ccN ps ks : Nat) : Int) = .ok true from rfl, TX.bind_ok, if_neg (by decide), th_lccount hk hn, TX.bind_ok, TX.bind_ok, if_neg (by rw [teq_self]; decide), e, TX.bind_ok, if_neg (by rw [List.length_map, hl, teq_self]; decide), tfor_const, TX.bind_ok, Go.elim_nx, th_needsall ok r (by omega), TX.bind_ok]
  intro x hx
  obtain ⟨C, _, rfl⟩ := List.mem_map.mp hx
  rw [List.length_map, th_isrec9 _ _ rcC_len, TX.bind_ok, if_neg (by decide)]
  have none : (tlcP (rcC ps ks C) fun x14 => if (!((decide ((-(1 : Int)) ≤ x14)) && (decide (x14 ≤ (1 : Int))))) = true then (.ok (some x14)) else .ok none) = .ok (((rcC ps ks C).filter fun x => !((decide ((-(1 : Int)) ≤ x)) && (decide (x ≤ (1 : Int))))).map fun x => x) := by
    refine tlcP_filter (by rw [rcC_len]; unfold lim; omega) fun x _ => ?_
    split <;> rfl
  have emp : ((rcC ps ks C).filter fun x => !((decide ((-(1 : Int)) ≤ x)) && (decide (x ≤ (1 : Int))))) = [] := by
    refine List.filter_eq_nil_iff.mpr fun x hx => ?_
    obtain ⟨h1, h2⟩ := rcC_abs x hx
    rw [decide_eq_true h1, decide_eq_true h2]
    decide
  rw [none, emp, TX.bind_ok, List.map_nil, if_neg (by decide)]
theorem shw_row (ok : FOk ps ks) (W : List (List Nat)) (hW : W.length ≤ 50) : shwOk (VT.kL .fz (VT.kT PV.int) (W.map (rcC ps ks))) = true := by
  have hn := ok.most
  have s1 : ∀ x ∈ W.map (rcC ps ks), Sh (16 * (1921 + 2) + 3) (0 + 1) (dat (VT.kT PV.int x)) := fun x hx => by
    obtain ⟨C, _, rfl⟩ := List.mem_map.mp hx
    have e : dat (VT.kT PV.int (rcC ps ks C)) = .tuple ((rcC ps ks C).map .int) := by
      unfold VT.kT
      rw [dat_tup, List.map_map]
      congr 1
      exact List.map_congr_left fun x _ => dat_int x
    rw [e]
    refine sh_tuple (fun d hd => ?_) (by rw [List.length_map, rcC_len]; omega)
    obtain ⟨x, hx, rfl⟩ := List.mem_map.mp hd
    have := rcC_abs x hx
    refine sh_int ?_
    have : x = -1 ∨ x = 0 ∨ x = 1 := by omega
    rcases this with rfl | rfl | rfl <;> decide
  have s : Sh (50 * (16 * (1921 + 2) + 3 + 2) + 2) (0 + 1 + 1) (dat (VT.kL .fz (VT.kT PV.int) (W.map (rcC ps ks)))) := by
    unfold VT.kL
    rw [dat_lst]
    refine sh_list (fun d hd => ?_) (by rw [List.length_map, List.length_map, List.length_map]; exact hW)
    obtain ⟨y, hy, rfl⟩ := List.mem_map.mp hd
    obtain ⟨x, hx, rfl⟩ := List.mem_map.mp hy
    exact s1 x hx
  exact s.ok (by decide) (by decide)
end
theorem th_law16 (sc : List Int) : t_law_v15 sc = .ok true := by
  suffices Ok (t_law_v15 sc) fun b => b = true by
    obtain ⟨b, e, rfl⟩ := this
    exact e
  unfold t_law_v15
  refine (th_tape sc 0 (by decide)).bind fun v1 _ => ?_
  refine (th_fields3 v1).bind fun v2 h2 => ?_
  obtain ⟨n, hn⟩ := Int.eq_ofNat_of_zero_le (show 0 ≤ v2.1 by omega)
  rw [hn]
  refine (th_parents v2.2 n (by omega) (by omega)).bind fun v3 h3 => ?_
  obtain ⟨ps, e3, lp, ac⟩ := h3
  rw [e3]
  refine (th_tape sc 1 (by decide)).bind fun v4 _ => ?_
  refine (th_kinds v4 ps false (by omega)).bind fun v5 k5 => ?_
  refine (th_tape sc 2 (by decide)).bind fun v6 _ => ?_
  refine (th_kinds v6 ps false (by omega)).bind fun v7 k7 => ?_
  have ok : FOk ps v5.1 := ⟨by omega, by omega, ac, k5⟩
  have ok2 : FOk ps v7.1 := ⟨by omega, by omega, ac, k7⟩
  obtain ⟨F, M, G, r, hl, e⟩ := th_row5 ok
  have cc := cc_le (ps := ps) (ks := v5.1) ok.most
  have told := trepr_ok (shw_row ok (F ++ (M ++ G)) (by omega))
  have lm : ((F ++ (M ++ G)).map (rcC ps v5.1)).length ≤ 50 := by rw [List.length_map]; omega
  have one : ∀ c : Int, (tlcP (ps.map oI) fun _ => .ok (some c)) = .ok ((ps.map oI).map fun _ => c) := fun c => tlcP_map (by rw [List.length_map]; unfold lim; omega) fun _ _ => rfl
  rw [th_init ps _ ok, TX.bind_ok, show (O_Forest.mk (ps.length : Int) (ps.map oI) v5.1) = foO ps v5.1 from rfl, th_init ps _ ok2, TX.bind_ok, show (O_Forest.mk (ps.length : Int) (ps.map oI) v7.1) = foO ps v7.1 from rfl, th_needy9 ok, TX.bind_ok, if_neg (by decide), e, TX.bind_ok, told, TX.bind_ok, one, TX.bind_ok]
  have ti : tins ((F ++ (M ++ G)).map (rcC ps v5.1)) (0 : Int) ((ps.map oI).map fun _ => (1 : Int)) = .ok (((F ++ (M ++ G)).map (rcC ps v5.1)).take (0 : Int).toNat ++ [(ps.map oI).map fun _ => (1 : Int)] ++ ((F ++ (M ++ G)).map (rcC ps v5.1)).drop (0 : Int).toNat) := by
    unfold tins
    rw [if_pos ⟨by unfold lim; omega, by decide, by decide⟩]
  rw [ti, TX.bind_ok, one, TX.bind_ok, tapp_ok (by simp only [List.length_append, List.length_take, List.length_drop, List.length_singleton]; unfold lim; omega), TX.bind_ok, th_needy9 ok2, TX.bind_ok, if_neg (by decide), if_neg (by
    rw [show (foO ps v5.1).parents = ps.map oI from rfl, show (foO ps v5.1).kinds = v5.1 from rfl, teq_self, teq_self]
    decide)]
  first
  | rw [e, TX.bind_ok, told, TX.bind_ok, if_pos (teq_self _), th_needy9 ok, TX.bind_ok]
  | rw [TX.bind_ok, told, TX.bind_ok, if_pos (teq_self _), th_needy9 ok, TX.bind_ok]
  | rw [TX.bind_ok, told, TX.bind_ok, if_pos (teq_self _), TX.bind_ok]
  exact Ok.of rfl
end Law
set_option linter.all false
namespace Law
open VL VT PySem
theorem LAW : ∀ ns : List Int, ns.length ≤ 63 → ∃ fin, F_law [.scr ns] = .ok (.bl true) fin := fun ns _ =>
  ⟨_, (sim_law ns).ok (th_law16 ns)⟩
end Law
set_option Elab.async false
set_option linter.all false
set_option maxRecDepth 100000
namespace Law
open PySem PySem.Spec PyProof.Rows L2 VL
def topS (i : Nat) : Stmt := PySem.Challenge.pw_fieldrides_k41_whole_needy_rows.main.body.getD i (.Pass ⟨0, 0, 0, 0⟩)
abbrev s__law_tape : Stmt := topS 29
abbrev N__law_tape : List Str := ["_law_script", "_law_k"]
abbrev P__law_tape : List Str := ["_law_script", "_law_k"]
theorem sc__law_tape : FnScope N__law_tape P__law_tape (defScope s__law_tape) := ⟨rfl, rfl, rfl, by decide +kernel, rfl, by decide +kernel, by decide +kernel⟩
abbrev s__law_take : Stmt := topS 30
abbrev N__law_take : List Str := ["_law_tape_here", "_law_size", "_law_cell", "_law_k", "_law_mixed"]
abbrev P__law_take : List Str := ["_law_tape_here", "_law_size"]
theorem sc__law_take : FnScope N__law_take P__law_take (defScope s__law_take) := ⟨rfl, rfl, rfl, by decide +kernel, rfl, by decide +kernel, by decide +kernel⟩
abbrev s__law_fields : Stmt := topS 40
abbrev N__law_fields : List Str := ["_law_tape_here"]
abbrev P__law_fields : List Str := ["_law_tape_here"]
theorem sc__law_fields : FnScope N__law_fields P__law_fields (defScope s__law_fields) := ⟨rfl, rfl, rfl, by decide +kernel, rfl, by decide +kernel, by decide +kernel⟩
abbrev s__law_turns : Stmt := topS 31
abbrev N__law_turns : List Str := ["_law_tape_here", "_law_n", "_law_left", "_law_turns_here", "_law_k"]
abbrev P__law_turns : List Str := ["_law_tape_here", "_law_n"]
theorem sc__law_turns : FnScope N__law_turns P__law_turns (defScope s__law_turns) := ⟨rfl, rfl, rfl, by decide +kernel, rfl, by decide +kernel, by decide +kernel⟩
abbrev s__law_parents : Stmt := topS 32
abbrev N__law_parents : List Str := ["_law_tape_here", "_law_n", "_law_turns_here", "_law_bend", "_law_parents_here", "_law_k", "_law_pick"]
abbrev P__law_parents : List Str := ["_law_tape_here", "_law_n"]
theorem sc__law_parents : FnScope N__law_parents P__law_parents (defScope s__law_parents) := ⟨rfl, rfl, rfl, by decide +kernel, rfl, by decide +kernel, by decide +kernel⟩
abbrev s__law_kinds : Stmt := topS 33
abbrev N__law_kinds : List Str := ["_law_tape_here", "_law_parents_here", "_law_fair", "_law_kinds_here", "_law_field", "_law_pick"]
abbrev P__law_kinds : List Str := ["_law_tape_here", "_law_parents_here", "_law_fair"]
theorem sc__law_kinds : FnScope N__law_kinds P__law_kinds (defScope s__law_kinds) := ⟨rfl, rfl, rfl, by decide +kernel, rfl, by decide +kernel, by decide +kernel⟩
abbrev s_way_ends : Stmt := topS 17
abbrev N_way_ends : List Str := ["parents", "field", "_"]
abbrev P_way_ends : List Str := ["parents", "field"]
theorem sc_way_ends : FnScope N_way_ends P_way_ends (defScope s_way_ends) := ⟨rfl, rfl, rfl, by decide +kernel, rfl, by decide +kernel, by decide +kernel⟩
abbrev s_is_ranked : Stmt := topS 12
abbrev N_is_ranked : List Str := ["kind"]
abbrev P_is_ranked : List Str := ["kind"]
theorem sc_is_ranked : FnScope N_is_ranked P_is_ranked (defScope s_is_ranked) := ⟨rfl, rfl, rfl, by decide +kernel, rfl, by decide +kernel, by decide +kernel⟩
abbrev s_check_forest : Stmt := topS 18
abbrev N_check_forest : List Str := ["parents", "kinds", "fields", "field", "parent", "kind"]
abbrev P_check_forest : List Str := ["parents", "kinds"]
theorem sc_check_forest : FnScope N_check_forest P_check_forest (defScope s_check_forest) := ⟨rfl, rfl, rfl, by decide +kernel, rfl, by decide +kernel, by decide +kernel⟩
abbrev s_Forest____init__ : Stmt := inClass (topS 16) 0
abbrev N_Forest____init__ : List Str := ["self", "parents", "kinds"]
abbrev P_Forest____init__ : List Str := ["self", "parents", "kinds"]
theorem sc_Forest____init__ : FnScope N_Forest____init__ P_Forest____init__ (defScope s_Forest____init__) := ⟨rfl, rfl, rfl, by decide +kernel, rfl, by decide +kernel, by decide +kernel⟩
abbrev s_Forest__leaves : Stmt := inClass (topS 16) 3
abbrev N_Forest__leaves : List Str := ["self", "field"]
abbrev P_Forest__leaves : List Str := ["self"]
theorem sc_Forest__leaves : FnScope N_Forest__leaves P_Forest__leaves (defScope s_Forest__leaves) := ⟨rfl, rfl, rfl, by decide +kernel, rfl, by decide +kernel, by decide +kernel⟩
abbrev s_ranked_leaves : Stmt := topS 23
abbrev N_ranked_leaves : List Str := ["forest", "leaf"]
abbrev P_ranked_leaves : List Str := ["forest"]
theorem sc_ranked_leaves : FnScope N_ranked_leaves P_ranked_leaves (defScope s_ranked_leaves) := ⟨rfl, rfl, rfl, by decide +kernel, rfl, by decide +kernel, by decide +kernel⟩
abbrev s_Forest__children : Stmt := inClass (topS 16) 7
abbrev N_Forest__children : List Str := ["self", "field", "child"]
abbrev P_Forest__children : List Str := ["self", "field"]
theorem sc_Forest__children : FnScope N_Forest__children P_Forest__children (defScope s_Forest__children) := ⟨rfl, rfl, rfl, by decide +kernel, rfl, by decide +kernel, by decide +kernel⟩
abbrev s_hung_classes : Stmt := topS 24
abbrev N_hung_classes : List Str := ["forest", "kind", "found", "parent", "hung", "child"]
abbrev P_hung_classes : List Str := ["forest", "kind"]
theorem sc_hung_classes : FnScope N_hung_classes P_hung_classes (defScope s_hung_classes) := ⟨rfl, rfl, rfl, by decide +kernel, rfl, by decide +kernel, by decide +kernel⟩
abbrev s_class_count : Stmt := topS 25
abbrev N_class_count : List Str := ["forest"]
abbrev P_class_count : List Str := ["forest"]
theorem sc_class_count : FnScope N_class_count P_class_count (defScope s_class_count) := ⟨rfl, rfl, rfl, by decide +kernel, rfl, by decide +kernel, by decide +kernel⟩
abbrev s__law_is_integer : Stmt := topS 38
abbrev N__law_is_integer : List Str := ["_law_actual"]
abbrev P__law_is_integer : List Str := ["_law_actual"]
theorem sc__law_is_integer : FnScope N__law_is_integer P__law_is_integer (defScope s__law_is_integer) := ⟨rfl, rfl, rfl, by decide +kernel, rfl, by decide +kernel, by decide +kernel⟩
abbrev s__law_class_count : Stmt := topS 41
abbrev N__law_class_count : List Str := ["_law_parents_here", "_law_kinds_here", "_law_count", "_law_field", "_law_parent", "_law_hanging"]
abbrev P__law_class_count : List Str := ["_law_parents_here", "_law_kinds_here"]
theorem sc__law_class_count : FnScope N__law_class_count P__law_class_count (defScope s__law_class_count) := ⟨rfl, rfl, rfl, by decide +kernel, rfl, by decide +kernel, by decide +kernel⟩
abbrev s_Forest__path : Stmt := inClass (topS 16) 5
abbrev N_Forest__path : List Str := ["self", "field", "way"]
abbrev P_Forest__path : List Str := ["self", "field"]
theorem sc_Forest__path : FnScope N_Forest__path P_Forest__path (defScope s_Forest__path) := ⟨rfl, rfl, rfl, by decide +kernel, rfl, by decide +kernel, by decide +kernel⟩
abbrev s_hung_by_way : Stmt := topS 26
abbrev N_hung_by_way : List Str := ["forest", "kind", "ways", "_", "hung"]
abbrev P_hung_by_way : List Str := ["forest", "kind"]
theorem sc_hung_by_way : FnScope N_hung_by_way P_hung_by_way (defScope s_hung_by_way) := ⟨rfl, rfl, rfl, by decide +kernel, rfl, by decide +kernel, by decide +kernel⟩
abbrev s_raised : Stmt := topS 8
abbrev N_raised : List Str := ["kind", "value", "by"]
abbrev P_raised : List Str := ["kind", "value", "by"]
theorem sc_raised : FnScope N_raised P_raised (defScope s_raised) := ⟨rfl, rfl, rfl, by decide +kernel, rfl, by decide +kernel, by decide +kernel⟩
abbrev s_zeros_raised : Stmt := topS 21
abbrev N_zeros_raised : List Str := ["forest", "fields", "field", "kind"]
abbrev P_zeros_raised : List Str := ["forest", "fields"]
theorem sc_zeros_raised : FnScope N_zeros_raised P_zeros_raised (defScope s_zeros_raised) := ⟨rfl, rfl, rfl, by decide +kernel, rfl, by decide +kernel, by decide +kernel⟩
abbrev s_needy_row : Stmt := topS 27
abbrev N_needy_row : List Str := ["forest", "classes", "leaf", "leaves"]
abbrev P_needy_row : List Str := ["forest"]
theorem sc_needy_row : FnScope N_needy_row P_needy_row (defScope s_needy_row) := ⟨rfl, rfl, rfl, by decide +kernel, rfl, by decide +kernel, by decide +kernel⟩
abbrev s__law_is_record : Stmt := topS 39
abbrev N__law_is_record : List Str := ["_law_actual", "_law_n", "_law_value"]
abbrev P__law_is_record : List Str := ["_law_actual", "_law_n"]
theorem sc__law_is_record : FnScope N__law_is_record P__law_is_record (defScope s__law_is_record) := ⟨rfl, rfl, rfl, by decide +kernel, rfl, by decide +kernel, by decide +kernel⟩
abbrev s__law_path : Stmt := topS 34
abbrev N__law_path : List Str := ["_law_parents_here", "_law_field", "_law_path_here", "_law_k"]
abbrev P__law_path : List Str := ["_law_parents_here", "_law_field"]
theorem sc__law_path : FnScope N__law_path P__law_path (defScope s__law_path) := ⟨rfl, rfl, rfl, by decide +kernel, rfl, by decide +kernel, by decide +kernel⟩
abbrev s__law_side : Stmt := topS 35
abbrev N__law_side : List Str := ["_law_parents_here", "_law_kinds_here", "_law_field", "_law_older", "_law_newer", "_law_place"]
abbrev P__law_side : List Str := ["_law_parents_here", "_law_kinds_here", "_law_field", "_law_older", "_law_newer"]
theorem sc__law_side : FnScope N__law_side P__law_side (defScope s__law_side) := ⟨rfl, rfl, rfl, by decide +kernel, rfl, by decide +kernel, by decide +kernel⟩
abbrev s__law_merge : Stmt := topS 36
abbrev N__law_merge : List Str := ["_law_parents_here", "_law_kinds_here", "_law_older", "_law_newer", "_law_pair", "_law_f"]
abbrev P__law_merge : List Str := ["_law_parents_here", "_law_kinds_here", "_law_older", "_law_newer"]
theorem sc__law_merge : FnScope N__law_merge P__law_merge (defScope s__law_merge) := ⟨rfl, rfl, rfl, by decide +kernel, rfl, by decide +kernel, by decide +kernel⟩
abbrev s__law_fold : Stmt := topS 37
abbrev N__law_fold : List Str := ["_law_parents_here", "_law_kinds_here", "_law_records", "_law_end", "_law_record"]
abbrev P__law_fold : List Str := ["_law_parents_here", "_law_kinds_here", "_law_records"]
theorem sc__law_fold : FnScope N__law_fold P__law_fold (defScope s__law_fold) := ⟨rfl, rfl, rfl, by decide +kernel, rfl, by decide +kernel, by decide +kernel⟩
abbrev s__law_needs_all : Stmt := topS 42
abbrev N__law_needs_all : List Str := ["_law_parents_here", "_law_kinds_here", "_law_row", "_law_end", "_law_place", "_law_rest"]
abbrev P__law_needs_all : List Str := ["_law_parents_here", "_law_kinds_here", "_law_row"]
theorem sc__law_needs_all : FnScope N__law_needs_all P__law_needs_all (defScope s__law_needs_all) := ⟨rfl, rfl, rfl, by decide +kernel, rfl, by decide +kernel, by decide +kernel⟩
abbrev s__law_is_needy : Stmt := topS 43
abbrev N__law_is_needy : List Str := ["_law_forest", "_law_parents_here", "_law_kinds_here", "_law_count", "_law_row", "_law_record", "_law_value"]
abbrev P__law_is_needy : List Str := ["_law_forest", "_law_parents_here", "_law_kinds_here"]
theorem sc__law_is_needy : FnScope N__law_is_needy P__law_is_needy (defScope s__law_is_needy) := ⟨rfl, rfl, rfl, by decide +kernel, rfl, by decide +kernel, by decide +kernel⟩
abbrev s_law : Stmt := topS 44
abbrev N_law : List Str := ["_law_script", "_law_tape_here", "_law_parents_here", "_law_kinds_here", "_law_others", "_law_forest", "_law_second", "_law_row", "_law_first", "_law_field"]
abbrev P_law : List Str := ["_law_script"]
theorem sc_law : FnScope N_law P_law (defScope s_law) := ⟨rfl, rfl, rfl, by decide +kernel, rfl, by decide +kernel, by decide +kernel⟩
abbrev s_BadForest____init__ : Stmt := inClass (topS 4) 0
abbrev N_BadForest____init__ : List Str := ["self", "field"]
abbrev P_BadForest____init__ : List Str := ["self", "field"]
theorem sc_BadForest____init__ : FnScope N_BadForest____init__ P_BadForest____init__ (defScope s_BadForest____init__) := ⟨rfl, rfl, rfl, by decide +kernel, rfl, by decide +kernel, by decide +kernel⟩
structure Bts (mg : Str → Option Value) : Prop where
  abs_ : mg "abs" = none
  bool_ : mg "bool" = none
  enumerate_ : mg "enumerate" = none
  int_ : mg "int" = none
  isinstance_ : mg "isinstance" = none
  len_ : mg "len" = none
  list_ : mg "list" = none
  range_ : mg "range" = none
  repr_ : mg "repr" = none
  sorted_ : mg "sorted" = none
  tuple_ : mg "tuple" = none
structure Gcs (T : Tb) (w : World) (mg : Str → Option Value) : Prop where
  MOST_FIELDS_ : ∃ t, mg "MOST_FIELDS" = some (.int 16 t)
structure TC_Forest (T : Tb) (mg : Str → Option Value) : Prop where
  cl : Cls T.K (T.ca "Forest")
  fl : T.flds "Forest" = (["fields", "parents", "kinds"] : List Str)
  n_fields : NoAttr T.K (T.ca "Forest") "fields"
  n_parents : NoAttr T.K (T.ca "Forest") "parents"
  n_kinds : NoAttr T.K (T.ca "Forest") "kinds"
  g : mg "Forest" = some (.ref (T.ca "Forest"))
structure XE (P : Program) (w : World) (mg : Str → Option Value) (base : Heap) (T : Tb) (c : String) (x nm : Str) (ok : V → Prop) : Prop where
  d : My.DnE P w T.K mg base 1 x (T.ca c) (My.spErr1 ok nm (T.ca c))
  fl : T.flds c = ([nm] : List Str)
structure Env (P : Program) (w : World) (mg : Str → Option Value) (base : Heap) (T : Tb) : Prop where
  B : Bts mg
  W : P = T.P ∧ w = T.w
  Gc : Gcs T w mg
  T_Forest : TC_Forest T mg
  X_BadForest : XE P w mg base T "BadForest" "BadForest" "field" My.FmtOk
section
variable {P : Program} {w : World} {mg : Str → Option Value} {base : Heap} {T : Tb}
set_option maxHeartbeats 2000000 in
theorem d__law_tape (U : Env P w mg base T)  (F : My.Df T.K mg "_law_tape" s__law_tape P__law_tape) : My.DnX P w T.K mg base 1 "_law_tape" (spF T F__law_tape) :=
  okV F sc__law_tape (by decide) <| fun fa cdv A outer s H vs E hr => (bv_cons (sv_if (tv_cmp op_lt v_lt (evn 1) (ev_fn c_len f_len rfl U.B.len_ PySem.boot_len (av_cons (evn 0) av_nil))) (bv_one (sv_ret (ev_lst (av_cons (ev_fn call_abs f_abs rfl U.B.abs_ boot_abs (av_cons (ev_ix ix_seqA v_ix (evn 0) (evn 1) (fun _ _ => rfl)) av_nil)) (av_cons ev_int av_nil))))) bv_nil)
    (bv_one (sv_ret (ev_lst (av_cons (evn 1) (av_cons ev_int av_nil))))))
set_option maxHeartbeats 2000000 in
theorem d__law_take (U : Env P w mg base T)  (F : My.Df T.K mg "_law_take" s__law_take P__law_take) : My.DnX P w T.K mg base 1 "_law_take" (spF T F__law_take) :=
  okV F sc__law_take (by decide) <| fun fa cdv A outer s H vs E hr => (bv_cons (sv_set (i := 2) sc__law_take.nd rfl (.inl rfl) (ev_ix ix_seqA v_ix (evn 0) ev_int (fun _ _ => rfl)))
    (bv_cons (sv_sub (ev_op o_add v_add (ev_ix ix_seqA v_ix (evn 0) ev_int (fun _ _ => rfl)) ev_int) (evn 0) ev_int)
    (bv_cons (sv_set (i := 3) sc__law_take.nd rfl (.inl rfl) (ev_ix ix_seqA v_ix (evn 0) ev_int (fun _ _ => rfl)))
    (bv_cons (sv_if (tv_cmp op_ge v_ge (evn 2) (ev_op op_pow v_pow ev_int ev_int)) (bv_cons (sv_sub (ev_op VL.op_fdivW v_div (evn 2) (evn 1)) (evn 0) ev_int)
    (bv_one (sv_ret (ev_op op_mod v_mod (ev_ty call_int1 f_int rfl U.B.int_ boot_int (av_cons (evn 2) av_nil)) (evn 1))))) bv_nil)
    (bv_cons (sv_set (i := 4) sc__law_take.nd rfl (.inl rfl) (ev_op op_mod v_mod (ev_ty call_int1 f_int rfl U.B.int_ boot_int (av_cons (ev_op o_add v_add (ev_op o_add v_add (evn 2) (ev_op o_mul v_mul ev_int (evn 3))) ev_int) av_nil)) ev_int))
    (bv_cons (sv_set (i := 4) sc__law_take.nd rfl (.inl rfl) (ev_op op_mod v_mod (ev_ty call_int1 f_int rfl U.B.int_ boot_int (av_cons (ev_op o_mul v_mul (evn 4) (ev_op o_add v_add (evn 4) ev_int)) av_nil)) ev_int))
    (bv_cons (sv_set (i := 4) sc__law_take.nd rfl (.inl rfl) (ev_op op_mod v_mod (ev_ty call_int1 f_int rfl U.B.int_ boot_int (av_cons (ev_op o_add v_add (ev_op o_mul v_mul (evn 4) (ev_op o_add v_add (evn 4) ev_int)) (ev_op o_mul v_mul ev_int (evn 3))) av_nil)) ev_int))
    (bv_one (sv_ret (ev_op op_mod v_mod (ev_ty call_int1 f_int rfl U.B.int_ boot_int (av_cons (ev_op VL.op_fdivW v_div (evn 4) ev_int) av_nil)) (evn 1)))))))))))
set_option maxHeartbeats 2000000 in
theorem d__law_fields (U : Env P w mg base T) (D__law_take : My.DnX P w T.K mg base 1 "_law_take" (spF T F__law_take)) (F : My.Df T.K mg "_law_fields" s__law_fields P__law_fields) : My.DnX P w T.K mg base 2 "_law_fields" (spF T F__law_fields) :=
  okV F sc__law_fields (by decide) <| fun fa cdv A outer s H vs E hr => (bv_cons (sv_if (tv_cmp (op_eqD hr.units) v_eq (ev_call D__law_take (hr.mono (by decide)) rfl (L2N.takes_of rfl rfl rfl rfl) (av_cons (evn 0) (av_cons ev_int av_nil))) ev_int) (bv_one (sv_ret (ev_op o_add v_add ev_int (ev_call D__law_take (hr.mono (by decide)) rfl (L2N.takes_of rfl rfl rfl rfl) (av_cons (evn 0) (av_cons ev_int av_nil)))))) bv_nil)
    (bv_one (sv_ret (ev_op o_add v_add ev_int (ev_call D__law_take (hr.mono (by decide)) rfl (L2N.takes_of rfl rfl rfl rfl) (av_cons (evn 0) (av_cons ev_int av_nil)))))))
set_option maxHeartbeats 2000000 in
theorem d__law_turns (U : Env P w mg base T) (D__law_take : My.DnX P w T.K mg base 1 "_law_take" (spF T F__law_take)) (F : My.Df T.K mg "_law_turns" s__law_turns P__law_turns) : My.DnX P w T.K mg base 2 "_law_turns" (spF T F__law_turns) :=
  okV F sc__law_turns (by decide) <| fun fa cdv A outer s H vs E hr => (bv_cons (sv_set (i := 2) sc__law_turns.nd rfl (.inl rfl) (ev_listRg rfl rfl U.B.list_ rfl U.B.range_ (evn 1)))
    (bv_cons (sv_set (i := 3) sc__law_turns.nd rfl (.inl rfl) (ev_lst av_nil))
    (bv_cons (sv_for (passes_of rfl) rfl (iv_rg1 rfl U.B.range_ (av_cons (evn 1) av_nil)) (gv_name (i := 4) sc__law_turns.nd rfl (.inl rfl)) (bv_one (sv_expr (ev_mu rfl PySem.F.plainAttrs_list PySem.F.slot_list_append PySem.F.type_list_append (by decide) mt_append u_append (evn 3) (av_cons (ev_mu rfl PySem.F.plainAttrs_list PySem.F.slot_list_pop PySem.F.type_list_pop (by decide) mt_popAt u_pop1 (evn 2) (av_cons (ev_call D__law_take (hr.mono (by decide)) rfl (L2N.takes_of rfl rfl rfl rfl) (av_cons (evn 0) (av_cons (ev_fn c_len f_len rfl U.B.len_ PySem.boot_len (av_cons (evn 2) av_nil)) av_nil))) av_nil)) av_nil)))))
    (bv_one (sv_ret (evn 3))))))
set_option maxHeartbeats 2000000 in
theorem d__law_parents (U : Env P w mg base T) (D__law_turns : My.DnX P w T.K mg base 2 "_law_turns" (spF T F__law_turns)) (D__law_take : My.DnX P w T.K mg base 1 "_law_take" (spF T F__law_take)) (F : My.Df T.K mg "_law_parents" s__law_parents P__law_parents) : My.DnX P w T.K mg base 3 "_law_parents" (spF T F__law_parents) :=
  okV F sc__law_parents (by decide) <| fun fa cdv A outer s H vs E hr => (bv_cons (sv_set (i := 2) sc__law_parents.nd rfl (.inl rfl) (ev_call D__law_turns (hr.mono (by decide)) rfl (L2N.takes_of rfl rfl rfl rfl) (av_cons (evn 0) (av_cons (evn 1) av_nil))))
    (bv_cons (sv_set (i := 3) sc__law_parents.nd rfl (.inl rfl) (ev_call D__law_take (hr.mono (by decide)) rfl (L2N.takes_of rfl rfl rfl rfl) (av_cons (evn 0) (av_cons ev_int av_nil))))
    (bv_cons (sv_setLc (i := 4) (own := [("_law_k", 5)]) rfl sc__law_parents.nd rfl rfl (sw_true rfl rfl rfl (by decide +kernel)) rfl (by decide) (iv_rg1 rfl U.B.range_ (av_cons (evn 1) av_nil)) (blkOk_by (own := [("_law_k", 5)]) (N := N__law_parents) (sc := defScope s__law_parents) (by decide +kernel)) (fun _ _ _ _ _ => (gv_name (i := 5) sc__law_parents.nd rfl (.inl rfl))) (fun _ _ _ _ _ => ptsv_nil) (fun _ _ _ _ _ => ev_non))
    (bv_cons (sv_for (passes_of rfl) rfl (iv_rg2 rfl U.B.range_ (av_cons ev_int (av_cons (evn 1) av_nil))) (gv_name (i := 5) sc__law_parents.nd rfl (.inl rfl)) (bv_cons (sv_set (i := 6) sc__law_parents.nd rfl (.inl rfl) (ev_call D__law_take (hr.mono (by decide)) rfl (L2N.takes_of rfl rfl rfl rfl) (av_cons (evn 0) (av_cons (ev_op o_add v_add (evn 5) ev_int) av_nil))))
    (bv_cons (sv_if (tv_cmp (op_eqD hr.units) v_eq (evn 3) ev_int) (bv_one (sv_set (i := 6) sc__law_parents.nd rfl (.inl rfl) (evn 5))) bv_nil)
    (bv_cons (sv_if (tv_cmp (op_eqD hr.units) v_eq (evn 3) ev_int) (bv_one (sv_set (i := 6) sc__law_parents.nd rfl (.inl rfl) ev_int)) bv_nil)
    (bv_one (sv_if (tv_cmp op_gt v_gt (evn 6) ev_int) (bv_one (sv_sub (ev_ix ix_seqA v_ix (evn 2) (ev_op op_sub v_sub (evn 6) ev_int) (fun _ _ => rfl)) (evn 4) (ev_ix ix_seqA v_ix (evn 2) (evn 5) (fun _ _ => rfl)))) bv_nil))))))
    (bv_one (sv_ret (evn 4)))))))
set_option maxHeartbeats 2000000 in
theorem d__law_kinds (U : Env P w mg base T) (D__law_take : My.DnX P w T.K mg base 1 "_law_take" (spF T F__law_take)) (F : My.Df T.K mg "_law_kinds" s__law_kinds P__law_kinds) : My.DnX P w T.K mg base 2 "_law_kinds" (spF T F__law_kinds) :=
  okV F sc__law_kinds (by decide) <| fun fa cdv A outer s H vs E hr => (bv_cons (sv_set (i := 3) sc__law_kinds.nd rfl (.inl rfl) (ev_lst av_nil))
    (bv_cons (sv_for (passes_of rfl) rfl (iv_rg1 rfl U.B.range_ (av_cons (ev_fn c_len f_len rfl U.B.len_ PySem.boot_len (av_cons (evn 1) av_nil)) av_nil)) (gv_name (i := 4) sc__law_kinds.nd rfl (.inl rfl)) (bv_cons (sv_set (i := 5) sc__law_kinds.nd rfl (.inl rfl) (ev_call D__law_take (hr.mono (by decide)) rfl (L2N.takes_of rfl rfl rfl rfl) (av_cons (evn 0) (av_cons ev_int av_nil))))
    (bv_cons (sv_if (tv_w (wv_or (tv_e rfl (evn 2)) (wv_or1 (tv_cmp (o_in (hu65 hr)) v_in (evn 4) (evn 1))))) (bv_one (sv_set (i := 5) sc__law_kinds.nd rfl (.inl rfl) (ev_op op_mod v_mod (ev_ty call_int1 f_int rfl U.B.int_ boot_int (av_cons (evn 5) av_nil)) ev_int))) bv_nil)
    (bv_one (sv_expr (ev_mu rfl PySem.F.plainAttrs_list PySem.F.slot_list_append PySem.F.type_list_append (by decide) mt_append u_append (evn 3) (av_cons (ev_ix ix_seqA v_ix (ev_lst (av_cons ev_str (av_cons ev_str (av_cons ev_str (av_cons ev_str av_nil))))) (evn 5) (fun _ _ => rfl)) av_nil)))))))
    (bv_one (sv_ret (evn 3)))))
set_option maxHeartbeats 2000000 in
theorem d_way_ends (U : Env P w mg base T)  (F : My.Df T.K mg "way_ends" s_way_ends P_way_ends) : My.DnX P w T.K mg base 1 "way_ends" (spF T F_way_ends) :=
  okV F sc_way_ends (by decide) <| fun fa cdv A outer s H vs E hr => (bv_cons (sv_forN (passes_of rfl) rfl rfl (evn 0) (gv_name (i := 2) sc_way_ends.nd rfl (.inl rfl)) (bv_cons (sv_if (tv_cmp op_isN v_is (evn 1) ev_non) (bv_one (sv_ret ev_bl)) bv_nil)
    (bv_one (sv_set (i := 1) sc_way_ends.nd rfl (.inl rfl) (ev_ix ix_seqA v_ix (evn 0) (evn 1) (fun _ _ => rfl))))))
    (bv_one (sv_ret (ev_cmp op_isN v_is (evn 1) ev_non))))
set_option maxHeartbeats 2000000 in
theorem d_is_ranked (U : Env P w mg base T)  (F : My.Df T.K mg "is_ranked" s_is_ranked P_is_ranked) : My.DnX P w T.K mg base 1 "is_ranked" (spF T F_is_ranked) :=
  okV F sc_is_ranked (by decide) <| fun fa cdv A outer s H vs E hr => (bv_one (sv_ret (ev_or (ev_cmp (op_eqD hr.units) v_eq (evn 0) ev_str) (ev_one (ev_cmp (op_eqD hr.units) v_eq (evn 0) ev_str)))))
set_option maxHeartbeats 2000000 in
theorem d_check_forest (U : Env P w mg base T) (D_way_ends : My.DnX P w T.K mg base 1 "way_ends" (spF T F_way_ends)) (D_is_ranked : My.DnX P w T.K mg base 1 "is_ranked" (spF T F_is_ranked)) (F : My.Df T.K mg "check_forest" s_check_forest P_check_forest) : My.DnX P w T.K mg base 3 "check_forest" (spF T F_check_forest) :=
  okV F sc_check_forest (by decide) <| fun fa cdv A outer s H vs E hr => (bv_cons (sv_set (i := 2) sc_check_forest.nd rfl (.inl rfl) (ev_fn c_len f_len rfl U.B.len_ PySem.boot_len (av_cons (evn 0) av_nil)))
    (bv_cons (sv_if (tv_w (wv_or (tv_cmp (op_neD hr.units) v_ne (evn 2) (ev_fn c_len f_len rfl U.B.len_ PySem.boot_len (av_cons (evn 1) av_nil))) (wv_or (tv_cmp op_lt v_lt (evn 2) ev_int) (wv_or1 (tv_cmp op_gt v_gt (evn 2) (ev_globI rfl U.Gc.MOST_FIELDS_)))))) (bv_one (sv_raise1 fmt_ok rfl (L2N.takes_of rfl rfl rfl rfl) U.X_BadForest.d (hr.mono (by decide)) rfl U.X_BadForest.fl (av_cons ev_non av_nil))) bv_nil)
    (bv_cons (sv_forE (passes_of rfl) rfl rfl rfl U.B.enumerate_ (evn 0) (gv_tup rfl rfl (gsv_cons (gv_name (i := 3) sc_check_forest.nd rfl (.inl rfl)) (gsv_cons (gv_name (i := 4) sc_check_forest.nd rfl (.inl rfl)) gsv_nil)) rfl) (bv_one (sv_if (tv_w (wv_and (tv_cmp op_notN v_isn (evn 4) ev_non) (wv_and1 (tv_w (wv_or (tv_cmp op_lt v_lt (evn 4) ev_int) (wv_or1 (tv_cmp op_ge v_ge (evn 4) (evn 2)))))))) (bv_one (sv_raise1 fmt_ok rfl (L2N.takes_of rfl rfl rfl rfl) U.X_BadForest.d (hr.mono (by decide)) rfl U.X_BadForest.fl (av_cons (evn 3) av_nil))) bv_nil)))
    (bv_cons (sv_for (passes_of rfl) rfl (iv_rg1 rfl U.B.range_ (av_cons (evn 2) av_nil)) (gv_name (i := 3) sc_check_forest.nd rfl (.inl rfl)) (bv_one (sv_if (tv_not (tv_e rfl (ev_call D_way_ends (hr.mono (by decide)) rfl (L2N.takes_of rfl rfl rfl rfl) (av_cons (evn 0) (av_cons (evn 3) av_nil))))) (bv_one (sv_raise1 fmt_ok rfl (L2N.takes_of rfl rfl rfl rfl) U.X_BadForest.d (hr.mono (by decide)) rfl U.X_BadForest.fl (av_cons (evn 3) av_nil))) bv_nil)))
    (bv_one (sv_forE (passes_of rfl) rfl rfl rfl U.B.enumerate_ (evn 1) (gv_tup rfl rfl (gsv_cons (gv_name (i := 3) sc_check_forest.nd rfl (.inl rfl)) (gsv_cons (gv_name (i := 5) sc_check_forest.nd rfl (.inl rfl)) gsv_nil)) rfl) (bv_one (sv_if (tv_w (wv_and (tv_not (tv_e rfl (ev_call D_is_ranked (hr.mono (by decide)) rfl (L2N.takes_of rfl rfl rfl rfl) (av_cons (evn 5) av_nil)))) (wv_and1 (tv_cmp (o_in (hu65 hr)) v_in (evn 3) (evn 0))))) (bv_one (sv_raise1 fmt_ok rfl (L2N.takes_of rfl rfl rfl rfl) U.X_BadForest.d (hr.mono (by decide)) rfl U.X_BadForest.fl (av_cons (evn 3) av_nil))) bv_nil))))))))
set_option maxHeartbeats 2000000 in
theorem d_Forest____init__ (U : Env P w mg base T) (D_check_forest : My.DnX P w T.K mg base 3 "check_forest" (spF T F_check_forest)) (F : My.DfI T.K mg "Forest" (T.ca "Forest") "Forest.__init__" s_Forest____init__ P_Forest____init__) : My.DnIX P w T.K mg base 4 "Forest" (T.ca "Forest") (spF T F_Forest____init__) :=
  okVI F sc_Forest____init__ (by decide) <| fun fa cdv A outer s H vs E hr => (bv_cons (sv_expr (ev_call D_check_forest (hr.mono (by decide)) rfl (L2N.takes_of rfl rfl rfl rfl) (av_cons (evn 1) (av_cons (evn 2) av_nil))))
    (bv_cons (sv_at rfl U.T_Forest.cl U.T_Forest.n_fields (by rw [U.T_Forest.fl]; rfl) (by rw [U.T_Forest.fl]; decide) (by rw [U.T_Forest.fl]; decide) (evn 0) (ev_fn c_len f_len rfl U.B.len_ PySem.boot_len (av_cons (evn 1) av_nil)))
    (bv_cons (sv_at rfl U.T_Forest.cl U.T_Forest.n_parents (by rw [U.T_Forest.fl]; rfl) (by rw [U.T_Forest.fl]; decide) (by rw [U.T_Forest.fl]; decide) (evn 0) (ev_ty call_tuple_of f_tuple rfl U.B.tuple_ boot_tuple (av_cons (evn 1) av_nil)))
    (bv_one (sv_at rfl U.T_Forest.cl U.T_Forest.n_kinds (by rw [U.T_Forest.fl]; rfl) (by rw [U.T_Forest.fl]; decide) (by rw [U.T_Forest.fl]; decide) (evn 0) (ev_ty call_tuple_of f_tuple rfl U.B.tuple_ boot_tuple (av_cons (evn 2) av_nil)))))))
set_option maxHeartbeats 2000000 in
theorem d_Forest__leaves (U : Env P w mg base T)  (F : My.DfP T.K (T.ca "Forest") "leaves" "Forest.leaves" s_Forest__leaves P_Forest__leaves) : DnPX P w T.K mg base 1 (T.ca "Forest") "leaves" (spF T F_Forest__leaves) :=
  okVP F sc_Forest__leaves (by decide) <| fun fa cdv A outer s H vs E hr => (bv_one (sv_ret (ev_ty call_tuple_of f_tuple rfl U.B.tuple_ boot_tuple (av_cons (ev_lc (own := [("field", 1)]) rfl sc_Forest__leaves.nd rfl (by decide) (iv_rg1 rfl U.B.range_ (av_cons (ev_at rfl U.T_Forest.cl U.T_Forest.n_fields (by rw [U.T_Forest.fl]; rfl) (by rw [U.T_Forest.fl]; decide) (evn 0)) av_nil)) (blkOk_by (own := [("field", 1)]) (N := N_Forest__leaves) (sc := defScope s_Forest__leaves) (by decide +kernel)) (fun _ _ _ _ _ => (gv_name (i := 1) sc_Forest__leaves.nd rfl (.inl rfl))) (fun _ _ _ _ _ => (ptsv_one (tv_cmp (o_notIn (hu65 hr)) v_in (evn 1) (ev_at rfl U.T_Forest.cl U.T_Forest.n_parents (by rw [U.T_Forest.fl]; rfl) (by rw [U.T_Forest.fl]; decide) (evn 0))))) (fun _ _ _ _ _ => (evn 1))) av_nil))))
set_option maxHeartbeats 2000000 in
theorem d_ranked_leaves (U : Env P w mg base T) (D_Forest__leaves : DnPX P w T.K mg base 1 (T.ca "Forest") "leaves" (spF T F_Forest__leaves)) (D_is_ranked : My.DnX P w T.K mg base 1 "is_ranked" (spF T F_is_ranked)) (F : My.Df T.K mg "ranked_leaves" s_ranked_leaves P_ranked_leaves) : My.DnX P w T.K mg base 3 "ranked_leaves" (spF T F_ranked_leaves) :=
  okV F sc_ranked_leaves (by decide) <| fun fa cdv A outer s H vs E hr => (bv_one (sv_ret (ev_lc (own := [("leaf", 1)]) rfl sc_ranked_leaves.nd rfl (by decide) (iv_seq rfl (ev_prop rfl D_Forest__leaves U.T_Forest.cl (hr.mono (by decide)) (evn 0))) (blkOk_by (own := [("leaf", 1)]) (N := N_ranked_leaves) (sc := defScope s_ranked_leaves) (by decide +kernel)) (fun _ _ _ _ _ => (gv_name (i := 1) sc_ranked_leaves.nd rfl (.inl rfl))) (fun _ _ _ _ _ => (ptsv_one (tv_e rfl (ev_call D_is_ranked (hr.mono (by decide)) rfl My.takes0N (av_cons (ev_ix ix_seqA v_ix (ev_at rfl U.T_Forest.cl U.T_Forest.n_kinds (by rw [U.T_Forest.fl]; rfl) (by rw [U.T_Forest.fl]; decide) (evn 0)) (evn 1) (fun _ _ => rfl)) av_nil))))) (fun _ _ _ _ _ => (evn 1)))))
set_option maxHeartbeats 2000000 in
theorem d_Forest__children (U : Env P w mg base T)  (F : My.DfM T.K (T.ca "Forest") "children" "Forest.children" s_Forest__children P_Forest__children) : My.DnMX P w T.K mg base 1 (T.ca "Forest") "children" (spF T F_Forest__children) :=
  okVM F sc_Forest__children (by decide) <| fun fa cdv A outer s H vs E hr => (bv_one (sv_ret (ev_ty call_tuple_of f_tuple rfl U.B.tuple_ boot_tuple (av_cons (ev_lc (own := [("child", 2)]) rfl sc_Forest__children.nd rfl (by decide) (iv_rg1 rfl U.B.range_ (av_cons (ev_at rfl U.T_Forest.cl U.T_Forest.n_fields (by rw [U.T_Forest.fl]; rfl) (by rw [U.T_Forest.fl]; decide) (evn 0)) av_nil)) (blkOk_by (own := [("child", 2)]) (N := N_Forest__children) (sc := defScope s_Forest__children) (by decide +kernel)) (fun _ _ _ _ _ => (gv_name (i := 2) sc_Forest__children.nd rfl (.inl rfl))) (fun _ _ _ _ _ => (ptsv_one (tv_cmp (op_eqD hr.units) v_eq (ev_ix ix_seqA v_ix (ev_at rfl U.T_Forest.cl U.T_Forest.n_parents (by rw [U.T_Forest.fl]; rfl) (by rw [U.T_Forest.fl]; decide) (evn 0)) (evn 2) (fun _ _ => rfl)) (evn 1)))) (fun _ _ _ _ _ => (evn 2))) av_nil))))
set_option maxHeartbeats 2000000 in
theorem d_hung_classes (U : Env P w mg base T) (D_Forest__children : My.DnMX P w T.K mg base 1 (T.ca "Forest") "children" (spF T F_Forest__children)) (F : My.Df T.K mg "hung_classes" s_hung_classes P_hung_classes) : My.DnX P w T.K mg base 2 "hung_classes" (spF T F_hung_classes) :=
  okV F sc_hung_classes (by decide) <| fun fa cdv A outer s H vs E hr => (bv_cons (sv_set (i := 2) sc_hung_classes.nd rfl (.inl rfl) (ev_lst av_nil))
    (bv_cons (sv_for (passes_of rfl) rfl (iv_seq rfl (ev_op o_add v_add (ev_lst (av_cons ev_non av_nil)) (ev_listRg rfl rfl U.B.list_ rfl U.B.range_ (ev_at rfl U.T_Forest.cl U.T_Forest.n_fields (by rw [U.T_Forest.fl]; rfl) (by rw [U.T_Forest.fl]; decide) (evn 0))))) (gv_name (i := 3) sc_hung_classes.nd rfl (.inl rfl)) (bv_cons (sv_set (i := 4) sc_hung_classes.nd rfl (.inl rfl) (ev_ty call_tuple_of f_tuple rfl U.B.tuple_ boot_tuple (av_cons (ev_lc (own := [("child", 5)]) rfl sc_hung_classes.nd rfl (by decide) (iv_seq rfl (ev_meth rfl D_Forest__children U.T_Forest.cl (by rw [U.T_Forest.fl]; decide) (hr.mono (by decide)) (L2N.takes_of rfl rfl rfl rfl) (evn 0) (av_cons (evn 3) av_nil))) (blkOk_by (own := [("child", 5)]) (N := N_hung_classes) (sc := defScope s_hung_classes) (by decide +kernel)) (fun _ _ _ _ _ => (gv_name (i := 5) sc_hung_classes.nd rfl (.inl rfl))) (fun _ _ _ _ _ => (ptsv_one (tv_cmp (op_eqD hr.units) v_eq (ev_ix ix_seqA v_ix (ev_at rfl U.T_Forest.cl U.T_Forest.n_kinds (by rw [U.T_Forest.fl]; rfl) (by rw [U.T_Forest.fl]; decide) (evn 0)) (evn 5) (fun _ _ => rfl)) (evn 1)))) (fun _ _ _ _ _ => (evn 5))) av_nil)))
    (bv_one (sv_if (tv_e rfl (evn 4)) (bv_one (sv_expr (ev_mu rfl PySem.F.plainAttrs_list PySem.F.slot_list_append PySem.F.type_list_append (by decide) mt_append u_append (evn 2) (av_cons (ev_tup (av_cons (evn 3) (av_cons (evn 4) av_nil))) av_nil)))) bv_nil))))
    (bv_one (sv_ret (evn 2)))))
set_option maxHeartbeats 2000000 in
theorem d_class_count (U : Env P w mg base T) (D_ranked_leaves : My.DnX P w T.K mg base 3 "ranked_leaves" (spF T F_ranked_leaves)) (D_hung_classes : My.DnX P w T.K mg base 2 "hung_classes" (spF T F_hung_classes)) (F : My.Df T.K mg "class_count" s_class_count P_class_count) : My.DnX P w T.K mg base 4 "class_count" (spF T F_class_count) :=
  okV F sc_class_count (by decide) <| fun fa cdv A outer s H vs E hr => (bv_one (sv_ret (ev_op o_add v_add (ev_op o_add v_add (ev_fn c_len f_len rfl U.B.len_ PySem.boot_len (av_cons (ev_call D_ranked_leaves (hr.mono (by decide)) rfl (L2N.takes_of rfl rfl rfl rfl) (av_cons (evn 0) av_nil)) av_nil)) (ev_fn c_len f_len rfl U.B.len_ PySem.boot_len (av_cons (ev_call D_hung_classes (hr.mono (by decide)) rfl (L2N.takes_of rfl rfl rfl rfl) (av_cons (evn 0) (av_cons ev_str av_nil))) av_nil))) (ev_fn c_len f_len rfl U.B.len_ PySem.boot_len (av_cons (ev_call D_hung_classes (hr.mono (by decide)) rfl (L2N.takes_of rfl rfl rfl rfl) (av_cons (evn 0) (av_cons ev_str av_nil))) av_nil)))))
set_option maxHeartbeats 2000000 in
theorem d__law_is_integer (U : Env P w mg base T)  (F : My.Df T.K mg "_law_is_integer" s__law_is_integer P__law_is_integer) : My.DnX P w T.K mg base 1 "_law_is_integer" (spF T F__law_is_integer) :=
  okV F sc__law_is_integer (by decide) <| fun fa cdv A outer s H vs E hr => (bv_one (sv_ret (ev_and (ev_fn call_isi f_isi rfl U.B.isinstance_ boot_isinstance (av_cons (evn 0) (av_cons (ev_tyN rfl U.B.int_ boot_int) av_nil))) (ev_one (ev_not (ev_fn call_isi f_isi rfl U.B.isinstance_ boot_isinstance (av_cons (evn 0) (av_cons (ev_tyN rfl U.B.bool_ boot_bool) av_nil))))))))
set_option maxHeartbeats 2000000 in
theorem d__law_class_count (U : Env P w mg base T)  (F : My.Df T.K mg "_law_class_count" s__law_class_count P__law_class_count) : My.DnX P w T.K mg base 1 "_law_class_count" (spF T F__law_class_count) :=
  okV F sc__law_class_count (by decide) <| fun fa cdv A outer s H vs E hr => (bv_cons (sv_set (i := 2) sc__law_class_count.nd rfl (.inl rfl) ev_int)
    (bv_cons (sv_for (passes_of rfl) rfl (iv_rg1 rfl U.B.range_ (av_cons (ev_fn c_len f_len rfl U.B.len_ PySem.boot_len (av_cons (evn 0) av_nil)) av_nil)) (gv_name (i := 3) sc__law_class_count.nd rfl (.inl rfl)) (bv_one (sv_if (tv_w (wv_and (tv_cmp (o_notIn (hu65 hr)) v_in (evn 3) (evn 0)) (wv_and1 (tv_cmp (o_in (hu65 hr)) v_in (ev_ix ix_seqA v_ix (evn 1) (evn 3) (fun _ _ => rfl)) (ev_lst (av_cons ev_str (av_cons ev_str av_nil))))))) (bv_one (sv_set (i := 2) sc__law_class_count.nd rfl (.inl rfl) (ev_op o_add v_add (evn 2) ev_int))) bv_nil)))
    (bv_cons (sv_for (passes_of rfl) rfl (iv_seq rfl (ev_op o_add v_add (ev_lst (av_cons ev_non av_nil)) (ev_listRg rfl rfl U.B.list_ rfl U.B.range_ (ev_fn c_len f_len rfl U.B.len_ PySem.boot_len (av_cons (evn 0) av_nil))))) (gv_name (i := 4) sc__law_class_count.nd rfl (.inr rfl)) (bv_cons (sv_setLc (i := 5) (own := [("_law_field", 3)]) rfl sc__law_class_count.nd rfl rfl (sw_true rfl rfl rfl (by decide +kernel)) rfl (by decide) (iv_rg1 rfl U.B.range_ (av_cons (ev_fn c_len f_len rfl U.B.len_ PySem.boot_len (av_cons (evn 0) av_nil)) av_nil)) (blkOk_by (own := [("_law_field", 3)]) (N := N__law_class_count) (sc := defScope s__law_class_count) (by decide +kernel)) (fun _ _ _ _ _ => (gv_name (i := 3) sc__law_class_count.nd rfl (.inl rfl))) (fun _ _ _ _ _ => (ptsv_one (tv_cmp (op_eqD hr.units) v_eq (ev_ix ix_seqA v_ix (evn 0) (evn 3) (fun _ _ => rfl)) (evn 4)))) (fun _ _ _ _ _ => (ev_ix ix_seqA v_ix (evn 1) (evn 3) (fun _ _ => rfl))))
    (bv_one (sv_set (i := 2) sc__law_class_count.nd rfl (.inl rfl) (ev_op o_add v_add (ev_op o_add v_add (evn 2) (ev_ty call_int1 f_int rfl U.B.int_ boot_int (av_cons (ev_cmp (o_in (hu65 hr)) v_in ev_str (evn 5)) av_nil))) (ev_ty call_int1 f_int rfl U.B.int_ boot_int (av_cons (ev_cmp (o_in (hu65 hr)) v_in ev_str (evn 5)) av_nil)))))))
    (bv_one (sv_ret (evn 2))))))
set_option maxHeartbeats 2000000 in
theorem d_Forest__path (U : Env P w mg base T)  (F : My.DfM T.K (T.ca "Forest") "path" "Forest.path" s_Forest__path P_Forest__path) : My.DnMX P w T.K mg base 1 (T.ca "Forest") "path" (spF T F_Forest__path) :=
  okVM F sc_Forest__path (by decide) <| fun fa cdv A outer s H vs E hr => (bv_cons (sv_set (i := 2) sc_Forest__path.nd rfl (.inl rfl) (ev_tup (av_cons (evn 1) av_nil)))
    (bv_cons (sv_while (passes_of rfl) (tv_cmp op_notN v_isn (ev_ix ix_seqA v_ix (ev_at rfl U.T_Forest.cl U.T_Forest.n_parents (by rw [U.T_Forest.fl]; rfl) (by rw [U.T_Forest.fl]; decide) (evn 0)) (ev_ix ix_seqA v_ix (evn 2) ev_int (fun _ _ => rfl)) (fun _ _ => rfl)) ev_non) (bv_one (sv_set (i := 2) sc_Forest__path.nd rfl (.inl rfl) (ev_op o_add v_add (ev_tup (av_cons (ev_ix ix_seqA v_ix (ev_at rfl U.T_Forest.cl U.T_Forest.n_parents (by rw [U.T_Forest.fl]; rfl) (by rw [U.T_Forest.fl]; decide) (evn 0)) (ev_ix ix_seqA v_ix (evn 2) ev_int (fun _ _ => rfl)) (fun _ _ => rfl)) av_nil)) (evn 2)))))
    (bv_one (sv_ret (evn 2)))))
set_option maxHeartbeats 2000000 in
theorem d_hung_by_way (U : Env P w mg base T) (D_hung_classes : My.DnX P w T.K mg base 2 "hung_classes" (spF T F_hung_classes)) (D_Forest__path : My.DnMX P w T.K mg base 1 (T.ca "Forest") "path" (spF T F_Forest__path)) (F : My.Df T.K mg "hung_by_way" s_hung_by_way P_hung_by_way) : My.DnX P w T.K mg base 3 "hung_by_way" (spF T F_hung_by_way) :=
  okV F sc_hung_by_way (by decide) <| fun fa cdv A outer s H vs E hr => (bv_cons (sv_set (i := 2) sc_hung_by_way.nd rfl (.inl rfl) (ev_fn (call_or2 (call_or2 cr_sortedI cr_sortedPS) (call_sortD hr)) f_sortedB rfl U.B.sorted_ (by decide +kernel) (av_cons (ev_lc (own := [("_", 3), ("hung", 4)]) rfl sc_hung_by_way.nd rfl (by decide) (iv_seq rfl (ev_call D_hung_classes (hr.mono (by decide)) rfl (L2N.takes_of rfl rfl rfl rfl) (av_cons (evn 0) (av_cons (evn 1) av_nil)))) (blkOk_by (own := [("_", 3), ("hung", 4)]) (N := N_hung_by_way) (sc := defScope s_hung_by_way) (by decide +kernel)) (fun _ _ _ _ _ => (gv_tup rfl rfl (gsv_cons (gv_name (i := 3) sc_hung_by_way.nd rfl (.inl rfl)) (gsv_cons (gv_name (i := 4) sc_hung_by_way.nd rfl (.inl rfl)) gsv_nil)) rfl)) (fun _ _ _ _ _ => ptsv_nil) (fun _ _ _ _ _ => (ev_tup (av_cons (ev_fn c_len f_len rfl U.B.len_ PySem.boot_len (av_cons (ev_meth rfl D_Forest__path U.T_Forest.cl (by rw [U.T_Forest.fl]; decide) (hr.mono (by decide)) My.takes0N (evn 0) (av_cons (ev_ix ix_seqA v_ix (evn 4) ev_int (fun _ _ => rfl)) av_nil)) av_nil)) (av_cons (evn 4) av_nil))))) av_nil)))
    (bv_one (sv_ret (ev_lc (own := [("_", 3), ("hung", 4)]) rfl sc_hung_by_way.nd rfl (by decide) (iv_seq rfl (evn 2)) (blkOk_by (own := [("_", 3), ("hung", 4)]) (N := N_hung_by_way) (sc := defScope s_hung_by_way) (by decide +kernel)) (fun _ _ _ _ _ => (gv_tup rfl rfl (gsv_cons (gv_name (i := 3) sc_hung_by_way.nd rfl (.inl rfl)) (gsv_cons (gv_name (i := 4) sc_hung_by_way.nd rfl (.inl rfl)) gsv_nil)) rfl)) (fun _ _ _ _ _ => ptsv_nil) (fun _ _ _ _ _ => (evn 4))))))
set_option maxHeartbeats 2000000 in
theorem d_raised (U : Env P w mg base T)  (F : My.Df T.K mg "raised" s_raised P_raised) : My.DnX P w T.K mg base 1 "raised" (spF T F_raised) :=
  okV F sc_raised (by decide) <| fun fa cdv A outer s H vs E hr => (bv_cons (sv_if (tv_cmp (op_eqD hr.units) v_eq (evn 0) ev_str) (bv_one (sv_ret (ev_op op_sub v_sub (evn 1) (evn 2)))) bv_nil)
    (bv_one (sv_ret (ev_op o_add v_add (evn 1) (evn 2)))))
set_option maxHeartbeats 2000000 in
theorem d_zeros_raised (U : Env P w mg base T) (D_raised : My.DnX P w T.K mg base 1 "raised" (spF T F_raised)) (F : My.Df T.K mg "zeros_raised" s_zeros_raised P_zeros_raised) : My.DnX P w T.K mg base 2 "zeros_raised" (spF T F_zeros_raised) :=
  okV F sc_zeros_raised (by decide) <| fun fa cdv A outer s H vs E hr => (bv_one (sv_ret (ev_ty call_tuple_of f_tuple rfl U.B.tuple_ boot_tuple (av_cons (ev_lc (own := [("field", 2), ("kind", 3)]) rfl sc_zeros_raised.nd rfl (by decide) (iv_enum rfl rfl U.B.enumerate_ (av_cons (ev_at rfl U.T_Forest.cl U.T_Forest.n_kinds (by rw [U.T_Forest.fl]; rfl) (by rw [U.T_Forest.fl]; decide) (evn 0)) av_nil)) (blkOk_by (own := [("field", 2), ("kind", 3)]) (N := N_zeros_raised) (sc := defScope s_zeros_raised) (by decide +kernel)) (fun _ _ _ _ _ => (gv_tup rfl rfl (gsv_cons (gv_name (i := 2) sc_zeros_raised.nd rfl (.inl rfl)) (gsv_cons (gv_name (i := 3) sc_zeros_raised.nd rfl (.inl rfl)) gsv_nil)) rfl)) (fun _ _ _ _ _ => ptsv_nil) (fun _ _ _ _ _ => (ev_if (tv_cmp (o_in (hu65 hr)) v_in (evn 2) (evn 1)) (ev_call D_raised (hr.mono (by decide)) rfl My.takes0N (av_cons (evn 3) (av_cons ev_int (av_cons ev_int av_nil)))) ev_int))) av_nil))))
set_option maxHeartbeats 2000000 in
theorem d_needy_row (U : Env P w mg base T) (D_hung_by_way : My.DnX P w T.K mg base 3 "hung_by_way" (spF T F_hung_by_way)) (D_ranked_leaves : My.DnX P w T.K mg base 3 "ranked_leaves" (spF T F_ranked_leaves)) (D_Forest__path : My.DnMX P w T.K mg base 1 (T.ca "Forest") "path" (spF T F_Forest__path)) (D_zeros_raised : My.DnX P w T.K mg base 2 "zeros_raised" (spF T F_zeros_raised)) (F : My.Df T.K mg "needy_row" s_needy_row P_needy_row) : My.DnX P w T.K mg base 4 "needy_row" (spF T F_needy_row) :=
  okV F sc_needy_row (by decide) <| fun fa cdv A outer s H vs E hr => (bv_cons (sv_set (i := 1) sc_needy_row.nd rfl (.inl rfl) (ev_call D_hung_by_way (hr.mono (by decide)) rfl (L2N.takes_of rfl rfl rfl rfl) (av_cons (evn 0) (av_cons ev_str av_nil))))
    (bv_cons (sv_expr (ev_mu rfl PySem.F.plainAttrs_list PySem.F.slot_list_extend PySem.F.type_list_extend (by decide) mt_extA u_extA (evn 1) (av_cons (ev_lc (own := [("leaf", 2)]) rfl sc_needy_row.nd rfl (by decide) (iv_seq rfl (ev_call D_ranked_leaves (hr.mono (by decide)) rfl (L2N.takes_of rfl rfl rfl rfl) (av_cons (evn 0) av_nil))) (blkOk_by (own := [("leaf", 2)]) (N := N_needy_row) (sc := defScope s_needy_row) (by decide +kernel)) (fun _ _ _ _ _ => (gv_name (i := 2) sc_needy_row.nd rfl (.inl rfl))) (fun _ _ _ _ _ => ptsv_nil) (fun _ _ _ _ _ => (ev_tup (av_cons (evn 2) av_nil)))) av_nil)))
    (bv_cons (sv_expr (ev_mu rfl PySem.F.plainAttrs_list PySem.F.slot_list_extend PySem.F.type_list_extend (by decide) mt_extA u_extA (evn 1) (av_cons (ev_revSl rfl (ev_call D_hung_by_way (hr.mono (by decide)) rfl (L2N.takes_of rfl rfl rfl rfl) (av_cons (evn 0) (av_cons ev_str av_nil)))) av_nil)))
    (bv_one (sv_ret (ev_lc (own := [("leaves", 3)]) rfl sc_needy_row.nd rfl (by decide) (iv_seq rfl (evn 1)) (blkOk_by (own := [("leaves", 3)]) (N := N_needy_row) (sc := defScope s_needy_row) (by decide +kernel)) (fun _ _ _ _ _ => (gv_name (i := 3) sc_needy_row.nd rfl (.inl rfl))) (fun _ _ _ _ _ => ptsv_nil) (fun _ _ _ _ _ => (ev_call D_zeros_raised (hr.mono (by decide)) rfl My.takes0N (av_cons (evn 0) (av_cons (ev_op o_add v_add (ev_meth rfl D_Forest__path U.T_Forest.cl (by rw [U.T_Forest.fl]; decide) (hr.mono (by decide)) My.takes0N (evn 0) (av_cons (ev_ix ix_seqA v_ix (evn 3) ev_int (fun _ _ => rfl)) av_nil)) (evn 3)) av_nil))))))))))
set_option maxHeartbeats 2000000 in
theorem d__law_is_record (U : Env P w mg base T) (D__law_is_integer : My.DnX P w T.K mg base 1 "_law_is_integer" (spF T F__law_is_integer)) (F : My.Df T.K mg "_law_is_record" s__law_is_record P__law_is_record) : My.DnX P w T.K mg base 2 "_law_is_record" (spF T F__law_is_record) :=
  okV F sc__law_is_record (by decide) <| fun fa cdv A outer s H vs E hr => (bv_cons (sv_if (tv_w (wv_or (tv_not (tv_e rfl (ev_fn call_isi f_isi rfl U.B.isinstance_ boot_isinstance (av_cons (evn 0) (av_cons (ev_tyN rfl U.B.tuple_ boot_tuple) av_nil))))) (wv_or1 (tv_cmp (op_neD hr.units) v_ne (ev_fn c_len f_len rfl U.B.len_ PySem.boot_len (av_cons (evn 0) av_nil)) (evn 1))))) (bv_one (sv_ret ev_bl)) bv_nil)
    (bv_cons (sv_forN (passes_of rfl) rfl rfl (evn 0) (gv_name (i := 2) sc__law_is_record.nd rfl (.inl rfl)) (bv_one (sv_if (tv_not (tv_e rfl (ev_call D__law_is_integer (hr.mono (by decide)) rfl (L2N.takes_of rfl rfl rfl rfl) (av_cons (evn 2) av_nil)))) (bv_one (sv_ret ev_bl)) bv_nil)))
    (bv_one (sv_ret ev_bl))))
set_option maxHeartbeats 2000000 in
theorem d__law_path (U : Env P w mg base T)  (F : My.Df T.K mg "_law_path" s__law_path P__law_path) : My.DnX P w T.K mg base 1 "_law_path" (spF T F__law_path) :=
  okV F sc__law_path (by decide) <| fun fa cdv A outer s H vs E hr => (bv_cons (sv_set (i := 2) sc__law_path.nd rfl (.inl rfl) (ev_lst (av_cons (evn 1) av_nil)))
    (bv_cons (sv_for (passes_of rfl) rfl (iv_rg1 rfl U.B.range_ (av_cons (ev_fn c_len f_len rfl U.B.len_ PySem.boot_len (av_cons (evn 0) av_nil)) av_nil)) (gv_name (i := 3) sc__law_path.nd rfl (.inl rfl)) (bv_one (sv_if (tv_cmp op_notN v_isn (ev_ix ix_seqA v_ix (evn 0) (ev_ix ix_seqA v_ix (evn 2) ev_int (fun _ _ => rfl)) (fun _ _ => rfl)) ev_non) (bv_one (sv_expr (ev_mu rfl PySem.F.plainAttrs_list PySem.F.slot_list_insert PySem.F.type_list_insert (by decide) mt_insert u_insert (evn 2) (av_cons ev_int (av_cons (ev_ix ix_seqA v_ix (evn 0) (ev_ix ix_seqA v_ix (evn 2) ev_int (fun _ _ => rfl)) (fun _ _ => rfl)) av_nil))))) bv_nil)))
    (bv_one (sv_ret (evn 2)))))
set_option maxHeartbeats 2000000 in
theorem d__law_side (U : Env P w mg base T) (D__law_path : My.DnX P w T.K mg base 1 "_law_path" (spF T F__law_path)) (F : My.Df T.K mg "_law_side" s__law_side P__law_side) : My.DnX P w T.K mg base 2 "_law_side" (spF T F__law_side) :=
  okV F sc__law_side (by decide) <| fun fa cdv A outer s H vs E hr => (bv_cons (sv_for (passes_of rfl) rfl (iv_seq rfl (ev_call D__law_path (hr.mono (by decide)) rfl (L2N.takes_of rfl rfl rfl rfl) (av_cons (evn 0) (av_cons (evn 2) av_nil)))) (gv_name (i := 5) sc__law_side.nd rfl (.inl rfl)) (bv_one (sv_if (tv_cmp (op_neD hr.units) v_ne (ev_ix ix_seqA v_ix (evn 3) (evn 5) (fun _ _ => rfl)) (ev_ix ix_seqA v_ix (evn 4) (evn 5) (fun _ _ => rfl))) (bv_cons (sv_if (tv_cmp (op_eqD hr.units) v_eq (ev_ix ix_seqA v_ix (evn 1) (evn 5) (fun _ _ => rfl)) ev_str) (bv_one (sv_ret ev_int)) bv_nil)
    (bv_cons (sv_if (tv_cmp (op_eqD hr.units) v_eq (ev_ix ix_seqA v_ix (evn 1) (evn 5) (fun _ _ => rfl)) ev_str) (bv_one (sv_ret ev_int)) bv_nil)
    (bv_one (sv_ret (ev_ty call_int1 f_int rfl U.B.int_ boot_int (av_cons (ev_cmp (op_neD hr.units) v_ne (ev_cmp op_gt v_gt (ev_ix ix_seqA v_ix (evn 3) (evn 5) (fun _ _ => rfl)) (ev_ix ix_seqA v_ix (evn 4) (evn 5) (fun _ _ => rfl))) (ev_cmp (op_eqD hr.units) v_eq (ev_ix ix_seqA v_ix (evn 1) (evn 5) (fun _ _ => rfl)) ev_str)) av_nil)))))) bv_nil)))
    (bv_one (sv_ret ev_int)))
set_option maxHeartbeats 2000000 in
theorem d__law_merge (U : Env P w mg base T) (D__law_side : My.DnX P w T.K mg base 2 "_law_side" (spF T F__law_side)) (F : My.Df T.K mg "_law_merge" s__law_merge P__law_merge) : My.DnX P w T.K mg base 3 "_law_merge" (spF T F__law_merge) :=
  okV F sc__law_merge (by decide) <| fun fa cdv A outer s H vs E hr => (bv_cons (sv_set (i := 4) sc__law_merge.nd rfl (.inr rfl) (ev_lst (av_cons (evn 2) (av_cons (evn 3) av_nil))))
    (bv_one (sv_ret (ev_ty call_tuple_of f_tuple rfl U.B.tuple_ boot_tuple (av_cons (ev_lc (own := [("_law_f", 5)]) rfl sc__law_merge.nd rfl (by decide) (iv_rg1 rfl U.B.range_ (av_cons (ev_fn c_len f_len rfl U.B.len_ PySem.boot_len (av_cons (evn 0) av_nil)) av_nil)) (blkOk_by (own := [("_law_f", 5)]) (N := N__law_merge) (sc := defScope s__law_merge) (by decide +kernel)) (fun _ _ _ _ _ => (gv_name (i := 5) sc__law_merge.nd rfl (.inl rfl))) (fun _ _ _ _ _ => ptsv_nil) (fun _ _ _ _ _ => (ev_ix ix_seqA v_ix (ev_ix ix_seqA v_ix (evn 4) (ev_call D__law_side (hr.mono (by decide)) rfl My.takes0N (av_cons (evn 0) (av_cons (evn 1) (av_cons (evn 5) (av_cons (evn 2) (av_cons (evn 3) av_nil)))))) (fun _ _ => rfl)) (evn 5) (fun _ _ => rfl)))) av_nil)))))
set_option maxHeartbeats 2000000 in
theorem d__law_fold (U : Env P w mg base T) (D__law_merge : My.DnX P w T.K mg base 3 "_law_merge" (spF T F__law_merge)) (F : My.Df T.K mg "_law_fold" s__law_fold P__law_fold) : My.DnX P w T.K mg base 4 "_law_fold" (spF T F__law_fold) :=
  okV F sc__law_fold (by decide) <| fun fa cdv A outer s H vs E hr => (bv_cons (sv_set (i := 3) sc__law_fold.nd rfl (.inl rfl) (ev_ix ix_seqA v_ix (evn 2) ev_int (fun _ _ => rfl)))
    (bv_cons (sv_for (passes_of rfl) rfl (iv_seq rfl (ev_sl rfl (evn 2) (ov_some ev_int) ov_none)) (gv_name (i := 4) sc__law_fold.nd rfl (.inl rfl)) (bv_one (sv_set (i := 3) sc__law_fold.nd rfl (.inl rfl) (ev_call D__law_merge (hr.mono (by decide)) rfl (L2N.takes_of rfl rfl rfl rfl) (av_cons (evn 0) (av_cons (evn 1) (av_cons (evn 3) (av_cons (evn 4) av_nil))))))))
    (bv_one (sv_ret (evn 3)))))
set_option maxHeartbeats 2000000 in
theorem d__law_needs_all (U : Env P w mg base T) (D__law_fold : My.DnX P w T.K mg base 4 "_law_fold" (spF T F__law_fold)) (F : My.Df T.K mg "_law_needs_all" s__law_needs_all P__law_needs_all) : My.DnX P w T.K mg base 5 "_law_needs_all" (spF T F__law_needs_all) :=
  okV F sc__law_needs_all (by decide) <| fun fa cdv A outer s H vs E hr => (bv_cons (sv_set (i := 3) sc__law_needs_all.nd rfl (.inl rfl) (ev_call D__law_fold (hr.mono (by decide)) rfl (L2N.takes_of rfl rfl rfl rfl) (av_cons (evn 0) (av_cons (evn 1) (av_cons (evn 2) av_nil)))))
    (bv_cons (sv_for (passes_of rfl) rfl (iv_rg1 rfl U.B.range_ (av_cons (ev_fn c_len f_len rfl U.B.len_ PySem.boot_len (av_cons (evn 2) av_nil)) av_nil)) (gv_name (i := 4) sc__law_needs_all.nd rfl (.inl rfl)) (bv_cons (sv_set (i := 5) sc__law_needs_all.nd rfl (.inl rfl) (ev_op o_add v_add (ev_sl rfl (evn 2) ov_none (ov_some (evn 4))) (ev_sl rfl (evn 2) (ov_some (ev_op o_add v_add (evn 4) ev_int)) ov_none)))
    (bv_one (sv_if (tv_w (wv_and (tv_cmp (op_neD hr.units) v_ne (evn 5) (ev_lst av_nil)) (wv_and1 (tv_cmp (op_eqD hr.units) v_eq (ev_call D__law_fold (hr.mono (by decide)) rfl (L2N.takes_of rfl rfl rfl rfl) (av_cons (evn 0) (av_cons (evn 1) (av_cons (evn 5) av_nil)))) (evn 3))))) (bv_one (sv_ret ev_bl)) bv_nil))))
    (bv_one (sv_ret ev_bl))))
set_option maxHeartbeats 2000000 in
theorem d__law_is_needy (U : Env P w mg base T) (D_class_count : My.DnX P w T.K mg base 4 "class_count" (spF T F_class_count)) (D__law_is_integer : My.DnX P w T.K mg base 1 "_law_is_integer" (spF T F__law_is_integer)) (D__law_class_count : My.DnX P w T.K mg base 1 "_law_class_count" (spF T F__law_class_count)) (D_needy_row : My.DnX P w T.K mg base 4 "needy_row" (spF T F_needy_row)) (D__law_is_record : My.DnX P w T.K mg base 2 "_law_is_record" (spF T F__law_is_record)) (D__law_needs_all : My.DnX P w T.K mg base 5 "_law_needs_all" (spF T F__law_needs_all)) (F : My.Df T.K mg "_law_is_needy" s__law_is_needy P__law_is_needy) : My.DnX P w T.K mg base 6 "_law_is_needy" (spF T F__law_is_needy) :=
  okV F sc__law_is_needy (by decide) <| fun fa cdv A outer s H vs E hr => (bv_cons (sv_set (i := 3) sc__law_is_needy.nd rfl (.inl rfl) (ev_call D_class_count (hr.mono (by decide)) rfl (L2N.takes_of rfl rfl rfl rfl) (av_cons (evn 0) av_nil)))
    (bv_cons (sv_if (tv_w (wv_or (tv_not (tv_e rfl (ev_call D__law_is_integer (hr.mono (by decide)) rfl (L2N.takes_of rfl rfl rfl rfl) (av_cons (evn 3) av_nil)))) (wv_or1 (tv_cmp (op_neD hr.units) v_ne (evn 3) (ev_call D__law_class_count (hr.mono (by decide)) rfl (L2N.takes_of rfl rfl rfl rfl) (av_cons (evn 1) (av_cons (evn 2) av_nil))))))) (bv_one (sv_ret ev_bl)) bv_nil)
    (bv_cons (sv_set (i := 4) sc__law_is_needy.nd rfl (.inl rfl) (ev_call D_needy_row (hr.mono (by decide)) rfl (L2N.takes_of rfl rfl rfl rfl) (av_cons (evn 0) av_nil)))
    (bv_cons (sv_if (tv_w (wv_or (tv_not (tv_e rfl (ev_fn call_isi f_isi rfl U.B.isinstance_ boot_isinstance (av_cons (evn 4) (av_cons (ev_tyN rfl U.B.list_ boot_list) av_nil))))) (wv_or1 (tv_cmp (op_neD hr.units) v_ne (ev_fn c_len f_len rfl U.B.len_ PySem.boot_len (av_cons (evn 4) av_nil)) (evn 3))))) (bv_one (sv_ret ev_bl)) bv_nil)
    (bv_cons (sv_for (passes_of rfl) rfl (iv_seq rfl (evn 4)) (gv_name (i := 5) sc__law_is_needy.nd rfl (.inl rfl)) (bv_cons (sv_if (tv_not (tv_e rfl (ev_call D__law_is_record (hr.mono (by decide)) rfl (L2N.takes_of rfl rfl rfl rfl) (av_cons (evn 5) (av_cons (ev_fn c_len f_len rfl U.B.len_ PySem.boot_len (av_cons (evn 1) av_nil)) av_nil))))) (bv_one (sv_ret ev_bl)) bv_nil)
    (bv_one (sv_if (tv_cmp (op_neD hr.units) v_ne (ev_lc (own := [("_law_value", 6)]) rfl sc__law_is_needy.nd rfl (by decide) (iv_seq rfl (evn 5)) (blkOk_by (own := [("_law_value", 6)]) (N := N__law_is_needy) (sc := defScope s__law_is_needy) (by decide +kernel)) (fun _ _ _ _ _ => (gv_name (i := 6) sc__law_is_needy.nd rfl (.inl rfl))) (fun _ _ _ _ _ => (ptsv_one (tv_not (tv_chv op_le v_le op_le v_le (ev_un un_neg v_neg ev_int) (evn 6) ev_int)))) (fun _ _ _ _ _ => (evn 6))) (ev_lst av_nil)) (bv_one (sv_ret ev_bl)) bv_nil))))
    (bv_one (sv_ret (ev_call D__law_needs_all (hr.mono (by decide)) rfl (L2N.takes_of rfl rfl rfl rfl) (av_cons (evn 1) (av_cons (evn 2) (av_cons (ev_ty call_list_of f_list rfl U.B.list_ boot_list (av_cons (evn 4) av_nil)) av_nil)))))))))))
set_option maxHeartbeats 2000000 in
theorem d_law {f : Addr} {fd : FuncData} (U : Env P w mg base T) (D__law_tape : My.DnX P w T.K mg base 1 "_law_tape" (spF T F__law_tape)) (D__law_fields : My.DnX P w T.K mg base 2 "_law_fields" (spF T F__law_fields)) (D__law_parents : My.DnX P w T.K mg base 3 "_law_parents" (spF T F__law_parents)) (D__law_kinds : My.DnX P w T.K mg base 2 "_law_kinds" (spF T F__law_kinds)) (D_Forest____init__ : My.DnIX P w T.K mg base 4 "Forest" (T.ca "Forest") (spF T F_Forest____init__)) (D__law_is_needy : My.DnX P w T.K mg base 6 "_law_is_needy" (spF T F__law_is_needy)) (D_needy_row : My.DnX P w T.K mg base 4 "needy_row" (spF T F_needy_row)) (F : L2.Fun T.K "law" "law" s_law f fd) (hl : ∀ ns : List Int, ns.length ≤ 63 → ∃ fin, F_law [.scr ns] = .ok (.bl true) fin) : My.FnG P w T.K mg base (L2N.CX P w) 7 f fd ["_law_script"] (spLaw T.K) :=
  law_ok (W := W_law) F sc_law (by decide) hl <| fun fa cdv A outer s H vs E hr => (bv_cons (sv_set (i := 1) sc_law.nd rfl (.inl rfl) (ev_call D__law_tape (hr.mono (by decide)) rfl (L2N.takes_of rfl rfl rfl rfl) (av_cons (evn 0) (av_cons ev_int av_nil))))
    (bv_cons (sv_set (i := 2) sc_law.nd rfl (.inl rfl) (ev_call D__law_parents (hr.mono (by decide)) rfl (L2N.takes_of rfl rfl rfl rfl) (av_cons (evn 1) (av_cons (ev_call D__law_fields (hr.mono (by decide)) rfl (L2N.takes_of rfl rfl rfl rfl) (av_cons (evn 1) av_nil)) av_nil))))
    (bv_cons (sv_set (i := 3) sc_law.nd rfl (.inl rfl) (ev_call D__law_kinds (hr.mono (by decide)) rfl (L2N.takes_of rfl rfl rfl rfl) (av_cons (ev_call D__law_tape (hr.mono (by decide)) rfl (L2N.takes_of rfl rfl rfl rfl) (av_cons (evn 0) (av_cons ev_int av_nil))) (av_cons (evn 2) (av_cons ev_bl av_nil)))))
    (bv_cons (sv_set (i := 4) sc_law.nd rfl (.inl rfl) (ev_call D__law_kinds (hr.mono (by decide)) rfl (L2N.takes_of rfl rfl rfl rfl) (av_cons (ev_call D__law_tape (hr.mono (by decide)) rfl (L2N.takes_of rfl rfl rfl rfl) (av_cons (evn 0) (av_cons ev_int av_nil))) (av_cons (evn 2) (av_cons ev_bl av_nil)))))
    (bv_cons (sv_set (i := 5) sc_law.nd rfl (.inl rfl) (ev_make D_Forest____init__ (hr.mono (by decide)) rfl (L2N.takes_of rfl rfl rfl rfl) (av_cons (ev_ty call_list_of f_list rfl U.B.list_ boot_list (av_cons (evn 2) av_nil)) (av_cons (ev_ty call_list_of f_list rfl U.B.list_ boot_list (av_cons (evn 3) av_nil)) av_nil))))
    (bv_cons (sv_set (i := 6) sc_law.nd rfl (.inl rfl) (ev_make D_Forest____init__ (hr.mono (by decide)) rfl (L2N.takes_of rfl rfl rfl rfl) (av_cons (ev_ty call_list_of f_list rfl U.B.list_ boot_list (av_cons (evn 2) av_nil)) (av_cons (ev_ty call_list_of f_list rfl U.B.list_ boot_list (av_cons (evn 4) av_nil)) av_nil))))
    (bv_cons (sv_if (tv_not (tv_e rfl (ev_call D__law_is_needy (hr.mono (by decide)) rfl (L2N.takes_of rfl rfl rfl rfl) (av_cons (evn 5) (av_cons (evn 2) (av_cons (evn 3) av_nil)))))) (bv_one (sv_ret ev_bl)) bv_nil)
    (bv_cons (sv_set (i := 7) sc_law.nd rfl (.inl rfl) (ev_call D_needy_row (hr.mono (by decide)) rfl (L2N.takes_of rfl rfl rfl rfl) (av_cons (evn 5) av_nil)))
    (bv_cons (sv_set (i := 8) sc_law.nd rfl (.inl rfl) (ev_fn (call_reprG hr) f_repr rfl U.B.repr_ (by decide +kernel) (av_cons (evn 7) av_nil)))
    (bv_cons (sv_expr (ev_mu rfl PySem.F.plainAttrs_list PySem.F.slot_list_insert PySem.F.type_list_insert (by decide) mt_insert u_insert (evn 7) (av_cons ev_int (av_cons (ev_ty call_tuple_of f_tuple rfl U.B.tuple_ boot_tuple (av_cons (ev_lc (own := [("_law_field", 9)]) rfl sc_law.nd rfl (by decide) (iv_seq rfl (evn 2)) (blkOk_by (own := [("_law_field", 9)]) (N := N_law) (sc := defScope s_law) (by decide +kernel)) (fun _ _ _ _ _ => (gv_name (i := 9) sc_law.nd rfl (.inl rfl))) (fun _ _ _ _ _ => ptsv_nil) (fun _ _ _ _ _ => ev_int)) av_nil)) av_nil))))
    (bv_cons (sv_expr (ev_mu rfl PySem.F.plainAttrs_list PySem.F.slot_list_append PySem.F.type_list_append (by decide) mt_append u_append (evn 7) (av_cons (ev_ty call_tuple_of f_tuple rfl U.B.tuple_ boot_tuple (av_cons (ev_lc (own := [("_law_field", 9)]) rfl sc_law.nd rfl (by decide) (iv_seq rfl (evn 2)) (blkOk_by (own := [("_law_field", 9)]) (N := N_law) (sc := defScope s_law) (by decide +kernel)) (fun _ _ _ _ _ => (gv_name (i := 9) sc_law.nd rfl (.inl rfl))) (fun _ _ _ _ _ => ptsv_nil) (fun _ _ _ _ _ => ev_int)) av_nil)) av_nil)))
    (bv_cons (sv_if (tv_not (tv_e rfl (ev_call D__law_is_needy (hr.mono (by decide)) rfl (L2N.takes_of rfl rfl rfl rfl) (av_cons (evn 6) (av_cons (evn 2) (av_cons (evn 4) av_nil)))))) (bv_one (sv_ret ev_bl)) bv_nil)
    (bv_cons (sv_if (tv_w (wv_or (tv_cmp (op_neD hr.units) v_ne (ev_at rfl U.T_Forest.cl U.T_Forest.n_parents (by rw [U.T_Forest.fl]; rfl) (by rw [U.T_Forest.fl]; decide) (evn 5)) (ev_ty call_tuple_of f_tuple rfl U.B.tuple_ boot_tuple (av_cons (evn 2) av_nil))) (wv_or1 (tv_cmp (op_neD hr.units) v_ne (ev_at rfl U.T_Forest.cl U.T_Forest.n_kinds (by rw [U.T_Forest.fl]; rfl) (by rw [U.T_Forest.fl]; decide) (evn 5)) (ev_ty call_tuple_of f_tuple rfl U.B.tuple_ boot_tuple (av_cons (evn 3) av_nil)))))) (bv_one (sv_ret ev_bl)) bv_nil)
    (bv_one (sv_ret (ev_and (ev_cmp (op_eqD hr.units) v_eq (ev_fn (call_reprG hr) f_repr rfl U.B.repr_ (by decide +kernel) (av_cons (ev_call D_needy_row (hr.mono (by decide)) rfl (L2N.takes_of rfl rfl rfl rfl) (av_cons (evn 5) av_nil)) av_nil)) (evn 8)) (ev_one (ev_call D__law_is_needy (hr.mono (by decide)) rfl (L2N.takes_of rfl rfl rfl rfl) (av_cons (evn 5) (av_cons (evn 2) (av_cons (evn 3) av_nil)))))))))))))))))))))
theorem x_BadForest {C0 : Addr} (TB : My.FExc T.K mg "FieldridesError" C0) (O : OexC T.K (T.ca "BadForest")) (no : PySem.W.findIn T.K (.ref (T.ca "BadForest")) "field" = some none) (F : My.DfE T.K mg "BadForest" (T.ca "BadForest") "BadForest.__init__" s_BadForest____init__ P_BadForest____init__) :
    My.DnE P w T.K mg base 1 "BadForest" (T.ca "BadForest") (My.spErr1 My.FmtOk "field" (T.ca "BadForest")) := by
  refine F.ok sc_BadForest____init__ (fun vs H Q E h => ?_) (fun fa cdv A outer s H vs Q E hr h => ?_)
  · obtain ⟨a, v, rfl, _⟩ := h; rfl
  obtain ⟨a, v, rfl, ha, ok, q⟩ := h
  refine ⟨_, (pss_cons (ps_expr (My.pe_ownInit TB rfl (pa_cons (pv 0) (pa_cons (pe_joined (.cons pe_str (.cons (My.pe_fmtO (pv 1)) .nil))) pa_nil)))) (pss_one (ps_ost (pv 0) (pv 1)))), ?_⟩
  refine ⟨_, rfl, ?_⟩
  refine ⟨_, rfl, by decide +kernel, ?_⟩
  refine ⟨_, rfl, ok, fun y1 hy1 => ⟨y1, rfl, str_room (m := 1000) (n := 2000) (by decide +kernel) hy1, ?_⟩⟩
  refine ⟨a, T.ca "BadForest", _, rfl, by show 1 ≤ 1000; decide, O, ha, ?_⟩
  exact ⟨_, rfl, _, rfl, a, T.ca "BadForest", rfl, O, no, .inl ⟨ha, fun dx nx ne => q dx nx ne⟩⟩
end
set_option maxHeartbeats 0 in
theorem all_mk {l : PySem.W.OpenLaw} {w : World} {K : PySem.W.Frag} {h : Heap} {mg : Str → Option Value} {fa : Addr} (X : K.In h) (G : h.Ns mainGlobals mg) (hfa : mg "law" = some (.ref fa))
    {C_Forest : Addr}
    {C_BadForest : Addr}
    {C_FieldridesError : Addr}
    {nm_BadForest q_BadForest : Str} {N_BadForest : Addr} {bs_BadForest : List Value} {sn_BadForest : List Str} {sub_BadForest : List Value} {ab_BadForest : Bool} {col_BadForest : Option Bool} {dd_BadForest : Option Addr} {m0_BadForest m1_BadForest m2_BadForest m3_BadForest m5_BadForest : Option Value}
    {f1 : Addr} {od1 an1 : Option Addr} {sl1 : Array (Option Value)} {oc1 kV1 dc1 pm1 cd1 ct1 : Value}
    {f2 : Addr} {od2 an2 : Option Addr} {sl2 : Array (Option Value)} {oc2 kV2 dc2 pm2 cd2 ct2 : Value}
    {f3 : Addr} {od3 an3 : Option Addr} {sl3 : Array (Option Value)} {oc3 kV3 dc3 pm3 cd3 ct3 : Value}
    {f4 : Addr} {od4 an4 : Option Addr} {sl4 : Array (Option Value)} {oc4 kV4 dc4 pm4 cd4 ct4 : Value}
    {f5 : Addr} {od5 an5 : Option Addr} {sl5 : Array (Option Value)} {oc5 kV5 dc5 pm5 cd5 ct5 : Value}
    {f6 : Addr} {od6 an6 : Option Addr} {sl6 : Array (Option Value)} {oc6 kV6 dc6 pm6 cd6 ct6 : Value}
    {f7 : Addr} {od7 an7 : Option Addr} {sl7 : Array (Option Value)} {oc7 kV7 dc7 pm7 cd7 ct7 : Value}
    {f8 : Addr} {od8 an8 : Option Addr} {sl8 : Array (Option Value)} {oc8 kV8 dc8 pm8 cd8 ct8 : Value}
    {f9 : Addr} {od9 an9 : Option Addr} {sl9 : Array (Option Value)} {oc9 kV9 dc9 pm9 cd9 ct9 : Value}
    {f10 : Addr} {od10 an10 : Option Addr} {sl10 : Array (Option Value)} {oc10 kV10 dc10 pm10 cd10 ct10 : Value}
    {f11 : Addr} {od11 an11 : Option Addr} {sl11 : Array (Option Value)} {oc11 kV11 dc11 pm11 cd11 ct11 : Value}
    {p11 : Addr} {rs11 : List Value}
    {f12 : Addr} {od12 an12 : Option Addr} {sl12 : Array (Option Value)} {oc12 kV12 dc12 pm12 cd12 ct12 : Value}
    {f13 : Addr} {od13 an13 : Option Addr} {sl13 : Array (Option Value)} {oc13 kV13 dc13 pm13 cd13 ct13 : Value}
    {f14 : Addr} {od14 an14 : Option Addr} {sl14 : Array (Option Value)} {oc14 kV14 dc14 pm14 cd14 ct14 : Value}
    {f15 : Addr} {od15 an15 : Option Addr} {sl15 : Array (Option Value)} {oc15 kV15 dc15 pm15 cd15 ct15 : Value}
    {f16 : Addr} {od16 an16 : Option Addr} {sl16 : Array (Option Value)} {oc16 kV16 dc16 pm16 cd16 ct16 : Value}
    {f17 : Addr} {od17 an17 : Option Addr} {sl17 : Array (Option Value)} {oc17 kV17 dc17 pm17 cd17 ct17 : Value}
    {f18 : Addr} {od18 an18 : Option Addr} {sl18 : Array (Option Value)} {oc18 kV18 dc18 pm18 cd18 ct18 : Value}
    {f19 : Addr} {od19 an19 : Option Addr} {sl19 : Array (Option Value)} {oc19 kV19 dc19 pm19 cd19 ct19 : Value}
    {f20 : Addr} {od20 an20 : Option Addr} {sl20 : Array (Option Value)} {oc20 kV20 dc20 pm20 cd20 ct20 : Value}
    {f21 : Addr} {od21 an21 : Option Addr} {sl21 : Array (Option Value)} {oc21 kV21 dc21 pm21 cd21 ct21 : Value}
    {f22 : Addr} {od22 an22 : Option Addr} {sl22 : Array (Option Value)} {oc22 kV22 dc22 pm22 cd22 ct22 : Value}
    {f23 : Addr} {od23 an23 : Option Addr} {sl23 : Array (Option Value)} {oc23 kV23 dc23 pm23 cd23 ct23 : Value}
    {f24 : Addr} {od24 an24 : Option Addr} {sl24 : Array (Option Value)} {oc24 kV24 dc24 pm24 cd24 ct24 : Value}
    {f25 : Addr} {od25 an25 : Option Addr} {sl25 : Array (Option Value)} {oc25 kV25 dc25 pm25 cd25 ct25 : Value}
    {f26 : Addr} {od26 an26 : Option Addr} {sl26 : Array (Option Value)} {oc26 kV26 dc26 pm26 cd26 ct26 : Value}
    {f27 : Addr} {od27 an27 : Option Addr} {sl27 : Array (Option Value)} {oc27 kV27 dc27 pm27 cd27 ct27 : Value}
    {f28 : Addr} {od28 an28 : Option Addr} {sl28 : Array (Option Value)} {oc28 kV28 dc28 pm28 cd28 ct28 : Value}
    {f29 : Addr} {od29 an29 : Option Addr} {sl29 : Array (Option Value)} {oc29 kV29 dc29 pm29 cd29 ct29 : Value}
    {f30 : Addr} {od30 an30 : Option Addr} {sl30 : Array (Option Value)} {oc30 kV30 dc30 pm30 cd30 ct30 : Value}
    {f31 : Addr} {od31 an31 : Option Addr} {sl31 : Array (Option Value)} {oc31 kV31 dc31 pm31 cd31 ct31 : Value}
    {t_MOST_FIELDS : Tok}
    (aC_Forest : PySem.W.nsIn K mainGlobals "Forest" = some (some (.ref C_Forest)))
    (aC_BadForest : PySem.W.nsIn K mainGlobals "BadForest" = some (some (.ref C_BadForest)))
    (aC_FieldridesError : PySem.W.nsIn K mainGlobals "FieldridesError" = some (some (.ref C_FieldridesError)))
    (pg_Forest : PySem.W.plainGet K C_Forest Str.empty = true)
    (hd_Forest : PySem.W.hasDictIn K C_Forest = true)
    (po_Forest : PySem.W.plainOver K C_Forest = true)
    (sa_Forest : PySem.W.findIn K (.ref C_Forest) "__setattr__" = some (some (.builtin "object.__setattr__")))
    (mk_Forest : PySem.W.makesIn K C_Forest = true)
    (kc_Forest : PySem.W.keepIn K (.ref C_Forest) = true)
    (n_Forest_fields : PySem.W.findIn K (.ref C_Forest) "fields" = some none)
    (n_Forest_parents : PySem.W.findIn K (.ref C_Forest) "parents" = some none)
    (n_Forest_kinds : PySem.W.findIn K (.ref C_Forest) "kinds" = some none)
    (rd_FieldridesError : PySem.W.readsIn K C_FieldridesError (.type "type") = true)
    (gc_FieldridesError : PySem.W.specialIn K (.ref C_FieldridesError) "__getattribute__" = some (some (.builtin "type.__getattribute__")))
    (vv_FieldridesError : PySem.W.findCls K (.ref C_FieldridesError) (.type "type") "__init__" = some (.val (.builtin "ValueError.__init__")))
    (xL_BadForest : K.lookup C_BadForest = some (excClassObj nm_BadForest q_BadForest C_BadForest N_BadForest bs_BadForest [.ref C_FieldridesError, .type "ValueError", .type "Exception", .type "BaseException", .type "object"] true sn_BadForest sub_BadForest ab_BadForest col_BadForest dd_BadForest m0_BadForest m1_BadForest m2_BadForest m3_BadForest m5_BadForest "ValueError.__new__"))
    (sa_BadForest : PySem.W.findIn K (.ref C_BadForest) "__setattr__" = some (some (.builtin "object.__setattr__")))
    (xs_BadForest : PySem.W.subIn K (.ref C_BadForest) (.type "BaseException") = some true)
    (ty_BadForest : PySem.W.typeIn K (.ref C_BadForest) = some (.type "type"))
    (kc_BadForest : PySem.W.keepIn K (.ref C_BadForest) = true)
    (nf_BadForest_field : PySem.W.findIn K (.ref C_BadForest) "field" = some none)
    (a1 : PySem.W.nsIn K mainGlobals "_law_tape" = some (some (.ref f1)))
    (l1 : K.lookup f1 = some ⟨oc1, od1, .func (PySem.W.fnOf "_law_tape" "_law_tape" (defArgs s__law_tape) (defBody s__law_tape) (defScope s__law_tape) .none kV1 dc1 pm1 an1 cd1 ct1), sl1⟩)
    (c1 : PySem.W.codeIn K cd1 "_law_tape" = true)
    (k1 : PySem.W.keepIn K (.ref f1) = true)
    (a2 : PySem.W.nsIn K mainGlobals "_law_take" = some (some (.ref f2)))
    (l2 : K.lookup f2 = some ⟨oc2, od2, .func (PySem.W.fnOf "_law_take" "_law_take" (defArgs s__law_take) (defBody s__law_take) (defScope s__law_take) .none kV2 dc2 pm2 an2 cd2 ct2), sl2⟩)
    (c2 : PySem.W.codeIn K cd2 "_law_take" = true)
    (k2 : PySem.W.keepIn K (.ref f2) = true)
    (a3 : PySem.W.nsIn K mainGlobals "_law_fields" = some (some (.ref f3)))
    (l3 : K.lookup f3 = some ⟨oc3, od3, .func (PySem.W.fnOf "_law_fields" "_law_fields" (defArgs s__law_fields) (defBody s__law_fields) (defScope s__law_fields) .none kV3 dc3 pm3 an3 cd3 ct3), sl3⟩)
    (c3 : PySem.W.codeIn K cd3 "_law_fields" = true)
    (k3 : PySem.W.keepIn K (.ref f3) = true)
    (a4 : PySem.W.nsIn K mainGlobals "_law_turns" = some (some (.ref f4)))
    (l4 : K.lookup f4 = some ⟨oc4, od4, .func (PySem.W.fnOf "_law_turns" "_law_turns" (defArgs s__law_turns) (defBody s__law_turns) (defScope s__law_turns) .none kV4 dc4 pm4 an4 cd4 ct4), sl4⟩)
    (c4 : PySem.W.codeIn K cd4 "_law_turns" = true)
    (k4 : PySem.W.keepIn K (.ref f4) = true)
    (a5 : PySem.W.nsIn K mainGlobals "_law_parents" = some (some (.ref f5)))
    (l5 : K.lookup f5 = some ⟨oc5, od5, .func (PySem.W.fnOf "_law_parents" "_law_parents" (defArgs s__law_parents) (defBody s__law_parents) (defScope s__law_parents) .none kV5 dc5 pm5 an5 cd5 ct5), sl5⟩)
    (c5 : PySem.W.codeIn K cd5 "_law_parents" = true)
    (k5 : PySem.W.keepIn K (.ref f5) = true)
    (a6 : PySem.W.nsIn K mainGlobals "_law_kinds" = some (some (.ref f6)))
    (l6 : K.lookup f6 = some ⟨oc6, od6, .func (PySem.W.fnOf "_law_kinds" "_law_kinds" (defArgs s__law_kinds) (defBody s__law_kinds) (defScope s__law_kinds) .none kV6 dc6 pm6 an6 cd6 ct6), sl6⟩)
    (c6 : PySem.W.codeIn K cd6 "_law_kinds" = true)
    (k6 : PySem.W.keepIn K (.ref f6) = true)
    (a7 : PySem.W.nsIn K mainGlobals "way_ends" = some (some (.ref f7)))
    (l7 : K.lookup f7 = some ⟨oc7, od7, .func (PySem.W.fnOf "way_ends" "way_ends" (defArgs s_way_ends) (defBody s_way_ends) (defScope s_way_ends) .none kV7 dc7 pm7 an7 cd7 ct7), sl7⟩)
    (c7 : PySem.W.codeIn K cd7 "way_ends" = true)
    (k7 : PySem.W.keepIn K (.ref f7) = true)
    (a8 : PySem.W.nsIn K mainGlobals "is_ranked" = some (some (.ref f8)))
    (l8 : K.lookup f8 = some ⟨oc8, od8, .func (PySem.W.fnOf "is_ranked" "is_ranked" (defArgs s_is_ranked) (defBody s_is_ranked) (defScope s_is_ranked) .none kV8 dc8 pm8 an8 cd8 ct8), sl8⟩)
    (c8 : PySem.W.codeIn K cd8 "is_ranked" = true)
    (k8 : PySem.W.keepIn K (.ref f8) = true)
    (a9 : PySem.W.nsIn K mainGlobals "check_forest" = some (some (.ref f9)))
    (l9 : K.lookup f9 = some ⟨oc9, od9, .func (PySem.W.fnOf "check_forest" "check_forest" (defArgs s_check_forest) (defBody s_check_forest) (defScope s_check_forest) .none kV9 dc9 pm9 an9 cd9 ct9), sl9⟩)
    (c9 : PySem.W.codeIn K cd9 "check_forest" = true)
    (k9 : PySem.W.keepIn K (.ref f9) = true)
    (a10 : PySem.W.findIn K (.ref C_Forest) "__init__" = some (some (.ref f10)))
    (i10 : PySem.W.isFn K (.ref f10) = true)
    (l10 : K.lookup f10 = some ⟨oc10, od10, .func (PySem.W.fnOf "__init__" "Forest.__init__" (defArgs s_Forest____init__) (defBody s_Forest____init__) (defScope s_Forest____init__) .none kV10 dc10 pm10 an10 cd10 ct10), sl10⟩)
    (c10 : PySem.W.codeIn K cd10 "Forest.__init__" = true)
    (k10 : PySem.W.keepIn K (.ref f10) = true)
    (a11 : PySem.W.findIn K (.ref C_Forest) "leaves" = some (some (.ref p11)))
    (pget11 : PySem.W.specialIn K (.ref p11) "__get__" = some (some (.builtin "property.__get__")))
    (ptak11 : PySem.W.takesIn K (.ref p11) = some true)
    (prec11 : PySem.W.recIn K p11 "property" = some (.ref f11 :: rs11))
    (l11 : K.lookup f11 = some ⟨oc11, od11, .func (PySem.W.fnOf "leaves" "Forest.leaves" (defArgs s_Forest__leaves) (defBody s_Forest__leaves) (defScope s_Forest__leaves) .none kV11 dc11 pm11 an11 cd11 ct11), sl11⟩)
    (c11 : PySem.W.codeIn K cd11 "Forest.leaves" = true)
    (k11 : PySem.W.keepIn K (.ref f11) = true)
    (a12 : PySem.W.nsIn K mainGlobals "ranked_leaves" = some (some (.ref f12)))
    (l12 : K.lookup f12 = some ⟨oc12, od12, .func (PySem.W.fnOf "ranked_leaves" "ranked_leaves" (defArgs s_ranked_leaves) (defBody s_ranked_leaves) (defScope s_ranked_leaves) .none kV12 dc12 pm12 an12 cd12 ct12), sl12⟩)
    (c12 : PySem.W.codeIn K cd12 "ranked_leaves" = true)
    (k12 : PySem.W.keepIn K (.ref f12) = true)
    (a13 : PySem.W.findIn K (.ref C_Forest) "children" = some (some (.ref f13)))
    (i13 : PySem.W.isFn K (.ref f13) = true)
    (l13 : K.lookup f13 = some ⟨oc13, od13, .func (PySem.W.fnOf "children" "Forest.children" (defArgs s_Forest__children) (defBody s_Forest__children) (defScope s_Forest__children) .none kV13 dc13 pm13 an13 cd13 ct13), sl13⟩)
    (c13 : PySem.W.codeIn K cd13 "Forest.children" = true)
    (k13 : PySem.W.keepIn K (.ref f13) = true)
    (a14 : PySem.W.nsIn K mainGlobals "hung_classes" = some (some (.ref f14)))
    (l14 : K.lookup f14 = some ⟨oc14, od14, .func (PySem.W.fnOf "hung_classes" "hung_classes" (defArgs s_hung_classes) (defBody s_hung_classes) (defScope s_hung_classes) .none kV14 dc14 pm14 an14 cd14 ct14), sl14⟩)
    (c14 : PySem.W.codeIn K cd14 "hung_classes" = true)
    (k14 : PySem.W.keepIn K (.ref f14) = true)
    (a15 : PySem.W.nsIn K mainGlobals "class_count" = some (some (.ref f15)))
    (l15 : K.lookup f15 = some ⟨oc15, od15, .func (PySem.W.fnOf "class_count" "class_count" (defArgs s_class_count) (defBody s_class_count) (defScope s_class_count) .none kV15 dc15 pm15 an15 cd15 ct15), sl15⟩)
    (c15 : PySem.W.codeIn K cd15 "class_count" = true)
    (k15 : PySem.W.keepIn K (.ref f15) = true)
    (a16 : PySem.W.nsIn K mainGlobals "_law_is_integer" = some (some (.ref f16)))
    (l16 : K.lookup f16 = some ⟨oc16, od16, .func (PySem.W.fnOf "_law_is_integer" "_law_is_integer" (defArgs s__law_is_integer) (defBody s__law_is_integer) (defScope s__law_is_integer) .none kV16 dc16 pm16 an16 cd16 ct16), sl16⟩)
    (c16 : PySem.W.codeIn K cd16 "_law_is_integer" = true)
    (k16 : PySem.W.keepIn K (.ref f16) = true)
    (a17 : PySem.W.nsIn K mainGlobals "_law_class_count" = some (some (.ref f17)))
    (l17 : K.lookup f17 = some ⟨oc17, od17, .func (PySem.W.fnOf "_law_class_count" "_law_class_count" (defArgs s__law_class_count) (defBody s__law_class_count) (defScope s__law_class_count) .none kV17 dc17 pm17 an17 cd17 ct17), sl17⟩)
    (c17 : PySem.W.codeIn K cd17 "_law_class_count" = true)
    (k17 : PySem.W.keepIn K (.ref f17) = true)
    (a18 : PySem.W.findIn K (.ref C_Forest) "path" = some (some (.ref f18)))
    (i18 : PySem.W.isFn K (.ref f18) = true)
    (l18 : K.lookup f18 = some ⟨oc18, od18, .func (PySem.W.fnOf "path" "Forest.path" (defArgs s_Forest__path) (defBody s_Forest__path) (defScope s_Forest__path) .none kV18 dc18 pm18 an18 cd18 ct18), sl18⟩)
    (c18 : PySem.W.codeIn K cd18 "Forest.path" = true)
    (k18 : PySem.W.keepIn K (.ref f18) = true)
    (a19 : PySem.W.nsIn K mainGlobals "hung_by_way" = some (some (.ref f19)))
    (l19 : K.lookup f19 = some ⟨oc19, od19, .func (PySem.W.fnOf "hung_by_way" "hung_by_way" (defArgs s_hung_by_way) (defBody s_hung_by_way) (defScope s_hung_by_way) .none kV19 dc19 pm19 an19 cd19 ct19), sl19⟩)
    (c19 : PySem.W.codeIn K cd19 "hung_by_way" = true)
    (k19 : PySem.W.keepIn K (.ref f19) = true)
    (a20 : PySem.W.nsIn K mainGlobals "raised" = some (some (.ref f20)))
    (l20 : K.lookup f20 = some ⟨oc20, od20, .func (PySem.W.fnOf "raised" "raised" (defArgs s_raised) (defBody s_raised) (defScope s_raised) .none kV20 dc20 pm20 an20 cd20 ct20), sl20⟩)
    (c20 : PySem.W.codeIn K cd20 "raised" = true)
    (k20 : PySem.W.keepIn K (.ref f20) = true)
    (a21 : PySem.W.nsIn K mainGlobals "zeros_raised" = some (some (.ref f21)))
    (l21 : K.lookup f21 = some ⟨oc21, od21, .func (PySem.W.fnOf "zeros_raised" "zeros_raised" (defArgs s_zeros_raised) (defBody s_zeros_raised) (defScope s_zeros_raised) .none kV21 dc21 pm21 an21 cd21 ct21), sl21⟩)
    (c21 : PySem.W.codeIn K cd21 "zeros_raised" = true)
    (k21 : PySem.W.keepIn K (.ref f21) = true)
    (a22 : PySem.W.nsIn K mainGlobals "needy_row" = some (some (.ref f22)))
    (l22 : K.lookup f22 = some ⟨oc22, od22, .func (PySem.W.fnOf "needy_row" "needy_row" (defArgs s_needy_row) (defBody s_needy_row) (defScope s_needy_row) .none kV22 dc22 pm22 an22 cd22 ct22), sl22⟩)
    (c22 : PySem.W.codeIn K cd22 "needy_row" = true)
    (k22 : PySem.W.keepIn K (.ref f22) = true)
    (a23 : PySem.W.nsIn K mainGlobals "_law_is_record" = some (some (.ref f23)))
    (l23 : K.lookup f23 = some ⟨oc23, od23, .func (PySem.W.fnOf "_law_is_record" "_law_is_record" (defArgs s__law_is_record) (defBody s__law_is_record) (defScope s__law_is_record) .none kV23 dc23 pm23 an23 cd23 ct23), sl23⟩)
    (c23 : PySem.W.codeIn K cd23 "_law_is_record" = true)
    (k23 : PySem.W.keepIn K (.ref f23) = true)
    (a24 : PySem.W.nsIn K mainGlobals "_law_path" = some (some (.ref f24)))
    (l24 : K.lookup f24 = some ⟨oc24, od24, .func (PySem.W.fnOf "_law_path" "_law_path" (defArgs s__law_path) (defBody s__law_path) (defScope s__law_path) .none kV24 dc24 pm24 an24 cd24 ct24), sl24⟩)
    (c24 : PySem.W.codeIn K cd24 "_law_path" = true)
    (k24 : PySem.W.keepIn K (.ref f24) = true)
    (a25 : PySem.W.nsIn K mainGlobals "_law_side" = some (some (.ref f25)))
    (l25 : K.lookup f25 = some ⟨oc25, od25, .func (PySem.W.fnOf "_law_side" "_law_side" (defArgs s__law_side) (defBody s__law_side) (defScope s__law_side) .none kV25 dc25 pm25 an25 cd25 ct25), sl25⟩)
    (c25 : PySem.W.codeIn K cd25 "_law_side" = true)
    (k25 : PySem.W.keepIn K (.ref f25) = true)
    (a26 : PySem.W.nsIn K mainGlobals "_law_merge" = some (some (.ref f26)))
    (l26 : K.lookup f26 = some ⟨oc26, od26, .func (PySem.W.fnOf "_law_merge" "_law_merge" (defArgs s__law_merge) (defBody s__law_merge) (defScope s__law_merge) .none kV26 dc26 pm26 an26 cd26 ct26), sl26⟩)
    (c26 : PySem.W.codeIn K cd26 "_law_merge" = true)
    (k26 : PySem.W.keepIn K (.ref f26) = true)
    (a27 : PySem.W.nsIn K mainGlobals "_law_fold" = some (some (.ref f27)))
    (l27 : K.lookup f27 = some ⟨oc27, od27, .func (PySem.W.fnOf "_law_fold" "_law_fold" (defArgs s__law_fold) (defBody s__law_fold) (defScope s__law_fold) .none kV27 dc27 pm27 an27 cd27 ct27), sl27⟩)
    (c27 : PySem.W.codeIn K cd27 "_law_fold" = true)
    (k27 : PySem.W.keepIn K (.ref f27) = true)
    (a28 : PySem.W.nsIn K mainGlobals "_law_needs_all" = some (some (.ref f28)))
    (l28 : K.lookup f28 = some ⟨oc28, od28, .func (PySem.W.fnOf "_law_needs_all" "_law_needs_all" (defArgs s__law_needs_all) (defBody s__law_needs_all) (defScope s__law_needs_all) .none kV28 dc28 pm28 an28 cd28 ct28), sl28⟩)
    (c28 : PySem.W.codeIn K cd28 "_law_needs_all" = true)
    (k28 : PySem.W.keepIn K (.ref f28) = true)
    (a29 : PySem.W.nsIn K mainGlobals "_law_is_needy" = some (some (.ref f29)))
    (l29 : K.lookup f29 = some ⟨oc29, od29, .func (PySem.W.fnOf "_law_is_needy" "_law_is_needy" (defArgs s__law_is_needy) (defBody s__law_is_needy) (defScope s__law_is_needy) .none kV29 dc29 pm29 an29 cd29 ct29), sl29⟩)
    (c29 : PySem.W.codeIn K cd29 "_law_is_needy" = true)
    (k29 : PySem.W.keepIn K (.ref f29) = true)
    (a30 : PySem.W.nsIn K mainGlobals "law" = some (some (.ref f30)))
    (l30 : K.lookup f30 = some ⟨oc30, od30, .func (PySem.W.fnOf "law" "law" (defArgs s_law) (defBody s_law) (defScope s_law) .none kV30 dc30 pm30 an30 cd30 ct30), sl30⟩)
    (c30 : PySem.W.codeIn K cd30 "law" = true)
    (k30 : PySem.W.keepIn K (.ref f30) = true)
    (a31 : PySem.W.findIn K (.ref C_BadForest) "__init__" = some (some (.ref f31)))
    (i31 : PySem.W.typeIn K (.ref f31) = some (.type "function"))
    (l31 : K.lookup f31 = some ⟨oc31, od31, .func (PySem.W.fnOf "__init__" "BadForest.__init__" (defArgs s_BadForest____init__) (defBody s_BadForest____init__) (defScope s_BadForest____init__) .none kV31 dc31 pm31 an31 cd31 ct31), sl31⟩)
    (c31 : PySem.W.codeIn K cd31 "BadForest.__init__" = true)
    (k31 : PySem.W.keepIn K (.ref f31) = true)
    (z_abs : PySem.W.nsIn K mainGlobals "abs" = some none)
    (z_bool : PySem.W.nsIn K mainGlobals "bool" = some none)
    (z_enumerate : PySem.W.nsIn K mainGlobals "enumerate" = some none)
    (z_int : PySem.W.nsIn K mainGlobals "int" = some none)
    (z_isinstance : PySem.W.nsIn K mainGlobals "isinstance" = some none)
    (z_len : PySem.W.nsIn K mainGlobals "len" = some none)
    (z_list : PySem.W.nsIn K mainGlobals "list" = some none)
    (z_range : PySem.W.nsIn K mainGlobals "range" = some none)
    (z_repr : PySem.W.nsIn K mainGlobals "repr" = some none)
    (z_sorted : PySem.W.nsIn K mainGlobals "sorted" = some none)
    (z_tuple : PySem.W.nsIn K mainGlobals "tuple" = some none)
    (u_MOST_FIELDS : PySem.W.nsIn K mainGlobals "MOST_FIELDS" = some (some (.int 16 t_MOST_FIELDS)))
    : ∃ fd : FuncData, (∀ (s : Shared) (v : Value), BindsTo s fd ⟨[v], []⟩ [("_law_script", v)]) ∧ ∀ base : Heap, K.In base → base.Ns mainGlobals mg → My.FnG l.prog w K mg base (L2N.CX l.prog w) 7 fa fd ["_law_script"] (spLaw K) := by
  obtain ⟨T, hK, hTP, hTw, hc_Forest, hc_BadForest, hc_FieldridesError, hf_Forest, hf_BadForest⟩ : ∃ T : Tb, T.K = K ∧ T.P = l.prog ∧ T.w = w ∧ T.ca "Forest" = C_Forest ∧ T.ca "BadForest" = C_BadForest ∧ T.ca "FieldridesError" = C_FieldridesError ∧ T.flds "Forest" = (["fields", "parents", "kinds"] : List Str) ∧ T.flds "BadForest" = (["field"] : List Str) := ⟨⟨K, l.prog, w, fun c => if c = "Forest" then C_Forest else if c = "BadForest" then C_BadForest else if c = "FieldridesError" then C_FieldridesError else 0, fun c => if c = "Forest" then (["fields", "parents", "kinds"] : List Str) else if c = "BadForest" then (["field"] : List Str) else []⟩, rfl, rfl, rfl, by simp, by simp, by simp, by simp, by simp⟩
  subst hK
  subst hc_Forest
  subst hc_BadForest
  subst hc_FieldridesError
  have e := hfa.symm.trans (PySem.W.mg_of X G a30)
  cases e
  have Q1 := fun_mk (st := s__law_tape) l1 c1 k1
  have F__law_tape : My.Df T.K mg "_law_tape" s__law_tape P__law_tape := ⟨_, _, Q1, Q1.binds (ps := P__law_tape) fun _ _ _ _ _ _ us hl => match us, hl with | [_, _], _ => rfl, PySem.W.mg_of X G a1⟩
  have Q2 := fun_mk (st := s__law_take) l2 c2 k2
  have F__law_take : My.Df T.K mg "_law_take" s__law_take P__law_take := ⟨_, _, Q2, Q2.binds (ps := P__law_take) fun _ _ _ _ _ _ us hl => match us, hl with | [_, _], _ => rfl, PySem.W.mg_of X G a2⟩
  have Q3 := fun_mk (st := s__law_fields) l3 c3 k3
  have F__law_fields : My.Df T.K mg "_law_fields" s__law_fields P__law_fields := ⟨_, _, Q3, Q3.binds (ps := P__law_fields) fun _ _ _ _ _ _ us hl => match us, hl with | [_], _ => rfl, PySem.W.mg_of X G a3⟩
  have Q4 := fun_mk (st := s__law_turns) l4 c4 k4
  have F__law_turns : My.Df T.K mg "_law_turns" s__law_turns P__law_turns := ⟨_, _, Q4, Q4.binds (ps := P__law_turns) fun _ _ _ _ _ _ us hl => match us, hl with | [_, _], _ => rfl, PySem.W.mg_of X G a4⟩
  have Q5 := fun_mk (st := s__law_parents) l5 c5 k5
  have F__law_parents : My.Df T.K mg "_law_parents" s__law_parents P__law_parents := ⟨_, _, Q5, Q5.binds (ps := P__law_parents) fun _ _ _ _ _ _ us hl => match us, hl with | [_, _], _ => rfl, PySem.W.mg_of X G a5⟩
  have Q6 := fun_mk (st := s__law_kinds) l6 c6 k6
  have F__law_kinds : My.Df T.K mg "_law_kinds" s__law_kinds P__law_kinds := ⟨_, _, Q6, Q6.binds (ps := P__law_kinds) fun _ _ _ _ _ _ us hl => match us, hl with | [_, _, _], _ => rfl, PySem.W.mg_of X G a6⟩
  have Q7 := fun_mk (st := s_way_ends) l7 c7 k7
  have F_way_ends : My.Df T.K mg "way_ends" s_way_ends P_way_ends := ⟨_, _, Q7, Q7.binds (ps := P_way_ends) fun _ _ _ _ _ _ us hl => match us, hl with | [_, _], _ => rfl, PySem.W.mg_of X G a7⟩
  have Q8 := fun_mk (st := s_is_ranked) l8 c8 k8
  have F_is_ranked : My.Df T.K mg "is_ranked" s_is_ranked P_is_ranked := ⟨_, _, Q8, Q8.binds (ps := P_is_ranked) fun _ _ _ _ _ _ us hl => match us, hl with | [_], _ => rfl, PySem.W.mg_of X G a8⟩
  have Q9 := fun_mk (st := s_check_forest) l9 c9 k9
  have F_check_forest : My.Df T.K mg "check_forest" s_check_forest P_check_forest := ⟨_, _, Q9, Q9.binds (ps := P_check_forest) fun _ _ _ _ _ _ us hl => match us, hl with | [_, _], _ => rfl, PySem.W.mg_of X G a9⟩
  have Q10 := fun_mk (st := s_Forest____init__) l10 c10 k10
  have F_Forest____init__ : My.DfI T.K mg "Forest" (T.ca "Forest") "Forest.__init__" s_Forest____init__ P_Forest____init__ := ⟨_, _, Q10, Q10.binds (ps := P_Forest____init__) fun _ _ _ _ _ _ us hl => match us, hl with | [_, _, _], _ => rfl, ⟨mk_Forest, a10, i10, kc_Forest⟩, PySem.W.mg_of X G aC_Forest⟩
  have Q11 := fun_mk (st := s_Forest__leaves) l11 c11 k11
  have F_Forest__leaves : My.DfP T.K (T.ca "Forest") "leaves" "Forest.leaves" s_Forest__leaves P_Forest__leaves := ⟨_, _, _, Q11, Q11.binds (ps := P_Forest__leaves) fun _ _ _ _ _ _ us hl => match us, hl with | [_], _ => rfl, ⟨a11, pget11, ptak11, ⟨_, prec11⟩⟩⟩
  have Q12 := fun_mk (st := s_ranked_leaves) l12 c12 k12
  have F_ranked_leaves : My.Df T.K mg "ranked_leaves" s_ranked_leaves P_ranked_leaves := ⟨_, _, Q12, Q12.binds (ps := P_ranked_leaves) fun _ _ _ _ _ _ us hl => match us, hl with | [_], _ => rfl, PySem.W.mg_of X G a12⟩
  have Q13 := fun_mk (st := s_Forest__children) l13 c13 k13
  have F_Forest__children : My.DfM T.K (T.ca "Forest") "children" "Forest.children" s_Forest__children P_Forest__children := ⟨_, _, Q13, Q13.binds (ps := P_Forest__children) fun _ _ _ _ _ _ us hl => match us, hl with | [_, _], _ => rfl, ⟨a13, i13, k13⟩⟩
  have Q14 := fun_mk (st := s_hung_classes) l14 c14 k14
  have F_hung_classes : My.Df T.K mg "hung_classes" s_hung_classes P_hung_classes := ⟨_, _, Q14, Q14.binds (ps := P_hung_classes) fun _ _ _ _ _ _ us hl => match us, hl with | [_, _], _ => rfl, PySem.W.mg_of X G a14⟩
  have Q15 := fun_mk (st := s_class_count) l15 c15 k15
  have F_class_count : My.Df T.K mg "class_count" s_class_count P_class_count := ⟨_, _, Q15, Q15.binds (ps := P_class_count) fun _ _ _ _ _ _ us hl => match us, hl with | [_], _ => rfl, PySem.W.mg_of X G a15⟩
  have Q16 := fun_mk (st := s__law_is_integer) l16 c16 k16
  have F__law_is_integer : My.Df T.K mg "_law_is_integer" s__law_is_integer P__law_is_integer := ⟨_, _, Q16, Q16.binds (ps := P__law_is_integer) fun _ _ _ _ _ _ us hl => match us, hl with | [_], _ => rfl, PySem.W.mg_of X G a16⟩
  have Q17 := fun_mk (st := s__law_class_count) l17 c17 k17
  have F__law_class_count : My.Df T.K mg "_law_class_count" s__law_class_count P__law_class_count := ⟨_, _, Q17, Q17.binds (ps := P__law_class_count) fun _ _ _ _ _ _ us hl => match us, hl with | [_, _], _ => rfl, PySem.W.mg_of X G a17⟩
  have Q18 := fun_mk (st := s_Forest__path) l18 c18 k18
  have F_Forest__path : My.DfM T.K (T.ca "Forest") "path" "Forest.path" s_Forest__path P_Forest__path := ⟨_, _, Q18, Q18.binds (ps := P_Forest__path) fun _ _ _ _ _ _ us hl => match us, hl with | [_, _], _ => rfl, ⟨a18, i18, k18⟩⟩
  have Q19 := fun_mk (st := s_hung_by_way) l19 c19 k19
  have F_hung_by_way : My.Df T.K mg "hung_by_way" s_hung_by_way P_hung_by_way := ⟨_, _, Q19, Q19.binds (ps := P_hung_by_way) fun _ _ _ _ _ _ us hl => match us, hl with | [_, _], _ => rfl, PySem.W.mg_of X G a19⟩
  have Q20 := fun_mk (st := s_raised) l20 c20 k20
  have F_raised : My.Df T.K mg "raised" s_raised P_raised := ⟨_, _, Q20, Q20.binds (ps := P_raised) fun _ _ _ _ _ _ us hl => match us, hl with | [_, _, _], _ => rfl, PySem.W.mg_of X G a20⟩
  have Q21 := fun_mk (st := s_zeros_raised) l21 c21 k21
  have F_zeros_raised : My.Df T.K mg "zeros_raised" s_zeros_raised P_zeros_raised := ⟨_, _, Q21, Q21.binds (ps := P_zeros_raised) fun _ _ _ _ _ _ us hl => match us, hl with | [_, _], _ => rfl, PySem.W.mg_of X G a21⟩
  have Q22 := fun_mk (st := s_needy_row) l22 c22 k22
  have F_needy_row : My.Df T.K mg "needy_row" s_needy_row P_needy_row := ⟨_, _, Q22, Q22.binds (ps := P_needy_row) fun _ _ _ _ _ _ us hl => match us, hl with | [_], _ => rfl, PySem.W.mg_of X G a22⟩
  have Q23 := fun_mk (st := s__law_is_record) l23 c23 k23
  have F__law_is_record : My.Df T.K mg "_law_is_record" s__law_is_record P__law_is_record := ⟨_, _, Q23, Q23.binds (ps := P__law_is_record) fun _ _ _ _ _ _ us hl => match us, hl with | [_, _], _ => rfl, PySem.W.mg_of X G a23⟩
  have Q24 := fun_mk (st := s__law_path) l24 c24 k24
  have F__law_path : My.Df T.K mg "_law_path" s__law_path P__law_path := ⟨_, _, Q24, Q24.binds (ps := P__law_path) fun _ _ _ _ _ _ us hl => match us, hl with | [_, _], _ => rfl, PySem.W.mg_of X G a24⟩
  have Q25 := fun_mk (st := s__law_side) l25 c25 k25
  have F__law_side : My.Df T.K mg "_law_side" s__law_side P__law_side := ⟨_, _, Q25, Q25.binds (ps := P__law_side) fun _ _ _ _ _ _ us hl => match us, hl with | [_, _, _, _, _], _ => rfl, PySem.W.mg_of X G a25⟩
  have Q26 := fun_mk (st := s__law_merge) l26 c26 k26
  have F__law_merge : My.Df T.K mg "_law_merge" s__law_merge P__law_merge := ⟨_, _, Q26, Q26.binds (ps := P__law_merge) fun _ _ _ _ _ _ us hl => match us, hl with | [_, _, _, _], _ => rfl, PySem.W.mg_of X G a26⟩
  have Q27 := fun_mk (st := s__law_fold) l27 c27 k27
  have F__law_fold : My.Df T.K mg "_law_fold" s__law_fold P__law_fold := ⟨_, _, Q27, Q27.binds (ps := P__law_fold) fun _ _ _ _ _ _ us hl => match us, hl with | [_, _, _], _ => rfl, PySem.W.mg_of X G a27⟩
  have Q28 := fun_mk (st := s__law_needs_all) l28 c28 k28
  have F__law_needs_all : My.Df T.K mg "_law_needs_all" s__law_needs_all P__law_needs_all := ⟨_, _, Q28, Q28.binds (ps := P__law_needs_all) fun _ _ _ _ _ _ us hl => match us, hl with | [_, _, _], _ => rfl, PySem.W.mg_of X G a28⟩
  have Q29 := fun_mk (st := s__law_is_needy) l29 c29 k29
  have F__law_is_needy : My.Df T.K mg "_law_is_needy" s__law_is_needy P__law_is_needy := ⟨_, _, Q29, Q29.binds (ps := P__law_is_needy) fun _ _ _ _ _ _ us hl => match us, hl with | [_, _, _], _ => rfl, PySem.W.mg_of X G a29⟩
  have Q30 := fun_mk (st := s_law) l30 c30 k30
  have Q31 := fun_mk (st := s_BadForest____init__) l31 c31 k31
  have OX_BadForest : OexC T.K (T.ca "BadForest") := ⟨⟨_, _, _, _, _, _, _, _, _, _, _, _, _, _, _, xL_BadForest, by rfl⟩, sa_BadForest, xs_BadForest, ty_BadForest, kc_BadForest⟩
  have F_BadForest____init__ : My.DfE T.K mg "BadForest" (T.ca "BadForest") "BadForest.__init__" s_BadForest____init__ P_BadForest____init__ := ⟨_, _, Q31, Q31.binds (ps := P_BadForest____init__) fun _ _ _ _ _ _ us hl => match us, hl with | [_, _], _ => rfl, a31, i31, OX_BadForest, PySem.W.mg_of X G aC_BadForest⟩
  refine ⟨PySem.W.fnOf "law" "law" (defArgs s_law) (defBody s_law) (defScope s_law) .none kV30 dc30 pm30 an30 cd30 ct30, fun s v => .of_eq rfl, fun base _ _ => ?_⟩
  have B : Bts mg := ⟨PySem.W.mg_none_of X G z_abs, PySem.W.mg_none_of X G z_bool, PySem.W.mg_none_of X G z_enumerate, PySem.W.mg_none_of X G z_int, PySem.W.mg_none_of X G z_isinstance, PySem.W.mg_none_of X G z_len, PySem.W.mg_none_of X G z_list, PySem.W.mg_none_of X G z_range, PySem.W.mg_none_of X G z_repr, PySem.W.mg_none_of X G z_sorted, PySem.W.mg_none_of X G z_tuple⟩
  have Gc : Gcs T w mg := ⟨⟨_, PySem.W.mg_of X G u_MOST_FIELDS⟩⟩
  have T_Forest : TC_Forest T mg := ⟨⟨pg_Forest, hd_Forest, po_Forest, sa_Forest⟩, hf_Forest, n_Forest_fields, n_Forest_parents, n_Forest_kinds, PySem.W.mg_of X G aC_Forest⟩
  have X_BadForest : XE l.prog w mg base T "BadForest" "BadForest" "field" My.FmtOk := ⟨x_BadForest ⟨PySem.W.mg_of X G aC_FieldridesError, rd_FieldridesError, gc_FieldridesError, vv_FieldridesError⟩ OX_BadForest nf_BadForest_field F_BadForest____init__, hf_BadForest⟩
  have U : Env l.prog w mg base T := ⟨B, ⟨hTP.symm, hTw.symm⟩, Gc, T_Forest, X_BadForest⟩
  have D__law_tape := d__law_tape U  F__law_tape
  have D__law_take := d__law_take U  F__law_take
  have D__law_fields := d__law_fields U D__law_take F__law_fields
  have D__law_turns := d__law_turns U D__law_take F__law_turns
  have D__law_parents := d__law_parents U D__law_turns D__law_take F__law_parents
  have D__law_kinds := d__law_kinds U D__law_take F__law_kinds
  have D_way_ends := d_way_ends U  F_way_ends
  have D_is_ranked := d_is_ranked U  F_is_ranked
  have D_check_forest := d_check_forest U D_way_ends D_is_ranked F_check_forest
  have D_Forest____init__ := d_Forest____init__ U D_check_forest F_Forest____init__
  have D_Forest__leaves := d_Forest__leaves U  F_Forest__leaves
  have D_ranked_leaves := d_ranked_leaves U D_Forest__leaves D_is_ranked F_ranked_leaves
  have D_Forest__children := d_Forest__children U  F_Forest__children
  have D_hung_classes := d_hung_classes U D_Forest__children F_hung_classes
  have D_class_count := d_class_count U D_ranked_leaves D_hung_classes F_class_count
  have D__law_is_integer := d__law_is_integer U  F__law_is_integer
  have D__law_class_count := d__law_class_count U  F__law_class_count
  have D_Forest__path := d_Forest__path U  F_Forest__path
  have D_hung_by_way := d_hung_by_way U D_hung_classes D_Forest__path F_hung_by_way
  have D_raised := d_raised U  F_raised
  have D_zeros_raised := d_zeros_raised U D_raised F_zeros_raised
  have D_needy_row := d_needy_row U D_hung_by_way D_ranked_leaves D_Forest__path D_zeros_raised F_needy_row
  have D__law_is_record := d__law_is_record U D__law_is_integer F__law_is_record
  have D__law_path := d__law_path U  F__law_path
  have D__law_side := d__law_side U D__law_path F__law_side
  have D__law_merge := d__law_merge U D__law_side F__law_merge
  have D__law_fold := d__law_fold U D__law_merge F__law_fold
  have D__law_needs_all := d__law_needs_all U D__law_fold F__law_needs_all
  have D__law_is_needy := d__law_is_needy U D_class_count D__law_is_integer D__law_class_count D_needy_row D__law_is_record D__law_needs_all F__law_is_needy
  exact d_law U D__law_tape D__law_fields D__law_parents D__law_kinds D_Forest____init__ D__law_is_needy D_needy_row Q30 LAW
end Law
open PySem PySem.W PyProof.Rows
set_option maxRecDepth 100000 in
set_option maxHeartbeats 0 in
theorem PySem.Challenge.cw_fieldrides_k41_whole_needy_rows_holds : PySem.Challenge.rw_fieldrides_k41_whole_needy_rows.Holds := by
  w_on; o_law; k_head; (case hw => w_witness2)
  k_fill
  refine VL.walkV (l := PySem.Challenge.rw_fieldrides_k41_whole_needy_rows) (k := 7) rfl rfl ⟨⟨rfl, by decide, by decide⟩, rfl⟩ (fun w h Y => PySem.W.kIn_of Y) ?F
  case F =>
    intro w mg fa h KX G hmg
    refine' Law.all_mk KX G hmg ?aC_Forest ?aC_BadForest ?aC_FieldridesError ?pg_Forest ?hd_Forest ?po_Forest ?sa_Forest ?mk_Forest ?kc_Forest ?n_Forest_fields ?n_Forest_parents ?n_Forest_kinds ?rd_FieldridesError ?gc_FieldridesError ?vv_FieldridesError ?xL_BadForest ?sa_BadForest ?xs_BadForest ?ty_BadForest ?kc_BadForest ?nf_BadForest_field ?a1 ?l1 ?c1 ?k1 ?a2 ?l2 ?c2 ?k2 ?a3 ?l3 ?c3 ?k3 ?a4 ?l4 ?c4 ?k4 ?a5 ?l5 ?c5 ?k5 ?a6 ?l6 ?c6 ?k6 ?a7 ?l7 ?c7 ?k7 ?a8 ?l8 ?c8 ?k8 ?a9 ?l9 ?c9 ?k9 ?a10 ?i10 ?l10 ?c10 ?k10 ?a11 ?pget11 ?ptak11 ?prec11 ?l11 ?c11 ?k11 ?a12 ?l12 ?c12 ?k12 ?a13 ?i13 ?l13 ?c13 ?k13 ?a14 ?l14 ?c14 ?k14 ?a15 ?l15 ?c15 ?k15 ?a16 ?l16 ?c16 ?k16 ?a17 ?l17 ?c17 ?k17 ?a18 ?i18 ?l18 ?c18 ?k18 ?a19 ?l19 ?c19 ?k19 ?a20 ?l20 ?c20 ?k20 ?a21 ?l21 ?c21 ?k21 ?a22 ?l22 ?c22 ?k22 ?a23 ?l23 ?c23 ?k23 ?a24 ?l24 ?c24 ?k24 ?a25 ?l25 ?c25 ?k25 ?a26 ?l26 ?c26 ?k26 ?a27 ?l27 ?c27 ?k27 ?a28 ?l28 ?c28 ?k28 ?a29 ?l29 ?c29 ?k29 ?a30 ?l30 ?c30 ?k30 ?a31 ?i31 ?l31 ?c31 ?k31 ?z_abs ?z_bool ?z_enumerate ?z_int ?z_isinstance ?z_len ?z_list ?z_range ?z_repr ?z_sorted ?z_tuple ?u_MOST_FIELDS
    (case aC_Forest => k_is)
    (case aC_BadForest => k_is)
    (case aC_FieldridesError => k_is)
    (case pg_Forest => k_is)
    (case hd_Forest => k_is)
    (case po_Forest => k_is)
    (case sa_Forest => k_is)
    (case mk_Forest => k_is)
    (case kc_Forest => k_is)
    (case n_Forest_fields => k_is)
    (case n_Forest_parents => k_is)
    (case n_Forest_kinds => k_is)
    (case rd_FieldridesError => k_is)
    (case gc_FieldridesError => k_is)
    (case vv_FieldridesError => k_is)
    (case xL_BadForest => k_is)
    (case sa_BadForest => k_is)
    (case xs_BadForest => k_is)
    (case ty_BadForest => k_is)
    (case kc_BadForest => k_is)
    (case nf_BadForest_field => k_is)
    (case a1 => k_is)
    (case l1 => k_is)
    (case c1 => k_is)
    (case k1 => k_is)
    (case a2 => k_is)
    (case l2 => k_is)
    (case c2 => k_is)
    (case k2 => k_is)
    (case a3 => k_is)
    (case l3 => k_is)
    (case c3 => k_is)
    (case k3 => k_is)
    (case a4 => k_is)
    (case l4 => k_is)
    (case c4 => k_is)
    (case k4 => k_is)
    (case a5 => k_is)
    (case l5 => k_is)
    (case c5 => k_is)
    (case k5 => k_is)
    (case a6 => k_is)
    (case l6 => k_is)
    (case c6 => k_is)
    (case k6 => k_is)
    (case a7 => k_is)
    (case l7 => k_is)
    (case c7 => k_is)
    (case k7 => k_is)
    (case a8 => k_is)
    (case l8 => k_is)
    (case c8 => k_is)
    (case k8 => k_is)
    (case a9 => k_is)
    (case l9 => k_is)
    (case c9 => k_is)
    (case k9 => k_is)
    (case a10 => k_is)
    (case i10 => k_is)
    (case l10 => k_is)
    (case c10 => k_is)
    (case k10 => k_is)
    (case a11 => k_is)
    (case pget11 => k_is)
    (case ptak11 => k_is)
    (case prec11 => k_is)
    (case l11 => k_is)
    (case c11 => k_is)
    (case k11 => k_is)
    (case a12 => k_is)
    (case l12 => k_is)
    (case c12 => k_is)
    (case k12 => k_is)
    (case a13 => k_is)
    (case i13 => k_is)
    (case l13 => k_is)
    (case c13 => k_is)
    (case k13 => k_is)
    (case a14 => k_is)
    (case l14 => k_is)
    (case c14 => k_is)
    (case k14 => k_is)
    (case a15 => k_is)
    (case l15 => k_is)
    (case c15 => k_is)
    (case k15 => k_is)
    (case a16 => k_is)
    (case l16 => k_is)
    (case c16 => k_is)
    (case k16 => k_is)
    (case a17 => k_is)
    (case l17 => k_is)
    (case c17 => k_is)
    (case k17 => k_is)
    (case a18 => k_is)
    (case i18 => k_is)
    (case l18 => k_is)
    (case c18 => k_is)
    (case k18 => k_is)
    (case a19 => k_is)
    (case l19 => k_is)
    (case c19 => k_is)
    (case k19 => k_is)
    (case a20 => k_is)
    (case l20 => k_is)
    (case c20 => k_is)
    (case k20 => k_is)
    (case a21 => k_is)
    (case l21 => k_is)
    (case c21 => k_is)
    (case k21 => k_is)
    (case a22 => k_is)
    (case l22 => k_is)
    (case c22 => k_is)
    (case k22 => k_is)
    (case a23 => k_is)
    (case l23 => k_is)
    (case c23 => k_is)
    (case k23 => k_is)
    (case a24 => k_is)
    (case l24 => k_is)
    (case c24 => k_is)
    (case k24 => k_is)
    (case a25 => k_is)
    (case l25 => k_is)
    (case c25 => k_is)
    (case k25 => k_is)
    (case a26 => k_is)
    (case l26 => k_is)
    (case c26 => k_is)
    (case k26 => k_is)
    (case a27 => k_is)
    (case l27 => k_is)
    (case c27 => k_is)
    (case k27 => k_is)
    (case a28 => k_is)
    (case l28 => k_is)
    (case c28 => k_is)
    (case k28 => k_is)
    (case a29 => k_is)
    (case l29 => k_is)
    (case c29 => k_is)
    (case k29 => k_is)
    (case a30 => k_is)
    (case l30 => k_is)
    (case c30 => k_is)
    (case k30 => k_is)
    (case a31 => k_is)
    (case i31 => k_is)
    (case l31 => k_is)
    (case c31 => k_is)
    (case k31 => k_is)
    (case z_abs => k_is)
    (case z_bool => k_is)
    (case z_enumerate => k_is)
    (case z_int => k_is)
    (case z_isinstance => k_is)
    (case z_len => k_is)
    (case z_list => k_is)
    (case z_range => k_is)
    (case z_repr => k_is)
    (case z_sorted => k_is)
    (case z_tuple => k_is)
    (case u_MOST_FIELDS => k_is)
