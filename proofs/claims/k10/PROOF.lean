import PyProof.Rows.All
import Wide.All
import OpenK.AllK
import Wide.FinOn
import HandS.ForMost
import HandS.ForExc
import HandS.IsInst
import HandS.Strs
import HandS.SetFor
import HandS.SortInts
import HandS.Wide
import HandS.TupAny
import HandS.More
import HandS.Property
import HandS.Walk
import KE.GoesEnum
import HandS.Conv
import HandS.Ends
import HandS.ExcInit
import HandS.ExcField
import HandS.ExcIs
import HandS.ClsMeth
import HandS.FStr
import HandS.ExcCtx
import HandS.HotCalls
import KE.KExcIs
import KE.KCallOwn
import HandS.Zip
import HandS.TryMany
import HandS.NoneIn
import HandS.Flow
import HandS.Deep
import HandS.WideBits
import HandS.WordsDict
import HandS.Rev
import PyProof.AutoSeq1
import HandS.SortRule
import PyProof.ListStr
import KE.KOpsOwn
import HandS.Codes
import PyProof.ReprRoads
import PyProof.CallFns
import PyProof.ReprText
import KE.SortData
import HandS.Style
import HandS.TupMul
import KE.DataCmp
import OpenK.KMore
import HandS.Gcd
import KE.KMathGC
import PySem.Challenge.RW_fieldrides_k10_counts_of_shapes
set_option Elab.async false
set_option linter.all false
set_option maxRecDepth 100000
namespace My
open PySem PySem.Spec PyProof.Rows L2
structure Df (K : PySem.W.Frag) (mg : Str → Option Value) (x : Str) (st : Stmt) (ps : List Str) : Prop where
  ex : ∃ (f : Addr) (fd : FuncData), Fun K x x st f fd ∧ Binds K fd ps [] ∧ mg x = some (.ref f)
structure Dn (P : Program) (w : World) (K : PySem.W.Frag) (mg : Str → Option Value) (base : Heap) (k : Nat) (x : Str) (sp : Sp) : Prop where
  ex : ∃ (f : Addr) (fd : FuncData) (ps : List Str), FnOk P w K mg base CX0 k f fd ps sp ∧ mg x = some (.ref f) ∧ PySem.W.keepIn K (.ref f) = true ∧ Binds K fd ps []
section
variable {P : Program} {w : World} {K : PySem.W.Frag} {mg : Str → Option Value} {base : Heap}
theorem Df.ok {x : Str} {st : Stmt} {N ps : List Str} {k : Nat} {sp : Sp} (F : Df K mg x st ps) (S : FnScope N ps (defScope st)) (len : ∀ vs H Q E, sp vs H Q E → vs.length = ps.length)
    (body : ∀ (f : Addr) (cdv : Value) (A : Around) (outer : List Env) (s : Shared) (H : Hp) (vs : List V) (Q : VK) (E : XK),
      Room k (A.deeper (envOfC x (defScope st) s.heap.objs.size f cdv)) → sp vs H Q E →
      ∃ t, PSs (cxOf CX0 P w K mg base N x (defScope st) f cdv A outer s H E).nox (defBody st) t ∧
        t { nx := fun _ H' => Q .non H', rt := Q } (start N vs) H) : Dn P w K mg base (k + 1) x sp := by
  obtain ⟨f, fd, F, b, m⟩ := F.ex
  exact ⟨f, fd, ps, F.ok S len (body f), m, F.kp, b⟩
theorem Dn.mono {x : Str} {j k : Nat} {sp : Sp} (D : Dn P w K mg base j x sp) (h : j ≤ k) : Dn P w K mg base k x sp := by
  obtain ⟨f, fd, ps, F, m, q, b⟩ := D.ex
  exact ⟨f, fd, ps, F.mono h, m, q, b⟩
theorem Dn.imp {x : Str} {k : Nat} {sp sp' : Sp} (D : Dn P w K mg base k x sp) (h : ∀ vs H Q E, sp' vs H Q E → sp vs H Q E) : Dn P w K mg base k x sp' := by
  obtain ⟨f, fd, ps, F, m, q, b⟩ := D.ex
  exact ⟨f, fd, ps, F.imp h, m, q, b⟩
/-- nothing is promised of a call that can't be -/
theorem Df.none {x : Str} {st : Stmt} {ps : List Str} {sp : Sp} (F : Df K mg x st ps) (no : ∀ vs H Q E, ¬ sp vs H Q E) (k : Nat) : Dn P w K mg base k x sp := by
  obtain ⟨f, fd, F, b, m⟩ := F.ex
  exact ⟨f, fd, ps, ⟨fun vs H Q E h => absurd h (no vs H Q E), fun A outer s H args us vs Q E _ _ _ _ h => absurd h (no vs H Q E)⟩, m, F.kp, b⟩
end
theorem same_new {H : Hp} {p : Addr} (h : H p = Option.none) (o : HO) : Same H (upd H p o) := fun b u q => by rw [upd_ne (ne_of_none q h)]; exact q
/-- all but what stands at t is as it was -/
def But (t : Addr) (H H' : Hp) : Prop := ∀ b o, b ≠ t → H b = some o → H' b = some o
theorem But.refl (t : Addr) (H : Hp) : But t H H := fun _ _ _ h => h
theorem But.trans {t : Addr} {H H1 H2 : Hp} (a : But t H H1) (b : But t H1 H2) : But t H H2 := fun c o n h => b c o n (a c o n h)
theorem But.of {t : Addr} {H H' : Hp} (h : Same H H') : But t H H' := fun b o _ q => h b o q
theorem But.upd {t : Addr} {H : Hp} (o : HO) : But t H (upd H t o) := fun b u n q => by rw [upd_ne n]; exact q
theorem But.tup {t p : Addr} {H H' : Hp} {l xs : List V} (b : But t H H') (ht : H t = some (.lst l)) (h : H p = some (.tup xs)) : H' p = some (.tup xs) :=
  b p _ (ne_of h ht (by intro z; cases z)) h
/-- from the heap ahead of the list at t -/
theorem But.same {t : Addr} {H0 H' : Hp} {o : HO} (n : H0 t = Option.none) (b : But t (L2.upd H0 t o) H') : Same H0 H' := fun c u q =>
  b c u (ne_of_none q n) (by rw [upd_ne (ne_of_none q n)]; exact q)
theorem _root_.L2.Same.seqT {K : PySem.W.Frag} {H H' : Hp} {a : Addr} {xs : List V} (e : Same H H') (h : SqT K H a xs) : SqT K H' a xs := by
  rcases h with (h | ⟨o, h⟩) | h
  · exact .inl (.inl (e _ _ h))
  · exact .inl (.inr ⟨o, e _ _ h⟩)
  · exact .inr h
theorem nodup_small : ∀ (n : Nat) (ds : List Int), ds.Nodup → (∀ z ∈ ds, 0 ≤ z ∧ z < (n : Int)) → ds.length ≤ n
  | 0, [], _, _ => Nat.le_refl _
  | 0, d :: ds, _, h => by have := h d (List.mem_cons_self ..); omega
  | n + 1, ds, nd, h => by
    have q := nodup_small n (ds.erase (n : Int)) (nd.erase _) fun z hz => by
      have h1 := h z (List.mem_of_mem_erase hz)
      have h2 : z ≠ (n : Int) := fun e => by
        subst e
        exact (nd.not_mem_erase hz)
      omega
    have l := List.length_erase_le (a := (n : Int)) (l := ds)
    by_cases m : (n : Int) ∈ ds
    · rw [List.length_erase_of_mem m] at q
      omega
    · rw [List.erase_of_not_mem m] at q
      omega
theorem SetR.list {w : World} {h : Heap} {a : Addr} {S : Int → Bool} {n : Nat} (R : SetR w h a S n) : ∃ ds : List Int, ds.Nodup ∧ (∀ z, z ∈ ds ↔ S z = true) ∧ ds.length = n := by
  obtain ⟨o, es, ep, t, _, _, _, _, nd, m, _, _, e, _⟩ := R
  exact ⟨es.toList.map keyOf, nd, fun z => (m z).symm, by rw [List.length_map, Array.length_toList]; exact e⟩
end My
set_option Elab.async false
set_option linter.all false
set_option maxRecDepth 100000
namespace My
open PySem PySem.Spec PyProof.Rows L2
theorem small {n : Nat} (h : n ≤ 100000) : n ≤ sizeLine := by rw [sizeLine_eq]; omega
theorem smallLt {n : Nat} (h : n ≤ 100000) : n < sizeLine := by rw [sizeLine_eq]; omega
def Tape (H : Hp) (t : Addr) : Prop := ∃ c k : Int, H t = some (.lst [.int c, .int k]) ∧ 0 ≤ c ∧ 0 ≤ k
theorem Tape.lst {H : Hp} {t : Addr} (h : Tape H t) : ∃ l, H t = some (.lst l) := by
  obtain ⟨c, k, h, _⟩ := h
  exact ⟨_, h⟩
theorem Tape.same {H H' : Hp} {t : Addr} (h : Tape H t) (e : Same H H') : Tape H' t := by
  obtain ⟨c, k, h, q⟩ := h
  exact ⟨c, k, e _ _ h, q⟩
theorem Tape.ne {H : Hp} {t p : Addr} (h : Tape H t) (n : H p = none) : p ≠ t := by
  obtain ⟨l, h⟩ := h.lst
  exact fun e => ne_of_none h n e.symm
theorem Tape.upd {H : Hp} {t D : Addr} {o : HO} (h : Tape H t) (n : D ≠ t) : Tape (L2.upd H D o) t := by
  obtain ⟨c, k, h, q⟩ := h
  exact ⟨c, k, by rw [upd_ne n.symm]; exact h, q⟩
section
variable {X : Cx} {K : PySem.W.Frag}
theorem ix_seqK (h : X.K = K) : IxR X (rIx K) := h ▸ ix_seq
end
inductive Tr where
  | leaf (s : Str)
  | ask (f : Int) (a b c : Tr)
  deriving DecidableEq
namespace Tr
def depth : Tr → Nat
  | leaf _ => 0
  | ask _ a b c => max a.depth (max b.depth c.depth) + 1
def fields : Tr → List Int
  | leaf _ => []
  | ask f a b c => [f] ++ a.fields ++ b.fields ++ c.fields
/-- every asked field lies in 0 .. n-1 -/
def Below (n : Int) : Tr → Prop
  | leaf _ => True
  | ask f a b c => 0 ≤ f ∧ f < n ∧ a.Below n ∧ b.Below n ∧ c.Below n
theorem Below.mono : ∀ {t : Tr} {n m : Int}, t.Below n → n ≤ m → t.Below m
  | leaf _, _, _, _, _ => trivial
  | ask f a b c, n, m, ⟨h1, h2, h3, h4, h5⟩, h => ⟨h1, by omega, h3.mono h, h4.mono h, h5.mono h⟩
end Tr
inductive TreeAt (H : Hp) : V → Tr → Prop where
  | leaf (s : Str) : TreeAt H (.str s) (.leaf s)
  | ask {p : Addr} {f : Int} {va vb vc : V} {a b c : Tr} (h : H p = some (.tup [.int f, va, vb, vc])) (ha : TreeAt H va a) (hb : TreeAt H vb b) (hc : TreeAt H vc c) : TreeAt H (.ref p) (.ask f a b c)
theorem TreeAt.keep {H H' : Hp} {v : V} {t : Tr} (k : ∀ p xs, H p = some (.tup xs) → H' p = some (.tup xs)) (h : TreeAt H v t) : TreeAt H' v t := by
  induction h with
  | leaf s => exact .leaf s
  | ask h _ _ _ i1 i2 i3 => exact .ask (k _ _ h) i1 i2 i3
theorem TreeAt.same {H H' : Hp} {v : V} {t : Tr} (h : TreeAt H v t) (e : Same H H') : TreeAt H' v t := h.keep fun p xs q => e p _ q
/-- a tree that is an ask is a tuple -/
theorem TreeAt.inv {H : Hp} {v : V} {f : Int} {a b c : Tr} (h : TreeAt H v (.ask f a b c)) : ∃ p va vb vc, v = .ref p ∧ H p = some (.tup [.int f, va, vb, vc]) ∧ TreeAt H va a ∧ TreeAt H vb b ∧ TreeAt H vc c := by
  cases h with
  | ask h ha hb hc => exact ⟨_, _, _, _, rfl, h, ha, hb, hc⟩
/-- a list of trees -/
abbrev TreesAt (H : Hp) : List V → List Tr → Prop := Paired (TreeAt H)
theorem TreesAt.keep {H H' : Hp} {vs : List V} {ts : List Tr} (k : ∀ p xs, H p = some (.tup xs) → H' p = some (.tup xs)) (h : TreesAt H vs ts) : TreesAt H' vs ts := Paired.mapP h fun _ _ q => q.keep k
theorem dpInts {K : PySem.W.Frag} {H : Hp} : ∀ l : List Int, DpAll K H (l.map V.int) (l.map PyData.int)
  | [] => .nil
  | x :: l => .cons (.int x) (dpInts l)
end My
set_option Elab.async false
set_option linter.all false
set_option maxRecDepth 100000
namespace My
open PySem PySem.Spec PyProof.Rows L2
/-- a method (qual: its qualified name) as the text has it -/
structure DfM (K : PySem.W.Frag) (C : Addr) (m qual : Str) (st : Stmt) (ps : List Str) : Prop where
  ex : ∃ (f : Addr) (fd : FuncData), Fun K m qual st f fd ∧ Binds K fd ps [] ∧ Meth K C m f
structure DfP (K : PySem.W.Frag) (C : Addr) (m qual : Str) (st : Stmt) (ps : List Str) : Prop where
  ex : ∃ (p f : Addr) (fd : FuncData), Fun K m qual st f fd ∧ Binds K fd ps [] ∧ PropOf K C m p f
structure DfI (K : PySem.W.Frag) (mg : Str → Option Value) (x : Str) (C : Addr) (qual : Str) (st : Stmt) (ps : List Str) : Prop where
  ex : ∃ (f : Addr) (fd : FuncData), Fun K "__init__" qual st f fd ∧ Binds K fd ps [] ∧ Mk K C f ∧ mg x = some (.ref C)
structure DnM (P : Program) (w : World) (K : PySem.W.Frag) (mg : Str → Option Value) (base : Heap) (k : Nat) (C : Addr) (m : Str) (sp : Sp) : Prop where
  ex : ∃ (f : Addr) (fd : FuncData) (ps : List Str), FnOk P w K mg base CX0 k f fd ps sp ∧ Meth K C m f ∧ Binds K fd ps []
structure DnP (P : Program) (w : World) (K : PySem.W.Frag) (mg : Str → Option Value) (base : Heap) (k : Nat) (C : Addr) (m : Str) (sp : Sp) : Prop where
  ex : ∃ (p f : Addr) (fd : FuncData) (ps : List Str), FnOk P w K mg base CX0 k f fd ps sp ∧ PropOf K C m p f ∧ Binds K fd ps []
structure DnI (P : Program) (w : World) (K : PySem.W.Frag) (mg : Str → Option Value) (base : Heap) (k : Nat) (x : Str) (C : Addr) (sp : Sp) : Prop where
  ex : ∃ (f : Addr) (fd : FuncData) (ps : List Str), FnOk P w K mg base CX0 k f fd ps sp ∧ Mk K C f ∧ mg x = some (.ref C) ∧ Binds K fd ps []
section
variable {P : Program} {w : World} {K : PySem.W.Frag} {mg : Str → Option Value} {base : Heap} {C : Addr} {m qual x : Str} {st : Stmt} {N ps : List Str} {k : Nat} {sp : Sp}
theorem DfM.ok (F : DfM K C m qual st ps) (S : FnScope N ps (defScope st)) (len : ∀ vs H Q E, sp vs H Q E → vs.length = ps.length)
    (body : ∀ (f : Addr) (cdv : Value) (A : Around) (outer : List Env) (s : Shared) (H : Hp) (vs : List V) (Q : VK) (E : XK),
      Room k (A.deeper (envOfC qual (defScope st) s.heap.objs.size f cdv)) → sp vs H Q E →
      ∃ t, PSs (cxOf CX0 P w K mg base N qual (defScope st) f cdv A outer s H E).nox (defBody st) t ∧
        t { nx := fun _ H' => Q .non H', rt := Q } (start N vs) H) : DnM P w K mg base (k + 1) C m sp := by
  obtain ⟨f, fd, F, b, m⟩ := F.ex
  exact ⟨f, fd, ps, F.ok S len (body f), m, b⟩
theorem DfP.ok (F : DfP K C m qual st ps) (S : FnScope N ps (defScope st)) (len : ∀ vs H Q E, sp vs H Q E → vs.length = ps.length)
    (body : ∀ (f : Addr) (cdv : Value) (A : Around) (outer : List Env) (s : Shared) (H : Hp) (vs : List V) (Q : VK) (E : XK),
      Room k (A.deeper (envOfC qual (defScope st) s.heap.objs.size f cdv)) → sp vs H Q E →
      ∃ t, PSs (cxOf CX0 P w K mg base N qual (defScope st) f cdv A outer s H E).nox (defBody st) t ∧
        t { nx := fun _ H' => Q .non H', rt := Q } (start N vs) H) : DnP P w K mg base (k + 1) C m sp := by
  obtain ⟨p, f, fd, F, b, m⟩ := F.ex
  exact ⟨p, f, fd, ps, F.ok S len (body f), m, b⟩
theorem DfI.ok (F : DfI K mg x C qual st ps) (S : FnScope N ps (defScope st)) (len : ∀ vs H Q E, sp vs H Q E → vs.length = ps.length)
    (body : ∀ (f : Addr) (cdv : Value) (A : Around) (outer : List Env) (s : Shared) (H : Hp) (vs : List V) (Q : VK) (E : XK),
      Room k (A.deeper (envOfC qual (defScope st) s.heap.objs.size f cdv)) → sp vs H Q E →
      ∃ t, PSs (cxOf CX0 P w K mg base N qual (defScope st) f cdv A outer s H E).nox (defBody st) t ∧
        t { nx := fun _ H' => Q .non H', rt := Q } (start N vs) H) : DnI P w K mg base (k + 1) x C sp := by
  obtain ⟨f, fd, F, b, m, g⟩ := F.ex
  exact ⟨f, fd, ps, F.ok S len (body f), m, g, b⟩
end
end My
set_option Elab.async false
set_option linter.all false
set_option maxRecDepth 100000
namespace My
open PySem PySem.Spec PyProof.Rows L2
def SqX (K : PySem.W.Frag) (H : Hp) (a : Addr) (xs : List V) : Prop := SqL K H a xs ∨ SqT K H a xs
theorem SqX.same {K : PySem.W.Frag} {H H' : Hp} {a : Addr} {xs : List V} (g : Same H H') (h : SqX K H a xs) : SqX K H' a xs := h.imp g.seq g.seqT
end My
set_option Elab.async false
set_option linter.all false
set_option maxRecDepth 100000
namespace My
open PySem PySem.Spec PyProof.Rows L2
def pV : Option Nat → V
  | none => .non
  | some p => .int (p : Int)
def par (ps : List (Option Nat)) (i : Nat) : Option Nat := (ps[i]?).join
theorem par_lt {ps : List (Option Nat)} {i p : Nat} (h : par ps i = some p) : i < ps.length := by
  unfold par at h
  cases e : ps[i]? with
  | none => rw [e] at h; cases h
  | some x => exact (List.getElem?_eq_some_iff.mp e).1
theorem par_get {ps : List (Option Nat)} {i : Nat} (h : i < ps.length) : ps[i]? = some (par ps i) := by
  unfold par
  rw [List.getElem?_eq_getElem h]
  rfl
theorem par_mem {ps : List (Option Nat)} {i p : Nat} (h : par ps i = some p) : some p ∈ ps := by
  have := par_get (par_lt h)
  rw [h] at this
  exact List.mem_of_getElem? this
theorem mem_par {ps : List (Option Nat)} {p : Nat} (h : some p ∈ ps) : ∃ i, par ps i = some p := by
  obtain ⟨i, hi, e⟩ := List.mem_iff_getElem.mp h
  exact ⟨i, by unfold par; rw [List.getElem?_eq_getElem hi, e]; rfl⟩
theorem par_set {ps : List (Option Nat)} {j p : Nat} (h : j < ps.length) (i : Nat) : par (ps.set j (some p)) i = if i = j then some p else par ps i := by
  unfold par
  rw [List.getElem?_set]
  by_cases e : j = i
  · subst e; rw [if_pos rfl, if_pos rfl, if_pos h]; rfl
  · rw [if_neg e, if_neg (fun z => e z.symm)]
theorem eraseIdx_perm {α : Type} : ∀ {l : List α} {i : Nat} (h : i < l.length), (l[i] :: l.eraseIdx i).Perm l
  | [], _, h => by simp at h
  | x :: l, 0, _ => .refl _
  | x :: l, i + 1, h => by
    have h' : i < l.length := by simpa using h
    show (l[i] :: x :: l.eraseIdx i).Perm (x :: l)
    exact (List.Perm.swap x l[i] _).trans ((eraseIdx_perm h').cons x)
theorem eraseIdx_map {α β : Type} (f : α → β) : ∀ (l : List α) (i : Nat), (l.map f).eraseIdx i = (l.eraseIdx i).map f
  | [], _ => rfl
  | x :: l, 0 => rfl
  | x :: l, i + 1 => by
    show f x :: (l.map f).eraseIdx i = f x :: (l.eraseIdx i).map f
    rw [eraseIdx_map f l i]
/-- no way comes round -/
structure Acy (ps : List (Option Nat)) : Prop where
  lt : ∀ {i p : Nat}, par ps i = some p → p < ps.length
  rk : ∃ r : Nat → Nat, (∀ i, i < ps.length → r i < ps.length) ∧ ∀ {i p : Nat}, par ps i = some p → r p < r i
def pathF (ps : List (Option Nat)) : Nat → Nat → List Nat
  | 0, i => [i]
  | k + 1, i => match par ps i with
    | none => [i]
    | some p => pathF ps k p ++ [i]
def path (ps : List (Option Nat)) (i : Nat) : List Nat := pathF ps ps.length i
theorem pathF_eq {ps : List (Option Nat)} {r : Nat → Nat} (hr : ∀ {i p : Nat}, par ps i = some p → r p < r i) : ∀ (k m i : Nat), r i ≤ k → r i ≤ m → pathF ps k i = pathF ps m i
  | 0, 0, i, _, _ => rfl
  | 0, m + 1, i, h, _ => by
    cases e : par ps i with
    | none => simp only [pathF, e]
    | some p => have := hr e; omega
  | k + 1, 0, i, _, h => by
    cases e : par ps i with
    | none => simp only [pathF, e]
    | some p => have := hr e; omega
  | k + 1, m + 1, i, h1, h2 => by
    cases e : par ps i with
    | none => simp only [pathF, e]
    | some p =>
      have := hr e
      simp only [pathF, e]
      rw [pathF_eq hr k m p (by omega) (by omega)]
theorem path_root {ps : List (Option Nat)} {i : Nat} (h : par ps i = none) : path ps i = [i] := by
  unfold path
  cases ps.length with
  | zero => rfl
  | succ k => simp only [pathF, h]
theorem path_step {ps : List (Option Nat)} (A : Acy ps) {i p : Nat} (h : par ps i = some p) : path ps i = path ps p ++ [i] := by
  obtain ⟨r, r1, r2⟩ := A.rk
  have hi := par_lt h
  have hp := A.lt h
  have h1 := r1 i hi
  have h2 := r1 p hp
  have h3 := r2 h
  unfold path
  rw [pathF_eq r2 ps.length (r p + 1 + (ps.length - r p - 1)) i (by omega) (by omega)]
  rw [show r p + 1 + (ps.length - r p - 1) = (ps.length - 1) + 1 by omega]
  simp only [pathF, h]
  rw [pathF_eq r2 (ps.length - 1) ps.length p (by omega) (by omega)]
theorem path_len {ps : List (Option Nat)} (A : Acy ps) {i : Nat} (hi : i < ps.length) : (path ps i).length ≤ ps.length := by
  obtain ⟨r, r1, r2⟩ := A.rk
  have len : ∀ k i, (pathF ps k i).length ≤ k + 1 := fun k => by
    induction k with
    | zero => intro i; exact Nat.le_refl _
    | succ k ih =>
      intro i
      cases e : par ps i with
      | none => simp only [pathF, e, List.length_cons, List.length_nil]; omega
      | some p =>
        have := ih p
        simp only [pathF, e, List.length_append, List.length_cons, List.length_nil]
        omega
  unfold path
  have h1 := r1 i hi
  rw [pathF_eq r2 ps.length (ps.length - 1) i (by omega) (by omega)]
  have := len (ps.length - 1) i
  omega
theorem path_lt {ps : List (Option Nat)} (A : Acy ps) {i : Nat} (hi : i < ps.length) : ∀ j ∈ path ps i, j < ps.length := by
  have key : ∀ k i, i < ps.length → ∀ j ∈ pathF ps k i, j < ps.length := fun k => by
    induction k with
    | zero => intro i hi j hj; rw [List.mem_singleton.mp hj]; exact hi
    | succ k ih =>
      intro i hi j hj
      cases e : par ps i with
      | none => simp only [pathF, e, List.mem_singleton] at hj; rw [hj]; exact hi
      | some p =>
        simp only [pathF, e, List.mem_append, List.mem_singleton] at hj
        rcases hj with hj | hj
        · exact ih p (A.lt e) j hj
        · rw [hj]; exact hi
  exact key _ i hi
theorem path_self (ps : List (Option Nat)) (A : Acy ps) (i : Nat) : i ∈ path ps i := by
  cases e : par ps i with
  | none => rw [path_root e]; exact List.mem_singleton.mpr rfl
  | some p => rw [path_step A e]; simp
/-- places in a list without repetitions -/
theorem idx_at {α : Type} [DecidableEq α] : ∀ {ts : List α} {a : Nat} {x : α}, ts.Nodup → ts[a]? = some x → ts.idxOf x = a
  | [], _, _, _, h => by simp at h
  | y :: ts, 0, x, _, h => by simp at h; subst h; exact List.idxOf_cons_self
  | y :: ts, a + 1, x, n, h => by
    obtain ⟨n1, n2⟩ := List.nodup_cons.mp n
    have h : ts[a]? = some x := by simpa using h
    have e : y ≠ x := fun e => n1 (e ▸ List.mem_of_getElem? h)
    rw [List.idxOf_cons, idx_at n2 h, show (y == x) = false from beq_eq_false_iff_ne.mpr e]
    rfl
/-- parents that come earlier in an order of the fields -/
theorem acy_of {ps : List (Option Nat)} {ts : List Nat} (nd : ts.Nodup) (hl : ts.length = ps.length) (hm : ∀ t ∈ ts, t < ps.length) (h : ∀ i p : Nat, par ps i = some p → ∃ a b : Nat, a < b ∧ ts[a]? = some p ∧ ts[b]? = some i) : Acy ps := by
  have full : ∀ i, i < ps.length → i ∈ ts := fun i hi => Classical.byContradiction fun no => by
    have nd' : (i :: ts).Nodup := List.nodup_cons.mpr ⟨no, nd⟩
    have := nodup_small ps.length ((i :: ts).map fun (x : Nat) => (x : Int)) (by
      have inj : ∀ l : List Nat, l.Nodup → (l.map fun (x : Nat) => (x : Int)).Nodup := fun l => by
        induction l with
        | nil => intro _; exact List.nodup_nil
        | cons x l ih =>
          intro n
          obtain ⟨n1, n2⟩ := List.nodup_cons.mp n
          rw [List.map_cons]
          refine List.nodup_cons.mpr ⟨fun z => n1 ?_, ih n2⟩
          obtain ⟨y, hy, e⟩ := List.mem_map.mp z
          have : y = x := by omega
          exact this ▸ hy
      exact inj _ nd') (fun z hz => by
        obtain ⟨y, hy, e⟩ := List.mem_map.mp hz
        have : y < ps.length := by
          rcases List.mem_cons.mp hy with q | q
          · rw [q]; exact hi
          · exact hm y q
        omega)
    rw [List.length_map, List.length_cons] at this
    omega
  refine ⟨fun {i p} e => ?_, fun i => ts.idxOf i, fun i hi => by rw [← hl]; exact List.idxOf_lt_length_of_mem (full i hi), fun {i p} e => ?_⟩
  · obtain ⟨a, b, _, h1, _⟩ := h i p e
    exact hm p (List.mem_of_getElem? h1)
  · obtain ⟨a, b, h0, h1, h2⟩ := h i p e
    show ts.idxOf p < ts.idxOf i
    rw [idx_at nd h1, idx_at nd h2]
    exact h0
/-- a list or a tuple of the heap -/
def SqH (H : Hp) (a : Addr) (xs : List V) : Prop := H a = some (.lst xs) ∨ H a = some (.tup xs)
theorem SqH.same {H H' : Hp} {a : Addr} {xs : List V} (g : Same H H') (h : SqH H a xs) : SqH H' a xs := h.imp (g _ _) (g _ _)
/-- a forest: parents and kinds -/
structure Fo where
  ps : List (Option Nat)
  ks : List Str
def FoAt (C : Addr) (H : Hp) (a : Addr) (φ : Fo) : Prop := ∃ dx pt kt, H a = some (.ins C dx [("fields", .int (φ.ps.length : Int)), ("parents", .ref pt), ("kinds", .ref kt)]) ∧ H pt = some (.tup (φ.ps.map pV)) ∧ H kt = some (.tup (φ.ks.map V.str))
theorem FoAt.same {C : Addr} {H H' : Hp} {a : Addr} {φ : Fo} (g : Same H H') (h : FoAt C H a φ) : FoAt C H' a φ := by
  obtain ⟨dx, pt, kt, h1, h2, h3⟩ := h
  exact ⟨dx, pt, kt, g _ _ h1, g _ _ h2, g _ _ h3⟩
end My
set_option Elab.async false
set_option linter.all false
set_option maxRecDepth 100000
namespace My
open PySem PySem.Spec PyProof.Rows L2
structure RoomG (k : Nat) (A : Around) : Prop extends Room k A where
  gd : A.guards = some []
section
variable {j k : Nat} {A : Around}
theorem RoomG.mono (r : RoomG k A) (h : j ≤ k) : RoomG j A := ⟨r.toRoom.mono h, r.gd⟩
theorem RoomG.deeper (r : RoomG (k + 1) A) (e : Env) : RoomG k (A.deeper e) := ⟨r.toRoom.deeper e, r.gd⟩
end
/-- as FnOk, where nothing shows itself -/
structure FnG (P : Program) (w : World) (K : PySem.W.Frag) (mg : Str → Option Value) (base : Heap) (cx : CXT) (k : Nat) (f : Addr) (fd : FuncData) (ps : List Str) (sp : Sp) : Prop where
  len : ∀ ws G R Z, sp ws G R Z → ws.length = ps.length
  run : ∀ (A : Around) (up : List Env) (z : Shared) (G : Hp) (args : Args) (us : List Value) (ws : List V) (R : VK) (Z : XK), RoomG k A → Env0 P w K mg base A up z G → BindsTo z fd args (ps.zip us) → Vals ws us → sp ws G R Z →
    codeAny (model P w) A (.call (.ref f) args) (CR cx up P w G z R Z) z
section
variable {P : Program} {w : World} {K : PySem.W.Frag} {mg : Str → Option Value} {base : Heap} {cx : CXT} {k : Nat} {f : Addr} {fd : FuncData} {N ps : List Str} {sp : Sp}
theorem FnG.imp {sp' : Sp} (F : FnG P w K mg base cx k f fd ps sp) (h : ∀ ws G R Z, sp' ws G R Z → sp ws G R Z) : FnG P w K mg base cx k f fd ps sp' :=
  ⟨fun _ _ _ _ q => F.len _ _ _ _ (h _ _ _ _ q), fun A up z G args us ws R Z r e b v q => F.run A up z G args us ws R Z r e b v (h _ _ _ _ q)⟩
/-- a def by its body -/
theorem okG {x qual : Str} {st : Stmt} (F : L2.Fun K x qual st f fd) (S : FnScope N ps (defScope st)) (len : ∀ ws G R Z, sp ws G R Z → ws.length = ps.length)
    (body : ∀ (cv : Value) (A : Around) (up : List Env) (z : Shared) (G : Hp) (ws : List V) (R : VK) (Z : XK), RoomG k (A.deeper (envOfC qual (defScope st) z.heap.objs.size f cv)) → sp ws G R Z →
      ∃ t, PSs (cxOf cx P w K mg base N qual (defScope st) f cv A up z G Z) (defBody st) t ∧ t { nx := fun _ G' => R .non G', rt := R } (start N ws) G) : FnG P w K mg base cx (k + 1) f fd ps sp := by
  obtain ⟨oc, od, kV, doc, pm, an, cv, ct, osl, rfl, lk, code⟩ := F.ex
  refine ⟨len, fun A up z G args us ws R Z room env bd vals want => ?_⟩
  have kin : K.In z.heap := env.mod.kin.keeps fun b o e => (env.bs b o e).1
  have nolim : z.heap.NoLimit := env.mod.nolimit.keeps fun b o e => (env.bs b o e).1
  refine codeAny_call_function room.toRoom.depth (kin _ _ lk) rfl S.co S.gen rfl (PySem.W.codeRec_of kin code) (bd _ _ _ _ ?_)
  refine wpAny_newFunctionEnv_cells S.kind (fun y hy => ?_) fun ev hev z1 inn => ?_
  · obtain ⟨y1, y2⟩ := y
    rcases S.par y1 (List.of_mem_zip hy).1 with q | q
    · exact .inl q
    · exact .inr ⟨q, PySem.W.cellsFrom_some _ _ _ (.inl q)⟩
  · subst hev
    obtain ⟨t, rule, holds⟩ := body cv A up z G ws R Z (room.deeper _) want
    have I := inv_start (CX := cx) (N := N) (E := Z) S room.hd env (len _ _ _ _ want) vals inn
    refine ⟨nolim.keeps inn.toInCall.keep, codeAny_func (wpAny_mono (rule.run [] z1 (start N ws) G _ I holds) (fun fl z2 q => ?_) fun _ _ q => q)⟩
    cases fl with
    | brk => exact q.elim fun _ q => q.elim fun _ q => q.2.elim
    | cont => exact q.elim fun _ q => q.elim fun _ q => q.2.elim
    | next =>
      obtain ⟨_, G', J, q⟩ := q
      exact ⟨.non, G', J.os, J.bare, J.base, J.hok, rfl, q⟩
    | ret u =>
      obtain ⟨v, _, G', J, rv, q⟩ := q
      exact ⟨v, G', J.os, J.bare, J.base, J.hok, rv, q⟩
end
section
variable {X : Cx} {cx : CXT} {k : Nat} {f C : Addr} {fd : FuncData} {ps : List Str} {sp : Sp} {E : L2.St → XK} {x m : Str} {p pos apos : Pos} {e o : Expr} {es : List Expr} {ta : TE} {t : TA} {pins : List (Addr × Obj)} {σ : L2.St} {H : Hp} {s : Shared} {Q : VK}
/-- behind a call -/
theorem back_of (hx : PassesAt cx X σ (E σ)) (I : Inv X pins σ H s) {r : Result} {s' : Shared} (h : CR cx X.stack X.prog X.w H s Q (E σ) r s') : callEnd (EP X pins σ Q) X.xe r s' := by
  cases r with
  | error e => exact hx pins H s e s' I h
  | ok fl => cases fl <;> first | exact I.after h | exact False.elim h
theorem run_G {us : List Value} {ws : List V} (F : FnG X.prog X.w X.K X.mg X.base cx k f fd ps sp) (r : RoomG k X.A) (b : Binds X.K fd ps []) (hx : PassesAt cx X σ (E σ)) (I : Inv X pins σ H s) (v : Vals ws us) (h : sp ws H Q (E σ)) :
    wpAny (model X.prog X.w) X.A (call (.ref f) us) (EP X pins σ Q) X.xe s := by
  have bs := b s us I.kIn (by rw [List.append_nil, ← v.length]; exact F.len _ _ _ _ h)
  rw [List.append_nil] at bs
  exact wpAny_call (codeAny_mono (F.run X.A X.stack s H ⟨us, []⟩ us ws Q (E σ) r I.env0 bs v h) fun _ _ q => back_of hx I q)
/-- f(e, ..) -/
theorem pe_callG (F : FnG X.prog X.w X.K X.mg X.base cx k f fd ps sp) (r : RoomG k X.A) (hg : Gl X x) (hm : X.mg x = some (.ref f)) (hk : PySem.W.keepIn X.K (.ref f) = true) (b : Binds X.K fd ps []) (hx : ∀ σ, PassesAt cx X σ (E σ)) (ha : PA X (e :: es) t)
    (hdb : (x == ("__debug__" : Str)) = false := by decide) (h1 : starEach (e :: es) X.env = (false, eval e X.env) :: starEach es X.env := by rfl) (h2 : (backTo pos (starEach es X.env)).any (·.1) = false := by rfl) :
    PE X (.Call (.Name x p) (e :: es) [] pos) (tCallS sp E t) := ⟨fun pins s σ H Q I h => by
  refine wpAny_Call_Name_kw (ld_glob I hg hm ?_ hdb)
  exact PySem.W.callWith_K (h₀ := X.base) I.ok.mod.kin hk (thn (ha.run pos pins s σ H _ I h) fun us z ⟨ws, G, J, v, q⟩ => ⟨J.kIn, run_G F r b (hx σ) J v q⟩) h1 h2⟩
end
section
variable {P : Program} {w : World} {K : PySem.W.Frag} {mg mb : Str → Option Value} {cx : CXT} {k : Nat} {fa a : Addr} {fd : FuncData} {x : Str} {sp : Sp} {z : Shared} {us : List Value} {ns : List Int}
/-- where at most the script is tracked -/
theorem top_at {G : Hp} (kin : K.In z.heap) (nsm : z.heap.Ns mainGlobals mg) (nsb : z.heap.Ns builtinsNs mb) (bb : ∀ y : Str, y ≠ "__name__" → mb y = bootBuiltins y) (lim : z.heap.NoLimit) (gen : z.gens = #[])
    (at_ : z.heap.get? a = some { cls := .type "list", data := .seq us.toArray }) (room : RoomG k callerA)
    (F : ∀ base : Heap, K.In base → base.Ns mainGlobals mg → FnG P w K mg base cx k fa fd [x] sp) (bd : ∀ (s : Shared) (u : Value), BindsTo s fd ⟨[u], []⟩ [(x, u)])
    (only : Only G) (ok : HOk P w G z.heap) (one : ∀ b u, G b = some u → b = a ∧ K.lookup b = none) (want : sp [.ref a] G (fun v _ => v = .bl true) fun _ _ _ => False)
    (calm : ∀ G e z', cx [] G z (fun _ _ _ => False) e z' → False) :
    codeAny (model P w) callerA (.call (.ref fa) ⟨[.ref a], []⟩) (fun r z' => r = .ok (.ret (.bool true)) ∧ OldK z.heap z'.heap ∧ z'.os = z.os ∧ AllBare z'.gens) z := by
  have rest : ∀ {b : Addr} {o : Obj}, z.heap.get? b = some o → (b = a → False) → (hidT z.heap G).get? b = some o := fun {b o} e n => hidT_get e (by
    cases q : G b with
    | none => rfl
    | some u => exact (n (one b u q).1).elim)
  have table : ∀ {b : Addr} {m : Str → Option Value}, z.heap.Ns b m → (hidT z.heap G).Ns b m := fun {b m} ⟨o, es, n, e, d, r⟩ => ⟨o, es, n, rest e (fun q => by
    subst q
    rw [at_] at e
    cases e
    exact Data.noConfusion (show Data.seq us.toArray _ = Data.dict es n from d)), d, r⟩
  have kin' : K.In (hidT z.heap G) := fun b o e => hidT_get (kin b o e) (by
    cases q : G b with
    | none => rfl
    | some u =>
      have := (one b u q).2
      rw [e] at this; cases this)
  have md : Mod K mg (hidT z.heap G) := ⟨kin', table nsm, ⟨mb, table nsb, bb⟩, let ⟨mc, q1, q2⟩ := lim; ⟨mc, table q1, q2⟩⟩
  have env : Env0 P w K mg (hidT z.heap G) callerA [] z G := ⟨rfl, md, fun b o e => of_hidT e, Nat.le_of_eq (hidT_size _ _), trivial, fun b q => (List.not_mem_nil (show b ∈ ([] : List Addr) from q)).elim, ok, .of_eq gen⟩
  refine codeAny_mono ((F _ kin' (table nsm)).run callerA [] z G _ [.ref a] [.ref a] _ _ room env (bd z (.ref a)) (.cons rfl .nil) want) fun r z' q => ?_
  cases r with
  | error e => exact (calm G e z' q).elim
  | ok fl =>
    cases fl <;> first | exact False.elim q | skip
    rename_i u
    obtain ⟨v, G', os, bare, un, ok', rv, ev⟩ := q
    have ev : v = .bl true := ev
    subst ev
    obtain rfl : u = Value.bool true := rv
    refine ⟨rfl, OldK.of_keep fun b o e => ?_, os, bare⟩
    cases g : G b with
    | none => exact un.keep b o e g (fun q => (List.not_mem_nil (show b ∈ ([] : List Addr) from q)).elim) (by simp)
    | some t =>
      rcases only b with n | ⟨ob, xs, n⟩
      · rw [g] at n; cases n
      · obtain ⟨e1, _⟩ := ok b _ n
        obtain ⟨e2, _⟩ := ok' b _ (un.frzs b ob _ n)
        rw [e] at e1; cases e1
        exact e2
theorem top_call (kin : K.In z.heap) (nsm : z.heap.Ns mainGlobals mg) (nsb : z.heap.Ns builtinsNs mb) (bb : ∀ y : Str, y ≠ "__name__" → mb y = bootBuiltins y) (lim : z.heap.NoLimit) (gen : z.gens = #[])
    (at_ : z.heap.get? a = some { cls := .type "list", data := .seq us.toArray }) (its : IntsAre us ns) (short : ns.length ≤ sizeLine) (room : RoomG k callerA)
    (F : ∀ base : Heap, K.In base → base.Ns mainGlobals mg → FnG P w K mg base cx k fa fd [x] sp) (bd : ∀ (s : Shared) (u : Value), BindsTo s fd ⟨[u], []⟩ [(x, u)])
    (want : ∀ G : Hp, Only G → SqL K G a (ns.map V.int) → sp [.ref a] G (fun v _ => v = .bl true) fun _ _ _ => False)
    (calm : ∀ G e z', cx [] G z (fun _ _ _ => False) e z' → False) :
    codeAny (model P w) callerA (.call (.ref fa) ⟨[.ref a], []⟩) (fun r z' => r = .ok (.ret (.bool true)) ∧ OldK z.heap z'.heap ∧ z'.os = z.os ∧ AllBare z'.gens) z := by
  have vals := vals_ints its
  have long := its.length
  cases hk : K.lookup a with
  | some o =>
    have e := kin a o hk
    rw [at_] at e
    cases e
    have no : Only fun _ => none := fun _ => .inl rfl
    exact top_at kin nsm nsb bb lim gen at_ room F bd no (fun b u q => nomatch (show (none : Option HO) = some u from q)) (fun b u q => nomatch (show (none : Option HO) = some u from q))
      (want _ no (.inr ⟨_, us.toArray, _, hk, rfl, rfl, rfl, by rw [List.size_toArray, long]; exact short, by simpa using vals⟩)) calm
  | none =>
    have here : ∀ {b : Addr} {u : HO}, (if b = a then some (HO.frz { cls := .type "list", data := .seq us.toArray } (.lst (ns.map V.int))) else none) = some u → b = a := fun {b u} q => by
      by_cases c : b = a
      · exact c
      · rw [if_neg c] at q; cases q
    have no : Only fun b => if b = a then some (HO.frz { cls := .type "list", data := .seq us.toArray } (.lst (ns.map V.int))) else none := fun b => by
      by_cases c : b = a
      · exact .inr ⟨_, _, if_pos c⟩
      · exact .inl (if_neg c)
    refine top_at kin nsm nsb bb lim gen at_ room F bd no (fun b u q => ?_) (fun b u q => ?_) (want _ no (.inl (.inr ⟨_, if_pos rfl⟩))) calm
    · have c := here q
      subst c
      have q : (if b = b then some (HO.frz { cls := .type "list", data := .seq us.toArray } (.lst (ns.map V.int))) else none) = some u := q
      rw [if_pos rfl] at q
      cases q
      exact ⟨at_, by rw [List.length_map]; exact short, us, _, vals, at_⟩
    · have c := here q
      subst c
      exact ⟨rfl, hk⟩
end
/-- the walk of a law whose promise knows that nothing shows itself -/
theorem walk_G {l : PySem.W.OpenLaw} {n k : Nat} {q : Program} {loose : List Str} {XP : (Str → Option Value) → Heap → Prop} {YP : World → Heap → Prop} {d : DefRec} {K : Params → PySem.W.Frag} {cx : World → CXT} {sp : World → Sp} {x : Str}
    (most : l.most = some n) (short : n ≤ sizeLine) (plain : d.params.defaults = []) (room : RoomG k callerA) (hY : ∀ (w : World) (h : Heap), YP w h → (K w.params).In h)
    (F : ∀ (w : World) (mg : Str → Option Value) (fa : Addr) (h : Heap), (K w.params).In h → h.Ns mainGlobals mg → mg d.name = some (.ref fa) →
      ∃ fd : FuncData, (∀ (s : Shared) (u : Value), BindsTo s fd ⟨[u], []⟩ [(x, u)]) ∧ ∀ base : Heap, (K w.params).In base → base.Ns mainGlobals mg → FnG l.prog w (K w.params) mg base (cx w) k fa fd [x] (sp w))
    (want : ∀ (w : World) (G : Hp) (a : Addr) (ns : List Int), ns.length ≤ n → Only G → SqL (K w.params) G a (ns.map V.int) → sp w [.ref a] G (fun v _ => v = .bl true) fun _ _ _ => False)
    (calm : ∀ (w : World) (G : Hp) (s : Shared) (e : Value) (s' : Shared), cx w [] G s (fun _ _ _ => False) e s' → False) :
    PySem.W.WalkO q loose XP YP l.row.toRowW d [] (fun f vs => PySem.call f vs) := by
  refine Att.attach_call most plain fun w z0 z mg mb fa o pm cd doc a us ns T Y _ _ _ hmg hob hin hl hgen => ?_
  obtain ⟨fd, bd, F1⟩ := F w mg fa _ (hY w _ Y) T.T.g hmg
  exact top_call (hY w _ Y) T.T.g T.T.b T.T.builtins T.T.nolimit hgen hob hin (Nat.le_trans hl short) room F1 bd (fun G only S => want w G a ns hl only S) fun G e z' => calm w G z e z'
end My
set_option Elab.async false
set_option linter.all false
set_option maxRecDepth 100000
namespace My
open PySem PySem.Spec PyProof.Rows L2
structure DfE (K : PySem.W.Frag) (mg : Str → Option Value) (x : Str) (C : Addr) (qual : Str) (st : Stmt) (ps : List Str) : Prop where
  ex : ∃ (f : Addr) (fd : FuncData), Fun K "__init__" qual st f fd ∧ Binds K fd ps [] ∧ PySem.W.findIn K (.ref C) "__init__" = some (some (.ref f)) ∧ PySem.W.typeIn K (.ref f) = some (.type "function") ∧ OexC K C ∧ mg x = some (.ref C)
structure DnE (P : Program) (w : World) (K : PySem.W.Frag) (mg : Str → Option Value) (base : Heap) (k : Nat) (x : Str) (C : Addr) (sp : Sp) : Prop where
  ex : ∃ (f : Addr) (fd : FuncData) (ps : List Str), FnOk P w K mg base CX0 k f fd ps sp ∧ Binds K fd ps [] ∧ PySem.W.findIn K (.ref C) "__init__" = some (some (.ref f)) ∧ PySem.W.typeIn K (.ref f) = some (.type "function") ∧ OexC K C ∧ mg x = some (.ref C)
/-- a def that may raise -/
structure DnX (P : Program) (w : World) (K : PySem.W.Frag) (mg : Str → Option Value) (base : Heap) (k : Nat) (x : Str) (sp : Sp) : Prop where
  ex : ∃ (f : Addr) (fd : FuncData) (ps : List Str), FnG P w K mg base (L2N.CX P w) k f fd ps sp ∧ mg x = some (.ref f) ∧ PySem.W.keepIn K (.ref f) = true ∧ Binds K fd ps []
structure DnIX (P : Program) (w : World) (K : PySem.W.Frag) (mg : Str → Option Value) (base : Heap) (k : Nat) (x : Str) (C : Addr) (sp : Sp) : Prop where
  ex : ∃ (f : Addr) (fd : FuncData) (ps : List Str), FnG P w K mg base (L2N.CX P w) k f fd ps sp ∧ Mk K C f ∧ mg x = some (.ref C) ∧ Binds K fd ps []
structure DnMX (P : Program) (w : World) (K : PySem.W.Frag) (mg : Str → Option Value) (base : Heap) (k : Nat) (C : Addr) (m : Str) (sp : Sp) : Prop where
  ex : ∃ (f : Addr) (fd : FuncData) (ps : List Str), FnG P w K mg base (L2N.CX P w) k f fd ps sp ∧ Meth K C m f ∧ Binds K fd ps []
section
variable {P : Program} {w : World} {K : PySem.W.Frag} {mg : Str → Option Value} {base : Heap} {C : Addr} {m qual x : Str} {st : Stmt} {N ps : List Str} {k : Nat} {sp : Sp}
theorem DfE.ok (F : DfE K mg x C qual st ps) (S : FnScope N ps (defScope st)) (len : ∀ vs H Q E, sp vs H Q E → vs.length = ps.length)
    (body : ∀ (f : Addr) (cdv : Value) (A : Around) (outer : List Env) (s : Shared) (H : Hp) (vs : List V) (Q : VK) (E : XK),
      Room k (A.deeper (envOfC qual (defScope st) s.heap.objs.size f cdv)) → sp vs H Q E →
      ∃ t, PSs (cxOf CX0 P w K mg base N qual (defScope st) f cdv A outer s H E).nox (defBody st) t ∧
        t { nx := fun _ H' => Q .non H', rt := Q } (start N vs) H) : DnE P w K mg base (k + 1) x C sp := by
  obtain ⟨f, fd, F, b, m⟩ := F.ex
  exact ⟨f, fd, ps, F.ok S len (body f), b, m⟩
theorem Df.okX (F : Df K mg x st ps) (S : FnScope N ps (defScope st)) (len : ∀ vs H Q E, sp vs H Q E → vs.length = ps.length)
    (body : ∀ (f : Addr) (cdv : Value) (A : Around) (outer : List Env) (s : Shared) (H : Hp) (vs : List V) (Q : VK) (E : XK),
      RoomG k (A.deeper (envOfC x (defScope st) s.heap.objs.size f cdv)) → sp vs H Q E →
      ∃ t, PSs (cxOf (L2N.CX P w) P w K mg base N x (defScope st) f cdv A outer s H E) (defBody st) t ∧
        t { nx := fun _ H' => Q .non H', rt := Q } (start N vs) H) : DnX P w K mg base (k + 1) x sp := by
  obtain ⟨f, fd, F, b, m⟩ := F.ex
  exact ⟨f, fd, ps, okG F S len (body f), m, F.kp, b⟩
theorem DfI.okX (F : DfI K mg x C qual st ps) (S : FnScope N ps (defScope st)) (len : ∀ vs H Q E, sp vs H Q E → vs.length = ps.length)
    (body : ∀ (f : Addr) (cdv : Value) (A : Around) (outer : List Env) (s : Shared) (H : Hp) (vs : List V) (Q : VK) (E : XK),
      RoomG k (A.deeper (envOfC qual (defScope st) s.heap.objs.size f cdv)) → sp vs H Q E →
      ∃ t, PSs (cxOf (L2N.CX P w) P w K mg base N qual (defScope st) f cdv A outer s H E) (defBody st) t ∧
        t { nx := fun _ H' => Q .non H', rt := Q } (start N vs) H) : DnIX P w K mg base (k + 1) x C sp := by
  obtain ⟨f, fd, F, b, m, g⟩ := F.ex
  exact ⟨f, fd, ps, okG F S len (body f), m, g, b⟩
theorem DfM.okX (F : DfM K C m qual st ps) (S : FnScope N ps (defScope st)) (len : ∀ vs H Q E, sp vs H Q E → vs.length = ps.length)
    (body : ∀ (f : Addr) (cdv : Value) (A : Around) (outer : List Env) (s : Shared) (H : Hp) (vs : List V) (Q : VK) (E : XK),
      RoomG k (A.deeper (envOfC qual (defScope st) s.heap.objs.size f cdv)) → sp vs H Q E →
      ∃ t, PSs (cxOf (L2N.CX P w) P w K mg base N qual (defScope st) f cdv A outer s H E) (defBody st) t ∧
        t { nx := fun _ H' => Q .non H', rt := Q } (start N vs) H) : DnMX P w K mg base (k + 1) C m sp := by
  obtain ⟨f, fd, F, b, m⟩ := F.ex
  exact ⟨f, fd, ps, okG F S len (body f), m, b⟩
theorem DnX.imp {sp' : Sp} (D : DnX P w K mg base k x sp) (h : ∀ vs H Q E, sp' vs H Q E → sp vs H Q E) : DnX P w K mg base k x sp' := by
  obtain ⟨f, fd, ps, F, m, q, b⟩ := D.ex
  exact ⟨f, fd, ps, F.imp h, m, q, b⟩
end
/-- around a body nothing is let out -/
theorem takes0N {X : Cx} : L2N.Takes X (fun _ _ _ _ => False) := fun _ _ ⟨_, _, _, _, _, _, _, _, _, _, _, _, _, _, _, _, n⟩ => n.elim
section
variable {X : Cx} {W : WX} {k : Nat} {x m nm : Str} {C : Addr} {sp : Sp} {o e : Expr} {es : List Expr} {ta : TE} {t : TA} {p pos pos' apos : Pos}
/-- f(e, ..), f may raise -/
theorem pe_callX (D : DnX X.prog X.w X.K X.mg X.base k x sp) (hr : RoomG k X.A) (hg : Gl X x) (tk : L2N.Takes X W) (ha : PA X (e :: es) t) (hdb : (x == ("__debug__" : Str)) = false := by decide)
    (he : starEach (e :: es) X.env = (false, eval e X.env) :: starEach es X.env := by rfl) (hpl : (backTo pos (starEach es X.env)).any (·.1) = false := by rfl) :
    PE X (.Call (.Name x p) (e :: es) [] pos) (tCallS sp (WE W) t) := by
  obtain ⟨f, fd, ps, F, m, q, b⟩ := D.ex
  exact pe_callG F hr hg m q b (fun σ => L2N.passAt tk σ) ha hdb he hpl
end
end My
set_option Elab.async false
set_option linter.all false
set_option maxRecDepth 100000
namespace My
open PySem PySem.Spec PyProof.Rows L2
/-- the class's __call__ -/
structure MCall (K : PySem.W.Frag) (C f : Addr) : Prop where
  at_ : PySem.W.findIn K (.ref C) "__call__" = some (some (.ref f))
  fn : PySem.W.isFn K (.ref f) = true
  fi : PySem.W.fnIn K f = true
structure DfO (K : PySem.W.Frag) (C : Addr) (qual : Str) (st : Stmt) (ps : List Str) : Prop where
  ex : ∃ (f : Addr) (fd : FuncData), Fun K "__call__" qual st f fd ∧ Binds K fd ps [] ∧ MCall K C f
/-- CX: what may leave it (CX0: nothing; L2N.CX P w: errors) -/
structure DnO (CX : CXT) (P : Program) (w : World) (K : PySem.W.Frag) (mg : Str → Option Value) (base : Heap) (k : Nat) (C : Addr) (sp : Sp) : Prop where
  ex : ∃ (f : Addr) (fd : FuncData) (ps : List Str), FnG P w K mg base CX k f fd ps sp ∧ MCall K C f ∧ Binds K fd ps []
section
variable {P : Program} {w : World} {K : PySem.W.Frag} {mg : Str → Option Value} {base : Heap} {C : Addr} {qual : Str} {st : Stmt} {N ps : List Str} {k : Nat} {sp : Sp}
theorem DfO.okX (F : DfO K C qual st ps) (S : FnScope N ps (defScope st)) (len : ∀ vs H Q E, sp vs H Q E → vs.length = ps.length)
    (body : ∀ (f : Addr) (cdv : Value) (A : Around) (outer : List Env) (s : Shared) (H : Hp) (vs : List V) (Q : VK) (E : XK),
      RoomG k (A.deeper (envOfC qual (defScope st) s.heap.objs.size f cdv)) → sp vs H Q E →
      ∃ t, PSs (cxOf (L2N.CX P w) P w K mg base N qual (defScope st) f cdv A outer s H E) (defBody st) t ∧
        t { nx := fun _ H' => Q .non H', rt := Q } (start N vs) H) : DnO (L2N.CX P w) P w K mg base (k + 1) C sp := by
  obtain ⟨f, fd, F, b, m⟩ := F.ex
  exact ⟨f, fd, ps, okG F S len (body f), m, b⟩
end
end My
set_option Elab.async false
set_option linter.all false
set_option maxRecDepth 100000
set_option maxHeartbeats 2000000
namespace My
open PySem PySem.Spec PyProof.Rows L2
end My
set_option Elab.async false
set_option linter.all false
set_option maxRecDepth 100000
namespace My
open PySem PySem.Spec PyProof.Rows L2
abbrev NK := Option Key
def nkV : NK → V
  | none => .non
  | some k => kV k
def nPhi (P : Program) (w : World) (a : Addr) (kvs : List (NK × V)) : Heap → Prop := fun h => kvs.length ≤ sizeLine ∧ (a == sysModules) = false ∧ ∃ vs, KV kvs vs ∧ h.DictOf (noneKind P w) a vs
/-- the dict's object is this very one -/
def nD (P : Program) (w : World) (a : Addr) (kvs : List (NK × V)) (o : Obj) : HO := .ext fun h => nPhi P w a kvs h ∧ h.get? a = some o
def mergeN (kvs more : List (NK × V)) : List (NK × V) := more.foldl (fun acc kv => putK acc kv.1 kv.2) kvs
end My
set_option Elab.async false
set_option linter.all false
set_option maxRecDepth 100000
namespace VL
open PySem PySem.Spec PyProof.Rows L2
/-- fz: never changed again; ow: this def's own; io: a caller's own, lent for the call -/
inductive Fl | fz | ow | io deriving DecidableEq
/-- what a cell that bears own items is -/
inductive Sh | l | o (c : String) deriving DecidableEq
inductive PV where
  | emp | non | bl (b : Bool) | int (i : Int) | str (x : Str)
  | tup (xs : List PV)
  | lst (o : Fl) (xs : List PV)
  | dK (o : Fl) (ks : List Key) (xs : List PV)
  | dN (o : Fl) (ks : List My.NK) (xs : List PV)
  | obj (o : Fl) (c : String) (xs : List PV)
  | scr (ns : List Int)
  | ty (n : String)
  | cls (c : String)
  /-- a caught error, in a clause's slot; its own dict lies at d -/
  | err (d : Option Addr) (c : String) (xs : List PV)
  /-- a list, an object that may bear own items -/
  | nst (o : Fl) (sh : Sh) (xs : List PV)
  /-- what is frozen holds at least this -/
  | frm (F0 : Hp)
  /-- an own cell that holds just this -/
  | cel (o : Fl) (u : HO)
namespace PV
def fl : PV → Fl
  | lst o _ | dK o _ _ | dN o _ _ | obj o _ _ | nst o _ _ | cel o _ => o
  | err _ _ _ => .io
  | _ => .fz
mutual
/-- frozen, all that it bears too -/
def frz : PV → PV
  | lst _ xs => lst .fz xs
  | dK _ ks xs => dK .fz ks xs
  | dN _ ks xs => dN .fz ks xs
  | obj _ c xs => obj .fz c xs
  | nst _ .l xs => lst .fz (frzs xs)
  | nst _ (.o c) xs => obj .fz c (frzs xs)
  | err _ _ _ => emp
  | cel _ _ => emp
  | emp => emp | non => non | bl b => bl b | int i => int i | str x => str x | tup xs => tup xs | scr ns => scr ns | ty n => ty n | cls c => cls c | frm F0 => frm F0
def frzs : List PV → List PV
  | [] => []
  | x :: xs => frz x :: frzs xs
end
def setFl (o : Fl) : PV → PV
  | lst _ xs => lst o xs
  | dK _ ks xs => dK o ks xs
  | dN _ ks xs => dN o ks xs
  | obj _ c xs => obj o c xs
  | nst _ sh xs => (match o with
    | .fz => frz (nst .fz sh xs)
    | .ow => nst .ow sh xs
    | .io => nst .io sh xs)
  | err _ _ _ => emp
  | cel _ u => (match o with
    | .fz => emp
    | .ow => cel .ow u
    | .io => cel .io u)
  | a => a
def isErr : PV → Bool
  | err _ _ _ => true
  | _ => false
def isN : PV → Bool
  | nst _ _ _ => true
  | _ => false
def own (a : PV) : Bool := match a.fl with
  | .fz => false
  | _ => true
def isIo (a : PV) : Bool := match a.fl with
  | .io => true
  | _ => false
/-- bears a cell of its own -/
def cell (a : PV) : Bool := a.own && !a.isErr
theorem cell_own {a : PV} (h : a.cell = true) : a.own = true := by unfold cell at h; simp only [Bool.and_eq_true] at h; exact h.1
def isEmp : PV → Bool
  | emp => true
  | _ => false
end PV
/-- the classes of the program: where they stand, their attributes in order -/
structure Tb where
  K : PySem.W.Frag
  P : Program
  w : World
  ca : String → Addr
  flds : String → List Str
/-- how an error's own dict lies -/
def XAt (T : Tb) (H : Hp) (c : String) (d : Option Addr) (vs : List V) : Prop :=
  match d with
  | none => vs = []
  | some p => H p = some (.xd ((T.flds c).zip vs)) ∧ vs.length ≤ (T.flds c).length
theorem XAt.mono {T : Tb} {F H : Hp} {c : String} {d : Option Addr} {vs : List V} (e : Same F H) (h : XAt T F c d vs) : XAt T H c d vs := by
  cases d with
  | none => exact h
  | some p => exact ⟨e _ _ h.1, h.2⟩
section
variable (T : Tb) (F : Hp)
mutual
def Rep : PV → V → Prop
  | .emp, _ => True
  | .non, v => v = .non
  | .bl b, v => v = .bl b
  | .int i, v => v = .int i
  | .str x, v => v = .str x
  | .tup xs, v => ∃ p vs, v = .ref p ∧ SqT T.K F p vs ∧ Reps xs vs
  | .lst _ xs, v => ∃ p vs, v = .ref p ∧ F p = some (.lst vs) ∧ Reps xs vs
  | .dK _ ks xs, v => ∃ p vs, v = .ref p ∧ F p = some (.dK (ks.zip vs)) ∧ ks.length = vs.length ∧ Reps xs vs
  | .dN _ ks xs, v => ∃ p vs, v = .ref p ∧ (∃ ob, F p = some (My.nD T.P T.w p (ks.zip vs) ob)) ∧ ks.length = vs.length ∧ Reps xs vs
  | .obj _ c xs, v => ∃ p dx vs, v = .ref p ∧ F p = some (.ins (T.ca c) dx ((T.flds c).zip vs)) ∧ vs.length ≤ (T.flds c).length ∧ Reps xs vs
  | .scr ns, v => ∃ p, v = .ref p ∧ SqL T.K F p (ns.map V.int)
  | .ty n, v => v = .ty n
  | .cls c, v => v = .ref (T.ca c)
  | .err d c xs, v => ∃ p vs, v = .ref p ∧ XAt T F c d vs ∧ Reps xs vs
  | .nst _ _ _, _ => False
  | .frm F0, v => v = .bl true ∧ Same F0 F
  | .cel _ _, _ => False
def Reps : List PV → List V → Prop
  | [], vs => vs = []
  | x :: xs, vs => ∃ v vs', vs = v :: vs' ∧ (Rep x v ∧ x.own = false) ∧ Reps xs vs'
end
end
/-- what may lie in an own cell -/
def okU : HO → Prop
  | .xd _ => False
  | _ => True
def CellAt (T : Tb) (H : Hp) (p : Addr) (sh : Sh) (vs : List V) : Prop :=
  match sh with
  | .l => H p = some (.lst vs)
  | .o c => ∃ dx, H p = some (.ins (T.ca c) dx ((T.flds c).zip vs)) ∧ vs.length ≤ (T.flds c).length
/-- flat: the root in G, the items in F -/
def RepAt1 (T : Tb) (G F : Hp) : PV → V → Prop
  | .emp, _ => True
  | .non, v => v = .non
  | .bl b, v => v = .bl b
  | .int i, v => v = .int i
  | .str x, v => v = .str x
  | .tup xs, v => ∃ p vs, v = .ref p ∧ SqT T.K G p vs ∧ Reps T F xs vs
  | .lst _ xs, v => ∃ p vs, v = .ref p ∧ G p = some (.lst vs) ∧ Reps T F xs vs
  | .dK _ ks xs, v => ∃ p vs, v = .ref p ∧ G p = some (.dK (ks.zip vs)) ∧ ks.length = vs.length ∧ Reps T F xs vs
  | .dN _ ks xs, v => ∃ p vs, v = .ref p ∧ (∃ ob, G p = some (My.nD T.P T.w p (ks.zip vs) ob)) ∧ ks.length = vs.length ∧ Reps T F xs vs
  | .obj _ c xs, v => ∃ p dx vs, v = .ref p ∧ G p = some (.ins (T.ca c) dx ((T.flds c).zip vs)) ∧ vs.length ≤ (T.flds c).length ∧ Reps T F xs vs
  | .scr ns, v => ∃ p, v = .ref p ∧ SqL T.K G p (ns.map V.int)
  | .ty n, v => v = .ty n
  | .cls c, v => v = .ref (T.ca c)
  | .err d c xs, v => ∃ p vs, v = .ref p ∧ XAt T F c d vs ∧ Reps T F xs vs
  | .nst _ _ _, _ => False
  | .frm F0, v => v = .bl true ∧ Same F0 F
  | .cel o u, v => o ≠ .fz ∧ ∃ p, v = .ref p ∧ G p = some u ∧ okU u
section
variable (T : Tb) (H F : Hp)
mutual
/-- deep: own items in H, the others in F -/
def RepN : PV → V → Prop
  | .nst o sh xs, v => o ≠ .fz ∧ ∃ p vs, v = .ref p ∧ CellAt T H p sh vs ∧ RepsN xs vs
  | .emp, v => RepAt1 T F F .emp v
  | .non, v => RepAt1 T F F .non v
  | .bl b, v => RepAt1 T F F (.bl b) v
  | .int i, v => RepAt1 T F F (.int i) v
  | .str x, v => RepAt1 T F F (.str x) v
  | .tup xs, v => RepAt1 T F F (.tup xs) v
  | .lst o xs, v => RepAt1 T (if o = .fz then F else H) F (.lst o xs) v
  | .dK o ks xs, v => RepAt1 T (if o = .fz then F else H) F (.dK o ks xs) v
  | .dN o ks xs, v => RepAt1 T (if o = .fz then F else H) F (.dN o ks xs) v
  | .obj o c xs, v => RepAt1 T (if o = .fz then F else H) F (.obj o c xs) v
  | .scr ns, v => RepAt1 T F F (.scr ns) v
  | .ty n, v => RepAt1 T F F (.ty n) v
  | .cls c, v => RepAt1 T F F (.cls c) v
  | .err _ _ _, _ => False
  | .frm F0, v => RepAt1 T F F (.frm F0) v
  | .cel _ _, _ => False
def RepsN : List PV → List V → Prop
  | [], vs => vs = []
  | x :: xs, vs => ∃ v vs', vs = v :: vs' ∧ RepN x v ∧ RepsN xs vs'
end
end
/-- the root in G, the items in F -/
def RepAt (T : Tb) (G F : Hp) : PV → V → Prop
  | .emp, _ => True
  | .non, v => v = .non
  | .bl b, v => v = .bl b
  | .int i, v => v = .int i
  | .str x, v => v = .str x
  | .tup xs, v => ∃ p vs, v = .ref p ∧ SqT T.K G p vs ∧ Reps T F xs vs
  | .lst _ xs, v => ∃ p vs, v = .ref p ∧ G p = some (.lst vs) ∧ Reps T F xs vs
  | .dK _ ks xs, v => ∃ p vs, v = .ref p ∧ G p = some (.dK (ks.zip vs)) ∧ ks.length = vs.length ∧ Reps T F xs vs
  | .dN _ ks xs, v => ∃ p vs, v = .ref p ∧ (∃ ob, G p = some (My.nD T.P T.w p (ks.zip vs) ob)) ∧ ks.length = vs.length ∧ Reps T F xs vs
  | .obj _ c xs, v => ∃ p dx vs, v = .ref p ∧ G p = some (.ins (T.ca c) dx ((T.flds c).zip vs)) ∧ vs.length ≤ (T.flds c).length ∧ Reps T F xs vs
  | .scr ns, v => ∃ p, v = .ref p ∧ SqL T.K G p (ns.map V.int)
  | .ty n, v => v = .ty n
  | .cls c, v => v = .ref (T.ca c)
  | .err d c xs, v => ∃ p vs, v = .ref p ∧ XAt T F c d vs ∧ Reps T F xs vs
  | .nst o sh xs, v => o ≠ .fz ∧ ∃ p vs, v = .ref p ∧ CellAt T G p sh vs ∧ RepsN T G F xs vs
  | .frm F0, v => v = .bl true ∧ Same F0 F
  | .cel o u, v => o ≠ .fz ∧ ∃ p, v = .ref p ∧ G p = some u ∧ okU u
theorem repAt1 {T : Tb} {G F : Hp} {a : PV} {v : V} (h : a.isN = false) : RepAt T G F a v ↔ RepAt1 T G F a v := by
  cases a <;> first | exact Iff.rfl | cases h
theorem rep_at {T : Tb} {F : Hp} {a : PV} {v : V} (h : a.own = false) : Rep T F a v ↔ RepAt T F F a v := by
  cases a <;> try simp only [Rep, RepAt]
  all_goals first | (rename_i o _ _; cases o <;> simp [PV.own, PV.fl] at h ⊢; done) | (rename_i o _; cases o <;> simp [PV.own, PV.fl] at h ⊢; done) | cases h
/-- frozen in F, or owned in H -/
def Own (T : Tb) (H F : Hp) (a : PV) (v : V) : Prop := RepAt T (if a.own = true then H else F) F a v
theorem Own.fz {T : Tb} {H F : Hp} {a : PV} {v : V} (ho : a.own = false) : Own T H F a v ↔ Rep T F a v := by
  unfold Own; rw [ho, rep_at ho]; simp
theorem Own.ow {T : Tb} {H F : Hp} {a : PV} {v : V} (ho : a.own = true) : Own T H F a v ↔ RepAt T H F a v := by
  unfold Own; rw [ho]; simp
section
variable {T : Tb} {F F' G G' H H' : Hp}
mutual
theorem Rep.mono (e : Same F F') : ∀ {a : PV} {v : V}, Rep T F a v → Rep T F' a v
  | .emp, _, _ => by simp only [Rep]
  | .non, _, h => by simpa only [Rep] using h
  | .bl _, _, h => by simpa only [Rep] using h
  | .int _, _, h => by simpa only [Rep] using h
  | .str _, _, h => by simpa only [Rep] using h
  | .tup xs, _, h => by
    simp only [Rep] at h ⊢
    obtain ⟨p, vs, e1, h1, h2⟩ := h
    exact ⟨p, vs, e1, e.seqT h1, Reps.mono e h2⟩
  | .lst _ xs, _, h => by
    simp only [Rep] at h ⊢
    obtain ⟨p, vs, e1, h1, h2⟩ := h
    exact ⟨p, vs, e1, e _ _ h1, Reps.mono e h2⟩
  | .dK _ ks xs, _, h => by
    simp only [Rep] at h ⊢
    obtain ⟨p, vs, e1, h1, hl, h2⟩ := h
    exact ⟨p, vs, e1, e _ _ h1, hl, Reps.mono e h2⟩
  | .dN _ ks xs, _, h => by
    simp only [Rep] at h ⊢
    obtain ⟨p, vs, e1, ⟨ob, h1⟩, hl, h2⟩ := h
    exact ⟨p, vs, e1, ⟨ob, e _ _ h1⟩, hl, Reps.mono e h2⟩
  | .obj _ c xs, _, h => by
    simp only [Rep] at h ⊢
    obtain ⟨p, dx, vs, e1, h1, hl, h2⟩ := h
    exact ⟨p, dx, vs, e1, e _ _ h1, hl, Reps.mono e h2⟩
  | .scr ns, _, h => by
    simp only [Rep] at h ⊢
    obtain ⟨p, e1, h1⟩ := h
    exact ⟨p, e1, e.seq h1⟩
  | .ty _, _, h => by simpa only [Rep] using h
  | .cls _, _, h => by simpa only [Rep] using h
  | .err d c xs, _, h => by
    simp only [Rep] at h ⊢
    obtain ⟨p, vs, e1, h1, h2⟩ := h
    exact ⟨p, vs, e1, h1.mono e, Reps.mono e h2⟩
  | .nst _ _ _, _, h => by simp only [Rep] at h
  | .frm _, _, h => by simp only [Rep] at h ⊢; exact ⟨h.1, h.2.trans e⟩
  | .cel _ _, _, h => by simp only [Rep] at h
theorem Reps.mono (e : Same F F') : ∀ {xs : List PV} {vs : List V}, Reps T F xs vs → Reps T F' xs vs
  | [], _, h => by simpa only [Reps] using h
  | x :: xs, _, h => by
    simp only [Reps] at h ⊢
    obtain ⟨v, vs', e1, ⟨h1, ho⟩, h2⟩ := h
    exact ⟨v, vs', e1, ⟨Rep.mono e h1, ho⟩, Reps.mono e h2⟩
end
theorem CellAt.mono (e : Same G G') {p : Addr} {sh : Sh} {vs : List V} (h : CellAt T G p sh vs) : CellAt T G' p sh vs := by
  cases sh with
  | l => exact e _ _ h
  | o c => obtain ⟨dx, h1, h2⟩ := h; exact ⟨dx, e _ _ h1, h2⟩
theorem RepAt1.mono (eg : Same G G') (e : Same F F') {a : PV} {v : V} (h : RepAt1 T G F a v) : RepAt1 T G' F' a v := by
  cases a with
  | emp => trivial
  | non => exact h
  | bl _ => exact h
  | int _ => exact h
  | str _ => exact h
  | tup xs => obtain ⟨p, vs, e1, h1, h2⟩ := h; exact ⟨p, vs, e1, eg.seqT h1, h2.mono e⟩
  | lst _ xs => obtain ⟨p, vs, e1, h1, h2⟩ := h; exact ⟨p, vs, e1, eg _ _ h1, h2.mono e⟩
  | dK _ _ xs => obtain ⟨p, vs, e1, h1, hl, h2⟩ := h; exact ⟨p, vs, e1, eg _ _ h1, hl, h2.mono e⟩
  | dN _ _ xs => obtain ⟨p, vs, e1, ⟨ob, h1⟩, hl, h2⟩ := h; exact ⟨p, vs, e1, ⟨ob, eg _ _ h1⟩, hl, h2.mono e⟩
  | obj _ _ xs => obtain ⟨p, dx, vs, e1, h1, hl, h2⟩ := h; exact ⟨p, dx, vs, e1, eg _ _ h1, hl, h2.mono e⟩
  | scr _ => obtain ⟨p, e1, h1⟩ := h; exact ⟨p, e1, eg.seq h1⟩
  | ty _ => exact h
  | cls _ => exact h
  | err d c xs => obtain ⟨p, vs, e1, h1, h2⟩ := h; exact ⟨p, vs, e1, h1.mono e, h2.mono e⟩
  | nst _ _ _ => exact h
  | frm _ => exact ⟨h.1, h.2.trans e⟩
  | cel _ u => obtain ⟨ho, p, e1, h1, h2⟩ := h; exact ⟨ho, p, e1, eg _ _ h1, h2⟩
theorem same_if (eg : Same G G') (e : Same F F') (o : Fl) : Same (if o = .fz then F else G) (if o = .fz then F' else G') := by
  split
  · exact e
  · exact eg
mutual
theorem RepN.mono (eg : Same G G') (e : Same F F') : ∀ {a : PV} {v : V}, RepN T G F a v → RepN T G' F' a v
  | .nst o sh xs, v, h => by
    simp only [RepN] at h ⊢
    obtain ⟨ho, p, vs, e1, h1, h2⟩ := h
    exact ⟨ho, p, vs, e1, h1.mono eg, RepsN.mono eg e h2⟩
  | .emp, _, h => by simp only [RepN] at h ⊢; exact h.mono e e
  | .non, _, h => by simp only [RepN] at h ⊢; exact h.mono e e
  | .bl _, _, h => by simp only [RepN] at h ⊢; exact h.mono e e
  | .int _, _, h => by simp only [RepN] at h ⊢; exact h.mono e e
  | .str _, _, h => by simp only [RepN] at h ⊢; exact h.mono e e
  | .tup _, _, h => by simp only [RepN] at h ⊢; exact h.mono e e
  | .lst _ _, _, h => by simp only [RepN] at h ⊢; exact h.mono (same_if eg e _) e
  | .dK _ _ _, _, h => by simp only [RepN] at h ⊢; exact h.mono (same_if eg e _) e
  | .dN _ _ _, _, h => by simp only [RepN] at h ⊢; exact h.mono (same_if eg e _) e
  | .obj _ _ _, _, h => by simp only [RepN] at h ⊢; exact h.mono (same_if eg e _) e
  | .scr _, _, h => by simp only [RepN] at h ⊢; exact h.mono e e
  | .ty _, _, h => by simp only [RepN] at h ⊢; exact h.mono e e
  | .cls _, _, h => by simp only [RepN] at h ⊢; exact h.mono e e
  | .err _ _ _, _, h => by simp only [RepN] at h
  | .frm _, _, h => by simp only [RepN] at h ⊢; exact h.mono e e
  | .cel _ _, _, h => by simp only [RepN] at h
theorem RepsN.mono (eg : Same G G') (e : Same F F') : ∀ {xs : List PV} {vs : List V}, RepsN T G F xs vs → RepsN T G' F' xs vs
  | [], _, h => by simpa only [RepsN] using h
  | x :: xs, _, h => by
    simp only [RepsN] at h ⊢
    obtain ⟨v, vs', e1, h1, h2⟩ := h
    exact ⟨v, vs', e1, RepN.mono eg e h1, RepsN.mono eg e h2⟩
end
theorem RepAt.mono (eg : Same G G') (e : Same F F') {a : PV} {v : V} (h : RepAt T G F a v) : RepAt T G' F' a v := by
  by_cases hn : a.isN = false
  · exact (repAt1 hn).mpr (((repAt1 hn).mp h).mono eg e)
  · cases a <;> first | exact absurd rfl hn | skip
    obtain ⟨ho, p, vs, e1, h1, h2⟩ := h
    exact ⟨ho, p, vs, e1, h1.mono eg, h2.mono eg e⟩
theorem Own.mono (eh : Same H H') (e : Same F F') {a : PV} {v : V} (h : Own T H F a v) : Own T H' F' a v := by
  unfold Own at h ⊢
  refine h.mono ?_ e
  split
  · exact eh
  · exact e
theorem Reps.length : ∀ {xs : List PV} {vs : List V}, Reps T F xs vs → vs.length = xs.length
  | [], _, h => by simp only [Reps] at h; rw [h]; rfl
  | x :: xs, _, h => by
    simp only [Reps] at h
    obtain ⟨v, vs', e1, _, h2⟩ := h
    rw [e1, List.length_cons, List.length_cons, Reps.length h2]
theorem Reps.nil : Reps T F [] [] := by simp only [Reps]
theorem Reps.cons {x : PV} {v : V} {xs : List PV} {vs : List V} (h : Rep T F x v) (ho : x.own = false) (hs : Reps T F xs vs) : Reps T F (x :: xs) (v :: vs) := by
  simp only [Reps]; exact ⟨v, vs, rfl, ⟨h, ho⟩, hs⟩
theorem Reps.inv {x : PV} {xs : List PV} {vs : List V} (h : Reps T F (x :: xs) vs) : ∃ v vs', vs = v :: vs' ∧ Rep T F x v ∧ x.own = false ∧ Reps T F xs vs' := by
  simp only [Reps] at h
  obtain ⟨v, vs', e1, ⟨h1, ho⟩, h2⟩ := h
  exact ⟨v, vs', e1, h1, ho, h2⟩
theorem Reps.at : ∀ {xs : List PV} {vs : List V} {i : Nat} {x : PV}, Reps T F xs vs → xs[i]? = some x → ∃ v, vs[i]? = some v ∧ Rep T F x v ∧ x.own = false
  | [], _, _, _, _, e => by simp at e
  | y :: xs, _, i, x, h, e => by
    obtain ⟨v, vs', rfl, h1, ho, h2⟩ := h.inv
    cases i with
    | zero =>
      simp at e; subst e
      exact ⟨v, rfl, h1, ho⟩
    | succ i =>
      obtain ⟨w, q1, q2⟩ := Reps.at (i := i) (x := x) h2 (by simpa using e)
      exact ⟨w, by simpa using q1, q2⟩
theorem Reps.append : ∀ {xs ys : List PV} {vs ws : List V}, Reps T F xs vs → Reps T F ys ws → Reps T F (xs ++ ys) (vs ++ ws)
  | [], _, _, _, h, k => by simp only [Reps] at h; subst h; exact k
  | x :: xs, _, _, _, h, k => by
    obtain ⟨v, vs', rfl, h1, ho, h2⟩ := h.inv
    exact .cons h1 ho (Reps.append h2 k)
theorem Reps.of_at : ∀ {xs : List PV} {vs : List V}, vs.length = xs.length → (∀ (i : Nat) (x : PV) (v : V), xs[i]? = some x → vs[i]? = some v → Rep T F x v ∧ x.own = false) → Reps T F xs vs
  | [], [], _, _ => .nil
  | [], _ :: _, h, _ => by simp at h
  | _ :: _, [], h, _ => by simp at h
  | x :: xs, v :: vs, h, q => by
    obtain ⟨h1, h2⟩ := q 0 x v rfl rfl
    exact .cons h1 h2 (Reps.of_at (by simpa using h) fun i y w hy hw => q (i + 1) y w (by simpa using hy) (by simpa using hw))
theorem Reps.set {xs : List PV} {vs : List V} {x : PV} {v : V} (h : Reps T F xs vs) (i : Nat) (hx : Rep T F x v) (ho : x.own = false) : Reps T F (xs.set i x) (vs.set i v) := by
  have hl := h.length
  refine .of_at (by simp [hl]) fun j y w hy hw => ?_
  by_cases e : i = j
  · subst e
    rw [List.getElem?_set_self'] at hy hw
    cases q : xs[i]? with
    | none => rw [q] at hy; cases hy
    | some z =>
      rw [q] at hy; cases hy
      cases r : vs[i]? with
      | none => rw [r] at hw; cases hw
      | some z => rw [r] at hw; cases hw; exact ⟨hx, ho⟩
  · rw [List.getElem?_set_ne e] at hy hw
    obtain ⟨v', q1, q2⟩ := h.at hy
    rw [hw] at q1; cases q1
    exact q2
theorem Reps.take {xs : List PV} {vs : List V} (h : Reps T F xs vs) (n : Nat) : Reps T F (xs.take n) (vs.take n) := by
  refine .of_at (by simp [h.length]) fun j y w hy hw => ?_
  rw [List.getElem?_take] at hy hw
  split at hy
  · rename_i c
    rw [if_pos c] at hw
    obtain ⟨v', q1, q2⟩ := h.at hy
    rw [hw] at q1; cases q1
    exact q2
  · cases hy
theorem Reps.drop {xs : List PV} {vs : List V} (h : Reps T F xs vs) (n : Nat) : Reps T F (xs.drop n) (vs.drop n) := by
  refine .of_at (by simp [h.length]) fun j y w hy hw => ?_
  rw [List.getElem?_drop] at hy hw
  obtain ⟨v', q1, q2⟩ := h.at hy
  rw [hw] at q1; cases q1
  exact q2
theorem Reps.eraseIdx {xs : List PV} {vs : List V} (h : Reps T F xs vs) (n : Nat) : Reps T F (xs.eraseIdx n) (vs.eraseIdx n) := by
  rw [List.eraseIdx_eq_take_drop_succ, List.eraseIdx_eq_take_drop_succ]
  exact (h.take n).append (h.drop (n + 1))
theorem Reps.ints : ∀ (ns : List Int), Reps T F (ns.map PV.int) (ns.map V.int)
  | [] => .nil
  | n :: ns => .cons (by simp only [Rep]) rfl (Reps.ints ns)
end
end VL
set_option Elab.async false
set_option linter.all false
set_option maxRecDepth 100000
namespace VL
open PySem PySem.Spec PyProof.Rows L2
abbrev Its := List (PV × V)
def conts : Option HO → List V
  | some (.lst vs) => vs
  | some (.ins _ _ fs) => fs.map Prod.snd
  | _ => []
mutual
/-- the own cells of a value -/
def fpN (H : Hp) : PV → V → List Addr
  | .nst o _ xs, .ref p => if o = .fz then [] else p :: fpsN H xs (conts (H p))
  | .lst o _, .ref p => if o = .fz then [] else [p]
  | .dK o _ _, .ref p => if o = .fz then [] else [p]
  | .dN o _ _, .ref p => if o = .fz then [] else [p]
  | .obj o _ _, .ref p => if o = .fz then [] else [p]
  | .cel o _, .ref p => if o = .fz then [] else [p]
  | _, _ => []
def fpsN (H : Hp) : List PV → List V → List Addr
  | x :: xs, v :: vs => fpN H x v ++ fpsN H xs vs
  | _, _ => []
end
def fpOf (H : Hp) (l : Its) : List Addr := l.flatMap fun x => fpN H x.1 x.2
theorem fpOf_cons {H : Hp} (x : PV × V) (l : Its) : fpOf H (x :: l) = fpN H x.1 x.2 ++ fpOf H l := by unfold fpOf; rw [List.flatMap_cons]
theorem fpN_fz {H : Hp} {a : PV} {v : V} (h : a.own = false) : fpN H a v = [] := by
  cases v <;> try (cases a <;> rfl)
  cases a <;> first | rfl | (rename_i o _; cases o <;> simp [PV.own, PV.fl] at h; rfl) | (rename_i o _ _; cases o <;> simp [PV.own, PV.fl] at h; simp [fpN]) | (simp [PV.own, PV.fl] at h) | skip
theorem fpN_flat {H : Hp} {a : PV} {p : Addr} (h : a.cell = true) (hn : a.isN = false) : fpN H a (.ref p) = [p] := by
  cases a with
  | lst o xs => cases o <;> first | (cases h; done) | simp [fpN]
  | dK o ks xs => cases o <;> first | (cases h; done) | simp [fpN]
  | dN o ks xs => cases o <;> first | (cases h; done) | simp [fpN]
  | obj o c xs => cases o <;> first | (cases h; done) | simp [fpN]
  | nst _ _ _ => cases hn
  | cel o _ => cases o <;> first | (cases h; done) | simp [fpN]
  | _ => cases h
theorem flatMap_same {α β : Type} {f g : α → List β} : ∀ {l : List α}, (∀ x ∈ l, f x = g x) → l.flatMap f = l.flatMap g
  | [], _ => rfl
  | x :: l, h => by rw [List.flatMap_cons, List.flatMap_cons, h x List.mem_cons_self, flatMap_same fun y hy => h y (List.mem_cons_of_mem _ hy)]
theorem fpOf_fz {H : Hp} {a : PV} {v : V} {l : Its} (h : a.own = false) : fpOf H ((a, v) :: l) = fpOf H l := by rw [fpOf_cons, fpN_fz h]; rfl
theorem fpOf_ow {H : Hp} {a : PV} {p : Addr} {l : Its} (h : a.cell = true) (hn : a.isN = false := by rfl) : fpOf H ((a, .ref p) :: l) = p :: fpOf H l := by rw [fpOf_cons, fpN_flat h hn]; rfl
theorem fpOf_append {H : Hp} (l m : Its) : fpOf H (l ++ m) = fpOf H l ++ fpOf H m := by unfold fpOf; rw [List.flatMap_append]
theorem mem_fpOf {H : Hp} {p : Addr} {l : Its} : p ∈ fpOf H l ↔ ∃ x ∈ l, p ∈ fpN H x.1 x.2 := by
  unfold fpOf
  rw [List.mem_flatMap]
section
variable {T : Tb} {F F' H H' : Hp}
theorem cell_conts {p : Addr} {sh : Sh} {vs : List V} (h : CellAt T H p sh vs) : conts (H p) = vs := by
  cases sh with
  | l => rw [show H p = _ from h]; rfl
  | o c =>
    obtain ⟨dx, h1, h2⟩ := h
    rw [h1]
    show ((T.flds c).zip vs).map Prod.snd = vs
    rw [List.map_snd_zip h2]
theorem CellAt.frame {p : Addr} {sh : Sh} {vs : List V} (h : CellAt T H p sh vs) (e : H' p = H p) : CellAt T H' p sh vs := by
  cases sh with
  | l => exact e.trans h
  | o c => obtain ⟨dx, h1, h2⟩ := h; exact ⟨dx, e.trans h1, h2⟩
theorem CellAt.some {p : Addr} {sh : Sh} {vs : List V} (h : CellAt T H p sh vs) : ∃ u, H p = some u ∧ okU u := by
  cases sh with
  | l => exact ⟨_, h, trivial⟩
  | o c => obtain ⟨dx, h1, h2⟩ := h; exact ⟨_, h1, trivial⟩
/-- a flat value's root alone counts -/
theorem RepAt1.frame {a : PV} {v : V} (h : RepAt1 T H F a v) (hc : a.own = true) (e : ∀ p ∈ fpN H a v, H' p = H p) (s : Same F F') : RepAt1 T H' F' a v ∧ fpN H' a v = fpN H a v := by
  cases a with
  | lst o xs =>
    obtain ⟨p, vs, rfl, h1, h2⟩ := h
    have ho : o ≠ .fz := fun z => by subst z; cases hc
    exact ⟨⟨p, vs, rfl, (e p (by simp [fpN, ho])).trans h1, h2.mono s⟩, by simp [fpN]⟩
  | dK o ks xs =>
    obtain ⟨p, vs, rfl, h1, hl, h2⟩ := h
    have ho : o ≠ .fz := fun z => by subst z; cases hc
    exact ⟨⟨p, vs, rfl, (e p (by simp [fpN, ho])).trans h1, hl, h2.mono s⟩, by simp [fpN]⟩
  | dN o ks xs =>
    obtain ⟨p, vs, rfl, ⟨ob, h1⟩, hl, h2⟩ := h
    have ho : o ≠ .fz := fun z => by subst z; cases hc
    exact ⟨⟨p, vs, rfl, ⟨ob, (e p (by simp [fpN, ho])).trans h1⟩, hl, h2.mono s⟩, by simp [fpN]⟩
  | obj o c xs =>
    obtain ⟨p, dx, vs, rfl, h1, hl, h2⟩ := h
    have ho : o ≠ .fz := fun z => by subst z; cases hc
    exact ⟨⟨p, dx, vs, rfl, (e p (by simp [fpN, ho])).trans h1, hl, h2.mono s⟩, by simp [fpN]⟩
  | err d c xs =>
    obtain ⟨p, vs, rfl, h1, h2⟩ := h
    exact ⟨⟨p, vs, rfl, h1.mono s, h2.mono s⟩, rfl⟩
  | cel o u =>
    obtain ⟨ho, p, rfl, h1, h2⟩ := h
    exact ⟨⟨ho, p, rfl, (e p (by simp [fpN, ho])).trans h1, h2⟩, by simp [fpN]⟩
  | nst _ _ _ => exact h.elim
  | _ => cases hc
/-- its own cells are there -/
theorem RepAt1.there {a : PV} {v : V} {p : Addr} (h : RepAt1 T H F a v) (hm : p ∈ fpN H a v) : ∃ u, H p = some u ∧ okU u := by
  cases a with
  | lst o xs =>
    obtain ⟨q, vs, rfl, h1, h2⟩ := h
    by_cases ho : o = .fz
    · simp [fpN, ho] at hm
    · simp [fpN, ho] at hm; subst hm; exact ⟨_, h1, trivial⟩
  | dK o ks xs =>
    obtain ⟨q, vs, rfl, h1, hl, h2⟩ := h
    by_cases ho : o = .fz
    · simp [fpN, ho] at hm
    · simp [fpN, ho] at hm; subst hm; exact ⟨_, h1, trivial⟩
  | dN o ks xs =>
    obtain ⟨q, vs, rfl, ⟨ob, h1⟩, hl, h2⟩ := h
    by_cases ho : o = .fz
    · simp [fpN, ho] at hm
    · simp [fpN, ho] at hm; subst hm; exact ⟨_, h1, trivial⟩
  | obj o c xs =>
    obtain ⟨q, dx, vs, rfl, h1, hl, h2⟩ := h
    by_cases ho : o = .fz
    · simp [fpN, ho] at hm
    · simp [fpN, ho] at hm; subst hm; exact ⟨_, h1, trivial⟩
  | err d c xs => obtain ⟨q, vs, rfl, h1, h2⟩ := h; simp [fpN] at hm
  | cel o u => obtain ⟨ho, q, rfl, h1, h2⟩ := h; simp [fpN, ho] at hm; subst hm; exact ⟨_, h1, h2⟩
  | nst _ _ _ => exact h.elim
  | _ => rw [fpN_fz (by rfl)] at hm; cases hm
theorem repN1 {a : PV} {v : V} (hn : a.isN = false) (h : RepN T H F a v) : RepAt1 T (if a.own = true then H else F) F a v := by
  cases a <;> simp only [RepN] at h
  case nst => cases hn
  case lst o xs => cases o <;> simpa [PV.own, PV.fl] using h
  case dK o _ xs => cases o <;> simpa [PV.own, PV.fl] using h
  case dN o _ xs => cases o <;> simpa [PV.own, PV.fl] using h
  case obj o _ xs => cases o <;> simpa [PV.own, PV.fl] using h
  all_goals simpa [PV.own, PV.fl] using h
theorem repN2 {a : PV} {v : V} (hn : a.isN = false) (hc : a.own = a.cell) (h : RepAt1 T (if a.own = true then H else F) F a v) (nc : ∀ o u, a ≠ .cel o u) : RepN T H F a v := by
  cases a <;> simp only [RepN]
  case nst => cases hn
  case lst o xs => cases o <;> simpa [PV.own, PV.fl] using h
  case dK o _ xs => cases o <;> simpa [PV.own, PV.fl] using h
  case dN o _ xs => cases o <;> simpa [PV.own, PV.fl] using h
  case obj o _ xs => cases o <;> simpa [PV.own, PV.fl] using h
  case err => simp [PV.cell, PV.own, PV.fl, PV.isErr] at hc
  case cel o u => exact absurd rfl (nc o u)
  all_goals simpa [PV.own, PV.fl] using h
theorem flat_frame {a : PV} {v : V} (h : RepAt1 T (if a.own = true then H else F) F a v) (e : ∀ p ∈ fpN H a v, H' p = H p) (s : Same F F') : RepAt1 T (if a.own = true then H' else F') F' a v ∧ fpN H' a v = fpN H a v := by
  cases ho : a.own with
  | true =>
    simp only [ho, if_true] at h ⊢
    exact h.frame ho e s
  | false =>
    simp only [ho, Bool.false_eq_true, if_false] at h ⊢
    exact ⟨h.mono s s, by rw [fpN_fz ho, fpN_fz ho]⟩
theorem flat_there {a : PV} {v : V} {p : Addr} (h : RepAt1 T (if a.own = true then H else F) F a v) (hm : p ∈ fpN H a v) : ∃ u, H p = some u ∧ okU u := by
  cases ho : a.own with
  | true => simp only [ho, if_true] at h; exact h.there hm
  | false => rw [fpN_fz ho] at hm; cases hm
theorem repN_cn {a : PV} {v : V} (h : RepN T H F a v) : a.own = a.cell ∧ ∀ o u, a ≠ .cel o u := by
  cases a <;> simp only [RepN] at h <;> first | exact ⟨by simp [PV.cell, PV.isErr], fun o u => by simp⟩ | exact h.elim
mutual
theorem RepN.frame (s : Same F F') : ∀ {a : PV} {v : V}, RepN T H F a v → (∀ p ∈ fpN H a v, H' p = H p) → RepN T H' F' a v ∧ fpN H' a v = fpN H a v
  | .nst o sh xs, v, h, e => by
    simp only [RepN] at h
    obtain ⟨ho, p, vs, rfl, h1, h2⟩ := h
    simp only [fpN, ho, if_false] at e ⊢
    have ep := e p List.mem_cons_self
    have ec := cell_conts h1
    rw [ec] at e ⊢
    obtain ⟨q1, q2⟩ := RepsN.frame s h2 fun q hq => e q (List.mem_cons_of_mem _ hq)
    refine ⟨?_, by rw [ep, ec, q2]⟩
    simp only [RepN]
    exact ⟨ho, p, vs, rfl, h1.frame ep, q1⟩
  | .emp, v, h, e => by
    obtain ⟨q1, q2⟩ := flat_frame (repN1 rfl h) e s
    exact ⟨repN2 rfl rfl q1 (fun o u => by simp), q2⟩
  | .non, v, h, e => by
    obtain ⟨q1, q2⟩ := flat_frame (repN1 rfl h) e s
    exact ⟨repN2 rfl rfl q1 (fun o u => by simp), q2⟩
  | .bl _, v, h, e => by
    obtain ⟨q1, q2⟩ := flat_frame (repN1 rfl h) e s
    exact ⟨repN2 rfl rfl q1 (fun o u => by simp), q2⟩
  | .int _, v, h, e => by
    obtain ⟨q1, q2⟩ := flat_frame (repN1 rfl h) e s
    exact ⟨repN2 rfl rfl q1 (fun o u => by simp), q2⟩
  | .str _, v, h, e => by
    obtain ⟨q1, q2⟩ := flat_frame (repN1 rfl h) e s
    exact ⟨repN2 rfl rfl q1 (fun o u => by simp), q2⟩
  | .tup _, v, h, e => by
    obtain ⟨q1, q2⟩ := flat_frame (repN1 rfl h) e s
    exact ⟨repN2 rfl rfl q1 (fun o u => by simp), q2⟩
  | .lst o _, v, h, e => by
    obtain ⟨q1, q2⟩ := flat_frame (repN1 rfl h) e s
    exact ⟨repN2 rfl (repN_cn h).1 q1 (fun o u => by simp), q2⟩
  | .dK o _ _, v, h, e => by
    obtain ⟨q1, q2⟩ := flat_frame (repN1 rfl h) e s
    exact ⟨repN2 rfl (repN_cn h).1 q1 (fun o u => by simp), q2⟩
  | .dN o _ _, v, h, e => by
    obtain ⟨q1, q2⟩ := flat_frame (repN1 rfl h) e s
    exact ⟨repN2 rfl (repN_cn h).1 q1 (fun o u => by simp), q2⟩
  | .obj o _ _, v, h, e => by
    obtain ⟨q1, q2⟩ := flat_frame (repN1 rfl h) e s
    exact ⟨repN2 rfl (repN_cn h).1 q1 (fun o u => by simp), q2⟩
  | .scr _, v, h, e => by
    obtain ⟨q1, q2⟩ := flat_frame (repN1 rfl h) e s
    exact ⟨repN2 rfl rfl q1 (fun o u => by simp), q2⟩
  | .ty _, v, h, e => by
    obtain ⟨q1, q2⟩ := flat_frame (repN1 rfl h) e s
    exact ⟨repN2 rfl rfl q1 (fun o u => by simp), q2⟩
  | .cls _, v, h, e => by
    obtain ⟨q1, q2⟩ := flat_frame (repN1 rfl h) e s
    exact ⟨repN2 rfl rfl q1 (fun o u => by simp), q2⟩
  | .err _ _ _, v, h, e => by simp only [RepN] at h
  | .frm _, v, h, e => by
    obtain ⟨q1, q2⟩ := flat_frame (repN1 rfl h) e s
    exact ⟨repN2 rfl rfl q1 (fun o u => by simp), q2⟩
  | .cel _ _, v, h, e => by simp only [RepN] at h
theorem RepsN.frame (s : Same F F') : ∀ {xs : List PV} {vs : List V}, RepsN T H F xs vs → (∀ p ∈ fpsN H xs vs, H' p = H p) → RepsN T H' F' xs vs ∧ fpsN H' xs vs = fpsN H xs vs
  | [], vs, h, e => by
    simp only [RepsN] at h
    subst h
    exact ⟨by simp only [RepsN], rfl⟩
  | x :: xs, _, h, e => by
    simp only [RepsN] at h
    obtain ⟨v, vs', rfl, h1, h2⟩ := h
    simp only [fpsN] at e ⊢
    obtain ⟨q1, q2⟩ := RepN.frame s h1 fun p hp => e p (List.mem_append_left _ hp)
    obtain ⟨q3, q4⟩ := RepsN.frame s h2 fun p hp => e p (List.mem_append_right _ hp)
    exact ⟨by simp only [RepsN]; exact ⟨v, vs', rfl, q1, q3⟩, by rw [q2, q4]⟩
end
mutual
theorem RepN.there : ∀ {a : PV} {v : V} {p : Addr}, RepN T H F a v → p ∈ fpN H a v → ∃ u, H p = some u ∧ okU u
  | .nst o sh xs, v, p, h, e => by
    simp only [RepN] at h
    obtain ⟨ho, q, vs, rfl, h1, h2⟩ := h
    simp only [fpN, ho, if_false] at e
    rcases List.mem_cons.mp e with rfl | e
    · exact h1.some
    · rw [cell_conts h1] at e; exact RepsN.there h2 e
  | .emp, v, p, h, e => flat_there (repN1 rfl h) e
  | .non, v, p, h, e => flat_there (repN1 rfl h) e
  | .bl _, v, p, h, e => flat_there (repN1 rfl h) e
  | .int _, v, p, h, e => flat_there (repN1 rfl h) e
  | .str _, v, p, h, e => flat_there (repN1 rfl h) e
  | .tup _, v, p, h, e => flat_there (repN1 rfl h) e
  | .lst _ _, v, p, h, e => flat_there (repN1 rfl h) e
  | .dK _ _ _, v, p, h, e => flat_there (repN1 rfl h) e
  | .dN _ _ _, v, p, h, e => flat_there (repN1 rfl h) e
  | .obj _ _ _, v, p, h, e => flat_there (repN1 rfl h) e
  | .scr _, v, p, h, e => flat_there (repN1 rfl h) e
  | .ty _, v, p, h, e => flat_there (repN1 rfl h) e
  | .cls _, v, p, h, e => flat_there (repN1 rfl h) e
  | .err _ _ _, v, p, h, e => by simp only [RepN] at h
  | .frm _, v, p, h, e => flat_there (repN1 rfl h) e
  | .cel _ _, v, p, h, e => by simp only [RepN] at h
theorem RepsN.there : ∀ {xs : List PV} {vs : List V} {p : Addr}, RepsN T H F xs vs → p ∈ fpsN H xs vs → ∃ u, H p = some u ∧ okU u
  | [], vs, p, h, e => by
    simp only [RepsN] at h
    subst h
    simp [fpsN] at e
  | x :: xs, _, p, h, e => by
    simp only [RepsN] at h
    obtain ⟨v, vs', rfl, h1, h2⟩ := h
    simp only [fpsN] at e
    rcases List.mem_append.mp e with e | e
    · exact RepN.there h1 e
    · exact RepsN.there h2 e
end
/-- what is owned stands on its own cells -/
theorem Own.frame {a : PV} {v : V} (h : Own T H F a v) (e : ∀ p ∈ fpN H a v, H' p = H p) (s : Same F F') : Own T H' F' a v ∧ fpN H' a v = fpN H a v := by
  unfold Own at h ⊢
  by_cases hn : a.isN = false
  · rw [repAt1 hn] at h ⊢
    exact flat_frame h e s
  · cases a <;> first | exact absurd rfl hn | skip
    rename_i o sh xs
    have ho : o ≠ .fz := h.1
    have oo : (PV.nst o sh xs).own = true := by cases o <;> first | exact absurd rfl ho | rfl
    simp only [oo, if_true] at h ⊢
    have h' : RepN T H F (.nst o sh xs) v := by simp only [RepN]; exact h
    obtain ⟨q1, q2⟩ := RepN.frame s h' e
    simp only [RepN] at q1
    exact ⟨q1, q2⟩
theorem Own.there {a : PV} {v : V} {p : Addr} (h : Own T H F a v) (hm : p ∈ fpN H a v) : ∃ u, H p = some u ∧ okU u := by
  unfold Own at h
  by_cases hn : a.isN = false
  · rw [repAt1 hn] at h
    exact flat_there h hm
  · cases a <;> first | exact absurd rfl hn | skip
    rename_i o sh xs
    have ho : o ≠ .fz := h.1
    have oo : (PV.nst o sh xs).own = true := by cases o <;> first | exact absurd rfl ho | rfl
    simp only [oo, if_true] at h
    exact RepN.there (a := .nst o sh xs) (by simp only [RepN]; exact h) hm
theorem own_mono {l : Its} (s : Same F F') (e : Same H H') (ow : ∀ x ∈ l, Own T H F x.1 x.2) : (∀ x ∈ l, Own T H' F' x.1 x.2) ∧ fpOf H' l = fpOf H l := by
  have key : ∀ x ∈ l, Own T H' F' x.1 x.2 ∧ fpN H' x.1 x.2 = fpN H x.1 x.2 := fun x hx => (ow x hx).frame (fun p hp => by
    obtain ⟨u, hu, _⟩ := (ow x hx).there hp
    rw [hu]; exact e _ _ hu) s
  refine ⟨fun x hx => (key x hx).1, ?_⟩
  unfold fpOf
  exact flatMap_same fun x hx => (key x hx).2
theorem own_upd {l : Its} {p : Addr} {o : HO} (s : Same F F') (ow : ∀ x ∈ l, Own T H F x.1 x.2) (hp : p ∉ fpOf H l) : (∀ x ∈ l, Own T (upd H p o) F' x.1 x.2) ∧ fpOf (upd H p o) l = fpOf H l := by
  have key : ∀ x ∈ l, Own T (upd H p o) F' x.1 x.2 ∧ fpN (upd H p o) x.1 x.2 = fpN H x.1 x.2 := fun x hx => (ow x hx).frame (fun q hq => by
    rw [upd_ne]
    rintro rfl
    exact hp (mem_fpOf.mpr ⟨x, hx, hq⟩)) s
  refine ⟨fun x hx => (key x hx).1, ?_⟩
  unfold fpOf
  exact flatMap_same fun x hx => (key x hx).2
end
def Hold (T : Tb) (H : Hp) (l : Its) : Prop := ∃ F : Hp, Same F H ∧ (∀ x ∈ l, Own T H F x.1 x.2) ∧ (fpOf H l).Nodup ∧ ∀ p ∈ fpOf H l, F p = none
section
variable {T : Tb} {H H' : Hp} {l l' m τ : Its} {a b : PV} {v w : V} {p : Addr}
theorem fpOf_perm (h : l.Perm l') : (fpOf H l).Perm (fpOf H l') := h.flatMap_right _
theorem fpOf_sub {l' l : Its} (e : l'.Sublist l) : (fpOf H l').Sublist (fpOf H l) := by
  induction e with
  | slnil => exact List.Sublist.refl _
  | cons a _ ih => rw [fpOf_cons]; exact ih.trans (List.sublist_append_right ..)
  | cons_cons a _ ih => rw [fpOf_cons, fpOf_cons]; exact List.Sublist.append_left ih _
theorem Hold.perm (e : l.Perm l') (h : Hold T H l) : Hold T H l' := by
  obtain ⟨F, s, o, n, d⟩ := h
  exact ⟨F, s, fun x hx => o x (e.mem_iff.mpr hx), (fpOf_perm e).nodup_iff.mp n, fun q hq => d q ((fpOf_perm e).mem_iff.mpr hq)⟩
theorem Hold.sub (e : l'.Sublist l) (h : Hold T H l) : Hold T H l' := by
  obtain ⟨F, s, o, n, d⟩ := h
  have e2 : (fpOf H l').Sublist (fpOf H l) := fpOf_sub e
  exact ⟨F, s, fun x hx => o x (e.subset hx), n.sublist e2, fun q hq => d q (e2.subset hq)⟩
theorem Hold.tail {x : PV × V} (h : Hold T H (x :: l)) : Hold T H l := h.sub (List.sublist_cons_self ..)
theorem Hold.right (h : Hold T H (l ++ m)) : Hold T H m := h.sub (List.sublist_append_right ..)
/-- a frozen value that every frozen heap under these items bears -/
theorem Hold.add (h : Hold T H l) (ho : a.own = false) (q : ∀ F, Same F H → (∀ x ∈ l, Own T H F x.1 x.2) → Rep T F a v) : Hold T H ((a, v) :: l) := by
  obtain ⟨F, s, o, n, d⟩ := h
  refine ⟨F, s, fun x hx => ?_, by rw [fpOf_fz ho]; exact n, fun q hq => d q (by rw [fpOf_fz ho] at hq; exact hq)⟩
  rcases List.mem_cons.mp hx with rfl | hx
  · exact (Own.fz ho).mpr (q F s o)
  · exact o x hx
theorem Hold.dup (h : Hold T H l) (hm : (a, v) ∈ l) (ho : a.own = false) : Hold T H ((a, v) :: l) := h.add ho fun F s o => (Own.fz ho).mp (o _ hm)
theorem Hold.non (h : Hold T H l) : Hold T H ((.non, .non) :: l) := h.add rfl fun F s o => by simp only [Rep]
theorem Hold.bl (h : Hold T H l) {b : Bool} : Hold T H ((.bl b, .bl b) :: l) := h.add rfl fun F s o => by simp only [Rep]
theorem Hold.int (h : Hold T H l) {i : Int} : Hold T H ((.int i, .int i) :: l) := h.add rfl fun F s o => by simp only [Rep]
theorem Hold.str (h : Hold T H l) {x : Str} : Hold T H ((.str x, .str x) :: l) := h.add rfl fun F s o => by simp only [Rep]
theorem Hold.emp (h : Hold T H l) {v : V} : Hold T H ((.emp, v) :: l) := h.add rfl fun F s o => by simp only [Rep]
/-- the heap grows -/
theorem Hold.same (h : Hold T H l) (e : Same H H') : Hold T H' l := by
  obtain ⟨F, s, o, n, d⟩ := h
  obtain ⟨q1, q2⟩ := own_mono (Same.refl F) e o
  exact ⟨F, s.trans e, q1, by rw [q2]; exact n, by rw [q2]; exact d⟩
/-- what an item's place holds -/
theorem Hold.own (h : Hold T H l) (hm : (a, v) ∈ l) : ∃ F, Same F H ∧ Own T H F a v := by
  obtain ⟨F, s, o, n, d⟩ := h
  exact ⟨F, s, o _ hm⟩
theorem Hold.get (h : Hold T H l) (hm : (a, v) ∈ l) : ∃ F, Same F H ∧ RepAt T H F a v ∧ (∀ x ∈ l, Own T H F x.1 x.2) := by
  obtain ⟨F, s, o, n, d⟩ := h
  refine ⟨F, s, ?_, o⟩
  have := o _ hm
  unfold Own at this
  refine this.mono ?_ (Same.refl F)
  split
  · exact Same.refl H
  · exact s
theorem Hold.g_non (h : Hold T H l) (hm : (PV.non, v) ∈ l) : v = .non := by obtain ⟨F, s, r, _⟩ := h.get hm; exact r
theorem Hold.g_bl {b : Bool} (h : Hold T H l) (hm : (PV.bl b, v) ∈ l) : v = .bl b := by obtain ⟨F, s, r, _⟩ := h.get hm; exact r
theorem Hold.g_int {i : Int} (h : Hold T H l) (hm : (PV.int i, v) ∈ l) : v = .int i := by obtain ⟨F, s, r, _⟩ := h.get hm; exact r
theorem Hold.g_str {x : Str} (h : Hold T H l) (hm : (PV.str x, v) ∈ l) : v = .str x := by obtain ⟨F, s, r, _⟩ := h.get hm; exact r
theorem Hold.g_lst {o : Fl} {xs : List PV} (h : Hold T H l) (hm : (PV.lst o xs, v) ∈ l) : ∃ p vs, v = .ref p ∧ H p = some (.lst vs) ∧ vs.length = xs.length ∧ ∃ F, Same F H ∧ Reps T F xs vs := by
  obtain ⟨F, s, ⟨p, vs, e, h1, h2⟩, _⟩ := h.get hm
  exact ⟨p, vs, e, h1, h2.length, F, s, h2⟩
theorem Hold.g_tup {xs : List PV} (h : Hold T H l) (hm : (PV.tup xs, v) ∈ l) : ∃ p vs, v = .ref p ∧ SqT T.K H p vs ∧ vs.length = xs.length ∧ ∃ F, Same F H ∧ Reps T F xs vs := by
  obtain ⟨F, s, ⟨p, vs, e, h1, h2⟩, _⟩ := h.get hm
  exact ⟨p, vs, e, h1, h2.length, F, s, h2⟩
theorem fp_new {F : Hp} (ow : ∀ x ∈ l, Own T H F x.1 x.2) (hp : H p = none) : p ∉ fpOf H l := fun hm => by
  obtain ⟨x, hx, hc⟩ := mem_fpOf.mp hm
  obtain ⟨u, hu, _⟩ := (ow x hx).there hc
  rw [hp] at hu; cases hu
theorem f_new {F : Hp} (s : Same F H) (hp : H p = none) : F p = none := by
  cases k : F p with
  | none => rfl
  | some u => have := s _ _ k; rw [hp] at this; cases this
/-- a new object that bears frozen items -/
theorem Hold.new_own (h : Hold T H l) (hp : H p = none) {o : HO} (hc : a.cell = true) (q : ∀ F, Same F H → (∀ x ∈ l, Own T H F x.1 x.2) → RepAt T (upd H p o) F a (.ref p)) (hn : a.isN = false := by rfl) : Hold T (upd H p o) ((a, .ref p) :: l) := by
  have ho := PV.cell_own hc
  obtain ⟨F, s, ow, n, d⟩ := h
  have e : Same H (upd H p o) := fun b u k => by rw [upd_ne (ne_of_none k hp)]; exact k
  have np := fp_new ow hp
  obtain ⟨q1, q2⟩ := own_upd (o := o) (Same.refl F) ow np
  refine ⟨F, s.trans e, fun x hx => ?_, ?_, fun q' hq => ?_⟩
  · rcases List.mem_cons.mp hx with rfl | hx
    · exact (Own.ow ho).mpr (q F s ow)
    · exact q1 x hx
  · rw [fpOf_ow hc hn, q2]; exact List.nodup_cons.mpr ⟨np, n⟩
  · rw [fpOf_ow hc hn, q2] at hq
    rcases List.mem_cons.mp hq with rfl | hq
    · exact f_new s hp
    · exact d q' hq
/-- F and these cells of H -/
def addF (F H : Hp) (ps : List Addr) : Hp := fun b => if b ∈ ps then H b else F b
theorem addF_same {F : Hp} {ps : List Addr} (s : Same F H) : Same F (addF F H ps) := fun b u k => by
  unfold addF
  split
  · exact s _ _ k
  · exact k
theorem addF_in {F : Hp} {ps : List Addr} (s : Same F H) : Same (addF F H ps) H := fun b u k => by
  unfold addF at k
  split at k
  · exact k
  · exact s _ _ k
theorem addF_at {F : Hp} {ps : List Addr} (h : p ∈ ps) : addF F H ps p = H p := if_pos h
theorem addF_out {F : Hp} {ps : List Addr} (h : p ∉ ps) : addF F H ps p = F p := if_neg h
theorem frz_own : ∀ a : PV, a.frz.own = false
  | .nst _ .l _ => rfl
  | .nst _ (.o _) _ => rfl
  | .lst _ _ => rfl
  | .dK _ _ _ => rfl
  | .dN _ _ _ => rfl
  | .obj _ _ _ => rfl
  | .err _ _ _ => rfl
  | .cel _ _ => rfl
  | .emp => rfl
  | .non => rfl
  | .bl _ => rfl
  | .int _ => rfl
  | .str _ => rfl
  | .tup _ => rfl
  | .scr _ => rfl
  | .ty _ => rfl
  | .cls _ => rfl
  | .frm _ => rfl
theorem frz_flat {F : Hp} {a : PV} {v : V} {ps : List Addr} (s : Same F H) (hn : a.isN = false) (h : RepAt1 T (if a.own = true then H else F) F a v) (hs : ∀ p ∈ fpN H a v, p ∈ ps) : Rep T (addF F H ps) a.frz v := by
  have sf := addF_same (ps := ps) s
  cases ho : a.own with
  | false =>
    simp only [ho, Bool.false_eq_true, if_false] at h
    have e : a.frz = a := by
      cases a with
      | lst o _ => cases o <;> first | rfl | cases ho
      | dK o _ _ => cases o <;> first | rfl | cases ho
      | dN o _ _ => cases o <;> first | rfl | cases ho
      | obj o _ _ => cases o <;> first | rfl | cases ho
      | nst _ _ _ => cases hn
      | err _ _ _ => cases ho
      | cel o _ =>
        obtain ⟨q, _⟩ := h
        cases o <;> first | exact absurd rfl q | cases ho
      | _ => rfl
    rw [e]
    exact ((rep_at ho).mpr ((repAt1 hn).mpr h)).mono sf
  | true =>
    simp only [ho, if_true] at h
    cases a with
    | lst o xs =>
      obtain ⟨p, vs, rfl, h1, h2⟩ := h
      have hoo : o ≠ .fz := fun z => by subst z; cases ho
      simp only [PV.frz, Rep]
      exact ⟨p, vs, rfl, (addF_at (hs p (by simp [fpN, hoo]))).trans h1, h2.mono sf⟩
    | dK o ks xs =>
      obtain ⟨p, vs, rfl, h1, hl, h2⟩ := h
      have hoo : o ≠ .fz := fun z => by subst z; cases ho
      simp only [PV.frz, Rep]
      exact ⟨p, vs, rfl, (addF_at (hs p (by simp [fpN, hoo]))).trans h1, hl, h2.mono sf⟩
    | dN o ks xs =>
      obtain ⟨p, vs, rfl, ⟨ob, h1⟩, hl, h2⟩ := h
      have hoo : o ≠ .fz := fun z => by subst z; cases ho
      simp only [PV.frz, Rep]
      exact ⟨p, vs, rfl, ⟨ob, (addF_at (hs p (by simp [fpN, hoo]))).trans h1⟩, hl, h2.mono sf⟩
    | obj o c xs =>
      obtain ⟨p, dx, vs, rfl, h1, hl, h2⟩ := h
      have hoo : o ≠ .fz := fun z => by subst z; cases ho
      simp only [PV.frz, Rep]
      exact ⟨p, dx, vs, rfl, (addF_at (hs p (by simp [fpN, hoo]))).trans h1, hl, h2.mono sf⟩
    | err _ _ _ => simp only [PV.frz, Rep]
    | cel _ _ => simp only [PV.frz, Rep]
    | nst _ _ _ => cases hn
    | _ => cases ho
mutual
theorem frz_deep {F : Hp} {ps : List Addr} (s : Same F H) : ∀ {a : PV} {v : V}, RepN T H F a v → (∀ p ∈ fpN H a v, p ∈ ps) → Rep T (addF F H ps) a.frz v
  | .nst o .l xs, v, h, e => by
    simp only [RepN] at h
    obtain ⟨ho, p, vs, rfl, h1, h2⟩ := h
    simp only [fpN, ho, if_false, cell_conts h1] at e
    have r := frzs_deep s h2 fun q hq => e q (List.mem_cons_of_mem _ hq)
    simp only [PV.frz, Rep]
    exact ⟨p, vs, rfl, (addF_at (e p List.mem_cons_self)).trans h1, r⟩
  | .nst o (.o c) xs, v, h, e => by
    simp only [RepN] at h
    obtain ⟨ho, p, vs, rfl, h1, h2⟩ := h
    simp only [fpN, ho, if_false, cell_conts h1] at e
    have r := frzs_deep s h2 fun q hq => e q (List.mem_cons_of_mem _ hq)
    obtain ⟨dx, g1, g2⟩ := h1
    simp only [PV.frz, Rep]
    exact ⟨p, dx, vs, rfl, (addF_at (e p List.mem_cons_self)).trans g1, g2, r⟩
  | .emp, v, h, e => frz_flat s rfl (repN1 rfl h) e
  | .non, v, h, e => frz_flat s rfl (repN1 rfl h) e
  | .bl _, v, h, e => frz_flat s rfl (repN1 rfl h) e
  | .int _, v, h, e => frz_flat s rfl (repN1 rfl h) e
  | .str _, v, h, e => frz_flat s rfl (repN1 rfl h) e
  | .tup _, v, h, e => frz_flat s rfl (repN1 rfl h) e
  | .lst _ _, v, h, e => frz_flat s rfl (repN1 rfl h) e
  | .dK _ _ _, v, h, e => frz_flat s rfl (repN1 rfl h) e
  | .dN _ _ _, v, h, e => frz_flat s rfl (repN1 rfl h) e
  | .obj _ _ _, v, h, e => frz_flat s rfl (repN1 rfl h) e
  | .scr _, v, h, e => frz_flat s rfl (repN1 rfl h) e
  | .ty _, v, h, e => frz_flat s rfl (repN1 rfl h) e
  | .cls _, v, h, e => frz_flat s rfl (repN1 rfl h) e
  | .err _ _ _, v, h, e => by simp only [RepN] at h
  | .frm _, v, h, e => frz_flat s rfl (repN1 rfl h) e
  | .cel _ _, v, h, e => by simp only [RepN] at h
theorem frzs_deep {F : Hp} {ps : List Addr} (s : Same F H) : ∀ {xs : List PV} {vs : List V}, RepsN T H F xs vs → (∀ p ∈ fpsN H xs vs, p ∈ ps) → Reps T (addF F H ps) (PV.frzs xs) vs
  | [], vs, h, e => by
    simp only [RepsN] at h
    subst h
    exact .nil
  | x :: xs, _, h, e => by
    simp only [RepsN] at h
    obtain ⟨v, vs', rfl, h1, h2⟩ := h
    simp only [fpsN] at e
    exact .cons (frz_deep s h1 fun p hp => e p (List.mem_append_left _ hp)) (frz_own x) (frzs_deep s h2 fun p hp => e p (List.mem_append_right _ hp))
end
theorem Own.frz {F : Hp} {ps : List Addr} (s : Same F H) {a : PV} {v : V} (h : Own T H F a v) (e : ∀ p ∈ fpN H a v, p ∈ ps) : Rep T (addF F H ps) a.frz v := by
  unfold Own at h
  by_cases hn : a.isN = false
  · rw [repAt1 hn] at h
    exact frz_flat s hn h e
  · cases a <;> first | exact absurd rfl hn | skip
    rename_i o sh xs
    have ho : o ≠ .fz := h.1
    have oo : (PV.nst o sh xs).own = true := by cases o <;> first | exact absurd rfl ho | rfl
    simp only [oo, if_true] at h
    exact frz_deep s (a := .nst o sh xs) (by simp only [RepN]; exact h) e
theorem setFl_fz (a : PV) : a.setFl .fz = a.frz := by
  cases a with
  | nst o sh xs => cases sh <;> rfl
  | _ => rfl
/-- an own object is frozen -/
theorem Hold.freeze (h : Hold T H ((a, v) :: l)) : Hold T H ((a.setFl .fz, v) :: l) := by
  rw [setFl_fz]
  obtain ⟨F, s, ow, n, d⟩ := h
  have ra := ow _ List.mem_cons_self
  rw [fpOf_cons] at n d
  refine ⟨addF F H (fpN H a v), addF_in s, fun x hx => ?_, by rw [fpOf_fz (frz_own a)]; exact (List.nodup_append.mp n).2.1, fun q hq => ?_⟩
  · rcases List.mem_cons.mp hx with rfl | hx
    · exact (Own.fz (frz_own a)).mpr (ra.frz s fun p hp => hp)
    · exact (ow x (List.mem_cons_of_mem _ hx)).mono (Same.refl H) (addF_same s)
  · rw [fpOf_fz (frz_own a)] at hq
    rw [addF_out fun z => (List.nodup_append.mp n).2.2 q z q hq rfl]
    exact d q (List.mem_append_right _ hq)
theorem fpN_setFl {o : Fl} (ho : a.own = true) (he : a.isErr = false) (hn : o ≠ .fz) : fpN H (a.setFl o) v = fpN H a v ∧ (a.setFl o).own = true := by
  cases a with
  | lst o' xs =>
    have : o' ≠ .fz := fun z => by subst z; cases ho
    exact ⟨by cases v <;> simp [PV.setFl, fpN, hn, this], by cases o <;> first | rfl | exact absurd rfl hn⟩
  | dK o' ks xs =>
    have : o' ≠ .fz := fun z => by subst z; cases ho
    exact ⟨by cases v <;> simp [PV.setFl, fpN, hn, this], by cases o <;> first | rfl | exact absurd rfl hn⟩
  | dN o' ks xs =>
    have : o' ≠ .fz := fun z => by subst z; cases ho
    exact ⟨by cases v <;> simp [PV.setFl, fpN, hn, this], by cases o <;> first | rfl | exact absurd rfl hn⟩
  | obj o' c xs =>
    have : o' ≠ .fz := fun z => by subst z; cases ho
    exact ⟨by cases v <;> simp [PV.setFl, fpN, hn, this], by cases o <;> first | rfl | exact absurd rfl hn⟩
  | nst o' sh xs =>
    have : o' ≠ .fz := fun z => by subst z; cases ho
    cases o with
    | fz => exact absurd rfl hn
    | ow => exact ⟨by cases v <;> simp [PV.setFl, fpN, this], rfl⟩
    | io => exact ⟨by cases v <;> simp [PV.setFl, fpN, this], rfl⟩
  | cel o' u =>
    have : o' ≠ .fz := fun z => by subst z; cases ho
    cases o with
    | fz => exact absurd rfl hn
    | ow => exact ⟨by cases v <;> simp [PV.setFl, fpN, this], rfl⟩
    | io => exact ⟨by cases v <;> simp [PV.setFl, fpN, this], rfl⟩
  | err _ _ _ => cases he
  | _ => cases ho
/-- ow and io lie alike -/
theorem Hold.relabel (h : Hold T H ((a, v) :: l)) (ho : a.own = true) {o : Fl} (hn : o ≠ .fz) : Hold T H ((a.setFl o, v) :: l) := by
  by_cases he : a.isErr = true
  · cases a <;> simp [PV.isErr] at he
    exact h.freeze
  obtain ⟨F, s, ow, n, d⟩ := h
  have ra := (Own.ow ho).mp (ow _ List.mem_cons_self)
  obtain ⟨e1, ho'⟩ := fpN_setFl (H := H) (v := v) ho (by simpa using he) hn
  have hf : fpOf H ((a.setFl o, v) :: l) = fpOf H ((a, v) :: l) := by rw [fpOf_cons, fpOf_cons, e1]
  refine ⟨F, s, fun x hx => ?_, by rw [hf]; exact n, fun q hq => d q (by rw [hf] at hq; exact hq)⟩
  rcases List.mem_cons.mp hx with rfl | hx
  · refine (Own.ow ho').mpr ?_
    cases a with
    | nst o' sh xs => cases o with
      | fz => exact absurd rfl hn
      | ow => exact ⟨by simp, ra.2⟩
      | io => exact ⟨by simp, ra.2⟩
    | cel o' u => cases o with
      | fz => exact absurd rfl hn
      | ow => exact ⟨by simp, ra.2⟩
      | io => exact ⟨by simp, ra.2⟩
    | err _ _ _ => exact absurd rfl he
    | _ => exact ra
  · exact ow x (List.mem_cons_of_mem _ hx)
/-- an own object is changed -/
theorem Hold.write (h : Hold T H ((a, .ref p) :: l)) (ho : a.own = true) {o : HO} (hb : b.own = true) (q : ∀ F, Same F H → RepAt T H F a (.ref p) → (∀ x ∈ l, Own T H F x.1 x.2) → RepAt T (upd H p o) F b (.ref p)) (ca : a.isErr = false := by rfl) (cb : b.isErr = false := by rfl) (na : a.isN = false := by rfl) (nb : b.isN = false := by rfl) : Hold T (upd H p o) ((b, .ref p) :: l) := by
  have c1 : a.cell = true := by unfold PV.cell; rw [ho, ca]; rfl
  have c2 : b.cell = true := by unfold PV.cell; rw [hb, cb]; rfl
  obtain ⟨F, s, ow, n, d⟩ := h
  have ra := (Own.ow ho).mp (ow _ List.mem_cons_self)
  rw [fpOf_ow c1 na] at n d
  have fp := d p List.mem_cons_self
  obtain ⟨q1, q2⟩ := own_upd (o := o) (Same.refl F) (fun x hx => ow x (List.mem_cons_of_mem _ hx)) (List.nodup_cons.mp n).1
  refine ⟨F, fun b u k => ?_, fun x hx => ?_, by rw [fpOf_ow c2 nb, q2]; exact n, by rw [fpOf_ow c2 nb, q2]; exact d⟩
  · rw [upd_ne (ne_of_none k fp)]; exact s _ _ k
  · rcases List.mem_cons.mp hx with rfl | hx
    · exact (Own.ow hb).mpr (q F s ra fun x hx => ow x (List.mem_cons_of_mem _ hx))
    · exact q1 x hx
end
end VL
set_option Elab.async false
set_option linter.all false
set_option maxRecDepth 100000
namespace VL
open PySem PySem.Spec PyProof.Rows L2
inductive R (α : Type) where
  | ok (a : α) (ρ : List PV)
  | exc (c : String) (xs : List PV) (ρ : List PV)
  | stuck
abbrev M (α : Type) := List PV → R α
def R.bind {α β : Type} (r : R α) (k : α → M β) : R β :=
  match r with
  | .ok a ρ => k a ρ
  | .exc c xs ρ => .exc c xs ρ
  | .stuck => .stuck
@[simp] theorem R.bind_ok {α β : Type} (a : α) (ρ : List PV) (k : α → M β) : (R.ok a ρ).bind k = k a ρ := rfl
@[simp] theorem R.bind_exc {α β : Type} (c : String) (xs ρ : List PV) (k : α → M β) : (R.exc c xs ρ : R α).bind k = .exc c xs ρ := rfl
@[simp] theorem R.bind_stuck {α β : Type} (k : α → M β) : (R.stuck : R α).bind k = .stuck := rfl
/-- a slot by its number -/
def nth : List PV → Nat → PV
  | [], _ => .emp
  | x :: _, 0 => x
  | _ :: xs, n + 1 => nth xs n
@[simp] theorem nth_zero (x : PV) (xs : List PV) : nth (x :: xs) 0 = x := rfl
@[simp] theorem nth_succ (x : PV) (xs : List PV) (n : Nat) : nth (x :: xs) (n + 1) = nth xs n := rfl
theorem nth_get : ∀ (xs : List PV) (i : Nat), nth xs i = xs[i]?.getD .emp
  | [], _ => by simp [nth]
  | x :: xs, 0 => by simp
  | x :: xs, n + 1 => by simp [nth_get xs n]
/-- what an expression gives: the name in slot i, or a value of its own -/
inductive Hd where
  | sl (i : Nat)
  | tm (a : PV)
def hv (ρ : List PV) : Hd → PV
  | .sl i => nth ρ i
  | .tm a => a
@[simp] theorem hv_sl (ρ : List PV) (i : Nat) : hv ρ (.sl i) = nth ρ i := rfl
@[simp] theorem hv_tm (ρ : List PV) (a : PV) : hv ρ (.tm a) = a := rfl
def hit : Hd → V → Its
  | .sl _, _ => []
  | .tm a, v => [(a, v)]
def hits : List Hd → List V → Its
  | h :: hs, v :: vs => hit h v ++ hits hs vs
  | _, _ => []
def its : List PV → L2.St → Its
  | a :: ρ, s :: σ => (a, s.getD .non) :: its ρ σ
  | _, _ => []
structure Fits (s0 : L2.St) (ρ : List PV) (σ : L2.St) : Prop where
  len : σ.length = ρ.length
  has : ∀ i, (nth ρ i).isEmp = false → ∃ v, σ[i]? = some (some v)
  io : ∀ i, (nth ρ i).isIo = true → σ[i]? = s0[i]?
theorem its_mem : ∀ {ρ : List PV} {σ : L2.St} {i : Nat} {v : V}, σ.length = ρ.length → σ[i]? = some (some v) → (nth ρ i, v) ∈ its ρ σ
  | [], [], _, _, _, e => by simp at e
  | [], _ :: _, _, _, h, _ => by simp at h
  | _ :: _, [], _, _, h, _ => by simp at h
  | a :: ρ, s :: σ, 0, v, h, e => by
    simp at e; subst e
    simp [its]
  | a :: ρ, s :: σ, i + 1, v, h, e => by
    have := its_mem (ρ := ρ) (σ := σ) (i := i) (v := v) (by simpa using h) (by simpa using e)
    simp [its, this]
theorem nth_set_same : ∀ {ρ : List PV} {i : Nat} {a : PV}, i < ρ.length → nth (ρ.set i a) i = a
  | _ :: _, 0, _, _ => rfl
  | _ :: ρ, i + 1, a, h => by simp [nth, nth_set_same (ρ := ρ) (i := i) (a := a) (by simpa using h)]
theorem nth_set_ne : ∀ {ρ : List PV} {i j : Nat} {a : PV}, i ≠ j → nth (ρ.set i a) j = nth ρ j
  | [], _, _, _, _ => by simp
  | _ :: _, 0, 0, _, h => absurd rfl h
  | _ :: _, 0, j + 1, _, _ => rfl
  | _ :: _, i + 1, 0, _, _ => rfl
  | _ :: ρ, i + 1, j + 1, a, h => by simp [nth, nth_set_ne (ρ := ρ) (i := i) (j := j) (a := a) (by omega)]
theorem nth_out : ∀ {ρ : List PV} {i : Nat}, ρ.length ≤ i → nth ρ i = .emp
  | [], _, _ => rfl
  | _ :: _, 0, h => by simp at h
  | _ :: ρ, i + 1, h => by simp [nth, nth_out (ρ := ρ) (i := i) (by simpa using h)]
/-- a slot's item taken out, another put in its place -/
theorem its_set : ∀ {ρ : List PV} {σ : L2.St} {i : Nat} {a : PV} {v : V}, σ.length = ρ.length → i < ρ.length → ∃ A B, its ρ σ = A ++ (nth ρ i, (σ[i]?.getD none).getD .non) :: B ∧ its (ρ.set i a) (σ.set i (some v)) = A ++ (a, v) :: B
  | [], _, _, _, _, _, h => by simp at h
  | _ :: _, [], _, _, _, h, _ => by simp at h
  | x :: ρ, s :: σ, 0, a, v, h, _ => ⟨[], its ρ σ, by simp [its], by simp [its]⟩
  | x :: ρ, s :: σ, i + 1, a, v, h, hi => by
    obtain ⟨A, B, e1, e2⟩ := its_set (ρ := ρ) (σ := σ) (i := i) (a := a) (v := v) (by simpa using h) (by simpa using hi)
    refine ⟨(x, s.getD .non) :: A, B, ?_, ?_⟩
    · simp only [its, nth_succ, List.cons_append, List.getElem?_cons_succ]; rw [e1]
    · simp only [List.set_cons_succ, its, List.cons_append]; rw [e2]
theorem set_self : ∀ {σ : L2.St} {i : Nat} {s : Option V}, σ[i]? = some s → σ.set i s = σ
  | [], _, _, h => by simp at h
  | _ :: _, 0, _, h => by simp at h; simp [h]
  | _ :: σ, i + 1, s, h => by simp at h; simp [set_self h]
theorem Fits.lt {s0 : L2.St} {ρ : List PV} {σ : L2.St} {i : Nat} {v : V} (f : Fits s0 ρ σ) (e : σ[i]? = some (some v)) : i < ρ.length := by
  rw [← f.len]; exact (List.getElem?_eq_some_iff.mp e).1
section
variable {T : Tb} {H : Hp} {s0 : L2.St} {ρ : List PV} {σ : L2.St} {τ ε : Its} {i : Nat} {a : PV} {v : V}
/-- a slot's value exchanged for one that lies at the same place -/
theorem Hold.slot (h : Hold T H ((a, v) :: (its ρ σ ++ τ))) (f : Fits s0 ρ σ) (hi : i < ρ.length) : Hold T H (its (ρ.set i a) (σ.set i (some v)) ++ τ) := by
  obtain ⟨A, B, e1, e2⟩ := its_set (a := a) (v := v) f.len hi
  rw [e2]
  rw [e1] at h
  have : ((a, v) :: (A ++ (nth ρ i, (σ[i]?.getD none).getD .non) :: B ++ τ)).Perm ((nth ρ i, (σ[i]?.getD none).getD .non) :: (A ++ (a, v) :: B ++ τ)) := by
    simp only [List.append_assoc, List.cons_append]
    refine .trans (.cons _ List.perm_middle) (.trans (.swap ..) (.cons _ List.perm_middle.symm))
  exact (h.perm this).tail
/-- a slot's value, by itself -/
theorem Hold.slotOut (h : Hold T H (its ρ σ ++ τ)) (f : Fits s0 ρ σ) (e : σ[i]? = some (some v)) : Hold T H ((nth ρ i, v) :: (its (ρ.set i .emp) σ ++ τ)) := by
  have hi := f.lt e
  obtain ⟨A, B, e1, e2⟩ := its_set (a := .emp) (v := v) f.len hi
  rw [set_self e] at e2
  rw [e2]
  rw [e1, e] at h
  simp only [Option.getD_some] at h
  have h2 : Hold T H ((nth ρ i, v) :: (A ++ (B ++ τ))) := h.perm (by simp only [List.append_assoc, List.cons_append]; exact List.perm_middle)
  have h3 : Hold T H ((.emp, v) :: (nth ρ i, v) :: (A ++ (B ++ τ))) := h2.emp
  refine h3.perm ?_
  simp only [List.append_assoc, List.cons_append]
  exact .trans (.swap ..) (.cons _ List.perm_middle.symm)
theorem Hold.slotIn (h : Hold T H ((a, v) :: (its (ρ.set i .emp) σ ++ τ))) (f : Fits s0 ρ σ) (e : σ[i]? = some (some v)) : Hold T H (its (ρ.set i a) σ ++ τ) := by
  have hi := f.lt e
  have f2 : (ρ.set i PV.emp).length = ρ.length := by simp
  obtain ⟨A, B, e1, e2⟩ := its_set (ρ := ρ.set i .emp) (a := a) (v := v) (by rw [f2]; exact f.len) (by rw [f2]; exact hi)
  rw [set_self e, List.set_set] at e2
  rw [e2]
  rw [e1] at h
  have : ((a, v) :: (A ++ (nth (ρ.set i .emp) i, (σ[i]?.getD none).getD .non) :: B ++ τ)).Perm ((nth (ρ.set i .emp) i, (σ[i]?.getD none).getD .non) :: (A ++ (a, v) :: B ++ τ)) := by
    simp only [List.append_assoc, List.cons_append]
    refine .trans (.cons _ List.perm_middle) (.trans (.swap ..) (.cons _ List.perm_middle.symm))
  exact (h.perm this).tail
theorem Fits.set (f : Fits s0 ρ σ) (hi : (nth ρ i).isIo = false) (ha : a.isIo = false) : Fits s0 (ρ.set i a) (σ.set i (some v)) := by
  refine ⟨by simp [f.len], fun j hj => ?_, fun j hj => ?_⟩
  · by_cases e : i = j
    · subst e
      by_cases l : i < ρ.length
      · exact ⟨v, by rw [List.getElem?_set_self (by rw [f.len]; exact l)]⟩
      · rw [nth_out (by simp; omega)] at hj; cases hj
    · rw [nth_set_ne e] at hj
      rw [List.getElem?_set_ne e]
      exact f.has j hj
  · by_cases e : i = j
    · subst e
      by_cases l : i < ρ.length
      · rw [nth_set_same l] at hj; rw [ha] at hj; cases hj
      · rw [nth_out (by simp; omega)] at hj; cases hj
    · rw [nth_set_ne e] at hj
      rw [List.getElem?_set_ne e]
      exact f.io j hj
/-- the value in a slot is another, the place the same -/
theorem Fits.re (f : Fits s0 ρ σ) (e : σ[i]? = some (some v)) (ha : a.isIo = true → (nth ρ i).isIo = true) : Fits s0 (ρ.set i a) σ := by
  refine ⟨by simp [f.len], fun j hj => ?_, fun j hj => ?_⟩
  · by_cases c : i = j
    · subst c; exact ⟨v, e⟩
    · rw [nth_set_ne c] at hj; exact f.has j hj
  · by_cases c : i = j
    · subst c
      rw [nth_set_same (f.lt e)] at hj
      exact f.io i (ha hj)
    · rw [nth_set_ne c] at hj; exact f.io j hj
theorem mem_hv {h : Hd} (f : Fits s0 ρ σ) (c : ∀ i, h = .sl i → σ[i]? = some (some v)) : (hv ρ h, v) ∈ hit h v ++ (its ρ σ ++ τ) := by
  cases h with
  | sl i => exact List.mem_append_right _ (List.mem_append_left _ (its_mem f.len (c i rfl)))
  | tm a => exact List.mem_append_left _ (by simp [hit, hv])
end
structure G where
  T : Tb
  s0 : L2.St
  W : WX
def Post {α : Type} (g : G) (σ : L2.St) (τ : Its) (P : α → List PV → Prop) : R α → Prop
  | .ok a ρ => P a ρ
  | .exc c xs ρ => ∀ (d : Option Addr) (vs : List V) (H' : Hp), Fits g.s0 ρ σ → XAt g.T H' c d vs → vs.length = xs.length → Hold g.T H' (xs.zip vs ++ (its ρ σ ++ τ)) → g.W (.ref (g.T.ca c)) d σ H'
  | .stuck => False
def slotAt (σ : L2.St) (h : Hd) (v : V) : Prop := ∀ i, h = .sl i → σ[i]? = some (some v)
def PE1 (g : G) (σ : L2.St) (τ : Its) (Q : VK) (h : Hd) (ρ : List PV) : Prop := ∀ v H', Fits g.s0 ρ σ → slotAt σ h v → Hold g.T H' (hit h v ++ (its ρ σ ++ τ)) → Q v H'
def slotsAt (σ : L2.St) : List Hd → List V → Prop
  | [], vs => vs = []
  | h :: hs, vs => ∃ v vs', vs = v :: vs' ∧ slotAt σ h v ∧ slotsAt σ hs vs'
def PA1 (g : G) (σ : L2.St) (τ : Its) (Q : List V → Hp → Prop) (hs : List Hd) (ρ : List PV) : Prop := ∀ vs H', Fits g.s0 ρ σ → slotsAt σ hs vs → Hold g.T H' (hits hs vs ++ (its ρ σ ++ τ)) → Q vs H'
def PT1 (g : G) (σ : L2.St) (τ : Its) (Q : Bool → Hp → Prop) (b : Bool) (ρ : List PV) : Prop := ∀ H', Fits g.s0 ρ σ → Hold g.T H' (its ρ σ ++ τ) → Q b H'
/-- how a statement ends -/
inductive Fw where
  | nx | rt (a : PV) | bk | ct
def trE (g : G) (f : M Hd) : TE := fun σ H Q => ∃ ρ τ, Fits g.s0 ρ σ ∧ Hold g.T H (its ρ σ ++ τ) ∧ Post g σ τ (PE1 g σ τ Q) (f ρ)
def trA (g : G) (f : M (List Hd)) : TA := fun σ H Q => ∃ ρ τ, Fits g.s0 ρ σ ∧ Hold g.T H (its ρ σ ++ τ) ∧ Post g σ τ (PA1 g σ τ Q) (f ρ)
def trT (g : G) (f : M Bool) : TT := fun σ H Q => ∃ ρ τ, Fits g.s0 ρ σ ∧ Hold g.T H (its ρ σ ++ τ) ∧ Post g σ τ (PT1 g σ τ Q) (f ρ)
def PS1 (g : G) (τ : Its) (D : Ends) : R Fw → Prop
  | .ok .nx ρ => ∀ σ H', Fits g.s0 ρ σ → Hold g.T H' (its ρ σ ++ τ) → D.nx σ H'
  | .ok .bk ρ => ∀ σ H', Fits g.s0 ρ σ → Hold g.T H' (its ρ σ ++ τ) → D.bk σ H'
  | .ok .ct ρ => ∀ σ H', Fits g.s0 ρ σ → Hold g.T H' (its ρ σ ++ τ) → D.ct σ H'
  | .ok (.rt a) ρ => ∀ v σ H', Fits g.s0 ρ σ → Hold g.T H' ((a, v) :: (its ρ σ ++ τ)) → D.rt v H'
  | .exc c xs ρ => ∀ (d : Option Addr) (vs : List V) (σ : L2.St) (H' : Hp), Fits g.s0 ρ σ → XAt g.T H' c d vs → vs.length = xs.length → Hold g.T H' (xs.zip vs ++ (its ρ σ ++ τ)) → g.W (.ref (g.T.ca c)) d σ H'
  | .stuck => False
def trS (g : G) (f : M Fw) : TS := fun D σ H => ∃ ρ τ, Fits g.s0 ρ σ ∧ Hold g.T H (its ρ σ ++ τ) ∧ PS1 g τ D (f ρ)
abbrev EV (g : G) (X : Cx) (e : Expr) (f : M Hd) : Prop := PE X e (trE g f)
abbrev AV (g : G) (X : Cx) (es : List Expr) (f : M (List Hd)) : Prop := PA X es (trA g f)
abbrev TV (g : G) (X : Cx) (e : Expr) (f : M Bool) : Prop := PT X e (trT g f)
abbrev SV (g : G) (X : Cx) (st : Stmt) (f : M Fw) : Prop := PS X st (trS g f)
abbrev BV (g : G) (X : Cx) (st : List Stmt) (f : M Fw) : Prop := PSs X st (trS g f)
section
variable {g : G} {X : Cx} {e : Expr} {es : List Expr} {st : Stmt} {sts : List Stmt} {f : M Hd} {fs : M (List Hd)} {ft : M Bool} {fw : M Fw} {α : Type}
theorem ev_of {t : TE} (h : PE X e t) (q : ∀ σ H Q ρ τ, Fits g.s0 ρ σ → Hold g.T H (its ρ σ ++ τ) → Post g σ τ (PE1 g σ τ Q) (f ρ) → t σ H Q) : EV g X e f :=
  ⟨fun pins s σ H Q I ⟨ρ, τ, h1, h2, h3⟩ => h.run pins s σ H Q I (q σ H Q ρ τ h1 h2 h3)⟩
theorem av_of {t : TA} (h : PA X es t) (q : ∀ σ H Q ρ τ, Fits g.s0 ρ σ → Hold g.T H (its ρ σ ++ τ) → Post g σ τ (PA1 g σ τ Q) (fs ρ) → t σ H Q) : AV g X es fs :=
  ⟨fun pos pins s σ H Q I ⟨ρ, τ, h1, h2, h3⟩ => h.run pos pins s σ H Q I (q σ H Q ρ τ h1 h2 h3)⟩
theorem tv_of {t : TT} (h : PT X e t) (q : ∀ σ H Q ρ τ, Fits g.s0 ρ σ → Hold g.T H (its ρ σ ++ τ) → Post g σ τ (PT1 g σ τ Q) (ft ρ) → t σ H Q) : TV g X e ft :=
  ⟨fun pins s σ H Q I ⟨ρ, τ, h1, h2, h3⟩ => h.run pins s σ H Q I (q σ H Q ρ τ h1 h2 h3)⟩
theorem sv_of {t : TS} (h : PS X st t) (q : ∀ D σ H ρ τ, Fits g.s0 ρ σ → Hold g.T H (its ρ σ ++ τ) → PS1 g τ D (fw ρ) → t D σ H) : SV g X st fw :=
  ⟨fun pins s σ H D I ⟨ρ, τ, h1, h2, h3⟩ => h.run pins s σ H D I (q D σ H ρ τ h1 h2 h3)⟩
theorem bv_of {t : TS} (h : PSs X sts t) (q : ∀ D σ H ρ τ, Fits g.s0 ρ σ → Hold g.T H (its ρ σ ++ τ) → PS1 g τ D (fw ρ) → t D σ H) : BV g X sts fw :=
  ⟨fun pins s σ H D I ⟨ρ, τ, h1, h2, h3⟩ => h.run pins s σ H D I (q D σ H ρ τ h1 h2 h3)⟩
variable {σ : L2.St} {H : Hp} {ρ : List PV} {τ ε : Its}
theorem exc_more {β γ : Type} {P : β → List PV → Prop} {P' : γ → List PV → Prop} {c : String} {xs ρ : List PV} (h : Post g σ τ P (.exc c xs ρ)) : Post g σ (ε ++ τ) P' (.exc c xs ρ) := by
  intro d vs H' ft hx hl hh
  refine h d vs H' ft hx hl (hh.sub ?_)
  exact List.Sublist.append_left (List.Sublist.append_left (List.sublist_append_right ..) _) _
/-- ahead of the rest k an expression -/
theorem stepE {P : α → List PV → Prop} {k : Hd → M α} {Q' : VK} (fit : Fits g.s0 ρ σ) (hold : Hold g.T H (its ρ σ ++ (ε ++ τ))) (hP : Post g σ τ P ((f ρ).bind k))
    (hk : ∀ h ρ1, Post g σ τ P (k h ρ1) → ∀ v H1, Fits g.s0 ρ1 σ → slotAt σ h v → Hold g.T H1 (hit h v ++ (its ρ1 σ ++ (ε ++ τ))) → Q' v H1) : trE g f σ H Q' := by
  refine ⟨ρ, ε ++ τ, fit, hold, ?_⟩
  cases e : f ρ with
  | ok h ρ1 => rw [e] at hP; exact hk h ρ1 hP
  | exc c xs ρ1 => rw [e] at hP; exact exc_more hP
  | stuck => rw [e] at hP; exact hP
theorem stepA {P : α → List PV → Prop} {k : List Hd → M α} {Q' : List V → Hp → Prop} (fit : Fits g.s0 ρ σ) (hold : Hold g.T H (its ρ σ ++ (ε ++ τ))) (hP : Post g σ τ P ((fs ρ).bind k))
    (hk : ∀ hs ρ1, Post g σ τ P (k hs ρ1) → ∀ vs H1, Fits g.s0 ρ1 σ → slotsAt σ hs vs → Hold g.T H1 (hits hs vs ++ (its ρ1 σ ++ (ε ++ τ))) → Q' vs H1) : trA g fs σ H Q' := by
  refine ⟨ρ, ε ++ τ, fit, hold, ?_⟩
  cases e : fs ρ with
  | ok h ρ1 => rw [e] at hP; exact hk h ρ1 hP
  | exc c xs ρ1 => rw [e] at hP; exact exc_more hP
  | stuck => rw [e] at hP; exact hP
theorem stepT {P : α → List PV → Prop} {k : Bool → M α} {Q' : Bool → Hp → Prop} (fit : Fits g.s0 ρ σ) (hold : Hold g.T H (its ρ σ ++ (ε ++ τ))) (hP : Post g σ τ P ((ft ρ).bind k))
    (hk : ∀ b ρ1, Post g σ τ P (k b ρ1) → ∀ H1, Fits g.s0 ρ1 σ → Hold g.T H1 (its ρ1 σ ++ (ε ++ τ)) → Q' b H1) : trT g ft σ H Q' := by
  refine ⟨ρ, ε ++ τ, fit, hold, ?_⟩
  cases e : ft ρ with
  | ok h ρ1 => rw [e] at hP; exact hk h ρ1 hP
  | exc c xs ρ1 => rw [e] at hP; exact exc_more hP
  | stuck => rw [e] at hP; exact hP
theorem stepES {k : Hd → M Fw} {D : Ends} {Q' : VK} (fit : Fits g.s0 ρ σ) (hold : Hold g.T H (its ρ σ ++ τ)) (hP : PS1 g τ D ((f ρ).bind k))
    (hk : ∀ h ρ1, PS1 g τ D (k h ρ1) → ∀ v H1, Fits g.s0 ρ1 σ → slotAt σ h v → Hold g.T H1 (hit h v ++ (its ρ1 σ ++ τ)) → Q' v H1) : trE g f σ H Q' := by
  refine ⟨ρ, τ, fit, hold, ?_⟩
  cases e : f ρ with
  | ok h ρ1 => rw [e] at hP; exact hk h ρ1 hP
  | exc c xs ρ1 => rw [e] at hP; exact fun d vs H' => hP d vs σ H'
  | stuck => rw [e] at hP; exact hP
theorem stepTS {k : Bool → M Fw} {D : Ends} {Q' : Bool → Hp → Prop} (fit : Fits g.s0 ρ σ) (hold : Hold g.T H (its ρ σ ++ τ)) (hP : PS1 g τ D ((ft ρ).bind k))
    (hk : ∀ b ρ1, PS1 g τ D (k b ρ1) → ∀ H1, Fits g.s0 ρ1 σ → Hold g.T H1 (its ρ1 σ ++ τ) → Q' b H1) : trT g ft σ H Q' := by
  refine ⟨ρ, τ, fit, hold, ?_⟩
  cases e : ft ρ with
  | ok h ρ1 => rw [e] at hP; exact hk h ρ1 hP
  | exc c xs ρ1 => rw [e] at hP; exact fun d vs H' => hP d vs σ H'
  | stuck => rw [e] at hP; exact hP
end
end VL
set_option Elab.async false
set_option linter.all false
set_option maxRecDepth 100000
namespace VL
open PySem PySem.Spec PyProof.Rows L2
/-- two lists with the same counts -/
theorem permc {l m : Its} (h : ∀ (i : BEq (PV × V)) (x : PV × V), l.count x = m.count x) : l.Perm m := by
  have d : DecidableEq (PV × V) := fun a b => Classical.propDecidable (a = b)
  exact (@List.perm_iff_count (PV × V) (@instBEqOfDecidableEq _ d) (by exact @instLawfulBEq _ d) l m).mpr fun x => h _ x
def lim : Nat := 100000
theorem lim_le {n : Nat} (h : n ≤ lim) : n ≤ sizeLine := My.small h
theorem lim_lt {n : Nat} (h : n < lim) : n < sizeLine := My.smallLt (Nat.le_of_lt h)
section
variable {T : Tb} {H : Hp} {s0 : L2.St} {ρ ρ' : List PV} {σ : L2.St} {τ l : Its} {a : PV} {v : V} {h : Hd}
theorem mem_of (f : Fits s0 ρ σ) (c : slotAt σ h v) (h1 : ∀ x ∈ its ρ σ, x ∈ l) (h2 : ∀ x ∈ hit h v, x ∈ l) : (hv ρ h, v) ∈ l := by
  cases h with
  | sl i => exact h1 _ (its_mem f.len (c i rfl))
  | tm a => exact h2 _ (by simp [hit, hv])
theorem slot_tm : slotAt σ (.tm a) v := fun _ e => nomatch e
theorem mems_of : ∀ {hs : List Hd} {vs : List V}, Fits s0 ρ σ → slotsAt σ hs vs → (∀ x ∈ its ρ σ, x ∈ l) → (∀ x ∈ hits hs vs, x ∈ l) → vs.length = (hs.map (hv ρ)).length ∧ ∀ x ∈ (hs.map (hv ρ)).zip vs, x ∈ l
  | [], _, _, c, _, _ => by
    have c : _ = [] := c
    subst c
    simp
  | h :: hs, _, f, c, h1, h2 => by
    obtain ⟨v, vs', rfl, c1, c2⟩ := c
    obtain ⟨q1, q2⟩ := mems_of (hs := hs) (vs := vs') f c2 h1 fun x hx => h2 x (by simp only [hits]; exact List.mem_append_right _ hx)
    refine ⟨by simpa using q1, fun x hx => ?_⟩
    rw [List.map_cons, List.zip_cons_cons] at hx
    rcases List.mem_cons.mp hx with rfl | hx
    · exact mem_of f c1 h1 fun x hx => h2 x (by simp only [hits]; exact List.mem_append_left _ hx)
    · exact q2 x hx
end
def fzOf : PV → Option PV
  | .emp => none
  | .lst .io _ | .dK .io _ _ | .dN .io _ _ | .obj .io _ _ | .nst .io _ _ | .err _ _ _ | .cel _ _ => none
  | .lst _ xs => some (.lst .fz xs)
  | .dK _ ks xs => some (.dK .fz ks xs)
  | .dN _ ks xs => some (.dN .fz ks xs)
  | .obj _ c xs => some (.obj .fz c xs)
  | .nst _ .l xs => some (.lst .fz (PV.frzs xs))
  | .nst _ (.o c) xs => some (.obj .fz c (PV.frzs xs))
  | a => some a
theorem fzOf_eq {a b : PV} (h : fzOf a = some b) : b = a.setFl .fz ∧ a.isEmp = false ∧ b.own = false ∧ b.isIo = false ∧ b.isEmp = false := by
  cases a with
  | emp => cases h
  | lst o _ => cases o <;> first | cases h; exact ⟨rfl, rfl, rfl, rfl, rfl⟩ | cases h
  | dK o _ _ => cases o <;> first | cases h; exact ⟨rfl, rfl, rfl, rfl, rfl⟩ | cases h
  | dN o _ _ => cases o <;> first | cases h; exact ⟨rfl, rfl, rfl, rfl, rfl⟩ | cases h
  | obj o _ _ => cases o <;> first | cases h; exact ⟨rfl, rfl, rfl, rfl, rfl⟩ | cases h
  | nst o sh _ => cases o <;> cases sh <;> first | cases h; exact ⟨rfl, rfl, rfl, rfl, rfl⟩ | cases h
  | err _ _ _ => cases h
  | cel _ _ => cases h
  | _ => cases h; exact ⟨rfl, rfl, rfl, rfl, rfl⟩
theorem setFl_own (a : PV) : (a.setFl .fz).own = false := by rw [setFl_fz]; exact frz_own a
def take (ρ : List PV) : Hd → Option (PV × List PV)
  | .tm a => some (a.setFl .fz, ρ)
  | .sl i => match fzOf (nth ρ i) with
    | some a => some (a, ρ.set i a)
    | none => none
def takes : List Hd → List PV → Option (List PV × List PV)
  | [], ρ => some ([], ρ)
  | h :: hs, ρ => match take ρ h with
    | some (a, ρ1) => match takes hs ρ1 with
      | some (as, ρ2) => some (a :: as, ρ2)
      | none => none
    | none => none
section
variable {T : Tb} {H : Hp} {s0 : L2.St} {ρ ρ' : List PV} {σ : L2.St} {τ l : Its} {a : PV} {v : V} {h : Hd}
theorem take_ok (f : Fits s0 ρ σ) (c : slotAt σ h v) (hh : Hold T H (hit h v ++ (its ρ σ ++ τ))) (e : take ρ h = some (a, ρ')) : Fits s0 ρ' σ ∧ a.own = false ∧ Hold T H ((a, v) :: (its ρ' σ ++ τ)) := by
  cases h with
  | tm b =>
    simp only [take, Option.some.injEq, Prod.mk.injEq] at e
    obtain ⟨rfl, rfl⟩ := e
    exact ⟨f, setFl_own b, Hold.freeze (by simpa [hit] using hh)⟩
  | sl i =>
    simp only [take] at e
    cases q : fzOf (nth ρ i) with
    | none => rw [q] at e; cases e
    | some b =>
      rw [q] at e
      simp only [Option.some.injEq, Prod.mk.injEq] at e
      obtain ⟨rfl, rfl⟩ := e
      obtain ⟨rfl, e1, e2, e3, e4⟩ := fzOf_eq q
      have ci := c i rfl
      have hh : Hold T H (its ρ σ ++ τ) := by simpa [hit] using hh
      have h1 := (hh.slotOut f ci).freeze
      have h2 := h1.slotIn f ci
      have f2 : Fits s0 (ρ.set i ((nth ρ i).setFl .fz)) σ := f.re ci fun z => by rw [e3] at z; cases z
      refine ⟨f2, e2, h2.dup (List.mem_append_left _ ?_) e2⟩
      have := its_mem f2.len ci
      rw [nth_set_same (f.lt ci)] at this
      exact this
theorem takes_ok : ∀ {hs : List Hd} {vs : List V} {ρ ρ' : List PV} {as : List PV} {τ : Its}, Fits s0 ρ σ → slotsAt σ hs vs → Hold T H (hits hs vs ++ (its ρ σ ++ τ)) → takes hs ρ = some (as, ρ') →
    Fits s0 ρ' σ ∧ vs.length = as.length ∧ (∀ a ∈ as, a.own = false) ∧ Hold T H (as.zip vs ++ (its ρ' σ ++ τ))
  | [], _, ρ, ρ', as, τ, f, c, hh, e => by
    have c : _ = [] := c
    subst c
    simp only [takes, Option.some.injEq, Prod.mk.injEq] at e
    obtain ⟨rfl, rfl⟩ := e
    exact ⟨f, rfl, (fun _ z => by cases z), by simpa [hits] using hh⟩
  | h :: hs, _, ρ, ρ', as, τ, f, c, hh, e => by
    obtain ⟨v, vs', rfl, c1, c2⟩ := c
    simp only [takes] at e
    cases q : take ρ h with
    | none => rw [q] at e; cases e
    | some p =>
      obtain ⟨a, ρ1⟩ := p
      rw [q] at e
      simp only at e
      cases q2 : takes hs ρ1 with
      | none => rw [q2] at e; cases e
      | some p2 =>
        obtain ⟨bs, ρ2⟩ := p2
        rw [q2] at e
        simp only [Option.some.injEq, Prod.mk.injEq] at e
        obtain ⟨rfl, rfl⟩ := e
        simp only [hits, List.append_assoc] at hh
        have hh1 : Hold T H (hit h v ++ (its ρ σ ++ (hits hs vs' ++ τ))) := hh.perm (List.Perm.append_left _ (by
          rw [← List.append_assoc, ← List.append_assoc]; exact List.Perm.append_right _ List.perm_append_comm))
        obtain ⟨f1, o1, k1⟩ := take_ok f c1 hh1 q
        have k2 : Hold T H (hits hs vs' ++ (its ρ1 σ ++ ((a, v) :: τ))) := k1.perm (permc fun _ x => by simp only [List.count_append, List.count_cons]; omega)
        obtain ⟨f2, l2, o2, k3⟩ := takes_ok f1 c2 k2 q2
        refine ⟨f2, by simp [l2], fun x hx => ?_, ?_⟩
        · rcases List.mem_cons.mp hx with rfl | hx
          · exact o1
          · exact o2 x hx
        · rw [List.zip_cons_cons, List.cons_append]
          refine k3.perm (.trans (List.Perm.append_left _ List.perm_middle) List.perm_middle)
end
theorem reps_of {T : Tb} {H F : Hp} {l : Its} : ∀ {as : List PV} {vs : List V}, vs.length = as.length → (∀ a ∈ as, a.own = false) → (∀ x ∈ as.zip vs, x ∈ l) → (∀ x ∈ l, Own T H F x.1 x.2) → Reps T F as vs
  | [], [], _, _, _, _ => .nil
  | [], _ :: _, h, _, _, _ => by simp at h
  | _ :: _, [], h, _, _, _ => by simp at h
  | a :: as, v :: vs, h, o, m, q => .cons ((Own.fz (o a List.mem_cons_self)).mp (q (a, v) (m _ (by simp)))) (o a List.mem_cons_self)
      (reps_of (by simpa using h) (fun b hb => o b (List.mem_cons_of_mem _ hb)) (fun x hx => m x (by rw [List.zip_cons_cons]; exact List.mem_cons_of_mem _ hx)) q)
def ofO (ρ : List PV) : Option PV → R Hd
  | some c => .ok (.tm c) ρ
  | none => .stuck
@[simp] theorem ofO_some (ρ : List PV) (c : PV) : ofO ρ (some c) = .ok (.tm c) ρ := rfl
@[simp] theorem ofO_none (ρ : List PV) : ofO ρ none = .stuck := rfl
def eN (i : Nat) : M Hd := fun ρ => if (nth ρ i).isEmp = true then .stuck else .ok (.sl i) ρ
def eC (a : PV) : M Hd := fun ρ => .ok (.tm a) ρ
def eBin (op : PV → PV → Option PV) (fa fb : M Hd) : M Hd := fun ρ => (fa ρ).bind fun h1 ρ1 => (fb ρ1).bind fun h2 ρ2 => ofO ρ2 (op (hv ρ2 h1) (hv ρ2 h2))
def eUn (op : PV → Option PV) (fa : M Hd) : M Hd := fun ρ => (fa ρ).bind fun h ρ1 => ofO ρ1 (op (hv ρ1 h))
def tru : PV → Option Bool
  | .non => some false
  | .bl b => some b
  | .int i => some (i != 0)
  | .str x => if x.length ≤ lim then some ((x.length : Int) != 0) else none
  | .tup xs => some (!xs.isEmpty)
  | .lst _ xs => some (!xs.isEmpty)
  | _ => none
def ofB (ρ : List PV) : Option Bool → R Bool
  | some c => .ok c ρ
  | none => .stuck
@[simp] theorem ofB_some (ρ : List PV) (c : Bool) : ofB ρ (some c) = .ok c ρ := rfl
@[simp] theorem ofB_none (ρ : List PV) : ofB ρ none = .stuck := rfl
/-- an expression as a test -/
def tE (fa : M Hd) : M Bool := fun ρ => (fa ρ).bind fun h ρ1 => ofB ρ1 (tru (hv ρ1 h))
def blOf : PV → Option Bool
  | .bl b => some b
  | _ => none
def tB (fa : M Hd) : M Bool := fun ρ => (fa ρ).bind fun h ρ1 => ofB ρ1 (blOf (hv ρ1 h))
def tAnd (ta tb : M Bool) : M Bool := fun ρ => (ta ρ).bind fun b ρ1 => if b = true then tb ρ1 else .ok false ρ1
def tOr (ta tb : M Bool) : M Bool := fun ρ => (ta ρ).bind fun b ρ1 => if b = true then .ok true ρ1 else tb ρ1
def tNot (ta : M Bool) : M Bool := fun ρ => (ta ρ).bind fun b ρ1 => .ok (!b) ρ1
def aNil : M (List Hd) := fun ρ => .ok [] ρ
def aCons (fa : M Hd) (fs : M (List Hd)) : M (List Hd) := fun ρ => (fa ρ).bind fun h ρ1 => (fs ρ1).bind fun hs ρ2 => .ok (h :: hs) ρ2
def eLst (fs : M (List Hd)) : M Hd := fun ρ => (fs ρ).bind fun hs ρ1 => match takes hs ρ1 with
  | some (as, ρ2) => if as.length ≤ lim then .ok (.tm (.lst .ow as)) ρ2 else .stuck
  | none => .stuck
/-- a call of what is built in -/
def eFn (op : List PV → Option PV) (fs : M (List Hd)) : M Hd := fun ρ => (fs ρ).bind fun hs ρ1 => ofO ρ1 (op (hs.map (hv ρ1)))
def Opv (T : Tb) (g : PV → PV → Option PV) (r : R2) : Prop := ∀ (H : Hp) (l : Its) (a b c : PV) (v w : V) (Q : VK), Hold T H l → (a, v) ∈ l → (b, w) ∈ l → g a b = some c → (∀ z H', Hold T H' ((c, z) :: l) → Q z H') → r v w H Q
def Unv (T : Tb) (g : PV → Option PV) (r : V → Hp → VK → Prop) : Prop := ∀ (H : Hp) (l : Its) (a c : PV) (v : V) (Q : VK), Hold T H l → (a, v) ∈ l → g a = some c → (∀ z H', Hold T H' ((c, z) :: l) → Q z H') → r v H Q
def Fnv (T : Tb) (g : List PV → Option PV) (r : List V → Hp → VK → Prop) : Prop := ∀ (H : Hp) (l : Its) (as : List PV) (c : PV) (vs : List V) (Q : VK), Hold T H l → vs.length = as.length → (∀ x ∈ as.zip vs, x ∈ l) → g as = some c → (∀ z H', Hold T H' ((c, z) :: l) → Q z H') → r vs H Q
section
variable {g : G} {X : Cx} {a b c : Expr} {es : List Expr} {fa fb fc : M Hd} {fs : M (List Hd)} {ta tb tc : M Bool} {pos : Pos} {op op' : PV → PV → Option PV} {r r' : R2}
theorem ev_name {i : Nat} {x : Str} (hN : X.N[i]? = some x) (hv : Vis X.env.scope x) (hd : (x == ("__debug__" : Str)) = false := by decide) (hcd : (x == ("__classdict__" : Str)) = false := by decide) : EV g X (.Name x pos) (eN i) :=
  ev_of (pe_var hN hv hd hcd) fun σ H Q ρ τ f h hP => by
    unfold eN at hP
    cases e : (nth ρ i).isEmp with
    | true => rw [e] at hP; exact hP.elim
    | false =>
      rw [e] at hP
      obtain ⟨v, hv⟩ := f.has i e
      exact ⟨v, hv, hP v H f (fun j z => by cases z; exact hv) (by simpa [hit] using h)⟩
theorem ev_int {i : Int} {j} : EV g X (.Constant (.int i) j pos) (eC (.int i)) := ev_of pe_int fun σ H Q ρ τ f h hP => hP (.int i) H f slot_tm h.int
theorem ev_bl {i : Bool} {j} : EV g X (.Constant (.bool i) j pos) (eC (.bl i)) := ev_of pe_bl fun σ H Q ρ τ f h hP => hP (.bl i) H f slot_tm h.bl
theorem ev_non {j} : EV g X (.Constant .none j pos) (eC .non) := ev_of pe_non fun σ H Q ρ τ f h hP => hP .non H f slot_tm h.non
theorem nilT {ρ : List PV} {σ : L2.St} {τ : Its} {T : Tb} {H : Hp} (h : Hold T H (its ρ σ ++ τ)) : Hold T H (its ρ σ ++ ([] ++ τ)) := by simpa using h
/-- the item on top, then slots, then the rest -/
theorem mid {A B C : Its} {T : Tb} {H : Hp} (h : Hold T H (A ++ (B ++ C))) : Hold T H (B ++ (A ++ C)) := h.perm (by
  rw [← List.append_assoc, ← List.append_assoc]; exact List.Perm.append_right _ List.perm_append_comm)
/-- two operands -/
theorem two {α : Type} {P : α → List PV → Prop} {k : Hd → Hd → M α} {σ : L2.St} {H : Hp} {ρ : List PV} {τ : Its} {R' : V → V → Hp → Prop} (f : Fits g.s0 ρ σ) (h : Hold g.T H (its ρ σ ++ τ)) (hP : Post g σ τ P ((fa ρ).bind fun h1 ρ1 => (fb ρ1).bind fun h2 ρ2 => k h1 h2 ρ2))
    (hk : ∀ h1 h2 ρ2, Post g σ τ P (k h1 h2 ρ2) → ∀ v w H2 (l : Its), Fits g.s0 ρ2 σ → slotAt σ h1 v → slotAt σ h2 w → l = hit h2 w ++ (its ρ2 σ ++ (hit h1 v ++ τ)) → Hold g.T H2 l → (hv ρ2 h1, v) ∈ l → (hv ρ2 h2, w) ∈ l → (∀ c z H3, Hold g.T H3 ((c, z) :: l) → Hold g.T H3 ((c, z) :: (its ρ2 σ ++ τ))) → R' v w H2) :
    trE g fa σ H fun v H1 => trE g fb σ H1 fun w H2 => R' v w H2 := by
  refine stepE (ε := []) f (nilT h) hP fun h1 ρ1 hP1 v H1 f1 s1 k1 => ?_
  refine stepE (ε := hit h1 v) f1 (by rw [List.nil_append] at k1; exact mid k1) hP1 fun h2 ρ2 hP2 w H2 f2 s2 k2 => ?_
  refine hk h1 h2 ρ2 hP2 v w H2 _ f2 s1 s2 rfl k2 (mem_of f2 s1 (fun x hx => by simp [hx]) fun x hx => by simp [hx]) (mem_of f2 s2 (fun x hx => by simp [hx]) fun x hx => by simp [hx]) fun c z H3 k => ?_
  exact k.sub (.cons_cons _ (.trans (List.Sublist.append_left (List.sublist_append_right ..) _) (List.sublist_append_right ..)))
theorem ev_op {o : Operator} (ho : OpR X (binaryOp o) r) (hg : Opv g.T op r) (ha : EV g X a fa) (hb : EV g X b fb) : EV g X (.BinOp a o b pos) (eBin op fa fb) :=
  ev_of (pe_op ho ha hb) fun σ H Q ρ τ f h hP => two f h hP fun h1 h2 ρ2 hP2 v w H2 l f2 s1 s2 el k m1 m2 dn => by
    cases e : op (hv ρ2 h1) (hv ρ2 h2) with
    | none => rw [e] at hP2; exact hP2.elim
    | some c =>
      rw [e] at hP2
      exact hg H2 l _ _ c v w Q k m1 m2 e fun z H' k' => hP2 z H' f2 slot_tm (dn c z H' k')
theorem ev_cmp {o : CmpOp} (ho : OpR X (compareOp o) r) (hg : Opv g.T op r) (ha : EV g X a fa) (hb : EV g X b fb) (hm : behindInMarks o b = false := by first | exact nomark _ | rfl) : EV g X (.Compare a [o] [b] pos) (eBin op fa fb) :=
  ev_of (pe_cmpR ho ha hb hm) fun σ H Q ρ τ f h hP => two f h hP fun h1 h2 ρ2 hP2 v w H2 l f2 s1 s2 el k m1 m2 dn => by
    cases e : op (hv ρ2 h1) (hv ρ2 h2) with
    | none => rw [e] at hP2; exact hP2.elim
    | some c =>
      rw [e] at hP2
      exact hg H2 l _ _ c v w Q k m1 m2 e fun z H' k' => hP2 z H' f2 slot_tm (dn c z H' k')
theorem tv_cmp {o : CmpOp} (ho : OpR X (compareOp o) r) (hg : Opv g.T op r) (ha : EV g X a fa) (hb : EV g X b fb) (hm : behindInMarks o b = false := by first | exact nomark _ | rfl) : TV g X (.Compare a [o] [b] pos) (tB (eBin op fa fb)) :=
  tv_of (pt_cmpR ho ha hb hm) fun σ H Q ρ τ f h hP => two (k := fun h1 h2 ρ2 => (ofO ρ2 (op (hv ρ2 h1) (hv ρ2 h2))).bind fun h ρ1 => ofB ρ1 (blOf (hv ρ1 h))) f h (by
      have e : tB (eBin op fa fb) ρ = (fa ρ).bind fun h1 ρ1 => (fb ρ1).bind fun h2 ρ2 => (ofO ρ2 (op (hv ρ2 h1) (hv ρ2 h2))).bind fun h ρ1 => ofB ρ1 (blOf (hv ρ1 h)) := by
        unfold tB eBin
        cases fa ρ with
        | ok h1 ρ1 => simp only [R.bind_ok]; cases fb ρ1 <;> rfl
        | _ => rfl
      rw [e] at hP; exact hP) fun h1 h2 ρ2 hP2 v w H2 l f2 s1 s2 el k m1 m2 dn => by
    cases e : op (hv ρ2 h1) (hv ρ2 h2) with
    | none => rw [e] at hP2; exact hP2.elim
    | some c =>
      rw [e] at hP2
      refine hg H2 l _ _ c v w _ k m1 m2 e fun z H' k' => ?_
      simp only [ofO_some, R.bind_ok, hv_tm] at hP2
      cases c with
      | bl x =>
        have ez := k'.g_bl (b := x) (v := z) List.mem_cons_self
        exact ⟨x, ez, hP2 H' f2 (dn _ z H' k').tail⟩
      | _ => exact hP2.elim
theorem ev_un {o : UnaryOp} {ro : V → Hp → VK → Prop} {opu : PV → Option PV} (ho : UnR X (unaryOp o) ro) (hg : Unv g.T opu ro) (ha : EV g X a fa) : EV g X (.UnaryOp o a pos) (eUn opu fa) :=
  ev_of (pe_un ho ha) fun σ H Q ρ τ f h hP => stepE (ε := []) f (nilT h) hP fun h1 ρ1 hP1 v H1 f1 s1 k1 => by
    cases e : opu (hv ρ1 h1) with
    | none => rw [e] at hP1; exact hP1.elim
    | some c =>
      rw [e] at hP1
      rw [List.nil_append] at k1
      exact hg H1 _ _ c v Q k1 (mem_hv f1 s1) e fun z H' k' => hP1 z H' f1 slot_tm (k'.sub (.cons_cons _ (List.sublist_append_right ..)))
theorem ev_fn {id : String} {x : Str} {e : Expr} {p : Pos} {opf : List PV → Option PV} {rf : List V → Hp → VK → Prop} (hc : CallR X (.builtin id) rf) (hf : Fnv g.T opf rf) (hg : Gl X x) (hm : X.mg x = none) (hv' : bootBuiltins x = some (.builtin id)) (ha : AV g X (e :: es) fs) (hn : x ≠ "__name__" := by decide) (hdb : (x == ("__debug__" : Str)) = false := by decide)
    (h1 : starEach (e :: es) X.env = (false, eval e X.env) :: starEach es X.env := by rfl) (h2 : (backTo pos (starEach es X.env)).any (·.1) = false := by rfl) : EV g X (.Call (.Name x p) (e :: es) [] pos) (eFn opf fs) :=
  ev_of (pe_callB hc hg hm hv' ha hn hdb h1 h2) fun σ H Q ρ τ f h hP => stepA (ε := []) f (nilT h) hP fun hs ρ1 hP1 vs H1 f1 s1 k1 => by
    cases e : opf (hs.map (hv ρ1)) with
    | none => rw [e] at hP1; exact hP1.elim
    | some c =>
      rw [e] at hP1
      rw [List.nil_append] at k1
      obtain ⟨q1, q2⟩ := mems_of (l := hits hs vs ++ (its ρ1 σ ++ τ)) f1 s1 (fun x hx => by simp [hx]) fun x hx => by simp [hx]
      exact hf H1 _ _ c vs Q k1 q1 q2 e fun z H' k' => hP1 z H' f1 slot_tm (k'.sub (.cons_cons _ (List.sublist_append_right ..)))
theorem ev_ty {id : String} {x : Str} {e : Expr} {p : Pos} {opf : List PV → Option PV} {rf : List V → Hp → VK → Prop} (hc : CallR X (.type id) rf) (hf : Fnv g.T opf rf) (hg : Gl X x) (hm : X.mg x = none) (hv' : bootBuiltins x = some (.type id)) (ha : AV g X (e :: es) fs) (hn : x ≠ "__name__" := by decide) (hdb : (x == ("__debug__" : Str)) = false := by decide)
    (h1 : starEach (e :: es) X.env = (false, eval e X.env) :: starEach es X.env := by rfl) (h2 : (backTo pos (starEach es X.env)).any (·.1) = false := by rfl) : EV g X (.Call (.Name x p) (e :: es) [] pos) (eFn opf fs) :=
  ev_of (pe_callTy hc hg hm hv' ha hn hdb h1 h2) fun σ H Q ρ τ f h hP => stepA (ε := []) f (nilT h) hP fun hs ρ1 hP1 vs H1 f1 s1 k1 => by
    cases e : opf (hs.map (hv ρ1)) with
    | none => rw [e] at hP1; exact hP1.elim
    | some c =>
      rw [e] at hP1
      rw [List.nil_append] at k1
      obtain ⟨q1, q2⟩ := mems_of (l := hits hs vs ++ (its ρ1 σ ++ τ)) f1 s1 (fun x hx => by simp [hx]) fun x hx => by simp [hx]
      exact hf H1 _ _ c vs Q k1 q1 q2 e fun z H' k' => hP1 z H' f1 slot_tm (k'.sub (.cons_cons _ (List.sublist_append_right ..)))
theorem av_nil : AV g X [] aNil := av_of pa_nil fun σ H Q ρ τ f h hP => hP [] H f rfl (by simpa [hits] using h)
theorem av_cons (ha : EV g X a fa) (hs : AV g X es fs) (hst : starEach (a :: es) X.env = (false, eval a X.env) :: starEach es X.env := by rfl) : AV g X (a :: es) (aCons fa fs) :=
  av_of (pa_cons ha hs hst) fun σ H Q ρ τ f h hP => stepE (ε := []) f (nilT h) hP fun h1 ρ1 hP1 v H1 f1 s1 k1 => by
    refine stepA (ε := hit h1 v) f1 (by rw [List.nil_append] at k1; exact mid k1) hP1 fun hs ρ2 hP2 vs H2 f2 s2 k2 => ?_
    refine hP2 (v :: vs) H2 f2 ⟨v, vs, rfl, s1, s2⟩ ?_
    simp only [hits, List.append_assoc]
    exact k2.perm (permc fun _ x => by simp only [List.count_append]; omega)
theorem tv_e (hK : X.K = g.T.K) (ha : EV g X a fa) (he : ∀ whole, isTrue a X.env whole = (do let v ← whole; standAt a.pos; holding [v] (truthy v)) := by intro _; rfl) : TV g X a (tE fa) :=
  tv_of (pt_truth ha he) fun σ H Q ρ τ f h hP => stepE (ε := []) f (nilT h) hP fun h1 ρ1 hP1 v H1 f1 s1 k1 => by
    rw [List.nil_append] at k1
    have m := mem_hv (τ := τ) f1 s1
    have kt : Hold g.T H1 (its ρ1 σ ++ τ) := k1.right
    cases e : hv ρ1 h1 <;> rw [e] at hP1 m <;> simp only [tru] at hP1
    · exact hP1.elim
    · exact ⟨false, by rw [k1.g_non m]; rfl, hP1 H1 f1 kt⟩
    · rename_i b; exact ⟨b, by rw [k1.g_bl m]; rfl, hP1 H1 f1 kt⟩
    · rename_i i; exact ⟨i != 0, by rw [k1.g_int m]; rfl, hP1 H1 f1 kt⟩
    · rename_i x
      split at hP1
      · rename_i hl
        exact ⟨(x.length : Int) != 0, by rw [k1.g_str m]; exact ⟨lim_le hl, rfl⟩, hP1 H1 f1 kt⟩
      · exact hP1.elim
    · rename_i xs
      obtain ⟨p, vs, ev, hs, hl, _⟩ := k1.g_tup m
      refine ⟨!xs.isEmpty, ?_, hP1 H1 f1 kt⟩
      rw [ev]
      refine .inr (.inl ⟨vs, by rw [hK]; exact hs, ?_⟩)
      cases xs <;> cases vs <;> simp at hl <;> rfl
    · rename_i o xs
      obtain ⟨p, vs, ev, hs, hl, _⟩ := k1.g_lst m
      refine ⟨!xs.isEmpty, ?_, hP1 H1 f1 kt⟩
      rw [ev]
      refine .inl ⟨vs, SqL.of hs, ?_⟩
      cases xs <;> cases vs <;> simp at hl <;> rfl
    all_goals exact hP1.elim
end
end VL
set_option Elab.async false
set_option linter.all false
set_option maxRecDepth 100000
namespace VL
open PySem PySem.Spec PyProof.Rows L2
section
variable {g : G} {X : Cx} {a b c : Expr} {es rest : List Expr} {fa fb fc : M Hd} {fs : M (List Hd)} {ta tb tc : M Bool} {pos : Pos} {op op' : PV → PV → Option PV} {r r' : R2}
theorem sub3 (A B C D : Its) : (B ++ D).Sublist (A ++ (B ++ (C ++ D))) := .trans (List.Sublist.append_left (List.sublist_append_right C D) B) (List.sublist_append_right A _)
abbrev WV (g : G) (X : Cx) (e : Expr) (f : M Bool) : Prop := PW X e (trT g f)
theorem wv_of {e : Expr} {t : TT} {ft : M Bool} (h : PW X e t) (q : ∀ σ H Q ρ τ, Fits g.s0 ρ σ → Hold g.T H (its ρ σ ++ τ) → Post g σ τ (PT1 g σ τ Q) (ft ρ) → t σ H Q) : WV g X e ft :=
  ⟨fun whole pins s σ H Q I ⟨ρ, τ, h1, h2, h3⟩ => h.run whole pins s σ H Q I (q σ H Q ρ τ h1 h2 h3)⟩
theorem wv_and1 (ha : TV g X a ta) : WV g X (.BoolOp .And [a] pos) ta := pw_and1 ha
theorem wv_or1 (ha : TV g X a ta) : WV g X (.BoolOp .Or [a] pos) ta := pw_or1 ha
theorem wv_and (ha : TV g X a ta) (hb : WV g X (.BoolOp .And (b :: rest) pos) tb) : WV g X (.BoolOp .And (a :: b :: rest) pos) (tAnd ta tb) :=
  wv_of (pw_and ha hb) fun σ H Q ρ τ f h hP => stepT (ε := []) f (nilT h) hP fun c ρ1 hP1 H1 f1 k1 => by
    cases c with
    | true => exact ⟨ρ1, τ, f1, k1, hP1⟩
    | false => exact hP1 H1 f1 k1
theorem wv_or (ha : TV g X a ta) (hb : WV g X (.BoolOp .Or (b :: rest) pos) tb) : WV g X (.BoolOp .Or (a :: b :: rest) pos) (tOr ta tb) :=
  wv_of (pw_or ha hb) fun σ H Q ρ τ f h hP => stepT (ε := []) f (nilT h) hP fun c ρ1 hP1 H1 f1 k1 => by
    cases c with
    | false => exact ⟨ρ1, τ, f1, k1, hP1⟩
    | true => exact hP1 H1 f1 k1
theorem tv_w {e : Expr} {t : M Bool} (h : WV g X e t) : TV g X e t := h.pt
theorem tv_not (ha : TV g X a ta) : TV g X (.UnaryOp .Not a pos) (tNot ta) :=
  tv_of (pt_not ha) fun σ H Q ρ τ f h hP => stepT (ε := []) f (nilT h) hP fun c ρ1 hP1 H1 f1 k1 => hP1 H1 f1 k1
theorem ev_lst (hs : AV g X es fs) : EV g X (.List es pos) (eLst fs) :=
  ev_of (pe_lst hs) fun σ H Q ρ τ f h hP => stepA (ε := []) f (nilT h) hP fun hs ρ1 hP1 vs H1 f1 s1 k1 => by
    rw [List.nil_append] at k1
    cases e : takes hs ρ1 with
    | none => simp only [e] at hP1; exact hP1.elim
    | some p =>
      obtain ⟨as, ρ2⟩ := p
      simp only [e] at hP1
      obtain ⟨f2, l2, o2, k2⟩ := takes_ok f1 s1 k1 e
      split at hP1
      · rename_i hl
        refine ⟨lim_le (by rw [l2]; exact hl), fun p hp => hP1 (.ref p) _ f2 slot_tm ?_⟩
        exact (Hold.new_own k2 hp (a := .lst .ow as) rfl fun F s o => ⟨p, vs, rfl, upd_same, reps_of l2 o2 (fun x hx => List.mem_append_left _ hx) o⟩).sub (.cons_cons _ (List.sublist_append_right ..))
      · exact hP1.elim
end
end VL
set_option Elab.async false
set_option linter.all false
set_option maxRecDepth 100000
namespace VL
open PySem PySem.Spec PyProof.Rows L2
theorem op_or2 {X : Cx} {f : Value → Value → Sem Value} {r r' : R2} (h : OpR X f r) (h' : OpR X f r') : OpR X f (fun x y H Q => r x y H Q ∨ r' x y H Q) := by
  intro pins s σ H x y v u Q I rx ry q
  rcases q with q | q
  · exact h pins s σ H x y v u Q I rx ry q
  · exact h' pins s σ H x y v u Q I rx ry q
theorem call_or2 {X : Cx} {f : Value} {r r' : List V → Hp → VK → Prop} (h : CallR X f r) (h' : CallR X f r') : CallR X f (fun x H Q => r x H Q ∨ r' x H Q) := by
  intro pins s σ H x v Q I rx q
  rcases q with q | q
  · exact h pins s σ H x v Q I rx q
  · exact h' pins s σ H x v Q I rx q
def oI (C : Int → Int → Bool) (f : Int → Int → Int) : PV → PV → Option PV
  | .int i, .int j => if C i j = true then some (.int (f i j)) else none
  | _, _ => none
def oB (f : Int → Int → Bool) : PV → PV → Option PV
  | .int i, .int j => some (.bl (f i j))
  | _, _ => none
theorem opv_I {T : Tb} {C : Int → Int → Bool} {f : Int → Int → Int} {CP : Int → Int → Prop} (h : ∀ i j, C i j = true → CP i j) : Opv T (oI C f) (rI CP fun i j => .int (f i j)) := by
  intro H l a b c v w Q k m1 m2 e q
  cases a <;> cases b <;> simp only [oI] at e <;> try cases e
  rename_i i j
  split at e
  · rename_i hc
    cases e
    exact ⟨i, j, k.g_int m1, k.g_int m2, h i j hc, q _ _ k.int⟩
  · cases e
theorem opv_I0 {T : Tb} {f : Int → Int → Int} : Opv T (oI (fun _ _ => true) f) (rI0 fun i j => .int (f i j)) := by
  intro H l a b c v w Q k m1 m2 e q
  cases a <;> cases b <;> simp only [oI, if_true] at e <;> try cases e
  rename_i i j
  exact ⟨i, j, k.g_int m1, k.g_int m2, q _ _ k.int⟩
theorem opv_B {T : Tb} {f : Int → Int → Bool} : Opv T (oB f) (rI0 fun i j => .bl (f i j)) := by
  intro H l a b c v w Q k m1 m2 e q
  cases a <;> cases b <;> simp only [oB] at e <;> try cases e
  rename_i i j
  exact ⟨i, j, k.g_int m1, k.g_int m2, q _ _ k.bl⟩
def oSub : PV → PV → Option PV := oI (fun _ _ => true) fun i j => i - j
/-- numbers of up to 60 figures -/
def wideN : Nat := 10 ^ 60
def wide : Int := (wideN : Int)
theorem wideN_bits : wideN < 2 ^ 200 := by decide +kernel
theorem wide_30 {j : Int} (h : j < 1073741824) : j < wide := Int.lt_trans h (by decide +kernel)
def CDivW (i j : Int) : Prop := 0 < j ∧ j < wide
def CMulW (i j : Int) : Prop := CMul i j ∨ (i.natAbs < wideN ∧ j.natAbs < wideN)
theorem CMulW.ok {i j : Int} (h : CMulW i j) : IntMulOk i j := by
  rcases h with h | ⟨h1, h2⟩
  · exact h.ok
  · exact (mulx_ok (a := 200) (b := 200) (Nat.lt_trans h1 wideN_bits) (Nat.lt_trans h2 wideN_bits) (by decide)).ok
theorem op_mulW {X : Cx} : OpR X (binaryOp .Mult) (rI CMulW fun i j => .int (i * j)) := opI fun _ _ _ _ _ _ _ hc q => mul_int q hc.ok
theorem op_fdivW {X : Cx} : OpR X (binaryOp .FloorDiv) (rI CDivW fun i j => .int (i / j)) := opI fun i j _ _ _ _ _ hc q => by
  have h1 : (0 : Int) < j := hc.1
  have h2 : j < wide := hc.2
  have h3 : j.natAbs < 2 ^ 200 := by
    refine Nat.lt_trans ?_ wideN_bits
    unfold wide at h2
    omega
  exact floordiv_int (by omega) (by rw [Int.fdiv_eq_ediv_of_nonneg i (by omega)]; exact q) (.inl (PyProof.noPylong_of_log2 (Nat.lt_trans ((Nat.log2_lt (by omega)).mpr h3) (by decide))))
def cMul (i j : Int) : Bool := decide ((-(2 ^ 64) < i ∧ i < 2 ^ 64) ∨ (-(2 ^ 64) < j ∧ j < 2 ^ 64) ∨ (i.natAbs < wideN ∧ j.natAbs < wideN))
theorem cMul_ok {i j : Int} (h : cMul i j = true) : CMulW i j := by
  rcases of_decide_eq_true h with h | h | h
  · exact .inl (.inl h)
  · exact .inl (.inr h)
  · exact .inr h
def oDiv : PV → PV → Option PV := oI (fun _ j => decide (0 < j ∧ j < wide)) fun i j => i / j
def oMod : PV → PV → Option PV := oI (fun _ j => decide (0 < j)) fun i j => i % j
def oPow : PV → PV → Option PV := oI (fun i j => decide (0 ≤ j ∧ j ≤ 1000000 ∧ i.natAbs < 2 ^ 64)) fun i j => i ^ j.toNat
def oShl : PV → PV → Option PV := oI (fun i j => decide (0 ≤ j ∧ j ≤ 1000000 ∧ i.natAbs < 2 ^ 64)) fun i j => i * 2 ^ j.toNat
def oLt : PV → PV → Option PV := oB fun i j => decide (i < j)
def oGt : PV → PV → Option PV := oB fun i j => decide (j < i)
def oGe : PV → PV → Option PV := oB fun i j => decide (j ≤ i)
section
variable {T : Tb} {X : Cx}
theorem v_sub : Opv T oSub (rI0 fun i j => .int (i - j)) := opv_I0
theorem v_div : Opv T oDiv (rI CDivW fun i j => .int (i / j)) := opv_I fun i j h => show 0 < j ∧ j < wide from of_decide_eq_true h
theorem v_mod : Opv T oMod (rI (fun _ j => 0 < j) fun i j => .int (i % j)) := opv_I fun _ _ h => of_decide_eq_true h
theorem v_pow : Opv T oPow (rI CPow fun i j => .int (i ^ j.toNat)) := opv_I fun i j h => show 0 ≤ j ∧ j ≤ 1000000 ∧ i.natAbs < 2 ^ 64 from of_decide_eq_true h
theorem v_shl : Opv T oShl (rI CPow fun i j => .int (i * 2 ^ j.toNat)) := opv_I fun i j h => show 0 ≤ j ∧ j ≤ 1000000 ∧ i.natAbs < 2 ^ 64 from of_decide_eq_true h
theorem v_lt : Opv T oLt (rI0 fun i j => .bl (decide (i < j))) := opv_B
theorem v_gt : Opv T oGt (rI0 fun i j => .bl (decide (j < i))) := opv_B
theorem v_ge : Opv T oGe (rI0 fun i j => .bl (decide (j ≤ i))) := opv_B
def oNeg : PV → Option PV
  | .int i => some (.int (-i))
  | _ => none
theorem v_neg : Unv T oNeg (rU fun i => .int (-i)) := by
  intro H l a c v Q k m e q
  cases a <;> simp only [oNeg] at e <;> try cases e
  rename_i i
  exact ⟨i, k.g_int m, q _ _ k.int⟩
def oAdd : PV → PV → Option PV
  | .int i, .int j => some (.int (i + j))
  | .str x, .str y => if x.length + y.length ≤ lim then some (.str (x ++ y)) else none
  | .tup xs, .tup ys => if xs.length + ys.length ≤ lim then some (.tup (xs ++ ys)) else none
  | .lst _ xs, .lst _ ys => if xs.length + ys.length ≤ lim then some (.lst .ow (xs ++ ys)) else none
  | _, _ => none
def rAddA (K : PySem.W.Frag) : R2 := fun x y H Q => (rI0 (fun i j => .int (i + j)) x y H Q ∨ ∃ i j, x = .str i ∧ y = .str j ∧ i.length + j.length ≤ sizeLine ∧ Q (.str (i ++ j)) H) ∨ (rCatA K x y H Q ∨ rCat x y H Q)
theorem o_add : OpR X (binaryOp .Add) (rAddA X.K) := op_or2 (op_or2 op_add op_add_str) (op_or2 op_catA op_cat)
theorem v_add : Opv T oAdd (rAddA T.K) := by
  intro H l a b c v w Q k m1 m2 e q
  cases a <;> cases b <;> simp only [oAdd] at e <;> try cases e
  · rename_i i j
    exact .inl (.inl ⟨i, j, k.g_int m1, k.g_int m2, q _ _ k.int⟩)
  · rename_i x y
    split at e <;> cases e
    rename_i hl
    exact .inl (.inr ⟨x, y, k.g_str m1, k.g_str m2, lim_le hl, q _ _ k.str⟩)
  · rename_i xs ys
    split at e <;> cases e
    rename_i hl
    have both : ∃ F, Same F H ∧ (∀ x ∈ l, Own T H F x.1 x.2) ∧ (fpOf H l).Nodup ∧ ∀ p ∈ fpOf H l, F p = none := k
    obtain ⟨F, s, o, n, d⟩ := both
    obtain ⟨p, vs, rfl, h1, r1⟩ := o _ m1
    obtain ⟨p2, ws, rfl, h2, r2⟩ := o _ m2
    simp only [PV.own, PV.fl, Bool.false_eq_true, if_false] at h1 h2
    have k : Hold T H l := ⟨F, s, o, n, d⟩
    refine .inr (.inl ⟨p, p2, vs, ws, rfl, rfl, s.seqT h1, s.seqT h2, lim_le (by rw [r1.length, r2.length]; exact hl), fun z => ?_, fun z1 z2 => ?_, fun z1 z2 t ht => ?_⟩)
    · subst z
      have : xs = [] := by have := r1.length; cases xs <;> simp_all
      subst this
      exact q _ _ (k.dup m2 rfl)
    · subst z2
      have : ys = [] := by have := r2.length; cases ys <;> simp_all
      subst this
      rw [List.append_nil] at q
      exact q _ _ (k.dup m1 rfl)
    · have e2 : Same H (upd H t (.tup (vs ++ ws))) := My.same_new ht _
      have ft : F t = none := by
        cases kk : F t with
        | none => rfl
        | some u => have := s _ _ kk; rw [ht] at this; cases this
      have ef : Same F (upd F t (.tup (vs ++ ws))) := My.same_new ft _
      refine q _ _ ?_
      have np : t ∉ fpOf H l := fp_new o ht
      obtain ⟨o', fe⟩ := own_upd (o := .tup (vs ++ ws)) ef o np
      refine ⟨upd F t (.tup (vs ++ ws)), fun b u kk => ?_, fun x hx => ?_, by rw [fpOf_fz rfl, fe]; exact n, fun q' hq => ?_⟩
      · by_cases eb : b = t
        · subst eb; rw [upd_same] at kk ⊢; exact kk
        · rw [upd_ne eb] at kk ⊢; exact s _ _ kk
      · rcases List.mem_cons.mp hx with rfl | hx
        · exact ⟨t, vs ++ ws, rfl, SqT.of (by simp only [PV.own, PV.fl, Bool.false_eq_true, if_false]; exact upd_same), (r1.append r2).mono ef⟩
        · exact o' x hx
      · rw [fpOf_fz rfl, fe] at hq
        rw [upd_ne (show q' ≠ t from fun z => np (by rw [← z]; exact hq))]
        exact d q' hq
  · rename_i o1 xs o2 ys
    split at e <;> cases e
    rename_i hl
    obtain ⟨p, vs, rfl, h1, l1, _⟩ := k.g_lst m1
    obtain ⟨p2, ws, rfl, h2, l2, _⟩ := k.g_lst m2
    refine .inr (.inr ⟨p, p2, vs, ws, rfl, rfl, h1, h2, lim_le (by rw [l1, l2]; exact hl), fun t ht => q _ _ ?_⟩)
    refine Hold.new_own k ht (a := .lst .ow (xs ++ ys)) rfl fun F s o => ?_
    have a1 := o _ m1
    have a2 := o _ m2
    have g1 : Reps T F xs vs := by
      unfold Own at a1
      obtain ⟨p', vs', ev, h', r'⟩ := a1
      cases ev
      have : some (HO.lst vs') = some (HO.lst vs) := by
        split at h'
        · rw [← h', ← h1]
        · rw [← s _ _ h', ← h1]
      cases this; exact r'
    have g2 : Reps T F ys ws := by
      unfold Own at a2
      obtain ⟨p', vs', ev, h', r'⟩ := a2
      cases ev
      have : some (HO.lst vs') = some (HO.lst ws) := by
        split at h'
        · rw [← h', ← h2]
        · rw [← s _ _ h', ← h2]
      cases this; exact r'
    exact ⟨t, vs ++ ws, rfl, upd_same, g1.append g2⟩
end
/-- a list's items, whatever frozen heap -/
theorem reps_lst {T : Tb} {H F : Hp} {l : Its} {o : Fl} {xs : List PV} {p : Addr} {vs : List V} (s : Same F H) (ow : ∀ x ∈ l, Own T H F x.1 x.2) (m : (PV.lst o xs, V.ref p) ∈ l) (h : H p = some (.lst vs)) : Reps T F xs vs := by
  have a1 := ow _ m
  unfold Own at a1
  obtain ⟨p', vs', ev, h', r'⟩ := a1
  cases ev
  have : some (HO.lst vs') = some (HO.lst vs) := by
    split at h'
    · rw [← h', ← h]
    · rw [← s _ _ h', ← h]
  cases this; exact r'
end VL
set_option Elab.async false
set_option linter.all false
set_option maxRecDepth 100000
namespace VL
open PySem PySem.Spec PyProof.Rows L2
def dat : PV → PyData
  | .non => .none
  | .bl b => .bool b
  | .int i => .int i
  | .str x => .str x
  | .tup xs => .tuple (xs.map dat)
  | .lst _ xs => .list (xs.map dat)
  | .scr ns => .list (ns.map .int)
  | .emp | .dK _ _ _ | .dN _ _ _ | .obj _ _ _ | .ty _ | .cls _ | .err _ _ _ | .nst _ _ _ | .frm _ | .cel _ _ => .dict []
@[simp] theorem dat_non : dat .non = .none := by simp only [dat]
@[simp] theorem dat_bl (b : Bool) : dat (.bl b) = .bool b := by simp only [dat]
@[simp] theorem dat_int (i : Int) : dat (.int i) = .int i := by simp only [dat]
@[simp] theorem dat_str (x : Str) : dat (.str x) = .str x := by simp only [dat]
@[simp] theorem dat_tup (xs : List PV) : dat (.tup xs) = .tuple (xs.map dat) := by simp only [dat]
@[simp] theorem dat_lst (o : Fl) (xs : List PV) : dat (.lst o xs) = .list (xs.map dat) := by simp only [dat]
theorem canAll {xs : List PyData} : PyData.canLayAll0 xs = true ↔ ∀ d ∈ xs, d.canLay0 = true := by
  induction xs with
  | nil => simp [PyData.canLayAll0]
  | cons x xs ih => simp [PyData.canLayAll0, ih]
theorem depAll {xs : List PyData} {n : Nat} : PyData.depthAll xs ≤ n ↔ ∀ d ∈ xs, d.depth ≤ n := by
  induction xs with
  | nil => simp [PyData.depthAll]
  | cons x xs ih => simp only [PyData.depthAll, List.mem_cons, forall_eq_or_imp, ← ih]; omega
theorem eqv_all {xs ys : List PyData} : PyData.eqvAll xs ys = (decide (xs.length = ys.length) && (xs.zip ys).all fun p => PyData.eqv p.1 p.2) := by
  induction xs generalizing ys with
  | nil => cases ys <;> simp [PyData.eqvAll]
  | cons x xs ih =>
    cases ys with
    | nil => simp [PyData.eqvAll]
    | cons y ys =>
      simp only [PyData.eqvAll, ih, List.length_cons, List.zip_cons_cons, List.all_cons, Nat.add_right_cancel_iff]
      cases PyData.eqv x y <;> cases decide (xs.length = ys.length) <;> rfl
section
variable {T : Tb} {H F : Hp}
mutual
theorem Rep.dp (s : Same F H) : ∀ {a : PV} {v : V}, Rep T F a v → (dat a).canLay0 = true → Dp T.K H v (dat a)
  | .non, _, h, _ => by simp only [Rep] at h; subst h; simp only [dat]; exact .non
  | .bl _, _, h, _ => by simp only [Rep] at h; subst h; simp only [dat]; exact .bl _
  | .int _, _, h, _ => by simp only [Rep] at h; subst h; simp only [dat]; exact .int _
  | .str _, _, h, _ => by simp only [Rep] at h; subst h; simp only [dat]; exact .str _
  | .tup xs, _, h, c => by
    simp only [Rep] at h
    obtain ⟨p, vs, rfl, h1, h2⟩ := h
    simp only [dat_tup] at c ⊢
    exact .tup (s.seqT h1) (Reps.dp s h2 (by simpa only [PyData.canLay0] using c))
  | .lst _ xs, _, h, c => by
    simp only [Rep] at h
    obtain ⟨p, vs, rfl, h1, h2⟩ := h
    simp only [dat_lst] at c ⊢
    exact .lst (SqL.of (s _ _ h1)) (Reps.dp s h2 (by simpa only [PyData.canLay0] using c))
  | .scr ns, _, h, _ => by
    simp only [Rep] at h
    obtain ⟨p, rfl, h1⟩ := h
    simp only [dat]
    exact .lst (s.seq h1) (My.dpInts ns)
  | .emp, _, _, c => by simp [dat, PyData.canLay0] at c
  | .dK _ _ _, _, _, c => by simp [dat, PyData.canLay0] at c
  | .dN _ _ _, _, _, c => by simp [dat, PyData.canLay0] at c
  | .obj _ _ _, _, _, c => by simp [dat, PyData.canLay0] at c
  | .ty _, _, _, c => by simp [dat, PyData.canLay0] at c
  | .cls _, _, _, c => by simp [dat, PyData.canLay0] at c
  | .err _ _ _, _, _, c => by simp [dat, PyData.canLay0] at c
  | .nst _ _ _, _, _, c => by simp [dat, PyData.canLay0] at c
  | .frm _, _, _, c => by simp [dat, PyData.canLay0] at c
  | .cel _ _, _, _, c => by simp [dat, PyData.canLay0] at c
theorem Reps.dp (s : Same F H) : ∀ {xs : List PV} {vs : List V}, Reps T F xs vs → PyData.canLayAll0 (xs.map dat) = true → DpAll T.K H vs (xs.map dat)
  | [], _, h, _ => by simp only [Reps] at h; subst h; exact .nil
  | x :: xs, _, h, c => by
    obtain ⟨v, vs', rfl, h1, _, h2⟩ := h.inv
    simp only [List.map_cons, PyData.canLayAll0, Bool.and_eq_true] at c
    exact .cons (Rep.dp s h1 c.1) (Reps.dp s h2 c.2)
end
theorem Hold.dp {l : Its} {a : PV} {v : V} (h : Hold T H l) (m : (a, v) ∈ l) (c : (dat a).canLay0 = true) : Dp T.K H v (dat a) := by
  obtain ⟨F, s, r, _⟩ := h.get m
  cases a with
  | lst o xs =>
    obtain ⟨p, vs, rfl, h1, h2⟩ := r
    simp only [dat_lst] at c ⊢
    exact .lst (SqL.of h1) (h2.dp s (by simpa only [PyData.canLay0] using c))
  | non => cases r; simp only [dat]; exact .non
  | bl _ => cases r; simp only [dat]; exact .bl _
  | int _ => cases r; simp only [dat]; exact .int _
  | str _ => cases r; simp only [dat]; exact .str _
  | tup xs =>
    obtain ⟨p, vs, rfl, h1, h2⟩ := r
    simp only [dat_tup] at c ⊢
    exact .tup h1 (h2.dp s (by simpa only [PyData.canLay0] using c))
  | scr ns =>
    obtain ⟨p, rfl, h1⟩ := r
    simp only [dat]
    exact .lst h1 (My.dpInts ns)
  | _ => simp [dat, PyData.canLay0] at c
end
def laid (a : PV) : Bool := SeqAt.shaped (dat a)
theorem laid_can {a : PV} (h : laid a = true) : (dat a).canLay0 = true := SeqAt.canLay_of_shaped h
def oEq (neg : Bool) (a b : PV) : Option PV := if (laid a && laid b) = true then some (.bl (neg != PyData.eqv (dat a) (dat b))) else none
def oIs (neg : Bool) : PV → PV → Option PV
  | .emp, _ => none
  | .non, .non => some (.bl (!neg))
  | _, .non => some (.bl neg)
  | _, _ => none
def flat : PV → Bool
  | .non | .bl _ | .int _ | .str _ => true
  | _ => false
def hasIn (xs : List PV) (x : PV) : Bool := xs.any fun z => PyData.eqv (dat z) (dat x)
def oIn (neg : Bool) (x : PV) : PV → Option PV
  | .lst o ys => if ((flat x && ys.all flat) || (laid x && laid (.lst o ys))) = true then some (.bl (neg != hasIn ys x)) else none
  | .tup ys => if (flat x && ys.all flat) = true then some (.bl (neg != hasIn ys x)) else none
  | .str y => match x with
    | .str z => some (.bl (neg != !(Builtin.Str.occurrences y z 0 y.length 1).isEmpty))
    | _ => none
  | _ => none
section
variable {T : Tb} {X : Cx}
theorem v_eq : Opv T (oEq false) (rEqD T.K) := by
  intro H l a b c v w Q k m1 m2 e q
  unfold oEq at e
  split at e
  · rename_i hc
    cases e
    rw [Bool.and_eq_true] at hc
    refine ⟨dat a, dat b, k.dp m1 (laid_can hc.1), k.dp m2 (laid_can hc.2), hc.1, hc.2, ?_⟩
    have := q (.bl (PyData.eqv (dat a) (dat b))) H (by simpa using k.bl (b := PyData.eqv (dat a) (dat b)))
    exact this
  · cases e
theorem v_ne : Opv T (oEq true) (rNeD T.K) := by
  intro H l a b c v w Q k m1 m2 e q
  unfold oEq at e
  split at e
  · rename_i hc
    cases e
    rw [Bool.and_eq_true] at hc
    refine ⟨dat a, dat b, k.dp m1 (laid_can hc.1), k.dp m2 (laid_can hc.2), hc.1, hc.2, ?_⟩
    exact q (.bl (!PyData.eqv (dat a) (dat b))) H (by simpa using k.bl (b := !PyData.eqv (dat a) (dat b)))
  · cases e
theorem Hold.isNon {H : Hp} {l : Its} {a : PV} {v : V} (k : Hold T H l) (m : (a, v) ∈ l) (he : a ≠ .emp) : (v = .non ↔ a = .non) := by
  obtain ⟨F, s, r, _⟩ := k.get m
  cases a with
  | emp => exact absurd rfl he
  | non => cases r; exact ⟨fun _ => rfl, fun _ => rfl⟩
  | bl _ => cases r; exact ⟨(fun z => nomatch z), (fun z => nomatch z)⟩
  | int _ => cases r; exact ⟨(fun z => nomatch z), (fun z => nomatch z)⟩
  | str _ => cases r; exact ⟨(fun z => nomatch z), (fun z => nomatch z)⟩
  | tup _ => obtain ⟨p, vs, rfl, _⟩ := r; exact ⟨(fun z => nomatch z), (fun z => nomatch z)⟩
  | lst _ _ => obtain ⟨p, vs, rfl, _⟩ := r; exact ⟨(fun z => nomatch z), (fun z => nomatch z)⟩
  | err _ _ _ => obtain ⟨p, vs, rfl, _⟩ := r; exact ⟨(fun z => nomatch z), (fun z => nomatch z)⟩
  | dK _ _ _ => obtain ⟨p, vs, rfl, _⟩ := r; exact ⟨(fun z => nomatch z), (fun z => nomatch z)⟩
  | dN _ _ _ => obtain ⟨p, vs, rfl, _⟩ := r; exact ⟨(fun z => nomatch z), (fun z => nomatch z)⟩
  | obj _ _ _ => obtain ⟨p, dx, vs, rfl, _⟩ := r; exact ⟨(fun z => nomatch z), (fun z => nomatch z)⟩
  | scr _ => obtain ⟨p, rfl, _⟩ := r; exact ⟨(fun z => nomatch z), (fun z => nomatch z)⟩
  | ty _ => cases r; exact ⟨(fun z => nomatch z), (fun z => nomatch z)⟩
  | cls _ => cases r; exact ⟨(fun z => nomatch z), (fun z => nomatch z)⟩
  | nst _ _ _ => obtain ⟨_, p, vs, rfl, _⟩ := r; exact ⟨(fun z => nomatch z), (fun z => nomatch z)⟩
  | frm _ => obtain ⟨rfl, _⟩ := r; exact ⟨(fun z => nomatch z), (fun z => nomatch z)⟩
  | cel _ _ => obtain ⟨_, p, rfl, _⟩ := r; exact ⟨(fun z => nomatch z), (fun z => nomatch z)⟩
theorem oIs_some {neg : Bool} {a b c : PV} (e : oIs neg a b = some c) : a ≠ .emp ∧ b = .non ∧ ((a = .non ∧ c = .bl (!neg)) ∨ (a ≠ .non ∧ c = .bl neg)) := by
  cases b with
  | non =>
    cases a <;> simp only [oIs] at e <;> cases e <;> refine ⟨(fun z => nomatch z), rfl, ?_⟩ <;> first | exact .inl ⟨rfl, rfl⟩ | exact .inr ⟨(fun z => nomatch z), rfl⟩
  | _ => cases a <;> simp [oIs] at e
theorem v_is : Opv T (oIs false) (fun x y H Q => y = .non ∧ Q (.bl (decide (x = .non))) H) := by
  intro H l a b c v w Q k m1 m2 e q
  obtain ⟨n1, rfl, h⟩ := oIs_some e
  have hn := k.isNon m1 n1
  refine ⟨k.g_non m2, q _ _ ?_⟩
  rcases h with ⟨rfl, rfl⟩ | ⟨n2, rfl⟩
  · rw [hn.mpr rfl]; exact k.bl
  · rw [decide_eq_false (fun z => n2 (hn.mp z))]; exact k.bl
theorem rep_flat {F : Hp} {a : PV} {v : V} (h : Rep T F a v) (f : flat a = true) : flatV v = true := by
  cases a <;> simp [flat] at f <;> simp only [Rep] at h <;> subst h <;> rfl
theorem eqV_dat {F : Hp} {a b : PV} {v w : V} (h : Rep T F a v) (h' : Rep T F b w) (f : flat a = true) (f' : flat b = true) : eqV v w = PyData.eqv (dat a) (dat b) := by
  cases a <;> simp [flat] at f <;> cases b <;> simp [flat] at f' <;> simp only [Rep] at h h' <;> subst h <;> subst h' <;> simp [dat, eqV, PyData.eqv]
theorem inV_dat {F : Hp} {x : PV} {v : V} (h : Rep T F x v) (f : flat x = true) : ∀ {ys : List PV} {vs : List V}, Reps T F ys vs → ys.all flat = true → vs.all flatV = true ∧ inV v vs = hasIn ys x
  | [], _, r, _ => by simp only [Reps] at r; subst r; exact ⟨rfl, rfl⟩
  | y :: ys, _, r, a => by
    obtain ⟨w, ws, rfl, h1, _, h2⟩ := r.inv
    simp only [List.all_cons, Bool.and_eq_true] at a
    obtain ⟨q1, q2⟩ := inV_dat h f h2 a.2
    refine ⟨by simp [rep_flat h1 a.1, q1], ?_⟩
    show (eqV w v || inV v ws) = _
    rw [q2, eqV_dat h1 h a.1 f]
    rfl
def rInA (K : PySem.W.Frag) (neg : Bool) : R2 := fun x y H Q => (rIn K neg x y H Q ∨ (if neg = true then rNotInD K x y H Q else rInD K x y H Q)) ∨ ∃ i j, x = .str i ∧ y = .str j ∧ Q (.bl (neg != !(Builtin.Str.occurrences j i 0 j.length 1).isEmpty)) H
theorem o_notIn (hu : X.A.units + 65 < cLine) : OpR X (compareOp .NotIn) (rInA X.K true) := op_or2 (op_or2 op_notIn_seq (op_notInD hu)) (by
  intro pins s σ H x y v u Q I rx ry ⟨i, j, h1, h2, q⟩
  exact op_notIn_str pins s σ H x y v u Q I rx ry ⟨i, j, h1, h2, by simpa using q⟩)
theorem Hold.repF {H : Hp} {l : Its} {a : PV} {v : V} (k : Hold T H l) (m : (a, v) ∈ l) (f : flat a = true) (F : Hp) : Rep T F a v := by
  obtain ⟨_, _, r, _⟩ := k.get m
  cases a <;> simp [flat] at f <;> simp only [Rep] <;> exact r
theorem v_in {neg : Bool} : Opv T (oIn neg) (rInA T.K neg) := by
  intro H l a b c v w Q k m1 m2 e q
  cases b with
  | lst o ys =>
    simp only [oIn] at e
    split at e
    · rename_i hc
      cases e
      obtain ⟨p, vs, rfl, h1, l1, F, s, r⟩ := k.g_lst m2
      simp only [Bool.or_eq_true, Bool.and_eq_true] at hc
      rcases hc with ⟨f1, f2⟩ | ⟨d1, d2⟩
      · obtain ⟨q1, q2⟩ := inV_dat (k.repF m1 f1 F) f1 r f2
        refine .inl (.inl ⟨p, vs, rfl, .inl (SqL.of h1), rep_flat (k.repF m1 f1 F) f1, q1, q _ _ ?_⟩)
        rw [q2]
        cases neg
        · simpa using k.bl (b := hasIn ys a)
        · simpa using k.bl (b := !hasIn ys a)
      · refine .inl (.inr ?_)
        have e1 := k.dp m1 (laid_can d1)
        have e2 := k.dp m2 (laid_can d2)
        have e3 : hasIn ys a = (ys.map dat).any fun z => PyData.eqv z (dat a) := by unfold hasIn; rw [List.any_map]; rfl
        rw [dat_lst] at e2
        unfold laid at d1 d2
        rw [dat_lst] at d2
        cases neg
        · simp only [Bool.false_eq_true, if_false]
          refine ⟨dat a, ys.map dat, e1, e2, d1, d2, q _ _ ?_⟩
          rw [← e3]
          simpa using k.bl (b := hasIn ys a)
        · simp only [if_true]
          refine ⟨dat a, ys.map dat, e1, e2, d1, d2, q _ _ ?_⟩
          rw [← e3]
          simpa using k.bl (b := !hasIn ys a)
    · cases e
  | tup ys =>
    simp only [oIn] at e
    split at e
    · rename_i hc
      cases e
      obtain ⟨p, vs, rfl, h1, l1, F, s, r⟩ := k.g_tup m2
      simp only [Bool.and_eq_true] at hc
      obtain ⟨f1, f2⟩ := hc
      obtain ⟨q1, q2⟩ := inV_dat (k.repF m1 f1 F) f1 r f2
      refine .inl (.inl ⟨p, vs, rfl, .inr h1, rep_flat (k.repF m1 f1 F) f1, q1, q _ _ ?_⟩)
      rw [q2]
      cases neg
      · simpa using k.bl (b := hasIn ys a)
      · simpa using k.bl (b := !hasIn ys a)
    · cases e
  | str y =>
    cases a with
    | str z =>
      simp only [oIn] at e
      cases e
      exact .inr ⟨z, y, k.g_str m1, k.g_str m2, q _ _ k.bl⟩
    | _ => simp [oIn] at e
  | _ => simp [oIn] at e
def oMul : PV → PV → Option PV
  | .int i, .int j => if cMul i j = true then some (.int (i * j)) else none
  | .lst _ xs, .int k => if k ≤ (lim : Nat) ∧ -(2 ^ 63) ≤ k ∧ xs.length * k.toNat ≤ lim then some (.lst .ow (List.replicate k.toNat xs).flatten) else none
  | _, _ => none
theorem Reps.rep {F : Hp} {xs : List PV} {vs : List V} (r : Reps T F xs vs) : ∀ n : Nat, Reps T F (List.replicate n xs).flatten (List.replicate n vs).flatten
  | 0 => .nil
  | n + 1 => by rw [List.replicate_succ, List.replicate_succ, List.flatten_cons, List.flatten_cons]; exact r.append (Reps.rep r n)
def rMulA : R2 := fun x y H Q => rI CMulW (fun i j => .int (i * j)) x y H Q ∨ rRep x y H Q
theorem o_mul : OpR X (binaryOp .Mult) rMulA := op_or2 op_mulW op_rep
theorem v_mul : Opv T oMul rMulA := by
  intro H l a b c v w Q k m1 m2 e q
  cases a <;> cases b <;> simp only [oMul] at e <;> try cases e
  · rename_i i j
    split at e <;> cases e
    rename_i hc
    exact .inl ⟨i, j, k.g_int m1, k.g_int m2, cMul_ok hc, q _ _ k.int⟩
  · rename_i o xs n
    split at e <;> cases e
    rename_i hc
    obtain ⟨p, vs, rfl, h1, l1, _⟩ := k.g_lst m1
    have hl : (lim : Nat) = 100000 := rfl
    refine .inr ⟨p, n, vs, rfl, k.g_int m2, h1, hc.2.1, by have := hc.1; rw [hl] at this; omega, lim_le (by rw [l1]; exact hc.2.2), fun t ht => q _ _ ?_⟩
    exact Hold.new_own k ht rfl fun F s o => ⟨t, _, rfl, upd_same, (reps_lst s o m1 h1).rep _⟩
def oIx : PV → PV → Option PV
  | .lst _ xs, .int i => atI xs i
  | .tup xs, .int i => atI xs i
  | .scr ns, .int i => (atI ns i).map .int
  | .str z, .int i => if z.length ≤ lim then (atI z.cps.toList i).map fun c => .str ⟨#[c]⟩ else none
  | _, _ => none
theorem atI_reps {F : Hp} {xs : List PV} {vs : List V} {i : Int} {c : PV} (r : Reps T F xs vs) (e : atI xs i = some c) : ∃ w, atI vs i = some w ∧ Rep T F c w ∧ c.own = false := by
  unfold atI at e ⊢
  rw [r.length]
  cases h : ixN xs.length i with
  | none => rw [h] at e; cases e
  | some j =>
    rw [h] at e
    obtain ⟨w, h1, h2, h3⟩ := r.at (i := j) e
    exact ⟨w, h1, h2, h3⟩
theorem atI_map {α β : Type} (f : α → β) (xs : List α) (i : Int) : atI (xs.map f) i = (atI xs i).map f := by
  unfold atI
  rw [List.length_map]
  cases ixN xs.length i with
  | none => rfl
  | some j => simp
theorem ix_seqA : IxR X (rIx X.K) := My.ix_seqK rfl
theorem v_ix : Opv T oIx (rIx T.K) := by
  intro H l a b c v w Q k m1 m2 e q
  have kk := k
  obtain ⟨F, s, o, n, d⟩ := k
  cases a <;> cases b <;> simp only [oIx] at e <;> try cases e
  · rename_i z i
    split at e
    · rename_i hl
      cases h : atI z.cps.toList i with
      | none => rw [h] at e; cases e
      | some c' =>
        rw [h] at e; cases e
        exact .inr (.inr ⟨z, i, c', kk.g_str m1, kk.g_int m2, lim_le hl, h, q _ _ kk.str⟩)
    · cases e
  · rename_i xs i
    obtain ⟨p, vs, rfl, h1, r⟩ := o _ m1
    simp only [PV.own, PV.fl, Bool.false_eq_true, if_false] at h1
    obtain ⟨w', e1, e2, e3⟩ := atI_reps r e
    refine .inr (.inl ⟨p, vs, i, w', rfl, kk.g_int m2, s.seqT h1, e1, q _ _ ⟨F, s, fun x hx => ?_, by rw [fpOf_fz e3]; exact n, by rw [fpOf_fz e3]; exact d⟩⟩)
    rcases List.mem_cons.mp hx with rfl | hx
    · exact (Own.fz e3).mpr e2
    · exact o x hx
  · rename_i fl xs i
    obtain ⟨p, vs, rfl, h1, _⟩ := kk.g_lst m1
    obtain ⟨w', e1, e2, e3⟩ := atI_reps (reps_lst s o m1 h1) e
    refine .inl ⟨p, vs, i, w', rfl, kk.g_int m2, SqL.of h1, e1, q _ _ ⟨F, s, fun x hx => ?_, by rw [fpOf_fz e3]; exact n, by rw [fpOf_fz e3]; exact d⟩⟩
    rcases List.mem_cons.mp hx with rfl | hx
    · exact (Own.fz e3).mpr e2
    · exact o x hx
  · rename_i ns i
    obtain ⟨_, s', ⟨p, rfl, h1⟩, _⟩ := kk.get m1
    cases h : atI ns i with
    | none => rw [h] at e; cases e
    | some c' =>
      rw [h] at e; cases e
      refine .inl ⟨p, _, i, .int c', rfl, kk.g_int m2, h1, by rw [atI_map, h]; rfl, q _ _ kk.int⟩
end
section
variable {g : G} {X : Cx} {a b : Expr} {fa fb : M Hd} {pos : Pos} {op : PV → PV → Option PV} {r : R2}
theorem ev_ix (hr : IxR X r) (hg : Opv g.T op r) (ha : EV g X a fa) (hb : EV g X b fb) (hs : PlainIx b) : EV g X (.Subscript a b pos) (eBin op fa fb) :=
  ev_of (pe_ix hr ha hb hs) fun σ H Q ρ τ f h hP => two f h hP fun h1 h2 ρ2 hP2 v w H2 l f2 s1 s2 el k m1 m2 dn => by
    cases e : op (hv ρ2 h1) (hv ρ2 h2) with
    | none => rw [e] at hP2; exact hP2.elim
    | some c =>
      rw [e] at hP2
      exact hg H2 l _ _ c v w Q k m1 m2 e fun z H' k' => hP2 z H' f2 slot_tm (dn c z H' k')
end
end VL
set_option Elab.async false
set_option linter.all false
set_option maxRecDepth 100000
namespace VL
open PySem PySem.Spec PyProof.Rows L2
end VL
set_option Elab.async false
set_option linter.all false
set_option maxRecDepth 100000
namespace VL
open PySem PySem.Spec PyProof.Rows L2
def oLen : List PV → Option PV
  | [.lst _ xs] => some (.int (xs.length : Nat))
  | [.tup xs] => some (.int (xs.length : Nat))
  | [.scr ns] => some (.int (ns.length : Nat))
  | [.str x] => if x.length ≤ lim then some (.int (x.length : Nat)) else none
  | [.dK _ ks _] => some (.int (ks.length : Nat))
  | _ => none
def oList : List PV → Option PV
  | [.lst _ xs] => some (.lst .ow xs)
  | [.tup xs] => some (.lst .ow xs)
  | [.scr ns] => some (.lst .ow (ns.map .int))
  | _ => none
def oInt : List PV → Option PV
  | [.int i] => some (.int i)
  | [.bl b] => some (.int (if b then 1 else 0))
  | _ => none
def oAbs : List PV → Option PV
  | [.int i] => some (.int (if i < 0 then -i else i))
  | _ => none
def oMin2 : List PV → Option PV
  | [.int i, .int j] => some (.int (if j < i then j else i))
  | _ => none
section
variable {T : Tb} {X : Cx}
theorem one_arg {as : List PV} {vs : List V} {l : Its} {a : PV} (e : as = [a]) (hl : vs.length = as.length) (m : ∀ x ∈ as.zip vs, x ∈ l) : ∃ v, vs = [v] ∧ (a, v) ∈ l := by
  subst e
  match vs, hl with
  | [v], _ => exact ⟨v, rfl, m _ (by simp)⟩
theorem two_arg {as : List PV} {vs : List V} {l : Its} {a b : PV} (e : as = [a, b]) (hl : vs.length = as.length) (m : ∀ x ∈ as.zip vs, x ∈ l) : ∃ v w, vs = [v, w] ∧ (a, v) ∈ l ∧ (b, w) ∈ l := by
  subst e
  match vs, hl with
  | [v, w], _ => exact ⟨v, w, rfl, m _ (by simp), m _ (by simp)⟩
def rLenA (K : PySem.W.Frag) : List V → Hp → VK → Prop := fun xs H Q => ((∃ p ys, xs = [.ref p] ∧ (SqL K H p ys ∨ SqT K H p ys) ∧ Q (.int ys.length) H) ∨ (∃ z, xs = [.str z] ∧ z.length ≤ sizeLine ∧ Q (.int z.length) H)) ∨ ∃ a kvs, xs = [V.ref a] ∧ H a = some (.dK kvs) ∧ Q (.int kvs.length) H
theorem c_len : CallR X (.builtin "len") (rLenA X.K) := call_or2 (call_or2 call_len_seq call_len_str) call_lenD
theorem f_len : Fnv T oLen (rLenA T.K) := by
  intro H l as c vs Q k hl m0 e q
  unfold oLen at e
  split at e
  · cases e
    obtain ⟨v, rfl, m⟩ := one_arg rfl hl m0
    obtain ⟨p, vs, rfl, h1, l1, _⟩ := k.g_lst m
    refine .inl (.inl ⟨p, vs, rfl, .inl (SqL.of h1), q _ _ ?_⟩)
    rw [l1]; exact k.int
  · cases e
    obtain ⟨v, rfl, m⟩ := one_arg rfl hl m0
    obtain ⟨p, vs, rfl, h1, l1, _⟩ := k.g_tup m
    refine .inl (.inl ⟨p, vs, rfl, .inr h1, q _ _ ?_⟩)
    rw [l1]; exact k.int
  · cases e
    obtain ⟨v, rfl, m⟩ := one_arg rfl hl m0
    obtain ⟨_, _, ⟨p, rfl, h1⟩, _⟩ := k.get m
    refine .inl (.inl ⟨p, _, rfl, .inl h1, q _ _ ?_⟩)
    rw [List.length_map]; exact k.int
  · split at e <;> cases e
    rename_i x hx
    obtain ⟨v, rfl, m⟩ := one_arg rfl hl m0
    exact .inl (.inr ⟨x, by rw [k.g_str m], lim_le hx, q _ _ k.int⟩)
  · cases e
    obtain ⟨v, rfl, m⟩ := one_arg rfl hl m0
    obtain ⟨_, _, ⟨p, vs, rfl, h1, h2, _⟩, _⟩ := k.get m
    refine .inr ⟨p, _, rfl, h1, q _ _ ?_⟩
    rw [List.length_zip, ← h2, Nat.min_self]; exact k.int
  · cases e
theorem f_list : Fnv T oList (fun xs H Q => ∃ p ys, xs = [.ref p] ∧ (SqL T.K H p ys ∨ SqT T.K H p ys) ∧ ∀ l, H l = none → Q (.ref l) (upd H l (.lst ys))) := by
  intro H l as c vs Q k hl m0 e q
  unfold oList at e
  split at e
  · cases e
    obtain ⟨v, rfl, m⟩ := one_arg rfl hl m0
    obtain ⟨p, vs, rfl, h1, l1, _⟩ := k.g_lst m
    exact ⟨p, vs, rfl, .inl (SqL.of h1), fun t ht => q _ _ (Hold.new_own k ht rfl fun F s o => ⟨t, _, rfl, upd_same, reps_lst s o m h1⟩)⟩
  · cases e
    obtain ⟨v, rfl, m⟩ := one_arg rfl hl m0
    have kk := k
    obtain ⟨F, s, o, n, d⟩ := k
    obtain ⟨p, vs, rfl, hp, r⟩ := o _ m
    simp only [PV.own, PV.fl, Bool.false_eq_true, if_false] at hp
    refine ⟨p, vs, rfl, .inr (s.seqT hp), fun t ht => q _ _ ?_⟩
    -- the new list's items lie in this very F
    have e : Same H (upd H t (.lst vs)) := My.same_new ht _
    have np := fp_new o ht
    obtain ⟨o', fe⟩ := own_upd (o := .lst vs) (Same.refl F) o np
    refine ⟨F, s.trans e, fun x hx => ?_, by rw [fpOf_ow rfl, fe]; exact List.nodup_cons.mpr ⟨np, n⟩, fun q' hq => ?_⟩
    · rcases List.mem_cons.mp hx with rfl | hx
      · exact (Own.ow rfl).mpr ⟨t, vs, rfl, upd_same, r⟩
      · exact o' x hx
    · rw [fpOf_ow rfl, fe] at hq
      rcases List.mem_cons.mp hq with rfl | hq
      · cases kk : F q' with
        | none => rfl
        | some u => have := s _ _ kk; rw [ht] at this; cases this
      · exact d q' hq
  · cases e
    obtain ⟨v, rfl, m⟩ := one_arg rfl hl m0
    obtain ⟨_, _, ⟨p, rfl, h1⟩, _⟩ := k.get m
    exact ⟨p, _, rfl, .inl h1, fun t ht => q _ _ (Hold.new_own k ht rfl fun F s o => ⟨t, _, rfl, upd_same, Reps.ints _⟩)⟩
  · cases e
theorem f_int : Fnv T oInt (fun xs H Q => (∃ i, xs = [.int i] ∧ Q (.int i) H) ∨ ∃ k, xs = [.bl k] ∧ Q (.int (if k then 1 else 0)) H) := by
  intro H l as c vs Q k hl m0 e q
  unfold oInt at e
  split at e
  · cases e
    obtain ⟨v, rfl, m⟩ := one_arg rfl hl m0
    exact .inl ⟨_, by rw [k.g_int m], q _ _ k.int⟩
  · cases e
    obtain ⟨v, rfl, m⟩ := one_arg rfl hl m0
    exact .inr ⟨_, by rw [k.g_bl m], q _ _ k.int⟩
  · cases e
theorem f_abs : Fnv T oAbs (fun xs H Q => ∃ i, xs = [.int i] ∧ Q (.int (if i < 0 then -i else i)) H) := by
  intro H l as c vs Q k hl m0 e q
  unfold oAbs at e
  split at e
  · cases e
    obtain ⟨v, rfl, m⟩ := one_arg rfl hl m0
    exact ⟨_, by rw [k.g_int m], q _ _ k.int⟩
  · cases e
theorem f_min2 : Fnv T oMin2 (fun xs H Q => ∃ i j, xs = [.int i, .int j] ∧ Q (.int (if j < i then j else i)) H) := by
  intro H l as c vs Q k hl m0 e q
  unfold oMin2 at e
  split at e
  · cases e
    obtain ⟨v, w, rfl, m1, m2⟩ := two_arg rfl hl m0
    exact ⟨_, _, by rw [k.g_int m1, k.g_int m2], q _ _ k.int⟩
  · cases e
end
def rgL (a b : Int) : List PV := (List.range (b - a).toNat).map fun i => PV.int (a + (i : Nat))
def oRg : Int → Int → Option (List PV) := fun a b => if a.natAbs ≤ lim ∧ b.natAbs ≤ lim then some (rgL a b) else none
def eRg1 (tup : Bool) (fa : M Hd) : M Hd := fun ρ => (fa ρ).bind fun h ρ1 => match hv ρ1 h with
  | .int n => (match oRg 0 n with | some xs => .ok (.tm (if tup = true then .tup xs else .lst .ow xs)) ρ1 | none => .stuck)
  | _ => .stuck
theorem Reps.rg {T : Tb} {F : Hp} (a b : Int) : Reps T F (rgL a b) (rgV a b) := by
  unfold rgL rgV
  generalize List.range (b - a).toNat = xs
  induction xs with
  | nil => exact .nil
  | cons x xs ih => exact .cons (by simp only [Rep]) rfl ih
theorem rg_ok {a b : Int} {xs : List PV} (h : oRg a b = some xs) : xs = rgL a b ∧ RgOk a b := by
  unfold oRg at h
  split at h
  · rename_i hc
    cases h
    have hl : (lim : Nat) = 100000 := rfl
    rw [hl] at hc
    exact ⟨rfl, by unfold RgOk; omega⟩
  · cases h
section
variable {g : G} {X : Cx} {a : Expr} {fa : M Hd} {p pos pos' p' : Pos}
theorem ev_listRg (hc : X.calm = true) (hg : Gl X "list") (hm : X.mg "list" = none) (hgr : Gl X "range") (hmr : X.mg "range" = none) (ha : EV g X a fa)
    (h1 : starEach [.Call (.Name "range" p') [a] [] pos'] X.env = (false, eval (.Call (.Name "range" p') [a] [] pos') X.env) :: starEach [] X.env := by rfl) (h2 : starEach [a] X.env = (false, eval a X.env) :: starEach [] X.env := by rfl) :
    EV g X (.Call (.Name "list" p) [.Call (.Name "range" p') [a] [] pos'] [] pos) (eRg1 false fa) :=
  ev_of (pe_listRg hc hg hm (prg_1 hgr hmr ha h2) h1) fun σ H Q ρ τ f h hP => stepE (ε := []) f (nilT h) hP fun h1 ρ1 hP1 v H1 f1 s1 k1 => by
    rw [List.nil_append] at k1
    have m := mem_hv (τ := τ) f1 s1
    cases e2 : hv ρ1 h1 <;> simp only [e2] at hP1 m <;> try exact hP1.elim
    rename_i n
    cases e3 : oRg 0 n with
    | none => simp only [e3] at hP1; exact hP1.elim
    | some xs =>
      simp only [e3] at hP1
      obtain ⟨rfl, ok⟩ := rg_ok e3
      exact ⟨n, k1.g_int m, ok, fun t ht => hP1 (.ref t) _ f1 slot_tm (Hold.new_own k1.right ht (a := .lst .ow _) rfl fun F s o => ⟨t, _, rfl, upd_same, .rg 0 n⟩)⟩
end
end VL
set_option Elab.async false
set_option linter.all false
set_option maxRecDepth 100000
namespace VL
open PySem PySem.Spec PyProof.Rows L2
def isSl (i : Nat) : Hd → Bool
  | .sl j => i == j
  | .tm _ => false
def okArgs : List Hd → List PV → Bool
  | [], _ => true
  | .tm _ :: hs, ρ => okArgs hs ρ
  | .sl i :: hs, ρ => (!(nth ρ i).own || !(hs.any (isSl i))) && okArgs hs ρ
def PV.reFl (o : Fl) (a : PV) : PV := if a.own = true then a.setFl o else a
def back : List PV → List Hd → List PV → List PV
  | ρ, [], _ => ρ
  | ρ, .tm _ :: hs, fin => back ρ hs fin.tail
  | ρ, .sl i :: hs, fin => back (if (nth ρ i).own = true then ρ.set i (PV.reFl (nth ρ i).fl (fin.headD .emp)) else ρ) hs fin.tail
def outs : List PV → List Hd → List PV
  | ρ, [] => ρ
  | ρ, .tm _ :: hs => outs ρ hs
  | ρ, .sl i :: hs => outs (if (nth ρ i).own = true then ρ.set i .emp else ρ) hs
theorem noSl {i : Nat} {x : PV} : ∀ {hs : List Hd} {ρ : List PV}, hs.any (isSl i) = false → okArgs hs (ρ.set i x) = okArgs hs ρ ∧ hs.map (hv (ρ.set i x)) = hs.map (hv ρ) ∧ outs (ρ.set i x) hs = (outs ρ hs).set i x
  | [], _, _ => ⟨rfl, rfl, rfl⟩
  | .tm a :: hs, ρ, h => by
    simp only [List.any_cons, isSl, Bool.false_or] at h
    obtain ⟨h1, h2, h3⟩ := noSl (x := x) (ρ := ρ) h
    exact ⟨by simp only [okArgs, h1], by simp only [List.map_cons, h2, hv], by simp only [outs, h3]⟩
  | .sl j :: hs, ρ, h => by
    simp only [List.any_cons, isSl, Bool.or_eq_false_iff, beq_eq_false_iff_ne] at h
    obtain ⟨hij, h⟩ := h
    have e := nth_set_ne (ρ := ρ) (a := x) hij
    obtain ⟨h1, h2, h3⟩ := noSl (x := x) (ρ := ρ) h
    refine ⟨by simp only [okArgs, h1, e], by simp only [List.map_cons, h2, hv, e], ?_⟩
    simp only [outs, e]
    split
    · rw [List.set_comm _ _ hij]
      exact (noSl (x := x) h).2.2
    · exact h3
theorem io_own {a : PV} (h : a.isIo = true) : a.own = true := by
  unfold PV.isIo at h
  unfold PV.own
  split at h
  · rename_i e; rw [e]
  · cases h
theorem fl_set {a : PV} {o : Fl} (h : a.own = true) (he : a.isErr = false) : (a.setFl o).fl = o := by
  cases a with
  | nst _ sh _ => cases o <;> cases sh <;> rfl
  | cel _ _ => cases o <;> rfl
  | err _ _ _ => cases he
  | _ => first | rfl | cases h
theorem io_eq {a b : PV} (h : a.fl = b.fl) : a.isIo = b.isIo := by unfold PV.isIo; rw [h]
theorem reFl_io {a b : PV} (h : (PV.reFl b.fl a).isIo = true) : b.isIo = true := by
  unfold PV.reFl at h
  split at h
  · rename_i hc
    by_cases he : a.isErr = true
    · cases a <;> simp [PV.isErr] at he
      cases h
    · rw [← h]; exact (io_eq (fl_set hc (by simpa using he))).symm
  · rename_i hc
    exact absurd (io_own h) hc
theorem reFl_hold {T : Tb} {H : Hp} {l : Its} {a b : PV} {v : V} (hb : b.own = true) (h : Hold T H ((a, v) :: l)) : Hold T H ((PV.reFl b.fl a, v) :: l) := by
  unfold PV.reFl
  split
  · rename_i hc
    exact h.relabel hc fun z => by unfold PV.own at hb; rw [z] at hb; cases hb
  · exact h
section
variable {T : Tb} {H : Hp} {s0 : L2.St} {σ : L2.St}
theorem argsOut : ∀ {hs : List Hd} {vs : List V} {ρ : List PV} {τ : Its}, Fits s0 ρ σ → slotsAt σ hs vs → okArgs hs ρ = true → Hold T H (hits hs vs ++ (its ρ σ ++ τ)) → Hold T H ((hs.map (hv ρ)).zip vs ++ (its (outs ρ hs) σ ++ τ))
  | [], _, ρ, τ, f, c, _, h => by
    have c : _ = [] := c
    subst c
    simpa [hits, outs] using h
  | .tm a :: hs, _, ρ, τ, f, c, ok, h => by
    obtain ⟨v, vs', rfl, c1, c2⟩ := c
    simp only [hits, hit, List.cons_append, List.nil_append] at h
    have h1 : Hold T H (hits hs vs' ++ (its ρ σ ++ ((a, v) :: τ))) := h.perm (permc fun _ x => by simp only [List.count_append, List.count_cons]; omega)
    have h2 := argsOut f c2 (by simpa only [okArgs] using ok) h1
    simp only [List.map_cons, hv, List.zip_cons_cons, List.cons_append, outs]
    exact h2.perm (permc fun _ x => by simp only [List.count_append, List.count_cons]; omega)
  | .sl i :: hs, _, ρ, τ, f, c, ok, h => by
    obtain ⟨v, vs', rfl, c1, c2⟩ := c
    have ci := c1 i rfl
    simp only [okArgs, Bool.and_eq_true] at ok
    obtain ⟨ok1, ok2⟩ := ok
    simp only [hits, hit, List.nil_append] at h
    simp only [List.map_cons, hv, List.zip_cons_cons, List.cons_append, outs]
    by_cases ho : (nth ρ i).own = true
    · simp only [ho, Bool.not_true, Bool.false_or, Bool.not_eq_true'] at ok1
      obtain ⟨e1, e2, e3⟩ := noSl (x := .emp) (ρ := ρ) ok1
      rw [if_pos ho]
      have h1 : Hold T H (its ρ σ ++ (hits hs vs' ++ τ)) := h.perm (permc fun _ x => by simp only [List.count_append]; omega)
      have h2 := h1.slotOut f ci
      have f2 : Fits s0 (ρ.set i .emp) σ := f.re ci fun z => by cases z
      have h3 : Hold T H (hits hs vs' ++ (its (ρ.set i .emp) σ ++ ((nth ρ i, v) :: τ))) := h2.perm (permc fun _ x => by simp only [List.count_append, List.count_cons]; omega)
      have h4 := argsOut f2 c2 (by rw [e1]; exact ok2) h3
      rw [e2] at h4
      exact h4.perm (permc fun _ x => by simp only [List.count_append, List.count_cons]; omega)
    · rw [if_neg ho]
      have ho' : (nth ρ i).own = false := by simpa using ho
      have m : (nth ρ i, v) ∈ hits hs vs' ++ (its ρ σ ++ τ) := List.mem_append_right _ (List.mem_append_left _ (its_mem f.len ci))
      have h1 := h.dup m ho'
      have h2 : Hold T H (hits hs vs' ++ (its ρ σ ++ ((nth ρ i, v) :: τ))) := h1.perm (permc fun _ x => by simp only [List.count_append, List.count_cons]; omega)
      have h3 := argsOut f c2 ok2 h2
      exact h3.perm (permc fun _ x => by simp only [List.count_append, List.count_cons]; omega)
theorem argsIn : ∀ {hs : List Hd} {vs : List V} {fin : List PV} {ρ : List PV} {τ : Its}, Fits s0 ρ σ → slotsAt σ hs vs → okArgs hs ρ = true → Hold T H (fin.zip vs ++ (its (outs ρ hs) σ ++ τ)) → Fits s0 (back ρ hs fin) σ ∧ Hold T H (its (back ρ hs fin) σ ++ τ)
  | [], _, fin, ρ, τ, f, c, _, h => by
    have c : _ = [] := c
    subst c
    exact ⟨f, by simpa [outs, back] using h⟩
  | .tm a :: hs, _, fin, ρ, τ, f, c, ok, h => by
    obtain ⟨v, vs', rfl, c1, c2⟩ := c
    simp only [okArgs] at ok
    simp only [back, outs] at h ⊢
    cases fin with
    | nil => exact argsIn f c2 ok (by simpa using h)
    | cons x fin => exact argsIn f c2 ok (by rw [List.zip_cons_cons, List.cons_append] at h; exact h.tail)
  | .sl i :: hs, _, fin, ρ, τ, f, c, ok, h => by
    obtain ⟨v, vs', rfl, c1, c2⟩ := c
    have ci := c1 i rfl
    simp only [okArgs, Bool.and_eq_true] at ok
    obtain ⟨ok1, ok2⟩ := ok
    simp only [back, outs] at h ⊢
    by_cases ho : (nth ρ i).own = true
    · simp only [ho, Bool.not_true, Bool.false_or, Bool.not_eq_true'] at ok1
      rw [if_pos ho] at h ⊢
      -- what is handed back, at the slot's place
      have key : ∀ (x : PV), Hold T H ((x, v) :: (fin.tail.zip vs' ++ (its (outs (ρ.set i .emp) hs) σ ++ τ))) → Fits s0 (back (ρ.set i (PV.reFl (nth ρ i).fl x)) hs fin.tail) σ ∧ Hold T H (its (back (ρ.set i (PV.reFl (nth ρ i).fl x)) hs fin.tail) σ ++ τ) := by
        intro x hx
        have f2 : Fits s0 (ρ.set i (PV.reFl (nth ρ i).fl x)) σ := f.re ci reFl_io
        obtain ⟨e1, e2, e3⟩ := noSl (x := PV.reFl (nth ρ i).fl x) (ρ := ρ) ok1
        obtain ⟨_, _, e4⟩ := noSl (x := .emp) (ρ := ρ) ok1
        refine argsIn f2 c2 (by rw [e1]; exact ok2) ?_
        rw [e3]
        rw [e4] at hx
        have hx2 := reFl_hold ho hx
        have f3 : Fits s0 (outs ρ hs) σ := by
          have : ∀ {hs : List Hd} {vs : List V} {ρ : List PV}, Fits s0 ρ σ → slotsAt σ hs vs → Fits s0 (outs ρ hs) σ := by
            intro hs
            induction hs with
            | nil => intro vs ρ f c; exact f
            | cons h hs ih =>
              intro vs ρ f c
              obtain ⟨v, vs', rfl, c1, c2⟩ := c
              cases h with
              | tm a => exact ih f c2
              | sl j =>
                simp only [outs]
                split
                · exact ih (f.re (c1 j rfl) fun z => by cases z) c2
                · exact ih f c2
          exact this f c2
        have h4 : Hold T H ((PV.reFl (nth ρ i).fl x, v) :: (its ((outs ρ hs).set i .emp) σ ++ (fin.tail.zip vs' ++ τ))) := hx2.perm (permc fun _ y => by simp only [List.count_append, List.count_cons]; omega)
        have h5 := h4.slotIn f3 ci
        exact h5.perm (permc fun _ y => by simp only [List.count_append]; omega)
      cases fin with
      | nil => exact key .emp (by simpa using h.emp)
      | cons x fin => exact key x (by simpa using h)
    · rw [if_neg ho] at h ⊢
      cases fin with
      | nil => exact argsIn f c2 ok2 (by simpa using h)
      | cons x fin => exact argsIn f c2 ok2 (by rw [List.zip_cons_cons, List.cons_append] at h; exact h.tail)
end
def Fin (T : Tb) (vs : List V) (τ : Its) (Q : VK) (E : XK) : R PV → Prop
  | .ok a fin => ∀ v H', Hold T H' ((a, v) :: (fin.zip vs ++ τ)) → Q v H'
  | .exc c xs fin => ∀ (d : Option Addr) (ws : List V) (H' : Hp), XAt T H' c d ws → ws.length = xs.length → Hold T H' (xs.zip ws ++ (fin.zip vs ++ τ)) → E (.ref (T.ca c)) d H'
  | .stuck => False
/-- the def is worth F -/
def spF (T : Tb) (F : List PV → R PV) : Sp := fun vs H Q E => ∃ args τ, vs.length = args.length ∧ Hold T H (args.zip vs ++ τ) ∧ Fin T vs τ Q E (F args)
def eCall (F : List PV → R PV) (fs : M (List Hd)) : M Hd := fun ρ => (fs ρ).bind fun hs ρ1 =>
  if okArgs hs ρ1 = true then (match F (hs.map (hv ρ1)) with
    | .ok a fin => .ok (.tm a) (back ρ1 hs fin)
    | .exc c xs fin => .exc c xs (back ρ1 hs fin)
    | .stuck => .stuck) else .stuck
section
variable {g : G} {X : Cx} {k : Nat} {x : Str} {e : Expr} {es : List Expr} {fs : M (List Hd)} {p pos : Pos} {F : List PV → R PV}
/-- the callee's promise from the arguments -/
theorem call_fin {σ : L2.St} {τ : Its} {Q : VK} {hs : List Hd} {ρ1 : List PV} {vs : List V} {H1 : Hp} (f1 : Fits g.s0 ρ1 σ) (s1 : slotsAt σ hs vs) (k1 : Hold g.T H1 (hits hs vs ++ (its ρ1 σ ++ τ)))
    (hP : Post g σ τ (PE1 g σ τ Q) (if okArgs hs ρ1 = true then (match F (hs.map (hv ρ1)) with
      | .ok a fin => (.ok (.tm a) (back ρ1 hs fin) : R Hd)
      | .exc c xs fin => .exc c xs (back ρ1 hs fin)
      | .stuck => .stuck) else .stuck)) : spF g.T F vs H1 Q (WE g.W σ) := by
  split at hP
  · rename_i ok
    have k2 := argsOut f1 s1 ok k1
    obtain ⟨q1, _⟩ := mems_of (l := hits hs vs ++ (its ρ1 σ ++ τ)) f1 s1 (fun x hx => by simp [hx]) fun x hx => by simp [hx]
    refine ⟨_, _, q1, k2, ?_⟩
    cases e : F (hs.map (hv ρ1)) with
    | ok a fin =>
      rw [e] at hP
      intro v H' k3
      have k4 : Hold g.T H' (fin.zip vs ++ (its (outs ρ1 hs) σ ++ ((a, v) :: τ))) := k3.perm (permc fun _ y => by simp only [List.count_append, List.count_cons]; omega)
      obtain ⟨f5, k5⟩ := argsIn f1 s1 ok k4
      exact hP v H' f5 slot_tm (k5.perm (permc fun _ y => by simp only [hit, List.count_append, List.count_cons, List.count_nil]; omega))
    | exc c xs fin =>
      rw [e] at hP
      intro d ws H' hx hl k3
      have k4 : Hold g.T H' (fin.zip vs ++ (its (outs ρ1 hs) σ ++ (xs.zip ws ++ τ))) := k3.perm (permc fun _ y => by simp only [List.count_append]; omega)
      obtain ⟨f5, k5⟩ := argsIn f1 s1 ok k4
      exact hP d ws H' f5 hx hl (k5.perm (permc fun _ y => by simp only [List.count_append]; omega))
    | stuck => rw [e] at hP; exact hP
  · exact hP.elim
theorem ev_call (D : My.DnX X.prog X.w X.K X.mg X.base k x (spF g.T F)) (hr : My.RoomG k X.A) (hg : Gl X x) (tk : L2N.Takes X g.W) (ha : AV g X (e :: es) fs) (hdb : (x == ("__debug__" : Str)) = false := by decide)
    (he : starEach (e :: es) X.env = (false, eval e X.env) :: starEach es X.env := by rfl) (hpl : (backTo pos (starEach es X.env)).any (·.1) = false := by rfl) : EV g X (.Call (.Name x p) (e :: es) [] pos) (eCall F fs) :=
  ev_of (My.pe_callX D hr hg tk ha hdb he hpl) fun σ H Q ρ τ f h hP => stepA (ε := []) f (nilT h) hP fun hs ρ1 hP1 vs H1 f1 s1 k1 => call_fin f1 s1 k1 hP1
end
end VL
set_option Elab.async false
set_option linter.all false
set_option maxRecDepth 100000
namespace VL
open PySem PySem.Spec PyProof.Rows L2
def callH {α : Type} (F : List PV → R PV) (hs : List Hd) (ρ1 : List PV) (k : PV → List PV → R α) : R α :=
  if okArgs hs ρ1 = true then (match F (hs.map (hv ρ1)) with
    | .ok a fin => k a (back ρ1 hs fin)
    | .exc c xs fin => .exc c xs (back ρ1 hs fin)
    | .stuck => .stuck) else .stuck
end VL
set_option Elab.async false
set_option linter.all false
set_option maxRecDepth 100000
namespace VL
open PySem PySem.Spec PyProof.Rows L2
def sNx : M Fw := fun ρ => .ok .nx ρ
def sSeq (f k : M Fw) : M Fw := fun ρ => match f ρ with
  | .ok .nx ρ1 => k ρ1
  | r => r
def sE (f : M Hd) : M Fw := fun ρ => (f ρ).bind fun _ ρ1 => .ok .nx ρ1
def setAt (i : Nat) (a : PV) (ρ : List PV) : Option (List PV) := if ((nth ρ i).isIo || a.isIo) = true then none else some (ρ.set i a)
def keep (h : Hd) (ρ : List PV) : Option (PV × List PV) := match h with
  | .tm a => some (a, ρ)
  | .sl _ => take ρ h
def ofL : Option (List PV) → R Fw
  | some ρ => .ok .nx ρ
  | none => .stuck
def sSet (i : Nat) (f : M Hd) : M Fw := fun ρ => (f ρ).bind fun h ρ1 => match keep h ρ1 with
  | some (a, ρ2) => ofL (setAt i a ρ2)
  | none => .stuck
def sRet (f : M Hd) : M Fw := fun ρ => (f ρ).bind fun h ρ1 => match h with
  | .tm a => .ok (.rt a) ρ1
  | .sl j => if (nth ρ1 j).isIo = true then .stuck else .ok (.rt (nth ρ1 j)) (ρ1.set j .emp)
def sIf (t : M Bool) (f k : M Fw) : M Fw := fun ρ => (t ρ).bind fun b ρ1 => if b = true then f ρ1 else k ρ1
/-- targets -/
abbrev Tg := PV → List PV → Option (List PV)
def gN (i : Nat) : Tg := setAt i
/-- x[i] = e -/
def sSub (fo fi fv : M Hd) : M Fw := fun ρ => (fv ρ).bind fun h0 ρ1 => (fo ρ1).bind fun h1 ρ2 => (fi ρ2).bind fun h2 ρ3 => match h1, take ρ3 h0 with
  | .sl j, some (a, ρ4) => (match nth ρ4 j, hv ρ4 h2 with
    | .lst .fz _, _ => .stuck
    | .lst o xs, .int k => (match ixN xs.length k with
      | some m => .ok .nx (ρ4.set j (.lst o (xs.set m a)))
      | none => .stuck)
    | _, _ => .stuck)
  | _, _ => .stuck
def loop (t : Tg) (f : M Fw) : List PV → M Fw
  | [], ρ => .ok .nx ρ
  | x :: xs, ρ => match t x ρ with
    | some ρ1 => (match f ρ1 with
      | .ok .nx ρ2 => loop t f xs ρ2
      | .ok .ct ρ2 => loop t f xs ρ2
      | .ok .bk ρ2 => .ok .nx ρ2
      | r => r)
    | none => .stuck
def sFor (fi : M (List PV)) (t : Tg) (f : M Fw) : M Fw := fun ρ => (fi ρ).bind fun xs ρ1 => loop t f xs ρ1
def tYesV : M Bool := fun ρ => .ok true ρ
section
variable {g : G} {X : Cx} {e o tg iter : Expr} {st : Stmt} {rest : List Stmt} {f k : M Fw} {fe fo fi fv : M Hd} {ft : M Bool} {pos : Pos}
theorem bv_nil : BV g X [] sNx := bv_of pss_nil fun D σ H ρ τ ft h hP => hP σ H ft h
theorem bv_one (h : SV g X st f) : BV g X [st] f := pss_one h
theorem bv_cons (h1 : SV g X st f) (h2 : BV g X rest k) : BV g X (st :: rest) (sSeq f k) :=
  bv_of (pss_cons h1 h2) fun D σ H ρ τ ft h hP => ⟨ρ, τ, ft, h, by
    unfold sSeq at hP
    cases e : f ρ with
    | ok a ρ1 =>
      rw [e] at hP
      cases a with
      | nx => exact fun σ' H' f' h' => ⟨ρ1, τ, f', h', hP⟩
      | rt a => exact hP
      | bk => exact hP
      | ct => exact hP
    | exc c xs ρ1 => rw [e] at hP; exact hP
    | stuck => rw [e] at hP; exact hP⟩
theorem sv_expr (he : EV g X e fe) (hs : swapsWith e none pos.line X.env = pure false := by rfl) : SV g X (.Expr e pos) (sE fe) :=
  sv_of (ps_expr he hs) fun D σ H ρ τ ft h hP => stepES ft h hP fun h1 ρ1 hP1 v H1 f1 s1 k1 => hP1 σ H1 f1 k1.right
theorem setAt_ok {i : Nat} {a : PV} {ρ ρ' : List PV} {σ : L2.St} {H : Hp} {v : V} {τ : Its} (ft : Fits g.s0 ρ σ) (h : Hold g.T H ((a, v) :: (its ρ σ ++ τ))) (e : setAt i a ρ = some ρ') : Fits g.s0 ρ' (σ.set i (some v)) ∧ Hold g.T H (its ρ' (σ.set i (some v)) ++ τ) := by
  unfold setAt at e
  split at e
  · cases e
  · rename_i hc
    cases e
    simp only [Bool.not_eq_true, Bool.or_eq_false_iff] at hc
    refine ⟨ft.set hc.1 hc.2, ?_⟩
    by_cases hi : i < ρ.length
    · exact h.slot ft hi
    · rw [List.set_eq_of_length_le (by omega), List.set_eq_of_length_le (by rw [ft.len]; omega)]
      exact h.tail
theorem keep_ok {ρ ρ' : List PV} {σ : L2.St} {H : Hp} {v : V} {τ : Its} {h : Hd} {a : PV} (ft : Fits g.s0 ρ σ) (c : slotAt σ h v) (hh : Hold g.T H (hit h v ++ (its ρ σ ++ τ))) (e : keep h ρ = some (a, ρ')) : Fits g.s0 ρ' σ ∧ Hold g.T H ((a, v) :: (its ρ' σ ++ τ)) := by
  cases h with
  | tm b =>
    simp only [keep, Option.some.injEq, Prod.mk.injEq] at e
    obtain ⟨rfl, rfl⟩ := e
    exact ⟨ft, hh⟩
  | sl i =>
    obtain ⟨f1, _, k1⟩ := take_ok ft c hh e
    exact ⟨f1, k1⟩
theorem sv_set {i : Nat} {x : Str} {pos' : Pos} (hN : X.N.Nodup) (hi : X.N[i]? = some x) (hx : Loc X.env.scope x) (he : EV g X e fe) (hs : swapsWith e (some (.Name x pos')) pos.line X.env = pure false := by rfl)
    (hf : X.fn x = true ∨ X.env.scope.names.lookup x = some .local := by first | exact .inl rfl | exact .inr rfl | assumption) : SV g X (.Assign [.Name x pos'] e pos) (sSet i fe) :=
  sv_of (ps_set hN hi hx he hs hf) fun D σ H ρ τ ft h hP => stepES ft h hP fun h1 ρ1 hP1 v H1 f1 s1 k1 => by
    cases e1 : keep h1 ρ1 with
    | none => simp only [e1] at hP1; exact hP1.elim
    | some p =>
      obtain ⟨a, ρ2⟩ := p
      simp only [e1] at hP1
      obtain ⟨f2, k2⟩ := keep_ok f1 s1 k1 e1
      cases e2 : setAt i a ρ2 with
      | none => rw [e2] at hP1; exact hP1.elim
      | some ρ3 =>
        rw [e2] at hP1
        obtain ⟨f3, k3⟩ := setAt_ok f2 k2 e2
        exact hP1 _ H1 f3 k3
theorem sv_ret (he : EV g X e fe) : SV g X (.Return (some e) pos) (sRet fe) :=
  sv_of (ps_ret he) fun D σ H ρ τ ft h hP => stepES ft h hP fun h1 ρ1 hP1 v H1 f1 s1 k1 => by
    cases h1 with
    | tm a => exact hP1 v σ H1 f1 k1
    | sl j =>
      simp only at hP1
      split at hP1
      · exact hP1.elim
      · rename_i hc
        have cj := s1 j rfl
        have k2 : Hold g.T H1 (its ρ1 σ ++ τ) := by simpa [hit] using k1
        exact hP1 v σ H1 (f1.re cj fun z => by cases z) (k2.slotOut f1 cj)
theorem sv_if {c : Expr} {a b : List Stmt} (hc : TV g X c ft) (ha : BV g X a f) (hb : BV g X b k) : SV g X (.If c a b pos) (sIf ft f k) :=
  sv_of (ps_if hc ha hb) fun D σ H ρ τ fit h hP => stepTS fit h hP fun c ρ1 hP1 H1 f1 k1 => by
    cases c with
    | true => exact ⟨ρ1, τ, f1, k1, hP1⟩
    | false => exact ⟨ρ1, τ, f1, k1, hP1⟩
theorem wipe_set (σ : L2.St) (i : Nat) : ∀ is : List Nat, (wipe σ is).set i none = wipe (σ.set i none) is
  | [] => rfl
  | j :: is => by
    show ((wipe σ is).set j none).set i none = (wipe (σ.set i none) is).set j none
    rw [← wipe_set σ i is]
    by_cases e : i = j
    · subst e; rfl
    · rw [List.set_comm _ _ (Ne.symm e)]
def trG (g : G) (t : Tg) (is : List Nat) : TG := fun v σ H Q => ∃ a ρ τ, Fits g.s0 ρ σ ∧ a.own = false ∧ Hold g.T H ((a, v) :: (its ρ σ ++ τ)) ∧ ∃ ρ', t a ρ = some ρ' ∧ ∀ σ' H', wipe σ' is = wipe σ is → Fits g.s0 ρ' σ' → Hold g.T H' (its ρ' σ' ++ τ) → Q σ' H'
abbrev GV (g : G) (X : Cx) (e : Expr) (t : Tg) (is : List Nat) : Prop := PG X e (trG g t is)
theorem pg_mono {t t' : TG} (h : PG X tg t) (q : ∀ v σ H Q, t' v σ H Q → t v σ H Q) : PG X tg t' := ⟨fun pins s σ H v u Q I r hw => h.run pins s σ H v u Q I r (q _ _ _ _ hw)⟩
theorem gv_name {i : Nat} {x : Str} (hN : X.N.Nodup) (hi : X.N[i]? = some x) (hx : Loc X.env.scope x) (hf : X.fn x = true ∨ X.env.scope.names.lookup x = some .local := by first | exact .inl rfl | exact .inr rfl | assumption) : GV g X (.Name x pos) (gN i) [i] :=
  pg_mono (pg_name hN hi hx hf) fun v σ H Q ⟨a, ρ, τ, ft, _, h, ρ', e, q⟩ => by
    obtain ⟨f2, k2⟩ := setAt_ok ft h e
    exact q _ _ (by show (σ.set i (some v)).set i none = σ.set i none; rw [List.set_set]) f2 k2
end
end VL
set_option Elab.async false
set_option linter.all false
set_option maxRecDepth 100000
namespace VL
open PySem PySem.Spec PyProof.Rows L2
def PI1 (g : G) (σ : L2.St) (τ : Its) (R : It → Hp → Prop) (xs : List PV) (ρ : List PV) : Prop :=
  ∀ (J : It) (H' : Hp) (τx : Its) (K : Hp → Prop) (Y : Nat → Hp → V → Hp → Prop), Walk J xs.length K Y → (∀ H l, Hold g.T H (τx ++ l) → K H) →
    (∀ i H x H' l a, xs[i]? = some a → Hold g.T H (τx ++ l) → Y i H x H' → Hold g.T H' ((a, x) :: (τx ++ l))) → (∀ a ∈ xs, a.own = false) → Fits g.s0 ρ σ → Hold g.T H' (τx ++ (its ρ σ ++ τ)) → R J H'
def trI (g : G) (f : M (List PV)) : TI := fun σ H R => ∃ ρ τ, Fits g.s0 ρ σ ∧ Hold g.T H (its ρ σ ++ τ) ∧ Post g σ τ (PI1 g σ τ R) (f ρ)
abbrev IV (g : G) (X : Cx) (tg iter : Expr) (f : M (List PV)) : Prop := PI X tg iter (trI g f)
def seqOf : PV → Option (List PV)
  | .lst _ xs => some xs
  | .tup xs => some xs
  | .scr ns => some (ns.map .int)
  | _ => none
def ofX (ρ : List PV) : Option (List PV) → R (List PV)
  | some xs => .ok xs ρ
  | none => .stuck
def iSeq (f : M Hd) : M (List PV) := fun ρ => (f ρ).bind fun h ρ1 => match take ρ1 h with
  | some (a, ρ2) => ofX ρ2 (seqOf a)
  | none => .stuck
def iRg1 (fs : M (List Hd)) : M (List PV) := fun ρ => (fs ρ).bind fun hs ρ1 => match hs.map (hv ρ1) with
  | [.int n] => ofX ρ1 (oRg 0 n)
  | _ => .stuck
def iRg2 (fs : M (List Hd)) : M (List PV) := fun ρ => (fs ρ).bind fun hs ρ1 => match hs.map (hv ρ1) with
  | [.int a, .int b] => ofX ρ1 (oRg a b)
  | _ => .stuck
section
variable {g : G} {X : Cx} {e o tg iter : Expr} {st : Stmt} {rest : List Stmt} {f k : M Fw} {fe fo fi fv : M Hd} {fs : M (List Hd)} {fx : M (List PV)} {ft tt : M Bool} {pos : Pos} {es : List Expr}
theorem iv_of {t : TI} (h : PI X tg iter t) (q : ∀ σ H R ρ τ, Fits g.s0 ρ σ → Hold g.T H (its ρ σ ++ τ) → Post g σ τ (PI1 g σ τ R) (fx ρ) → t σ H R) : IV g X tg iter fx :=
  ⟨fun pins s σ H R I ⟨ρ, τ, h1, h2, h3⟩ => h.run pins s σ H R I (q σ H R ρ τ h1 h2 h3)⟩
theorem ownAdd {T : Tb} {F H : Hp} {l : Its} {ys : List PV} {vs : List V} {i : Nat} {b : PV} {x : V} (s : Same F H) (o : ∀ x ∈ l, Own T H F x.1 x.2) (n : (fpOf H l).Nodup) (d : ∀ p ∈ fpOf H l, F p = none) (r : Reps T F ys vs) (hb : ys[i]? = some b) (hx : vs[i]? = some x) : Hold T H ((b, x) :: l) := by
  obtain ⟨w, h1, h2, h3⟩ := r.at hb
  rw [hx] at h1; cases h1
  refine ⟨F, s, fun y hy => ?_, by rw [fpOf_fz h3]; exact n, by rw [fpOf_fz h3]; exact d⟩
  rcases List.mem_cons.mp hy with rfl | hy
  · exact (Own.fz h3).mpr h2
  · exact o y hy
/-- a list at p, wherever it lies -/
theorem lst_at {T : Tb} {fl : Fl} {xs : List PV} {p : Addr} (H : Hp) (l : Its) (k : Hold T H l) (m : (PV.lst fl xs, V.ref p) ∈ l) : ∃ vs : List V, SqL T.K H p vs ∧ vs.length = xs.length ∧ ∀ (i : Nat) (x : V), (∀ ws : List V, SqL T.K H p ws → ws[i]? = some x) → ∀ b, xs[i]? = some b → Hold T H ((b, x) :: l) := by
  obtain ⟨p', vs, ev, h1, hl, _⟩ := k.g_lst m
  cases ev
  obtain ⟨F, s, o, n, d⟩ := k
  exact ⟨vs, SqL.of h1, hl, fun i x hw b hb => ownAdd s o n d (reps_lst s o m h1) hb (hw vs (SqL.of h1))⟩
theorem tup_at {T : Tb} {xs : List PV} {p : Addr} (H : Hp) (l : Its) (k : Hold T H l) (m : (PV.tup xs, V.ref p) ∈ l) : ∃ vs : List V, SqT T.K H p vs ∧ vs.length = xs.length ∧ ∀ (i : Nat) (x : V), (∀ ws : List V, SqT T.K H p ws → ws[i]? = some x) → ∀ b, xs[i]? = some b → Hold T H ((b, x) :: l) := by
  obtain ⟨F, s, o, n, d⟩ := k
  obtain ⟨p', vs, ev, h1, r⟩ := o _ m
  cases ev
  simp only [PV.own, PV.fl, Bool.false_eq_true, if_false] at h1
  exact ⟨vs, s.seqT h1, r.length, fun i x hw b hb => ownAdd s o n d r hb (hw vs (s.seqT h1))⟩
theorem scr_at {T : Tb} {ns : List Int} {p : Addr} (H : Hp) (l : Its) (k : Hold T H l) (m : (PV.scr ns, V.ref p) ∈ l) : ∃ vs : List V, SqL T.K H p vs ∧ vs.length = (ns.map PV.int).length ∧ ∀ (i : Nat) (x : V), (∀ ws : List V, SqL T.K H p ws → ws[i]? = some x) → ∀ b, (ns.map PV.int)[i]? = some b → Hold T H ((b, x) :: l) := by
  obtain ⟨_, s0, ⟨p', ev, h1⟩, _⟩ := k.get m
  cases ev
  obtain ⟨F, s, o, n, d⟩ := k
  exact ⟨_, h1, by simp, fun i x hw b hb => ownAdd s o n d (Reps.ints ns) hb (hw _ h1)⟩
/-- a sequence for good: a list or a tuple at p; its items wherever it lies -/
theorem seq_at {T : Tb} {a : PV} {v : V} {xs : List PV} {H : Hp} {l : Its} (k : Hold T H l) (m : (a, v) ∈ l) (e : seqOf a = some xs) :
    ∃ p, v = .ref p ∧ ((∀ (H : Hp) (l : Its), Hold T H l → (a, V.ref p) ∈ l → ∃ vs : List V, SqL T.K H p vs ∧ vs.length = xs.length ∧ ∀ (i : Nat) (x : V), (∀ ws : List V, SqL T.K H p ws → ws[i]? = some x) → ∀ b, xs[i]? = some b → Hold T H ((b, x) :: l)) ∨
      (∀ (H : Hp) (l : Its), Hold T H l → (a, V.ref p) ∈ l → ∃ vs : List V, SqT T.K H p vs ∧ vs.length = xs.length ∧ ∀ (i : Nat) (x : V), (∀ ws : List V, SqT T.K H p ws → ws[i]? = some x) → ∀ b, xs[i]? = some b → Hold T H ((b, x) :: l))) := by
  cases a <;> simp only [seqOf] at e <;> try cases e
  · obtain ⟨p, vs, rfl, _⟩ := k.g_tup m
    exact ⟨p, rfl, .inr tup_at⟩
  · obtain ⟨p, vs, rfl, _⟩ := k.g_lst m
    exact ⟨p, rfl, .inl lst_at⟩
  · obtain ⟨_, _, ⟨p, rfl, h1⟩, _⟩ := k.get m
    exact ⟨p, rfl, .inl scr_at⟩
theorem walk_L {K : PySem.W.Frag} {a : Addr} {n : Nat} : Walk (Itl K a) n (fun H => ∃ vs, SqL K H a vs ∧ vs.length = n) (fun i H x H' => H' = H ∧ ∀ vs, SqL K H a vs → vs[i]? = some x) :=
  ⟨fun i _ hi ⟨vs, q, hl⟩ => ⟨vs, vs[i]'(by omega), q, by simp⟩, fun _ ⟨vs, q, hl⟩ => ⟨vs, q, by omega⟩, fun _ _ _ _ _ _ y => y⟩
theorem walk_T {K : PySem.W.Frag} {a : Addr} {n : Nat} : Walk (Itt K a) n (fun H => ∃ vs, SqT K H a vs ∧ vs.length = n) (fun i H x H' => H' = H ∧ ∀ vs, SqT K H a vs → vs[i]? = some x) :=
  ⟨fun i _ hi ⟨vs, q, hl⟩ => ⟨vs, vs[i]'(by omega), q, by simp⟩, fun _ ⟨vs, q, hl⟩ => ⟨vs, q, by omega⟩, fun _ _ _ _ _ _ y => y⟩
def iSqV (K : PySem.W.Frag) (tl : TE) : TI := fun σ H R => tl σ H fun x H1 => ∃ a, x = .ref a ∧ (((∃ xs, SqL K H1 a xs) ∧ R (Itl K a) H1) ∨ ((∃ xs, SqT K H1 a xs) ∧ R (Itt K a) H1))
theorem pi_sqV {tl : TE} (hl : PE X e tl) : PI X tg e (iSqV X.K tl) := by
  refine ⟨fun pins s σ H R I h => ?_⟩
  refine thn (hl.run pins s σ H _ I h) fun v s1 ⟨x, H1, I1, r1, q1⟩ => ?_
  obtain ⟨a, ex, hq⟩ := q1
  subst ex
  cases r1
  rcases hq with ⟨⟨xs, hq⟩, q⟩ | ⟨⟨xs, hq⟩, q⟩
  · obtain ⟨its, rv, p, hz⟩ := I1.list hq
    refine wpAny_pyIter_list p.isList ?_
    refine ⟨s1.heap.objs.size, [s1.heap.objs.size], _, _, H1, rfl, I1.kept (t' := s1.toks) fun b o e => Heap.get?_push_of_some _ e, turn_list a _, ⟨_, Heap.get?_push_size _ rfl, rfl, rfl⟩, fun b hb => ?_, q⟩
    have e : b = s1.heap.objs.size := by simpa using hb
    subst e
    exact I1.fpOk (Nat.le_refl _) (I1.hok.fresh (Nat.le_refl _))
  · obtain ⟨its, rv, p, hz⟩ := I1.tuple hq
    refine wpAny_pyIter_tuple (show s1.heap.IsTuple a its.toArray from p) ?_
    refine ⟨s1.heap.objs.size, [s1.heap.objs.size], _, _, H1, rfl, I1.kept (t' := s1.toks) fun b o e => Heap.get?_push_of_some _ e, turn_tuple a _, ⟨_, Heap.get?_push_size _ rfl, rfl, rfl⟩, fun b hb => ?_, q⟩
    have e : b = s1.heap.objs.size := by simpa using hb
    subst e
    exact I1.fpOk (Nat.le_refl _) (I1.hok.fresh (Nat.le_refl _))
theorem items_own {T : Tb} {H : Hp} {l : Its} {a : PV} {v : V} {xs : List PV} (k : Hold T H l) (m : (a, v) ∈ l) (e : seqOf a = some xs) : ∀ b ∈ xs, b.own = false := by
  obtain ⟨F, s, r, _⟩ := k.get m
  have ro : ∀ {xs : List PV} {vs : List V}, Reps T F xs vs → ∀ b ∈ xs, b.own = false := fun r x hx => by
    obtain ⟨i, hi⟩ := List.mem_iff_getElem?.mp hx
    obtain ⟨_, _, _, z⟩ := r.at hi
    exact z
  cases a <;> simp only [seqOf] at e <;> try cases e
  · obtain ⟨_, _, _, _, r⟩ := r; exact ro r
  · obtain ⟨_, _, _, _, r⟩ := r; exact ro r
  · exact ro (Reps.ints (T := T) (F := F) _)
theorem iseq_q (hK : X.K = g.T.K) : ∀ (σ : L2.St) (H : Hp) (R : It → Hp → Prop) (ρ : List PV) (τ : Its), Fits g.s0 ρ σ → Hold g.T H (its ρ σ ++ τ) → Post g σ τ (PI1 g σ τ R) (iSeq fe ρ) → iSqV X.K (trE g fe) σ H R :=
  fun σ H R ρ τ ft h hP => stepE (ε := []) ft (nilT h) hP fun h1 ρ1 hP1 v H1 f1 s1 k1 => by
    rw [List.nil_append] at k1
    cases e1 : take ρ1 h1 with
    | none => simp only [e1] at hP1; exact hP1.elim
    | some p =>
      obtain ⟨a, ρ2⟩ := p
      simp only [e1] at hP1
      obtain ⟨f2, o2, k2⟩ := take_ok f1 s1 k1 e1
      cases e2 : seqOf a with
      | none => rw [e2] at hP1; exact hP1.elim
      | some xs =>
        rw [e2] at hP1
        have own := items_own k2 List.mem_cons_self e2
        obtain ⟨p, rfl, hq⟩ := seq_at k2 List.mem_cons_self e2
        refine ⟨p, rfl, ?_⟩
        rw [hK]
        rcases hq with hq | hq
        · obtain ⟨vs, q1, q2, _⟩ := hq _ _ k2 List.mem_cons_self
          refine .inl ⟨⟨vs, q1⟩, hP1 (Itl g.T.K p) H1 [(a, .ref p)] _ _ walk_L (fun H l k => ?_) (fun i H x H' l b hb k y => ?_) own f2 k2⟩
          · obtain ⟨vs, q1, q2, _⟩ := hq H _ k (by simp)
            exact ⟨vs, q1, q2⟩
          · obtain ⟨_, _, _, q3⟩ := hq H _ k (by simp)
            obtain ⟨rfl, y⟩ := y
            exact q3 i x y b hb
        · obtain ⟨vs, q1, q2, _⟩ := hq _ _ k2 List.mem_cons_self
          refine .inr ⟨⟨vs, q1⟩, hP1 (Itt g.T.K p) H1 [(a, .ref p)] _ _ walk_T (fun H l k => ?_) (fun i H x H' l b hb k y => ?_) own f2 k2⟩
          · obtain ⟨vs, q1, q2, _⟩ := hq H _ k (by simp)
            exact ⟨vs, q1, q2⟩
          · obtain ⟨_, _, _, q3⟩ := hq H _ k (by simp)
            obtain ⟨rfl, y⟩ := y
            exact q3 i x y b hb
theorem iv_seq (hK : X.K = g.T.K) (he : EV g X e fe) : IV g X tg e (iSeq fe) := iv_of (pi_sqV he) (iseq_q hK)
theorem rgL_at {a b : Int} {i : Nat} {x : PV} (h : (rgL a b)[i]? = some x) : x = .int (a + (i : Nat)) := by
  unfold rgL at h
  rw [List.getElem?_map] at h
  cases e : (List.range (b - a).toNat)[i]? with
  | none => rw [e] at h; cases h
  | some j =>
    rw [e] at h
    rw [List.getElem?_range (by have := (List.getElem?_eq_some_iff.mp e).1; simpa using this)] at e
    cases e
    cases h; rfl
theorem rgL_own {a b : Int} : ∀ x ∈ rgL a b, x.own = false := fun x hx => by
  unfold rgL at hx
  obtain ⟨i, _, rfl⟩ := List.mem_map.mp hx
  rfl
theorem rgL_length (a b : Int) : (rgL a b).length = (b - a).toNat := by unfold rgL; simp
theorem one_vals {σ : L2.St} {hs : List Hd} {ρ : List PV} {vs : List V} {a : PV} {l : Its} (c : slotsAt σ hs vs) (e : hs.map (hv ρ) = [a]) (m : ∀ x ∈ (hs.map (hv ρ)).zip vs, x ∈ l) : ∃ v, vs = [v] ∧ (a, v) ∈ l := by
  match hs, e with
  | [h], e =>
    obtain ⟨v, vs', rfl, _, c2⟩ := c
    have c2 : vs' = [] := c2
    subst c2
    simp only [List.map_cons, List.map_nil, List.cons.injEq, and_true] at e
    subst e
    exact ⟨v, rfl, m _ (by simp)⟩
theorem two_vals {σ : L2.St} {hs : List Hd} {ρ : List PV} {vs : List V} {a b : PV} {l : Its} (c : slotsAt σ hs vs) (e : hs.map (hv ρ) = [a, b]) (m : ∀ x ∈ (hs.map (hv ρ)).zip vs, x ∈ l) : ∃ v w, vs = [v, w] ∧ (a, v) ∈ l ∧ (b, w) ∈ l := by
  match hs, e with
  | [h, h'], e =>
    obtain ⟨v, vs', rfl, _, w, vs2, rfl, _, c2⟩ := c
    have c2 : vs2 = [] := c2
    subst c2
    simp only [List.map_cons, List.map_nil, List.cons.injEq, and_true] at e
    obtain ⟨rfl, rfl⟩ := e
    exact ⟨v, w, rfl, m _ (by simp), m _ (by simp)⟩
theorem iv_rg1 {a : Expr} {p : Pos} (hg : Gl X "range") (hm : X.mg "range" = none) (ha : AV g X [a] fs) (hs : starEach [a] X.env = [(false, eval a X.env)] := by rfl) : IV g X tg (.Call (.Name "range" p) [a] [] pos) (iRg1 fs) :=
  iv_of (pi_range1 hg hm ha hs) fun σ H R ρ τ ft h hP => stepA (ε := []) ft (nilT h) hP fun hs ρ1 hP1 vs H1 f1 s1 k1 => by
    rw [List.nil_append] at k1
    obtain ⟨q1, q2⟩ := mems_of (l := hits hs vs ++ (its ρ1 σ ++ τ)) f1 s1 (fun x hx => by simp [hx]) fun x hx => by simp [hx]
    split at hP1
    · rename_i n e
      obtain ⟨v, rfl, m⟩ := one_vals s1 e q2
      cases e2 : oRg 0 n with
      | none => rw [e2] at hP1; exact hP1.elim
      | some xs =>
        rw [e2] at hP1
        obtain ⟨rfl, ok⟩ := rg_ok e2
        refine ⟨n, by rw [k1.g_int m], ok.2.2.1, ok.2.2.2.1, hP1 (Itr 0 n.toNat) H1 [] _ _ (by rw [rgL_length, Int.sub_zero]; exact walk_range) (fun _ _ _ => trivial) (fun i H x H' l a ha k y => ?_) rgL_own f1 (by simpa using k1.right)⟩
        obtain ⟨rfl, rfl⟩ := y
        rw [rgL_at ha]
        exact k.int
    · exact hP1.elim
theorem iv_rg2 {a b : Expr} {p : Pos} (hg : Gl X "range") (hm : X.mg "range" = none) (ha : AV g X [a, b] fs) (hs : starEach [a, b] X.env = [(false, eval a X.env), (false, eval b X.env)] := by rfl) (hs2 : starEach [b] X.env = [(false, eval b X.env)] := by rfl) : IV g X tg (.Call (.Name "range" p) [a, b] [] pos) (iRg2 fs) :=
  iv_of (pi_range2 hg hm ha hs hs2) fun σ H R ρ τ ft h hP => stepA (ε := []) ft (nilT h) hP fun hs ρ1 hP1 vs H1 f1 s1 k1 => by
    rw [List.nil_append] at k1
    obtain ⟨q1, q2⟩ := mems_of (l := hits hs vs ++ (its ρ1 σ ++ τ)) f1 s1 (fun x hx => by simp [hx]) fun x hx => by simp [hx]
    split at hP1
    · rename_i a b e
      obtain ⟨v, w, rfl, m1, m2⟩ := two_vals s1 e q2
      cases e2 : oRg a b with
      | none => rw [e2] at hP1; exact hP1.elim
      | some xs =>
        rw [e2] at hP1
        obtain ⟨rfl, ok⟩ := rg_ok e2
        refine ⟨a, b, by rw [k1.g_int m1, k1.g_int m2], ⟨ok.1, ok.2.1, ok.2.2.1, ok.2.2.2.1⟩, hP1 (Itr a (b - a).toNat) H1 [] _ _ (by rw [rgL_length]; exact walk_range) (fun _ _ _ => trivial) (fun i H x H' l c hc k y => ?_) rgL_own f1 (by simpa using k1.right)⟩
        obtain ⟨rfl, rfl⟩ := y
        rw [rgL_at hc]
        exact k.int
    · exact hP1.elim
theorem ps1_more {D D' : Ends} {τ τx : Its} {ρ' : List PV} (nx : ∀ ρ2, f ρ' = .ok .nx ρ2 ∨ f ρ' = .ok .ct ρ2 → ∀ σ H, Fits g.s0 ρ2 σ → Hold g.T H (its ρ2 σ ++ (τx ++ τ)) → D'.nx σ H ∧ D'.ct σ H)
    (bk : D'.bk = D.nx) (rt : D'.rt = D.rt) (hP : PS1 g τ D (match f ρ' with
      | .ok .nx ρ2 => k ρ2
      | .ok .ct ρ2 => k ρ2
      | .ok .bk ρ2 => .ok .nx ρ2
      | r => r)) : PS1 g (τx ++ τ) D' (f ρ') := by
  have dn : ∀ {l : Its} {H : Hp} {ρ2 : List PV} {σ : L2.St}, Hold g.T H (l ++ (its ρ2 σ ++ (τx ++ τ))) → Hold g.T H (l ++ (its ρ2 σ ++ τ)) := fun k => k.sub (List.Sublist.append_left (List.Sublist.append_left (List.sublist_append_right ..) _) _)
  cases e : f ρ' with
  | ok a ρ2 =>
    rw [e] at hP nx
    cases a with
    | nx => exact fun σ H f' k' => (nx ρ2 (.inl rfl) σ H f' k').1
    | ct => exact fun σ H f' k' => (nx ρ2 (.inr rfl) σ H f' k').2
    | bk => intro σ H f' k'; rw [bk]; exact hP σ H f' (dn (l := []) k')
    | rt a => intro v σ H f' k'; rw [rt]; exact hP v σ H f' (dn (l := [(a, v)]) k')
  | exc c xs ρ2 => rw [e] at hP; exact fun d vs σ H f' hx hl k' => hP d vs σ H f' hx hl (dn k')
  | stuck => rw [e] at hP; exact hP.elim
theorem for_q {t : Tg} {is : List Nat} : ∀ (D : Ends) (σ : L2.St) (H : Hp) (ρ : List PV) (τ : Its), Fits g.s0 ρ σ → Hold g.T H (its ρ σ ++ τ) → PS1 g τ D (sFor fx t f ρ) → tFor (trI g fx) (trG g t is) (trS g f) D σ H := by
    intro D σ H ρ τ ft h hP
    refine ⟨ρ, τ, ft, h, ?_⟩
    cases e : fx ρ with
    | stuck => unfold sFor at hP; rw [e] at hP; exact hP
    | exc c xs ρ1 => unfold sFor at hP; rw [e] at hP; exact fun d vs H' => hP d vs σ H'
    | ok xs ρ1 =>
      unfold sFor at hP
      rw [e] at hP
      intro J H' τx K Y w hG hY own f1 k1
      refine for_it w (fun i σ H => ∃ ρ, Fits g.s0 ρ σ ∧ Hold g.T H (τx ++ (its ρ σ ++ τ)) ∧ PS1 g τ D (loop t f (xs.drop i) ρ)) ⟨ρ1, f1, k1, hP⟩ (fun i σ H _ ⟨ρ, _, k, _⟩ => hG H _ k) (fun i x σ H H2 hi ⟨ρ, f2, k2, hP2⟩ y => ?_) fun σ H ⟨ρ, f2, k2, hP2⟩ => ?_
      · have hd : xs.drop i = xs[i] :: xs.drop (i + 1) := List.drop_eq_getElem_cons hi
        rw [hd] at hP2
        have k3 := hY i H x H2 _ xs[i] (List.getElem?_eq_getElem hi) k2 y
        simp only [loop] at hP2
        cases e2 : t xs[i] ρ with
        | none => rw [e2] at hP2; exact hP2.elim
        | some ρ2 =>
          rw [e2] at hP2
          simp only at hP2
          refine ⟨xs[i], ρ, τx ++ τ, f2, own _ (List.getElem_mem hi), k3.perm (permc fun _ x => by simp only [List.count_append, List.count_cons]; omega), ρ2, e2, fun σ' H'' _ f' k' => ⟨ρ2, τx ++ τ, f', k', ?_⟩⟩
          refine ps1_more (D := D) (k := fun ρ2 => loop t f (xs.drop (i + 1)) ρ2) (fun ρ3 h3 σ3 H3 f3 k3 => ?_) rfl rfl hP2
          have : PS1 g τ D (loop t f (xs.drop (i + 1)) ρ3) := by
            rcases h3 with h3 | h3 <;> rw [h3] at hP2 <;> exact hP2
          exact ⟨⟨ρ3, f3, mid k3, this⟩, ⟨ρ3, f3, mid k3, this⟩⟩
      · rw [List.drop_length] at hP2
        exact hP2 σ H f2 k2.right
theorem sv_for {body : List Stmt} {t : Tg} {is : List Nat} (hp : PassesOwn (model X.prog X.w) X.A X.env X.xe) (hc : X.calm = true) (hi : IV g X tg iter fx) (hg : GV g X tg t is) (hb : BV g X body f)
    (hs : ∀ x, foldedSetIterable iter X.env x = pure x := by intro _; rfl) : SV g X (.For tg iter body [] pos) (sFor fx t f) :=
  sv_of (ps_for hp hc hi hg hb hs) for_q
end
end VL
set_option Elab.async false
set_option linter.all false
set_option maxRecDepth 100000
namespace VL
open PySem PySem.Spec PyProof.Rows L2
/-- what stood in the slots ahead of it -/
def restP (ρ2 : List PV) (ρ : List PV) : List Nat → List PV
  | [] => ρ2
  | i :: is => (restP ρ2 ρ is).set i (nth ρ i)
def wipeQ (ρ : List PV) : List Nat → List PV
  | [] => ρ
  | i :: is => (wipeQ ρ is).set i .emp
theorem restP_len (ρ2 ρ : List PV) : ∀ is, (restP ρ2 ρ is).length = ρ2.length
  | [] => rfl
  | i :: is => by simp [restP, restP_len ρ2 ρ is]
theorem wipeQ_in {ρ : List PV} {i : Nat} : ∀ {is : List Nat}, i ∈ is → nth (wipeQ ρ is) i = .emp
  | j :: is, h => by
    unfold wipeQ
    by_cases e : j = i
    · subst e
      by_cases l : j < (wipeQ ρ is).length
      · exact nth_set_same l
      · exact nth_out (by simp; omega)
    · rw [nth_set_ne e]
      exact wipeQ_in ((List.mem_cons.mp h).resolve_left fun z => e z.symm)
theorem wipeQ_out {ρ : List PV} {i : Nat} : ∀ {is : List Nat}, i ∉ is → nth (wipeQ ρ is) i = nth ρ i
  | [], _ => rfl
  | j :: is, h => by
    unfold wipeQ
    simp only [List.mem_cons, not_or] at h
    rw [nth_set_ne (Ne.symm h.1)]
    exact wipeQ_out h.2
section
variable {T : Tb} {H : Hp} {s0 : L2.St} {ρ ρ2 : List PV} {σ : L2.St} {l : Its}
theorem wipe_out {σ : L2.St} {i : Nat} : ∀ {is : List Nat}, i ∉ is → (wipe σ is)[i]? = σ[i]?
  | [], _ => rfl
  | j :: is, h => by
    simp only [List.mem_cons, not_or] at h
    show ((wipe σ is).set j none)[i]? = _
    rw [List.getElem?_set_ne (Ne.symm h.1)]
    exact wipe_out h.2
theorem its_split : ∀ {ρ : List PV} {σ : L2.St} {i : Nat}, σ.length = ρ.length → i < ρ.length → ∃ A B, ∀ a s, its (ρ.set i a) (σ.set i s) = A ++ (a, s.getD .non) :: B
  | [], _, _, _, h => by simp at h
  | _ :: _, [], _, h, _ => by simp at h
  | x :: ρ, t :: σ, 0, _, _ => ⟨[], its ρ σ, fun a s => by simp [its]⟩
  | x :: ρ, t :: σ, i + 1, h, hi => by
    obtain ⟨A, B, e⟩ := its_split (ρ := ρ) (σ := σ) (i := i) (by simpa using h) (by simpa using hi)
    exact ⟨(x, t.getD .non) :: A, B, fun a s => by simp only [List.set_cons_succ, its, e, List.cons_append]⟩
theorem set_nth : ∀ {ρ : List PV} {i : Nat}, ρ.set i (nth ρ i) = ρ
  | [], _ => rfl
  | _ :: _, 0 => rfl
  | x :: ρ, i + 1 => by simp [set_nth]
theorem set_get {σ : L2.St} {i : Nat} : σ.set i (σ[i]?.getD none) = σ := by
  cases e : σ[i]? with
  | none => rw [List.set_eq_of_length_le (List.getElem?_eq_none_iff.mp e)]
  | some s => exact set_self e
/-- a slot without a value: what lies at its place doesn't matter -/
theorem Hold.reSlot {i : Nat} {s : Option V} (h : Hold T H (its ρ σ ++ l)) (hl : σ.length = ρ.length) (e : nth ρ i = .emp) : Hold T H (its ρ (σ.set i s) ++ l) := by
  by_cases hi : i < ρ.length
  · obtain ⟨A, B, q⟩ := its_split (ρ := ρ) (σ := σ) hl hi
    have e1 := q (nth ρ i) (σ[i]?.getD none)
    have e2 := q (nth ρ i) s
    rw [set_nth, set_get] at e1
    rw [set_nth] at e2
    rw [e1, e] at h
    rw [e2, e]
    have h1 : Hold T H (A ++ B ++ l) := h.sub (by
      simp only [List.append_assoc, List.cons_append]
      exact List.Sublist.append_left (List.sublist_cons_self ..) _)
    exact (h1.emp (v := s.getD .non)).perm (permc fun _ x => by simp only [List.count_append, List.count_cons]; omega)
  · rw [List.set_eq_of_length_le (by omega)]; exact h
theorem Fits.wipe1 {i : Nat} (f : Fits s0 ρ σ) : Fits s0 (ρ.set i .emp) (σ.set i none) := by
  refine ⟨by simp [f.len], fun j hj => ?_, fun j hj => ?_⟩
  · by_cases c : i = j
    · subst c
      by_cases l : i < ρ.length
      · rw [nth_set_same l] at hj; cases hj
      · rw [nth_out (by simp; omega)] at hj; cases hj
    · rw [nth_set_ne c] at hj
      rw [List.getElem?_set_ne c]
      exact f.has j hj
  · by_cases c : i = j
    · subst c
      by_cases l : i < ρ.length
      · rw [nth_set_same l] at hj; cases hj
      · rw [nth_out (by simp; omega)] at hj; cases hj
    · rw [nth_set_ne c] at hj
      rw [List.getElem?_set_ne c]
      exact f.io j hj
/-- the slots' items put aside, and put back -/
theorem saveOut : ∀ {is : List Nat} {ρ : List PV} {σ : L2.St} {l : Its} {H : Hp}, is.Nodup → Fits s0 ρ σ → Hold T H (its ρ σ ++ l) → ∃ S : Its, Fits s0 (wipeQ ρ is) (wipe σ is) ∧ Hold T H (its (wipeQ ρ is) (wipe σ is) ++ (S ++ l)) ∧
    ∀ (ρ2 : List PV) (H2 : Hp) (l2 : Its), Fits s0 ρ2 (wipe σ is) → (∀ i ∈ is, nth ρ2 i = .emp) → Hold T H2 (its ρ2 (wipe σ is) ++ (S ++ l2)) → Fits s0 (restP ρ2 ρ is) σ ∧ Hold T H2 (its (restP ρ2 ρ is) σ ++ l2)
  | [], ρ, σ, l, H, _, f, h => ⟨[], f, by simpa [wipeQ, wipe] using h, fun ρ2 H2 l2 f2 _ h2 => ⟨f2, by simpa [restP, wipe] using h2⟩⟩
  | i :: is, ρ, σ, l, H, nd, f, h => by
    obtain ⟨ni, nd⟩ := List.nodup_cons.mp nd
    obtain ⟨S, f1, h1, q⟩ := saveOut (is := is) nd f h
    have fs : Fits s0 ((wipeQ ρ is).set i .emp) ((wipe σ is).set i none) := f1.wipe1
    have len1 := f1.len
    -- the slot holds something, or nothing
    cases e : (wipe σ is)[i]? with
    | none =>
      have out : (wipeQ ρ is).length ≤ i := by rw [← len1]; exact List.getElem?_eq_none_iff.mp e
      refine ⟨S, fs, ?_, fun ρ2 H2 l2 f2 he h2 => ?_⟩
      · show Hold T H (its ((wipeQ ρ is).set i .emp) ((wipe σ is).set i none) ++ (S ++ l))
        rw [List.set_eq_of_length_le out, List.set_eq_of_length_le (by omega)]; exact h1
      · have e2 : wipe σ (i :: is) = wipe σ is := by show (wipe σ is).set i none = _; rw [List.set_eq_of_length_le (by omega)]
        rw [e2] at f2 h2
        obtain ⟨q1, q2⟩ := q ρ2 H2 l2 f2 (fun j hj => he j (List.mem_cons_of_mem _ hj)) h2
        have e3 : restP ρ2 ρ (i :: is) = restP ρ2 ρ is := by
          show (restP ρ2 ρ is).set i _ = _
          rw [List.set_eq_of_length_le (by rw [restP_len]; have := f2.len; omega)]
        rw [e3]; exact ⟨q1, q2⟩
    | some s =>
      have hi : i < (wipeQ ρ is).length := by rw [← len1]; exact (List.getElem?_eq_some_iff.mp e).1
      have en : nth (wipeQ ρ is) i = nth ρ i := wipeQ_out ni
      have es : σ[i]? = some s := by rw [← wipe_out ni]; exact e
      cases s with
      | none =>
        have ee : nth (wipeQ ρ is) i = .emp := by
          cases k : (nth (wipeQ ρ is) i).isEmp with
          | true => cases k2 : nth (wipeQ ρ is) i <;> rw [k2] at k <;> first | rfl | cases k
          | false => obtain ⟨v, hv⟩ := f1.has i k; rw [e] at hv; cases hv
        have er : (wipeQ ρ is).set i .emp = wipeQ ρ is := by rw [← ee]; exact set_nth
        have ew : (wipe σ is).set i none = wipe σ is := set_self e
        refine ⟨S, fs, by show Hold T H (its ((wipeQ ρ is).set i .emp) ((wipe σ is).set i none) ++ (S ++ l)); rw [er, ew]; exact h1, fun ρ2 H2 l2 f2 he h2 => ?_⟩
        have e2 : wipe σ (i :: is) = wipe σ is := ew
        rw [e2] at f2 h2
        obtain ⟨q1, q2⟩ := q ρ2 H2 l2 f2 (fun j hj => he j (List.mem_cons_of_mem _ hj)) h2
        have e4 : nth (restP ρ2 ρ is) i = .emp := by
          have z : ∀ is : List Nat, i ∉ is → nth (restP ρ2 ρ is) i = nth ρ2 i := by
            intro is
            induction is with
            | nil => intro _; rfl
            | cons j is ih =>
              intro h
              simp only [List.mem_cons, not_or] at h
              show nth ((restP ρ2 ρ is).set j _) i = _
              rw [nth_set_ne (Ne.symm h.1)]
              exact ih h.2
          rw [z is ni]; exact he i List.mem_cons_self
        have e3 : restP ρ2 ρ (i :: is) = restP ρ2 ρ is := by
          show (restP ρ2 ρ is).set i (nth ρ i) = _
          rw [← en, ee, ← e4]; exact set_nth
        rw [e3]; exact ⟨q1, q2⟩
      | some v =>
        have h2 := h1.slotOut f1 e
        have f2 : Fits s0 ((wipeQ ρ is).set i .emp) (wipe σ is) := f1.re e fun z => by cases z
        have h3 : Hold T H (its ((wipeQ ρ is).set i .emp) (wipe σ is) ++ (((nth ρ i, v) :: S) ++ l)) := by
          rw [en] at h2
          exact h2.perm (permc fun _ x => by simp only [List.count_append, List.count_cons]; omega)
        refine ⟨(nth ρ i, v) :: S, fs, h3.reSlot f2.len (nth_set_same hi), fun ρ2 H2 l2 g2 he k2 => ?_⟩
        have len2 := g2.len
        have l3 : (wipe σ (i :: is)).length = (wipe σ is).length := by show ((wipe σ is).set i none).length = _; simp
        have hi2 : i < ρ2.length := by rw [← len2, l3, len1]; exact hi
        have em := he i List.mem_cons_self
        -- the slots as they were ahead of i's wiping
        have k3 : Hold T H2 (its ρ2 (wipe σ is) ++ (((nth ρ i, v) :: S) ++ l2)) := by
          have := k2.reSlot (i := i) (s := some v) len2 em
          have e5 : (wipe σ (i :: is)).set i (some v) = wipe σ is := by
            show ((wipe σ is).set i none).set i (some v) = _
            rw [List.set_set]; exact set_self e
          rw [e5] at this; exact this
        have g3 : Fits s0 ρ2 (wipe σ is) := by
          refine ⟨by rw [← l3]; exact len2, fun j hj => ?_, fun j hj => ?_⟩
          · by_cases c : i = j
            · subst c; rw [em] at hj; cases hj
            · have := g2.has j hj
              have e6 : (wipe σ (i :: is))[j]? = (wipe σ is)[j]? := by show ((wipe σ is).set i none)[j]? = _; rw [List.getElem?_set_ne c]
              rw [e6] at this; exact this
          · by_cases c : i = j
            · subst c; rw [em] at hj; cases hj
            · have := g2.io j hj
              have e6 : (wipe σ (i :: is))[j]? = (wipe σ is)[j]? := by show ((wipe σ is).set i none)[j]? = _; rw [List.getElem?_set_ne c]
              rw [e6] at this; exact this
        obtain ⟨q1, q2⟩ := q ρ2 H2 ((nth ρ i, v) :: l2) g3 (fun j hj => he j (List.mem_cons_of_mem _ hj)) (k3.perm (permc fun _ x => by simp only [List.count_append, List.count_cons]; omega))
        have hr : i < (restP ρ2 ρ is).length := by rw [restP_len]; exact hi2
        have q3 : Hold T H2 ((nth ρ i, v) :: (its (restP ρ2 ρ is) σ ++ l2)) := q2.perm (permc fun _ x => by simp only [List.count_append, List.count_cons]; omega)
        have q4 := q3.slot q1 hr
        rw [set_self es] at q4
        refine ⟨?_, q4⟩
        refine ⟨by show σ.length = ((restP ρ2 ρ is).set i _).length; rw [List.length_set]; exact q1.len, fun j hj => ?_, fun j hj => ?_⟩
        · by_cases c : i = j
          · subst c; exact ⟨v, es⟩
          · have hj : (nth ((restP ρ2 ρ is).set i (nth ρ i)) j).isEmp = false := hj
            rw [nth_set_ne c] at hj; exact q1.has j hj
        · have hj : (nth ((restP ρ2 ρ is).set i (nth ρ i)) j).isIo = true := hj
          by_cases c : i = j
          · subst c
            rw [nth_set_same hr] at hj
            exact f.io i hj
          · rw [nth_set_ne c] at hj; exact q1.io j hj
end
def lcl (t : Tg) (tt : M Bool) (fe : M Hd) (own : List Nat) : List PV → List PV → M (List PV)
  | [], acc, ρ => .ok acc ρ
  | x :: xs, acc, ρ => match t x ρ with
    | some ρ1 => (match tt ρ1 with
      | .ok true ρ2 => (match fe ρ2 with
        | .ok h ρ3 => (match take ρ3 h with
          | some (a, ρ4) => if acc.length < lim then lcl t tt fe own xs (acc ++ [a]) (wipeQ ρ4 own) else .stuck
          | none => .stuck)
        | _ => .stuck)
      | .ok false ρ2 => lcl t tt fe own xs acc (wipeQ ρ2 own)
      | _ => .stuck)
    | none => .stuck
def eLc (fi : M (List PV)) (t : Tg) (tt : M Bool) (fe : M Hd) (own : List Nat) : M Hd := fun ρ => (fi ρ).bind fun xs ρ1 => match lcl t tt fe own xs [] (wipeQ ρ1 own) with
  | .ok ys ρ2 => .ok (.tm (.lst .ow ys)) (restP ρ2 ρ1 own)
  | _ => .stuck
abbrev G.in0 (g : G) : G := { g with W := fun _ _ _ _ => False }
theorem wipe_idem (σ : L2.St) : ∀ is : List Nat, wipe (wipe σ is) is = wipe σ is
  | [] => rfl
  | i :: is => by
    show (wipe ((wipe σ is).set i none) is).set i none = (wipe σ is).set i none
    rw [← wipe_set, List.set_set, wipe_idem σ is]
section
variable {g : G} {X : Cx} {elt tg iter : Expr} {ifs : List Expr} {fe : M Hd} {fx : M (List PV)} {tt : M Bool} {t : Tg} {pos : Pos} {scope : Scope} {own : List (Str × Nat)} {is : List Nat}
theorem lc_read {σ : L2.St} {H : Hp} {Q : VK} {ρ : List PV} {τ : Its} (nd : is.Nodup) (ft : Fits g.s0 ρ σ) (h : Hold g.T H (its ρ σ ++ τ)) (hP : Post g σ τ (PE1 g σ τ Q) (eLc fx t tt fe is ρ)) :
    tLc (trI g fx) (trG g.in0 t is) (trT g.in0 tt) (trE g.in0 fe) is σ H Q := by
  refine ⟨ρ, τ, ft, h, ?_⟩
  unfold eLc at hP
  cases e : fx ρ with
  | stuck => rw [e] at hP; exact hP
  | exc c xs ρ1 => rw [e] at hP; exact hP
  | ok xs ρ1 =>
    rw [e] at hP
    intro J H' τx K Y w hG hY own f1 k1 D hD
    obtain ⟨S, f2, k2, put⟩ := saveOut nd f1 (mid k1)
    refine lc_it w (fun i H => ∃ ρ acc, Fits g.s0 ρ (wipe σ is) ∧ (∀ j ∈ is, nth ρ j = .emp) ∧ Hold g.T H ((.lst .ow acc, .ref D) :: (its ρ (wipe σ is) ++ (S ++ (τx ++ τ)))) ∧
      (match lcl t tt fe is (xs.drop i) acc ρ with
        | .ok ys ρ2 => PE1 g σ τ Q (.tm (.lst .ow ys)) (restP ρ2 ρ1 is)
        | _ => False)) ?_ (fun i H _ ⟨ρ, acc, _, _, k, _⟩ => hG H ((.lst .ow acc, .ref D) :: (its ρ (wipe σ is) ++ (S ++ τ))) (k.perm (permc fun _ x => by simp only [List.count_append, List.count_cons]; omega))) (fun i x H2 H3 hi ⟨ρ, acc, f3, em, k3, hP3⟩ y => ?_) fun H2 ⟨ρ, acc, f3, em, k3, hP3⟩ => ?_
    · refine ⟨wipeQ ρ1 is, [], f2, fun j hj => wipeQ_in hj, Hold.new_own k2 hD rfl fun F s o => ⟨D, [], rfl, upd_same, .nil⟩, ?_⟩
      rw [List.drop_zero]
      have hP : Post g σ τ (PE1 g σ τ Q) (match lcl t tt fe is xs [] (wipeQ ρ1 is) with
        | .ok ys ρ2 => (.ok (.tm (.lst .ow ys)) (restP ρ2 ρ1 is) : R Hd)
        | _ => .stuck) := hP
      cases e2 : lcl t tt fe is xs [] (wipeQ ρ1 is) with
      | ok ys ρ2 => rw [e2] at hP; exact hP
      | exc _ _ _ => rw [e2] at hP; exact hP
      | stuck => rw [e2] at hP; exact hP
    · have hd : xs.drop i = xs[i] :: xs.drop (i + 1) := List.drop_eq_getElem_cons hi
      rw [hd] at hP3
      simp only [lcl] at hP3
      have k4 := hY i H2 x H3 ((.lst .ow acc, .ref D) :: (its ρ (wipe σ is) ++ (S ++ τ))) xs[i] (List.getElem?_eq_getElem hi) (k3.perm (permc fun _ x => by simp only [List.count_append, List.count_cons]; omega)) y
      cases e2 : t xs[i] ρ with
      | none => rw [e2] at hP3; exact hP3.elim
      | some ρ2 =>
        rw [e2] at hP3
        simp only at hP3
        -- what a turn leaves aside
        have down : ∀ {ρ4 : List PV} {σ' : L2.St} {H : Hp} {l : Its}, wipe σ' is = wipe σ is → Fits g.s0 ρ4 σ' → Hold g.T H (its ρ4 σ' ++ l) → Fits g.s0 (wipeQ ρ4 is) (wipe σ is) ∧ Hold g.T H (its (wipeQ ρ4 is) (wipe σ is) ++ l) := fun {ρ4 σ' H l} w' f' k' => by
          obtain ⟨S', q1, q2, _⟩ := saveOut nd f' k'
          rw [w'] at q1 q2
          exact ⟨q1, q2.sub (List.Sublist.append_left (List.sublist_append_right ..) _)⟩
        refine ⟨xs[i], ρ, (.lst .ow acc, .ref D) :: (S ++ (τx ++ τ)), f3, own _ (List.getElem_mem hi), k4.perm (permc fun _ x => by simp only [List.count_append, List.count_cons]; omega), ρ2, e2, fun σ' H4 w' f4 k5 => ⟨by rw [w', wipe_idem], ?_⟩⟩
        rw [wipe_idem] at w'
        refine ⟨ρ2, _, f4, k5, ?_⟩
        cases e3 : tt ρ2 with
        | stuck => rw [e3] at hP3; exact hP3
        | exc _ _ _ => rw [e3] at hP3; exact hP3.elim
        | ok b ρ3 =>
          rw [e3] at hP3
          intro H5 f5 k6
          cases b with
          | false =>
            simp only [Bool.false_eq_true, if_false] at hP3 ⊢
            obtain ⟨f6, k7⟩ := down w' f5 k6
            exact ⟨wipeQ ρ3 is, acc, f6, fun j hj => wipeQ_in hj, k7.perm (permc fun _ x => by simp only [List.count_append, List.count_cons]; omega), hP3⟩
          | true =>
            simp only [if_true] at hP3 ⊢
            refine ⟨ρ3, _, f5, k6, ?_⟩
            cases e4 : fe ρ3 with
            | stuck => rw [e4] at hP3; exact hP3
            | exc _ _ _ => rw [e4] at hP3; exact hP3.elim
            | ok h1 ρ4 =>
              rw [e4] at hP3
              simp only at hP3
              intro v H6 f6 s6 k7
              cases e5 : take ρ4 h1 with
              | none => rw [e5] at hP3; exact hP3.elim
              | some p =>
                obtain ⟨a, ρ5⟩ := p
                rw [e5] at hP3
                simp only at hP3
                obtain ⟨f7, o7, k8⟩ := take_ok f6 s6 k7 e5
                by_cases hz : acc.length < lim
                · rw [if_pos hz] at hP3
                  have k9 : Hold g.T H6 ((.lst .ow acc, .ref D) :: ((a, v) :: (its ρ5 σ' ++ (S ++ (τx ++ τ))))) := k8.perm (permc fun _ x => by simp only [List.count_append, List.count_cons]; omega)
                  obtain ⟨p, vs, ev, hp, hl, _⟩ := k9.g_lst List.mem_cons_self
                  cases ev
                  refine ⟨vs, hp, by rw [hl]; exact lim_lt hz, ?_⟩
                  have k10 := Hold.write k9 (o := .lst (vs ++ [v])) rfl (b := .lst .ow (acc ++ [a])) rfl fun F s ra o => ⟨D, vs ++ [v], rfl, upd_same, by
                    obtain ⟨p', vs', ev, hp', r⟩ := ra
                    cases ev
                    rw [hp] at hp'; cases hp'
                    exact r.append (.cons ((Own.fz o7).mp (o (a, v) List.mem_cons_self)) o7 .nil)⟩
                  have k11 : Hold g.T (upd H6 D (.lst (vs ++ [v]))) (its ρ5 σ' ++ ((.lst .ow (acc ++ [a]), .ref D) :: (S ++ (τx ++ τ)))) := by
                    have : Hold g.T (upd H6 D (.lst (vs ++ [v]))) ((a, v) :: (its ρ5 σ' ++ ((.lst .ow (acc ++ [a]), .ref D) :: (S ++ (τx ++ τ))))) := k10.perm (permc fun _ x => by simp only [List.count_append, List.count_cons]; omega)
                    exact this.tail
                  obtain ⟨f8, k12⟩ := down w' f7 k11
                  exact ⟨wipeQ ρ5 is, acc ++ [a], f8, fun j hj => wipeQ_in hj, k12.perm (permc fun _ x => by simp only [List.count_append, List.count_cons]; omega), hP3⟩
                · rw [if_neg hz] at hP3; exact hP3.elim
    · rw [List.drop_length] at hP3
      simp only [lcl] at hP3
      have k4 : Hold g.T H2 (its ρ (wipe σ is) ++ (S ++ ((.lst .ow acc, .ref D) :: (τx ++ τ)))) := k3.perm (permc fun _ x => by simp only [List.count_append, List.count_cons]; omega)
      obtain ⟨f4, k5⟩ := put ρ H2 _ f3 em k4
      refine hP3 (.ref D) H2 f4 slot_tm ?_
      have : Hold g.T H2 (τx ++ ((.lst .ow acc, .ref D) :: (its (restP ρ ρ1 is) σ ++ τ))) := k5.perm (permc fun _ x => by simp only [List.count_append, List.count_cons]; omega)
      exact this.right
abbrev PTsV (g : G) (X : Cx) (ifs : List Expr) (tt : M Bool) : Prop := PTs X ifs (trT g tt)
theorem ptsv_nil : PTsV g X [] tYesV := ⟨fun pins s σ H Q I ⟨ρ, τ, f, h, hP⟩ => pts_nil.run pins s σ H Q I (hP H f h)⟩
theorem ptsv_one {c : Expr} (h : TV g X c tt) : PTsV g X [c] tt := pts_one h
theorem ev_lc (hc : X.calm = true) (hN : X.N.Nodup) (his : own.map (·.2) = is) (nd : is.Nodup) (hi : IV g X tg iter fx) (ok : BlkOk X.N X.env.scope scope own)
    (hg : ∀ (s : Shared) (H : Hp) (C : Addr) (cl : List (Str × Addr)) (fp : List Addr), GV g.in0 (X.blk s H scope (compEnvC scope cl C X.env) fp) tg t is) (ht : ∀ (s : Shared) (H : Hp) (C : Addr) (cl : List (Str × Addr)) (fp : List Addr), PTsV g.in0 (X.blk s H scope (compEnvC scope cl C X.env) fp) ifs tt)
    (he : ∀ (s : Shared) (H : Hp) (C : Addr) (cl : List (Str × Addr)) (fp : List Addr), EV g.in0 (X.blk s H scope (compEnvC scope cl C X.env) fp) elt fe) (hs : ∀ x, foldedSetIterable iter X.env x = pure x := by intro _; rfl) :
    EV g X (.ListComp elt [⟨tg, iter, ifs, 0⟩] scope pos) (eLc fx t tt fe is) :=
  ev_of (pe_lc hc hN hi ok hg ht he hs) fun σ H Q ρ τ ft h hP => by rw [his]; exact lc_read nd ft h hP
theorem sv_setLc {i : Nat} {y : Str} {py spos : Pos} (hc : X.calm = true) (hN : X.N.Nodup) (hy : X.N[i]? = some y) (hyl : X.env.scope.names.lookup y = some .local)
    (hsw : swapsWith (.ListComp elt [⟨tg, iter, ifs, 0⟩] scope pos) (some (.Name y py)) spos.line X.env = pure true) (his : own.map (·.2) = is) (nd : is.Nodup) (hi : IV g X tg iter fx) (ok : BlkOk X.N X.env.scope scope own)
    (hg : ∀ (s : Shared) (H : Hp) (C : Addr) (cl : List (Str × Addr)) (fp : List Addr), GV g.in0 (X.blk s H scope (compEnvC scope cl C X.env) fp) tg t is) (ht : ∀ (s : Shared) (H : Hp) (C : Addr) (cl : List (Str × Addr)) (fp : List Addr), PTsV g.in0 (X.blk s H scope (compEnvC scope cl C X.env) fp) ifs tt)
    (he : ∀ (s : Shared) (H : Hp) (C : Addr) (cl : List (Str × Addr)) (fp : List Addr), EV g.in0 (X.blk s H scope (compEnvC scope cl C X.env) fp) elt fe) (hs : ∀ x, foldedSetIterable iter X.env x = pure x := by intro _; rfl) :
    SV g X (.Assign [.Name y py] (.ListComp elt [⟨tg, iter, ifs, 0⟩] scope pos) spos) (sSet i (eLc fx t tt fe is)) :=
  sv_of (ps_setLc hc hN hy hyl hsw hi ok hg ht he hs) fun D σ H ρ τ ft h hP => by
    have hP2 : PS1 g τ D ((eLc fx t tt fe is ρ).bind fun h ρ1 => match keep h ρ1 with
      | some (a, ρ2) => ofL (setAt i a ρ2)
      | none => .stuck) := hP
    rw [his]
    refine (show tLc (trI g fx) (trG g.in0 t is) (trT g.in0 tt) (trE g.in0 fe) is σ H (fun x H1 => gName i x σ H1 D.nx) from ?_)
    refine lc_read nd ft h (?_ : Post g σ τ (PE1 g σ τ fun x H1 => gName i x σ H1 D.nx) (eLc fx t tt fe is ρ))
    cases e : eLc fx t tt fe is ρ with
    | stuck => rw [e] at hP2; exact hP2
    | exc c xs ρ1 => rw [e] at hP2; exact fun d vs H' => hP2 d vs σ H'
    | ok h1 ρ1 =>
      rw [e] at hP2
      intro v H1 f1 s1 k1
      simp only [R.bind_ok] at hP2
      cases e1 : keep h1 ρ1 with
      | none => rw [e1] at hP2; exact hP2.elim
      | some p =>
        obtain ⟨a, ρ2⟩ := p
        rw [e1] at hP2
        simp only at hP2
        obtain ⟨f2, k2⟩ := keep_ok f1 s1 k1 e1
        cases e2 : setAt i a ρ2 with
        | none => rw [e2] at hP2; exact hP2.elim
        | some ρ3 =>
          rw [e2] at hP2
          obtain ⟨f3, k3⟩ := setAt_ok f2 k2 e2
          exact hP2 _ H1 f3 k3
end
end VL
set_option Elab.async false
set_option linter.all false
set_option maxRecDepth 100000
namespace VL
open PySem PySem.Spec PyProof.Rows L2
def PV.toIo (a : PV) : PV := PV.reFl .io a
/-- what is handed back of the arguments -/
def exit1 (a b : PV) : PV := if a.own = true then (if b.isIo = true then b.setFl .ow else .emp) else a
def exitF : List PV → List PV → List PV
  | [], _ => []
  | a :: as, ρ => exit1 a (ρ.headD .emp) :: exitF as ρ.tail
def runF (np n : Nat) (f : M Fw) (args : List PV) : R PV :=
  if args.length = np then
    (match f (args.map PV.toIo ++ List.replicate (n - np) .emp) with
    | .ok (.rt a) ρ => .ok a (exitF args ρ)
    | .ok .nx ρ => .ok .non (exitF args ρ)
    | .ok _ _ => .stuck
    | .exc c xs ρ => .exc c xs (exitF args ρ)
    | .stuck => .stuck)
  else .stuck
section
variable {T : Tb} {H : Hp}
/-- the frozen ones among the arguments -/
def fzs : List PV → List V → Its
  | a :: as, v :: vs => if a.own = true then fzs as vs else (a, v) :: fzs as vs
  | _, _ => []
theorem entry : ∀ {args : List PV} {vs : List V} {l : Its}, vs.length = args.length → Hold T H (args.zip vs ++ l) → Hold T H ((args.map PV.toIo).zip vs ++ (fzs args vs ++ l))
  | [], vs, l, hl, h => by simpa [fzs] using h
  | a :: as, [], l, hl, h => by simp at hl
  | a :: as, v :: vs, l, hl, h => by
    rw [List.zip_cons_cons, List.cons_append] at h
    rw [List.map_cons, List.zip_cons_cons, List.cons_append]
    have hl : vs.length = as.length := by simpa using hl
    by_cases ho : a.own = true
    · have h1 : Hold T H (as.zip vs ++ ((a, v) :: l)) := h.perm (permc fun _ x => by simp only [List.count_append, List.count_cons]; omega)
      have h2 := entry hl h1
      have h3 : Hold T H ((a, v) :: ((as.map PV.toIo).zip vs ++ (fzs as vs ++ l))) := h2.perm (permc fun _ x => by simp only [List.count_append, List.count_cons]; omega)
      have e : a.toIo = a.setFl .io := by unfold PV.toIo PV.reFl; rw [if_pos ho]
      rw [e]
      simp only [fzs, ho, if_true]
      exact h3.relabel ho (by intro z; cases z)
    · have ho' : a.own = false := by simpa using ho
      have e : a.toIo = a := by unfold PV.toIo PV.reFl; rw [if_neg ho]
      rw [e]
      have h1 : Hold T H (as.zip vs ++ ((a, v) :: l)) := h.perm (permc fun _ x => by simp only [List.count_append, List.count_cons]; omega)
      have h2 := entry hl h1
      have h3 := h2.dup (a := a) (v := v) (by simp) ho'
      simp only [fzs, ho, Bool.false_eq_true, if_false]
      exact h3.perm (permc fun _ x => by simp only [List.count_append, List.count_cons]; omega)
theorem exit_hold : ∀ {args : List PV} {vs : List V} {ρ : List PV} {σ : L2.St} {l : Its}, vs.length = args.length → σ.length = ρ.length → (∀ i, (nth ρ i).isIo = true → i < args.length → σ[i]? = (vs[i]?).map some) → Hold T H (its ρ σ ++ (fzs args vs ++ l)) → Hold T H ((exitF args ρ).zip vs ++ l)
  | [], vs, ρ, σ, l, hl, _, _, h => by
    have h : Hold T H (its ρ σ ++ ([] ++ l)) := by simpa [fzs] using h
    simpa [exitF] using h.right
  | a :: as, [], ρ, σ, l, hl, _, _, h => by simp at hl
  | a :: as, v :: vs, [], σ, l, hl, hs, _, h => by
    have hl : vs.length = as.length := by simpa using hl
    have e0 : σ = [] := List.length_eq_zero_iff.mp hs
    subst e0
    have rec_ : ∀ {l : Its}, Hold T H (fzs as vs ++ l) → Hold T H ((exitF as []).zip vs ++ l) := fun h => exit_hold (ρ := []) (σ := []) hl rfl (fun i h1 _ => by simp [nth, PV.isIo, PV.fl] at h1) (by simpa [its] using h)
    have h : Hold T H (fzs (a :: as) (v :: vs) ++ l) := by simpa [its] using h
    simp only [exitF, List.headD_nil, List.tail_nil, List.zip_cons_cons, List.cons_append]
    unfold exit1
    by_cases ho : a.own = true
    · simp only [fzs, ho, if_true] at h ⊢
      rw [if_neg (by simp [PV.isIo, PV.fl])]
      exact (rec_ h).emp
    · simp only [fzs, ho, Bool.false_eq_true, if_false] at h ⊢
      have h1 : Hold T H (fzs as vs ++ ((a, v) :: l)) := h.perm (permc fun _ x => by simp only [List.count_append, List.count_cons]; omega)
      exact (rec_ h1).perm (permc fun _ x => by simp only [List.count_append, List.count_cons]; omega)
  | a :: as, v :: vs, b :: ρ, [], l, hl, hs, _, h => by simp at hs
  | a :: as, v :: vs, b :: ρ, s :: σ, l, hl, hs, io, h => by
    have hl : vs.length = as.length := by simpa using hl
    have hs : σ.length = ρ.length := by simpa using hs
    have io' : ∀ i, (nth ρ i).isIo = true → i < as.length → σ[i]? = (vs[i]?).map some := fun i h1 h2 => by
      have := io (i + 1) (by simpa using h1) (by simpa using h2)
      simpa using this
    simp only [its, List.cons_append] at h
    simp only [exitF, List.headD_cons, List.tail_cons, List.zip_cons_cons, List.cons_append]
    unfold exit1
    by_cases ho : a.own = true
    · simp only [fzs, ho, if_true] at h ⊢
      have h1 : Hold T H (its ρ σ ++ (fzs as vs ++ ((b, s.getD .non) :: l))) := h.perm (permc fun _ x => by simp only [List.count_append, List.count_cons]; omega)
      have h2 := exit_hold hl hs io' h1
      by_cases hb : b.isIo = true
      · rw [if_pos hb]
        have e := io 0 (by simpa using hb) (by simp)
        simp at e
        subst e
        have h3 : Hold T H ((b, v) :: ((exitF as ρ).zip vs ++ l)) := h2.perm (permc fun _ x => by simp only [Option.getD_some, List.count_append, List.count_cons]; omega)
        exact h3.relabel (io_own hb) (by intro z; cases z)
      · rw [if_neg hb]
        have h3 : Hold T H ((exitF as ρ).zip vs ++ l) := by
          have : Hold T H ((b, s.getD .non) :: ((exitF as ρ).zip vs ++ l)) := h2.perm (permc fun _ x => by simp only [List.count_append, List.count_cons]; omega)
          exact this.tail
        exact h3.emp
    · simp only [fzs, ho, Bool.false_eq_true, if_false] at h ⊢
      have h1 : Hold T H (its ρ σ ++ (fzs as vs ++ ((a, v) :: l))) := by
        have : Hold T H ((b, s.getD .non) :: (its ρ σ ++ (fzs as vs ++ ((a, v) :: l)))) := h.perm (permc fun _ x => by simp only [List.count_append, List.count_cons]; omega)
        exact this.tail
      have h2 := exit_hold hl hs io' h1
      exact h2.perm (permc fun _ x => by simp only [List.count_append, List.count_cons]; omega)
theorem its_app : ∀ {as bs : List PV} {vs : List V} {m : Nat}, vs.length = as.length → its (as ++ List.replicate m .emp) (vs.map some ++ List.replicate m none) = as.zip vs ++ List.replicate m (.emp, .non)
  | [], _, [], m, _ => by
    simp only [List.nil_append, List.map_nil, List.zip_nil_left]
    induction m with
    | zero => rfl
    | succ m ih => simp only [List.replicate_succ, its, ih, Option.getD_none]
  | [], _, _ :: _, _, h => by simp at h
  | _ :: _, _, [], _, h => by simp at h
  | a :: as, bs, v :: vs, m, h => by
    simp only [List.cons_append, List.map_cons, its, Option.getD_some, List.zip_cons_cons]
    rw [its_app (bs := bs) (by simpa using h)]
theorem Hold.emps {l : Its} (h : Hold T H l) : ∀ m : Nat, Hold T H (l ++ List.replicate m (.emp, .non))
  | 0 => by simpa using h
  | m + 1 => by
    have := (Hold.emps h m).emp (v := .non)
    exact this.perm (permc fun _ x => by simp only [List.replicate_succ, List.count_append, List.count_cons]; omega)
end
/-- the body's word is the def's -/
theorem body_sp {T : Tb} {E : XK} {Q : VK} {N ps : List Str} {f : M Fw} {vs : List V} {H : Hp} (hn : ps.length ≤ N.length) (h : spF T (runF ps.length N.length f) vs H Q E) :
    vs.length = ps.length ∧ trS ⟨T, L2.start N vs, fun cls d _ H => E cls d H⟩ f { nx := fun _ H' => Q .non H', rt := Q } (L2.start N vs) H := by
  obtain ⟨args, τ, hl, hh, fin⟩ := h
  unfold runF at fin
  split at fin
  case isFalse => exact fin.elim
  rename_i ha
  refine ⟨by rw [hl, ha], ?_⟩
  have hs : L2.start N vs = vs.map some ++ List.replicate (N.length - ps.length) none := by unfold L2.start; rw [hl, ha]
  have hi : its (args.map PV.toIo ++ List.replicate (N.length - ps.length) .emp) (L2.start N vs) = (args.map PV.toIo).zip vs ++ List.replicate (N.length - ps.length) (.emp, .non) := by
    rw [hs]; exact its_app (bs := []) (by rw [hl, List.length_map])
  have k1 := entry hl hh
  have fit : Fits (L2.start N vs) (args.map PV.toIo ++ List.replicate (N.length - ps.length) .emp) (L2.start N vs) := by
    refine ⟨by rw [hs]; simp [hl], fun i hi => ?_, fun _ _ => rfl⟩
    by_cases hlt : i < args.length
    · refine ⟨vs[i]'(by omega), ?_⟩
      rw [hs, List.getElem?_append_left (by simp; omega)]
      simp
    · exfalso
      have : nth (args.map PV.toIo ++ List.replicate (N.length - ps.length) PV.emp) i = .emp := by
        rw [nth_get, List.getElem?_append_right (by simp; omega)]
        rw [List.getElem?_replicate]
        split <;> rfl
      rw [this] at hi; cases hi
  refine ⟨_, fzs args vs ++ τ, fit, ?_, ?_⟩
  · rw [hi]
    have := Hold.emps k1 (N.length - ps.length)
    exact this.perm (permc fun _ x => by simp only [List.count_append]; omega)
  -- the end
  have out : ∀ {ρ : List PV} {σ : L2.St} {H' : Hp} {l : Its}, Fits (L2.start N vs) ρ σ → Hold T H' (l ++ (its ρ σ ++ (fzs args vs ++ τ))) → Hold T H' (l ++ ((exitF args ρ).zip vs ++ τ)) := fun {ρ σ H' l} f k => by
    have k2 : Hold T H' (its ρ σ ++ (fzs args vs ++ (l ++ τ))) := k.perm (permc fun _ x => by simp only [List.count_append]; omega)
    have k3 := exit_hold hl f.len (fun i h1 h2 => by
      rw [f.io i h1, hs, List.getElem?_append_left (by simp; omega), List.getElem?_map]) k2
    exact k3.perm (permc fun _ x => by simp only [List.count_append]; omega)
  cases e : f (args.map PV.toIo ++ List.replicate (N.length - ps.length) .emp) with
  | ok a ρ =>
    rw [e] at fin
    cases a with
    | nx => exact fun σ H' f' k => fin .non H' (out (l := []) f' k).non
    | rt a => exact fun v σ H' f' k => fin v H' (out (l := [(a, v)]) f' k)
    | bk => exact fin.elim
    | ct => exact fin.elim
  | exc c xs ρ =>
    rw [e] at fin
    exact fun d ws σ H' f' hx hl2 k => fin d ws H' hx hl2 (out f' k)
  | stuck => rw [e] at fin; exact fin.elim
section
variable {P : Program} {w : World} {mg : Str → Option Value} {base : Heap} {T : Tb} {x qual m : Str} {C : Addr} {st : Stmt} {N ps : List Str} {k : Nat} {f : M Fw}
/-- what a body's derivation may use -/
abbrev BodyV (P : Program) (w : World) (mg : Str → Option Value) (base : Heap) (T : Tb) (k : Nat) (qual : Str) (st : Stmt) (N : List Str) (f : M Fw) : Prop :=
  ∀ (fa : Addr) (cdv : Value) (A : Around) (outer : List Env) (s : Shared) (H : Hp) (vs : List V) (E : XK), My.RoomG k (A.deeper (envOfC qual (defScope st) s.heap.objs.size fa cdv)) →
    BV ⟨T, L2.start N vs, fun cls d _ H => E cls d H⟩ (cxOf (L2N.CX P w) P w T.K mg base N qual (defScope st) fa cdv A outer s H E) (defBody st) f
theorem okV (F : My.Df T.K mg x st ps) (S : FnScope N ps (defScope st)) (hn : ps.length ≤ N.length) (body : BodyV P w mg base T k x st N f) : My.DnX P w T.K mg base (k + 1) x (spF T (runF ps.length N.length f)) :=
  F.okX S (fun vs H Q E h => (body_sp hn h).1) fun fa cdv A outer s H vs Q E hr h => ⟨_, body fa cdv A outer s H vs E hr, (body_sp hn h).2⟩
end
end VL
set_option Elab.async false
set_option linter.all false
set_option maxRecDepth 100000
namespace VL
open PySem PySem.Spec PyProof.Rows L2
section
variable {g : G} {X : Cx} {e o i v : Expr} {es : List Expr} {fo fi fv : M Hd} {fs : M (List Hd)} {pos tpos apos cpos : Pos}
theorem sv_sub (hv' : EV g X v fv) (ho : EV g X o fo) (hi : EV g X i fi)
    (ha : ∀ v, assign (.Subscript o i tpos) X.env v = (do
      let ov ← holding [v] (eval o X.env)
      let iv ← holding [v, ov] (eval i X.env)
      standAt tpos
      holding [v, ov, iv] (setItem ov iv v)
      release [v, ov, iv] []) := by intro _; rfl)
    (hs : swapsWithSole [.Subscript o i tpos] v pos.line X.env = pure false := by rfl) (hw : swappedStores [.Subscript o i tpos] v X.env = pure none := by rfl)
    (h1 : (assignEach [.Subscript o i tpos] X.env).map (·.2) = [assign (.Subscript o i tpos) X.env] := by rfl) : SV g X (.Assign [.Subscript o i tpos] v pos) (sSub fo fi fv) :=
  sv_of (ps_asg hv' (pg_sub ho hi set_list ha) hs hw h1) fun D σ H ρ τ ft h hP => stepES ft h hP fun h0 ρ1 hP1 v0 H1 f1 s1 k1 => by
    have st : ∀ {α : Type} {fa : M Hd} {k : Hd → M Fw} {ρ : List PV} {ε : Its} {H : Hp} {Q' : VK}, Fits g.s0 ρ σ → Hold g.T H (its ρ σ ++ (ε ++ τ)) → PS1 g τ D ((fa ρ).bind k) → (∀ h ρ1, PS1 g τ D (k h ρ1) → ∀ v H1, Fits g.s0 ρ1 σ → slotAt σ h v → Hold g.T H1 (hit h v ++ (its ρ1 σ ++ (ε ++ τ))) → Q' v H1) → trE g fa σ H Q' := by
      intro α fa k ρ ε H Q' ft h hP hk
      refine ⟨ρ, ε ++ τ, ft, h, ?_⟩
      cases e : fa ρ with
      | ok h ρ1 => rw [e] at hP; exact hk h ρ1 hP
      | exc c xs ρ1 => rw [e] at hP; exact fun d vs H' fx hx hl hh => hP d vs σ H' fx hx hl (hh.sub (List.Sublist.append_left (List.Sublist.append_left (List.sublist_append_right ..) _) _))
      | stuck => rw [e] at hP; exact hP
    refine st (α := Unit) (ε := hit h0 v0) f1 (mid k1) hP1 fun h1 ρ2 hP2 o1 H2 f2 s2 k2 => ?_
    refine st (α := Unit) (ε := hit h1 o1 ++ hit h0 v0) f2 (k2.perm (permc fun _ x => by simp only [List.count_append]; omega)) hP2 fun h2 ρ3 hP3 i1 H3 f3 s3 k3 => ?_
    cases h1 with
    | tm a => exact hP3.elim
    | sl j =>
      cases e0 : take ρ3 h0 with
      | none => simp only [e0] at hP3; exact hP3.elim
      | some p =>
        obtain ⟨a, ρ4⟩ := p
        simp only [e0] at hP3
        have k4 : Hold g.T H3 (hit h0 v0 ++ (its ρ3 σ ++ (hit h2 i1 ++ τ))) := k3.perm (permc fun _ x => by simp only [hit, List.count_append, List.count_nil]; omega)
        obtain ⟨f4, o4, k5⟩ := take_ok f3 s1 k4 e0
        have mi : (hv ρ4 h2, i1) ∈ (a, v0) :: (its ρ4 σ ++ (hit h2 i1 ++ τ)) := mem_of f4 s3 (fun x hx => by simp [hx]) fun x hx => by simp [hx]
        have cj := s2 j rfl
        cases e1 : nth ρ4 j <;> simp only [e1] at hP3 <;> try exact hP3.elim
        rename_i fl xs
        cases fl with
        | fz => exact hP3.elim
        | ow =>
          cases e2 : hv ρ4 h2 <;> simp only [e2] at hP3 mi <;> try exact hP3.elim
          rename_i kk
          cases e3 : ixN xs.length kk with
          | none => simp only [e3] at hP3; exact hP3.elim
          | some m =>
            simp only [e3] at hP3
            have k6 : Hold g.T H3 (its ρ4 σ ++ ((a, v0) :: τ)) := by
              have : Hold g.T H3 (hit h2 i1 ++ (its ρ4 σ ++ ((a, v0) :: τ))) := k5.perm (permc fun _ x => by simp only [List.count_append, List.count_cons]; omega)
              exact this.right
            have k7 := k6.slotOut f4 cj
            rw [e1] at k7
            obtain ⟨p, vs, rfl, hp, hl, _⟩ := k7.g_lst List.mem_cons_self
            refine ⟨p, vs, kk, m, rfl, k5.g_int mi, hp, by rw [hl]; exact e3, ?_⟩
            have k8 := Hold.write k7 (o := .lst (vs.set m v0)) rfl (b := .lst .ow (xs.set m a)) rfl fun F s ra ow => ⟨p, _, rfl, upd_same, by
              obtain ⟨p', vs', ev, hp', r⟩ := ra
              cases ev
              rw [hp] at hp'; cases hp'
              exact r.set m ((Own.fz o4).mp (ow (a, v0) (by simp))) o4⟩
            have k9 := k8.slotIn f4 cj
            have k10 : Hold g.T (upd H3 p (.lst (vs.set m v0))) (its (ρ4.set j (.lst .ow (xs.set m a))) σ ++ τ) := k9.sub (List.Sublist.append_left (List.sublist_cons_self ..) _)
            exact hP3 σ _ (f4.re cj fun z => by cases z) k10
        | io =>
          cases e2 : hv ρ4 h2 <;> simp only [e2] at hP3 mi <;> try exact hP3.elim
          rename_i kk
          cases e3 : ixN xs.length kk with
          | none => simp only [e3] at hP3; exact hP3.elim
          | some m =>
            simp only [e3] at hP3
            have k6 : Hold g.T H3 (its ρ4 σ ++ ((a, v0) :: τ)) := by
              have : Hold g.T H3 (hit h2 i1 ++ (its ρ4 σ ++ ((a, v0) :: τ))) := k5.perm (permc fun _ x => by simp only [List.count_append, List.count_cons]; omega)
              exact this.right
            have k7 := k6.slotOut f4 cj
            rw [e1] at k7
            obtain ⟨p, vs, rfl, hp, hl, _⟩ := k7.g_lst List.mem_cons_self
            refine ⟨p, vs, kk, m, rfl, k5.g_int mi, hp, by rw [hl]; exact e3, ?_⟩
            have k8 := Hold.write k7 (o := .lst (vs.set m v0)) rfl (b := .lst .io (xs.set m a)) rfl fun F s ra ow => ⟨p, _, rfl, upd_same, by
              obtain ⟨p', vs', ev, hp', r⟩ := ra
              cases ev
              rw [hp] at hp'; cases hp'
              exact r.set m ((Own.fz o4).mp (ow (a, v0) (by simp))) o4⟩
            have k9 := k8.slotIn f4 cj
            have k10 : Hold g.T (upd H3 p (.lst (vs.set m v0))) (its (ρ4.set j (.lst .io (xs.set m a))) σ ++ τ) := k9.sub (List.Sublist.append_left (List.sublist_cons_self ..) _)
            exact hP3 σ _ (f4.re cj fun _ => by rw [e1]; rfl) k10
end
end VL
set_option Elab.async false
set_option linter.all false
set_option maxRecDepth 100000
namespace VL
open PySem PySem.Spec PyProof.Rows L2
def kT : PV → String
  | .str _ => "str"
  | .lst _ _ => "list"
  | .scr _ => "list"
  | .dK _ _ _ => "dict"
  | .int _ => "int"
  | _ => ""
/-- a method that only reads -/
def eMt (T : String) (op : PV → List PV → Option PV) (fo : M Hd) (fs : M (List Hd)) : M Hd := fun ρ => (fo ρ).bind fun h ρ1 => if kT (hv ρ1 h) = T then (fs ρ1).bind fun hs ρ2 => ofO ρ2 (op (hv ρ2 h) (hs.map (hv ρ2))) else .stuck
def muEnd (op : PV → List PV → Option (PV × PV)) (h : Hd) (p : Option (List PV × List PV)) : R Hd := match h, p with
  | .sl i, some (as, ρ3) => (match op (nth ρ3 i) as with
    | some (c, a) => .ok (.tm c) (ρ3.set i a)
    | none => .stuck)
  | _, _ => .stuck
/-- a method that changes the object in a slot -/
def eMu (T : String) (op : PV → List PV → Option (PV × PV)) (fo : M Hd) (fs : M (List Hd)) : M Hd := fun ρ => (fo ρ).bind fun h ρ1 => if kT (hv ρ1 h) = T then (fs ρ1).bind fun hs ρ2 => muEnd op h (takes hs ρ2) else .stuck
def Mtv (T : Tb) (op : PV → List PV → Option PV) (r : V → List V → Hp → VK → Prop) : Prop := ∀ (H : Hp) (l : Its) (a c : PV) (as : List PV) (v : V) (vs : List V) (Q : VK), Hold T H l → (a, v) ∈ l → vs.length = as.length → (∀ x ∈ as.zip vs, x ∈ l) → op a as = some c → (∀ z H', Hold T H' ((c, z) :: l) → Q z H') → r v vs H Q
def Muv (T : Tb) (op : PV → List PV → Option (PV × PV)) (r : V → List V → Hp → VK → Prop) : Prop := ∀ (H : Hp) (l : Its) (a a' c : PV) (as : List PV) (v : V) (vs : List V) (Q : VK), Hold T H ((a, v) :: l) → vs.length = as.length → (∀ b ∈ as, b.own = false) → (∀ x ∈ as.zip vs, x ∈ l) → op a as = some (c, a') →
  a'.fl = a.fl ∧ a'.isEmp = false ∧ ((∀ z H', Hold T H' ((c, z) :: (a', v) :: l) → Q z H') → r v vs H Q)
section
variable {g : G} {X : Cx} {e o : Expr} {es : List Expr} {fo : M Hd} {fs : M (List Hd)} {apos cpos : Pos} {name : Str} {T id : String} {op : PV → List PV → Option PV} {opu : PV → List PV → Option (PV × PV)} {r : V → List V → Hp → VK → Prop}
theorem tyV_of {Tb : Tb} {H : Hp} {l : Its} {a : PV} {v : V} (k : Hold Tb H l) (m : (a, v) ∈ l) (e : kT a = T) (ne : T ≠ "") : tyV Tb.K T v H := by
  obtain ⟨F, s, r, _⟩ := k.get m
  subst e
  cases a with
  | str x => cases r; rfl
  | int x => cases r; rfl
  | lst o xs => obtain ⟨p, vs, rfl, h1, _⟩ := r; exact .inl ⟨rfl, vs, SqL.of h1⟩
  | scr ns => obtain ⟨p, rfl, h1⟩ := r; exact .inl ⟨rfl, _, h1⟩
  | dK o ks xs => obtain ⟨p, vs, rfl, h1, _⟩ := r; exact .inr (.inr (.inl ⟨rfl, .inl ⟨_, h1⟩⟩))
  | _ => exact absurd rfl ne
theorem mt_fin {σ : L2.St} {ρ1 ρ2 : List PV} {τ : Its} {Q : VK} {h1 : Hd} {v : V} {hs : List Hd} {vs : List V} {H2 : Hp} (hm : Mtv g.T op r) (s1 : slotAt σ h1 v) (f2 : Fits g.s0 ρ2 σ) (s2 : slotsAt σ hs vs) (k2 : Hold g.T H2 (hits hs vs ++ (its ρ2 σ ++ (hit h1 v ++ τ))))
    (hP : Post g σ τ (PE1 g σ τ Q) (ofO ρ2 (op (hv ρ2 h1) (hs.map (hv ρ2))))) : r v vs H2 Q := by
  cases e : op (hv ρ2 h1) (hs.map (hv ρ2)) with
  | none => rw [e] at hP; exact hP.elim
  | some c =>
    rw [e] at hP
    obtain ⟨q1, q2⟩ := mems_of (l := hits hs vs ++ (its ρ2 σ ++ (hit h1 v ++ τ))) f2 s2 (fun x hx => by simp [hx]) fun x hx => by simp [hx]
    exact hm H2 _ _ c _ v vs Q k2 (mem_of f2 s1 (fun x hx => by simp [hx]) fun x hx => by simp [hx]) q1 q2 e fun z H' k' => hP z H' f2 slot_tm (show Hold g.T H' ((c, z) :: (its ρ2 σ ++ τ)) from k'.sub (.cons_cons _ (sub3 ..)))
theorem ev_mt (hK : X.K = g.T.K) (pa : PlainAttrs T) (slot : Slot T name id) (hty : typeOf (.builtin id) = pure (.type "method_descriptor")) (ne : T ≠ "") (hm : MtR X id r) (hv' : Mtv g.T op r) (ho : EV g X o fo) (ha : AV g X (e :: es) fs)
    (hbase : attributeBase o name X.env (eval o X.env) = eval o X.env := by rfl)
    (hfew : ((backTo cpos (starEach (e :: es) X.env)).all (fun x => !x.1) && (backToKw cpos (keywordEach [] X.env)).all (fun x => x.1.isSome)
      && decide ((e :: es).length + ([] : List Keyword).length + (if ([] : List Keyword).isEmpty then 0 else 1) < 30)) = true := by rfl)
    (hline : (apos.endLine == cpos.line) = true := by rfl) (hs : starEach (e :: es) X.env = (false, eval e X.env) :: starEach es X.env := by rfl) (hplain : (backTo cpos (starEach es X.env)).any (·.1) = false := by rfl) :
    EV g X (.Call (.Attribute o name apos) (e :: es) [] cpos) (eMt T op fo fs) :=
  ev_of (pe_bm pa slot hty hm ho ha hbase hfew hline hs hplain) fun σ H Q ρ τ f h hP => stepE (ε := []) f (nilT h) hP fun h1 ρ1 hP1 v H1 f1 s1 k1 => by
    rw [List.nil_append] at k1
    split at hP1
    · rename_i hk
      refine ⟨by rw [hK]; exact tyV_of k1 (mem_hv f1 s1) hk ne, ?_⟩
      exact stepA (ε := hit h1 v) f1 (mid k1) hP1 fun hs ρ2 hP2 vs H2 f2 s2 k2 => mt_fin (ρ1 := ρ1) hv' s1 f2 s2 k2 hP2
    · exact hP1.elim
theorem mu_fin {σ : L2.St} {ρ2 : List PV} {τ : Its} {Q : VK} {h1 : Hd} {v : V} {hs : List Hd} {vs : List V} {H2 : Hp} (hm : Muv g.T opu r) (s1 : slotAt σ h1 v) (f2 : Fits g.s0 ρ2 σ) (s2 : slotsAt σ hs vs) (k2 : Hold g.T H2 (hits hs vs ++ (its ρ2 σ ++ (hit h1 v ++ τ))))
    (hP : Post g σ τ (PE1 g σ τ Q) (muEnd opu h1 (takes hs ρ2))) : r v vs H2 Q := by
  cases h1 with
  | tm a => exact hP.elim
  | sl i =>
    cases e0 : takes hs ρ2 with
    | none => rw [e0] at hP; exact hP.elim
    | some p =>
      obtain ⟨as, ρ3⟩ := p
      rw [e0] at hP
      simp only [muEnd] at hP
      have k3 : Hold g.T H2 (hits hs vs ++ (its ρ2 σ ++ τ)) := by simpa [hit] using k2
      obtain ⟨f3, l3, o3, k4⟩ := takes_ok f2 s2 k3 e0
      have ci := s1 i rfl
      have k5 : Hold g.T H2 (its ρ3 σ ++ (as.zip vs ++ τ)) := mid k4
      have k6 := k5.slotOut f3 ci
      cases e1 : opu (nth ρ3 i) as with
      | none => rw [e1] at hP; exact hP.elim
      | some p =>
        obtain ⟨c, a'⟩ := p
        rw [e1] at hP
        obtain ⟨fl, ne, go⟩ := hm H2 _ (nth ρ3 i) a' c as v vs Q k6 l3 o3 (fun x hx => List.mem_append_right _ (List.mem_append_left _ hx)) e1
        refine go fun z H' k7 => ?_
        have k8 : Hold g.T H' ((a', v) :: (its (ρ3.set i .emp) σ ++ ((c, z) :: (as.zip vs ++ τ)))) := k7.perm (permc fun _ x => by simp only [List.count_append, List.count_cons]; omega)
        have k9 := k8.slotIn f3 ci
        refine hP z H' (f3.re ci fun q => by rw [← io_eq fl]; exact q) slot_tm ?_
        have k10 : Hold g.T H' (as.zip vs ++ ((c, z) :: (its (ρ3.set i a') σ ++ τ))) := k9.perm (permc fun _ x => by simp only [List.count_append, List.count_cons]; omega)
        exact k10.right
theorem ev_mu (hK : X.K = g.T.K) (pa : PlainAttrs T) (slot : Slot T name id) (hty : typeOf (.builtin id) = pure (.type "method_descriptor")) (ne : T ≠ "") (hm : MtR X id r) (hv' : Muv g.T opu r) (ho : EV g X o fo) (ha : AV g X (e :: es) fs)
    (hbase : attributeBase o name X.env (eval o X.env) = eval o X.env := by rfl)
    (hfew : ((backTo cpos (starEach (e :: es) X.env)).all (fun x => !x.1) && (backToKw cpos (keywordEach [] X.env)).all (fun x => x.1.isSome)
      && decide ((e :: es).length + ([] : List Keyword).length + (if ([] : List Keyword).isEmpty then 0 else 1) < 30)) = true := by rfl)
    (hline : (apos.endLine == cpos.line) = true := by rfl) (hs : starEach (e :: es) X.env = (false, eval e X.env) :: starEach es X.env := by rfl) (hplain : (backTo cpos (starEach es X.env)).any (·.1) = false := by rfl) :
    EV g X (.Call (.Attribute o name apos) (e :: es) [] cpos) (eMu T opu fo fs) :=
  ev_of (pe_bm pa slot hty hm ho ha hbase hfew hline hs hplain) fun σ H Q ρ τ f h hP => stepE (ε := []) f (nilT h) hP fun h1 ρ1 hP1 v H1 f1 s1 k1 => by
    rw [List.nil_append] at k1
    split at hP1
    · rename_i hk
      refine ⟨by rw [hK]; exact tyV_of k1 (mem_hv f1 s1) hk ne, ?_⟩
      exact stepA (ε := hit h1 v) f1 (mid k1) hP1 fun hs ρ2 hP2 vs H2 f2 s2 k2 => mu_fin hv' s1 f2 s2 k2 hP2
    · exact hP1.elim
end
def uAppend : PV → List PV → Option (PV × PV)
  | .lst o xs, [a] => if o = .fz then none else if xs.length < lim then some (.non, .lst o (xs ++ [a])) else none
  | _, _ => none
section
variable {T : Tb}
/-- an own list: where it lies, and how it is changed -/
theorem lst_write {H : Hp} {l : Its} {o : Fl} {xs : List PV} {v : V} (ho : o ≠ .fz) (k : Hold T H ((.lst o xs, v) :: l)) : ∃ p vs, v = .ref p ∧ H p = some (.lst vs) ∧ vs.length = xs.length ∧
    ∀ ys ws, (∀ F, Same F H → Reps T F xs vs → (∀ x ∈ l, Own T H F x.1 x.2) → Reps T F ys ws) → Hold T (upd H p (.lst ws)) ((.lst o ys, v) :: l) := by
  obtain ⟨p, vs, rfl, hp, hl, _⟩ := k.g_lst List.mem_cons_self
  have own : ∀ ys, (PV.lst o ys).own = true := fun ys => by cases o <;> first | rfl | exact absurd rfl ho
  refine ⟨p, vs, rfl, hp, hl, fun ys ws q => ?_⟩
  exact Hold.write k (own xs) (own ys) fun F s ra ow => ⟨p, ws, rfl, upd_same, by
    obtain ⟨p', vs', ev, hp', r⟩ := ra
    cases ev
    rw [hp] at hp'; cases hp'
    exact q F s r ow⟩
theorem u_append : Muv T uAppend rAppend := by
  intro H l a a' c as v vs Q k hl ho hm e
  unfold uAppend at e
  split at e
  · rename_i o xs b
    split at e
    · cases e
    · rename_i hfz
      split at e <;> cases e
      rename_i hz
      refine ⟨rfl, rfl, fun q => ?_⟩
      obtain ⟨v0, rfl, m⟩ := one_arg rfl hl hm
      obtain ⟨p, vs, rfl, hp, hl2, wr⟩ := lst_write hfz k
      have hb := ho b (by simp)
      exact ⟨p, vs, v0, rfl, rfl, hp, by rw [hl2]; exact lim_lt hz, q _ _ (wr _ _ fun F s r ow => r.append (.cons ((Own.fz hb).mp (ow (b, v0) m)) hb .nil)).non⟩
  · cases e
theorem Reps.dropLast {F : Hp} {xs : List PV} {vs : List V} (r : Reps T F xs vs) : Reps T F xs.dropLast vs.dropLast := by
  rw [List.dropLast_eq_take, List.dropLast_eq_take, r.length]; exact r.take _
end
end VL
set_option Elab.async false
set_option linter.all false
set_option maxRecDepth 100000
namespace VL
open PySem PySem.Spec PyProof.Rows L2
theorem hu65 {A : Around} {k : Nat} (hr : My.RoomG k A) : A.units + 65 < cLine := by have := hr.un; omega
section
variable {g : G} {X : Cx} {e e2 tg : Expr} {es : List Expr} {fe : M Hd} {fs : M (List Hd)} {pos p tpos : Pos}
theorem evn (i : Nat) {x : Str} {pos : Pos} (hN : X.N[i]? = some x := by rfl) (hv : Vis X.env.scope x := by first | exact Or.inl rfl | exact Or.inr (Or.inl rfl) | exact Or.inr (Or.inr rfl)) (hd : (x == ("__debug__" : Str)) = false := by decide) (hcd : (x == ("__classdict__" : Str)) = false := by decide) :
    EV g X (.Name x pos) (eN i) := ev_name hN hv hd hcd
end
end VL
set_option Elab.async false
set_option linter.all false
set_option maxRecDepth 100000
namespace VL
open PySem PySem.Spec PyProof.Rows L2
/-- a value of the written part -/
def KVal (T : Tb) (a : PV) (v : V) : Prop := a.own = false ∧ ∀ F : Hp, Rep T F a v
end VL
set_option Elab.async false
set_option linter.all false
set_option maxRecDepth 100000
namespace VL
open PySem PySem.Spec PyProof.Rows L2
end VL
set_option Elab.async false
set_option linter.all false
set_option maxRecDepth 100000
namespace VL
open PySem PySem.Spec PyProof.Rows L2
def spLaw (K : PySem.W.Frag) : Sp := fun vs H Q _ => ∃ (a : Addr) (ns : List Int), vs = [.ref a] ∧ SqL K H a (ns.map V.int) ∧ ns.length ≤ 63 ∧ ∀ H', Q (.bl true) H'
theorem law_ok {P : Program} {w : World} {mg : Str → Option Value} {base : Heap} {T : Tb} {st : Stmt} {f : Addr} {fd : FuncData} {N : List Str} {k : Nat} {W : M Fw} (F : L2.Fun T.K "law" "law" st f fd) (S : FnScope N ["_law_script"] (defScope st)) (hn : 1 ≤ N.length)
    (hl : ∀ ns : List Int, ns.length ≤ 63 → ∃ fin, runF 1 N.length W [.scr ns] = .ok (.bl true) fin) (body : BodyV P w mg base T k "law" st N W) : My.FnG P w T.K mg base (L2N.CX P w) (k + 1) f fd ["_law_script"] (spLaw T.K) := by
  refine My.okG F S (fun vs H Q E h => ?_) fun cdv A outer s H vs Q E hr h => ?_
  · obtain ⟨a, ns, rfl, _⟩ := h; rfl
  · obtain ⟨a, ns, rfl, hS, hle, q⟩ := h
    refine ⟨_, body f cdv A outer s H _ E hr, (body_sp (ps := ["_law_script"]) (by exact hn) ?_).2⟩
    obtain ⟨fin, e⟩ := hl ns hle
    refine ⟨[.scr ns], [], rfl, ⟨H, Same.refl H, fun x hx => ?_, List.nodup_nil, fun p hp => nomatch hp⟩, ?_⟩
    · rcases List.mem_cons.mp hx with rfl | hx
      · exact (Own.fz rfl).mpr (by simp only [Rep]; exact ⟨a, rfl, hS⟩)
      · exact nomatch hx
    · show Fin _ _ _ _ _ (runF 1 N.length W [.scr ns])
      rw [e]
      intro v H' k'
      have := k'.g_bl List.mem_cons_self
      subst this
      exact q H'
theorem walkV {l : PySem.W.OpenLaw} {q : Program} {loose : List Str} {XP : (Str → Option Value) → Heap → Prop} {YP : World → Heap → Prop} {d : DefRec} {K : Params → PySem.W.Frag} {k : Nat} (hn : l.most = some 63) (hdf : d.params.defaults = []) (hr : My.RoomG k callerA)
    (hY : ∀ (w : World) (h : Heap), YP w h → (K w.params).In h)
    (F : ∀ (w : World) (mg : Str → Option Value) (fa : Addr) (h : Heap), (K w.params).In h → h.Ns mainGlobals mg → mg d.name = some (.ref fa) →
      ∃ fd : FuncData, (∀ (s : Shared) (u : Value), BindsTo s fd ⟨[u], []⟩ [("_law_script", u)]) ∧ ∀ base : Heap, (K w.params).In base → base.Ns mainGlobals mg → My.FnG l.prog w (K w.params) mg base (L2N.CX l.prog w) k fa fd ["_law_script"] (spLaw (K w.params))) :
    PySem.W.WalkO q loose XP YP l.row.toRowW d [] (fun f vs => PySem.call f vs) := by
  refine My.walk_G (n := 63) (k := k) (x := "_law_script") (cx := fun w => L2N.CX l.prog w) (sp := fun w => spLaw (K w.params)) hn (by decide) hdf hr hY F (fun w H a ns hl _ hS => ⟨a, ns, rfl, hS, hl, fun _ => rfl⟩) fun w H s e s' z => ?_
  obtain ⟨a, B, H', cls, d, _, _, _, _, _, _, _, z⟩ := z
  exact z
end VL
set_option Elab.async false
set_option linter.all false
set_option maxRecDepth 100000
namespace VL
open PySem PySem.Spec PyProof.Rows L2
def nowAt (j n i : Nat) (ρ : List PV) : Option PV := match nth ρ j with
  | .lst .io ys => if ys.length = n then ys[i]? else none
  | _ => none
def okAt (j n : Nat) (ρ : List PV) : Bool := match nth ρ j with
  | .lst .io ys => decide (ys.length = n)
  | _ => false
def loopJ (w : Nat → PV → PV) (j n : Nat) (t : Tg) (f : M Fw) : Nat → M Fw
  | 0, ρ => if okAt j n ρ = true then .ok .nx ρ else .stuck
  | m + 1, ρ => match nowAt j n (n - (m + 1)) ρ with
    | some x => (match t (w (n - (m + 1)) x) ρ with
      | some ρ1 => (match f ρ1 with
        | .ok .nx ρ2 => loopJ w j n t f m ρ2
        | .ok .ct ρ2 => loopJ w j n t f m ρ2
        | .ok .bk ρ2 => .ok .nx ρ2
        | r => r)
      | none => .stuck)
    | none => .stuck
def wId (_ : Nat) (x : PV) : PV := x
def sForN (j : Nat) (t : Tg) (f : M Fw) : M Fw := fun ρ => match nth ρ j with
  | .lst .io ys => loopJ wId j ys.length t f ys.length ρ
  | _ => sFor (iSeq (eN j)) t f ρ
theorem nowAt_ok {j n i : Nat} {ρ : List PV} {x : PV} (h : nowAt j n i ρ = some x) : okAt j n ρ = true ∧ ∃ ys, nth ρ j = .lst .io ys ∧ ys.length = n ∧ ys[i]? = some x := by
  unfold nowAt at h
  split at h
  · rename_i ys e
    split at h
    · rename_i hl
      exact ⟨by unfold okAt; rw [e]; exact decide_eq_true hl, ys, e, hl, h⟩
    · cases h
  · cases h
theorem okAt_inv {j n : Nat} {ρ : List PV} (h : okAt j n ρ = true) : ∃ ys, nth ρ j = .lst .io ys ∧ ys.length = n := by
  unfold okAt at h
  split at h
  · rename_i ys e
    exact ⟨ys, e, of_decide_eq_true h⟩
  · cases h
section
variable {g : G} {X : Cx} {e o tg iter : Expr} {f : M Fw} {pos : Pos} {w : Nat → PV → PV} {j n : Nat} {t : Tg} {τ : Its} {D : Ends} {ρ : List PV}
theorem loopJ_ok {m : Nat} (h : PS1 g τ D (loopJ w j n t f m ρ)) : okAt j n ρ = true := by
  cases m with
  | zero =>
    simp only [loopJ] at h
    split at h
    · assumption
    · exact h.elim
  | succ m =>
    simp only [loopJ] at h
    cases e : nowAt j n (n - (m + 1)) ρ with
    | none => rw [e] at h; exact h.elim
    | some x => exact (nowAt_ok e).1
theorem io_at {σ : L2.St} {H : Hp} {p : Addr} {ys : List PV} (hs0 : g.s0[j]? = some (some (.ref p))) (f2 : Fits g.s0 ρ σ) (k : Hold g.T H (its ρ σ ++ τ)) (e : nth ρ j = .lst .io ys) : (PV.lst .io ys, V.ref p) ∈ its ρ σ ++ τ := by
  have hio : (nth ρ j).isIo = true := by rw [e]; rfl
  have e1 : σ[j]? = some (some (.ref p)) := by rw [f2.io j hio]; exact hs0
  have m : (nth ρ j, V.ref p) ∈ its ρ σ ++ τ := List.mem_append_left _ (its_mem f2.len e1)
  rw [e] at m
  exact m
theorem for_io {tgt : Expr} {is : List Nat} {J : It} {p : Addr} {σ : L2.St} {H : Hp} {Yw : Nat → Hp → V → Hp → Prop} (hs0 : g.s0[j]? = some (some (.ref p))) (wk : Walk J n (fun H => ∃ vs, SqL g.T.K H p vs ∧ vs.length = n) Yw)
    (hY : ∀ i H x H' l ys b, Hold g.T H l → (PV.lst .io ys, V.ref p) ∈ l → ys[i]? = some b → Yw i H x H' → Hold g.T H' ((w i b, x) :: l)) (wo : ∀ i b, b.own = false → (w i b).own = false)
    (f1 : Fits g.s0 ρ σ) (k1 : Hold g.T H (its ρ σ ++ τ)) (hP : PS1 g τ D (loopJ w j n t f n ρ)) :
    ∃ W : Nat → Nat → L2.St → Hp → Prop, (∃ m, W 0 m σ H) ∧ ∀ i m σ H, W i m σ H →
      (J.stop i H ∧ D.nx σ H) ∨ (J.go i H ∧ ∃ N : L2.St → Hp → Prop, (∀ σ' H', N σ' H' → ∃ m', m' < m ∧ W (i + 1) m' σ' H') ∧ ∀ x H', J.yld i H x H' → trG g t is x σ H' fun σ2 H2 => trS g f { D with nx := N, ct := N, bk := D.nx } σ2 H2) := by
  refine for_it wk (g := trG g t is) (tb := trS g f) (fun i σ H => ∃ ρ, Fits g.s0 ρ σ ∧ Hold g.T H (its ρ σ ++ τ) ∧ PS1 g τ D (loopJ w j n t f (n - i) ρ)) ⟨ρ, f1, k1, hP⟩ (fun i σ H hi ⟨ρ, f2, k2, hP2⟩ => ?_) (fun i x σ H H2 hi ⟨ρ, f2, k2, hP2⟩ y => ?_) fun σ H ⟨ρ, f2, k2, hP2⟩ => ?_
  · obtain ⟨ys, e1, e2⟩ := okAt_inv (loopJ_ok hP2)
    obtain ⟨p', vs, ev, h1, hl, _⟩ := k2.g_lst (io_at hs0 f2 k2 e1)
    cases ev
    exact ⟨vs, SqL.of h1, by rw [hl, e2]⟩
  · obtain ⟨m, hm⟩ : ∃ m, n - i = m + 1 := ⟨n - i - 1, by omega⟩
    have hmi : n - (m + 1) = i := by omega
    have hm2 : n - (i + 1) = m := by omega
    rw [hm] at hP2
    simp only [loopJ, hmi] at hP2
    cases e : nowAt j n i ρ with
    | none => rw [e] at hP2; exact hP2.elim
    | some b =>
      rw [e] at hP2
      simp only at hP2
      obtain ⟨_, ys, e1, e2, e3⟩ := nowAt_ok e
      have mm := io_at hs0 f2 k2 e1
      have bo : b.own = false := items_own k2 mm (xs := ys) rfl b (List.mem_of_getElem? e3)
      have k3 := hY i H x H2 _ ys b k2 mm e3 y
      cases e4 : t (w i b) ρ with
      | none => rw [e4] at hP2; exact hP2.elim
      | some ρ2 =>
        rw [e4] at hP2
        simp only at hP2
        refine ⟨w i b, ρ, τ, f2, wo i b bo, k3, ρ2, e4, fun σ' H'' _ f' k' => ⟨ρ2, τ, f', k', ?_⟩⟩
        have := ps1_more (τx := []) (D := D) (D' := { D with nx := fun σ H => ∃ ρ, Fits g.s0 ρ σ ∧ Hold g.T H (its ρ σ ++ τ) ∧ PS1 g τ D (loopJ w j n t f (n - (i + 1)) ρ), ct := fun σ H => ∃ ρ, Fits g.s0 ρ σ ∧ Hold g.T H (its ρ σ ++ τ) ∧ PS1 g τ D (loopJ w j n t f (n - (i + 1)) ρ), bk := D.nx }) (k := fun ρ2 => loopJ w j n t f m ρ2) (fun ρ3 h3 σ3 H3 f3 k3 => by
          have q : PS1 g τ D (loopJ w j n t f (n - (i + 1)) ρ3) := by
            rw [hm2]
            rcases h3 with h3 | h3 <;> rw [h3] at hP2 <;> exact hP2
          exact ⟨⟨ρ3, f3, k3, q⟩, ⟨ρ3, f3, k3, q⟩⟩) rfl rfl hP2
        exact this
  · rw [Nat.sub_self] at hP2
    simp only [loopJ] at hP2
    split at hP2
    · exact hP2 σ H f2 k2
    · exact hP2.elim
theorem sv_forN {x : Str} {p : Pos} {body : List Stmt} {is : List Nat} (hp : PassesOwn (model X.prog X.w) X.A X.env X.xe) (hc : X.calm = true) (hK : X.K = g.T.K) (he : EV g X (.Name x p) (eN j)) (hg : GV g X tg t is) (hb : BV g X body f)
    (hs : ∀ y, foldedSetIterable (.Name x p) X.env y = pure y := by intro _; rfl) : SV g X (.For tg (.Name x p) body [] pos) (sForN j t f) := by
  refine sv_of (ps_for hp hc (pi_sqV he) hg hb hs) fun D σ H ρ τ ft h hP => ?_
  have other : PS1 g τ D (sFor (iSeq (eN j)) t f ρ) → tFor (iSqV X.K (trE g (eN j))) (trG g t is) (trS g f) D σ H := fun hP => by
    obtain ⟨ρ', τ', f', h', q⟩ := for_q (is := is) D σ H ρ τ ft h hP
    exact iseq_q hK σ H _ ρ' τ' f' h' q
  unfold sForN at hP
  split at hP
  · rename_i ys e
    refine ⟨ρ, τ, ft, h, ?_⟩
    have en : eN j ρ = .ok (.sl j) ρ := by unfold eN; rw [e]; rfl
    rw [en]
    intro v H1 f1 s1 k1
    have k1 : Hold g.T H1 (its ρ σ ++ τ) := by simpa [hit] using k1
    have cj := s1 j rfl
    have m : (PV.lst .io ys, v) ∈ its ρ σ ++ τ := by
      have := List.mem_append_left τ (its_mem f1.len cj)
      rwa [e] at this
    obtain ⟨p, vs, rfl, h1, hl, _⟩ := k1.g_lst m
    have hs0 : g.s0[j]? = some (some (.ref p)) := by rw [← f1.io j (by rw [e]; rfl)]; exact cj
    refine ⟨p, rfl, .inl ⟨⟨vs, by rw [hK]; exact SqL.of h1⟩, ?_⟩⟩
    rw [hK]
    refine for_io (tgt := tg) (w := wId) hs0 walk_L (fun i H x H' l ys b k m e y => ?_) (fun _ _ h => h) f1 k1 hP
    obtain ⟨rfl, y⟩ := y
    obtain ⟨_, _, _, q3⟩ := lst_at _ l k m
    exact q3 i x y b e
  · exact other hP
end
end VL
set_option Elab.async false
set_option linter.all false
set_option maxRecDepth 100000
namespace VL
open PySem PySem.Spec PyProof.Rows L2
theorem cm_l {i j : Int} (h1 : -(2 ^ 64) < i) (h2 : i < 2 ^ 64) : cMul i j = true := decide_eq_true (.inl ⟨h1, h2⟩)
@[simp] theorem q1 : PV.isIo (PV.emp) = false := rfl
@[simp] theorem q2 : PV.own (PV.emp) = false := rfl
@[simp] theorem q3 : PV.isEmp (PV.emp) = true := rfl
@[simp] theorem q4 : PV.fl (PV.emp) = .fz := rfl
@[simp] theorem q5 : PV.setFl .ow (PV.emp) = (PV.emp) := rfl
@[simp] theorem q6 : PV.setFl .io (PV.emp) = (PV.emp) := rfl
@[simp] theorem q7 : PV.setFl .fz (PV.emp) = (PV.emp) := rfl
@[simp] theorem q8 : fzOf (PV.emp) = none := rfl
@[simp] theorem q9 : kT (PV.emp) = "" := rfl
@[simp] theorem q10 : PV.isIo (PV.non) = false := rfl
@[simp] theorem q11 : PV.own (PV.non) = false := rfl
@[simp] theorem q12 : PV.isEmp (PV.non) = false := rfl
@[simp] theorem q13 : PV.fl (PV.non) = .fz := rfl
@[simp] theorem q14 : PV.setFl .ow (PV.non) = (PV.non) := rfl
@[simp] theorem q15 : PV.setFl .io (PV.non) = (PV.non) := rfl
@[simp] theorem q16 : PV.setFl .fz (PV.non) = (PV.non) := rfl
@[simp] theorem q17 : fzOf (PV.non) = some (PV.non) := rfl
@[simp] theorem q18 : kT (PV.non) = "" := rfl
@[simp] theorem q19 {b} : PV.isIo (PV.bl b) = false := rfl
@[simp] theorem q20 {b} : PV.own (PV.bl b) = false := rfl
@[simp] theorem q21 {b} : PV.isEmp (PV.bl b) = false := rfl
@[simp] theorem q22 {b} : PV.fl (PV.bl b) = .fz := rfl
@[simp] theorem q23 {b} : PV.setFl .ow (PV.bl b) = (PV.bl b) := rfl
@[simp] theorem q24 {b} : PV.setFl .io (PV.bl b) = (PV.bl b) := rfl
@[simp] theorem q25 {b} : PV.setFl .fz (PV.bl b) = (PV.bl b) := rfl
@[simp] theorem q26 {b} : fzOf (PV.bl b) = some (PV.bl b) := rfl
@[simp] theorem q27 {b} : kT (PV.bl b) = "" := rfl
@[simp] theorem q28 {i} : PV.isIo (PV.int i) = false := rfl
@[simp] theorem q29 {i} : PV.own (PV.int i) = false := rfl
@[simp] theorem q30 {i} : PV.isEmp (PV.int i) = false := rfl
@[simp] theorem q31 {i} : PV.fl (PV.int i) = .fz := rfl
@[simp] theorem q32 {i} : PV.setFl .ow (PV.int i) = (PV.int i) := rfl
@[simp] theorem q33 {i} : PV.setFl .io (PV.int i) = (PV.int i) := rfl
@[simp] theorem q34 {i} : PV.setFl .fz (PV.int i) = (PV.int i) := rfl
@[simp] theorem q35 {i} : fzOf (PV.int i) = some (PV.int i) := rfl
@[simp] theorem q36 {i} : kT (PV.int i) = "int" := rfl
@[simp] theorem q37 {x} : PV.isIo (PV.str x) = false := rfl
@[simp] theorem q38 {x} : PV.own (PV.str x) = false := rfl
@[simp] theorem q39 {x} : PV.isEmp (PV.str x) = false := rfl
@[simp] theorem q40 {x} : PV.fl (PV.str x) = .fz := rfl
@[simp] theorem q41 {x} : PV.setFl .ow (PV.str x) = (PV.str x) := rfl
@[simp] theorem q42 {x} : PV.setFl .io (PV.str x) = (PV.str x) := rfl
@[simp] theorem q43 {x} : PV.setFl .fz (PV.str x) = (PV.str x) := rfl
@[simp] theorem q44 {x} : fzOf (PV.str x) = some (PV.str x) := rfl
@[simp] theorem q45 {x} : kT (PV.str x) = "str" := rfl
@[simp] theorem q46 {xs} : PV.isIo (PV.tup xs) = false := rfl
@[simp] theorem q47 {xs} : PV.own (PV.tup xs) = false := rfl
@[simp] theorem q48 {xs} : PV.isEmp (PV.tup xs) = false := rfl
@[simp] theorem q49 {xs} : PV.fl (PV.tup xs) = .fz := rfl
@[simp] theorem q50 {xs} : PV.setFl .ow (PV.tup xs) = (PV.tup xs) := rfl
@[simp] theorem q51 {xs} : PV.setFl .io (PV.tup xs) = (PV.tup xs) := rfl
@[simp] theorem q52 {xs} : PV.setFl .fz (PV.tup xs) = (PV.tup xs) := rfl
@[simp] theorem q53 {xs} : fzOf (PV.tup xs) = some (PV.tup xs) := rfl
@[simp] theorem q54 {xs} : kT (PV.tup xs) = "" := rfl
@[simp] theorem q55 {xs} : PV.isIo (PV.lst .fz xs) = false := rfl
@[simp] theorem q56 {xs} : PV.own (PV.lst .fz xs) = false := rfl
@[simp] theorem q57 {xs} : PV.isEmp (PV.lst .fz xs) = false := rfl
@[simp] theorem q58 {xs} : PV.fl (PV.lst .fz xs) = .fz := rfl
@[simp] theorem q59 {xs} : PV.setFl .ow (PV.lst .fz xs) = PV.lst .ow xs := rfl
@[simp] theorem q60 {xs} : PV.setFl .io (PV.lst .fz xs) = PV.lst .io xs := rfl
@[simp] theorem q61 {xs} : PV.setFl .fz (PV.lst .fz xs) = PV.lst .fz xs := rfl
@[simp] theorem q62 {xs} : fzOf (PV.lst .fz xs) = some (PV.lst .fz xs) := rfl
@[simp] theorem q63 {xs} : kT (PV.lst .fz xs) = "list" := rfl
@[simp] theorem q64 {xs} : PV.isIo (PV.lst .ow xs) = false := rfl
@[simp] theorem q65 {xs} : PV.own (PV.lst .ow xs) = true := rfl
@[simp] theorem q66 {xs} : PV.isEmp (PV.lst .ow xs) = false := rfl
@[simp] theorem q67 {xs} : PV.fl (PV.lst .ow xs) = .ow := rfl
@[simp] theorem q68 {xs} : PV.setFl .ow (PV.lst .ow xs) = PV.lst .ow xs := rfl
@[simp] theorem q69 {xs} : PV.setFl .io (PV.lst .ow xs) = PV.lst .io xs := rfl
@[simp] theorem q70 {xs} : PV.setFl .fz (PV.lst .ow xs) = PV.lst .fz xs := rfl
@[simp] theorem q71 {xs} : fzOf (PV.lst .ow xs) = some (PV.lst .fz xs) := rfl
@[simp] theorem q72 {xs} : kT (PV.lst .ow xs) = "list" := rfl
@[simp] theorem q73 {xs} : PV.isIo (PV.lst .io xs) = true := rfl
@[simp] theorem q74 {xs} : PV.own (PV.lst .io xs) = true := rfl
@[simp] theorem q75 {xs} : PV.isEmp (PV.lst .io xs) = false := rfl
@[simp] theorem q76 {xs} : PV.fl (PV.lst .io xs) = .io := rfl
@[simp] theorem q77 {xs} : PV.setFl .ow (PV.lst .io xs) = PV.lst .ow xs := rfl
@[simp] theorem q78 {xs} : PV.setFl .io (PV.lst .io xs) = PV.lst .io xs := rfl
@[simp] theorem q79 {xs} : PV.setFl .fz (PV.lst .io xs) = PV.lst .fz xs := rfl
@[simp] theorem q80 {xs} : fzOf (PV.lst .io xs) = none := rfl
@[simp] theorem q81 {xs} : kT (PV.lst .io xs) = "list" := rfl
@[simp] theorem q82 {ks xs} : PV.isIo (PV.dK .fz ks xs) = false := rfl
@[simp] theorem q83 {ks xs} : PV.own (PV.dK .fz ks xs) = false := rfl
@[simp] theorem q84 {ks xs} : PV.isEmp (PV.dK .fz ks xs) = false := rfl
@[simp] theorem q85 {ks xs} : PV.fl (PV.dK .fz ks xs) = .fz := rfl
@[simp] theorem q86 {ks xs} : PV.setFl .ow (PV.dK .fz ks xs) = PV.dK .ow ks xs := rfl
@[simp] theorem q87 {ks xs} : PV.setFl .io (PV.dK .fz ks xs) = PV.dK .io ks xs := rfl
@[simp] theorem q88 {ks xs} : PV.setFl .fz (PV.dK .fz ks xs) = PV.dK .fz ks xs := rfl
@[simp] theorem q89 {ks xs} : fzOf (PV.dK .fz ks xs) = some (PV.dK .fz ks xs) := rfl
@[simp] theorem q90 {ks xs} : kT (PV.dK .fz ks xs) = "dict" := rfl
@[simp] theorem q91 {ks xs} : PV.isIo (PV.dK .ow ks xs) = false := rfl
@[simp] theorem q92 {ks xs} : PV.own (PV.dK .ow ks xs) = true := rfl
@[simp] theorem q93 {ks xs} : PV.isEmp (PV.dK .ow ks xs) = false := rfl
@[simp] theorem q94 {ks xs} : PV.fl (PV.dK .ow ks xs) = .ow := rfl
@[simp] theorem q95 {ks xs} : PV.setFl .ow (PV.dK .ow ks xs) = PV.dK .ow ks xs := rfl
@[simp] theorem q96 {ks xs} : PV.setFl .io (PV.dK .ow ks xs) = PV.dK .io ks xs := rfl
@[simp] theorem q97 {ks xs} : PV.setFl .fz (PV.dK .ow ks xs) = PV.dK .fz ks xs := rfl
@[simp] theorem q98 {ks xs} : fzOf (PV.dK .ow ks xs) = some (PV.dK .fz ks xs) := rfl
@[simp] theorem q99 {ks xs} : kT (PV.dK .ow ks xs) = "dict" := rfl
@[simp] theorem q100 {ks xs} : PV.isIo (PV.dK .io ks xs) = true := rfl
@[simp] theorem q101 {ks xs} : PV.own (PV.dK .io ks xs) = true := rfl
@[simp] theorem q102 {ks xs} : PV.isEmp (PV.dK .io ks xs) = false := rfl
@[simp] theorem q103 {ks xs} : PV.fl (PV.dK .io ks xs) = .io := rfl
@[simp] theorem q104 {ks xs} : PV.setFl .ow (PV.dK .io ks xs) = PV.dK .ow ks xs := rfl
@[simp] theorem q105 {ks xs} : PV.setFl .io (PV.dK .io ks xs) = PV.dK .io ks xs := rfl
@[simp] theorem q106 {ks xs} : PV.setFl .fz (PV.dK .io ks xs) = PV.dK .fz ks xs := rfl
@[simp] theorem q107 {ks xs} : fzOf (PV.dK .io ks xs) = none := rfl
@[simp] theorem q108 {ks xs} : kT (PV.dK .io ks xs) = "dict" := rfl
@[simp] theorem q109 {ks xs} : PV.isIo (PV.dN .fz ks xs) = false := rfl
@[simp] theorem q110 {ks xs} : PV.own (PV.dN .fz ks xs) = false := rfl
@[simp] theorem q111 {ks xs} : PV.isEmp (PV.dN .fz ks xs) = false := rfl
@[simp] theorem q112 {ks xs} : PV.fl (PV.dN .fz ks xs) = .fz := rfl
@[simp] theorem q113 {ks xs} : PV.setFl .ow (PV.dN .fz ks xs) = PV.dN .ow ks xs := rfl
@[simp] theorem q114 {ks xs} : PV.setFl .io (PV.dN .fz ks xs) = PV.dN .io ks xs := rfl
@[simp] theorem q115 {ks xs} : PV.setFl .fz (PV.dN .fz ks xs) = PV.dN .fz ks xs := rfl
@[simp] theorem q116 {ks xs} : fzOf (PV.dN .fz ks xs) = some (PV.dN .fz ks xs) := rfl
@[simp] theorem q117 {ks xs} : kT (PV.dN .fz ks xs) = "" := rfl
@[simp] theorem q118 {ks xs} : PV.isIo (PV.dN .ow ks xs) = false := rfl
@[simp] theorem q119 {ks xs} : PV.own (PV.dN .ow ks xs) = true := rfl
@[simp] theorem q120 {ks xs} : PV.isEmp (PV.dN .ow ks xs) = false := rfl
@[simp] theorem q121 {ks xs} : PV.fl (PV.dN .ow ks xs) = .ow := rfl
@[simp] theorem q122 {ks xs} : PV.setFl .ow (PV.dN .ow ks xs) = PV.dN .ow ks xs := rfl
@[simp] theorem q123 {ks xs} : PV.setFl .io (PV.dN .ow ks xs) = PV.dN .io ks xs := rfl
@[simp] theorem q124 {ks xs} : PV.setFl .fz (PV.dN .ow ks xs) = PV.dN .fz ks xs := rfl
@[simp] theorem q125 {ks xs} : fzOf (PV.dN .ow ks xs) = some (PV.dN .fz ks xs) := rfl
@[simp] theorem q126 {ks xs} : kT (PV.dN .ow ks xs) = "" := rfl
@[simp] theorem q127 {ks xs} : PV.isIo (PV.dN .io ks xs) = true := rfl
@[simp] theorem q128 {ks xs} : PV.own (PV.dN .io ks xs) = true := rfl
@[simp] theorem q129 {ks xs} : PV.isEmp (PV.dN .io ks xs) = false := rfl
@[simp] theorem q130 {ks xs} : PV.fl (PV.dN .io ks xs) = .io := rfl
@[simp] theorem q131 {ks xs} : PV.setFl .ow (PV.dN .io ks xs) = PV.dN .ow ks xs := rfl
@[simp] theorem q132 {ks xs} : PV.setFl .io (PV.dN .io ks xs) = PV.dN .io ks xs := rfl
@[simp] theorem q133 {ks xs} : PV.setFl .fz (PV.dN .io ks xs) = PV.dN .fz ks xs := rfl
@[simp] theorem q134 {ks xs} : fzOf (PV.dN .io ks xs) = none := rfl
@[simp] theorem q135 {ks xs} : kT (PV.dN .io ks xs) = "" := rfl
@[simp] theorem q136 {c xs} : PV.isIo (PV.obj .fz c xs) = false := rfl
@[simp] theorem q137 {c xs} : PV.own (PV.obj .fz c xs) = false := rfl
@[simp] theorem q138 {c xs} : PV.isEmp (PV.obj .fz c xs) = false := rfl
@[simp] theorem q139 {c xs} : PV.fl (PV.obj .fz c xs) = .fz := rfl
@[simp] theorem q140 {c xs} : PV.setFl .ow (PV.obj .fz c xs) = PV.obj .ow c xs := rfl
@[simp] theorem q141 {c xs} : PV.setFl .io (PV.obj .fz c xs) = PV.obj .io c xs := rfl
@[simp] theorem q142 {c xs} : PV.setFl .fz (PV.obj .fz c xs) = PV.obj .fz c xs := rfl
@[simp] theorem q143 {c xs} : fzOf (PV.obj .fz c xs) = some (PV.obj .fz c xs) := rfl
@[simp] theorem q144 {c xs} : kT (PV.obj .fz c xs) = "" := rfl
@[simp] theorem q145 {c xs} : PV.isIo (PV.obj .ow c xs) = false := rfl
@[simp] theorem q146 {c xs} : PV.own (PV.obj .ow c xs) = true := rfl
@[simp] theorem q147 {c xs} : PV.isEmp (PV.obj .ow c xs) = false := rfl
@[simp] theorem q148 {c xs} : PV.fl (PV.obj .ow c xs) = .ow := rfl
@[simp] theorem q149 {c xs} : PV.setFl .ow (PV.obj .ow c xs) = PV.obj .ow c xs := rfl
@[simp] theorem q150 {c xs} : PV.setFl .io (PV.obj .ow c xs) = PV.obj .io c xs := rfl
@[simp] theorem q151 {c xs} : PV.setFl .fz (PV.obj .ow c xs) = PV.obj .fz c xs := rfl
@[simp] theorem q152 {c xs} : fzOf (PV.obj .ow c xs) = some (PV.obj .fz c xs) := rfl
@[simp] theorem q153 {c xs} : kT (PV.obj .ow c xs) = "" := rfl
@[simp] theorem q154 {c xs} : PV.isIo (PV.obj .io c xs) = true := rfl
@[simp] theorem q155 {c xs} : PV.own (PV.obj .io c xs) = true := rfl
@[simp] theorem q156 {c xs} : PV.isEmp (PV.obj .io c xs) = false := rfl
@[simp] theorem q157 {c xs} : PV.fl (PV.obj .io c xs) = .io := rfl
@[simp] theorem q158 {c xs} : PV.setFl .ow (PV.obj .io c xs) = PV.obj .ow c xs := rfl
@[simp] theorem q159 {c xs} : PV.setFl .io (PV.obj .io c xs) = PV.obj .io c xs := rfl
@[simp] theorem q160 {c xs} : PV.setFl .fz (PV.obj .io c xs) = PV.obj .fz c xs := rfl
@[simp] theorem q161 {c xs} : fzOf (PV.obj .io c xs) = none := rfl
@[simp] theorem q162 {c xs} : kT (PV.obj .io c xs) = "" := rfl
@[simp] theorem q163 {ns} : PV.isIo (PV.scr ns) = false := rfl
@[simp] theorem q164 {ns} : PV.own (PV.scr ns) = false := rfl
@[simp] theorem q165 {ns} : PV.isEmp (PV.scr ns) = false := rfl
@[simp] theorem q166 {ns} : PV.fl (PV.scr ns) = .fz := rfl
@[simp] theorem q167 {ns} : PV.setFl .ow (PV.scr ns) = (PV.scr ns) := rfl
@[simp] theorem q168 {ns} : PV.setFl .io (PV.scr ns) = (PV.scr ns) := rfl
@[simp] theorem q169 {ns} : PV.setFl .fz (PV.scr ns) = (PV.scr ns) := rfl
@[simp] theorem q170 {ns} : fzOf (PV.scr ns) = some (PV.scr ns) := rfl
@[simp] theorem q171 {ns} : kT (PV.scr ns) = "list" := rfl
@[simp] theorem q172 {n} : PV.isIo (PV.ty n) = false := rfl
@[simp] theorem q173 {n} : PV.own (PV.ty n) = false := rfl
@[simp] theorem q174 {n} : PV.isEmp (PV.ty n) = false := rfl
@[simp] theorem q175 {n} : PV.fl (PV.ty n) = .fz := rfl
@[simp] theorem q176 {n} : PV.setFl .ow (PV.ty n) = (PV.ty n) := rfl
@[simp] theorem q177 {n} : PV.setFl .io (PV.ty n) = (PV.ty n) := rfl
@[simp] theorem q178 {n} : PV.setFl .fz (PV.ty n) = (PV.ty n) := rfl
@[simp] theorem q179 {n} : fzOf (PV.ty n) = some (PV.ty n) := rfl
@[simp] theorem q180 {n} : kT (PV.ty n) = "" := rfl
@[simp] theorem q181 {c} : PV.isIo (PV.cls c) = false := rfl
@[simp] theorem q182 {c} : PV.own (PV.cls c) = false := rfl
@[simp] theorem q183 {c} : PV.isEmp (PV.cls c) = false := rfl
@[simp] theorem q184 {c} : PV.fl (PV.cls c) = .fz := rfl
@[simp] theorem q185 {c} : PV.setFl .ow (PV.cls c) = (PV.cls c) := rfl
@[simp] theorem q186 {c} : PV.setFl .io (PV.cls c) = (PV.cls c) := rfl
@[simp] theorem q187 {c} : PV.setFl .fz (PV.cls c) = (PV.cls c) := rfl
@[simp] theorem q188 {c} : fzOf (PV.cls c) = some (PV.cls c) := rfl
@[simp] theorem q189 {c} : kT (PV.cls c) = "" := rfl
@[simp] theorem q190 {d c xs} : PV.isIo (PV.err d c xs) = true := rfl
@[simp] theorem q191 {d c xs} : PV.own (PV.err d c xs) = true := rfl
@[simp] theorem q192 {d c xs} : PV.isEmp (PV.err d c xs) = false := rfl
@[simp] theorem q193 {d c xs} : PV.fl (PV.err d c xs) = .io := rfl
@[simp] theorem q194 {d c xs} : PV.setFl .ow (PV.err d c xs) = .emp := rfl
@[simp] theorem q195 {d c xs} : PV.setFl .io (PV.err d c xs) = .emp := rfl
@[simp] theorem q196 {d c xs} : PV.setFl .fz (PV.err d c xs) = .emp := rfl
@[simp] theorem q197 {d c xs} : fzOf (PV.err d c xs) = none := rfl
@[simp] theorem q198 {d c xs} : kT (PV.err d c xs) = "" := rfl
@[simp] theorem q_gN (i : Nat) (a : PV) (ρ : List PV) : gN i a ρ = if ((nth ρ i).isIo || a.isIo) = true then none else some (ρ.set i a) := rfl
@[simp] theorem q_set (i : Nat) (a : PV) (ρ : List PV) : setAt i a ρ = if ((nth ρ i).isIo || a.isIo) = true then none else some (ρ.set i a) := rfl
end VL
set_option Elab.async false
set_option linter.all false
set_option maxRecDepth 100000
namespace VL
open PySem PySem.Spec PyProof.Rows L2
def lclJ (w : Nat → PV → PV) (j n : Nat) (t : Tg) (tt : M Bool) (fe : M Hd) (own : List Nat) : Nat → List PV → M (List PV)
  | 0, acc, ρ => if okAt j n ρ = true then .ok acc ρ else .stuck
  | m + 1, acc, ρ => match nowAt j n (n - (m + 1)) ρ with
    | some x => (match t (w (n - (m + 1)) x) ρ with
      | some ρ1 => (match tt ρ1 with
        | .ok true ρ2 => (match fe ρ2 with
          | .ok h ρ3 => (match take ρ3 h with
            | some (a, ρ4) => if acc.length < lim then lclJ w j n t tt fe own m (acc ++ [a]) (wipeQ ρ4 own) else .stuck
            | none => .stuck)
          | _ => .stuck)
        | .ok false ρ2 => lclJ w j n t tt fe own m acc (wipeQ ρ2 own)
        | _ => .stuck)
      | none => .stuck)
    | none => .stuck
def lcJ (w : Nat → PV → PV) (j : Nat) (t : Tg) (tt : M Bool) (fe : M Hd) (own : List Nat) (n : Nat) : M Hd := fun ρ => match lclJ w j n t tt fe own n [] (wipeQ ρ own) with
  | .ok zs ρ2 => .ok (.tm (.lst .ow zs)) (restP ρ2 ρ own)
  | _ => .stuck
def eLcN (j : Nat) (t : Tg) (tt : M Bool) (fe : M Hd) (own : List Nat) : M Hd := fun ρ => match nth ρ j with
  | .lst .io ys => lcJ wId j t tt fe own ys.length ρ
  | _ => eLc (iSeq (eN j)) t tt fe own ρ
section
variable {g : G} {X : Cx} {elt tg iter : Expr} {ifs : List Expr} {fe : M Hd} {tt : M Bool} {t : Tg} {pos : Pos} {scope : Scope} {own : List (Str × Nat)} {is : List Nat} {w : Nat → PV → PV} {j n : Nat}
theorem lclJ_ok {m : Nat} {acc ρ ys ρ2 : List PV} (h : lclJ w j n t tt fe is m acc ρ = .ok ys ρ2) : okAt j n ρ = true := by
  cases m with
  | zero =>
    simp only [lclJ] at h
    split at h
    · assumption
    · cases h
  | succ m =>
    simp only [lclJ] at h
    cases e : nowAt j n (n - (m + 1)) ρ with
    | none => rw [e] at h; cases h
    | some x => exact (nowAt_ok e).1
theorem lc_io {J : It} {p : Addr} {σ : L2.St} {H : Hp} {Yw : Nat → Hp → V → Hp → Prop} {ρ : List PV} {τ : Its} {Q : VK} (hs0 : g.s0[j]? = some (some (.ref p))) (wk : Walk J n (fun H => ∃ vs, SqL g.T.K H p vs ∧ vs.length = n) Yw)
    (hY : ∀ i H x H' l ys b, Hold g.T H l → (PV.lst .io ys, V.ref p) ∈ l → ys[i]? = some b → Yw i H x H' → Hold g.T H' ((w i b, x) :: l)) (wo : ∀ i b, b.own = false → (w i b).own = false)
    (nd : is.Nodup) (f1 : Fits g.s0 ρ σ) (k1 : Hold g.T H (its ρ σ ++ τ)) (hP : Post g σ τ (PE1 g σ τ Q) (lcJ w j t tt fe is n ρ)) {D : Addr} (hD : H D = none) :
    ∃ W : Nat → Nat → Hp → Prop, (∃ m, W 0 m (upd H D (.lst []))) ∧ ∀ i m H, W i m H →
      (J.stop i H ∧ Q (.ref D) H) ∨ (J.go i H ∧ ∃ Nx : Hp → Prop, (∀ H', Nx H' → ∃ m', m' < m ∧ W (i + 1) m' H') ∧ ∀ x H', J.yld i H x H' → trG g.in0 t is x (wipe σ is) H' fun σ2 H2 => wipe σ2 is = wipe σ is ∧ trT g.in0 tt σ2 H2 fun b H3 =>
        if b = true then trE g.in0 fe σ2 H3 fun y H4 => ∃ acc, H4 D = some (.lst acc) ∧ acc.length < sizeLine ∧ Nx (upd H4 D (.lst (acc ++ [y]))) else Nx H3) := by
  obtain ⟨S, f2, k2, put⟩ := saveOut nd f1 k1
  -- the place of the lent list is none of the comprehension's own
  have io2 : ∀ {ρ' : List PV} {σ' : L2.St} {H' : Hp} {l : Its} {ys : List PV}, Fits g.s0 ρ' σ' → Hold g.T H' (its ρ' σ' ++ l) → nth ρ' j = .lst .io ys → (PV.lst .io ys, V.ref p) ∈ its ρ' σ' ++ l := fun f' k' e => io_at hs0 f' k' e
  refine lc_it wk (fun i H => ∃ ρ2 acc, Fits g.s0 ρ2 (wipe σ is) ∧ (∀ k ∈ is, nth ρ2 k = .emp) ∧ Hold g.T H ((.lst .ow acc, .ref D) :: (its ρ2 (wipe σ is) ++ (S ++ τ))) ∧
      (match lclJ w j n t tt fe is (n - i) acc ρ2 with
        | .ok ys ρ3 => PE1 g σ τ Q (.tm (.lst .ow ys)) (restP ρ3 ρ is)
        | _ => False)) ?_ (fun i H _ ⟨ρ2, acc, f3, _, k, q⟩ => ?_) (fun i x H2 H3 hi ⟨ρ2, acc, f3, em, k3, hP3⟩ y => ?_) fun H2 ⟨ρ2, acc, f3, em, k3, hP3⟩ => ?_
  · refine ⟨wipeQ ρ is, [], f2, fun k hk => wipeQ_in hk, Hold.new_own k2 hD rfl fun F s o => ⟨D, [], rfl, upd_same, .nil⟩, ?_⟩
    rw [Nat.sub_zero]
    unfold lcJ at hP
    cases e2 : lclJ w j n t tt fe is n [] (wipeQ ρ is) with
    | ok ys ρ2 => rw [e2] at hP; exact hP
    | exc _ _ _ => rw [e2] at hP; exact hP
    | stuck => rw [e2] at hP; exact hP
  · cases e2 : lclJ w j n t tt fe is (n - i) acc ρ2 with
    | exc _ _ _ => rw [e2] at q; exact q.elim
    | stuck => rw [e2] at q; exact q.elim
    | ok ys ρ3 =>
      obtain ⟨zs, e1, e3⟩ := okAt_inv (lclJ_ok e2)
      have k' : Hold g.T H (its ρ2 (wipe σ is) ++ ((.lst .ow acc, .ref D) :: (S ++ τ))) := k.perm (permc fun _ x => by simp only [List.count_append, List.count_cons]; omega)
      obtain ⟨p', vs, ev, h1, hl, _⟩ := k'.g_lst (io2 f3 k' e1)
      cases ev
      exact ⟨vs, SqL.of h1, by rw [hl, e3]⟩
  · obtain ⟨m, hm⟩ : ∃ m, n - i = m + 1 := ⟨n - i - 1, by omega⟩
    have hmi : n - (m + 1) = i := by omega
    have hm2 : n - (i + 1) = m := by omega
    rw [hm] at hP3
    simp only [lclJ, hmi] at hP3
    cases e0 : nowAt j n i ρ2 with
    | none => rw [e0] at hP3; exact hP3.elim
    | some b =>
      rw [e0] at hP3
      simp only at hP3
      obtain ⟨_, ys, e1, e2', e3'⟩ := nowAt_ok e0
      have k' : Hold g.T H2 (its ρ2 (wipe σ is) ++ ((.lst .ow acc, .ref D) :: (S ++ τ))) := k3.perm (permc fun _ x => by simp only [List.count_append, List.count_cons]; omega)
      have mm := io2 f3 k' e1
      have bo : b.own = false := items_own k' mm (xs := ys) rfl b (List.mem_of_getElem? e3')
      have k4 := hY i H2 x H3 _ ys b k' mm e3' y
      cases e2 : t (w i b) ρ2 with
      | none => rw [e2] at hP3; exact hP3.elim
      | some ρ4 =>
        rw [e2] at hP3
        simp only at hP3
        have down : ∀ {ρ4 : List PV} {σ' : L2.St} {H : Hp} {l : Its}, wipe σ' is = wipe σ is → Fits g.s0 ρ4 σ' → Hold g.T H (its ρ4 σ' ++ l) → Fits g.s0 (wipeQ ρ4 is) (wipe σ is) ∧ Hold g.T H (its (wipeQ ρ4 is) (wipe σ is) ++ l) := fun {ρ4 σ' H l} w' f' k' => by
          obtain ⟨S', q1, q2, _⟩ := saveOut nd f' k'
          rw [w'] at q1 q2
          exact ⟨q1, q2.sub (List.Sublist.append_left (List.sublist_append_right ..) _)⟩
        refine ⟨w i b, ρ2, (.lst .ow acc, .ref D) :: (S ++ τ), f3, wo i b bo, k4.perm (permc fun _ x => by simp only [List.count_append, List.count_cons] <;> omega), ρ4, e2, fun σ' H4 w' f4 k5 => ⟨by rw [w', wipe_idem], ?_⟩⟩
        rw [wipe_idem] at w'
        refine ⟨ρ4, _, f4, k5, ?_⟩
        cases e3 : tt ρ4 with
        | stuck => rw [e3] at hP3; exact hP3
        | exc _ _ _ => rw [e3] at hP3; exact hP3.elim
        | ok bb ρ5 =>
          rw [e3] at hP3
          intro H5 f5 k6
          cases bb with
          | false =>
            simp only [Bool.false_eq_true, if_false] at hP3 ⊢
            obtain ⟨f6, k7⟩ := down w' f5 k6
            exact ⟨wipeQ ρ5 is, acc, f6, fun k hk => wipeQ_in hk, k7.perm (permc fun _ x => by simp only [List.count_append, List.count_cons]; omega), by rw [hm2]; exact hP3⟩
          | true =>
            simp only [if_true] at hP3 ⊢
            refine ⟨ρ5, _, f5, k6, ?_⟩
            cases e4 : fe ρ5 with
            | stuck => rw [e4] at hP3; exact hP3
            | exc _ _ _ => rw [e4] at hP3; exact hP3.elim
            | ok h1 ρ6 =>
              rw [e4] at hP3
              simp only at hP3
              intro v H6 f6 s6 k7
              cases e5 : take ρ6 h1 with
              | none => rw [e5] at hP3; exact hP3.elim
              | some q =>
                obtain ⟨a, ρ7⟩ := q
                rw [e5] at hP3
                simp only at hP3
                obtain ⟨f7, o7, k8⟩ := take_ok f6 s6 k7 e5
                by_cases hz : acc.length < lim
                · rw [if_pos hz] at hP3
                  have k9 : Hold g.T H6 ((.lst .ow acc, .ref D) :: ((a, v) :: (its ρ7 σ' ++ (S ++ τ)))) := k8.perm (permc fun _ x => by simp only [List.count_append, List.count_cons]; omega)
                  obtain ⟨p', vs, ev, hp, hl, _⟩ := k9.g_lst List.mem_cons_self
                  cases ev
                  refine ⟨vs, hp, by rw [hl]; exact lim_lt hz, ?_⟩
                  have k10 := Hold.write k9 (o := .lst (vs ++ [v])) rfl (b := .lst .ow (acc ++ [a])) rfl fun F s ra o => ⟨D, vs ++ [v], rfl, upd_same, by
                    obtain ⟨p', vs', ev, hp', r⟩ := ra
                    cases ev
                    rw [hp] at hp'; cases hp'
                    exact r.append (.cons ((Own.fz o7).mp (o (a, v) List.mem_cons_self)) o7 .nil)⟩
                  have k11 : Hold g.T (upd H6 D (.lst (vs ++ [v]))) (its ρ7 σ' ++ ((.lst .ow (acc ++ [a]), .ref D) :: (S ++ τ))) := by
                    have : Hold g.T (upd H6 D (.lst (vs ++ [v]))) ((a, v) :: (its ρ7 σ' ++ ((.lst .ow (acc ++ [a]), .ref D) :: (S ++ τ)))) := k10.perm (permc fun _ x => by simp only [List.count_append, List.count_cons]; omega)
                    exact this.tail
                  obtain ⟨f8, k12⟩ := down w' f7 k11
                  exact ⟨wipeQ ρ7 is, acc ++ [a], f8, fun k hk => wipeQ_in hk, k12.perm (permc fun _ x => by simp only [List.count_append, List.count_cons]; omega), by rw [hm2]; exact hP3⟩
                · rw [if_neg hz] at hP3; exact hP3.elim
  · rw [Nat.sub_self] at hP3
    simp only [lclJ] at hP3
    by_cases hok : okAt j n ρ2 = true
    · simp only [if_pos hok] at hP3
      have k4 : Hold g.T H2 (its ρ2 (wipe σ is) ++ (S ++ ((.lst .ow acc, .ref D) :: τ))) := k3.perm (permc fun _ x => by simp only [List.count_append, List.count_cons]; omega)
      obtain ⟨f4, k5⟩ := put ρ2 H2 _ f3 em k4
      refine hP3 (.ref D) H2 f4 slot_tm ?_
      exact k5.perm (permc fun _ x => by simp only [hit, List.count_append, List.count_cons, List.count_nil]; omega)
    · simp only [if_neg hok] at hP3
/-- reading of a comprehension over x, x a name -/
theorem lcN_read {σ : L2.St} {H : Hp} {Q : VK} {ρ : List PV} {τ : Its} (hK : X.K = g.T.K) (nd : is.Nodup) (ft : Fits g.s0 ρ σ) (h : Hold g.T H (its ρ σ ++ τ)) (hP : Post g σ τ (PE1 g σ τ Q) (eLcN j t tt fe is ρ)) :
    tLc (iSqV X.K (trE g (eN j))) (trG g.in0 t is) (trT g.in0 tt) (trE g.in0 fe) is σ H Q := by
  have other : Post g σ τ (PE1 g σ τ Q) (eLc (iSeq (eN j)) t tt fe is ρ) → tLc (iSqV X.K (trE g (eN j))) (trG g.in0 t is) (trT g.in0 tt) (trE g.in0 fe) is σ H Q := fun hP => by
    have := lc_read (fx := iSeq (eN j)) nd ft h hP
    obtain ⟨ρ', τ', f', h', q⟩ := this
    exact iseq_q hK σ H _ ρ' τ' f' h' q
  unfold eLcN at hP
  split at hP
  · rename_i ys e
    refine ⟨ρ, τ, ft, h, ?_⟩
    have en : eN j ρ = .ok (.sl j) ρ := by unfold eN; rw [e]; rfl
    rw [en]
    intro v H1 f1 s1 k1
    have k1 : Hold g.T H1 (its ρ σ ++ τ) := by simpa [hit] using k1
    have cj := s1 j rfl
    have m : (PV.lst .io ys, v) ∈ its ρ σ ++ τ := by
      have := List.mem_append_left τ (its_mem f1.len cj)
      rwa [e] at this
    obtain ⟨p, vs, rfl, h1, hl, _⟩ := k1.g_lst m
    have hs0 : g.s0[j]? = some (some (.ref p)) := by rw [← f1.io j (by rw [e]; rfl)]; exact cj
    refine ⟨p, rfl, .inl ⟨⟨vs, by rw [hK]; exact SqL.of h1⟩, ?_⟩⟩
    rw [hK]
    intro D hD
    refine lc_io (w := wId) hs0 walk_L (fun i H x H' l ys b k m e y => ?_) (fun _ _ h => h) nd f1 k1 hP hD
    obtain ⟨rfl, y⟩ := y
    obtain ⟨_, _, _, q3⟩ := lst_at _ l k m
    exact q3 i x y b e
  · exact other hP
theorem ev_lcN {x : Str} {p : Pos} (hK : X.K = g.T.K) (hc : X.calm = true) (hN : X.N.Nodup) (his : own.map (·.2) = is) (nd : is.Nodup) (hx : EV g X (.Name x p) (eN j)) (ok : BlkOk X.N X.env.scope scope own)
    (hg : ∀ (s : Shared) (H : Hp) (C : Addr) (cl : List (Str × Addr)) (fp : List Addr), GV g.in0 (X.blk s H scope (compEnvC scope cl C X.env) fp) tg t is) (ht : ∀ (s : Shared) (H : Hp) (C : Addr) (cl : List (Str × Addr)) (fp : List Addr), PTsV g.in0 (X.blk s H scope (compEnvC scope cl C X.env) fp) ifs tt)
    (he : ∀ (s : Shared) (H : Hp) (C : Addr) (cl : List (Str × Addr)) (fp : List Addr), EV g.in0 (X.blk s H scope (compEnvC scope cl C X.env) fp) elt fe) (hs : ∀ y, foldedSetIterable (.Name x p) X.env y = pure y := by intro _; rfl) :
    EV g X (.ListComp elt [⟨tg, .Name x p, ifs, 0⟩] scope pos) (eLcN j t tt fe is) :=
  ev_of (pe_lc hc hN (pi_sqV hx) ok hg ht he hs) fun σ H Q ρ τ ft h hP => by rw [his]; exact lcN_read hK nd ft h hP
end
end VL
set_option Elab.async false
set_option linter.all false
set_option maxRecDepth 100000
namespace VL
open PySem PySem.Spec PyProof.Rows L2
section
variable {T : Tb}
theorem ints_lst {H : Hp} {l : Its} {o : Fl} {ns : List Int} {v : V} (k : Hold T H l) (m : (PV.lst o (ns.map .int), v) ∈ l) : ∃ p, v = .ref p ∧ SqL T.K H p (ns.map V.int) := by
  obtain ⟨p, vs, rfl, h1, hl, F, s, r⟩ := k.g_lst m
  refine ⟨p, rfl, ?_⟩
  have : vs = ns.map V.int := by
    clear m h1 hl
    induction ns generalizing vs with
    | nil => simp only [List.map_nil, Reps] at r; exact r
    | cons n ns ih =>
      obtain ⟨w, ws, rfl, h1, _, h2⟩ := r.inv
      simp only [Rep] at h1
      subst h1
      rw [List.map_cons, ih _ h2]
  rw [← this]
  exact SqL.of h1
def intsOf : List PV → Option (List Int)
  | [] => some []
  | .int i :: r => (intsOf r).map (i :: ·)
  | _ :: _ => none
theorem intsOf_ok : ∀ {xs : List PV} {ns : List Int}, intsOf xs = some ns → xs = ns.map .int
  | [], ns, h => by cases h; rfl
  | .int i :: r, ns, h => by
    simp only [intsOf] at h
    obtain ⟨ms, e, rfl⟩ := Option.map_eq_some_iff.mp h
    rw [intsOf_ok e]; rfl
  | .emp :: _, _, h | .non :: _, _, h | .bl _ :: _, _, h | .str _ :: _, _, h | .tup _ :: _, _, h | .lst _ _ :: _, _, h | .dK _ _ _ :: _, _, h | .dN _ _ _ :: _, _, h | .obj _ _ _ :: _, _, h | .scr _ :: _, _, h | .ty _ :: _, _, h | .cls _ :: _, _, h | .err _ _ _ :: _, _, h | .nst _ _ _ :: _, _, h | .frm _ :: _, _, h | .cel _ _ :: _, _, h => by cases h
theorem intsOf_map : ∀ ns : List Int, intsOf (ns.map .int) = some ns
  | [] => rfl
  | n :: ns => by simp [intsOf, intsOf_map ns]
def oSum : List PV → Option PV
  | [.lst _ xs] => (intsOf xs).map fun ns => .int ns.sum
  | _ => none
theorem f_sum : Fnv T oSum (rSum T.K) := by
  intro H l as c vs Q k hl hm e q
  unfold oSum at e
  split at e
  · rename_i o xs
    obtain ⟨ns, e1, rfl⟩ := Option.map_eq_some_iff.mp e
    have := intsOf_ok e1
    subst this
    obtain ⟨v, rfl, m⟩ := one_arg rfl hl hm
    obtain ⟨p, rfl, hp⟩ := ints_lst k m
    exact ⟨p, ns, rfl, hp, q _ _ k.int⟩
  · cases e
def maxI : List Int → Int
  | [] => 0
  | x :: xs => xs.foldl max x
theorem foldl_max : ∀ (xs : List Int) (x : Int), xs.foldl max x ∈ x :: xs ∧ ∀ y ∈ x :: xs, y ≤ xs.foldl max x
  | [], x => by simp
  | z :: xs, x => by
    obtain ⟨h1, h2⟩ := foldl_max xs (max x z)
    rw [List.foldl_cons]
    refine ⟨?_, fun y hy => ?_⟩
    · rcases List.mem_cons.mp h1 with e | m
      · rw [e]
        rcases Int.le_total x z with hh | hh
        · rw [Int.max_eq_right hh]; simp
        · rw [Int.max_eq_left hh]; simp
      · exact List.mem_cons_of_mem _ (List.mem_cons_of_mem _ m)
    · have h3 := h2 (max x z) List.mem_cons_self
      rcases List.mem_cons.mp hy with rfl | hy
      · exact Int.le_trans (Int.le_max_left ..) h3
      · rcases List.mem_cons.mp hy with rfl | hy
        · exact Int.le_trans (Int.le_max_right ..) h3
        · exact h2 y (List.mem_cons_of_mem _ hy)
theorem maxI_ok {ns : List Int} (h : ns ≠ []) : maxI ns ∈ ns ∧ ∀ y ∈ ns, y ≤ maxI ns := by
  cases ns with
  | nil => exact absurd rfl h
  | cons x xs => exact foldl_max xs x
def oMaxL : List PV → Option PV
  | [.lst _ xs] => match intsOf xs with
    | some (n :: ns) => some (.int (maxI (n :: ns)))
    | _ => none
  | _ => none
theorem f_maxL : Fnv T oMaxL (rMax T.K) := by
  intro H l as c vs Q k hl hm e q
  unfold oMaxL at e
  split at e
  · rename_i o xs
    split at e
    · rename_i n ns e1
      cases e
      have := intsOf_ok e1
      subst this
      obtain ⟨v, rfl, m⟩ := one_arg rfl hl hm
      obtain ⟨p, rfl, hp⟩ := ints_lst k m
      refine ⟨p, n :: ns, rfl, hp, by simp, fun y h1 h2 => q _ _ ?_⟩
      obtain ⟨g1, g2⟩ := maxI_ok (ns := n :: ns) (by simp)
      rw [Int.le_antisymm (g2 y h1) (h2 _ g1)]
      exact k.int
    · cases e
  · cases e
end
end VL
set_option Elab.async false
set_option linter.all false
set_option maxRecDepth 100000
namespace VT
open PySem PySem.Spec PyProof.Rows VL
inductive TX (β : Type) where
  | ok (b : β)
  | ex (c : String) (xs : List PV)
  | no
namespace TX
variable {α β γ : Type}
def bind (t : TX α) (k : α → TX β) : TX β :=
  match t with
  | .ok a => k a
  | .ex c xs => .ex c xs
  | .no => .no
@[simp] theorem bind_ok (a : α) (k : α → TX β) : (TX.ok a).bind k = k a := rfl
@[simp] theorem bind_ex (c : String) (xs : List PV) (k : α → TX β) : (TX.ex c xs : TX α).bind k = .ex c xs := rfl
@[simp] theorem bind_no (k : α → TX β) : (TX.no : TX α).bind k = .no := rfl
theorem bind_assoc (t : TX α) (k : α → TX β) (l : β → TX γ) : (t.bind k).bind l = t.bind fun a => (k a).bind l := by cases t <;> rfl
@[simp] theorem bind_id (t : TX α) : t.bind .ok = t := by cases t <;> rfl
end TX
/-- what a loop's body ends with -/
inductive Go (σ β : Type) where
  | nx (s : σ)
  | bk (s : σ)
  | rt (b : β)
def Go.elim {σ β γ : Type} (f : σ → TX γ) (r : β → TX γ) : Go σ β → TX γ
  | .nx s => f s
  | .bk _ => .no
  | .rt b => r b
@[simp] theorem Go.elim_nx {σ β γ : Type} (f : σ → TX γ) (r : β → TX γ) (s : σ) : Go.elim f r (.nx s) = f s := rfl
@[simp] theorem Go.elim_rt {σ β γ : Type} (f : σ → TX γ) (r : β → TX γ) (b : β) : Go.elim f r (.rt b) = r b := rfl
/-- it ends well, with Q -/
def Ok {β : Type} (t : TX β) (Q : β → Prop) : Prop := ∃ b, t = .ok b ∧ Q b
namespace Ok
variable {α β : Type}
theorem bind {t : TX α} {k : α → TX β} {Q : α → Prop} {P : β → Prop} (h : Ok t Q) (hk : ∀ a, Q a → Ok (k a) P) : Ok (t.bind k) P := by
  obtain ⟨a, rfl, q⟩ := h
  exact hk a q
theorem of {b : β} {Q : β → Prop} (h : Q b) : Ok (.ok b) Q := ⟨b, rfl, h⟩
theorem imp {t : TX α} {Q P : α → Prop} (h : Ok t Q) (q : ∀ a, Q a → P a) : Ok t P := by
  obtain ⟨a, e, h⟩ := h
  exact ⟨a, e, q a h⟩
end Ok
def opt {α : Type} : Option α → TX α
  | some a => .ok a
  | none => .no
@[simp] theorem opt_some {α : Type} (a : α) : opt (some a) = .ok a := rfl
@[simp] theorem opt_none {α : Type} : opt (none : Option α) = .no := rfl
/-- x[i] -/
def tix {α : Type} (xs : List α) (i : Int) : TX α := opt (L2.atI xs i)
theorem tix_n {α : Type} {xs : List α} {i : Nat} {a : α} (h : xs[i]? = some a) : tix xs (i : Int) = .ok a := by
  have hi := (List.getElem?_eq_some_iff.mp h).1
  have : L2.ixN xs.length (i : Int) = some i := by unfold L2.ixN; rw [if_pos (by omega), if_pos (by omega)]; simp
  unfold tix L2.atI
  rw [this]
  simp [h]
theorem tix_i {α : Type} {xs : List α} {i : Int} {a : α} (h0 : 0 ≤ i) (h : xs[i.toNat]? = some a) : tix xs i = .ok a := by
  obtain ⟨n, rfl⟩ := Int.eq_ofNat_of_zero_le h0
  exact tix_n (by simpa using h)
theorem tix_ok {α : Type} {xs : List α} {i : Int} (h0 : 0 ≤ i) (h : i < xs.length) : Ok (tix xs i) fun a => xs[i.toNat]? = some a :=
  ⟨xs[i.toNat]'(by omega), tix_i h0 (List.getElem?_eq_getElem (by omega)), List.getElem?_eq_getElem (by omega)⟩
@[simp] theorem tix_zero {α : Type} (a : α) (xs : List α) : tix (a :: xs) 0 = .ok a := tix_n (i := 0) rfl
@[simp] theorem tix_one {α : Type} (a b : α) (xs : List α) : tix (a :: b :: xs) 1 = .ok b := tix_n (i := 1) rfl
@[simp] theorem tix_two {α : Type} (a b c : α) (xs : List α) : tix (a :: b :: c :: xs) 2 = .ok c := tix_n (i := 2) rfl
@[simp] theorem tix_three {α : Type} (a b c d : α) (xs : List α) : tix (a :: b :: c :: d :: xs) 3 = .ok d := tix_n (i := 3) rfl
/-- x[i] = a -/
def tset {α : Type} (xs : List α) (i : Int) (a : α) : TX (List α) := (opt (L2.ixN xs.length i)).bind fun m => .ok (xs.set m a)
def tapp {α : Type} (xs : List α) (a : α) : TX (List α) := if xs.length < lim then .ok (xs ++ [a]) else .no
theorem tapp_ok {α : Type} {xs : List α} {a : α} (h : xs.length < lim) : tapp xs a = .ok (xs ++ [a]) := by simp [tapp, h]
def tcat {α : Type} (xs ys : List α) : TX (List α) := if xs.length + ys.length ≤ lim then .ok (xs ++ ys) else .no
def tins {α : Type} (xs : List α) (i : Int) (a : α) : TX (List α) := if xs.length < lim ∧ 0 ≤ i ∧ i < 2 ^ 63 then .ok (xs.take i.toNat ++ [a] ++ xs.drop i.toNat) else .no
@[simp] theorem tins_zero {α : Type} {xs : List α} {a : α} (h : xs.length < lim) : tins xs 0 a = .ok (a :: xs) := by simp [tins, h]
/-- range(a, b) -/
def rgI (a b : Int) : List Int := (List.range (b - a).toNat).map fun i => a + (i : Nat)
def trg (a b : Int) : TX (List Int) := if a.natAbs ≤ lim ∧ b.natAbs ≤ lim then .ok (rgI a b) else .no
theorem trg_ok {a b : Int} (h1 : a.natAbs ≤ lim) (h2 : b.natAbs ≤ lim) : trg a b = .ok (rgI a b) := by simp [trg, h1, h2]
theorem rgI_nat (n : Nat) : rgI 0 (n : Int) = (List.range n).map fun i : Nat => (i : Int) := by simp [rgI]
theorem trg_nat {n : Nat} (h : n ≤ lim) : trg 0 (n : Int) = .ok ((List.range n).map fun i : Nat => (i : Int)) := by
  rw [trg_ok (by decide) (by simpa using h), rgI_nat]
def tmul (i j : Int) : TX Int := if cMul i j = true then .ok (i * j) else .no
theorem tmul_l {i j : Int} (h1 : -(2 ^ 64) < i) (h2 : i < 2 ^ 64) : tmul i j = .ok (i * j) := by simp [tmul, cm_l h1 h2]
def tdiv (i j : Int) : TX Int := if 0 < j ∧ j < wide then .ok (i / j) else .no
def tmod (i j : Int) : TX Int := if 0 < j then .ok (i % j) else .no
theorem tdiv_w {i j : Int} (h : 0 < j) (h2 : j < wide) : tdiv i j = .ok (i / j) := by simp [tdiv, h, h2]
theorem tdiv_ok {i j : Int} (h : 0 < j) (h2 : j < 1073741824) : tdiv i j = .ok (i / j) := tdiv_w h (wide_30 h2)
theorem tmod_ok {i j : Int} (h : 0 < j) : tmod i j = .ok (i % j) := by simp [tmod, h]
def teq {α : Type} [DecidableEq α] (a b : α) : Bool := decide (a = b)
def tmem {α : Type} [DecidableEq α] (a : α) (xs : List α) : Bool := decide (a ∈ xs)
@[simp] theorem teq_iff {α : Type} [DecidableEq α] (a b : α) : (teq a b = true) = (a = b) := by simp [teq]
@[simp] theorem teq_iffF {α : Type} [DecidableEq α] (a b : α) : (teq a b = false) = ¬ (a = b) := by simp [teq]
@[simp] theorem tmem_iff {α : Type} [DecidableEq α] (a : α) (xs : List α) : (tmem a xs = true) = (a ∈ xs) := by simp [tmem]
@[simp] theorem tmem_iffF {α : Type} [DecidableEq α] (a : α) (xs : List α) : (tmem a xs = false) = ¬ (a ∈ xs) := by simp [tmem]
theorem teq_self {α : Type} [DecidableEq α] (a : α) : teq a a = true := by simp
def iabs (i : Int) : Int := if i < 0 then -i else i
def b2i (b : Bool) : Int := if b then 1 else 0
def tmaxL (xs : List Int) : TX Int := if xs = [] then .no else .ok (maxI xs)
def trep {α : Type} (xs : List α) (k : Int) : TX (List α) := if k ≤ (lim : Nat) ∧ -(2 ^ 63) ≤ k ∧ xs.length * k.toNat ≤ lim then .ok (List.replicate k.toNat xs).flatten else .no
section
variable {α β σ : Type}
/-- a for that ends by itself -/
def tfold (L : List α) (s : σ) (b : σ → α → TX σ) : TX σ :=
  match L with
  | [] => .ok s
  | x :: L => (b s x).bind fun s' => tfold L s' b
/-- a for that may break or return -/
def tfor (L : List α) (s : σ) (b : σ → α → TX (Go σ β)) : TX (Go σ β) :=
  match L with
  | [] => .ok (.nx s)
  | x :: L => (b s x).bind fun g => match g with
    | .nx s' => tfor L s' b
    | .bk s' => .ok (.nx s')
    | .rt b' => .ok (.rt b')
/-- a comprehension; the state by itself -/
def tlc (acc : List β) (L : List α) (s : σ) (b : σ → α → TX (Option β × σ)) : TX (List β × σ) :=
  match L with
  | [] => .ok (acc, s)
  | x :: L => (b s x).bind fun r => match r with
    | (some y, s') => if acc.length < lim then tlc (acc ++ [y]) L s' b else .no
    | (none, s') => tlc acc L s' b
@[simp] theorem tfold_nil (s : σ) (b : σ → α → TX σ) : tfold [] s b = .ok s := rfl
@[simp] theorem tfold_cons (x : α) (L : List α) (s : σ) (b : σ → α → TX σ) : tfold (x :: L) s b = (b s x).bind fun s' => tfold L s' b := rfl
@[simp] theorem tfor_nil (s : σ) (b : σ → α → TX (Go σ β)) : tfor [] s b = .ok (.nx s) := rfl
theorem tfor_cons (x : α) (L : List α) (s : σ) (b : σ → α → TX (Go σ β)) : tfor (x :: L) s b = (b s x).bind fun g => match g with
    | .nx s' => tfor L s' b
    | .bk s' => .ok (.nx s')
    | .rt b' => .ok (.rt b') := rfl
/-- a for by an invariant over what has been walked -/
theorem tfold_inv {L : List α} {s : σ} {b : σ → α → TX σ} (I : List α → σ → Prop) (h0 : I [] s)
    (step : ∀ A x B s, L = A ++ x :: B → I A s → Ok (b s x) fun s' => I (A ++ [x]) s') : Ok (tfold L s b) (I L) := by
  suffices ∀ (R A : List α) (s : σ), L = A ++ R → I A s → Ok (tfold R s b) (I L) from this L [] s rfl h0
  intro R
  induction R with
  | nil => intro A s e h; simp at e; subst e; exact ⟨s, rfl, h⟩
  | cons x R ih =>
    intro A s e h
    refine (step A x R s e h).bind fun s' h' => ?_
    exact ih (A ++ [x]) s' (by simp [e]) h'
end
end VT
set_option Elab.async false
set_option linter.all false
set_option maxRecDepth 100000
namespace VT
open PySem PySem.Spec PyProof.Rows VL
abbrev OS := {s : Str // PyData.strOk s = true}
def lit (s : Str) (h : PyData.strOk s = true := by decide +kernel) : OS := ⟨s, h⟩
section
variable {α β γ δ ε : Type}
def kS (x : OS) : PV := .str x.1
def kU (_ : Unit) : PV := .non
def kO (e : α → PV) : Option α → PV
  | none => .non
  | some a => e a
def kT (e : α → PV) (xs : List α) : PV := .tup (xs.map e)
def kL (o : Fl) (e : α → PV) (xs : List α) : PV := .lst o (xs.map e)
def kP2 (e : α → PV) (f : β → PV) (p : α × β) : PV := .tup [e p.1, f p.2]
def kP3 (e : α → PV) (f : β → PV) (g : γ → PV) (p : α × β × γ) : PV := .tup [e p.1, f p.2.1, g p.2.2]
def kP4 (e : α → PV) (f : β → PV) (g : γ → PV) (h : δ → PV) (p : α × β × γ × δ) : PV := .tup [e p.1, f p.2.1, g p.2.2.1, h p.2.2.2]
def kQ2 (o : Fl) (e : α → PV) (f : β → PV) (p : α × β) : PV := .lst o [e p.1, f p.2]
def kQ3 (o : Fl) (e : α → PV) (f : β → PV) (g : γ → PV) (p : α × β × γ) : PV := .lst o [e p.1, f p.2.1, g p.2.2]
def kQ4 (o : Fl) (e : α → PV) (f : β → PV) (g : γ → PV) (h : δ → PV) (p : α × β × γ × δ) : PV := .lst o [e p.1, f p.2.1, g p.2.2.1, h p.2.2.2]
class Fz (e : α → PV) : Prop where
  fz : ∀ a, fzOf (e a) = some (e a)
instance : Fz PV.int := ⟨fun _ => rfl⟩
instance : Fz PV.bl := ⟨fun _ => rfl⟩
instance : Fz PV.scr := ⟨fun _ => rfl⟩
instance : Fz kS := ⟨fun _ => rfl⟩
instance : Fz kU := ⟨fun _ => rfl⟩
instance {e : α → PV} [Fz e] : Fz (kO e) := ⟨fun a => by cases a with
  | none => rfl
  | some a => exact Fz.fz a⟩
instance {e : α → PV} : Fz (kT e) := ⟨fun _ => rfl⟩
instance {e : α → PV} : Fz (kL .fz e) := ⟨fun _ => rfl⟩
instance {e : α → PV} {f : β → PV} : Fz (kP2 e f) := ⟨fun _ => rfl⟩
instance {e : α → PV} {f : β → PV} {g : γ → PV} : Fz (kP3 e f g) := ⟨fun _ => rfl⟩
instance {e : α → PV} {f : β → PV} {g : γ → PV} {h : δ → PV} : Fz (kP4 e f g h) := ⟨fun _ => rfl⟩
instance {e : α → PV} {f : β → PV} : Fz (kQ2 .fz e f) := ⟨fun _ => rfl⟩
instance {e : α → PV} {f : β → PV} {g : γ → PV} : Fz (kQ3 .fz e f g) := ⟨fun _ => rfl⟩
instance {e : α → PV} {f : β → PV} {g : γ → PV} {h : δ → PV} : Fz (kQ4 .fz e f g h) := ⟨fun _ => rfl⟩
/-- a value that is frozen already -/
def FzV (a : PV) : Prop := fzOf a = some a
theorem FzV.of (e : α → PV) [Fz e] (a : α) : FzV (e a) := Fz.fz a
theorem FzV.own {a : PV} (h : FzV a) : a.own = false := (fzOf_eq h).2.2.1
theorem FzV.io {a : PV} (h : FzV a) : a.isIo = false := (fzOf_eq h).2.2.2.1
theorem FzV.emp {a : PV} (h : FzV a) : a.isEmp = false := (fzOf_eq h).2.1
theorem FzV.set {a : PV} (h : FzV a) : a.setFl .fz = a := (fzOf_eq h).1.symm
theorem FzV.toIo {a : PV} (h : FzV a) : a.toIo = a := by unfold PV.toIo PV.reFl; rw [h.own]; rfl
theorem eqv_n1 {d : PyData} (h : d ≠ .none) : PyData.eqv .none d = false := by cases d <;> first | exact absurd rfl h | simp [PyData.eqv]
theorem eqv_n2 {d : PyData} (h : d ≠ .none) : PyData.eqv d .none = false := by cases d <;> first | exact absurd rfl h | simp [PyData.eqv]
/-- not None, not nothing -/
class NN (e : α → PV) : Prop where
  nn : ∀ a neg, oIs neg (e a) .non = some (.bl neg)
  nd : ∀ a, PyData.eqv .none (dat (e a)) = false ∧ PyData.eqv (dat (e a)) .none = false
instance : NN PV.int := ⟨fun _ _ => rfl, fun a => have h := (by simp [kS, kT, kL, kP2, kP3, kQ2, dat]); ⟨eqv_n1 h, eqv_n2 h⟩⟩
instance : NN PV.bl := ⟨fun _ _ => rfl, fun a => have h := (by simp [kS, kT, kL, kP2, kP3, kQ2, dat]); ⟨eqv_n1 h, eqv_n2 h⟩⟩
instance : NN kS := ⟨fun _ _ => rfl, fun a => have h := (by simp [kS, kT, kL, kP2, kP3, kQ2, dat]); ⟨eqv_n1 h, eqv_n2 h⟩⟩
instance {e : α → PV} : NN (kT e) := ⟨fun _ _ => rfl, fun a => have h := (by simp [kS, kT, kL, kP2, kP3, kQ2, dat]); ⟨eqv_n1 h, eqv_n2 h⟩⟩
instance {o : Fl} {e : α → PV} : NN (kL o e) := ⟨fun _ _ => rfl, fun a => have h := (by simp [kS, kT, kL, kP2, kP3, kQ2, dat]); ⟨eqv_n1 h, eqv_n2 h⟩⟩
instance {e : α → PV} {f : β → PV} : NN (kP2 e f) := ⟨fun _ _ => rfl, fun a => have h := (by simp [kS, kT, kL, kP2, kP3, kQ2, dat]); ⟨eqv_n1 h, eqv_n2 h⟩⟩
instance {e : α → PV} {f : β → PV} {g : γ → PV} : NN (kP3 e f g) := ⟨fun _ _ => rfl, fun a => have h := (by simp [kS, kT, kL, kP2, kP3, kQ2, dat]); ⟨eqv_n1 h, eqv_n2 h⟩⟩
instance {o : Fl} {e : α → PV} {f : β → PV} : NN (kQ2 o e f) := ⟨fun _ _ => rfl, fun a => have h := (by simp [kS, kT, kL, kP2, kP3, kQ2, dat]); ⟨eqv_n1 h, eqv_n2 h⟩⟩
theorem is_O {e : α → PV} [NN e] (neg : Bool) (a : Option α) : oIs neg (kO e a) .non = some (.bl (neg != a.isNone)) := by
  cases a with
  | none => cases neg <;> rfl
  | some a => rw [show kO e (some a) = e a from rfl, NN.nn]; cases neg <;> rfl
/-- equality -/
class DE (e e' : α → PV) [DecidableEq α] : Prop where
  eq : ∀ a b, PyData.eqv (dat (e a)) (dat (e' b)) = decide (a = b)
class Dp (e : α → PV) (n : outParam Nat) : Prop where
  dp : ∀ a, (dat (e a)).depth ≤ n
  cl : ∀ a, (dat (e a)).canLay0 = true
instance : DE PV.int PV.int := ⟨fun a b => by simp [dat, PyData.eqv]; rfl⟩
instance : DE PV.bl PV.bl := ⟨fun a b => by cases a <;> cases b <;> simp [dat, PyData.eqv]⟩
instance : DE kS kS := ⟨fun a b => by
  simp only [kS, dat, PyData.eqv]
  by_cases h : a = b
  · subst h; simp
  · have : ¬ a.1 = b.1 := fun z => h (Subtype.ext z)
    simp [h, this]⟩
instance : DE kU kU := ⟨fun a b => by simp [kU, dat, PyData.eqv]⟩
instance {e e' : α → PV} [DecidableEq α] [DE e e'] [NN e] [NN e'] : DE (kO e) (kO e') := ⟨fun a b => by
  cases a <;> cases b <;> simp [kO, dat, PyData.eqv, DE.eq, (NN.nd _).1, (NN.nd _).2]⟩
theorem eqvAll_map {e e' : α → PV} [DecidableEq α] [DE e e'] : ∀ (xs ys : List α), PyData.eqvAll ((xs.map e).map dat) ((ys.map e').map dat) = decide (xs = ys)
  | [], [] => by simp [PyData.eqvAll]
  | [], _ :: _ => by simp [PyData.eqvAll]
  | _ :: _, [] => by simp [PyData.eqvAll]
  | x :: xs, y :: ys => by
    have ih := eqvAll_map (e := e) (e' := e') xs ys
    simp only [List.map_cons, PyData.eqvAll, ih, DE.eq (e := e) (e' := e') x y, List.cons.injEq, Bool.decide_and]
instance {e e' : α → PV} [DecidableEq α] [DE e e'] : DE (kT e) (kT e') := ⟨fun a b => by
  simp only [kT, dat, PyData.eqv]; exact eqvAll_map a b⟩
instance {o o' : Fl} {e e' : α → PV} [DecidableEq α] [DE e e'] : DE (kL o e) (kL o' e') := ⟨fun a b => by
  simp only [kL, dat, PyData.eqv]; exact eqvAll_map a b⟩
instance {e e' : α → PV} {f f' : β → PV} [DecidableEq α] [DecidableEq β] [DE e e'] [DE f f'] : DE (kP2 e f) (kP2 e' f') := ⟨fun a b => by
  obtain ⟨a1, a2⟩ := a
  obtain ⟨b1, b2⟩ := b
  simp [kP2, dat, PyData.eqv, PyData.eqvAll, DE.eq]⟩
instance {e e' : α → PV} {f f' : β → PV} {g g' : γ → PV} [DecidableEq α] [DecidableEq β] [DecidableEq γ] [DE e e'] [DE f f'] [DE g g'] : DE (kP3 e f g) (kP3 e' f' g') := ⟨fun a b => by
  obtain ⟨a1, a2, a3⟩ := a
  obtain ⟨b1, b2, b3⟩ := b
  simp [kP3, dat, PyData.eqv, PyData.eqvAll, DE.eq]⟩
instance {o o' : Fl} {e e' : α → PV} {f f' : β → PV} [DecidableEq α] [DecidableEq β] [DE e e'] [DE f f'] : DE (kQ2 o e f) (kQ2 o' e' f') := ⟨fun a b => by
  obtain ⟨a1, a2⟩ := a
  obtain ⟨b1, b2⟩ := b
  simp [kQ2, dat, PyData.eqv, PyData.eqvAll, DE.eq]⟩
instance : Dp PV.int 0 := ⟨fun a => by simp [dat, PyData.depth], fun a => by simp [dat, PyData.canLay0]⟩
instance : Dp PV.bl 0 := ⟨fun a => by simp [dat, PyData.depth], fun a => by simp [dat, PyData.canLay0]⟩
instance : Dp kU 0 := ⟨fun a => by simp [kU, dat, PyData.depth], fun a => by simp [kU, dat, PyData.canLay0]⟩
instance : Dp kS 0 := ⟨fun a => by simp [kS, dat, PyData.depth], fun a => by simpa [kS, dat, PyData.canLay0] using a.2⟩
instance {e : α → PV} {n : Nat} [Dp e n] : Dp (kO e) n := ⟨fun a => by
  cases a with
  | none => simp [kO, dat, PyData.depth]
  | some a => exact Dp.dp a, fun a => by
  cases a with
  | none => simp [kO, dat, PyData.canLay0]
  | some a => exact Dp.cl a⟩
theorem depthAll_le {n : Nat} : ∀ (xs : List PyData), (∀ x ∈ xs, x.depth ≤ n) → PyData.depthAll xs ≤ n
  | [], _ => by simp [PyData.depthAll]
  | x :: xs, h => by
    have h1 := h x List.mem_cons_self
    have h2 := depthAll_le xs fun y hy => h y (List.mem_cons_of_mem _ hy)
    simp only [PyData.depthAll]; omega
theorem canLayAll_of : ∀ (xs : List PyData), (∀ x ∈ xs, x.canLay0 = true) → PyData.canLayAll0 xs = true
  | [], _ => by simp [PyData.canLayAll0]
  | x :: xs, h => by
    simp only [PyData.canLayAll0, h x List.mem_cons_self, canLayAll_of xs fun y hy => h y (List.mem_cons_of_mem _ hy), Bool.and_true]
theorem dp_seq {e : α → PV} {n : Nat} [Dp e n] (xs : List α) : PyData.depthAll ((xs.map e).map dat) ≤ n ∧ PyData.canLayAll0 ((xs.map e).map dat) = true :=
  ⟨depthAll_le _ fun x hx => by
    obtain ⟨y, hy, rfl⟩ := List.mem_map.mp hx
    obtain ⟨z, _, rfl⟩ := List.mem_map.mp hy
    exact Dp.dp z, canLayAll_of _ fun x hx => by
    obtain ⟨y, hy, rfl⟩ := List.mem_map.mp hx
    obtain ⟨z, _, rfl⟩ := List.mem_map.mp hy
    exact Dp.cl z⟩
instance {e : α → PV} {n : Nat} [Dp e n] : Dp (kT e) (n + 1) := ⟨fun a => by
  have := (dp_seq (e := e) a).1
  simp only [kT, dat, PyData.depth]; omega, fun a => by
  simpa only [kT, dat, PyData.canLay0] using (dp_seq (e := e) a).2⟩
instance {o : Fl} {e : α → PV} {n : Nat} [Dp e n] : Dp (kL o e) (n + 1) := ⟨fun a => by
  have := (dp_seq (e := e) a).1
  simp only [kL, dat, PyData.depth]; omega, fun a => by
  simpa only [kL, dat, PyData.canLay0] using (dp_seq (e := e) a).2⟩
instance {e : α → PV} {f : β → PV} {n m : Nat} [Dp e n] [Dp f m] : Dp (kP2 e f) (max n m + 1) := ⟨fun a => by
  have h1 := Dp.dp (e := e) a.1
  have h2 := Dp.dp (e := f) a.2
  simp only [kP2, dat, PyData.depth, PyData.depthAll, List.map_cons, List.map_nil]; omega, fun a => by
  simp only [kP2, dat, PyData.canLay0, PyData.canLayAll0, List.map_cons, List.map_nil, Dp.cl, Bool.and_true]⟩
instance {o : Fl} {e : α → PV} {f : β → PV} {n m : Nat} [Dp e n] [Dp f m] : Dp (kQ2 o e f) (max n m + 1) := ⟨fun a => by
  have h1 := Dp.dp (e := e) a.1
  have h2 := Dp.dp (e := f) a.2
  simp only [kQ2, dat, PyData.depth, PyData.depthAll, List.map_cons, List.map_nil]; omega, fun a => by
  simp only [kQ2, dat, PyData.canLay0, PyData.canLayAll0, List.map_cons, List.map_nil, Dp.cl, Bool.and_true]⟩
instance {e : α → PV} {f : β → PV} {g : γ → PV} {n m k : Nat} [Dp e n] [Dp f m] [Dp g k] : Dp (kP3 e f g) (max n (max m k) + 1) := ⟨fun a => by
  have h1 := Dp.dp (e := e) a.1
  have h2 := Dp.dp (e := f) a.2.1
  have h3 := Dp.dp (e := g) a.2.2
  simp only [kP3, dat, PyData.depth, PyData.depthAll, List.map_cons, List.map_nil]; omega, fun a => by
  simp only [kP3, dat, PyData.canLay0, PyData.canLayAll0, List.map_cons, List.map_nil, Dp.cl, Bool.and_true]⟩
theorem laid_of {e : α → PV} {n : Nat} [Dp e n] (h : n ≤ 64) (a : α) : laid (e a) = true := by
  have h1 := Dp.dp (e := e) a
  unfold laid SeqAt.shaped
  rw [Dp.cl]
  simp; omega
theorem eq_D {e e' : α → PV} {n m : Nat} [DecidableEq α] [DE e e'] [Dp e n] [Dp e' m] (hn : n ≤ 64 := by decide) (hm : m ≤ 64 := by decide) (a b : α) : oEq false (e a) (e' b) = some (.bl (decide (a = b))) := by
  unfold oEq
  rw [laid_of hn, laid_of hm, DE.eq (e := e) (e' := e')]
  simp
theorem ne_D {e e' : α → PV} {n m : Nat} [DecidableEq α] [DE e e'] [Dp e n] [Dp e' m] (hn : n ≤ 64 := by decide) (hm : m ≤ 64 := by decide) (a b : α) : oEq true (e a) (e' b) = some (.bl (!decide (a = b))) := by
  unfold oEq
  rw [laid_of hn, laid_of hm, DE.eq (e := e) (e' := e')]
  simp
class Flt (e : α → PV) : Prop where
  fl : ∀ a, flat (e a) = true
instance : Flt PV.int := ⟨fun _ => rfl⟩
instance : Flt PV.bl := ⟨fun _ => rfl⟩
instance : Flt kS := ⟨fun _ => rfl⟩
instance : Flt kU := ⟨fun _ => rfl⟩
instance {e : α → PV} [Flt e] : Flt (kO e) := ⟨fun a => by cases a with
  | none => rfl
  | some a => exact Flt.fl a⟩
theorem hasIn_map {e e' : α → PV} [DecidableEq α] [DE e e'] (x : α) : ∀ xs : List α, hasIn (xs.map e) (e' x) = decide (x ∈ xs)
  | [] => by simp [hasIn]
  | y :: ys => by
    have ih := hasIn_map (e := e) (e' := e') x ys
    unfold hasIn at ih ⊢
    rw [List.map_cons, List.any_cons, ih, DE.eq (e := e) (e' := e')]
    by_cases h : y = x
    · subst h; simp
    · have : ¬ x = y := fun z => h z.symm
      simp [h, this]
theorem flatAll {e : α → PV} [Flt e] (xs : List α) : (xs.map e).all flat = true := by
  rw [List.all_map, List.all_eq_true]; intro x _; exact Flt.fl x
theorem in_L {e e' : α → PV} {o : Fl} [DecidableEq α] [DE e e'] [Flt e] [Flt e'] (neg : Bool) (x : α) (xs : List α) : oIn neg (e' x) (kL o e xs) = some (.bl (neg != decide (x ∈ xs))) := by
  simp only [oIn, kL, flatAll, Flt.fl, hasIn_map]; simp
end
inductive Sl where
  | is (a : PV)
  | jk
  | any
def Mat : List Sl → List PV → Prop
  | [], ρ => ρ = []
  | .is a :: ps, ρ => ∃ ρ', ρ = a :: ρ' ∧ Mat ps ρ'
  | .jk :: ps, ρ => ∃ x ρ', ρ = x :: ρ' ∧ x.isIo = false ∧ Mat ps ρ'
  | .any :: ps, ρ => ∃ x ρ', ρ = x :: ρ' ∧ Mat ps ρ'
/-- the words follow the typed reading -/
def Sim {α β : Type} (E : List PV → Prop) (Q : β → α → List PV → Prop) (r : R α) (t : TX β) : Prop :=
  match t with
  | .ok b => ∃ a ρ, r = .ok a ρ ∧ Q b a ρ
  | .ex c xs => ∃ ρ, r = .exc c xs ρ ∧ E ρ
  | .no => True
def seqR (r : R Fw) (K : M Fw) : R Fw := match r with
  | .ok .nx ρ => K ρ
  | r => r
section
variable {α β γ δ σ ι : Type} {E : List PV → Prop} {Q : β → α → List PV → Prop} {Qw : β → Fw → List PV → Prop} {ρ ρ1 ρ2 : List PV} {t : TX β} {K : Hd → M α} {KT : Bool → M α} {KA : List Hd → M α} {fa fb fc : M Hd} {fs : M (List Hd)} {ta tb : M Bool} {op op' : PV → PV → Option PV} {a b c x y : PV} {h h1 h2 : Hd}
theorem Sim.no {r : R α} : Sim E Q r .no := trivial
theorem x_done {b : β} {a : α} (h : Q b a ρ) : Sim E Q (.ok a ρ) (.ok b) := ⟨a, ρ, rfl, h⟩
theorem R_bind_assoc {α β γ : Type} (r : R α) (k : α → M β) (l : β → M γ) : (r.bind k).bind l = r.bind fun a ρ => (k a ρ).bind l := by cases r <;> rfl
theorem x_fin {r : R α} (h : Sim E Q (r.bind .ok) t) : Sim E Q r t := by cases r <;> exact h
theorem x_bind {r : R γ} {Qm : δ → γ → List PV → Prop} {k : γ → M α} {m : TX δ} {T : δ → TX β} (h1 : Sim E Qm r m) (h2 : ∀ g a ρ, Qm g a ρ → Sim E Q (k a ρ) (T g)) : Sim E Q (r.bind k) (m.bind T) := by
  cases m with
  | ok g => obtain ⟨a, ρ, rfl, q⟩ := h1; exact h2 g a ρ q
  | ex c xs => obtain ⟨ρ, rfl, q⟩ := h1; exact ⟨ρ, rfl, q⟩
  | no => trivial
theorem x_ite {b : Bool} {r1 r2 : R α} {t1 t2 : TX β} (h1 : Sim E Q r1 t1) (h2 : Sim E Q r2 t2) : Sim E Q (if b = true then r1 else r2) (if b = true then t1 else t2) := by
  cases b
  · exact h2
  · exact h1
theorem x_bin (k : Sim E Q ((fa ρ).bind fun h1 ρ1 => (fb ρ1).bind fun h2 ρ2 => (ofO ρ2 (op (hv ρ2 h1) (hv ρ2 h2))).bind K) t) : Sim E Q ((eBin op fa fb ρ).bind K) t := by
  unfold eBin; rw [R_bind_assoc]; simp only [R_bind_assoc]; exact k
theorem x_fn {op : List PV → Option PV} (k : Sim E Q ((fs ρ).bind fun hs ρ1 => (ofO ρ1 (op (hs.map (hv ρ1)))).bind K) t) : Sim E Q ((eFn op fs ρ).bind K) t := by
  unfold eFn; rw [R_bind_assoc]; exact k
/-- a step that always gives c -/
theorem x_o {o : Option PV} (h : o = some c) (k : Sim E Q (K (.tm c) ρ) t) : Sim E Q ((ofO ρ o).bind K) t := by rw [h]; exact k
/-- a step that gives what m gives -/
def OS1 {γ : Type} (o : Option PV) (m : TX γ) (e : γ → PV) : Prop := ∀ g, m = .ok g → o = some (e g)
def NoEx {γ : Type} (m : TX γ) : Prop := ∀ c xs, m ≠ .ex c xs
theorem x_p {o : Option PV} {m : TX γ} {e : γ → PV} {T : γ → TX β} (h : OS1 o m e) (n : NoEx m) (k : ∀ g, m = .ok g → Sim E Q (K (.tm (e g)) ρ) (T g)) : Sim E Q ((ofO ρ o).bind K) (m.bind T) := by
  cases m with
  | ok g => rw [h g rfl]; exact k g rfl
  | ex c xs => exact absurd rfl (n c xs)
  | no => trivial
theorem x_ofB {o : Option Bool} {b : Bool} (h : o = some b) (k : Sim E Q (KT b ρ) t) : Sim E Q ((ofB ρ o).bind KT) t := by rw [h]; exact k
theorem x_tB (k : Sim E Q ((fa ρ).bind fun h ρ1 => (ofB ρ1 (blOf (hv ρ1 h))).bind KT) t) : Sim E Q ((tB fa ρ).bind KT) t := by
  unfold tB; simp only [R_bind_assoc]; exact k
theorem x_tE (k : Sim E Q ((fa ρ).bind fun h ρ1 => (ofB ρ1 (tru (hv ρ1 h))).bind KT) t) : Sim E Q ((tE fa ρ).bind KT) t := by
  unfold tE; simp only [R_bind_assoc]; exact k
theorem x_tNot (k : Sim E Q ((ta ρ).bind fun b ρ1 => KT (!b) ρ1) t) : Sim E Q ((tNot ta ρ).bind KT) t := by
  unfold tNot; simp only [R_bind_assoc]; exact k
theorem x_tAnd (k : Sim E Q ((ta ρ).bind fun b ρ1 => (if b = true then tb ρ1 else .ok false ρ1).bind KT) t) : Sim E Q ((tAnd ta tb ρ).bind KT) t := by
  unfold tAnd; simp only [R_bind_assoc]; exact k
theorem x_tOr (k : Sim E Q ((ta ρ).bind fun b ρ1 => (if b = true then .ok true ρ1 else tb ρ1).bind KT) t) : Sim E Q ((tOr ta tb ρ).bind KT) t := by
  unfold tOr; simp only [R_bind_assoc]; exact k
theorem x_tYes (k : Sim E Q (KT true ρ) t) : Sim E Q ((tYesV ρ).bind KT) t := k
theorem x_anil (k : Sim E Q (KA [] ρ) t) : Sim E Q ((aNil ρ).bind KA) t := k
theorem x_acons (k : Sim E Q ((fa ρ).bind fun h ρ1 => (fs ρ1).bind fun hs ρ2 => KA (h :: hs) ρ2) t) : Sim E Q ((aCons fa fs ρ).bind KA) t := by
  unfold aCons; simp only [R_bind_assoc]; exact k
inductive Tks : List Hd → List PV → List PV → List PV → Prop
  | nil {ρ : List PV} : Tks [] ρ [] ρ
  | tm {ρ ρ' : List PV} {a b : PV} {hs : List Hd} {as : List PV} (h : a.setFl .fz = b) (r : Tks hs ρ as ρ') : Tks (.tm a :: hs) ρ (b :: as) ρ'
  | sl {ρ ρ' : List PV} {i : Nat} {b : PV} {hs : List Hd} {as : List PV} (h : fzOf (nth ρ i) = some b) (r : Tks hs (ρ.set i b) as ρ') : Tks (.sl i :: hs) ρ (b :: as) ρ'
  | fz {ρ ρ' : List PV} {i : Nat} {hs : List Hd} {as : List PV} {b : PV} (h : FzV b) (e : nth ρ i = b) (r : Tks hs ρ as ρ') : Tks (.sl i :: hs) ρ (b :: as) ρ'
theorem Tks.ok {hs : List Hd} {ρ as ρ' : List PV} (h : Tks hs ρ as ρ') : takes hs ρ = some (as, ρ') := by
  induction h with
  | nil => rfl
  | tm h r ih => subst h; simp only [takes, take, ih]
  | sl h r ih => simp only [takes, take, h, ih]
  | fz h e r ih => subst e; simp only [takes, take, show fzOf _ = _ from h, set_nth, ih]
def kLst (hs : List Hd) : M Hd := fun ρ1 => match takes hs ρ1 with
  | some (as, ρ2) => if as.length ≤ lim then .ok (.tm (.lst .ow as)) ρ2 else .stuck
  | none => .stuck
theorem x_lst (k : Sim E Q ((fs ρ).bind fun hs ρ1 => (kLst hs ρ1).bind K) t) : Sim E Q ((eLst fs ρ).bind K) t := by
  unfold eLst; rw [R_bind_assoc]; exact k
theorem x_lstE {hs : List Hd} {as : List PV} (h : Tks hs ρ as ρ1) (hl : as.length ≤ lim) (hc : PV.lst .ow as = c) (k : Sim E Q (K (.tm c) ρ1) t) : Sim E Q ((kLst hs ρ).bind K) t := by subst hc; unfold kLst; rw [h.ok]; simp only [if_pos hl]; exact k
end
end VT
set_option Elab.async false
set_option linter.all false
set_option maxRecDepth 100000
namespace VT
open PySem PySem.Spec PyProof.Rows VL
section
variable {α β γ δ σ ι : Type} {E : List PV → Prop} {Q : β → α → List PV → Prop} {Qw : β → Fw → List PV → Prop} {ρ ρ1 ρ2 : List PV} {t : TX β} {KH : Hd → M α} {KX : List PV → M α} {K : M Fw} {fa fb fc f : M Hd} {fs : M (List Hd)} {ta tb : M Bool} {A B : M Fw} {a b c x y : PV} {h h1 h2 : Hd} {i j : Nat}
theorem s_last (k : Sim E Qw (sSeq A sNx ρ) t) : Sim E Qw (A ρ) t := by
  have : sSeq A sNx ρ = A ρ := by
    unfold sSeq
    cases A ρ with
    | ok a ρ => cases a <;> rfl
    | _ => rfl
  rw [this] at k; exact k
theorem s_assoc {C : M Fw} (k : Sim E Qw (sSeq A (sSeq B C) ρ) t) : Sim E Qw (sSeq (sSeq A B) C ρ) t := by
  have : sSeq (sSeq A B) C ρ = sSeq A (sSeq B C) ρ := by
    unfold sSeq
    cases A ρ with
    | ok a ρ => cases a <;> rfl
    | _ => rfl
  rw [this]; exact k
theorem s_nx (k : Sim E Qw (K ρ) t) : Sim E Qw (sSeq sNx K ρ) t := k
theorem seqR_bind {r : R γ} {k : γ → M Fw} : seqR (r.bind k) K = r.bind fun a ρ => seqR (k a ρ) K := by cases r <;> rfl
def kSet (i : Nat) (K : M Fw) (h : Hd) : M Fw := fun ρ => match keep h ρ with
  | some (a, ρ1) => (match setAt i a ρ1 with
    | some ρ2 => K ρ2
    | none => .stuck)
  | none => .stuck
theorem s_set (k : Sim E Qw ((f ρ).bind (kSet i K)) t) : Sim E Qw (sSeq (sSet i f) K ρ) t := by
  have : sSeq (sSet i f) K ρ = (f ρ).bind (kSet i K) := by
    unfold sSeq sSet
    cases f ρ with
    | ok h ρ1 =>
      simp only [R.bind_ok, kSet]
      cases keep h ρ1 with
      | none => rfl
      | some p =>
        obtain ⟨a, ρ2⟩ := p
        simp only
        cases setAt i a ρ2 <;> rfl
    | _ => rfl
  rw [this]; exact k
theorem x_set_tm (hi : (nth ρ i).isIo = false) (ha : a.isIo = false) (k : Sim E Qw (K (ρ.set i a)) t) : Sim E Qw (kSet i K (.tm a) ρ) t := by
  simp only [kSet, keep, setAt, hi, ha, Bool.or_self, Bool.false_eq_true, if_false]; exact k
theorem x_set_sl (hf : fzOf (nth ρ j) = some a) (hi : (nth (ρ.set j a) i).isIo = false) (k : Sim E Qw (K ((ρ.set j a).set i a)) t) : Sim E Qw (kSet i K (.sl j) ρ) t := by
  have ha := (fzOf_eq hf).2.2.2.1
  simp only [kSet, keep, take, hf, setAt, hi, ha, Bool.or_self, Bool.false_eq_true, if_false]; exact k
theorem s_E (k : Sim E Qw ((f ρ).bind fun _ ρ1 => K ρ1) t) : Sim E Qw (sSeq (sE f) K ρ) t := by
  have : sSeq (sE f) K ρ = (f ρ).bind fun _ ρ1 => K ρ1 := by unfold sSeq sE; cases f ρ <;> rfl
  rw [this]; exact k
def kRet (h : Hd) : M Fw := fun ρ => match h with
  | .tm a => .ok (.rt a) ρ
  | .sl j => if (nth ρ j).isIo = true then .stuck else .ok (.rt (nth ρ j)) (ρ.set j .emp)
theorem s_ret (k : Sim E Qw ((f ρ).bind kRet) t) : Sim E Qw (sSeq (sRet f) K ρ) t := by
  have : sSeq (sRet f) K ρ = (f ρ).bind kRet := by
    unfold sSeq sRet
    cases f ρ with
    | ok h ρ1 =>
      simp only [R.bind_ok, kRet]
      cases h with
      | tm a => rfl
      | sl j => by_cases hc : (nth ρ1 j).isIo = true <;> simp [hc]
    | _ => rfl
  rw [this]; exact k
theorem s_if (k : Sim E Qw ((ta ρ).bind fun b ρ1 => if b = true then sSeq A K ρ1 else sSeq B K ρ1) t) : Sim E Qw (sSeq (sIf ta A B) K ρ) t := by
  have : sSeq (sIf ta A B) K ρ = (ta ρ).bind fun b ρ1 => if b = true then sSeq A K ρ1 else sSeq B K ρ1 := by
    unfold sSeq sIf
    cases ta ρ with
    | ok b ρ1 => cases b <;> rfl
    | _ => rfl
  rw [this]; exact k
def jnQ (P : σ → List Sl) (s : σ) (a : Fw) (ρ : List PV) : Prop := a = .nx ∧ Mat (P s) ρ
def lpQ (P : σ → List Sl) (s : σ) (a : Fw) (ρ : List PV) : Prop := (a = .nx ∨ a = .ct) ∧ Mat (P s) ρ
def goQ (P : σ → List Sl) (rq : β → PV → List PV → Prop) (g : Go σ β) (a : Fw) (ρ : List PV) : Prop := match g with
  | .nx s => (a = .nx ∨ a = .ct) ∧ Mat (P s) ρ
  | .bk s => a = .bk ∧ Mat (P s) ρ
  | .rt b => ∃ v, a = .rt v ∧ rq b v ρ
def jgQ (P : σ → List Sl) (rq : β → PV → List PV → Prop) (g : Go σ β) (a : Fw) (ρ : List PV) : Prop := match g with
  | .nx s => a = .nx ∧ Mat (P s) ρ
  | .bk _ => False
  | .rt b => ∃ v, a = .rt v ∧ rq b v ρ
def fnQ (rq : β → PV → List PV → Prop) (b : β) (a : Fw) (ρ : List PV) : Prop := ∃ v, (a = .rt v ∨ (a = .nx ∧ v = .non)) ∧ rq b v ρ
theorem s_join {P : σ → List Sl} {m : TX σ} {T : σ → TX β} (h1 : Sim E (jnQ P) (A ρ) m) (h2 : ∀ s ρ1, Mat (P s) ρ1 → Sim E Qw (K ρ1) (T s)) : Sim E Qw (sSeq A K ρ) (m.bind T) := by
  unfold sSeq
  cases m with
  | ok s => obtain ⟨a, ρ1, e, rfl, q⟩ := h1; rw [e]; exact h2 s ρ1 q
  | ex c xs => obtain ⟨ρ1, e, q⟩ := h1; rw [e]; exact ⟨ρ1, rfl, q⟩
  | no => trivial
theorem s_joinG {P : σ → List Sl} {rq : γ → PV → List PV → Prop} {m : TX (Go σ γ)} {f0 : σ → TX β} {r0 : γ → TX β} (h1 : Sim E (jgQ P rq) (A ρ) m) (h2 : ∀ s ρ1, Mat (P s) ρ1 → Sim E Qw (K ρ1) (f0 s)) (h3 : ∀ b v ρ1, rq b v ρ1 → Sim E Qw (.ok (.rt v) ρ1) (r0 b)) : Sim E Qw (sSeq A K ρ) (m.bind (Go.elim f0 r0)) := by
  unfold sSeq
  cases m with
  | ok g =>
    obtain ⟨a, ρ1, e, q⟩ := h1
    rw [e]
    cases g with
    | nx s => obtain ⟨rfl, q⟩ := q; exact h2 s ρ1 q
    | bk s => exact q.elim
    | rt b => obtain ⟨v, rfl, q⟩ := q; exact h3 b v ρ1 q
  | ex c xs => obtain ⟨ρ1, e, q⟩ := h1; rw [e]; exact ⟨ρ1, rfl, q⟩
  | no => trivial
theorem fn_ret {rq : β → PV → List PV → Prop} {b : β} {v : PV} (h : rq b v ρ) : Sim E (fnQ rq) (.ok (.rt v) ρ) (.ok b) := x_done ⟨v, .inl rfl, h⟩
theorem go_ret {P : σ → List Sl} {rq : β → PV → List PV → Prop} {b : β} {v : PV} (h : rq b v ρ) : Sim E (goQ P rq) (.ok (.rt v) ρ) (.ok (.rt b)) := x_done ⟨v, rfl, h⟩
theorem jg_ret {P : σ → List Sl} {rq : β → PV → List PV → Prop} {b : β} {v : PV} (h : rq b v ρ) : Sim E (jgQ P rq) (.ok (.rt v) ρ) (.ok (.rt b)) := x_done ⟨v, rfl, h⟩
def tgF (t : Tg) (f : M Fw) (x : PV) : M Fw := fun ρ => match t x ρ with
  | some ρ1 => f ρ1
  | none => .stuck
theorem x_tg {tg : Tg} {g : M Fw} (h : tg x ρ = some ρ1) (k : Sim E Qw (g ρ1) t) : Sim E Qw (tgF tg g x ρ) t := by unfold tgF; rw [h]; exact k
theorem tg_N (hi : (nth ρ i).isIo = false) (hx : x.isIo = false) : gN i x ρ = some (ρ.set i x) := by
  show (if ((nth ρ i).isIo || x.isIo) = true then none else some (ρ.set i x)) = _
  rw [hi, hx]; rfl
theorem loop_fold {P : σ → List Sl} {e : ι → PV} {tg : Tg} {g : M Fw} {bd : σ → ι → TX σ} : ∀ {L : List ι} (body : ∀ s x ρ, x ∈ L → Mat (P s) ρ → Sim E (lpQ P) (tgF tg g (e x) ρ) (bd s x)) {s : σ} {ρ : List PV}, Mat (P s) ρ → Sim E (jnQ P) (loop tg g (L.map e) ρ) (tfold L s bd)
  | [], _, s, ρ, h => ⟨.nx, ρ, rfl, rfl, h⟩
  | x :: L, body, s, ρ, h => by
    have b := body s x ρ List.mem_cons_self h
    simp only [List.map_cons, loop, tfold]
    unfold tgF at b
    cases eb : bd s x with
    | no => trivial
    | ex c xs =>
      rw [eb] at b
      obtain ⟨ρ1, e1, q⟩ := b
      cases et : tg (e x) ρ with
      | none => rw [et] at e1; cases e1
      | some ρ2 => rw [et] at e1; simp only at e1 ⊢; rw [e1]; exact ⟨ρ1, rfl, q⟩
    | ok s1 =>
      rw [eb] at b
      obtain ⟨a, ρ1, e1, q1, q2⟩ := b
      cases et : tg (e x) ρ with
      | none => rw [et] at e1; cases e1
      | some ρ2 =>
        rw [et] at e1
        simp only at e1 ⊢
        rw [e1]
        have := loop_fold (L := L) (fun s y ρ hy hM => body s y ρ (List.mem_cons_of_mem _ hy) hM) q2
        rcases q1 with rfl | rfl <;> exact this
theorem loop_for {P : σ → List Sl} {rq : γ → PV → List PV → Prop} {e : ι → PV} {tg : Tg} {g : M Fw} {bd : σ → ι → TX (Go σ γ)} : ∀ {L : List ι} (body : ∀ s x ρ, x ∈ L → Mat (P s) ρ → Sim E (goQ P rq) (tgF tg g (e x) ρ) (bd s x)) {s : σ} {ρ : List PV}, Mat (P s) ρ → Sim E (jgQ P rq) (loop tg g (L.map e) ρ) (tfor L s bd)
  | [], _, s, ρ, h => ⟨.nx, ρ, rfl, rfl, h⟩
  | x :: L, body, s, ρ, h => by
    have b := body s x ρ List.mem_cons_self h
    simp only [List.map_cons, loop, tfor]
    unfold tgF at b
    cases eb : bd s x with
    | no => trivial
    | ex c xs =>
      rw [eb] at b
      obtain ⟨ρ1, e1, q⟩ := b
      cases et : tg (e x) ρ with
      | none => rw [et] at e1; cases e1
      | some ρ2 => rw [et] at e1; simp only at e1 ⊢; rw [e1]; exact ⟨ρ1, rfl, q⟩
    | ok s1 =>
      rw [eb] at b
      obtain ⟨a, ρ1, e1, q1⟩ := b
      cases et : tg (e x) ρ with
      | none => rw [et] at e1; cases e1
      | some ρ2 =>
        rw [et] at e1
        simp only at e1 ⊢
        rw [e1]
        cases s1 with
        | nx s1 =>
          obtain ⟨q1, q2⟩ := q1
          have := loop_for (L := L) (fun s y ρ hy hM => body s y ρ (List.mem_cons_of_mem _ hy) hM) q2
          rcases q1 with rfl | rfl <;> exact this
        | bk s1 => obtain ⟨rfl, q2⟩ := q1; exact ⟨.nx, ρ1, rfl, rfl, q2⟩
        | rt b => obtain ⟨v, rfl, q2⟩ := q1; exact ⟨.rt v, ρ1, rfl, v, rfl, q2⟩
theorem r_join {P : σ → List Sl} {m : TX σ} {T : σ → TX β} {r : R Fw} (h1 : Sim E (jnQ P) r m) (h2 : ∀ s ρ1, Mat (P s) ρ1 → Sim E Qw (K ρ1) (T s)) : Sim E Qw (seqR r K) (m.bind T) := s_join (A := fun _ => r) (ρ := []) h1 h2
theorem r_joinG {P : σ → List Sl} {rq : γ → PV → List PV → Prop} {m : TX (Go σ γ)} {f0 : σ → TX β} {r0 : γ → TX β} {r : R Fw} (h1 : Sim E (jgQ P rq) r m) (h2 : ∀ s ρ1, Mat (P s) ρ1 → Sim E Qw (K ρ1) (f0 s)) (h3 : ∀ b v ρ1, rq b v ρ1 → Sim E Qw (.ok (.rt v) ρ1) (r0 b)) : Sim E Qw (seqR r K) (m.bind (Go.elim f0 r0)) := s_joinG (A := fun _ => r) (ρ := []) h1 h2 h3
/-- a for in its place -/
theorem x_fold {P : σ → List Sl} {e : ι → PV} {tg : Tg} {g : M Fw} {bd : σ → ι → TX σ} {L : List ι} {s : σ} {T : σ → TX β} (h0 : Mat (P s) ρ) (body : ∀ s x ρ, x ∈ L → Mat (P s) ρ → Sim E (lpQ P) (tgF tg g (e x) ρ) (bd s x)) (h2 : ∀ s ρ1, Mat (P s) ρ1 → Sim E Qw (K ρ1) (T s)) : Sim E Qw (seqR (loop tg g (L.map e) ρ) K) ((tfold L s bd).bind T) := r_join (loop_fold body h0) h2
theorem x_for {P : σ → List Sl} {rq : γ → PV → List PV → Prop} {e : ι → PV} {tg : Tg} {g : M Fw} {bd : σ → ι → TX (Go σ γ)} {L : List ι} {s : σ} {f0 : σ → TX β} {r0 : γ → TX β} (h0 : Mat (P s) ρ) (body : ∀ s x ρ, x ∈ L → Mat (P s) ρ → Sim E (goQ P rq) (tgF tg g (e x) ρ) (bd s x)) (h2 : ∀ s ρ1, Mat (P s) ρ1 → Sim E Qw (K ρ1) (f0 s)) (h3 : ∀ b v ρ1, rq b v ρ1 → Sim E Qw (.ok (.rt v) ρ1) (r0 b)) : Sim E Qw (seqR (loop tg g (L.map e) ρ) K) ((tfor L s bd).bind (Go.elim f0 r0)) := r_joinG (loop_for body h0) h2 h3
theorem s_for {fi : M (List PV)} {tg : Tg} {g : M Fw} (k : Sim E Qw ((fi ρ).bind fun xs ρ1 => seqR (loop tg g xs ρ1) K) t) : Sim E Qw (sSeq (sFor fi tg g) K ρ) t := by
  have : sSeq (sFor fi tg g) K ρ = (fi ρ).bind fun xs ρ1 => seqR (loop tg g xs ρ1) K := by
    show seqR ((fi ρ).bind fun xs ρ1 => loop tg g xs ρ1) K = _
    rw [seqR_bind]
  rw [this]; exact k
def kIt (h : Hd) : M (List PV) := fun ρ1 => match take ρ1 h with
  | some (a, ρ2) => ofX ρ2 (seqOf a)
  | none => .stuck
theorem x_iSeq (k : Sim E Q ((f ρ).bind fun h ρ1 => (kIt h ρ1).bind KX) t) : Sim E Q ((iSeq f ρ).bind KX) t := by
  have : (iSeq f ρ).bind KX = (f ρ).bind fun h ρ1 => (kIt h ρ1).bind KX := by unfold iSeq; rw [R_bind_assoc]; rfl
  rw [this]; exact k
theorem x_it_tm {xs : List PV} (hs : seqOf (a.setFl .fz) = some xs) (k : Sim E Q (KX xs ρ) t) : Sim E Q ((kIt (.tm a) ρ).bind KX) t := by
  simp only [kIt, take, hs, ofX, R.bind_ok]; exact k
theorem x_it_sl {xs : List PV} (hf : fzOf (nth ρ i) = some a) (hs : seqOf a = some xs) (k : Sim E Q (KX xs (ρ.set i a)) t) : Sim E Q ((kIt (.sl i) ρ).bind KX) t := by
  simp only [kIt, take, hf, hs, ofX, R.bind_ok]; exact k
theorem x_it_fz {xs : List PV} (hf : FzV a) (e : nth ρ i = a) (hs : seqOf a = some xs) (k : Sim E Q (KX xs ρ) t) : Sim E Q ((kIt (.sl i) ρ).bind KX) t := by
  subst e
  exact x_it_sl (show fzOf _ = some _ from hf) hs (by rw [set_nth]; exact k)
theorem rgL_map (a b : Int) : rgL a b = (rgI a b).map PV.int := by simp [rgL, rgI]
def kRg1 (hs : List Hd) : M (List PV) := fun ρ1 => match hs.map (hv ρ1) with
    | [.int n] => ofX ρ1 (oRg 0 n)
    | _ => .stuck
def kRg2 (hs : List Hd) : M (List PV) := fun ρ1 => match hs.map (hv ρ1) with
    | [.int a, .int b] => ofX ρ1 (oRg a b)
    | _ => .stuck
def kERg (tup : Bool) (h : Hd) : M Hd := fun ρ1 => match hv ρ1 h with
  | .int n => (match oRg 0 n with | some xs => .ok (.tm (if tup = true then .tup xs else .lst .ow xs)) ρ1 | none => .stuck)
  | _ => .stuck
theorem x_iRg1 (k : Sim E Q ((fs ρ).bind fun hs ρ1 => (kRg1 hs ρ1).bind KX) t) : Sim E Q ((iRg1 fs ρ).bind KX) t := by
  unfold iRg1; rw [R_bind_assoc]; exact k
theorem x_iRg2 (k : Sim E Q ((fs ρ).bind fun hs ρ1 => (kRg2 hs ρ1).bind KX) t) : Sim E Q ((iRg2 fs ρ).bind KX) t := by
  unfold iRg2; rw [R_bind_assoc]; exact k
theorem x_rg1E {n : Int} {T : List Int → TX β} (hn : hv ρ h = .int n) (k : Sim E Q (KX ((rgI 0 n).map PV.int) ρ) (T (rgI 0 n))) : Sim E Q ((kRg1 [h] ρ).bind KX) ((trg 0 n).bind T) := by
  unfold trg
  by_cases hc : Int.natAbs 0 ≤ lim ∧ Int.natAbs n ≤ lim
  · rw [if_pos hc]
    simp only [kRg1, kRg2, kERg, List.map_cons, List.map_nil, hn, oRg, if_pos hc, ofX, R.bind_ok, TX.bind_ok, rgL_map]; exact k
  · rw [if_neg hc]; trivial
theorem x_rg2E {n m : Int} {T : List Int → TX β} (hn : hv ρ h1 = .int n) (hm : hv ρ h2 = .int m) (k : Sim E Q (KX ((rgI n m).map PV.int) ρ) (T (rgI n m))) : Sim E Q ((kRg2 [h1, h2] ρ).bind KX) ((trg n m).bind T) := by
  unfold trg
  by_cases hc : Int.natAbs n ≤ lim ∧ Int.natAbs m ≤ lim
  · rw [if_pos hc]
    simp only [kRg1, kRg2, kERg, List.map_cons, List.map_nil, hn, hm, oRg, if_pos hc, ofX, R.bind_ok, TX.bind_ok, rgL_map]; exact k
  · rw [if_neg hc]; trivial
/-- list(range(n)) -/
theorem x_eRg1 {tup : Bool} (k : Sim E Q ((fa ρ).bind fun h ρ1 => (kERg tup h ρ1).bind KH) t) : Sim E Q ((eRg1 tup fa ρ).bind KH) t := by
  unfold eRg1; rw [R_bind_assoc]; exact k
theorem x_eRg1E {tup : Bool} {n : Int} {T : List Int → TX β} {e : List Int → PV} (hn : hv ρ h = .int n) (he : ∀ xs, (if tup = true then kT PV.int xs else kL .ow PV.int xs) = e xs) (k : ∀ xs, Sim E Q (KH (.tm (e xs)) ρ) (T xs)) : Sim E Q ((kERg tup h ρ).bind KH) ((trg 0 n).bind T) := by
  unfold trg
  by_cases hc : Int.natAbs 0 ≤ lim ∧ Int.natAbs n ≤ lim
  · rw [if_pos hc]
    have := k (rgI 0 n); rw [← he] at this; simp only [kERg, hn, oRg, if_pos hc, R.bind_ok, TX.bind_ok, rgL_map]; exact this
  · rw [if_neg hc]; trivial
def ioF (o : Fl) : Fl := match o with
  | .fz => .fz
  | _ => .io
theorem ioF_or (o : Fl) : ioF o = .io ∨ ioF o = .fz := by cases o <;> simp [ioF]
theorem forN_fz {tg : Tg} {g : M Fw} {xs : List PV} (e : nth ρ j = .lst .fz xs) (k : Sim E Qw (seqR (loop tg g xs ρ) K) t) : Sim E Qw (sSeq (sForN j tg g) K ρ) t := by
  have hf : sForN j tg g ρ = loop tg g xs ρ := by
    have ne : eN j ρ = .ok (.sl j) ρ := by unfold eN; rw [e]; rfl
    unfold sForN
    rw [e]
    show sFor (iSeq (eN j)) tg g ρ = _
    unfold sFor iSeq
    rw [ne]
    simp only [R.bind_ok, take, e, fzOf, seqOf, ofX]
    have := set_nth (ρ := ρ) (i := j)
    rw [e] at this
    rw [this]
  show Sim E Qw (seqR (sForN j tg g ρ) K) t
  rw [hf]; exact k
/-- the walk by places follows the typed one -/
theorem loopJ_for {P : σ → List Sl} {rq : γ → PV → List PV → Prop} {w : Nat → PV → PV} {ys : List PV} {e : ι → PV} {tg : Tg} {g : M Fw} {bd : σ → ι → TX (Go σ γ)} {L : List ι} (hL : ∀ i y, ys[i]? = some y → ∃ x, L[i]? = some x ∧ w i y = e x) (hlen : ys.length = L.length)
    (inv : ∀ s ρ, Mat (P s) ρ → nth ρ j = .lst .io ys) (body : ∀ s x ρ, x ∈ L → Mat (P s) ρ → Sim E (goQ P rq) (tgF tg g (e x) ρ) (bd s x)) :
    ∀ (m : Nat) (s : σ) (ρ : List PV), m ≤ ys.length → Mat (P s) ρ → Sim E (jgQ P rq) (loopJ w j ys.length tg g m ρ) (tfor (L.drop (ys.length - m)) s bd)
  | 0, s, ρ, _, h => by
    rw [Nat.sub_zero, List.drop_eq_nil_of_le (show L.length ≤ ys.length by omega)]
    have := inv s ρ h
    have ok : okAt j ys.length ρ = true := by unfold okAt; rw [this]; simp
    simp only [loopJ, if_pos ok]
    exact ⟨.nx, ρ, rfl, rfl, h⟩
  | m + 1, s, ρ, hm, h => by
    have hi : ys.length - (m + 1) < ys.length := by omega
    obtain ⟨x, hx, hw⟩ := hL (ys.length - (m + 1)) _ (List.getElem?_eq_getElem hi)
    have hx' : ys.length - (m + 1) < L.length := by omega
    have hd : L.drop (ys.length - (m + 1)) = x :: L.drop (ys.length - m) := by
      rw [List.drop_eq_getElem_cons hx', show ys.length - (m + 1) + 1 = ys.length - m from by omega]
      rw [List.getElem?_eq_getElem hx'] at hx
      cases hx; rfl
    rw [hd]
    have hj := inv s ρ h
    have b := body s x ρ (List.mem_of_getElem? hx) h
    simp only [loopJ, nowAt, hj, if_true, List.getElem?_eq_getElem hi, hw, tfor]
    unfold tgF at b
    cases eb : bd s x with
    | no => trivial
    | ex c xs =>
      rw [eb] at b
      obtain ⟨ρ1, e1, q⟩ := b
      cases et : tg (e x) ρ with
      | none => rw [et] at e1; cases e1
      | some ρ2 => rw [et] at e1; simp only at e1 ⊢; rw [e1]; exact ⟨ρ1, rfl, q⟩
    | ok s1 =>
      rw [eb] at b
      obtain ⟨a, ρ1, e1, q1⟩ := b
      cases et : tg (e x) ρ with
      | none => rw [et] at e1; cases e1
      | some ρ2 =>
        rw [et] at e1
        simp only at e1 ⊢
        rw [e1]
        cases s1 with
        | nx s1 =>
          obtain ⟨q1, q2⟩ := q1
          have := loopJ_for hL hlen inv body m s1 ρ1 (by omega) q2
          rcases q1 with rfl | rfl <;> exact this
        | bk s1 => obtain ⟨rfl, q2⟩ := q1; exact ⟨.nx, ρ1, rfl, rfl, q2⟩
        | rt b => obtain ⟨v, rfl, q2⟩ := q1; exact ⟨.rt v, ρ1, rfl, v, rfl, q2⟩
theorem get_map {e : ι → PV} {L : List ι} {i : Nat} {y : PV} (h : (L.map e)[i]? = some y) : ∃ x, L[i]? = some x ∧ wId i y = e x := by
  rw [List.getElem?_map] at h
  obtain ⟨x, hx, rfl⟩ := Option.map_eq_some_iff.mp h
  exact ⟨x, hx, rfl⟩
theorem forN_for {P : σ → List Sl} {rq : γ → PV → List PV → Prop} {e : ι → PV} {tg : Tg} {g : M Fw} {bd : σ → ι → TX (Go σ γ)} {L : List ι} {s : σ} {f0 : σ → TX β} {r0 : γ → TX β} {w : Fl} (hw : w = .io ∨ w = .fz) (e1 : nth ρ j = kL w e L) (inv : ∀ s ρ, Mat (P s) ρ → nth ρ j = kL w e L) (h0 : Mat (P s) ρ) (body : ∀ s x ρ, x ∈ L → Mat (P s) ρ → Sim E (goQ P rq) (tgF tg g (e x) ρ) (bd s x)) (h2 : ∀ s ρ1, Mat (P s) ρ1 → Sim E Qw (K ρ1) (f0 s)) (h3 : ∀ b v ρ1, rq b v ρ1 → Sim E Qw (.ok (.rt v) ρ1) (r0 b)) : Sim E Qw (sSeq (sForN j tg g) K ρ) ((tfor L s bd).bind (Go.elim f0 r0)) := by
  rcases hw with rfl | rfl
  · refine s_joinG (P := P) ?_ h2 h3
    have := loopJ_for (E := E) (w := wId) (ys := L.map e) (L := L) (tg := tg) (g := g) (rq := rq) (fun i y h => get_map h) (by simp) inv body (L.map e).length s ρ (Nat.le_refl _) h0
    rw [Nat.sub_self, List.drop_zero] at this
    unfold sForN
    rw [e1]
    exact this
  · exact forN_fz e1 (x_for h0 body h2 h3)
end
end VT
set_option Elab.async false
set_option linter.all false
set_option maxRecDepth 100000
namespace VT
open PySem PySem.Spec PyProof.Rows VL
/-- what raises within a comprehension is not read -/
def nox {α : Type} : TX α → TX α
  | .ok a => .ok a
  | _ => .no
@[simp] theorem nox_ok {α : Type} (a : α) : nox (.ok a) = .ok a := rfl
/-- a comprehension without a state -/
def tlcP {α β : Type} (L : List α) (b : α → TX (Option β)) : TX (List β) := (tlc [] L () fun _ x => (nox (b x)).bind fun o => .ok (o, ())).bind fun r => .ok r.1
def tlcS {α β σ : Type} (L : List α) (s : σ) (b : σ → α → TX (Option β × σ)) : TX (List β × σ) := tlc [] L s fun s x => nox (b s x)
theorem Ok.nox {α : Type} {t : TX α} {Q : α → Prop} (h : Ok t Q) : Ok (VT.nox t) Q := by
  obtain ⟨a, e, q⟩ := h; exact ⟨a, by rw [e]; rfl, q⟩
section
variable {α β γ δ σ ι : Type} {E : List PV → Prop} {Q : β → α → List PV → Prop} {Qw : β → Fw → List PV → Prop} {ρ ρ1 ρ2 : List PV} {t : TX β} {KH : Hd → M α} {KX : List PV → M α} {K : M Fw} {fa fb fc fe f fo fi fv : M Hd} {fs : M (List Hd)} {ta tb tt : M Bool} {A B : M Fw} {a b c x y : PV} {h h0 h1 h2 : Hd} {i j : Nat} {tg : Tg} {own : List Nat}
/-- one turn -/
def lcb (tg : Tg) (tt : M Bool) (fe : M Hd) (x : PV) : M (Option PV) := fun ρ => match tg x ρ with
  | some ρ1 => (tt ρ1).bind fun b ρ2 => if b = true then (fe ρ2).bind fun h ρ3 => (match take ρ3 h with
    | some (a, ρ4) => .ok (some a) ρ4
    | none => .stuck) else .ok none ρ2
  | none => .stuck
def lcQ (P : σ → List Sl) (e : γ → PV) (own : List Nat) (r : Option γ × σ) (o : Option PV) (ρ : List PV) : Prop := o = r.1.map e ∧ Mat (P r.2) (wipeQ ρ own)
theorem lcl_sim {P : σ → List Sl} {e : ι → PV} {e' : γ → PV} {bd : σ → ι → TX (Option γ × σ)} : ∀ {L : List ι} (body : ∀ s x ρ, x ∈ L → Mat (P s) ρ → Sim (fun _ => True) (lcQ P e' own) (lcb tg tt fe (e x) ρ) (bd s x)) {s : σ} {acc : List γ} {ρ : List PV}, Mat (P s) ρ →
    Sim (fun _ => True) (fun r ys ρ => ys = r.1.map e' ∧ Mat (P r.2) ρ) (lcl tg tt fe own (L.map e) (acc.map e') ρ) (tlc acc L s fun s x => nox (bd s x))
  | [], _, s, acc, ρ, h => ⟨_, ρ, rfl, rfl, h⟩
  | x :: L, body, s, acc, ρ, h => by
    have b := body s x ρ List.mem_cons_self h
    simp only [List.map_cons, lcl, tlc]
    cases eb : bd s x with
    | no => trivial
    | ex c xs => trivial
    | ok r =>
      rw [eb] at b
      obtain ⟨o, ρ1, e1, q1, q2⟩ := b
      subst q1
      unfold lcb at e1
      simp only [nox_ok, TX.bind_ok]
      cases et : tg (e x) ρ with
      | none => rw [et] at e1; cases e1
      | some ρ2 =>
        rw [et] at e1
        simp only at e1 ⊢
        cases ett : tt ρ2 with
        | stuck => rw [ett] at e1; cases e1
        | exc _ _ _ => rw [ett] at e1; cases e1
        | ok b ρ3 =>
          rw [ett] at e1
          simp only [R.bind_ok] at e1
          cases b with
          | false =>
            simp only [Bool.false_eq_true, if_false, R.ok.injEq] at e1
            obtain ⟨e1, rfl⟩ := e1
            obtain ⟨r1, s1⟩ := r
            cases r1 with
            | some _ => cases e1
            | none => exact lcl_sim (L := L) (fun s y ρ hy hM => body s y ρ (List.mem_cons_of_mem _ hy) hM) q2
          | true =>
            simp only [if_true] at e1
            cases ef : fe ρ3 with
            | stuck => rw [ef] at e1; cases e1
            | exc _ _ _ => rw [ef] at e1; cases e1
            | ok h ρ4 =>
              rw [ef] at e1
              simp only [R.bind_ok] at e1
              cases etk : take ρ4 h with
              | none => rw [etk] at e1; cases e1
              | some p =>
                obtain ⟨a, ρ5⟩ := p
                rw [etk] at e1
                simp only [R.ok.injEq] at e1
                obtain ⟨e1, rfl⟩ := e1
                obtain ⟨r1, s1⟩ := r
                cases r1 with
                | none => cases e1
                | some y =>
                  simp only [Option.map_some, Option.some.injEq] at e1
                  subst e1
                  simp only [ef, etk, List.length_map]
                  by_cases hc : acc.length < lim
                  · simp only [if_pos hc]
                    have := lcl_sim (L := L) (acc := acc ++ [y]) (fun s y ρ hy hM => body s y ρ (List.mem_cons_of_mem _ hy) hM) q2
                    rw [List.map_append] at this
                    exact this
                  · simp only [if_neg hc]; trivial
def kLc (tg : Tg) (tt : M Bool) (fe : M Hd) (own : List Nat) (xs : List PV) : M Hd := fun ρ1 => match lcl tg tt fe own xs [] (wipeQ ρ1 own) with
  | .ok ys ρ2 => .ok (.tm (.lst .ow ys)) (restP ρ2 ρ1 own)
  | _ => .stuck
theorem x_lc {fi : M (List PV)} (k : Sim E Q ((fi ρ).bind fun xs ρ1 => (kLc tg tt fe own xs ρ1).bind KH) t) : Sim E Q ((eLc fi tg tt fe own ρ).bind KH) t := by
  unfold eLc; rw [R_bind_assoc]; exact k
theorem x_lcS {P : σ → List Sl} {e : ι → PV} {e' : γ → PV} {bd : σ → ι → TX (Option γ × σ)} {L : List ι} {s : σ} {T : List γ × σ → TX β} (h0 : Mat (P s) (wipeQ ρ own)) (body : ∀ s x ρ, x ∈ L → Mat (P s) ρ → Sim (fun _ => True) (lcQ P e' own) (lcb tg tt fe (e x) ρ) (bd s x))
    (k : ∀ ys s ρ2 ρ3, Mat (P s) ρ2 → restP ρ2 ρ own = ρ3 → Sim E Q (KH (.tm (kL .ow e' ys)) ρ3) (T (ys, s))) : Sim E Q ((kLc tg tt fe own (L.map e) ρ).bind KH) ((tlcS L s bd).bind T) := by
  have := lcl_sim (e' := e') (acc := []) body h0
  unfold tlcS
  cases et : tlc [] L s fun s x => nox (bd s x) with
  | no => trivial
  | ex c xs =>
    exfalso
    clear this k h0 body
    revert et
    generalize ([] : List γ) = acc
    intro et
    induction L generalizing acc s with
    | nil => cases et
    | cons x L ih =>
      unfold tlc at et
      cases eb : bd s x with
      | ok r =>
        rw [eb] at et
        obtain ⟨o, s1⟩ := r
        cases o with
        | none => exact ih _ et
        | some y =>
          simp only [nox_ok, TX.bind_ok] at et
          split at et
          · exact ih _ et
          · cases et
      | ex _ _ => rw [eb] at et; cases et
      | no => rw [eb] at et; cases et
  | ok r =>
    rw [et] at this
    obtain ⟨ys, ρ2, e1, e2, q⟩ := this
    simp only [List.map_nil] at e1
    unfold kLc
    rw [e1]
    subst e2
    exact k r.1 r.2 ρ2 _ q rfl
def lcQ0 (P : List Sl) (e : γ → PV) (own : List Nat) (r : Option γ) (o : Option PV) (ρ : List PV) : Prop := o = r.map e ∧ Mat P (wipeQ ρ own)
theorem x_lcP {P : List Sl} {e : ι → PV} {e' : γ → PV} {bd : ι → TX (Option γ)} {L : List ι} {T : List γ → TX β} (h0 : Mat P (wipeQ ρ own)) (body : ∀ x ρ, x ∈ L → Mat P ρ → Sim (fun _ => True) (lcQ0 P e' own) (lcb tg tt fe (e x) ρ) (bd x))
    (k : ∀ ys ρ2 ρ3, Mat P ρ2 → restP ρ2 ρ own = ρ3 → Sim E Q (KH (.tm (kL .ow e' ys)) ρ3) (T ys)) : Sim E Q ((kLc tg tt fe own (L.map e) ρ).bind KH) ((tlcP L bd).bind T) := by
  have := x_lcS (E := E) (Q := Q) (KH := KH) (P := fun _ : Unit => P) (e := e) (e' := e') (bd := fun _ x => (bd x).bind fun o => .ok (o, ())) (L := L) (s := ()) (T := fun r => T r.1) (tg := tg) (tt := tt) (fe := fe) h0 (fun s x ρ hx hM => by
    have b := body x ρ hx hM
    cases eb : bd x with
    | ok o => rw [eb] at b; obtain ⟨a, ρ1, e1, q⟩ := b; exact ⟨a, ρ1, e1, q⟩
    | ex c xs => rw [eb] at b; exact b
    | no => trivial) (fun ys s ρ2 ρ3 q e => k ys ρ2 ρ3 q e)
  have e2 : (tlcS L () fun (_ : Unit) x => (bd x).bind fun o => .ok (o, ())).bind (fun r => T r.1) = (tlcP L bd).bind T := by
    unfold tlcS tlcP
    rw [TX.bind_assoc]
    have : (fun (s : Unit) x => nox ((bd x).bind fun o => .ok (o, ()))) = fun (s : Unit) x => (nox (bd x)).bind fun o => .ok (o, ()) := by
      funext s x; cases bd x <;> rfl
    rw [this]
    rfl
  rw [e2] at this
  exact this
/-- a turn's parts -/
def kTk (h : Hd) : M (Option PV) := fun ρ3 => match take ρ3 h with
    | some (a, ρ4) => .ok (some a) ρ4
    | none => .stuck
theorem lc_tg {QO : β → Option PV → List PV → Prop} (h : tg x ρ = some ρ1) (k : Sim E QO ((tt ρ1).bind fun b ρ2 => if b = true then (fe ρ2).bind fun h ρ3 => kTk h ρ3 else .ok none ρ2) t) : Sim E QO (lcb tg tt fe x ρ) t := by unfold lcb; rw [h]; exact k
theorem lc_yes {QO : β → Option PV → List PV → Prop} (k : Sim E QO ((fe ρ).bind fun h ρ3 => kTk h ρ3) t) : Sim E QO (if true = true then (fe ρ).bind fun h ρ3 => kTk h ρ3 else .ok none ρ) t := k
theorem lc_tm {QO : β → Option PV → List PV → Prop} {r : β} (h : a.setFl .fz = b) (q : QO r (some b) ρ) : Sim E QO ((kTk (.tm a) ρ)) (.ok r) := by subst h; exact x_done q
theorem lc_sl {QO : β → Option PV → List PV → Prop} {r : β} (h : fzOf (nth ρ i) = some b) (q : QO r (some b) (ρ.set i b)) : Sim E QO ((kTk (.sl i) ρ)) (.ok r) := by simp only [kTk, take, h]; exact x_done q
theorem lc_fz {QO : β → Option PV → List PV → Prop} {r : β} (h : FzV b) (e : nth ρ i = b) (q : QO r (some b) ρ) : Sim E QO ((kTk (.sl i) ρ)) (.ok r) := by subst e; exact lc_sl (show fzOf _ = some _ from h) (by rw [set_nth]; exact q)
theorem lclJ_sim {P : σ → List Sl} {w : Nat → PV → PV} {ys : List PV} {e : ι → PV} {e' : γ → PV} {bd : σ → ι → TX (Option γ × σ)} {L : List ι} (hL : ∀ i y, ys[i]? = some y → ∃ x, L[i]? = some x ∧ w i y = e x) (hlen : ys.length = L.length) (inv : ∀ s ρ, Mat (P s) ρ → nth ρ j = .lst .io ys) (body : ∀ s x ρ, x ∈ L → Mat (P s) ρ → Sim (fun _ => True) (lcQ P e' own) (lcb tg tt fe (e x) ρ) (bd s x)) :
    ∀ (m : Nat) (s : σ) (acc : List γ) (ρ : List PV), m ≤ ys.length → Mat (P s) ρ →
    Sim (fun _ => True) (fun r zs ρ => zs = r.1.map e' ∧ Mat (P r.2) ρ) (lclJ w j ys.length tg tt fe own m (acc.map e') ρ) (tlc acc (L.drop (ys.length - m)) s fun s x => nox (bd s x))
  | 0, s, acc, ρ, _, h => by
    rw [Nat.sub_zero, List.drop_eq_nil_of_le (show L.length ≤ ys.length by omega)]
    have ok : okAt j ys.length ρ = true := by unfold okAt; rw [inv s ρ h]; simp
    simp only [lclJ, if_pos ok]
    exact ⟨_, ρ, rfl, rfl, h⟩
  | m + 1, s, acc, ρ, hm, h => by
    have hi : ys.length - (m + 1) < ys.length := by omega
    obtain ⟨x, hx, hw⟩ := hL (ys.length - (m + 1)) _ (List.getElem?_eq_getElem hi)
    have hx' : ys.length - (m + 1) < L.length := by omega
    have hd : L.drop (ys.length - (m + 1)) = x :: L.drop (ys.length - m) := by
      rw [List.drop_eq_getElem_cons hx', show ys.length - (m + 1) + 1 = ys.length - m from by omega]
      rw [List.getElem?_eq_getElem hx'] at hx
      cases hx; rfl
    rw [hd]
    have b := body s x ρ (List.mem_of_getElem? hx) h
    simp only [lclJ, nowAt, inv s ρ h, if_true, List.getElem?_eq_getElem hi, hw, tlc]
    cases eb : bd s x with
    | no => trivial
    | ex c xs => trivial
    | ok r =>
      rw [eb] at b
      obtain ⟨o, ρ1, e1, q1, q2⟩ := b
      subst q1
      unfold lcb at e1
      simp only [nox_ok, TX.bind_ok]
      cases et : tg (e x) ρ with
      | none => rw [et] at e1; cases e1
      | some ρ2 =>
        rw [et] at e1
        simp only at e1 ⊢
        cases ett : tt ρ2 with
        | stuck => rw [ett] at e1; cases e1
        | exc _ _ _ => rw [ett] at e1; cases e1
        | ok b ρ3 =>
          rw [ett] at e1
          simp only [R.bind_ok] at e1
          cases b with
          | false =>
            simp only [Bool.false_eq_true, if_false, R.ok.injEq] at e1
            obtain ⟨e1, rfl⟩ := e1
            obtain ⟨r1, s1⟩ := r
            cases r1 with
            | some _ => cases e1
            | none => exact lclJ_sim hL hlen inv body m _ _ _ (by omega) q2
          | true =>
            simp only [if_true] at e1
            cases ef : fe ρ3 with
            | stuck => rw [ef] at e1; cases e1
            | exc _ _ _ => rw [ef] at e1; cases e1
            | ok h ρ4 =>
              rw [ef] at e1
              simp only [R.bind_ok] at e1
              cases etk : take ρ4 h with
              | none => rw [etk] at e1; cases e1
              | some p =>
                obtain ⟨a, ρ5⟩ := p
                rw [etk] at e1
                simp only [R.ok.injEq] at e1
                obtain ⟨e1, rfl⟩ := e1
                obtain ⟨r1, s1⟩ := r
                cases r1 with
                | none => cases e1
                | some y =>
                  simp only [Option.map_some, Option.some.injEq] at e1
                  subst e1
                  simp only [ef, etk, List.length_map]
                  by_cases hc : acc.length < lim
                  · simp only [if_pos hc]
                    have := lclJ_sim hL hlen inv body m s1 (acc ++ [y]) _ (by omega) q2
                    rw [List.map_append] at this
                    exact this
                  · simp only [if_neg hc]; trivial
theorem tlcS_noex {bd : σ → ι → TX (Option γ × σ)} {L : List ι} {s : σ} {c : String} {xs : List PV} (et : tlcS L s bd = .ex c xs) : False := by
  unfold tlcS at et
  revert et
  generalize ([] : List γ) = acc
  intro et
  induction L generalizing acc s with
  | nil => cases et
  | cons x L ih =>
    unfold tlc at et
    cases eb : bd s x with
    | ok r =>
      rw [eb] at et
      obtain ⟨o, s1⟩ := r
      cases o with
      | none => exact ih _ et
      | some y =>
        simp only [nox_ok, TX.bind_ok] at et
        split at et
        · exact ih _ et
        · cases et
    | ex _ _ => rw [eb] at et; cases et
    | no => rw [eb] at et; cases et
theorem lcJ_S {P : σ → List Sl} {w : Nat → PV → PV} {ys : List PV} {e : ι → PV} {e' : γ → PV} {bd : σ → ι → TX (Option γ × σ)} {L : List ι} {s : σ} {T : List γ × σ → TX β} (hL : ∀ i y, ys[i]? = some y → ∃ x, L[i]? = some x ∧ w i y = e x) (hlen : ys.length = L.length) (inv : ∀ s ρ, Mat (P s) ρ → nth ρ j = .lst .io ys) (h0 : Mat (P s) (wipeQ ρ own)) (body : ∀ s x ρ, x ∈ L → Mat (P s) ρ → Sim (fun _ => True) (lcQ P e' own) (lcb tg tt fe (e x) ρ) (bd s x))
    (k : ∀ ys s ρ2 ρ3, Mat (P s) ρ2 → restP ρ2 ρ own = ρ3 → Sim E Q (KH (.tm (kL .ow e' ys)) ρ3) (T (ys, s))) : Sim E Q ((lcJ w j tg tt fe own ys.length ρ).bind KH) ((tlcS L s bd).bind T) := by
  have := lclJ_sim (e' := e') hL hlen inv body ys.length s [] _ (Nat.le_refl _) h0
  rw [Nat.sub_self, List.drop_zero] at this
  cases et : tlcS L s bd with
  | no => trivial
  | ex c xs => exact (tlcS_noex et).elim
  | ok r =>
    unfold tlcS at et
    rw [et] at this
    obtain ⟨zs, ρ2, e1, e2, q⟩ := this
    simp only [List.map_nil] at e1
    unfold lcJ
    rw [e1]
    subst e2
    exact k r.1 r.2 ρ2 _ q rfl
theorem lcN_fz {xs : List PV} (e : nth ρ j = .lst .fz xs) (k : Sim E Q ((kLc tg tt fe own xs ρ).bind KH) t) : Sim E Q ((eLcN j tg tt fe own ρ).bind KH) t := by
  unfold eLcN
  rw [e]
  have ne : eN j ρ = .ok (.sl j) ρ := by unfold eN; rw [e]; rfl
  refine x_lc ?_
  have hs := set_nth (ρ := ρ) (i := j)
  rw [e] at hs
  have : iSeq (eN j) ρ = .ok xs ρ := by unfold iSeq; rw [ne]; simp only [R.bind_ok, take, e, fzOf, seqOf, ofX, hs]
  rw [this]; exact k
theorem lcN_S {P : σ → List Sl} {e : ι → PV} {e' : γ → PV} {bd : σ → ι → TX (Option γ × σ)} {L : List ι} {s : σ} {T : List γ × σ → TX β} {w : Fl} (hw : w = .io ∨ w = .fz) (e1 : nth ρ j = kL w e L) (inv : ∀ s ρ, Mat (P s) ρ → nth ρ j = kL w e L) (h0 : Mat (P s) (wipeQ ρ own)) (body : ∀ s x ρ, x ∈ L → Mat (P s) ρ → Sim (fun _ => True) (lcQ P e' own) (lcb tg tt fe (e x) ρ) (bd s x))
    (k : ∀ ys s ρ2 ρ3, Mat (P s) ρ2 → restP ρ2 ρ own = ρ3 → Sim E Q (KH (.tm (kL .ow e' ys)) ρ3) (T (ys, s))) : Sim E Q ((eLcN j tg tt fe own ρ).bind KH) ((tlcS L s bd).bind T) := by
  rcases hw with rfl | rfl
  · have := lcJ_S (E := E) (Q := Q) (KH := KH) (w := wId) (ys := L.map e) (e := e) (L := L) (fun i y h => get_map h) (by simp) inv h0 body k
    unfold eLcN
    rw [e1]
    exact this
  · exact lcN_fz e1 (x_lcS h0 body k)
theorem tlcP_S {bd : ι → TX (Option γ)} {L : List ι} {T : List γ → TX β} : (tlcS L () fun (_ : Unit) x => (bd x).bind fun o => .ok (o, ())).bind (fun r => T r.1) = (tlcP L bd).bind T := by
  unfold tlcS tlcP
  rw [TX.bind_assoc]
  have : (fun (s : Unit) x => nox ((bd x).bind fun o => .ok (o, ()))) = fun (s : Unit) x => (nox (bd x)).bind fun o => .ok (o, ()) := by
    funext s x; cases bd x <;> rfl
  rw [this]
  rfl
theorem body_P {P : List Sl} {e : ι → PV} {e' : γ → PV} {bd : ι → TX (Option γ)} {L : List ι} (body : ∀ x ρ, x ∈ L → Mat P ρ → Sim (fun _ => True) (lcQ0 P e' own) (lcb tg tt fe (e x) ρ) (bd x)) : ∀ (s : Unit) x ρ, x ∈ L → Mat P ρ → Sim (fun _ => True) (lcQ (fun _ : Unit => P) e' own) (lcb tg tt fe (e x) ρ) ((bd x).bind fun o => .ok (o, ())) := fun s x ρ hx hM => by
  have b := body x ρ hx hM
  cases eb : bd x with
  | ok o => rw [eb] at b; obtain ⟨a, ρ1, e1, q⟩ := b; exact ⟨a, ρ1, e1, q⟩
  | ex c xs => rw [eb] at b; exact b
  | no => trivial
theorem lcN_P {P : List Sl} {e : ι → PV} {e' : γ → PV} {bd : ι → TX (Option γ)} {L : List ι} {T : List γ → TX β} {w : Fl} (hw : w = .io ∨ w = .fz) (e1 : nth ρ j = kL w e L) (inv : ∀ ρ, Mat P ρ → nth ρ j = kL w e L) (h0 : Mat P (wipeQ ρ own)) (body : ∀ x ρ, x ∈ L → Mat P ρ → Sim (fun _ => True) (lcQ0 P e' own) (lcb tg tt fe (e x) ρ) (bd x))
    (k : ∀ ys ρ2 ρ3, Mat P ρ2 → restP ρ2 ρ own = ρ3 → Sim E Q (KH (.tm (kL .ow e' ys)) ρ3) (T ys)) : Sim E Q ((eLcN j tg tt fe own ρ).bind KH) ((tlcP L bd).bind T) := by
  rw [← tlcP_S]
  exact lcN_S (P := fun _ : Unit => P) hw e1 (fun _ => inv) h0 (body_P body) fun ys _ ρ2 ρ3 q e => k ys ρ2 ρ3 q e
def kSub (h0 h1 : Hd) (K : M Fw) (h2 : Hd) : M Fw := fun ρ3 => match h1, take ρ3 h0 with
  | .sl j, some (a, ρ4) => (match nth ρ4 j, hv ρ4 h2 with
    | .lst .fz _, _ => .stuck
    | .lst o xs, .int k => (match L2.ixN xs.length k with
      | some m => K (ρ4.set j (.lst o (xs.set m a)))
      | none => .stuck)
    | _, _ => .stuck)
  | _, _ => .stuck
theorem s_sub (k : Sim E Qw ((fv ρ).bind fun h0 ρ1 => (fo ρ1).bind fun h1 ρ2 => (fi ρ2).bind (kSub h0 h1 K)) t) : Sim E Qw (sSeq (sSub fo fi fv) K ρ) t := by
  have : sSeq (sSub fo fi fv) K ρ = (fv ρ).bind fun h0 ρ1 => (fo ρ1).bind fun h1 ρ2 => (fi ρ2).bind (kSub h0 h1 K) := by
    show seqR ((fv ρ).bind _) K = _
    rw [seqR_bind]
    congr 1; funext h0 ρ1
    rw [seqR_bind]
    congr 1; funext h1 ρ2
    rw [seqR_bind]
    congr 1; funext h2 ρ3
    unfold kSub
    cases h1 with
    | tm a => rfl
    | sl j =>
      cases take ρ3 h0 with
      | none => rfl
      | some p =>
        obtain ⟨a, ρ4⟩ := p
        simp only
        cases nth ρ4 j with
        | lst o xs =>
          cases o with
          | fz => rfl
          | ow =>
            cases hv ρ4 h2 with
            | int k => simp only; cases L2.ixN xs.length k <;> rfl
            | _ => rfl
          | io =>
            cases hv ρ4 h2 with
            | int k => simp only; cases L2.ixN xs.length k <;> rfl
            | _ => rfl
        | _ => rfl
  rw [this]; exact k
theorem x_sub {o : Fl} {e : γ → PV} {xs : List γ} {v : γ} {k : Int} {T : List γ → TX β} (ht : take ρ h0 = some (e v, ρ1)) (hj : nth ρ1 j = kL o e xs) (ho : o ≠ .fz) (hi : hv ρ1 h2 = .int k) (kk : ∀ ys, Sim E Qw (K (ρ1.set j (kL o e ys))) (T ys)) : Sim E Qw (kSub h0 (.sl j) K h2 ρ) ((tset xs k v).bind T) := by
  unfold kSub tset
  simp only [ht, hj, hi]
  cases q : L2.ixN xs.length k with
  | none => trivial
  | some m =>
    have := kk (xs.set m v)
    unfold kL at this ⊢
    rw [List.map_set] at this
    cases o with
    | fz => exact absurd rfl ho
    | ow => simp only [List.length_map, q]; exact this
    | io => simp only [List.length_map, q]; exact this
theorem x_subQ2 {o : Fl} {e : γ → PV} {e' : δ → PV} {p : γ × δ} {v : γ} (ht : take ρ h0 = some (e v, ρ1)) (hj : nth ρ1 j = kQ2 o e e' p) (ho : o ≠ .fz) (hi : hv ρ1 h2 = .int 0) (kk : Sim E Qw (K (ρ1.set j (kQ2 o e e' (v, p.2)))) t) : Sim E Qw (kSub h0 (.sl j) K h2 ρ) t := by
  unfold kSub
  simp only [ht, hj, hi]
  unfold kQ2 at kk ⊢
  cases o with
  | fz => exact absurd rfl ho
  | ow => exact kk
  | io => exact kk
theorem x_subQ2' {o : Fl} {e : γ → PV} {e' : δ → PV} {p : γ × δ} {v : δ} (ht : take ρ h0 = some (e' v, ρ1)) (hj : nth ρ1 j = kQ2 o e e' p) (ho : o ≠ .fz) (hi : hv ρ1 h2 = .int 1) (kk : Sim E Qw (K (ρ1.set j (kQ2 o e e' (p.1, v)))) t) : Sim E Qw (kSub h0 (.sl j) K h2 ρ) t := by
  unfold kSub
  simp only [ht, hj, hi]
  unfold kQ2 at kk ⊢
  cases o with
  | fz => exact absurd rfl ho
  | ow => exact kk
  | io => exact kk
theorem take_tm (h : a.setFl .fz = b) : take ρ (.tm a) = some (b, ρ) := by subst h; rfl
theorem take_fz (h : FzV b) (e : nth ρ i = b) : take ρ (.sl i) = some (b, ρ) := by subst e; simp only [take, show fzOf _ = some _ from h, set_nth]
theorem x_mu {T : String} {op : PV → List PV → Option (PV × PV)} (k : Sim E Q ((fo ρ).bind fun h ρ1 => (if VL.kT (hv ρ1 h) = T then (fs ρ1).bind fun hs ρ2 => muEnd op h (takes hs ρ2) else .stuck).bind KH) t) : Sim E Q ((eMu T op fo fs ρ).bind KH) t := by
  unfold eMu; rw [R_bind_assoc]; exact k
theorem x_muL {o : Fl} {e : γ → PV} {xs : List γ} {op : PV → List PV → Option (PV × PV)} (hj : hv ρ h = kL o e xs) (k : Sim E Q ((fs ρ).bind fun hs ρ2 => (muEnd op h (takes hs ρ2)).bind KH) t) : Sim E Q ((if VL.kT (hv ρ h) = "list" then (fs ρ).bind fun hs ρ2 => muEnd op h (takes hs ρ2) else .stuck).bind KH) t := by
  rw [hj, if_pos (show VL.kT (kL o e xs) = "list" from rfl), R_bind_assoc]; exact k
theorem x_app {o : Fl} {e : γ → PV} {xs : List γ} {v : γ} {hs : List Hd} {T : List γ → TX β} (ht : Tks hs ρ [e v] ρ1) (hj : nth ρ1 j = kL o e xs) (ho : o ≠ .fz) (kk : ∀ ys, Sim E Q (KH (.tm .non) (ρ1.set j (kL o e ys))) (T ys)) : Sim E Q ((muEnd uAppend (.sl j) (takes hs ρ)).bind KH) ((tapp xs v).bind T) := by
  rw [ht.ok]
  unfold tapp
  by_cases hc : xs.length < lim
  · rw [if_pos hc]
    have := kk (xs ++ [v])
    unfold kL at this
    rw [List.map_append] at this
    simp only [muEnd, hj, kL, uAppend, if_neg ho, List.length_map, if_pos hc]
    exact this
  · rw [if_neg hc]; trivial
def FS (r : R PV) (m : TX γ) (v : γ → PV) (fin : γ → List PV) (fe : List PV → Prop) : Prop := match m with
  | .ok g => r = .ok (v g) (fin g)
  | .ex c xs => ∃ fn, r = .exc c xs fn ∧ fe fn
  | .no => True
theorem bk_nil {fin : List PV} : back ρ [] fin = ρ := rfl
theorem bk_tm {hs : List Hd} {fn : List PV} {z : PV} (r : back ρ hs fn = ρ1) : back ρ (.tm a :: hs) (z :: fn) = ρ1 := r
theorem bk_fz {hs : List Hd} {fn : List PV} {z : PV} (h : FzV a) (e : nth ρ i = a) (r : back ρ hs fn = ρ1) : back ρ (.sl i :: hs) (z :: fn) = ρ1 := by
  subst e
  simp only [back, h.own, Bool.false_eq_true, if_false]; exact r
def exitR (a : PV) : PV := if a.own = true then a.setFl .ow else a
theorem bk_ro {hs : List Hd} {fn : List PV} (he : a.isErr = false) (e : nth ρ i = a) (r : back ρ hs fn = ρ1) : back ρ (.sl i :: hs) (exitR a :: fn) = ρ1 := by
  subst e
  unfold exitR
  by_cases ho : (nth ρ i).own = true
  · have : PV.reFl (nth ρ i).fl ((nth ρ i).setFl .ow) = nth ρ i := by
      cases hn : nth ρ i with
      | lst o xs => cases o <;> simp [PV.reFl, PV.setFl, PV.own, PV.fl]
      | dK o _ xs => cases o <;> simp [PV.reFl, PV.setFl, PV.own, PV.fl]
      | dN o _ xs => cases o <;> simp [PV.reFl, PV.setFl, PV.own, PV.fl]
      | obj o _ xs => cases o <;> simp [PV.reFl, PV.setFl, PV.own, PV.fl]
      | nst o sh xs => cases o <;> first | (rw [hn] at ho; cases ho; done) | simp [PV.reFl, PV.setFl, PV.own, PV.fl]
      | cel o u => cases o <;> first | (rw [hn] at ho; cases ho; done) | simp [PV.reFl, PV.setFl, PV.own, PV.fl]
      | err _ _ _ => rw [hn] at he; cases he
      | _ => rw [hn] at ho; cases ho
    simp only [back, ho, if_true, List.headD_cons, this, set_nth, List.tail_cons]; exact r
  · simp only [back, if_neg ho, List.tail_cons]; exact r
theorem bk_mut {hs : List Hd} {fn : List PV} {z z' : PV} (e : nth ρ i = a) (ho : a.own = true) (hz : PV.reFl a.fl z = z') (r : back (ρ.set i z') hs fn = ρ1) : back ρ (.sl i :: hs) (z :: fn) = ρ1 := by
  subst e; subst hz
  simp only [back, ho, if_true, List.headD_cons, List.tail_cons]; exact r
theorem kQ2_own {o : Fl} {e : γ → PV} {e' : δ → PV} {p : γ × δ} (ho : o ≠ .fz) : (kQ2 o e e' p).own = true := by cases o <;> first | rfl | exact absurd rfl ho
theorem x_call {F : List PV → R PV} (k : Sim E Q ((fs ρ).bind fun hs ρ1 => (callH F hs ρ1 fun a ρ3 => .ok (.tm a) ρ3).bind KH) t) : Sim E Q ((eCall F fs ρ).bind KH) t := by
  unfold eCall; rw [R_bind_assoc]; exact k
theorem x_callE {F : List PV → R PV} {hs : List Hd} {m : TX γ} {v : γ → PV} {fin : γ → List PV} {fe : List PV → Prop} {R' : γ → List PV} {T : γ → TX β} (ok : okArgs hs ρ = true) (hF : FS (F (hs.map (hv ρ))) m v fin fe) (bk : ∀ g, back ρ hs (fin g) = R' g) (ex : ∀ fn, fe fn → E (back ρ hs fn)) (k : ∀ g, m = .ok g → Sim E Q (KH (.tm (v g)) (R' g)) (T g)) : Sim E Q ((callH F hs ρ fun a ρ3 => .ok (.tm a) ρ3).bind KH) (m.bind T) := by
  unfold callH
  rw [if_pos ok]
  cases m with
  | ok g => have hF : _ = _ := hF; rw [hF]; simp only [R.bind_ok, bk]; exact k g rfl
  | ex c xs => obtain ⟨fn, e, q⟩ := hF; rw [e]; exact ⟨_, rfl, ex fn q⟩
  | no => trivial
theorem ar_nil : ([] : List PV).map PV.toIo = [] := rfl
theorem ar_fz {as bs : List PV} (h : FzV a) (r : as.map PV.toIo = bs) : (a :: as).map PV.toIo = a :: bs := by rw [List.map_cons, h.toIo, r]
theorem ar_Q2m {o : Fl} {e : γ → PV} {e' : δ → PV} {p : γ × δ} {as bs : List PV} (ho : o ≠ .fz) (r : as.map PV.toIo = bs) : (kQ2 o e e' p :: as).map PV.toIo = kQ2 .io e e' p :: bs := by rw [List.map_cons, r]; cases o <;> first | rfl | exact absurd rfl ho
/-- what is handed back, place by place -/
def Ex (as : List PV) (k : Nat) (ρ fn : List PV) : Prop := exitF as (ρ.drop k) = fn
theorem ex_nil {k : Nat} : Ex [] k ρ [] := rfl
theorem nth_drop : ∀ (ρ : List PV) (k : Nat), (ρ.drop k).headD .emp = nth ρ k
  | [], k => by simp [nth]
  | x :: ρ, 0 => rfl
  | x :: ρ, k + 1 => by rw [List.drop_succ_cons, nth_drop ρ k]; rfl
theorem ex_step {as fn : List PV} {k : Nat} (r : Ex as (k + 1) ρ fn) : Ex (a :: as) k ρ (exit1 a (nth ρ k) :: fn) := by
  unfold Ex at r ⊢
  simp only [exitF]
  rw [nth_drop, ← r]
  congr 1
  rw [List.tail_drop]
theorem ex_fz {as fn : List PV} {k : Nat} (h : FzV a) (r : Ex as (k + 1) ρ fn) : Ex (a :: as) k ρ (a :: fn) := by
  have := ex_step (a := a) r
  unfold exit1 at this; rw [h.own] at this; exact this
theorem ex_ro {as fn : List PV} {k : Nat} (h : a.own = true → nth ρ k = a.toIo) (he : a.isErr = false) (r : Ex as (k + 1) ρ fn) : Ex (a :: as) k ρ (exitR a :: fn) := by
  have := ex_step (a := a) r
  have e : exit1 a (nth ρ k) = exitR a := by
    unfold exit1 exitR
    by_cases ho : a.own = true
    · rw [if_pos ho, if_pos ho, h ho]
      cases a with
      | lst o xs => cases o <;> first | rfl | cases ho
      | dK o _ xs => cases o <;> first | rfl | cases ho
      | dN o _ xs => cases o <;> first | rfl | cases ho
      | obj o _ xs => cases o <;> first | rfl | cases ho
      | nst o sh xs => cases o <;> first | rfl | cases ho
      | cel o _ => cases o <;> first | rfl | cases ho
      | err _ _ _ => cases he
      | _ => cases ho
    · rw [if_neg ho, if_neg ho]
  rw [e] at this; exact this
theorem ex_mut {as fn : List PV} {k : Nat} {z z' : PV} (ho : a.own = true) (h : nth ρ k = z) (hi : z.isIo = true) (hz : z.setFl .ow = z') (r : Ex as (k + 1) ρ fn) : Ex (a :: as) k ρ (z' :: fn) := by
  have := ex_step (a := a) r
  unfold exit1 at this; rw [if_pos ho, h, if_pos hi, hz] at this; exact this
theorem fs_run {np n : Nat} {W : M Fw} {args ρ0 ps : List PV} {m : TX γ} {v : γ → PV} {fin : γ → List PV} {fe : List PV → Prop} {rq : γ → PV → List PV → Prop} (hl : args.length = np) (hp : args.map PV.toIo = ps) (h0 : ps ++ List.replicate (n - np) .emp = ρ0) (h : Sim E (fnQ rq) (W ρ0) m)
    (hq : ∀ g w ρ, rq g w ρ → w = v g ∧ Ex args 0 ρ (fin g)) (hE : ∀ ρ, E ρ → ∃ fn, Ex args 0 ρ fn ∧ fe fn) : FS (runF np n W args) m v fin fe := by
  subst hp; subst h0
  unfold runF
  rw [if_pos hl]
  cases m with
  | ok g =>
    obtain ⟨a, ρ, e, w, hw, q⟩ := h
    obtain ⟨rfl, e2⟩ := hq g w ρ q
    unfold Ex at e2
    rw [List.drop_zero] at e2
    rw [e]
    rcases hw with rfl | ⟨rfl, hw⟩
    · simp only [FS, e2]
    · simp only [FS, e2, hw]
  | ex c xs =>
    obtain ⟨ρ, e, q⟩ := h
    obtain ⟨fn, e2, q2⟩ := hE ρ q
    unfold Ex at e2
    rw [List.drop_zero] at e2
    rw [e]
    exact ⟨_, rfl, by rw [e2]; exact q2⟩
  | no => trivial
theorem FS.ok {r : R PV} {m : TX γ} {v : γ → PV} {fin : γ → List PV} {fe : List PV → Prop} {g : γ} (h : FS r m v fin fe) (e : m = .ok g) : r = .ok (v g) (fin g) := by subst e; exact h
end
end VT
set_option Elab.async false
set_option linter.all false
set_option maxRecDepth 100000
namespace VT
open PySem PySem.Spec PyProof.Rows VL
section
variable {α β γ δ σ ι : Type} {E : List PV → Prop} {Q : β → α → List PV → Prop} {Qw : β → Fw → List PV → Prop} {ρ ρ1 ρ2 : List PV} {t : TX β} {KH : Hd → M α} {KT : Bool → M α} {KX : List PV → M α} {K : M Fw} {fa fb fc fe f fo fi fv : M Hd} {fs : M (List Hd)} {ta tb tt : M Bool} {A B : M Fw} {a b c x y : PV} {h h0 h1 h2 h3 : Hd} {i j : Nat} {op op' : PV → PV → Option PV} {u v : Bool}
theorem x_eq {r : R γ} {K : γ → M α} {g : γ} (h : r = .ok g ρ) (k : Sim E Q (K g ρ) t) : Sim E Q (r.bind K) t := by rw [h]; exact k
theorem e_N (h : (nth ρ i).isEmp = false) : eN i ρ = .ok (.sl i) ρ := by unfold eN; rw [h]; rfl
theorem e_Nf (h : FzV a) (e : nth ρ i = a) : eN i ρ = .ok (.sl i) ρ := by subst e; exact e_N h.emp
theorem e_C : eC a ρ = .ok (.tm a) ρ := rfl
theorem e_bin (ha : fa ρ = .ok h1 ρ) (hb : fb ρ = .ok h2 ρ) (ho : op (hv ρ h1) (hv ρ h2) = some c) : eBin op fa fb ρ = .ok (.tm c) ρ := by
  unfold eBin; rw [ha]; simp only [R.bind_ok, hb, ho, ofO]
theorem e_un {op : PV → Option PV} (ha : fa ρ = .ok h1 ρ) (ho : op (hv ρ h1) = some c) : eUn op fa ρ = .ok (.tm c) ρ := by
  unfold eUn; rw [ha]; simp only [R.bind_ok, ho, ofO]
theorem e_fn {op : List PV → Option PV} {hs : List Hd} (ha : fs ρ = .ok hs ρ) (ho : op (hs.map (hv ρ)) = some c) : eFn op fs ρ = .ok (.tm c) ρ := by
  unfold eFn; rw [ha]; simp only [R.bind_ok, ho, ofO]
theorem e_nil : aNil ρ = .ok [] ρ := rfl
theorem e_cons {hs : List Hd} (ha : fa ρ = .ok h1 ρ) (hs' : fs ρ = .ok hs ρ) : aCons fa fs ρ = .ok (h1 :: hs) ρ := by
  unfold aCons; rw [ha]; simp only [R.bind_ok, hs']
theorem e_lst {hs : List Hd} {as : List PV} (ha : fs ρ = .ok hs ρ) (ht : Tks hs ρ as ρ) (hl : as.length ≤ lim) (hc : PV.lst .ow as = c) : eLst fs ρ = .ok (.tm c) ρ := by
  subst hc; unfold eLst; rw [ha]; simp only [R.bind_ok, ht.ok, if_pos hl]
theorem t_tB (ha : fa ρ = .ok h1 ρ) (hb : blOf (hv ρ h1) = some u) : tB fa ρ = .ok u ρ := by
  unfold tB; rw [ha]; simp only [R.bind_ok, hb, ofB]
theorem t_or (ha : ta ρ = .ok u ρ) (hb : tb ρ = .ok v ρ) : tOr ta tb ρ = .ok (u || v) ρ := by
  unfold tOr; rw [ha]; cases u <;> simp [hb]
def ePQ (ρ1 : List PV) (g : γ) (a : γ) (ρ : List PV) : Prop := a = g ∧ ρ = ρ1
theorem pq_done {g : γ} : Sim E (ePQ ρ) (.ok g ρ) (.ok g) := x_done ⟨rfl, rfl⟩
theorem x_pure {r : R γ} {K : γ → M α} {m : TX γ} {T : γ → TX β} (h1 : Sim E (ePQ ρ1) r m) (k : ∀ g, Sim E Q (K g ρ1) (T g)) : Sim E Q (r.bind K) (m.bind T) :=
  x_bind h1 fun g a ρ q => by obtain ⟨rfl, rfl⟩ := q; exact k a
theorem x_tAndP {m : TX Bool} {T : Bool → TX β} (h1 : Sim E (ePQ ρ) (tb ρ) m) (k : ∀ g, Sim E Q (KT g ρ) (T g)) : Sim E Q ((if u = true then tb ρ else .ok false ρ).bind KT) ((if u = true then m else .ok false).bind T) :=
  x_pure (x_ite h1 pq_done) k
theorem x_tOrP {m : TX Bool} {T : Bool → TX β} (h1 : Sim E (ePQ ρ) (tb ρ) m) (k : ∀ g, Sim E Q (KT g ρ) (T g)) : Sim E Q ((if u = true then .ok true ρ else tb ρ).bind KT) ((if u = true then .ok true else m).bind T) :=
  x_pure (x_ite pq_done h1) k
theorem Tks.hd {hs : List Hd} {as : List PV} (hf : FzV b) (e : hv ρ h = b) (r : Tks hs ρ as ρ1) : Tks (h :: hs) ρ (b :: as) ρ1 := by
  cases h with
  | sl i => exact .fz hf e r
  | tm a => exact .tm (by rw [show a = b from e]; exact hf.set) r
theorem x_opt {o : Option γ} {r : R α} {T : γ → TX β} (k : ∀ g, o = some g → Sim E Q r (T g)) : Sim E Q r ((opt o).bind T) := by
  cases o with
  | none => trivial
  | some g => exact k g rfl
theorem x_callR {F : List PV → R PV} {hs : List Hd} {m : TX γ} {v : γ → PV} {f0 : List PV} {T : γ → TX β} (ok : okArgs hs ρ = true) (hF : FS (F (hs.map (hv ρ))) m v (fun _ => f0) (fun fn => fn = f0)) (bk : back ρ hs f0 = ρ) (ex : E ρ) (k : ∀ g, Sim E Q (KH (.tm (v g)) ρ) (T g)) : Sim E Q ((callH F hs ρ fun a ρ3 => .ok (.tm a) ρ3).bind KH) (m.bind T) :=
  x_callE ok hF (fun _ => bk) (fun fn e => by rw [show fn = f0 from e, bk]; exact ex) fun g _ => k g
theorem os_ix {e : γ → PV} {o : Fl} {xs : List γ} {k : Int} (ha : hv ρ h1 = kL o e xs) (hb : hv ρ h2 = .int k) : OS1 (oIx (hv ρ h1) (hv ρ h2)) (tix xs k) e := by
  intro g hg
  rw [ha, hb]
  unfold tix at hg
  simp only [kL, oIx, L2.atI, List.length_map, List.getElem?_map] at hg ⊢
  cases q : L2.ixN xs.length k with
  | none => rw [q] at hg; cases hg
  | some m =>
    rw [q] at hg
    simp only [Option.bind_some] at hg ⊢
    cases q2 : xs[m]? with
    | none => rw [q2] at hg; cases hg
    | some z => rw [q2] at hg; cases hg; rfl
theorem os_ixS {xs : List Int} {k : Int} (ha : hv ρ h1 = .scr xs) (hb : hv ρ h2 = .int k) : OS1 (oIx (hv ρ h1) (hv ρ h2)) (tix xs k) PV.int := by
  intro g hg
  rw [ha, hb]
  unfold tix at hg
  simp only [oIx]
  cases q : L2.atI xs k with
  | none => rw [q] at hg; cases hg
  | some z => rw [q] at hg; cases hg; rfl
theorem nx_ix {xs : List γ} {k : Int} : NoEx (tix xs k) := by intro c ys h; unfold tix at h; cases q : L2.atI xs k <;> rw [q] at h <;> cases h
theorem os_mul {x y : Int} (ha : hv ρ h1 = .int x) (hb : hv ρ h2 = .int y) : OS1 (oMul (hv ρ h1) (hv ρ h2)) (tmul x y) PV.int := by
  intro g hg; rw [ha, hb]; unfold tmul at hg; simp only [oMul]
  by_cases hc : cMul x y = true
  · rw [if_pos hc] at hg ⊢; cases hg; rfl
  · rw [if_neg hc] at hg; cases hg
theorem nx_mul {x y : Int} : NoEx (tmul x y) := by intro c ys h; unfold tmul at h; split at h <;> cases h
theorem os_div {x y : Int} (ha : hv ρ h1 = .int x) (hb : hv ρ h2 = .int y) : OS1 (oDiv (hv ρ h1) (hv ρ h2)) (tdiv x y) PV.int := by
  intro g hg; rw [ha, hb]; unfold tdiv at hg; simp only [oDiv, oI]
  by_cases hc : 0 < y ∧ y < wide
  · rw [if_pos hc] at hg; rw [if_pos (by simpa using hc)]; cases hg; rfl
  · rw [if_neg hc] at hg; cases hg
theorem nx_div {x y : Int} : NoEx (tdiv x y) := by intro c ys h; unfold tdiv at h; split at h <;> cases h
theorem os_mod {x y : Int} (ha : hv ρ h1 = .int x) (hb : hv ρ h2 = .int y) : OS1 (oMod (hv ρ h1) (hv ρ h2)) (tmod x y) PV.int := by
  intro g hg; rw [ha, hb]; unfold tmod at hg; simp only [oMod, oI]
  by_cases hc : 0 < y
  · rw [if_pos hc] at hg; rw [if_pos (by simpa using hc)]; cases hg; rfl
  · rw [if_neg hc] at hg; cases hg
theorem nx_mod {x y : Int} : NoEx (tmod x y) := by intro c ys h; unfold tmod at h; split at h <;> cases h
theorem os_catL {e : γ → PV} {o o' : Fl} {xs ys : List γ} (ha : hv ρ h1 = kL o e xs) (hb : hv ρ h2 = kL o' e ys) : OS1 (oAdd (hv ρ h1) (hv ρ h2)) (tcat xs ys) (kL .ow e) := by
  intro g hg; rw [ha, hb]; unfold tcat at hg; simp only [oAdd, kL, List.length_map]
  by_cases hc : xs.length + ys.length ≤ lim
  · rw [if_pos hc] at hg ⊢; cases hg; simp
  · rw [if_neg hc] at hg; cases hg
theorem nx_cat {xs ys : List γ} : NoEx (tcat xs ys) := by intro c zs h; unfold tcat at h; split at h <;> cases h
theorem os_rep {e : γ → PV} {o : Fl} {xs : List γ} {k : Int} (ha : hv ρ h1 = kL o e xs) (hb : hv ρ h2 = .int k) : OS1 (oMul (hv ρ h1) (hv ρ h2)) (trep xs k) (kL .ow e) := by
  intro g hg; rw [ha, hb]; unfold trep at hg; simp only [oMul, kL, List.length_map]
  by_cases hc : k ≤ (lim : Nat) ∧ -(2 ^ 63) ≤ k ∧ xs.length * k.toNat ≤ lim
  · rw [if_pos hc] at hg ⊢; cases hg; simp
  · rw [if_neg hc] at hg; cases hg
theorem nx_rep {xs : List γ} {k : Int} : NoEx (trep xs k) := by intro c zs h; unfold trep at h; split at h <;> cases h
theorem len_L {e : γ → PV} {o : Fl} {xs : List γ} : oLen [kL o e xs] = some (.int (xs.length : Nat)) := by simp only [kL, oLen, List.length_map]
end
end VT
set_option Elab.async false
set_option linter.all false
set_option maxRecDepth 100000
namespace VT
open PySem PySem.Spec PyProof.Rows VL
section
variable {α β γ δ σ ι : Type} {E : List PV → Prop} {Q : β → α → List PV → Prop} {Qw : β → Fw → List PV → Prop} {ρ ρ1 ρ2 : List PV} {t : TX β} {KH : Hd → M α} {KT : Bool → M α} {KX : List PV → M α} {K : M Fw} {fa fb fc fe f fo fi fv : M Hd} {fs : M (List Hd)} {ta tb tt : M Bool} {A B : M Fw} {a b c x y : PV} {h h0 h1 h2 h3 : Hd} {i j : Nat} {op op' : PV → PV → Option PV} {u v : Bool}
theorem s_rho {W : M Fw} (e : ρ = ρ1) (k : Sim E Qw (W ρ1) t) : Sim E Qw (W ρ) t := by subst e; exact k
theorem ret_sl (e : nth ρ j = a) (hi : a.isIo = false) (k : Sim E Qw (.ok (.rt a) (ρ.set j .emp)) t) : Sim E Qw (kRet (.sl j) ρ) t := by
  subst e; simp only [kRet, hi, Bool.false_eq_true, if_false]; exact k
theorem eqD (e e' : γ → PV) {n m : Nat} [DecidableEq γ] [DE e e'] [Dp e n] [Dp e' m] (a b : γ) (hn : n ≤ 64 := by decide) (hm : m ≤ 64 := by decide) : oEq false (e a) (e' b) = some (.bl (teq a b)) := eq_D hn hm a b
theorem neD (e e' : γ → PV) {n m : Nat} [DecidableEq γ] [DE e e'] [Dp e n] [Dp e' m] (a b : γ) (hn : n ≤ 64 := by decide) (hm : m ≤ 64 := by decide) : oEq true (e a) (e' b) = some (.bl (!teq a b)) := ne_D hn hm a b
theorem isN (e : γ → PV) [NN e] (a : Option γ) : oIs false (kO e a) .non = some (.bl a.isNone) := by rw [is_O]; simp
theorem ninLs (e e' : γ → PV) {o : Fl} [DecidableEq γ] [DE e e'] [Flt e] [Flt e'] (x : γ) (xs : List γ) : oIn true (e' x) (kL o e xs) = some (.bl (!tmem x xs)) := by rw [in_L]; simp [tmem]
theorem mulL {x y : Int} (ha : a = .int x) (hb : b = .int y) (h1 : -(2 ^ 64) < x) (h2 : x < 2 ^ 64) : oMul a b = some (.int (x * y)) := by
  subst ha; subst hb; simp only [oMul, cm_l h1 h2, if_true]
theorem mulR {x y : Int} (ha : a = .int x) (hb : b = .int y) (h1 : -(2 ^ 64) < y) (h2 : y < 2 ^ 64) : oMul a b = some (.int (x * y)) := by
  have : cMul x y = true := decide_eq_true (.inr (.inl ⟨h1, h2⟩))
  subst ha; subst hb; simp only [oMul, this, if_true]
theorem divC {x y : Int} (ha : a = .int x) (hb : b = .int y) (h : 0 < y ∧ y < 1073741824) : oDiv a b = some (.int (x / y)) := by
  subst ha; subst hb; simp only [oDiv, oI]; rw [if_pos (decide_eq_true ⟨h.1, wide_30 h.2⟩)]
theorem modC {x y : Int} (ha : a = .int x) (hb : b = .int y) (h : 0 < y) : oMod a b = some (.int (x % y)) := by
  subst ha; subst hb; simp only [oMod, oI]; rw [if_pos (by simpa using h)]
theorem powC {x y z : Int} (ha : a = .int x) (hb : b = .int y) (h : 0 ≤ y ∧ y ≤ 1000000 ∧ x.natAbs < 2 ^ 64) (hz : x ^ y.toNat = z) : oPow a b = some (.int z) := by
  subst ha; subst hb; subst hz; simp only [oPow, oI]; rw [if_pos (by simpa using h)]
theorem sum_L {o : Fl} {xs : List Int} : oSum [kL o PV.int xs] = some (.int xs.sum) := by simp only [kL, oSum, intsOf_map, Option.map_some]
theorem os_maxL {o : Fl} {xs : List Int} (ha : a = kL o PV.int xs) : OS1 (oMaxL [a]) (tmaxL xs) PV.int := by
  intro g hg; subst ha
  unfold tmaxL at hg
  cases xs with
  | nil => cases hg
  | cons x xs => simp at hg; subst hg; simp only [kL, oMaxL, intsOf_map]
theorem nx_maxL {xs : List Int} : NoEx (tmaxL xs) := by intro c ys h; unfold tmaxL at h; split at h <;> cases h
theorem ok_nil : okArgs [] ρ = true := rfl
theorem ok_tm {hs : List Hd} (r : okArgs hs ρ = true) : okArgs (.tm a :: hs) ρ = true := r
theorem ok_fz {hs : List Hd} (h : FzV a) (e : nth ρ i = a) (r : okArgs hs ρ = true) : okArgs (.sl i :: hs) ρ = true := by
  subst e; simp only [okArgs, h.own, r]; rfl
theorem ok_own {hs : List Hd} (h : hs.any (isSl i) = false) (r : okArgs hs ρ = true) : okArgs (.sl i :: hs) ρ = true := by
  simp only [okArgs, h, r]; simp
end
end VT
set_option Elab.async false
set_option linter.all false
set_option maxRecDepth 100000
namespace VT
open PySem PySem.Spec PyProof.Rows VL
def mp {α : Type} (F : List PV → List PV) : R α → R α
  | .ok a ρ => .ok a (F ρ)
  | .exc c xs ρ => .exc c xs (F ρ)
  | .stuck => .stuck
section
variable {i j : Nat} {c : String} {xs : List PV} {α β : Type}
/-- the family f, with the error in slot i, is worth g without it -/
def DI (i : Nat) (c : String) (xs : List PV) (N : α → Prop) (f : Option Addr → M α) (g : M α) : Prop :=
  ∀ σ d, nth σ i = .emp → f d (σ.set i (.err d c xs)) = mp (fun ρ => ρ.set i (.err d c xs)) (g σ) ∧ ∀ a ρ, g σ = .ok a ρ → N a ∧ nth ρ i = .emp
theorem DI.bind {N : α → Prop} {N' : β → Prop} {f : Option Addr → M α} {g : M α} {k : Option Addr → α → M β} {l : α → M β} (h : DI i c xs N f g) (hk : ∀ a, N a → DI i c xs N' (fun d => k d a) (l a)) : DI i c xs N' (fun d ρ => (f d ρ).bind (k d)) (fun ρ => (g ρ).bind l) := by
  intro σ d e
  obtain ⟨h1, h2⟩ := h σ d e
  simp only [h1]
  cases q : g σ with
  | ok a ρ =>
    obtain ⟨n, e2⟩ := h2 a ρ q
    obtain ⟨h3, h4⟩ := hk a n ρ d e2
    exact ⟨by simp only [mp, R.bind_ok]; exact h3, fun b ρ' q' => h4 b ρ' (by simpa using q')⟩
  | exc c' ys ρ => exact ⟨rfl, fun _ _ z => by cases z⟩
  | stuck => exact ⟨rfl, fun _ _ z => by cases z⟩
theorem DI.ok {N : α → Prop} {a : α} (n : N a) : DI i c xs N (fun _ ρ => .ok a ρ) (fun ρ => .ok a ρ) := fun σ d e => ⟨rfl, fun b ρ z => by cases z; exact ⟨n, e⟩⟩
theorem DI.stuck {N : α → Prop} : DI i c xs N (fun _ _ => .stuck) (fun _ => .stuck) := fun σ d e => ⟨rfl, fun b ρ z => by cases z⟩
theorem DI.of {N : α → Prop} {F : List PV → Option α} {o : PV → PV} (hF : ∀ σ d, F (σ.set i (.err d c xs)) = F σ) (n : ∀ σ a, F σ = some a → N a) : DI i c xs N (fun _ ρ => match F ρ with | some a => .ok a ρ | none => .stuck) (fun ρ => match F ρ with | some a => .ok a ρ | none => .stuck) := by
  intro σ d e
  simp only [hF]
  cases q : F σ with
  | some a => exact ⟨rfl, fun b ρ z => by cases z; exact ⟨n σ _ q, e⟩⟩
  | none => exact ⟨rfl, fun b ρ z => by cases z⟩
end
section
variable {β γ : Type} {E : List PV → Prop} {Q : β → Fw → List PV → Prop} {ρ : List PV} {i : Nat} {c : String} {xs : List PV} {t : TX β}
/-- try: m; what it raises is handed to h -/
def ttry {α β : Type} (m : TX α) (k : α → TX β) (h : String → List PV → TX β) : TX β := match m with
  | .ok a => k a
  | .ex c xs => h c xs
  | .no => .no
@[simp] theorem ttry_ok {α β : Type} (a : α) (k : α → TX β) (h : String → List PV → TX β) : ttry (.ok a) k h = k a := rfl
@[simp] theorem ttry_ex {α β : Type} (c : String) (xs : List PV) (k : α → TX β) (h : String → List PV → TX β) : ttry (.ex c xs : TX α) k h = h c xs := rfl
/-- a decoder: what a value is, if it is of that kind -/
class Dc {α : Type} (e : α → PV) where
  dc : PV → Option α
  ok : ∀ p a, dc p = some a → p = e a
  re : ∀ a, dc (e a) = some a
def dcI : PV → Option Int | .int i => some i | _ => none
def dcB : PV → Option Bool | .bl i => some i | _ => none
def dcU : PV → Option Unit | .non => some () | _ => none
def dcS : PV → Option OS | .str s => if h : PyData.strOk s = true then some ⟨s, h⟩ else none | _ => none
def dcO {α : Type} (d : PV → Option α) : PV → Option (Option α) | .non => some none | p => (d p).map some
instance : Dc PV.int := ⟨dcI, fun p a h => (by cases p <;> cases h; rfl), fun _ => rfl⟩
instance : Dc PV.bl := ⟨dcB, fun p a h => (by cases p <;> cases h; rfl), fun _ => rfl⟩
instance : Dc kU := ⟨dcU, fun p a h => (by cases p <;> cases h; rfl), fun _ => rfl⟩
instance : Dc kS := ⟨dcS, fun p a h => (by
  cases p with
  | str s =>
    unfold dcS at h
    by_cases hc : PyData.strOk s = true
    · simp only [dif_pos hc] at h; cases h; rfl
    · simp only [dif_neg hc] at h; cases h
  | _ => cases h), fun a => by unfold dcS kS; simp only [dif_pos a.2]⟩
instance {α : Type} {e : α → PV} [Dc e] [NN e] : Dc (kO e) := ⟨dcO (Dc.dc e), fun p a h => (by
  cases p with
  | non => cases h; rfl
  | _ =>
    simp only [dcO] at h
    obtain ⟨b, hb, rfl⟩ := Option.map_eq_some_iff.mp h
    exact Dc.ok (e := e) _ _ hb), fun a => (by
  cases a with
  | none => rfl
  | some a =>
    have h1 := Dc.re (e := e) a
    have h2 := NN.nn (e := e) a false
    show dcO (Dc.dc e) (e a) = _
    cases q : e a with
    | non => rw [q] at h2; cases h2
    | _ => simp only [dcO, ← q, h1, Option.map_some])⟩
def dcs {α : Type} (d : PV → Option α) : List PV → Option (List α)
  | [] => some []
  | p :: ps => match d p, dcs d ps with
    | some a, some as => some (a :: as)
    | _, _ => none
theorem dcs_ok {α : Type} {e : α → PV} [Dc e] : ∀ (ps : List PV) (as : List α), dcs (Dc.dc e) ps = some as → ps = as.map e
  | [], as, h => by cases h; rfl
  | p :: ps, as, h => by
    simp only [dcs] at h
    cases q1 : Dc.dc e p with
    | none => rw [q1] at h; cases h
    | some a =>
      cases q2 : dcs (Dc.dc e) ps with
      | none => rw [q1, q2] at h; cases h
      | some bs => rw [q1, q2] at h; cases h; rw [List.map_cons, ← Dc.ok p a q1, ← dcs_ok ps bs q2]
theorem dcs_re {α : Type} {e : α → PV} [Dc e] : ∀ as : List α, dcs (Dc.dc e) (as.map e) = some as
  | [] => rfl
  | a :: as => by simp only [List.map_cons, dcs, Dc.re, dcs_re as]
def dcT {α : Type} (d : PV → Option α) : PV → Option (List α) | .tup ps => dcs d ps | _ => none
def dcL {α : Type} (d : PV → Option α) : PV → Option (List α) | .lst .fz ps => dcs d ps | _ => none
instance {α : Type} {e : α → PV} [Dc e] : Dc (kT e) := ⟨dcT (Dc.dc e), fun p as h => (by
  cases p with
  | tup ps => unfold kT; rw [dcs_ok _ _ h]
  | _ => cases h), fun as => dcs_re as⟩
instance {α : Type} {e : α → PV} [Dc e] : Dc (kL .fz e) := ⟨dcL (Dc.dc e), fun p as h => (by
  cases p with
  | lst o ps =>
    cases o with
    | fz => unfold kL; rw [dcs_ok _ _ h]
    | _ => cases h
  | _ => cases h), fun as => dcs_re as⟩
end
end VT
namespace VT
open PySem PySem.Spec PyProof.Rows VL
end VT
set_option Elab.async false
set_option linter.all false
set_option maxRecDepth 100000
namespace VT
open PySem PySem.Spec PyProof.Rows VL
section
variable {α β γ δ : Type}
def kX (e : α → PV) (f : β → PV) : α ⊕ β → PV
  | .inl a => e a
  | .inr b => f b
instance {e : α → PV} {f : β → PV} [Fz e] [Fz f] : Fz (kX e f) := ⟨fun a => by cases a with
  | inl a => exact Fz.fz (e := e) a
  | inr a => exact Fz.fz (e := f) a⟩
instance {e : α → PV} {f : β → PV} [NN e] [NN f] : NN (kX e f) := ⟨fun a n => (by cases a with
  | inl a => exact NN.nn (e := e) a n
  | inr a => exact NN.nn (e := f) a n), fun a => (by cases a with
  | inl a => exact NN.nd (e := e) a
  | inr a => exact NN.nd (e := f) a)⟩
instance {e : α → PV} {f : β → PV} [Flt e] [Flt f] : Flt (kX e f) := ⟨fun a => by cases a with
  | inl a => exact Flt.fl (e := e) a
  | inr a => exact Flt.fl (e := f) a⟩
instance {e : α → PV} {f : β → PV} {n m : Nat} [Dp e n] [Dp f m] : Dp (kX e f) (max n m) := ⟨fun a => by
  cases a with
  | inl a => exact Nat.le_trans (Dp.dp (e := e) a) (Nat.le_max_left ..)
  | inr a => exact Nat.le_trans (Dp.dp (e := f) a) (Nat.le_max_right ..), fun a => by cases a with
  | inl a => exact Dp.cl (e := e) a
  | inr a => exact Dp.cl (e := f) a⟩
def kindD : PyData → Nat
  | .none => 0
  | .bool _ | .int _ => 1
  | .str _ => 2
  | .list _ => 3
  | .tuple _ => 4
  | .dict _ => 5
theorem eqv_kind {a b : PyData} (h : kindD a ≠ kindD b) : PyData.eqv a b = false := by
  cases a <;> cases b <;> first | exact absurd rfl h | simp [PyData.eqv]
class Kd (e : α → PV) (k : outParam Nat) : Prop where
  kd : ∀ a, kindD (dat (e a)) = k
instance : Kd PV.int 1 := ⟨fun _ => by simp [dat, kindD]⟩
instance : Kd PV.bl 1 := ⟨fun _ => by simp [dat, kindD]⟩
instance : Kd kS 2 := ⟨fun _ => by simp [kS, dat, kindD]⟩
instance : Kd kU 0 := ⟨fun _ => by simp [kU, dat, kindD]⟩
instance {e : α → PV} : Kd (kT e) 4 := ⟨fun _ => by simp [kT, dat, kindD]⟩
instance {o : Fl} {e : α → PV} : Kd (kL o e) 3 := ⟨fun _ => by simp [kL, dat, kindD]⟩
instance {e : α → PV} {f : β → PV} : Kd (kP2 e f) 4 := ⟨fun _ => by simp [kP2, dat, kindD]⟩
instance {e : α → PV} {f : β → PV} {g : γ → PV} : Kd (kP3 e f g) 4 := ⟨fun _ => by simp [kP3, dat, kindD]⟩
instance {o : Fl} {e : α → PV} {f : β → PV} : Kd (kQ2 o e f) 3 := ⟨fun _ => by simp [kQ2, dat, kindD]⟩
class NeK (k l : Nat) : Prop where
  ne : k ≠ l
instance : NeK 0 1 := ⟨by decide⟩
instance : NeK 0 2 := ⟨by decide⟩
instance : NeK 0 3 := ⟨by decide⟩
instance : NeK 0 4 := ⟨by decide⟩
instance : NeK 1 0 := ⟨by decide⟩
instance : NeK 1 2 := ⟨by decide⟩
instance : NeK 1 3 := ⟨by decide⟩
instance : NeK 1 4 := ⟨by decide⟩
instance : NeK 2 0 := ⟨by decide⟩
instance : NeK 2 1 := ⟨by decide⟩
instance : NeK 2 3 := ⟨by decide⟩
instance : NeK 2 4 := ⟨by decide⟩
instance : NeK 3 0 := ⟨by decide⟩
instance : NeK 3 1 := ⟨by decide⟩
instance : NeK 3 2 := ⟨by decide⟩
instance : NeK 3 4 := ⟨by decide⟩
instance : NeK 4 0 := ⟨by decide⟩
instance : NeK 4 1 := ⟨by decide⟩
instance : NeK 4 2 := ⟨by decide⟩
instance : NeK 4 3 := ⟨by decide⟩
instance {e e' : α → PV} {f f' : β → PV} {k l k' l' : Nat} [DecidableEq α] [DecidableEq β] [DE e e'] [DE f f'] [Kd e k] [Kd f' l] [NeK k l] [Kd e' k'] [Kd f l'] [NeK l' k'] : DE (kX e f) (kX e' f') := ⟨fun a b => by
  cases a with
  | inl a =>
    cases b with
    | inl b => simp only [kX, DE.eq, Sum.inl.injEq]
    | inr b =>
      simp only [kX]
      rw [eqv_kind (by rw [Kd.kd (e := e), Kd.kd (e := f')]; exact NeK.ne)]
      simp
  | inr a =>
    cases b with
    | inr b => simp only [kX, DE.eq, Sum.inr.injEq]
    | inl b =>
      simp only [kX]
      rw [eqv_kind (by rw [Kd.kd (e := f), Kd.kd (e := e')]; exact NeK.ne)]
      simp⟩
instance {e e' : α → PV} {f f' : β → PV} {g g' : γ → PV} {o o' : Fl} [DecidableEq α] [DecidableEq β] [DecidableEq γ] [DE e e'] [DE f f'] [DE g g'] : DE (kQ3 o e f g) (kQ3 o' e' f' g') := ⟨fun a b => by
  obtain ⟨a1, a2, a3⟩ := a
  obtain ⟨b1, b2, b3⟩ := b
  simp [kQ3, dat, PyData.eqv, PyData.eqvAll, DE.eq]⟩
instance {e : α → PV} {f : β → PV} {g : γ → PV} {o : Fl} {n m k : Nat} [Dp e n] [Dp f m] [Dp g k] : Dp (kQ3 o e f g) (max n (max m k) + 1) := ⟨fun a => by
  have h1 := Dp.dp (e := e) a.1
  have h2 := Dp.dp (e := f) a.2.1
  have h3 := Dp.dp (e := g) a.2.2
  simp only [kQ3, dat, PyData.depth, PyData.depthAll, List.map_cons, List.map_nil]; omega, fun a => by
  simp only [kQ3, dat, PyData.canLay0, PyData.canLayAll0, List.map_cons, List.map_nil, Dp.cl, Bool.and_true]⟩
end
end VT
namespace VT
open PySem PySem.Spec PyProof.Rows VL
section
variable {α β γ δ : Type}
theorem kL_cast {o : Fl} {e : α → PV} {e' : β → PV} {f : α → β} {xs : List α} (h : ∀ z, e z = e' (f z)) : kL o e xs = kL o e' (xs.map f) := by
  unfold kL; rw [List.map_map]; congr 1; exact List.map_congr_left fun z _ => h z
end
end VT
namespace VT
open PySem PySem.Spec PyProof.Rows VL
end VT
namespace VT
open PySem PySem.Spec PyProof.Rows VL
section
variable {α β γ δ : Type}
/-- what lies as its flag says -/
class FlE (E : Fl → α → PV) : Prop where
  io : ∀ o a, (E o a).toIo = E (ioF o) a
  ne : ∀ o a, (E o a).isErr = false
  em : ∀ o a, (E o a).isEmp = false
  iw : ∀ a, (E .ow a).isIo = false
instance {e : α → PV} : FlE (fun o => kL o e) := ⟨fun o a => by cases o <;> rfl, fun _ _ => rfl, fun _ _ => rfl, fun _ => rfl⟩
instance {e : α → PV} {f : β → PV} : FlE (fun o => kQ2 o e f) := ⟨fun o a => by cases o <;> rfl, fun _ _ => rfl, fun _ _ => rfl, fun _ => rfl⟩
instance {e : α → PV} {f : β → PV} {g : γ → PV} : FlE (fun o => kQ3 o e f g) := ⟨fun o a => by cases o <;> rfl, fun _ _ => rfl, fun _ _ => rfl, fun _ => rfl⟩
instance {e : α → PV} {f : β → PV} {g : γ → PV} {h : δ → PV} : FlE (fun o => kQ4 o e f g h) := ⟨fun o a => by cases o <;> rfl, fun _ _ => rfl, fun _ _ => rfl, fun _ => rfl⟩
theorem fz_ne {a : PV} (h : FzV a) : a.isErr = false := by cases a <;> first | rfl | cases h
instance {e : α → PV} [Fz e] : FlE (fun _ => e) := ⟨fun o a => FzV.toIo (FzV.of e a), fun _ a => fz_ne (FzV.of e a), fun _ a => (FzV.of e a).emp, fun a => (FzV.of e a).io⟩
instance {E : Fl → α → PV} {E' : Fl → β → PV} [FlE E] [FlE E'] : FlE (fun o => kX (E o) (E' o)) := ⟨fun o a => by cases a with
  | inl a => exact FlE.io (E := E) o a
  | inr a => exact FlE.io (E := E') o a, fun o a => by cases a with
  | inl a => exact FlE.ne (E := E) o a
  | inr a => exact FlE.ne (E := E') o a, fun o a => by cases a with
  | inl a => exact FlE.em (E := E) o a
  | inr a => exact FlE.em (E := E') o a, fun a => by cases a with
  | inl a => exact FlE.iw (E := E) a
  | inr a => exact FlE.iw (E := E') a⟩
theorem ar_of (E : Fl → α → PV) [FlE E] {o : Fl} {a : α} {as bs : List PV} (r : as.map PV.toIo = bs) : (E o a :: as).map PV.toIo = E (ioF o) a :: bs := by rw [List.map_cons, r, FlE.io]
theorem toIo_of (E : Fl → α → PV) [FlE E] {o : Fl} {a : α} : (E o a).toIo = E (ioF o) a := FlE.io o a
theorem ne_of (E : Fl → α → PV) [FlE E] {o : Fl} {a : α} : (E o a).isErr = false := FlE.ne o a
end
section
variable {α β γ δ : Type} {E : List PV → Prop} {Q : β → α → List PV → Prop} {ρ : List PV} {KH : Hd → M α}
theorem x_callM {F : List PV → R PV} {hs : List Hd} {m : TX γ} {v : γ → PV} {fin : γ → List PV} {f0 : PV → List PV} {R' : γ → List PV} {R0 : PV → List PV} {T : γ → TX β} (ok : okArgs hs ρ = true) (hF : FS (F (hs.map (hv ρ))) m v fin (fun fn => ∃ z, fn = f0 z)) (bk : ∀ g, back ρ hs (fin g) = R' g) (bx : ∀ z, back ρ hs (f0 z) = R0 z) (ex : ∀ z, E (R0 z)) (k : ∀ g, Sim E Q (KH (.tm (v g)) (R' g)) (T g)) : Sim E Q ((callH F hs ρ fun a ρ3 => .ok (.tm a) ρ3).bind KH) (m.bind T) :=
  x_callE ok hF bk (fun fn ⟨z, e⟩ => by rw [e, bx]; exact ex z) fun g _ => k g
end
end VT
set_option linter.all false
set_option linter.all false
set_option maxRecDepth 100000
set_option Elab.async false
namespace Law
open VL VT PySem
def t__law_tape (a_script : (List Int)) (a_k : Int) : TX (Int × Int) :=
if (decide (a_k < (a_script.length : Int))) = true then (
TX.bind (tix a_script a_k) fun v1 =>
.ok ((iabs v1), (0 : Int))) else (
.ok (a_k, (0 : Int)))
def t__law_take (a_tape_here : (Int × Int)) (a_size_here : Int) : TX (Int × (Int × Int)) :=
if (decide ((1000000000000000000 : Int) ≤ a_tape_here.1)) = true then (
TX.bind (tdiv a_tape_here.1 a_size_here) fun v1 =>
TX.bind (tmod a_tape_here.1 a_size_here) fun v2 =>
.ok (v2, (v1, (a_tape_here.1, (a_tape_here.2 + (1 : Int))).2))) else (
TX.bind (tmul (((a_tape_here.1 + ((7919 : Int) * (a_tape_here.1, (a_tape_here.2 + (1 : Int))).2)) + (13 : Int)) % (2147483647 : Int)) ((((a_tape_here.1 + ((7919 : Int) * (a_tape_here.1, (a_tape_here.2 + (1 : Int))).2)) + (13 : Int)) % (2147483647 : Int)) + (48271 : Int))) fun v3 =>
TX.bind (tmul (v3 % (2147483629 : Int)) ((v3 % (2147483629 : Int)) + (69621 : Int))) fun v4 =>
TX.bind (tmod (((v4 + ((31 : Int) * (a_tape_here.1, (a_tape_here.2 + (1 : Int))).2)) % (2147483647 : Int)) / (9 : Int)) a_size_here) fun v5 =>
.ok (v5, (a_tape_here.1, (a_tape_here.2 + (1 : Int)))))
structure O_Forest where
  fields : Int
  parents : (List (Option Int))
  kinds : (List OS)
def kC_Forest (o : Fl) (x : O_Forest) : PV := .obj o "Forest" [PV.int x.fields, (kT (kO PV.int)) x.parents, (kT kS) x.kinds]
instance : Fz (kC_Forest .fz) := ⟨fun _ => rfl⟩
instance : FlE (fun o => kC_Forest o) := ⟨fun o a => by cases o <;> rfl, fun _ _ => rfl, fun _ _ => rfl, fun _ => rfl⟩
end Law
set_option Elab.async false
set_option linter.all false
namespace VL
open PySem PySem.Spec PyProof.Rows L2
/-- what is handed over is frozen first: an own list that the callee stores or whose parameter it assigns anew -/
def fzR (h : Hd) : M Hd := fun ρ1 => match take ρ1 h with
  | some (a, ρ2) => .ok (.tm a) ρ2
  | none => .stuck
def eFz (f : M Hd) : M Hd := fun ρ => (f ρ).bind fzR
theorem ev_fz {g : G} {X : Cx} {e : Expr} {f : M Hd} (he : EV g X e f) : EV g X e (eFz f) :=
  ev_of he fun σ H Q ρ τ ft h hP => ⟨ρ, τ, ft, h, by
    unfold eFz at hP
    cases e1 : f ρ with
    | ok h1 ρ1 =>
      rw [e1] at hP
      simp only [R.bind, fzR] at hP
      cases e2 : take ρ1 h1 with
      | none => rw [e2] at hP; exact hP.elim
      | some p =>
        obtain ⟨a, ρ2⟩ := p
        rw [e2] at hP
        intro v H' f1 s1 k1
        obtain ⟨f2, _, k2⟩ := take_ok f1 s1 k1 e2
        exact hP v H' f2 (fun i hi => by cases hi) k2
    | exc c xs ρ1 => rw [e1] at hP; exact hP
    | stuck => rw [e1] at hP; exact hP.elim⟩
end VL
set_option linter.all false
set_option maxRecDepth 100000
set_option Elab.async false
namespace VT
open PySem PySem.Spec PyProof.Rows VL
/-- plain values, n deep: None, ints, strings, tuples of such -/
def plB : Nat → PV → Bool
  | _, .non => true
  | _, .int _ => true
  | _, .str s => PyData.strOk s
  | n + 1, .tup xs => decide (xs.length ≤ lim) && xs.all (plB n)
  | _, _ => false
def samB : Nat → PV → PV → Bool
  | _, .non, .non => true
  | _, .int a, .int b => decide (a = b)
  | _, .str a, .str b => decide (a = b)
  | n + 1, .tup xs, .tup ys => decide (xs.length = ys.length) && (xs.zip ys).all fun p => samB n p.1 p.2
  | _, _, _ => false
theorem plB_tup {n : Nat} {xs : List PV} (h : plB (n + 1) (.tup xs) = true) : xs.length ≤ lim ∧ ∀ x ∈ xs, plB n x = true := by
  unfold plB at h
  simpa using h
/-- an argument that is frozen before it is handed over -/
def fzK {α : Type} (K : Hd → M α) : Hd → M α := fun h ρ1 => (fzR h ρ1).bind K
section
variable {α β : Type} {E : List PV → Prop} {Q : β → α → List PV → Prop} {ρ ρ2 : List PV} {K : Hd → M α} {t : TX β} {f : M Hd} {h : Hd} {a : PV}
theorem x_fz0 (k : Sim E Q ((f ρ).bind (fzK K)) t) : Sim E Q ((eFz f ρ).bind K) t := by
  unfold eFz
  rw [R_bind_assoc]
  exact k
theorem x_fz1 (e : take ρ h = some (a, ρ2)) (k : Sim E Q (K (.tm a) ρ2) t) : Sim E Q (fzK K h ρ) t := by
  unfold fzK fzR
  rw [e]
  exact k
end
/-- flags of encodings: what is frozen -/
class FlZ {α : Type} (E : Fl → α → PV) : Prop where
  sf : ∀ o a, (E o a).setFl .fz = E .fz a
  fo : ∀ a, fzOf (E .ow a) = some (E .fz a)
section
variable {α β γ δ : Type}
instance {e : α → PV} : FlZ (fun o => kL o e) := ⟨fun _ _ => rfl, fun _ => rfl⟩
instance {e : α → PV} {f : β → PV} : FlZ (fun o => kQ2 o e f) := ⟨fun _ _ => rfl, fun _ => rfl⟩
instance {e : α → PV} {f : β → PV} {g : γ → PV} : FlZ (fun o => kQ3 o e f g) := ⟨fun _ _ => rfl, fun _ => rfl⟩
instance {e : α → PV} {f : β → PV} {g : γ → PV} {h : δ → PV} : FlZ (fun o => kQ4 o e f g h) := ⟨fun _ _ => rfl, fun _ => rfl⟩
instance {e : α → PV} [Fz e] : FlZ (fun _ => e) := ⟨fun _ a => (FzV.of e a).set, fun a => FzV.of e a⟩
instance {E : Fl → α → PV} {E' : Fl → β → PV} [FlZ E] [FlZ E'] : FlZ (fun o => kX (E o) (E' o)) := ⟨fun o a => by cases a with
  | inl a => exact FlZ.sf (E := E) o a
  | inr a => exact FlZ.sf (E := E') o a, fun a => by cases a with
  | inl a => exact FlZ.fo (E := E) a
  | inr a => exact FlZ.fo (E := E') a⟩
end
/-- an encoding of plain values that are the same when their values are -/
class Sm {α : Type} [DecidableEq α] (e : α → PV) : Prop where
  eq : ∀ (n : Nat) (a b : α), plB n (e a) = true → plB n (e b) = true → samB n (e a) (e b) = decide (a = b)
section
variable {α β γ : Type} [DecidableEq α] [DecidableEq β] [DecidableEq γ]
@[simp] theorem plB_non (n : Nat) : plB n .non = true := by cases n <;> rfl
@[simp] theorem plB_int (n : Nat) (i : Int) : plB n (.int i) = true := by cases n <;> rfl
@[simp] theorem plB_kS (n : Nat) (s : OS) : plB n (kS s) = true := by cases n <;> exact s.2
theorem samB_non (n : Nat) {p : PV} (h : p ≠ .non) : samB n .non p = false ∧ samB n p .non = false := by
  cases p <;> first | exact absurd rfl h | (constructor <;> cases n <;> rfl)
theorem nn_ne {e : α → PV} [NN e] (a : α) : e a ≠ .non := fun z => by
  have := NN.nn (e := e) a true
  rw [z] at this
  cases this
instance : Sm PV.int := ⟨fun n a b _ _ => by cases n <;> rfl⟩
instance : Sm kS := ⟨fun n a b _ _ => by
  have : samB n (kS a) (kS b) = decide (a.1 = b.1) := by cases n <;> rfl
  rw [this]
  exact decide_eq_decide.mpr (Subtype.ext_iff.symm)⟩
instance {e : α → PV} [Sm e] [NN e] : Sm (kO e) := ⟨fun n a b h1 h2 => by
  cases a with
  | none =>
    cases b with
    | none => cases n <;> rfl
    | some b => rw [show kO e none = .non from rfl, show kO e (some b) = e b from rfl, (samB_non n (nn_ne b)).1]; simp
  | some a =>
    cases b with
    | none => rw [show kO e none = .non from rfl, show kO e (some a) = e a from rfl, (samB_non n (nn_ne a)).2]; simp
    | some b =>
      have := Sm.eq (e := e) n a b h1 h2
      rw [show kO e (some a) = e a from rfl, show kO e (some b) = e b from rfl, this]
      simp⟩
theorem all_map {e : α → PV} [Sm e] {n : Nat} : ∀ (xs ys : List α), (∀ x ∈ xs.map e, plB n x = true) → (∀ x ∈ ys.map e, plB n x = true) → (decide (xs.length = ys.length) && (((xs.map e).zip (ys.map e)).all fun p => samB n p.1 p.2)) = decide (xs = ys)
  | [], [], _, _ => rfl
  | [], _ :: _, _, _ => rfl
  | _ :: _, [], _, _ => rfl
  | x :: xs, y :: ys, h1, h2 => by
    have ih := all_map xs ys (fun z hz => h1 z (by simp at hz ⊢; exact .inr hz)) (fun z hz => h2 z (by simp at hz ⊢; exact .inr hz))
    have e1 := Sm.eq (e := e) n x y (h1 _ (by simp)) (h2 _ (by simp))
    simp only [List.map_cons, List.zip_cons_cons, List.all_cons, e1, List.length_cons, List.cons.injEq, Nat.add_right_cancel_iff]
    by_cases q : x = y
    · simp only [q, decide_true, Bool.true_and, true_and]; exact ih
    · simp [q]
instance {e : α → PV} [Sm e] : Sm (kT e) := ⟨fun n a b h1 h2 => by
  cases n with
  | zero => cases h1
  | succ n =>
    have := all_map (e := e) a b (plB_tup h1).2 (plB_tup h2).2
    rw [← this]
    show (decide ((a.map e).length = (b.map e).length) && _) = _
    rw [List.length_map, List.length_map]⟩
instance {e : α → PV} {f : β → PV} [Sm e] [Sm f] : Sm (kP2 e f) := ⟨fun n a b h1 h2 => by
  cases n with
  | zero => cases h1
  | succ n =>
    have k1 := (plB_tup h1).2
    have k2 := (plB_tup h2).2
    have e1 := Sm.eq (e := e) n a.1 b.1 (k1 _ (by simp)) (k2 _ (by simp))
    have e2 := Sm.eq (e := f) n a.2 b.2 (k1 _ (by simp)) (k2 _ (by simp))
    show (decide (2 = 2) && (samB n (e a.1) (e b.1) && (samB n (f a.2) (f b.2) && true))) = _
    rw [e1, e2]
    simp [Prod.ext_iff]⟩
instance {e : α → PV} {f : β → PV} {g : γ → PV} [Sm e] [Sm f] [Sm g] : Sm (kP3 e f g) := ⟨fun n a b h1 h2 => by
  cases n with
  | zero => cases h1
  | succ n =>
    have k1 := (plB_tup h1).2
    have k2 := (plB_tup h2).2
    have e1 := Sm.eq (e := e) n a.1 b.1 (k1 _ (by simp)) (k2 _ (by simp))
    have e2 := Sm.eq (e := f) n a.2.1 b.2.1 (k1 _ (by simp)) (k2 _ (by simp))
    have e3 := Sm.eq (e := g) n a.2.2 b.2.2 (k1 _ (by simp)) (k2 _ (by simp))
    show (decide (3 = 3) && (samB n (e a.1) (e b.1) && (samB n (f a.2.1) (f b.2.1) && (samB n (g a.2.2) (g b.2.2) && true)))) = _
    rw [e1, e2, e3]
    simp [Prod.ext_iff]⟩
end
end VT
set_option linter.all false
set_option maxRecDepth 100000
set_option Elab.async false
set_option linter.all false
set_option maxRecDepth 100000
set_option Elab.async false
set_option Elab.async false
set_option linter.all false
set_option maxRecDepth 100000
namespace VL
open PySem PySem.Spec PyProof.Rows L2
open My (NK nkV nD mergeN)
section
variable {α β : Type}
def kin (ks : List NK) (k : NK) : Bool := ks.any fun j => decide (j = k)
end
def pvK : PV → Option NK
  | .non => some none
  | .int i => some (some (.inl i))
  | .str x => some (some (.inr x))
  | _ => none
end VL
set_option Elab.async false
set_option linter.all false
set_option maxRecDepth 100000
namespace VL
open PySem PySem.Spec PyProof.Rows L2
end VL
set_option Elab.async false
set_option linter.all false
set_option maxRecDepth 100000
namespace VL
open PySem PySem.Spec PyProof.Rows L2
def pairsI : List PV → Option (List (Int × Int))
  | [] => some []
  | .tup [.int i, .int j] :: r => (pairsI r).map ((i, j) :: ·)
  | _ :: _ => none
end VL
set_option linter.all false
set_option maxRecDepth 100000
set_option Elab.async false
namespace VT
open PySem PySem.Spec PyProof.Rows VL
open My (NK)
section
variable {κ α β γ δ σ : Type}
/-- what may be a key -/
class Ke (e : κ → PV) where
  nk : κ → NK
  ok : ∀ a, pvK (e a) = some (nk a)
  inj : ∀ {a b}, nk a = nk b → a = b
instance : Ke PV.int := ⟨fun i => some (.inl i), fun _ => rfl, fun h => by cases h; rfl⟩
instance : Ke kS := ⟨fun x => some (.inr x.1), fun _ => rfl, fun h => by injection h with h; injection h with h; exact Subtype.ext h⟩
instance : Ke (kO PV.int) := ⟨fun o => o.map fun i => .inl i, fun o => by cases o <;> rfl, fun {a b} h => by cases a <;> cases b <;> first | rfl | (cases h; done) | (cases h; rfl)⟩
instance : Ke (kO kS) := ⟨fun o => o.map fun x => .inr x.1, fun o => by cases o <;> rfl, fun {a b} h => by
  cases a <;> cases b
  · rfl
  · cases h
  · cases h
  · injection h with h; injection h with h; rw [Subtype.ext h]⟩
def kD (o : Fl) (e : κ → PV) [Ke e] (f : α → PV) (l : List (κ × α)) : PV := .dN o (l.map fun p => Ke.nk e p.1) (l.map fun p => f p.2)
instance {e : κ → PV} [Ke e] {f : α → PV} : Fz (kD .fz e f) := ⟨fun _ => rfl⟩
instance {e : κ → PV} [Ke e] {f : α → PV} : FlE (fun o => kD o e f) := ⟨fun o a => by cases o <;> rfl, fun _ _ => rfl, fun _ _ => rfl, fun _ => rfl⟩
variable [DecidableEq κ]
variable {e : κ → PV} [Ke e] {f : α → PV} {l : List (κ × α)} {k : κ} {a : α}
variable {ρ ρ1 : List PV} {h0 h1 h2 : Hd}
end
/-- encodings that never lie alike -/
class Dj {α β : Type} (e : α → PV) (f : β → PV) : Prop where
  l : ∀ (n : Nat) (a : α) (b : β), samB n (e a) (f b) = false
  r : ∀ (n : Nat) (a : α) (b : β), samB n (f b) (e a) = false
instance : Dj PV.int kS := ⟨fun n a b => by cases n <;> rfl, fun n a b => by cases n <;> rfl⟩
instance {β : Type} {f : β → PV} : Dj PV.int (kT f) := ⟨fun n a b => by cases n <;> rfl, fun n a b => by cases n <;> rfl⟩
instance {β : Type} {f : β → PV} : Dj kS (kT f) := ⟨fun n a b => by cases n <;> rfl, fun n a b => by cases n <;> rfl⟩
instance {α β γ : Type} {e : α → PV} {f : β → PV} {g : γ → PV} [Dj e f] [Dj e g] : Dj e (kX f g) := ⟨fun n a b => by
  cases b with
  | inl b => exact Dj.l n a b
  | inr b => exact Dj.l n a b, fun n a b => by
  cases b with
  | inl b => exact Dj.r n a b
  | inr b => exact Dj.r n a b⟩
instance {α β : Type} [DecidableEq α] [DecidableEq β] {e : α → PV} {f : β → PV} [Sm e] [Sm f] [Dj e f] : Sm (kX e f) := ⟨fun n a b h1 h2 => by
  cases a with
  | inl a =>
    cases b with
    | inl b =>
      have := Sm.eq (e := e) n a b h1 h2
      show samB n (e a) (e b) = _
      rw [this]
      simp
    | inr b =>
      show samB n (e a) (f b) = _
      rw [Dj.l n a b]
      simp
  | inr a =>
    cases b with
    | inl b =>
      show samB n (f a) (e b) = _
      rw [Dj.r n b a]
      simp
    | inr b =>
      have := Sm.eq (e := f) n a b h1 h2
      show samB n (f a) (f b) = _
      rw [this]
      simp⟩
end VT
set_option linter.all false
set_option maxRecDepth 100000
set_option Elab.async false
set_option linter.all false
set_option maxRecDepth 100000
set_option Elab.async false
set_option linter.all false
set_option maxRecDepth 100000
set_option synthInstance.maxSize 2000
set_option Elab.async false
set_option Elab.async false
set_option linter.all false
set_option maxRecDepth 100000
namespace VL
open PySem PySem.Spec PyProof.Rows L2
end VL
set_option linter.all false
set_option maxRecDepth 100000
set_option Elab.async false
namespace VT
open PySem PySem.Spec PyProof.Rows VL
end VT
set_option linter.all false
set_option maxRecDepth 100000
set_option synthInstance.maxSize 2000
set_option Elab.async false
set_option Elab.async false
set_option linter.all false
set_option maxRecDepth 100000
namespace VL
open PySem PySem.Spec PyProof.Rows L2
end VL
set_option linter.all false
set_option maxRecDepth 100000
set_option Elab.async false
namespace VT
open PySem PySem.Spec PyProof.Rows VL
end VT
set_option linter.all false
set_option maxRecDepth 100000
set_option synthInstance.maxSize 2000
set_option Elab.async false
set_option Elab.async false
set_option linter.all false
set_option maxRecDepth 100000
namespace VL
open PySem PySem.Spec PyProof.Rows L2
end VL
set_option linter.all false
set_option maxRecDepth 100000
set_option Elab.async false
namespace VT
open PySem PySem.Spec PyProof.Rows VL
end VT
set_option linter.all false
set_option maxRecDepth 100000
set_option synthInstance.maxSize 2000
set_option Elab.async false
set_option Elab.async false
set_option linter.all false
set_option maxRecDepth 100000
namespace VL
open PySem PySem.Spec PyProof.Rows L2
def oCntI : PV → List PV → Option PV
  | .lst _ xs, [.int k] => (intsOf xs).map fun ns => .int ((ns.count k : Nat) : Int)
  | _, _ => none
theorem m_count {T : Tb} : Mtv T oCntI (rCntI T.K) := by
  intro H l a c as v vs Q k m hl hm e q
  unfold oCntI at e
  split at e
  · rename_i o xs i
    obtain ⟨ns, e1, rfl⟩ := Option.map_eq_some_iff.mp e
    have := intsOf_ok e1
    subst this
    obtain ⟨v0, rfl, m0⟩ := one_arg rfl hl hm
    have ev0 := k.g_int m0
    obtain ⟨p, rfl, hp⟩ := ints_lst k m
    exact ⟨p, ns, i, rfl, by rw [ev0], hp, q _ _ k.int⟩
  · cases e
end VL
set_option linter.all false
set_option maxRecDepth 100000
set_option Elab.async false
namespace VT
open PySem PySem.Spec PyProof.Rows VL
section
variable {α β γ : Type} {E : List PV → Prop} {Q : β → α → List PV → Prop} {KH : Hd → M α} {ρ ρ1 : List PV} {t : TX β} {fo : M Hd} {fs : M (List Hd)} {h : Hd}
theorem x_mt {T : String} {op : PV → List PV → Option PV} (k : Sim E Q ((fo ρ).bind fun h ρ1 => (if VL.kT (hv ρ1 h) = T then (fs ρ1).bind fun hs ρ2 => ofO ρ2 (op (hv ρ2 h) (hs.map (hv ρ2))) else .stuck).bind KH) t) : Sim E Q ((eMt T op fo fs ρ).bind KH) t := by
  unfold eMt; rw [R_bind_assoc]; exact k
theorem x_mtL {o : Fl} {e : γ → PV} {xs : List γ} {op : PV → List PV → Option PV} (hj : hv ρ h = kL o e xs) (k : Sim E Q ((fs ρ).bind fun hs ρ2 => (ofO ρ2 (op (hv ρ2 h) (hs.map (hv ρ2)))).bind KH) t) : Sim E Q ((if VL.kT (hv ρ h) = "list" then (fs ρ).bind fun hs ρ2 => ofO ρ2 (op (hv ρ2 h) (hs.map (hv ρ2))) else .stuck).bind KH) t := by
  rw [hj, if_pos (show VL.kT (kL o e xs) = "list" from rfl), R_bind_assoc]; exact k
end
end VT
set_option linter.all false
set_option maxRecDepth 100000
set_option synthInstance.maxSize 2000
set_option Elab.async false
namespace Law
open VL VT PySem
structure O_PlainBook where
  forest : O_Forest
  hangs : (List (Option Int))
def kC_PlainBook (o : Fl) (x : O_PlainBook) : PV := .obj o "PlainBook" [(kC_Forest .fz) x.forest, (kT (kO PV.int)) x.hangs]
instance : Fz (kC_PlainBook .fz) := ⟨fun _ => rfl⟩
instance : FlE (fun o => kC_PlainBook o) := ⟨fun o a => by cases o <;> rfl, fun _ _ => rfl, fun _ _ => rfl, fun _ => rfl⟩
end Law
set_option Elab.async false
set_option linter.all false
set_option maxRecDepth 100000
namespace My
open PySem PySem.Spec PyProof.Rows L2 PySem.W
/-- the class's method of an operator -/
structure MOp (K : PySem.W.Frag) (C f : Addr) (op : Operator) : Prop where
  at_ : PySem.W.findIn K (.ref C) (PySem.dunder op.info.2) = some (some (.ref f))
  fn : PySem.W.isFn K (.ref f) = true
  sf : PySem.W.selfFirst K C = true
structure DfB (K : PySem.W.Frag) (C : Addr) (op : Operator) (qual : Str) (st : Stmt) (ps : List Str) : Prop where
  ex : ∃ (f : Addr) (fd : FuncData), Fun K (PySem.dunder op.info.2) qual st f fd ∧ Binds K fd ps [] ∧ MOp K C f op
structure DnB (CX : CXT) (P : Program) (w : World) (K : PySem.W.Frag) (mg : Str → Option Value) (base : Heap) (k : Nat) (C : Addr) (op : Operator) (sp : Sp) : Prop where
  ex : ∃ (f : Addr) (fd : FuncData) (ps : List Str), FnG P w K mg base CX k f fd ps sp ∧ MOp K C f op ∧ Binds K fd ps []
section
variable {P : Program} {w : World} {K : PySem.W.Frag} {mg : Str → Option Value} {base : Heap} {C : Addr} {qual : Str} {st : Stmt} {N ps : List Str} {k : Nat} {sp : Sp} {op : Operator}
theorem DfB.okX (F : DfB K C op qual st ps) (S : FnScope N ps (defScope st)) (len : ∀ vs H Q E, sp vs H Q E → vs.length = ps.length)
    (body : ∀ (f : Addr) (cdv : Value) (A : Around) (outer : List Env) (s : Shared) (H : Hp) (vs : List V) (Q : VK) (E : XK),
      RoomG k (A.deeper (envOfC qual (defScope st) s.heap.objs.size f cdv)) → sp vs H Q E →
      ∃ t, PSs (cxOf (L2N.CX P w) P w K mg base N qual (defScope st) f cdv A outer s H E) (defBody st) t ∧
        t { nx := fun _ H' => Q .non H', rt := Q } (start N vs) H) : DnB (L2N.CX P w) P w K mg base (k + 1) C op sp := by
  obtain ⟨f, fd, F, b, m⟩ := F.ex
  exact ⟨f, fd, ps, okG F S len (body f), m, b⟩
end
end My
set_option Elab.async false
set_option linter.all false
set_option maxRecDepth 100000
namespace VL
open PySem PySem.Spec PyProof.Rows L2
end VL
set_option Elab.async false
set_option linter.all false
set_option maxRecDepth 100000
namespace VL
open PySem PySem.Spec PyProof.Rows L2
end VL
set_option linter.all false
set_option maxRecDepth 100000
set_option Elab.async false
namespace VT
open PySem VL
end VT
set_option Elab.async false
set_option linter.all false
set_option maxRecDepth 100000
namespace VL
open PySem PySem.Spec PyProof.Rows L2
end VL
set_option linter.all false
set_option maxRecDepth 100000
set_option Elab.async false
namespace VT
open PySem PySem.Spec PyProof.Rows VL
end VT
set_option linter.all false
set_option maxRecDepth 100000
set_option synthInstance.maxSize 2000
set_option Elab.async false
set_option Elab.async false
set_option linter.all false
set_option maxRecDepth 100000
namespace VL
open PySem PySem.Spec PyProof.Rows L2
def shw (a : PV) : Str := (dat a).shown
def shwOk (a : PV) : Bool := (dat a).canLay0 && ((dat a).showable && (decide ((dat a).depth ≤ 64) && (PyData.strOk (shw a) && decide ((shw a).length ≤ sizeLine))))
def oRepr : List PV → Option PV
  | [a] => if shwOk a = true then some (.str (shw a)) else none
  | _ => none
def rRepr (K : PySem.W.Frag) : List V → Hp → VK → Prop := fun xs H Q => ∃ v d, xs = [v] ∧ Dp K H v d ∧ d.showable = true ∧ d.hasDict = false ∧ d.depth ≤ 64 ∧ d.shown.length ≤ sizeLine ∧ Q (.str d.shown) H
theorem call_reprG {X : Cx} {k : Nat} (r : My.RoomG k X.A) : CallR X (.builtin "repr") (rRepr X.K) := by
  intro pins s σ H xs us Q I rv h
  obtain ⟨v, d, rfl, hd, sh, nd, dp, ln, q⟩ := h
  obtain ⟨u, rfl, ru⟩ := vals1 rv
  obtain ⟨as, R⟩ := Dp.reads I d v u hd ru
  have un := r.un
  have go : ∀ a, u = .ref a → wpAny (model X.prog X.w) X.A (call (.builtin "repr") [u]) (EP X pins σ Q) X.xe s := fun a e => by
    subst e
    exact repr_of_reads' R sh (PyData.noDict_hsm nd) r.gd (by omega) (fun _ _ e => e) (fun h' w tk keep => ⟨.str d.shown, H, I.kept keep, ⟨w, rfl⟩, q⟩) ln
  cases R with
  | none => exact PySem.P.repr_of_none ⟨.str _, H, I.tok _, ⟨_, rfl⟩, q⟩
  | bool b => exact PySem.P.repr_of_bool ⟨.str _, H, I.tok _, ⟨_, rfl⟩, q⟩
  | int i t => exact PySem.P.repr_of_int (by simpa [PyData.showable] using sh) ⟨.str _, H, I.tok _, ⟨_, rfl⟩, q⟩
  | str x t => exact PySem.P.repr_of_str ⟨.str _, H, I.tok _, ⟨_, rfl⟩, q⟩ (by simpa [PyData.shown] using ln)
  | list h1 h2 h3 h4 => exact go _ rfl
  | tuple h1 h2 h3 h4 => exact go _ rfl
  | dict h1 h2 h3 h4 h5 => exact go _ rfl
theorem f_repr {T : Tb} : Fnv T oRepr (rRepr T.K) := by
  intro H l as c vs Q k hl hm e q
  unfold oRepr at e
  split at e
  · rename_i a
    split at e
    · rename_i ok
      cases e
      unfold shwOk at ok
      simp only [Bool.and_eq_true, decide_eq_true_eq] at ok
      obtain ⟨v0, rfl, m0⟩ := one_arg rfl hl hm
      exact ⟨v0, dat a, rfl, k.dp m0 ok.1, ok.2.1, PyData.hasDict_of_canLay _ ok.1, ok.2.2.1, ok.2.2.2.2, q _ _ k.str⟩
    · cases e
  · cases e
end VL
set_option linter.all false
set_option maxRecDepth 100000
set_option Elab.async false
namespace VT
open PySem PySem.Spec PyProof.Rows VL
def rtx (a : PV) : OS := if h : PyData.strOk (shw a) = true then ⟨shw a, h⟩ else lit ""
def trepr (a : PV) : TX OS := if shwOk a = true then .ok (rtx a) else .no
theorem trepr_ok {a : PV} (h : shwOk a = true) : trepr a = .ok (rtx a) := by simp [trepr, h]
theorem shwOk_str {a : PV} (h : shwOk a = true) : PyData.strOk (shw a) = true := by
  unfold shwOk at h
  simp only [Bool.and_eq_true] at h
  exact h.2.2.2.1
theorem shwOk_dat {a b : PV} (e : dat b = dat a) : shwOk b = shwOk a ∧ shw b = shw a := by
  have h : shw b = shw a := by unfold shw; rw [e]
  exact ⟨by unfold shwOk; rw [h, e], h⟩
theorem os_repr {a b : PV} (e : dat b = dat a) : OS1 (oRepr [b]) (trepr a) kS := by
  obtain ⟨e1, e2⟩ := shwOk_dat e
  intro g hg
  unfold trepr at hg
  split at hg
  · rename_i h
    cases hg
    have s := shwOk_str h
    simp only [oRepr, e1, if_pos h, e2, kS, rtx, dif_pos s]
  · cases hg
theorem nx_repr {a : PV} : NoEx (trepr a) := by intro c ys h; unfold trepr at h; split at h <;> cases h
/-- what is told of d: at most n signs, at most k deep -/
structure Sh (n k : Nat) (d : PyData) : Prop where
  lay : d.canLay0 = true
  num : d.showable = true
  dep : d.depth ≤ k
  str : PyData.strOk d.shown = true
  len : d.shown.length ≤ n
theorem Sh.ok {n k : Nat} {a : PV} (h : Sh n k (dat a)) (hn : n ≤ sizeLine) (hk : k ≤ 64) : shwOk a = true := by
  unfold shwOk shw
  simp only [Bool.and_eq_true, decide_eq_true_eq]
  exact ⟨h.lay, h.num, Nat.le_trans h.dep hk, h.str, Nat.le_trans h.len hn⟩
theorem Sh.mono {n m k l : Nat} {d : PyData} (h : Sh n k d) (hn : n ≤ m) (hk : k ≤ l) : Sh m l d := ⟨h.lay, h.num, Nat.le_trans h.dep hk, h.str, Nat.le_trans h.len hn⟩
theorem strOk_app {x y : Str} (h : PyData.strOk x = true) (h2 : PyData.strOk y = true) : PyData.strOk (x ++ y) = true := by
  show PyData.strOk ⟨x.cps ++ y.cps⟩ = true
  unfold PyData.strOk at *
  simp only [Array.all_eq_true', decide_eq_true_eq] at *
  intro c hc
  rcases Array.mem_append.mp hc with hc | hc
  · exact h c hc
  · exact h2 c hc
theorem strOk_of (s : String) : PyData.strOk (Str.ofString s) = true := by
  rw [Str.ofString_eq_toList]
  unfold PyData.strOk
  simp only [Array.all_eq_true', decide_eq_true_eq]
  intro c hc
  obtain ⟨ch, _, rfl⟩ := List.mem_map.mp (by simpa using hc)
  have := ch.valid
  simp only [UInt32.isValidChar, Nat.isValidChar] at this
  show ch.val.toNat < _
  omega
theorem sh_int {i : Int} (h : i.natAbs.log2 < 1920) : Sh 1921 0 (.int i) := ⟨by simp [PyData.canLay0], by simpa [PyData.showable] using h, by simp [PyData.depth], by simp only [PyData.shown]; exact strOk_of _, by simp only [PyData.shown]; exact int_text_len_1921 h⟩
theorem shownAll_eq : ∀ ds : List PyData, PyData.shownAll ds = ds.map PyData.shown
  | [] => by simp [PyData.shownAll]
  | d :: ds => by simp only [PyData.shownAll, List.map_cons, shownAll_eq ds]
theorem strOk_join : ∀ ts : List Str, (∀ t ∈ ts, PyData.strOk t = true) → PyData.strOk (Str.join ", " ts) = true
  | [], _ => by decide +kernel
  | [t], h => h t List.mem_cons_self
  | t :: u :: ts, h => by
    show PyData.strOk (t ++ (", " : String) ++ Str.join ", " (u :: ts)) = true
    exact strOk_app (strOk_app (h t List.mem_cons_self) (strOk_of _)) (strOk_join (u :: ts) fun x hx => h x (List.mem_cons_of_mem _ hx))
theorem piled_le {n m : Nat} : ∀ {ts : List Str}, (∀ t ∈ ts, t.length ≤ n) → ts.length ≤ m → piled ts ≤ m * (n + 2)
  | [], _, _ => by rw [piled_nil]; exact Nat.zero_le _
  | t :: ts, h, hm => by
    rw [piled_cons]
    obtain ⟨m, rfl⟩ : ∃ m', m = m' + 1 := ⟨m - 1, by simp at hm; omega⟩
    have := piled_le (n := n) (m := m) (ts := ts) (fun x hx => h x (List.mem_cons_of_mem _ hx)) (by simpa using hm)
    have := h t List.mem_cons_self
    rw [Nat.succ_mul]
    omega
theorem join_le {n m : Nat} {ts : List Str} (h : ∀ t ∈ ts, t.length ≤ n) (hm : ts.length ≤ m) : (Str.join ", " ts).length ≤ m * (n + 2) := by
  by_cases e : ts = []
  · subst e
    exact Nat.le_trans (show (Str.join ", " []).length ≤ 0 by decide +kernel) (Nat.zero_le _)
  · have := join_length_add ts e
    have := piled_le h hm
    omega
theorem sh_list {n k m : Nat} {ds : List PyData} (h : ∀ d ∈ ds, Sh n k d) (hm : ds.length ≤ m) : Sh (m * (n + 2) + 2) (k + 1) (.list ds) := by
  have e : (PyData.list ds).shown = ("[" : Str) ++ Str.join ", " (ds.map PyData.shown) ++ "]" := by simp only [PyData.shown]; rw [shownAll_eq, listText_eq_join]
  refine ⟨by simp only [PyData.canLay0]; exact canAll.mpr fun d hd => (h d hd).lay, ?_, by simp only [PyData.depth]; have := depAll.mpr fun d hd => (h d hd).dep; omega, ?_, ?_⟩
  · simp only [PyData.showable]
    clear hm e
    induction ds with
    | nil => simp [PyData.showableAll]
    | cons d ds ih => simp only [PyData.showableAll, (h d List.mem_cons_self).num, Bool.true_and]; exact ih fun x hx => h x (List.mem_cons_of_mem _ hx)
  · rw [e]
    exact strOk_app (strOk_app (strOk_of _) (strOk_join _ fun t ht => by obtain ⟨d, hd, rfl⟩ := List.mem_map.mp ht; exact (h d hd).str)) (strOk_of _)
  · rw [e, strLen_append, strLen_append]
    have := join_le (n := n) (m := m) (ts := ds.map PyData.shown) (fun t ht => by obtain ⟨d, hd, rfl⟩ := List.mem_map.mp ht; exact (h d hd).len) (by simpa using hm)
    have e1 : ("[" : Str).length = 1 := by decide +kernel
    have e2 : (("]" : String) : Str).length = 1 := by decide +kernel
    omega
end VT
set_option linter.all false
set_option maxRecDepth 100000
set_option synthInstance.maxSize 2000
set_option Elab.async false
set_option Elab.async false
set_option linter.all false
set_option maxRecDepth 100000
namespace VL
open PySem PySem.Spec PyProof.Rows L2 L2H HotX
theorem _root_.L2H.RoomH.units {k : Nat} {A : Around} (r : RoomH k A) : A.units + 64 < cLine := by have := r.un; omega
end VL
set_option Elab.async false
set_option linter.all false
set_option maxRecDepth 100000
namespace VL
open PySem PySem.Spec PyProof.Rows L2
end VL
set_option linter.all false
set_option maxRecDepth 100000
set_option Elab.async false
namespace VT
open PySem PySem.Spec PyProof.Rows VL
end VT
set_option linter.all false
set_option maxRecDepth 100000
set_option synthInstance.maxSize 2000
set_option Elab.async false
set_option linter.all false
set_option maxRecDepth 100000
set_option Elab.async false
namespace VT
open PySem PySem.Spec PyProof.Rows VL
section
variable {α : Type}
instance {E : Fl → α → PV} [FlE E] : FlE (fun o => kO (E o)) := ⟨fun o a => by cases a with
  | none => rfl
  | some a => exact FlE.io (E := E) o a, fun o a => by cases a with
  | none => rfl
  | some a => exact FlE.ne (E := E) o a, fun o a => by cases a with
  | none => rfl
  | some a => exact FlE.em (E := E) o a, fun a => by cases a with
  | none => rfl
  | some a => exact FlE.iw (E := E) a⟩
instance {E : Fl → α → PV} [FlZ E] : FlZ (fun o => kO (E o)) := ⟨fun o a => by cases a with
  | none => rfl
  | some a => exact FlZ.sf (E := E) o a, fun a => by cases a with
  | none => rfl
  | some a => exact FlZ.fo (E := E) a⟩
end
end VT
set_option linter.all false
set_option maxRecDepth 100000
set_option synthInstance.maxSize 2000
set_option Elab.async false
set_option Elab.async false
set_option linter.all false
set_option maxRecDepth 100000
namespace VL
open PySem PySem.Spec PyProof.Rows L2
end VL
set_option linter.all false
set_option maxRecDepth 100000
set_option Elab.async false
namespace VT
open PySem PySem.Spec PyProof.Rows VL
end VT
set_option linter.all false
set_option maxRecDepth 100000
set_option synthInstance.maxSize 2000
set_option Elab.async false
set_option Elab.async false
set_option linter.all false
set_option maxRecDepth 100000
namespace VL
open PySem PySem.Spec PyProof.Rows L2
def tupD : PyData → Bool
  | .tuple (_ :: _) => true
  | _ => false
end VL
namespace VL
open PySem PySem.Spec PyProof.Rows L2
end VL
set_option linter.all false
set_option maxRecDepth 100000
set_option Elab.async false
namespace VT
open PySem PySem.Spec PyProof.Rows VL
/-- data with an order of their own -/
class Od {α : Type} [DecidableEq α] (e : α → PV) where
  lt : α → α → Bool
  al : ∀ a b, PySem.W.alike (dat (e a)) (dat (e b)) = true
  lt_eq : ∀ a b, PySem.W.dataLt (dat (e a)) (dat (e b)) = lt a b
  ev : ∀ a b, PyData.eqv (dat (e a)) (dat (e b)) = decide (a = b)
instance : Od PV.int where
  lt a b := decide (a < b)
  al a b := by simp [dat, PySem.W.alike]
  lt_eq a b := by show PySem.W.dataLt (dat (.int a)) (dat (.int b)) = _; rw [dat_int, dat_int]; exact PySem.W.dataLt_int a b
  ev a b := by simp [dat, PyData.eqv]; rfl
section
variable {α β : Type} [DecidableEq α] [DecidableEq β] {e : α → PV} {f : β → PV} [Od e] [Od f]
def ltL (e : α → PV) [Od e] : List α → List α → Bool
  | [], [] => false
  | [], _ :: _ => true
  | _ :: _, [] => false
  | x :: xs, y :: ys => if x = y then ltL e xs ys else Od.lt e x y
def ltP2 (e : α → PV) (f : β → PV) [Od e] [Od f] (p q : α × β) : Bool := if p.1 = q.1 then Od.lt f p.2 q.2 else Od.lt e p.1 q.1
theorem lt_irr (a : α) : Od.lt e a a = false := by rw [← Od.lt_eq]; exact PyProof.Rows.lex_irrefl _
theorem al_all : ∀ xs ys : List α, PySem.W.alikeAll (xs.map fun a => dat (e a)) (ys.map fun a => dat (e a)) = true
  | [], _ => by rw [List.map_nil, PySem.W.alikeAll]
  | _ :: _, [] => by rw [List.map_nil, List.map_cons, PySem.W.alikeAll]
  | x :: xs, y :: ys => by
    rw [List.map_cons, List.map_cons, PySem.W.alikeAll, Od.al x y, al_all xs ys]
    rfl
theorem lx_all : ∀ xs ys : List α, PyProof.Rows.lexLt PyProof.Rows.itemOrd (PySem.W.keyToksAll (xs.map fun a => dat (e a))) (PySem.W.keyToksAll (ys.map fun a => dat (e a))) = ltL e xs ys
  | [], [] => PyProof.Rows.lex_irrefl _
  | [], y :: ys => by
    rw [List.map_nil, List.map_cons, PySem.W.toks_all_cons]
    simp only [PySem.W.keyToksAll]
    rw [PyProof.Rows.lex_diff (O := PyProof.Rows.itemOrd) (by simp)]
    rfl
  | x :: xs, [] => by
    rw [List.map_nil, List.map_cons, PySem.W.toks_all_cons]
    simp only [PySem.W.keyToksAll]
    rw [PyProof.Rows.lex_diff (O := PyProof.Rows.itemOrd) (by simp)]
    rfl
  | x :: xs, y :: ys => by
    rw [List.map_cons, List.map_cons, ltL]
    by_cases h : x = y
    · rw [if_pos h, PySem.W.dataLt_all_yes (Od.al x y) (by rw [Od.ev, decide_eq_true_eq]; exact h), lx_all xs ys]
    · rw [if_neg h, PySem.W.dataLt_all_no (Od.al x y) (by rw [Od.ev, decide_eq_false_iff_not]; exact h)]
      exact Od.lt_eq x y
theorem dat_kT (xs : List α) : dat (kT e xs) = .tuple (xs.map fun a => dat (e a)) := by
  unfold kT
  rw [dat_tup, List.map_map]
  rfl
theorem eqv_all : ∀ xs ys : List α, PyData.eqvAll (xs.map fun a => dat (e a)) (ys.map fun a => dat (e a)) = decide (xs = ys)
  | [], [] => by simp [PyData.eqvAll]
  | [], _ :: _ => by simp [PyData.eqvAll]
  | _ :: _, [] => by simp [PyData.eqvAll]
  | x :: xs, y :: ys => by
    simp only [List.map_cons, PyData.eqvAll, Od.ev, eqv_all xs ys]
    by_cases h : x = y <;> by_cases h2 : xs = ys <;> simp [h, h2]
instance : Od (kT e) where
  lt := ltL e
  al xs ys := by rw [dat_kT, dat_kT]; simp only [PySem.W.alike]; exact al_all (e := e) xs ys
  lt_eq xs ys := by rw [dat_kT, dat_kT]; exact (PySem.W.dataLt_tuple _ _).trans (lx_all (e := e) xs ys)
  ev xs ys := by rw [dat_kT, dat_kT]; simp only [PyData.eqv]; exact eqv_all (e := e) xs ys
theorem dat_kP2 (p : α × β) : dat (kP2 e f p) = .tuple [dat (e p.1), dat (f p.2)] := by
  unfold kP2
  rw [dat_tup]
  rfl
instance : Od (kP2 e f) where
  lt := ltP2 e f
  al p q := by
    rw [dat_kP2, dat_kP2]
    simp only [PySem.W.alike, PySem.W.alikeAll, Od.al, Bool.and_self]
  lt_eq p q := by
    rw [dat_kP2, dat_kP2, PySem.W.dataLt_pair (Od.al p.1 q.1) (Od.al p.2 q.2), Od.ev, Od.ev, Od.lt_eq, Od.lt_eq]
    unfold ltP2
    by_cases h : p.1 = q.1
    · rw [if_pos (decide_eq_true h), if_pos h]
      by_cases h2 : p.2 = q.2
      · rw [if_pos (decide_eq_true h2), h2, lt_irr]
      · rw [if_neg (by simpa using h2)]
    · rw [if_neg (by simpa using h), if_neg h]
  ev p q := by
    rw [dat_kP2, dat_kP2]
    simp only [PyData.eqv, PyData.eqvAll, Od.ev]
    obtain ⟨a, b⟩ := p
    obtain ⟨c, d⟩ := q
    by_cases h : a = c <;> by_cases h2 : b = d <;> simp [h, h2]
/-- what may be sorted, and isn't what another rule sorts -/
class SoD (e : α → PV) : Prop where
  tup : ∀ a, tupD (dat (e a)) = true
  no1 : ∀ a r, intsOf (e a :: r) = none
  no2 : ∀ a r, pairsI (e a :: r) = none
instance {α : Type} {e : α → PV} : SoD (kP2 PV.int (kT e)) := ⟨fun a => by unfold kP2; rw [dat_tup]; rfl, fun _ _ => rfl, fun _ _ => rfl⟩
instance {α : Type} {e : α → PV} : SoD (kP2 (kT e) PV.int) := ⟨fun a => by unfold kP2; rw [dat_tup]; rfl, fun _ _ => rfl, fun _ _ => rfl⟩
end
end VT
set_option linter.all false
set_option maxRecDepth 100000
set_option synthInstance.maxSize 2000
set_option Elab.async false
set_option Elab.async false
set_option linter.all false
set_option maxRecDepth 100000
namespace VL
open PySem PySem.Spec PyProof.Rows L2
end VL
namespace VL
open PySem PySem.Spec PyProof.Rows L2
end VL
set_option linter.all false
set_option maxRecDepth 100000
set_option Elab.async false
namespace VT
open PySem PySem.Spec PyProof.Rows VL
end VT
set_option linter.all false
set_option maxRecDepth 100000
set_option synthInstance.maxSize 2000
set_option Elab.async false
set_option Elab.async false
set_option linter.all false
set_option maxRecDepth 100000
namespace VL
open PySem PySem.Spec PyProof.Rows L2
end VL
set_option Elab.async false
set_option linter.all false
set_option maxRecDepth 100000
namespace VL
open PySem PySem.Spec PyProof.Rows L2
end VL
set_option Elab.async false
set_option linter.all false
set_option maxRecDepth 100000
set_option maxHeartbeats 4000000
namespace L2
open PySem PySem.Spec PyProof.Rows
end L2
namespace L2
open PySem PySem.Spec PyProof.Rows
end L2
namespace VL
open PySem PySem.Spec PyProof.Rows L2
end VL
set_option linter.all false
set_option maxRecDepth 100000
set_option Elab.async false
namespace VT
open PySem PySem.Spec PyProof.Rows VL
end VT
set_option linter.all false
set_option maxRecDepth 100000
set_option synthInstance.maxSize 2000
set_option Elab.async false
set_option linter.all false
set_option maxRecDepth 100000
set_option Elab.async false
namespace VT
open PySem PySem.Spec PyProof.Rows VL
section
variable {α β γ : Type}
def boA : Option Bool → List PV
  | none => []
  | some b => [.bl b]
def kA (o : Fl) (e : α → PV) (p : OS × α × Option Bool) : PV := .lst o (kS p.1 :: e p.2.1 :: boA p.2.2)
instance {e : α → PV} : Fz (kA .fz e) := ⟨fun _ => rfl⟩
instance {e : α → PV} : FlE (fun o => kA o e) := ⟨fun o a => by cases o <;> rfl, fun _ _ => rfl, fun _ _ => rfl, fun _ => rfl⟩
instance {e : α → PV} : FlZ (fun o => kA o e) := ⟨fun _ _ => rfl, fun _ => rfl⟩
end
section
variable {ρ : List PV} {h1 h2 : Hd}
def tshl (x y : Int) : TX Int := if decide (0 ≤ y ∧ y ≤ 1000000 ∧ x.natAbs < 2 ^ 64) = true then .ok (x * 2 ^ y.toNat) else .no
theorem os_shl {x y : Int} (ha : hv ρ h1 = .int x) (hb : hv ρ h2 = .int y) : OS1 (oShl (hv ρ h1) (hv ρ h2)) (tshl x y) PV.int := by
  intro g hg
  rw [ha, hb]
  unfold tshl at hg
  show (if _ then _ else _) = _
  split at hg
  · rename_i h
    cases hg
    rw [if_pos h]
  · cases hg
theorem nx_shl {x y : Int} : NoEx (tshl x y) := by intro c ys h; unfold tshl at h; split at h <;> cases h
end
instance {β γ : Type} {f : β → PV} {g : γ → PV} : Dj PV.int (kP2 f g) := ⟨fun n a b => by cases n <;> rfl, fun n a b => by cases n <;> rfl⟩
instance {β γ : Type} {f : β → PV} {g : γ → PV} : Dj kS (kP2 f g) := ⟨fun n a b => by cases n <;> rfl, fun n a b => by cases n <;> rfl⟩
def dcP {α β : Type} (d : PV → Option α) (d' : PV → Option β) : PV → Option (α × β)
  | .tup [p, q] => (d p).bind fun a => (d' q).map fun b => (a, b)
  | _ => none
instance {α β : Type} {e : α → PV} {f : β → PV} [Dc e] [Dc f] : Dc (kP2 e f) := ⟨dcP (Dc.dc e) (Dc.dc f), fun p ab h => (by
  unfold dcP at h
  split at h
  · rename_i x y
    cases h1 : Dc.dc (e := e) x with
    | none => rw [h1] at h; cases h
    | some a =>
      rw [h1] at h
      cases h2 : Dc.dc (e := f) y with
      | none => rw [h2] at h; cases h
      | some b =>
        rw [h2] at h
        cases h
        rw [Dc.ok _ _ h1, Dc.ok _ _ h2]
        rfl
  · cases h), fun ab => (by
  show (Dc.dc (e := e) (e ab.1)).bind _ = _
  rw [Dc.re, Option.bind_some, Dc.re]
  rfl)⟩
end VT
set_option linter.all false
set_option maxRecDepth 100000
set_option synthInstance.maxSize 2000
set_option Elab.async false
namespace Law
open VL VT PySem
@[irreducible] def t_power (a_base : Int) (a_exponent : Int) : TX Int :=
TX.bind (trg 0 a_exponent) fun v1 =>
TX.bind (tfold v1 ((1 : Int) : (Int)) fun s3 x2 =>
TX.bind (tmul s3 a_base) fun v8 =>
.ok v8) fun s9 =>
.ok s9
end Law
set_option linter.all false
set_option maxRecDepth 100000
set_option Elab.async false
namespace VT
open PySem PySem.Spec PyProof.Rows VL
section
variable {α β γ δ : Type}
def boE (e : α → PV) (f : β → PV) (g : γ → PV) : α ⊕ (β × γ) → List PV
  | .inl a => [e a]
  | .inr p => [f p.1, g p.2]
def kE (o : Fl) (e : α → PV) (f : β → PV) (g : γ → PV) (x : OS × (α ⊕ (β × γ))) : PV := .lst o (kS x.1 :: boE e f g x.2)
variable {e : α → PV} {f : β → PV} {g : γ → PV}
instance : Fz (kE .fz e f g) := ⟨fun _ => rfl⟩
instance : FlE (fun o => kE o e f g) := ⟨fun o a => by cases o <;> rfl, fun _ _ => rfl, fun _ _ => rfl, fun _ => rfl⟩
instance : FlZ (fun o => kE o e f g) := ⟨fun _ _ => rfl, fun _ => rfl⟩
end
end VT
set_option linter.all false
set_option maxRecDepth 100000
set_option synthInstance.maxSize 2000
set_option Elab.async false
set_option Elab.async false
set_option linter.all false
set_option maxRecDepth 100000
namespace My
open PySem PySem.Spec PyProof.Rows L2
end My
namespace VL
open PySem PySem.Spec PyProof.Rows L2
end VL
set_option linter.all false
set_option maxRecDepth 100000
set_option Elab.async false
namespace VT
open PySem PySem.Spec PyProof.Rows VL
end VT
set_option linter.all false
set_option maxRecDepth 100000
set_option Elab.async false
namespace VT
open PySem PySem.Spec PyProof.Rows VL
end VT
namespace Law
open VL VT PySem
instance : DecidableEq O_Forest := fun a b => if h : a.fields = b.fields ∧ a.parents = b.parents ∧ a.kinds = b.kinds then
    isTrue (by
      obtain ⟨h1, h2, h3⟩ := h
      cases a
      cases b
      simp only at h1 h2 h3
      rw [h1, h2, h3])
  else isFalse (by rintro rfl; exact h ⟨rfl, rfl, rfl⟩)
instance : Sm (kC_Forest .fz) := ⟨fun n a b h _ => by cases n <;> cases h⟩
instance : Dj PV.int (kC_Forest .fz) := ⟨fun n a b => by cases n <;> rfl, fun n a b => by cases n <;> rfl⟩
end Law
set_option linter.all false
set_option maxRecDepth 100000
set_option synthInstance.maxSize 2000
set_option Elab.async false
set_option linter.all false
set_option maxRecDepth 100000
set_option Elab.async false
namespace VT
open PySem PySem.Spec PyProof.Rows VL
inductive Tr where
  | lf (s : OS)
  | nd (f : Int) (a b c : Tr)
  deriving DecidableEq
def kTr : Tr → PV
  | .lf s => kS s
  | .nd f a b c => .tup [.int f, kTr a, kTr b, kTr c]
instance : Fz kTr := ⟨fun a => by cases a <;> rfl⟩
instance : NN kTr := ⟨fun a n => by cases a <;> rfl, fun a => by cases a with
  | lf s => exact NN.nd (e := kS) s
  | nd f a b c => exact NN.nd (e := kP2 kU kU) ((), ()) |> fun _ => ⟨eqv_n1 (by simp [kTr, dat]), eqv_n2 (by simp [kTr, dat])⟩⟩
def getTL : Tr → Option OS
  | .lf s => some s
  | .nd _ _ _ _ => none
def getTR : Tr → Option (Int × Tr × Tr × Tr)
  | .lf _ => none
  | .nd f a b c => some (f, a, b, c)
@[simp] theorem getTL_lf (s : OS) : getTL (.lf s) = some s := rfl
@[simp] theorem getTR_nd (f : Int) (a b c : Tr) : getTR (.nd f a b c) = some (f, a, b, c) := rfl
@[simp] theorem getTL_nd (f : Int) (a b c : Tr) : getTL (.nd f a b c) = none := rfl
@[simp] theorem getTR_lf (s : OS) : getTR (.lf s) = none := rfl
/-- u for an end, v for an ask -/
def isL (t : Tr) (u v : Bool) : Bool := match t with
  | .lf _ => u
  | .nd _ _ _ _ => v
@[simp] theorem isL_lf (s : OS) (u v : Bool) : isL (.lf s) u v = u := rfl
@[simp] theorem isL_nd (f : Int) (a b c : Tr) (u v : Bool) : isL (.nd f a b c) u v = v := rfl
end VT
set_option Elab.async false
set_option linter.all false
set_option maxRecDepth 100000
namespace VL
open PySem PySem.Spec PyProof.Rows L2
end VL
set_option linter.all false
set_option maxRecDepth 100000
set_option Elab.async false
namespace VT
open PySem PySem.Spec PyProof.Rows VL
end VT
set_option linter.all false
set_option maxRecDepth 100000
set_option synthInstance.maxSize 2000
set_option Elab.async false
namespace Law
open VL VT PySem
structure O_Book where
  fields : Int
  trees : (List Tr)
def kC_Book (o : Fl) (x : O_Book) : PV := .obj o "Book" [PV.int x.fields, (kT kTr) x.trees]
instance : Fz (kC_Book .fz) := ⟨fun _ => rfl⟩
instance : FlE (fun o => kC_Book o) := ⟨fun o a => by cases o <;> rfl, fun _ _ => rfl, fun _ _ => rfl, fun _ => rfl⟩
end Law
set_option linter.all false
set_option maxRecDepth 100000
set_option synthInstance.maxSize 2000
set_option Elab.async false
set_option Elab.async false
set_option linter.all false
set_option maxRecDepth 100000
namespace VL
open PySem PySem.Spec PyProof.Rows L2
def KT (T : Tb) (mg : Str → Option Value) (x : Str) (a : PV) : Prop := ∃ A, mg x = some (.ref A) ∧ KVal T a (.ref A)
end VL
set_option linter.all false
set_option maxRecDepth 100000
set_option Elab.async false
namespace VT
open PySem PySem.Spec PyProof.Rows VL
end VT
namespace VT
open PySem PySem.Spec PyProof.Rows VL
end VT
namespace VT
open PySem PySem.Spec PyProof.Rows VL
end VT
set_option linter.all false
set_option maxRecDepth 100000
set_option synthInstance.maxSize 2000
set_option Elab.async false
set_option linter.all false
set_option maxRecDepth 100000
set_option synthInstance.maxSize 2000
set_option Elab.async false
set_option linter.all false
set_option maxRecDepth 100000
set_option synthInstance.maxSize 2000
set_option Elab.async false
set_option Elab.async false
set_option linter.all false
set_option maxRecDepth 100000
namespace VL
open PySem PySem.Spec PyProof.Rows L2
end VL
set_option Elab.async false
set_option linter.all false
set_option maxRecDepth 100000
namespace VL
open PySem PySem.Spec PyProof.Rows L2
def rCntS (K : PySem.W.Frag) : V → List V → Hp → VK → Prop := fun x xs H Q => ∃ (p : Addr) (ys : List Str) (k : Str), x = .ref p ∧ xs = [.str k] ∧ SqL K H p (ys.map V.str) ∧ Q (.int (ys.count k : Nat)) H
theorem cnt_str {k : Str} : ∀ {us : List Value} {ys : List Str}, StrsAre us ys → us.countP (isStrOf k) = ys.count k
  | _, _, .nil => rfl
  | _, _, .cons n t h => by
    have ih := cnt_str (k := k) h
    rw [List.countP_cons, List.count_cons, ih] <;> rfl
theorem mt_lcountS {X : Cx} : MtR X "list.count" (rCntS X.K) := by
  intro pins s σ H x xs v us Q I rx rxs h
  obtain ⟨p, ns, k, rfl, rfl, hs, q⟩ := h
  cases rx
  obtain ⟨u, rfl, ru⟩ := rxs.one
  obtain ⟨t, rfl⟩ := ru
  obtain ⟨its, rv, ⟨⟨cls, dd, data, sl⟩, n, ho, hc, hdn, hd⟩, hlen⟩ := I.list hs
  simp only at hc hd
  subst hc hd
  have hi := Vals.strs rv
  refine call_meets PySem.F.slot_list_count ⟨_, ho, rfl⟩ PySem.F.entry_list_count (PySem.F.args_list_count_2 _ _)
    (SeqAt.list_countAt p its.toArray n dd sl (.str k t) (isStrOf k)) ⟨ho, fun y hy => (eq_isStrOf k t hi y (by simpa using hy)).at _ _, ?_⟩
  have ec : its.toArray.toList.countP (isStrOf k) = ns.count k := cnt_str hi
  refine ⟨.int (ns.count k : Nat), H, I.tok _, ⟨s.toks, ?_⟩, q⟩
  show Value.int ((its.toArray.toList.countP (isStrOf k) : Nat) : Int) s.toks = Value.int ((ns.count k : Nat) : Int) s.toks
  rw [ec]
def rCnt2 (K : PySem.W.Frag) : V → List V → Hp → VK → Prop := fun x xs H Q => rCntI K x xs H Q ∨ rCntS K x xs H Q
theorem mt_lcount2 {X : Cx} : MtR X "list.count" (rCnt2 X.K) := by
  intro pins s σ H x xs v us Q I rx rxs h
  rcases h with h | h
  · exact mt_lcount _ _ _ _ _ _ _ _ _ I rx rxs h
  · exact mt_lcountS _ _ _ _ _ _ _ _ _ I rx rxs h
def txtsOf : List PV → Option (List Str)
  | [] => some []
  | .str i :: r => (txtsOf r).map (i :: ·)
  | _ :: _ => none
theorem txtsOf_ok : ∀ {xs : List PV} {ns : List Str}, txtsOf xs = some ns → xs = ns.map .str
  | [], ns, h => by cases h; rfl
  | .str i :: r, ns, h => by
    simp only [txtsOf] at h
    obtain ⟨ms, e, rfl⟩ := Option.map_eq_some_iff.mp h
    rw [txtsOf_ok e]; rfl
  | .emp :: _, _, h | .non :: _, _, h | .bl _ :: _, _, h | .int _ :: _, _, h | .tup _ :: _, _, h | .lst _ _ :: _, _, h | .dK _ _ _ :: _, _, h | .dN _ _ _ :: _, _, h | .obj _ _ _ :: _, _, h | .scr _ :: _, _, h | .ty _ :: _, _, h | .cls _ :: _, _, h | .err _ _ _ :: _, _, h => by cases h
theorem reps_txts {T : Tb} {F : Hp} : ∀ {ns : List Str} {vs : List V}, Reps T F (ns.map .str) vs → vs = ns.map V.str
  | [], vs, r => by
    have : vs = ([] : List V) := by simpa only [Reps, List.map_nil] using r
    subst this; rfl
  | n :: ns, _, r => by
    rw [List.map_cons] at r
    obtain ⟨w, ws, rfl, h1, _, h2⟩ := r.inv
    simp only [Rep] at h1
    subst h1
    rw [List.map_cons, reps_txts h2]
def oCnt2 : PV → List PV → Option PV
  | .lst _ xs, [.int k] => (intsOf xs).map fun ns => .int ((ns.count k : Nat) : Int)
  | .lst _ xs, [.str k] => (txtsOf xs).map fun ns => .int ((ns.count k : Nat) : Int)
  | _, _ => none
theorem m_count2 {T : Tb} : Mtv T oCnt2 (rCnt2 T.K) := by
  intro H l a c as v vs Q k m hl hm e q
  unfold oCnt2 at e
  split at e
  · rename_i o xs i
    refine .inl (m_count (T := T) H l (.lst o xs) c [.int i] v vs Q k m hl hm ?_ q)
    exact e
  · rename_i o xs i
    obtain ⟨ns, e1, rfl⟩ := Option.map_eq_some_iff.mp e
    have := txtsOf_ok e1
    subst this
    obtain ⟨v0, rfl, m0⟩ := one_arg rfl hl hm
    have ev0 := k.g_str m0
    obtain ⟨p, vs, rfl, h1, hl2, F, s, r⟩ := k.g_lst m
    have hp := reps_txts r
    subst hp
    exact .inr ⟨p, ns, i, rfl, by rw [ev0], SqL.of h1, q _ _ k.int⟩
  · cases e
end VL
set_option linter.all false
set_option maxRecDepth 100000
set_option Elab.async false
namespace VT
open PySem PySem.Spec PyProof.Rows VL
end VT
namespace VT
open PySem PySem.Spec PyProof.Rows VL
end VT
namespace VT
open PySem PySem.Spec PyProof.Rows VL
theorem samB_Tr : ∀ (a b : Tr) (n : Nat), plB n (kTr a) = true → plB n (kTr b) = true → samB n (kTr a) (kTr b) = decide (a = b)
  | .lf s, .lf t, n, _, _ => by
    have : samB n (kTr (.lf s)) (kTr (.lf t)) = decide (s.1 = t.1) := by cases n <;> rfl
    rw [this]
    refine decide_eq_decide.mpr ⟨fun h => by rw [Subtype.ext h], fun h => by injection h with h; rw [h]⟩
  | .lf s, .nd f x y z, n, _, _ => by
    have : samB n (kTr (.lf s)) (kTr (.nd f x y z)) = false := by cases n <;> rfl
    rw [this]; exact (decide_eq_false (fun h => by cases h)).symm
  | .nd f x y z, .lf s, n, _, _ => by
    have : samB n (kTr (.nd f x y z)) (kTr (.lf s)) = false := by cases n <;> rfl
    rw [this]; exact (decide_eq_false (fun h => by cases h)).symm
  | .nd f x y z, .nd f' x' y' z', 0, h, _ => by cases h
  | .nd f x y z, .nd f' x' y' z', n + 1, h1, h2 => by
    obtain ⟨_, h1⟩ := plB_tup h1
    obtain ⟨_, h2⟩ := plB_tup h2
    have ex := samB_Tr x x' n (h1 _ (by simp)) (h2 _ (by simp))
    have ey := samB_Tr y y' n (h1 _ (by simp)) (h2 _ (by simp))
    have ez := samB_Tr z z' n (h1 _ (by simp)) (h2 _ (by simp))
    have ef : samB n (.int f) (.int f') = decide (f = f') := by cases n <;> rfl
    have : samB (n + 1) (kTr (.nd f x y z)) (kTr (.nd f' x' y' z')) = (samB n (.int f) (.int f') && (samB n (kTr x) (kTr x') && (samB n (kTr y) (kTr y') && (samB n (kTr z) (kTr z') && true)))) := rfl
    rw [this, ef, ex, ey, ez]
    refine Bool.eq_iff_iff.mpr ?_
    simp
instance : Sm kTr := ⟨fun n a b h1 h2 => samB_Tr a b n h1 h2⟩
end VT
set_option linter.all false
set_option maxRecDepth 100000
set_option synthInstance.maxSize 2000
set_option Elab.async false
set_option linter.all false
set_option maxRecDepth 100000
set_option synthInstance.maxSize 2000
set_option Elab.async false
set_option Elab.async false
set_option linter.all false
set_option maxRecDepth 100000
namespace My
open PySem PySem.Spec PyProof.Rows L2
end My
namespace VL
open PySem PySem.Spec PyProof.Rows L2
end VL
set_option linter.all false
set_option maxRecDepth 100000
set_option Elab.async false
namespace VT
open PySem PySem.Spec PyProof.Rows VL
section
variable {β : Type} {E : List PV → Prop} {Qw : β → Fw → List PV → Prop} {ρ ρ1 : List PV} {K : M Fw} {t : TX β} {fo fi fv : M Hd} {h0 h1 h2 : Hd} {j : Nat}
theorem atI_map {γ : Type} (e : γ → PV) (xs : List γ) (k : Int) : L2.atI (xs.map e) k = (L2.atI xs k).map e := by
  unfold L2.atI
  rw [List.length_map]
  cases L2.ixN xs.length k with
  | none => rfl
  | some m => simp
end
end VT
namespace VT
open PySem PySem.Spec PyProof.Rows VL
end VT
set_option linter.all false
set_option maxRecDepth 100000
set_option synthInstance.maxSize 2000
set_option Elab.async false
set_option Elab.async false
set_option linter.all false
set_option maxRecDepth 100000
namespace My
open PySem PySem.Spec PyProof.Rows L2
end My
namespace VL
open PySem PySem.Spec PyProof.Rows L2
end VL
set_option linter.all false
set_option maxRecDepth 100000
set_option Elab.async false
namespace VT
open PySem PySem.Spec PyProof.Rows VL
end VT
set_option Elab.async false
set_option linter.all false
set_option maxRecDepth 100000
namespace My
open PySem PySem.Spec PyProof.Rows L2
end My
namespace VL
open PySem PySem.Spec PyProof.Rows L2
end VL
set_option linter.all false
set_option maxRecDepth 100000
set_option Elab.async false
namespace VT
open PySem PySem.Spec PyProof.Rows VL
end VT
set_option Elab.async false
set_option linter.all false
set_option maxRecDepth 100000
namespace My
open PySem PySem.Spec PyProof.Rows L2
end My
namespace VL
open PySem PySem.Spec PyProof.Rows L2
end VL
set_option linter.all false
set_option maxRecDepth 100000
set_option Elab.async false
namespace VT
open PySem PySem.Spec PyProof.Rows VL
end VT
set_option Elab.async false
set_option linter.all false
set_option maxRecDepth 100000
namespace VL
open PySem PySem.Spec PyProof.Rows L2
end VL
set_option Elab.async false
set_option linter.all false
set_option maxRecDepth 100000
namespace VL
open PySem PySem.Spec PyProof.Rows L2
end VL
set_option linter.all false
set_option maxRecDepth 100000
set_option Elab.async false
namespace VT
open PySem PySem.Spec PyProof.Rows VL
end VT
set_option Elab.async false
set_option linter.all false
set_option maxRecDepth 100000
namespace VL
open PySem PySem.Spec PyProof.Rows L2
end VL
set_option Elab.async false
set_option linter.all false
set_option maxRecDepth 100000
namespace My
open PySem PySem.Spec PyProof.Rows L2
end My
set_option Elab.async false
set_option linter.all false
set_option maxRecDepth 100000
namespace VL
open PySem PySem.Spec PyProof.Rows L2
open My (NK nkV nD mergeN)
section
variable {T : Tb} {H F : Hp} {l : Its}
/-- what is frozen now stays -/
theorem Hold.frame (h : Hold T H l) : ∃ F, Same F H ∧ (∀ x ∈ l, Own T H F x.1 x.2) ∧ Hold T H ((.frm F, .bl true) :: l) := by
  obtain ⟨F, s, o, n, d⟩ := h
  refine ⟨F, s, o, F, s, fun x hx => ?_, by rw [fpOf_fz rfl]; exact n, by rw [fpOf_fz rfl]; exact d⟩
  rcases List.mem_cons.mp hx with rfl | hx
  · refine (Own.fz rfl).mpr ?_
    simp only [Rep]
    exact ⟨trivial, Same.refl F⟩
  · exact o x hx
end
/-- the same plain value -/
def sameF : PV → PV → Bool
  | .non, .non => true
  | .bl a, .bl b => a == b
  | .int a, .int b => decide (a = b)
  | .str a, .str b => decide (a = b)
  | _, _ => false
end VL
set_option Elab.async false
set_option linter.all false
set_option maxRecDepth 100000
namespace VL
open PySem PySem.Spec PyProof.Rows L2
/-- kinds of cells -/
structure Knd where
  l : Bool
  o : Bool
  d : Bool
namespace PV
mutual
/-- bears no frozen cell of these kinds -/
def cln (k : Knd) : PV → Bool
  | .emp | .non | .bl _ | .int _ | .str _ | .ty _ | .cls _ => true
  | .tup xs => clns k xs
  | .lst o xs => ((o != .fz) || !k.l) && clns k xs
  | .dK o _ xs => ((o != .fz) || !k.d) && clns k xs
  | .dN o _ xs => ((o != .fz) || !k.d) && clns k xs
  | .obj o _ xs => ((o != .fz) || !k.o) && clns k xs
  | .scr _ => !k.l
  | .err _ _ xs => clns k xs
  | .nst _ _ xs => clns k xs
  | .frm _ => false
  | .cel _ _ => true
def clns (k : Knd) : List PV → Bool
  | [] => true
  | x :: xs => cln k x && clns k xs
end
mutual
/-- its own cells are of these kinds -/
def kin (k : Knd) : PV → Bool
  | .lst o _ => (o == .fz) || k.l
  | .dK o _ _ => (o == .fz) || k.d
  | .dN o _ _ => (o == .fz) || k.d
  | .obj o _ _ => (o == .fz) || k.o
  | .nst _ .l xs => k.l && kins k xs
  | .nst _ (.o _) xs => k.o && kins k xs
  | .cel _ _ => false
  | _ => true
def kins (k : Knd) : List PV → Bool
  | [] => true
  | x :: xs => kin k x && kins k xs
end
end PV
def kindIn (k : Knd) : HO → Prop
  | .lst _ => k.l = true
  | .ins _ _ _ => k.o = true
  | .dK _ => k.d = true
  | .ext _ => k.d = true
  | _ => False
def delF (F : Hp) (ps : List Addr) : Hp := fun b => if b ∈ ps then none else F b
section
variable {T : Tb} {F H : Hp} {ps : List Addr} {k : Knd}
theorem delF_out {p : Addr} (h : p ∉ ps) : delF F ps p = F p := if_neg h
theorem delF_in {p : Addr} (h : p ∈ ps) : delF F ps p = none := if_pos h
theorem delF_some {p : Addr} {u : HO} (hk : ∀ p ∈ ps, ∃ u, F p = some u ∧ kindIn k u) (e : F p = some u) (n : ¬ kindIn k u) : delF F ps p = some u := by
  rw [delF_out, e]
  intro hp
  obtain ⟨w, e2, kw⟩ := hk p hp
  rw [e] at e2
  cases e2
  exact n kw
theorem sqT_del {K : PySem.W.Frag} {p : Addr} {vs : List V} (hk : ∀ p ∈ ps, ∃ u, F p = some u ∧ kindIn k u) (h : SqT K F p vs) : SqT K (delF F ps) p vs := by
  rcases h with (h | ⟨o, h⟩) | h
  · exact .inl (.inl (delF_some hk h fun z => z))
  · exact .inl (.inr ⟨o, delF_some hk h fun z => z⟩)
  · exact .inr h
theorem sqL_del {K : PySem.W.Frag} {p : Addr} {vs : List V} (hk : ∀ p ∈ ps, ∃ u, F p = some u ∧ kindIn k u) (n : k.l = false) (h : SqL K F p vs) : SqL K (delF F ps) p vs := by
  rcases h with (h | ⟨o, h⟩) | h
  · exact .inl (.inl (delF_some hk h fun z => by rw [show k.l = true from z] at n; cases n))
  · exact .inl (.inr ⟨o, delF_some hk h fun z => z⟩)
  · exact .inr h
theorem xat_del {c : String} {d : Option Addr} {vs : List V} (hk : ∀ p ∈ ps, ∃ u, F p = some u ∧ kindIn k u) (h : XAt T F c d vs) : XAt T (delF F ps) c d vs := by
  cases d with
  | none => exact h
  | some p => exact ⟨delF_some hk h.1 fun z => z, h.2⟩
mutual
theorem Rep.del (hk : ∀ p ∈ ps, ∃ u, F p = some u ∧ kindIn k u) : ∀ {a : PV} {v : V}, a.own = false → a.cln k = true → Rep T F a v → Rep T (delF F ps) a v
  | .emp, _, _, _, _ => by simp only [Rep]
  | .non, _, _, _, h => by simpa only [Rep] using h
  | .bl _, _, _, _, h => by simpa only [Rep] using h
  | .int _, _, _, _, h => by simpa only [Rep] using h
  | .str _, _, _, _, h => by simpa only [Rep] using h
  | .ty _, _, _, _, h => by simpa only [Rep] using h
  | .cls _, _, _, _, h => by simpa only [Rep] using h
  | .tup xs, _, _, c, h => by
    simp only [Rep] at h ⊢
    simp only [PV.cln] at c
    obtain ⟨p, vs, e, h1, h2⟩ := h
    exact ⟨p, vs, e, sqT_del hk h1, Reps.del hk c h2⟩
  | .lst o xs, _, ho, c, h => by
    simp only [Rep] at h ⊢
    simp only [PV.cln, Bool.and_eq_true] at c
    obtain ⟨p, vs, e, h1, h2⟩ := h
    have n : ¬ k.l = true := fun z => by have := c.1; rw [z] at this; cases o <;> first | (cases ho; done) | cases this
    exact ⟨p, vs, e, delF_some hk h1 n, Reps.del hk c.2 h2⟩
  | .dK o ks xs, _, ho, c, h => by
    simp only [Rep] at h ⊢
    simp only [PV.cln, Bool.and_eq_true] at c
    obtain ⟨p, vs, e, h1, hl, h2⟩ := h
    have n : ¬ k.d = true := fun z => by have := c.1; rw [z] at this; cases o <;> first | (cases ho; done) | cases this
    exact ⟨p, vs, e, delF_some hk h1 n, hl, Reps.del hk c.2 h2⟩
  | .dN o ks xs, _, ho, c, h => by
    simp only [Rep] at h ⊢
    simp only [PV.cln, Bool.and_eq_true] at c
    obtain ⟨p, vs, e, ⟨ob, h1⟩, hl, h2⟩ := h
    have n : ¬ k.d = true := fun z => by have := c.1; rw [z] at this; cases o <;> first | (cases ho; done) | cases this
    exact ⟨p, vs, e, ⟨ob, delF_some hk h1 n⟩, hl, Reps.del hk c.2 h2⟩
  | .obj o _ xs, _, ho, c, h => by
    simp only [Rep] at h ⊢
    simp only [PV.cln, Bool.and_eq_true] at c
    obtain ⟨p, dx, vs, e, h1, hl, h2⟩ := h
    have n : ¬ k.o = true := fun z => by have := c.1; rw [z] at this; cases o <;> first | (cases ho; done) | cases this
    exact ⟨p, dx, vs, e, delF_some hk h1 n, hl, Reps.del hk c.2 h2⟩
  | .scr ns, _, _, c, h => by
    simp only [Rep] at h ⊢
    simp only [PV.cln, Bool.not_eq_true'] at c
    obtain ⟨p, e, h1⟩ := h
    exact ⟨p, e, sqL_del hk c h1⟩
  | .err d _ xs, _, ho, c, h => by cases ho
  | .nst _ _ _, _, _, _, h => by simp only [Rep] at h
  | .frm _, _, _, c, _ => by simp only [PV.cln] at c; cases c
  | .cel _ _, _, _, _, h => by simp only [Rep] at h
theorem Reps.del (hk : ∀ p ∈ ps, ∃ u, F p = some u ∧ kindIn k u) : ∀ {xs : List PV} {vs : List V}, PV.clns k xs = true → Reps T F xs vs → Reps T (delF F ps) xs vs
  | [], _, _, h => by simpa only [Reps] using h
  | x :: xs, _, c, h => by
    simp only [PV.clns, Bool.and_eq_true] at c
    obtain ⟨v, vs', rfl, h1, ho, h2⟩ := h.inv
    exact .cons (Rep.del hk ho c.1 h1) ho (Reps.del hk c.2 h2)
end
theorem flat_del (hk : ∀ p ∈ ps, ∃ u, F p = some u ∧ kindIn k u) {a : PV} {v : V} (hn : a.isN = false) (c : a.cln k = true) (h : RepAt1 T (if a.own = true then H else F) F a v) : RepAt1 T (if a.own = true then H else delF F ps) (delF F ps) a v := by
  cases ho : a.own with
  | false =>
    simp only [ho, Bool.false_eq_true, if_false] at h ⊢
    exact (repAt1 hn).mp ((rep_at ho).mp (((rep_at ho).mpr ((repAt1 hn).mpr h)).del hk ho c))
  | true =>
    simp only [ho, if_true] at h ⊢
    cases a with
    | lst o xs =>
      simp only [PV.cln, Bool.and_eq_true] at c
      obtain ⟨p, vs, e, h1, h2⟩ := h
      exact ⟨p, vs, e, h1, Reps.del hk c.2 h2⟩
    | dK o ks xs =>
      simp only [PV.cln, Bool.and_eq_true] at c
      obtain ⟨p, vs, e, h1, hl, h2⟩ := h
      exact ⟨p, vs, e, h1, hl, Reps.del hk c.2 h2⟩
    | dN o ks xs =>
      simp only [PV.cln, Bool.and_eq_true] at c
      obtain ⟨p, vs, e, h1, hl, h2⟩ := h
      exact ⟨p, vs, e, h1, hl, Reps.del hk c.2 h2⟩
    | obj o _ xs =>
      simp only [PV.cln, Bool.and_eq_true] at c
      obtain ⟨p, dx, vs, e, h1, hl, h2⟩ := h
      exact ⟨p, dx, vs, e, h1, hl, Reps.del hk c.2 h2⟩
    | err d _ xs =>
      simp only [PV.cln] at c
      obtain ⟨p, vs, e, h1, h2⟩ := h
      exact ⟨p, vs, e, xat_del hk h1, Reps.del hk c h2⟩
    | cel _ _ => exact h
    | nst _ _ _ => cases hn
    | _ => cases ho
mutual
theorem RepN.del (hk : ∀ p ∈ ps, ∃ u, F p = some u ∧ kindIn k u) : ∀ {a : PV} {v : V}, a.cln k = true → RepN T H F a v → RepN T H (delF F ps) a v
  | .nst o sh xs, _, c, h => by
    simp only [RepN] at h ⊢
    simp only [PV.cln] at c
    obtain ⟨ho, p, vs, e, h1, h2⟩ := h
    exact ⟨ho, p, vs, e, h1, RepsN.del hk c h2⟩
  | .emp, v, c, h => repN2 rfl (repN_cn h).1 (flat_del hk rfl c (repN1 rfl h)) (repN_cn h).2
  | .non, v, c, h => repN2 rfl (repN_cn h).1 (flat_del hk rfl c (repN1 rfl h)) (repN_cn h).2
  | .bl _, v, c, h => repN2 rfl (repN_cn h).1 (flat_del hk rfl c (repN1 rfl h)) (repN_cn h).2
  | .int _, v, c, h => repN2 rfl (repN_cn h).1 (flat_del hk rfl c (repN1 rfl h)) (repN_cn h).2
  | .str _, v, c, h => repN2 rfl (repN_cn h).1 (flat_del hk rfl c (repN1 rfl h)) (repN_cn h).2
  | .tup _, v, c, h => repN2 rfl (repN_cn h).1 (flat_del hk rfl c (repN1 rfl h)) (repN_cn h).2
  | .lst _ _, v, c, h => repN2 rfl (repN_cn h).1 (flat_del hk rfl c (repN1 rfl h)) (repN_cn h).2
  | .dK _ _ _, v, c, h => repN2 rfl (repN_cn h).1 (flat_del hk rfl c (repN1 rfl h)) (repN_cn h).2
  | .dN _ _ _, v, c, h => repN2 rfl (repN_cn h).1 (flat_del hk rfl c (repN1 rfl h)) (repN_cn h).2
  | .obj _ _ _, v, c, h => repN2 rfl (repN_cn h).1 (flat_del hk rfl c (repN1 rfl h)) (repN_cn h).2
  | .scr _, v, c, h => repN2 rfl (repN_cn h).1 (flat_del hk rfl c (repN1 rfl h)) (repN_cn h).2
  | .ty _, v, c, h => repN2 rfl (repN_cn h).1 (flat_del hk rfl c (repN1 rfl h)) (repN_cn h).2
  | .cls _, v, c, h => repN2 rfl (repN_cn h).1 (flat_del hk rfl c (repN1 rfl h)) (repN_cn h).2
  | .err _ _ _, v, c, h => by simp only [RepN] at h
  | .frm _, v, c, h => repN2 rfl (repN_cn h).1 (flat_del hk rfl c (repN1 rfl h)) (repN_cn h).2
  | .cel _ _, v, c, h => by simp only [RepN] at h
theorem RepsN.del (hk : ∀ p ∈ ps, ∃ u, F p = some u ∧ kindIn k u) : ∀ {xs : List PV} {vs : List V}, PV.clns k xs = true → RepsN T H F xs vs → RepsN T H (delF F ps) xs vs
  | [], _, _, h => by simpa only [RepsN] using h
  | x :: xs, _, c, h => by
    simp only [PV.clns, Bool.and_eq_true] at c
    simp only [RepsN] at h ⊢
    obtain ⟨v, vs', rfl, h1, h2⟩ := h
    exact ⟨v, vs', rfl, RepN.del hk c.1 h1, RepsN.del hk c.2 h2⟩
end
theorem Own.del (hk : ∀ p ∈ ps, ∃ u, F p = some u ∧ kindIn k u) {a : PV} {v : V} (c : a.cln k = true) (h : Own T H F a v) : Own T H (delF F ps) a v := by
  unfold Own at h ⊢
  by_cases hn : a.isN = false
  · rw [repAt1 hn] at h ⊢
    exact flat_del hk hn c h
  · cases a <;> first | exact absurd rfl hn | skip
    rename_i o sh xs
    have ho : o ≠ .fz := h.1
    have oo : (PV.nst o sh xs).own = true := by cases o <;> first | exact absurd rfl ho | rfl
    simp only [oo, if_true] at h ⊢
    have h2 : RepN T H F (.nst o sh xs) v := by simp only [RepN]; exact h
    have h3 := RepN.del hk c h2
    simp only [RepN] at h3
    exact h3
theorem flat_kin {a : PV} {v : V} {p : Addr} (hc : a.kin k = true) (h : RepAt1 T (if a.own = true then H else F) F a v) (hm : p ∈ fpN H a v) : ∃ u, H p = some u ∧ kindIn k u := by
  cases ho : a.own with
  | false => rw [fpN_fz ho] at hm; cases hm
  | true =>
    simp only [ho, if_true] at h
    cases a with
    | lst o xs =>
      obtain ⟨q, vs, rfl, h1, h2⟩ := h
      have hoo : o ≠ .fz := fun z => by subst z; cases ho
      simp [fpN, hoo] at hm; subst hm
      refine ⟨_, h1, ?_⟩
      simp only [PV.kin] at hc
      cases o <;> first | exact absurd rfl hoo | simpa [kindIn] using hc
    | dK o ks xs =>
      obtain ⟨q, vs, rfl, h1, hl, h2⟩ := h
      have hoo : o ≠ .fz := fun z => by subst z; cases ho
      simp [fpN, hoo] at hm; subst hm
      refine ⟨_, h1, ?_⟩
      simp only [PV.kin] at hc
      cases o <;> first | exact absurd rfl hoo | simpa [kindIn] using hc
    | dN o ks xs =>
      obtain ⟨q, vs, rfl, ⟨ob, h1⟩, hl, h2⟩ := h
      have hoo : o ≠ .fz := fun z => by subst z; cases ho
      simp [fpN, hoo] at hm; subst hm
      refine ⟨_, h1, ?_⟩
      simp only [PV.kin] at hc
      cases o <;> first | exact absurd rfl hoo | simpa [kindIn, My.nD] using hc
    | obj o c xs =>
      obtain ⟨q, dx, vs, rfl, h1, hl, h2⟩ := h
      have hoo : o ≠ .fz := fun z => by subst z; cases ho
      simp [fpN, hoo] at hm; subst hm
      refine ⟨_, h1, ?_⟩
      simp only [PV.kin] at hc
      cases o <;> first | exact absurd rfl hoo | simpa [kindIn] using hc
    | err d c xs => obtain ⟨q, vs, rfl, h1, h2⟩ := h; simp [fpN] at hm
    | cel _ _ => simp [PV.kin] at hc
    | nst _ _ _ => exact h.elim
    | _ => cases ho
mutual
theorem RepN.kin : ∀ {a : PV} {v : V} {p : Addr}, a.kin k = true → RepN T H F a v → p ∈ fpN H a v → ∃ u, H p = some u ∧ kindIn k u
  | .nst o .l xs, v, p, c, h, e => by
    simp only [RepN] at h
    simp only [PV.kin, Bool.and_eq_true] at c
    obtain ⟨ho, q, vs, rfl, h1, h2⟩ := h
    simp only [fpN, ho, if_false] at e
    rcases List.mem_cons.mp e with rfl | e
    · exact ⟨_, h1, c.1⟩
    · rw [cell_conts h1] at e; exact RepsN.kin c.2 h2 e
  | .nst o (.o _) xs, v, p, c, h, e => by
    simp only [RepN] at h
    simp only [PV.kin, Bool.and_eq_true] at c
    obtain ⟨ho, q, vs, rfl, h1, h2⟩ := h
    simp only [fpN, ho, if_false] at e
    rcases List.mem_cons.mp e with rfl | e
    · obtain ⟨dx, g1, g2⟩ := h1; exact ⟨_, g1, c.1⟩
    · rw [cell_conts h1] at e; exact RepsN.kin c.2 h2 e
  | .emp, v, p, c, h, e => flat_kin c (repN1 rfl h) e
  | .non, v, p, c, h, e => flat_kin c (repN1 rfl h) e
  | .bl _, v, p, c, h, e => flat_kin c (repN1 rfl h) e
  | .int _, v, p, c, h, e => flat_kin c (repN1 rfl h) e
  | .str _, v, p, c, h, e => flat_kin c (repN1 rfl h) e
  | .tup _, v, p, c, h, e => flat_kin c (repN1 rfl h) e
  | .lst _ _, v, p, c, h, e => flat_kin c (repN1 rfl h) e
  | .dK _ _ _, v, p, c, h, e => flat_kin c (repN1 rfl h) e
  | .dN _ _ _, v, p, c, h, e => flat_kin c (repN1 rfl h) e
  | .obj _ _ _, v, p, c, h, e => flat_kin c (repN1 rfl h) e
  | .scr _, v, p, c, h, e => flat_kin c (repN1 rfl h) e
  | .ty _, v, p, c, h, e => flat_kin c (repN1 rfl h) e
  | .cls _, v, p, c, h, e => flat_kin c (repN1 rfl h) e
  | .err _ _ _, v, p, c, h, e => by simp only [RepN] at h
  | .frm _, v, p, c, h, e => flat_kin c (repN1 rfl h) e
  | .cel _ _, v, p, c, h, e => by simp only [RepN] at h
theorem RepsN.kin : ∀ {xs : List PV} {vs : List V} {p : Addr}, PV.kins k xs = true → RepsN T H F xs vs → p ∈ fpsN H xs vs → ∃ u, H p = some u ∧ kindIn k u
  | [], vs, p, c, h, e => by
    simp only [RepsN] at h
    subst h
    simp [fpsN] at e
  | x :: xs, _, p, c, h, e => by
    simp only [RepsN] at h
    simp only [PV.kins, Bool.and_eq_true] at c
    obtain ⟨v, vs', rfl, h1, h2⟩ := h
    simp only [fpsN] at e
    rcases List.mem_append.mp e with e | e
    · exact RepN.kin c.1 h1 e
    · exact RepsN.kin c.2 h2 e
end
theorem Own.kin {a : PV} {v : V} {p : Addr} (c : a.kin k = true) (h : Own T H F a v) (hm : p ∈ fpN H a v) : ∃ u, H p = some u ∧ kindIn k u := by
  unfold Own at h
  by_cases hn : a.isN = false
  · rw [repAt1 hn] at h
    exact flat_kin c h hm
  · cases a <;> first | exact absurd rfl hn | skip
    rename_i o sh xs
    have ho : o ≠ .fz := h.1
    have oo : (PV.nst o sh xs).own = true := by cases o <;> first | exact absurd rfl ho | rfl
    simp only [oo, if_true] at h
    exact RepN.kin (a := .nst o sh xs) c (by simp only [RepN]; exact h) hm
def cels (H : Hp) (l : Its) : Its := (fpOf H l).filterMap fun p => (H p).map fun u => (PV.cel .ow u, V.ref p)
theorem cels_fp {l : Its} : ∀ {ps : List Addr}, (∀ p ∈ ps, ∃ u, H p = some u ∧ okU u) → ∀ H', fpOf H' (ps.filterMap fun p => (H p).map fun u => (PV.cel .ow u, V.ref p)) = ps
  | [], _, _ => rfl
  | p :: ps, h, H' => by
    obtain ⟨u, hu, _⟩ := h p List.mem_cons_self
    rw [List.filterMap_cons, hu]
    show fpOf H' ((PV.cel .ow u, V.ref p) :: _) = _
    rw [fpOf_ow rfl, cels_fp (l := l) fun q hq => h q (List.mem_cons_of_mem _ hq)]
def frzI (l : Its) : Its := l.map fun x => (x.1.frz, x.2)
theorem fp_frzI {l : Its} (H' : Hp) : fpOf H' (frzI l) = [] := by
  induction l with
  | nil => rfl
  | cons x l ih =>
    show fpOf H' ((x.1.frz, x.2) :: frzI l) = []
    rw [fpOf_fz (frz_own _)]
    exact ih
theorem Hold.lend {L U B : Its} (h : Hold T H (L ++ (U ++ B))) (hk : ∀ x ∈ L, x.1.kin k = true) :
    ∃ F1 : Hp, Hold T H (frzI L ++ (U ++ ((.frm F1, .bl true) :: cels H B))) ∧ ∀ (H' : Hp) (R : Its), (∀ x ∈ R, x.1.cln k = true) → Hold T H' (R ++ ((.frm F1, .bl true) :: cels H B)) → Hold T H' (L ++ (R ++ B)) := by
  obtain ⟨F, s, ow, n, d⟩ := h
  have owL : ∀ x ∈ L, Own T H F x.1 x.2 := fun x hx => ow x (List.mem_append_left _ hx)
  have owU : ∀ x ∈ U, Own T H F x.1 x.2 := fun x hx => ow x (List.mem_append_right _ (List.mem_append_left _ hx))
  have owB : ∀ x ∈ B, Own T H F x.1 x.2 := fun x hx => ow x (List.mem_append_right _ (List.mem_append_right _ hx))
  rw [fpOf_append, fpOf_append] at n d
  have sF := addF_same (ps := fpOf H L) s
  have thB : ∀ p ∈ fpOf H B, ∃ u, H p = some u ∧ okU u := fun p hp => by
    obtain ⟨x, hx, hp⟩ := mem_fpOf.mp hp
    exact (owB x hx).there hp
  have kL : ∀ p ∈ fpOf H L, ∃ u, H p = some u ∧ kindIn k u := fun p hp => by
    obtain ⟨x, hx, hp⟩ := mem_fpOf.mp hp
    exact (owL x hx).kin (hk x hx) hp
  have fpC : ∀ H', fpOf H' (cels H B) = fpOf H B := fun H' => cels_fp (l := B) thB H'
  obtain ⟨nL, nUB, dis⟩ := List.nodup_append.mp n
  refine ⟨addF F H (fpOf H L), ⟨addF F H (fpOf H L), addF_in s, fun x hx => ?_, ?_, fun p hp => ?_⟩, fun H' R cl hh => ?_⟩
  · rcases List.mem_append.mp hx with hx | hx
    · obtain ⟨y, hy, rfl⟩ := List.mem_map.mp hx
      exact (Own.fz (frz_own _)).mpr ((owL y hy).frz s fun p hp => mem_fpOf.mpr ⟨y, hy, hp⟩)
    rcases List.mem_append.mp hx with hx | hx
    · exact (owU x hx).mono (Same.refl H) sF
    rcases List.mem_cons.mp hx with rfl | hx
    · refine (Own.fz rfl).mpr ?_
      simp only [Rep]
      exact ⟨trivial, Same.refl _⟩
    · obtain ⟨p, hp, e⟩ := List.mem_filterMap.mp hx
      obtain ⟨u, hu, ok⟩ := thB p hp
      rw [hu] at e
      cases e
      exact (Own.ow rfl).mpr ⟨by decide, p, rfl, hu, ok⟩
  · rw [fpOf_append, fp_frzI, List.nil_append, fpOf_append, fpOf_fz rfl, fpC]
    exact nUB
  · rw [fpOf_append, fp_frzI, List.nil_append, fpOf_append, fpOf_fz rfl, fpC] at hp
    rw [addF_out fun z => dis p z p hp rfl]
    exact d p (List.mem_append_right _ hp)
  · obtain ⟨F', s', o', n', d'⟩ := hh
    rw [fpOf_append, fpOf_fz rfl, fpC] at n' d'
    have sF' : Same (addF F H (fpOf H L)) F' := by
      have r := (Own.fz rfl).mp (o' (.frm (addF F H (fpOf H L)), .bl true) (by simp))
      simp only [Rep] at r
      exact r.2
    -- the lent cells are as they were
    have eL : ∀ p ∈ fpOf H L, F' p = H p ∧ H' p = H p := fun p hp => by
      obtain ⟨u, hu, _⟩ := kL p hp
      have a1 : addF F H (fpOf H L) p = some u := (addF_at hp).trans hu
      have a2 := sF' _ _ a1
      exact ⟨a2.trans hu.symm, (s' _ _ a2).trans hu.symm⟩
    have eB : ∀ p ∈ fpOf H B, H' p = H p := fun p hp => by
      obtain ⟨u, hu, ok⟩ := thB p hp
      have m : (PV.cel .ow u, V.ref p) ∈ cels H B := List.mem_filterMap.mpr ⟨p, hp, by rw [hu]; rfl⟩
      obtain ⟨_, q, e, hq, _⟩ := (Own.ow rfl).mp (o' _ (List.mem_append_right _ (List.mem_cons_of_mem _ m)))
      cases e
      rw [hq, hu]
    have kF : ∀ p ∈ fpOf H L, ∃ u, F' p = some u ∧ kindIn k u := fun p hp => by
      obtain ⟨u, hu, ku⟩ := kL p hp
      exact ⟨u, (eL p hp).1.trans hu, ku⟩
    have sD : Same F (delF F' (fpOf H L)) := fun p u e => by
      have np : p ∉ fpOf H L := fun hp => by rw [d p (List.mem_append_left _ hp)] at e; cases e
      rw [delF_out np]
      exact sF' _ _ (sF _ _ e)
    have frL : ∀ x ∈ L, Own T H' (delF F' (fpOf H L)) x.1 x.2 ∧ fpN H' x.1 x.2 = fpN H x.1 x.2 := fun x hx => (owL x hx).frame (fun p hp => (eL p (mem_fpOf.mpr ⟨x, hx, hp⟩)).2) sD
    have frB : ∀ x ∈ B, Own T H' (delF F' (fpOf H L)) x.1 x.2 ∧ fpN H' x.1 x.2 = fpN H x.1 x.2 := fun x hx => (owB x hx).frame (fun p hp => eB p (mem_fpOf.mpr ⟨x, hx, hp⟩)) sD
    have fL : fpOf H' L = fpOf H L := flatMap_same fun x hx => (frL x hx).2
    have fB : fpOf H' B = fpOf H B := flatMap_same fun x hx => (frB x hx).2
    have nR : ∀ p ∈ fpOf H' R ++ fpOf H B, p ∉ fpOf H L := fun p hp hl => by
      obtain ⟨u, hu, _⟩ := kF p hl
      rw [d' p hp] at hu
      cases hu
    refine ⟨delF F' (fpOf H L), fun p u e => ?_, fun x hx => ?_, ?_, fun p hp => ?_⟩
    · have np : p ∉ fpOf H L := fun hp => by rw [delF_in hp] at e; cases e
      rw [delF_out np] at e
      exact s' _ _ e
    · rcases List.mem_append.mp hx with hx | hx
      · exact (frL x hx).1
      rcases List.mem_append.mp hx with hx | hx
      · exact (o' x (List.mem_append_left _ hx)).del kF (cl x hx)
      · exact (frB x hx).1
    · rw [fpOf_append, fpOf_append, fL, fB]
      exact List.nodup_append.mpr ⟨nL, n', fun a ha b hb e => nR b hb (e ▸ ha)⟩
    · rw [fpOf_append, fpOf_append, fL, fB] at hp
      rcases List.mem_append.mp hp with hp | hp
      · exact delF_in hp
      · rw [delF_out (nR p hp)]
        exact d' p hp
end
end VL
set_option Elab.async false
set_option linter.all false
set_option maxRecDepth 100000
namespace VL
open PySem PySem.Spec PyProof.Rows L2
end VL
set_option linter.all false
set_option maxRecDepth 100000
set_option Elab.async false
namespace VT
open PySem PySem.Spec PyProof.Rows VL
open My (NK)
section
variable {κ α β γ δ : Type} [DecidableEq κ]
variable {e : κ → PV} [Ke e] {f : α → PV} {l l' : List (κ × α)} {k : κ} {o o' : Fl}
class Smf (f : α → PV) where
  eq : ∀ a, sameF (f a) (f a) = true
instance : Smf PV.int := ⟨fun a => by simp [sameF]⟩
instance : Smf PV.bl := ⟨fun a => by simp [sameF]⟩
instance : Smf kS := ⟨fun a => by simp [sameF, kS]⟩
instance {f : α → PV} [Smf f] : Smf (kO f) := ⟨fun a => by cases a with
  | none => rfl
  | some a => exact Smf.eq a⟩
variable {E : List PV → Prop} {Q : β → γ → List PV → Prop} {ρ ρ1 ρ2 : List PV} {t : TX β} {K KH : Hd → M γ} {KX : List PV → M γ} {h h1 h2 : Hd} {fo fe : M Hd} {fs : M (List Hd)} {i : Nat} {a b c : PV}
end
section
variable {α β γ : Type} {k : Knd}
/-- what lies so bears no frozen cell of these kinds -/
class Cln (k : Knd) {α : Type} (e : α → PV) : Prop where
  cl : ∀ a, (e a).cln k = true
instance : Cln k PV.int := ⟨fun _ => rfl⟩
instance : Cln k PV.bl := ⟨fun _ => rfl⟩
instance : Cln k kS := ⟨fun _ => rfl⟩
instance : Cln k kU := ⟨fun _ => rfl⟩
theorem clns_map {e : α → PV} [Cln k e] : ∀ xs : List α, PV.clns k (xs.map e) = true
  | [] => rfl
  | x :: xs => by simp only [List.map_cons, PV.clns, Cln.cl, clns_map xs, Bool.and_self]
instance {e : α → PV} [Cln k e] : Cln k (kO e) := ⟨fun a => by cases a with
  | none => rfl
  | some a => exact Cln.cl a⟩
instance {e : α → PV} [Cln k e] : Cln k (kT e) := ⟨fun a => by simp only [kT, PV.cln, clns_map]⟩
instance {e : α → PV} [Cln k e] : Cln k (kL .ow e) := ⟨fun a => by simp only [kL, PV.cln, clns_map]; rfl⟩
instance {e : α → PV} [Cln k e] : Cln k (kL .io e) := ⟨fun a => by simp only [kL, PV.cln, clns_map]; rfl⟩
instance {b c : Bool} {e : α → PV} [Cln ⟨false, b, c⟩ e] {o : Fl} : Cln ⟨false, b, c⟩ (kL o e) := ⟨fun a => by simp only [kL, PV.cln, clns_map, Bool.not_false, Bool.or_true, Bool.and_self]⟩
instance {e : α → PV} {e' : β → PV} [Cln k e] [Cln k e'] : Cln k (kP2 e e') := ⟨fun a => by simp only [kP2, PV.cln, PV.clns, Cln.cl, Bool.and_self]⟩
instance {e : α → PV} {e' : β → PV} {e2 : γ → PV} [Cln k e] [Cln k e'] [Cln k e2] : Cln k (kP3 e e' e2) := ⟨fun a => by simp only [kP3, PV.cln, PV.clns, Cln.cl, Bool.and_self]⟩
instance {e : α → PV} {e' : β → PV} [Cln k e] [Cln k e'] : Cln k (kX e e') := ⟨fun a => by
  cases a with
  | inl x => exact Cln.cl (e := e) x
  | inr x => exact Cln.cl (e := e') x⟩
instance {e : α → PV} {e' : β → PV} [Cln k e] [Cln k e'] : Cln k (kQ2 .ow e e') := ⟨fun a => by simp only [kQ2, PV.cln, PV.clns, Cln.cl]; rfl⟩
theorem clns_snd {κ : Type} {e' : β → PV} [Cln k e'] (a : List (κ × β)) : PV.clns k (a.map fun p => e' p.2) = true := by
  rw [show (a.map fun p => e' p.2) = (a.map (·.2)).map e' from by rw [List.map_map]; rfl]
  exact clns_map _
instance {κ : Type} {e : κ → PV} [Ke e] {e' : β → PV} [Cln k e'] : Cln k (kD .ow e e') := ⟨fun a => by simp only [kD, PV.cln, clns_snd]; rfl⟩
/-- an error leaves only if its fields are clean -/
def tln (k : Knd) (m : TX β) : TX β := match m with
  | .ex c xs => if xs.all (PV.cln k) = true then .ex c xs else .no
  | m => m
@[simp] theorem tln_ok (b : β) : tln k (.ok b) = .ok b := rfl
variable {ms : List Bool} {a : PV} {as bs fn gn : List PV}
instance : Cln k (fun _ : Unit => PV.non) := ⟨fun _ => rfl⟩
variable {ρ ρ1 : List PV} {i : Nat} {hs : List Hd}
end
end VT
set_option linter.all false
set_option maxRecDepth 100000
set_option synthInstance.maxSize 2000
set_option Elab.async false
set_option Elab.async false
set_option linter.all false
set_option maxRecDepth 100000
namespace VL
open PySem PySem.Spec PyProof.Rows L2
end VL
set_option linter.all false
set_option maxRecDepth 100000
set_option Elab.async false
namespace VT
open PySem PySem.Spec PyProof.Rows VL
end VT
set_option Elab.async false
set_option linter.all false
set_option maxRecDepth 100000
set_option maxHeartbeats 2000000
namespace My
open PySem PySem.Spec PyProof.Rows L2
end My
set_option Elab.async false
set_option linter.all false
set_option maxRecDepth 100000
namespace VL
open PySem PySem.Spec PyProof.Rows L2
end VL
set_option linter.all false
set_option maxRecDepth 100000
set_option Elab.async false
namespace VT
open PySem PySem.Spec PyProof.Rows VL
end VT
set_option linter.all false
set_option maxRecDepth 100000
set_option synthInstance.maxSize 2000
set_option Elab.async false
set_option Elab.async false
set_option linter.all false
set_option maxRecDepth 100000
namespace My
open PySem PySem.Spec PyProof.Rows L2
end My
namespace VL
open PySem PySem.Spec PyProof.Rows L2
open My (NK nkV nD)
end VL
set_option linter.all false
set_option maxRecDepth 100000
set_option Elab.async false
namespace VT
open PySem PySem.Spec PyProof.Rows VL
open My (NK)
section
variable {κ α β γ δ : Type} {e : κ → PV} [Ke e] {f : α → PV}
instance {α β γ : Type} {o : Fl} {e : α → PV} {f : β → PV} {g : γ → PV} : NN (kQ3 o e f g) := ⟨fun _ _ => rfl, fun a => have h := (by simp [kS, kT, kL, kP2, kP3, kQ2, kQ3, dat]); ⟨eqv_n1 h, eqv_n2 h⟩⟩
end
end VT
set_option linter.all false
set_option maxRecDepth 100000
set_option synthInstance.maxSize 2000
set_option Elab.async false
set_option Elab.async false
set_option linter.all false
set_option maxRecDepth 100000
namespace VL
open PySem PySem.Spec PyProof.Rows L2
section
variable {g : G} {X : Cx} {fx : M (List PV)} {t : Tg} {tt : M Bool} {fe : M Hd} {is : List Nat} {own : List (Str × Nat)} {scope : Scope} {tg iter elt : Expr} {ifs : List Expr} {pos : Pos}
theorem sv_setLcF {i : Nat} {y : Str} {py spos : Pos} (hc : X.calm = true) (hN : X.N.Nodup) (hy : X.N[i]? = some y) (hyl : X.env.scope.names.lookup y = some .local)
    (hsw : swapsWith (.ListComp elt [⟨tg, iter, ifs, 0⟩] scope pos) (some (.Name y py)) spos.line X.env = pure true) (his : own.map (·.2) = is) (nd : is.Nodup) (hi : IV g X tg iter fx) (ok : BlkOk X.N X.env.scope scope own)
    (hg : ∀ (s : Shared) (H : Hp) (C : Addr) (cl : List (Str × Addr)) (fp : List Addr), GV g.in0 (X.blk s H scope (compEnvC scope cl C X.env) fp) tg t is) (ht : ∀ (s : Shared) (H : Hp) (C : Addr) (cl : List (Str × Addr)) (fp : List Addr), PTsV g.in0 (X.blk s H scope (compEnvC scope cl C X.env) fp) ifs tt)
    (he : ∀ (s : Shared) (H : Hp) (C : Addr) (cl : List (Str × Addr)) (fp : List Addr), EV g.in0 (X.blk s H scope (compEnvC scope cl C X.env) fp) elt fe) (hs : ∀ x, foldedSetIterable iter X.env x = pure x := by intro _; rfl) :
    SV g X (.Assign [.Name y py] (.ListComp elt [⟨tg, iter, ifs, 0⟩] scope pos) spos) (sSet i (eFz (eLc fx t tt fe is))) :=
  sv_of (ps_setLc hc hN hy hyl hsw hi ok hg ht he hs) fun D σ H ρ τ ft h hP => by
    have hP2 : PS1 g τ D (((eLc fx t tt fe is ρ).bind fzR).bind fun h ρ1 => match keep h ρ1 with
      | some (a, ρ2) => ofL (setAt i a ρ2)
      | none => .stuck) := hP
    rw [his]
    refine (show tLc (trI g fx) (trG g.in0 t is) (trT g.in0 tt) (trE g.in0 fe) is σ H (fun x H1 => gName i x σ H1 D.nx) from ?_)
    refine lc_read nd ft h (?_ : Post g σ τ (PE1 g σ τ fun x H1 => gName i x σ H1 D.nx) (eLc fx t tt fe is ρ))
    cases e : eLc fx t tt fe is ρ with
    | stuck => rw [e] at hP2; exact hP2
    | exc c xs ρ1 => rw [e] at hP2; exact fun d vs H' => hP2 d vs σ H'
    | ok h1 ρ1 =>
      rw [e] at hP2
      intro v H1 f1 s1 k1
      simp only [R.bind_ok, fzR] at hP2
      cases e1 : take ρ1 h1 with
      | none => rw [e1] at hP2; exact hP2.elim
      | some p =>
        obtain ⟨a, ρ2⟩ := p
        rw [e1] at hP2
        simp only [R.bind_ok, keep] at hP2
        obtain ⟨f2, _, k2⟩ := take_ok f1 s1 k1 e1
        cases e2 : setAt i a ρ2 with
        | none => rw [e2] at hP2; exact hP2.elim
        | some ρ3 =>
          rw [e2] at hP2
          obtain ⟨f3, k3⟩ := setAt_ok f2 k2 e2
          exact hP2 _ H1 f3 k3
end
end VL
set_option linter.all false
set_option maxRecDepth 100000
set_option Elab.async false
namespace VT
open PySem PySem.Spec PyProof.Rows VL
def lt3 (p q : Int × Int × Int) : Bool := ltL PV.int [p.1, p.2.1, p.2.2] [q.1, q.2.1, q.2.2]
theorem dat_kI3 (p : Int × Int × Int) : dat (kP3 PV.int PV.int PV.int p) = dat (kT PV.int [p.1, p.2.1, p.2.2]) := by
  rw [dat_kT]
  unfold kP3
  rw [dat_tup]
  rfl
instance : Od (kP3 PV.int PV.int PV.int) where
  lt := lt3
  al p q := by rw [dat_kI3, dat_kI3]; exact Od.al (e := kT PV.int) _ _
  lt_eq p q := by rw [dat_kI3, dat_kI3]; exact Od.lt_eq (e := kT PV.int) _ _
  ev p q := by
    rw [dat_kI3, dat_kI3, Od.ev (e := kT PV.int)]
    obtain ⟨a, b, c⟩ := p
    obtain ⟨a', b', c'⟩ := q
    simp
instance : SoD (kP3 PV.int PV.int PV.int) := ⟨fun a => by unfold kP3; rw [dat_tup]; rfl, fun _ _ => rfl, fun _ _ => rfl⟩
end VT
set_option Elab.async false
set_option linter.all false
set_option maxRecDepth 100000
namespace VL
open PySem PySem.Spec PyProof.Rows L2
/-- may lie in an own list -/
def PV.okN : PV → Bool
  | .err _ _ _ => false
  | .cel _ _ => false
  | _ => true
section
variable {T : Tb} {H F : Hp} {a : PV} {v : V} {l : Its} {o : Fl} {p : Addr} {xs : List PV} {vs : List V}
theorem own_repN (h : RepN T H F a v) : Own T H F a v := by
  unfold Own
  by_cases hn : a.isN = false
  · rw [repAt1 hn]; exact repN1 hn h
  · cases a <;> first | exact absurd rfl hn | skip
    rename_i o sh xs
    simp only [RepN] at h
    have oo : (PV.nst o sh xs).own = true := by cases o <;> first | exact absurd rfl h.1 | rfl
    simp only [oo, if_true]
    exact h
theorem repN_own (k : a.okN = true) (h : Own T H F a v) : RepN T H F a v := by
  unfold Own at h
  by_cases hn : a.isN = false
  · rw [repAt1 hn] at h
    refine repN2 hn ?_ h fun o u z => by subst z; cases k
    cases a <;> first | (cases k; done) | simp [PV.cell, PV.isErr]
  · cases a <;> first | exact absurd rfl hn | skip
    rename_i o sh xs
    simp only [RepN]
    cases o with
    | fz => exact absurd rfl h.1
    | ow => exact h
    | io => exact h
theorem fps_zip : ∀ {xs : List PV} {vs : List V}, fpOf H (xs.zip vs) = fpsN H xs vs
  | [], _ => rfl
  | _ :: _, [] => rfl
  | x :: xs, v :: vs => by rw [List.zip_cons_cons, fpOf_cons, fps_zip]; rfl
theorem repsN_zip : ∀ {xs : List PV} {vs : List V}, RepsN T H F xs vs → vs.length = xs.length ∧ ∀ y ∈ xs.zip vs, Own T H F y.1 y.2
  | [], vs, h => by
    simp only [RepsN] at h
    subst h
    exact ⟨rfl, fun _ z => by cases z⟩
  | x :: xs, _, h => by
    simp only [RepsN] at h
    obtain ⟨v, vs', rfl, h1, h2⟩ := h
    obtain ⟨a, b⟩ := repsN_zip h2
    refine ⟨by simp [a], fun y hy => ?_⟩
    rw [List.zip_cons_cons] at hy
    rcases List.mem_cons.mp hy with rfl | hy
    · exact own_repN h1
    · exact b y hy
theorem zip_repsN : ∀ {xs : List PV} {vs : List V}, vs.length = xs.length → (∀ x ∈ xs, x.okN = true) → (∀ y ∈ xs.zip vs, Own T H F y.1 y.2) → RepsN T H F xs vs
  | [], vs, e, _, _ => by
    have : vs = [] := List.length_eq_zero_iff.mp e
    simp only [RepsN]; exact this
  | x :: xs, [], e, _, _ => by simp at e
  | x :: xs, v :: vs, e, k, h => by
    simp only [RepsN]
    exact ⟨v, vs, rfl, repN_own (k x List.mem_cons_self) (h (x, v) (by simp)), zip_repsN (by simpa using e) (fun y hy => k y (List.mem_cons_of_mem _ hy)) fun y hy => h y (by rw [List.zip_cons_cons]; exact List.mem_cons_of_mem _ hy)⟩
/-- taken apart -/
theorem Hold.split (h : Hold T H ((.nst o .l xs, v) :: l)) : o ≠ .fz ∧ ∃ p vs, v = .ref p ∧ H p = some (.lst vs) ∧ vs.length = xs.length ∧ Hold T H ((.cel .ow (.lst vs), .ref p) :: (xs.zip vs ++ l)) := by
  obtain ⟨F, s, ow, n, d⟩ := h
  have h0 := ow _ List.mem_cons_self
  have h1 : RepN T H F (.nst o .l xs) v := repN_own rfl h0
  simp only [RepN] at h1
  obtain ⟨ho, p, vs, rfl, hp, r⟩ := h1
  have hp : H p = some (.lst vs) := hp
  obtain ⟨hl, all⟩ := repsN_zip r
  refine ⟨ho, p, vs, rfl, hp, hl, F, s, fun x hx => ?_, ?_, fun q hq => ?_⟩
  · rcases List.mem_cons.mp hx with rfl | hx
    · exact (Own.ow rfl).mpr ⟨by decide, p, rfl, hp, trivial⟩
    rcases List.mem_append.mp hx with hx | hx
    · exact all x hx
    · exact ow x (List.mem_cons_of_mem _ hx)
  · rw [fpOf_ow rfl, fpOf_append, fps_zip]
    rw [fpOf_cons] at n
    simp only [fpN, ho, if_false, hp, conts] at n
    exact n
  · refine d q ?_
    rw [fpOf_ow rfl, fpOf_append, fps_zip] at hq
    rw [fpOf_cons]
    simp only [fpN, ho, if_false, hp, conts]
    exact hq
/-- put together -/
theorem Hold.join (h : Hold T H ((.cel .ow (.lst vs), .ref p) :: (xs.zip vs ++ l))) (hl : vs.length = xs.length) (k : ∀ x ∈ xs, x.okN = true) (ho : o ≠ .fz) : Hold T H ((.nst o .l xs, .ref p) :: l) := by
  obtain ⟨F, s, ow, n, d⟩ := h
  obtain ⟨_, q, e, hp, _⟩ := (Own.ow rfl).mp (ow (.cel .ow (.lst vs), .ref p) List.mem_cons_self)
  cases e
  have r : RepsN T H F xs vs := zip_repsN hl k fun y hy => ow y (List.mem_cons_of_mem _ (List.mem_append_left _ hy))
  have hf : fpOf H ((.nst o .l xs, V.ref p) :: l) = fpOf H ((.cel .ow (.lst vs), V.ref p) :: (xs.zip vs ++ l)) := by
    rw [fpOf_ow (a := .cel .ow (.lst vs)) rfl, fpOf_append, fps_zip, fpOf_cons]
    simp only [fpN, ho, if_false, hp, conts, List.cons_append]
  refine ⟨F, s, fun x hx => ?_, by rw [hf]; exact n, fun q hq => d q (by rw [hf] at hq; exact hq)⟩
  rcases List.mem_cons.mp hx with rfl | hx
  · refine own_repN (a := .nst o .l xs) ?_
    simp only [RepN]
    exact ⟨ho, p, vs, rfl, hp, r⟩
  · exact ow x (List.mem_cons_of_mem _ (List.mem_append_right _ hx))
end
def keepM (h : Hd) (ρ : List PV) : Option (PV × List PV) := match h with
  | .tm a => if a.okN = true then some (a, ρ) else none
  | .sl i => if (nth ρ i).own = true then (if ((nth ρ i).isIo || !(nth ρ i).okN) = true then none else some (nth ρ i, ρ.set i .emp)) else if (nth ρ i).okN = true then some (nth ρ i, ρ) else none
section
variable {T : Tb} {H : Hp} {s0 : L2.St} {ρ ρ' : List PV} {σ : L2.St} {τ l : Its} {a : PV} {v : V} {h : Hd}
theorem keepM_ok (f : Fits s0 ρ σ) (c : slotAt σ h v) (hh : Hold T H (hit h v ++ (its ρ σ ++ τ))) (e : keepM h ρ = some (a, ρ')) : Fits s0 ρ' σ ∧ a.okN = true ∧ Hold T H ((a, v) :: (its ρ' σ ++ τ)) := by
  cases h with
  | tm b =>
    simp only [keepM] at e
    split at e
    · rename_i k
      cases e
      exact ⟨f, k, hh⟩
    · cases e
  | sl i =>
    have ci := c i rfl
    have hh : Hold T H (its ρ σ ++ τ) := by simpa [hit] using hh
    simp only [keepM] at e
    split at e
    · split at e
      · cases e
      · rename_i k1 k2
        cases e
        simp only [Bool.or_eq_true, Bool.not_eq_true', not_or, Bool.not_eq_false] at k2
        exact ⟨f.re ci fun z => (by cases z), k2.2, hh.slotOut f ci⟩
    · rename_i k
      split at e
      · rename_i k2
        cases e
        exact ⟨f, k2, hh.dup (List.mem_append_left _ (its_mem f.len ci)) (by simpa using k)⟩
      · cases e
end
end VL
set_option Elab.async false
set_option linter.all false
set_option maxRecDepth 100000
namespace VL
open PySem PySem.Spec PyProof.Rows L2
section
variable {T : Tb} {H : Hp} {l : Its} {xs : List PV} {vs : List V} {m : Nat} {a b : PV}
/-- one item taken out of its row -/
theorem zip_at : ∀ {xs : List PV} {vs : List V} {m : Nat} {a : PV}, vs.length = xs.length → xs[m]? = some a → ∃ A B v, vs[m]? = some v ∧ xs.zip vs = A ++ (a, v) :: B ∧ ∀ b, (xs.set m b).zip vs = A ++ (b, v) :: B
  | [], _, _, _, _, e => by simp at e
  | x :: xs, [], _, _, e, _ => by simp at e
  | x :: xs, v :: vs, 0, a, _, e => by
    simp at e; subst e
    exact ⟨[], xs.zip vs, v, rfl, rfl, fun _ => rfl⟩
  | x :: xs, v :: vs, m + 1, a, hl, e => by
    obtain ⟨A, B, w, e1, e2, e3⟩ := zip_at (xs := xs) (vs := vs) (m := m) (by simpa using hl) (by simpa using e)
    exact ⟨(x, v) :: A, B, w, by simpa using e1, by rw [List.zip_cons_cons, e2]; rfl, fun b => by rw [List.set_cons_succ, List.zip_cons_cons, e3 b]; rfl⟩
end
end VL
set_option Elab.async false
set_option linter.all false
set_option maxRecDepth 100000
namespace VL
open PySem PySem.Spec PyProof.Rows L2
def fzS (ρ : List PV) : List PV := ρ.map fun a => if a.own = true then .emp else a
def owS (ρ : List PV) : List PV := ρ.map fun a => if a.own = true then a else .emp
section
variable {T : Tb} {H : Hp}
theorem its_dup : ∀ {ρ : List PV} {σ : L2.St} {l : Its}, Hold T H (its ρ σ ++ l) → Hold T H (its ρ σ ++ (its (fzS ρ) σ ++ l))
  | [], σ, l, h => by cases σ <;> simpa [its, fzS] using h
  | a :: ρ, [], l, h => by simpa [its, fzS] using h
  | a :: ρ, s :: σ, l, h => by
    have h1 : Hold T H (its ρ σ ++ ((a, s.getD .non) :: l)) := h.perm (by
      simp only [its]; exact permc fun _ x => by simp only [List.count_append, List.count_cons]; omega)
    have h2 := its_dup h1
    have h3 : Hold T H ((a, s.getD .non) :: (its ρ σ ++ (its (fzS ρ) σ ++ l))) := h2.perm (permc fun _ x => by simp only [List.count_append, List.count_cons]; omega)
    have h4 : Hold T H (((if a.own = true then .emp else a), s.getD .non) :: (a, s.getD .non) :: (its ρ σ ++ (its (fzS ρ) σ ++ l))) := by
      by_cases ho : a.own = true
      · rw [if_pos ho]; exact h3.emp
      · rw [if_neg ho]; exact h3.dup List.mem_cons_self (by simpa using ho)
    refine h4.perm ?_
    show List.Perm _ (((a, s.getD .non) :: its ρ σ) ++ ((((if a.own = true then .emp else a), s.getD .non) :: its (fzS ρ) σ) ++ l))
    exact permc fun _ x => by simp only [List.count_append, List.count_cons]; omega
theorem its_own : ∀ {ρ : List PV} {σ : L2.St} {l : Its}, Hold T H (its ρ σ ++ l) → Hold T H (its (owS ρ) σ ++ l)
  | [], σ, l, h => by cases σ <;> simpa [its, owS] using h
  | a :: ρ, [], l, h => by simpa [its, owS] using h
  | a :: ρ, s :: σ, l, h => by
    have h1 : Hold T H (its ρ σ ++ ((a, s.getD .non) :: l)) := h.perm (by
      simp only [its]; exact permc fun _ x => by simp only [List.count_append, List.count_cons]; omega)
    have h2 := its_own h1
    have h3 : Hold T H ((a, s.getD .non) :: (its (owS ρ) σ ++ l)) := h2.perm (permc fun _ x => by simp only [List.count_append, List.count_cons]; omega)
    show Hold T H (((if a.own = true then a else .emp), s.getD .non) :: its (owS ρ) σ ++ l)
    by_cases ho : a.own = true
    · rw [if_pos ho]; exact h3
    · rw [if_neg ho]; exact h3.tail.emp
theorem its_merge : ∀ {ρ : List PV} {σ : L2.St} {l : Its}, Hold T H (its (owS ρ) σ ++ (its (fzS ρ) σ ++ l)) → Hold T H (its ρ σ ++ l)
  | [], σ, l, h => by cases σ <;> simpa [its, owS, fzS] using h
  | a :: ρ, [], l, h => by simpa [its, owS, fzS] using h
  | a :: ρ, s :: σ, l, h => by
    have h1 : Hold T H (((if a.own = true then a else .emp), s.getD .non) :: ((if a.own = true then .emp else a), s.getD .non) :: (its (owS ρ) σ ++ (its (fzS ρ) σ ++ l))) := h.perm (by
      show List.Perm (((if a.own = true then a else .emp), s.getD .non) :: its (owS ρ) σ ++ (((if a.own = true then .emp else a), s.getD .non) :: its (fzS ρ) σ ++ l)) _
      exact permc fun _ x => by simp only [List.count_append, List.count_cons]; omega)
    have h2 : Hold T H ((a, s.getD .non) :: (its (owS ρ) σ ++ (its (fzS ρ) σ ++ l))) := by
      by_cases ho : a.own = true
      · rw [if_pos ho, if_pos ho] at h1
        exact h1.sub (.cons_cons _ (List.sublist_cons_self ..))
      · rw [if_neg ho, if_neg ho] at h1
        exact h1.tail
    have h3 := its_merge (ρ := ρ) (σ := σ) (l := (a, s.getD .non) :: l) (h2.perm (permc fun _ x => by simp only [List.count_append, List.count_cons]; omega))
    refine h3.perm ?_
    simp only [its]
    exact permc fun _ x => by simp only [List.count_append, List.count_cons]; omega
theorem mem_its : ∀ {ρ : List PV} {σ : L2.St} {x : PV × V}, x ∈ its ρ σ → x.1 ∈ ρ
  | [], σ, x, h => by cases σ <;> simp [its] at h
  | a :: ρ, [], x, h => by simp [its] at h
  | a :: ρ, s :: σ, x, h => by
    simp only [its] at h
    rcases List.mem_cons.mp h with rfl | h
    · exact List.mem_cons_self
    · exact List.mem_cons_of_mem _ (mem_its h)
end
def cleanS (k : Knd) (ρ : List PV) : Prop := ∀ a ∈ ρ, a.own = false ∨ a.cln k = true
def vwOk (j : Nat) (k : Knd) (ρ ρ' : List PV) : Prop := ρ' = ρ.set j (nth ρ j).frz ∧ (nth ρ j).own = true ∧ (nth ρ j).kin k = true ∧ cleanS k (ρ.set j .emp)
open Classical in
noncomputable def eView (j : Nat) (k : Knd) (f : M Hd) : M Hd := fun ρ => match f (ρ.set j (nth ρ j).frz) with
  | .ok (.tm a) ρ' => if vwOk j k ρ ρ' ∧ a.cln k = true then .ok (.tm a) ρ else .stuck
  | _ => .stuck
section
variable {g : G} {X : Cx} {e : Expr} {t : M Bool} {fe : M Hd} {j : Nat} {k : Knd} {ρ ρ' : List PV} {σ : L2.St} {H : Hp} {τ : Its}
/-- in, and out again -/
theorem view_hold (f : Fits g.s0 ρ σ) (h : Hold g.T H (its ρ σ ++ τ)) (hw : vwOk j k ρ ρ') : Fits g.s0 ρ' σ ∧ ∃ τ1 : Its, Hold g.T H (its ρ' σ ++ τ1) ∧ ∀ (H' : Hp) (R : Its), (∀ x ∈ R, x.1.cln k = true) → Hold g.T H' (R ++ (its ρ' σ ++ τ1)) → Hold g.T H' (R ++ (its ρ σ ++ τ)) := by
  obtain ⟨rfl, ho, hk, hc⟩ := hw
  have em : (nth ρ j).isEmp = false := by
    cases q : nth ρ j <;> rw [q] at ho <;> first | rfl | cases ho
  obtain ⟨v, cj⟩ := f.has j em
  have hj := f.lt cj
  have fr : (nth ρ j).frz.isIo = false := by
    have := frz_own (nth ρ j)
    unfold PV.own at this
    unfold PV.isIo
    split at this <;> split <;> simp_all
  have f2 : Fits g.s0 (ρ.set j (nth ρ j).frz) σ := f.re cj fun z => by rw [fr] at z; cases z
  have k1 := h.slotOut f cj
  have k2 : Hold g.T H (its (ρ.set j .emp) σ ++ ((nth ρ j, v) :: τ)) := k1.perm (permc fun _ x => by simp only [List.count_append, List.count_cons]; omega)
  have k3 := its_dup k2
  have k4 : Hold g.T H ([(nth ρ j, v)] ++ (its (ρ.set j .emp) σ ++ (its (fzS (ρ.set j .emp)) σ ++ τ))) := k3.perm (permc fun _ x => by simp only [List.count_append, List.count_cons, List.count_nil]; omega)
  obtain ⟨F1, k5, bk⟩ := k4.lend (k := k) fun x hx => by rw [List.mem_singleton.mp hx]; exact hk
  have k6 : Hold g.T H (((nth ρ j).frz, v) :: (its (ρ.set j .emp) σ ++ ((.frm F1, .bl true) :: cels H (its (fzS (ρ.set j .emp)) σ ++ τ)))) := k5
  have k7 := k6.slotIn f cj
  refine ⟨f2, _, k7, fun H' R cl hh => ?_⟩
  have h1 : Hold g.T H' (its (ρ.set j (nth ρ j).frz) σ ++ (R ++ ((.frm F1, .bl true) :: cels H (its (fzS (ρ.set j .emp)) σ ++ τ)))) := hh.perm (permc fun _ x => by simp only [List.count_append, List.count_cons]; omega)
  have h2 := (h1.slotOut f2 cj).tail
  rw [List.set_set] at h2
  have h3 := its_own h2
  have h4 : Hold g.T H' ((R ++ its (owS (ρ.set j .emp)) σ) ++ ((.frm F1, .bl true) :: cels H (its (fzS (ρ.set j .emp)) σ ++ τ))) := h3.perm (permc fun _ x => by simp only [List.count_append, List.count_cons]; omega)
  have h5 := bk H' (R ++ its (owS (ρ.set j .emp)) σ) (fun x hx => by
    rcases List.mem_append.mp hx with hx | hx
    · exact cl x hx
    · have := mem_its hx
      unfold owS at this
      obtain ⟨a, ha, e⟩ := List.mem_map.mp this
      rw [← e]
      split
      · rename_i q
        rcases hc a ha with z | z
        · rw [q] at z; cases z
        · exact z
      · rfl) h4
  have h6 : Hold g.T H' (its (owS (ρ.set j .emp)) σ ++ (its (fzS (ρ.set j .emp)) σ ++ (R ++ ((nth ρ j, v) :: τ)))) := h5.perm (permc fun _ x => by simp only [List.count_append, List.count_cons, List.count_nil]; omega)
  have h7 := its_merge h6
  have h8 : Hold g.T H' ((nth ρ j, v) :: (its (ρ.set j .emp) σ ++ (R ++ τ))) := h7.perm (permc fun _ x => by simp only [List.count_append, List.count_cons]; omega)
  have h9 := h8.slotIn f cj
  have e : ρ.set j (nth ρ j) = ρ := by
    refine List.ext_getElem (by simp) fun i h1 h2 => ?_
    rw [List.getElem_set]
    split
    · rename_i q; subst q; rw [nth_get, List.getElem?_eq_getElem h2]; rfl
    · rfl
  rw [e] at h9
  exact h9.perm (permc fun _ x => by simp only [List.count_append]; omega)
theorem ev_view (h : EV g X e fe) : EV g X e (eView j k fe) :=
  ev_of h fun σ H Q ρ τ f hh hP => by
    unfold eView at hP
    split at hP
    case h_2 => exact hP.elim
    rename_i a ρ' er
    split at hP
    case isFalse => exact hP.elim
    rename_i hw
    obtain ⟨hw, hc⟩ := hw
    obtain ⟨f2, τ1, k1, bk⟩ := view_hold f hh hw
    have e1 := hw.1
    refine ⟨ρ', τ1, f2, k1, ?_⟩
    rw [← e1] at er
    rw [er]
    intro v H' f3 s3 k3
    exact hP v H' f slot_tm (bk H' [(a, v)] (fun x hx => by rw [List.mem_singleton.mp hx]; exact hc) k3)
end
end VL
set_option linter.all false
set_option maxRecDepth 100000
set_option Elab.async false
namespace VT
open PySem PySem.Spec PyProof.Rows VL
section
variable {α β γ δ : Type}
/-- what an own encoding is once it is frozen -/
class Frz (e f : α → PV) : Prop where
  fr : ∀ a, (e a).frz = f a
instance : Frz PV.int PV.int := ⟨fun _ => rfl⟩
instance : Frz PV.bl PV.bl := ⟨fun _ => rfl⟩
instance : Frz kS kS := ⟨fun _ => rfl⟩
instance : Frz kU kU := ⟨fun _ => rfl⟩
instance {e : α → PV} : Frz (kT e) (kT e) := ⟨fun _ => rfl⟩
instance {e : α → PV} {f : β → PV} : Frz (kP2 e f) (kP2 e f) := ⟨fun _ => rfl⟩
instance {e : α → PV} {f : β → PV} {g : γ → PV} : Frz (kP3 e f g) (kP3 e f g) := ⟨fun _ => rfl⟩
instance {o : Fl} {e : α → PV} : Frz (kL o e) (kL .fz e) := ⟨fun _ => rfl⟩
instance {e e' : α → PV} {f f' : β → PV} [Frz e e'] [Frz f f'] : Frz (kX e f) (kX e' f') := ⟨fun a => by cases a with
  | inl a => exact Frz.fr (e := e) (f := e') a
  | inr b => exact Frz.fr (e := f) (f := f') b⟩
instance {e e' : α → PV} [Frz e e'] : Frz (kO e) (kO e') := ⟨fun a => by cases a with
  | none => rfl
  | some a => exact Frz.fr (e := e) (f := e') a⟩
/-- its own cells are of these kinds -/
class Kin (k : Knd) (e : α → PV) : Prop where
  kin : ∀ a, (e a).kin k = true
section
variable {k : Knd}
instance : Kin k PV.int := ⟨fun _ => rfl⟩
instance : Kin k PV.bl := ⟨fun _ => rfl⟩
instance : Kin k kS := ⟨fun _ => rfl⟩
instance : Kin k kU := ⟨fun _ => rfl⟩
instance {e : α → PV} : Kin k (kT e) := ⟨fun _ => rfl⟩
instance {e : α → PV} {f : β → PV} : Kin k (kP2 e f) := ⟨fun _ => rfl⟩
instance {e : α → PV} {f : β → PV} {g : γ → PV} : Kin k (kP3 e f g) := ⟨fun _ => rfl⟩
instance {o : Fl} {e : α → PV} {x y : Bool} : Kin ⟨true, x, y⟩ (kL o e) := ⟨fun _ => by simp [kL, PV.kin]⟩
instance {e : α → PV} {f : β → PV} [Kin k e] [Kin k f] : Kin k (kX e f) := ⟨fun a => by cases a with
  | inl a => exact Kin.kin (e := e) a
  | inr b => exact Kin.kin (e := f) b⟩
instance {e : α → PV} [Kin k e] : Kin k (kO e) := ⟨fun a => by cases a with
  | none => rfl
  | some a => exact Kin.kin (e := e) a⟩
end
end
section
variable {β γ : Type} {E : List PV → Prop} {Q : β → γ → List PV → Prop} {ρ ρ1 ρ' : List PV} {t : TX β} {K : Bool → M γ} {KH : Hd → M γ} {fs : M (List Hd)} {hs : List Hd} {as : List PV} {a c : PV} {i j : Nat} {k : Knd} {tb : M Bool}
theorem cs_nil : cleanS k [] := fun _ h => by cases h
theorem cs_fz (h : FzV a) (r : cleanS k ρ) : cleanS k (a :: ρ) := fun x hx => by
  rcases List.mem_cons.mp hx with rfl | hx
  · exact .inl h.own
  · exact r x hx
theorem cs_em (r : cleanS k ρ) : cleanS k (.emp :: ρ) := fun x hx => by
  rcases List.mem_cons.mp hx with rfl | hx
  · exact .inl rfl
  · exact r x hx
variable {α : Type} {f : α → PV} {xs ys' : List α} {ys : List PV} {m : Nat} {o : Fl}
end
end VT
set_option linter.all false
set_option maxRecDepth 100000
set_option synthInstance.maxSize 2000
set_option Elab.async false
set_option linter.all false
set_option maxRecDepth 100000
set_option synthInstance.maxSize 2000
set_option Elab.async false
set_option Elab.async false
set_option linter.all false
set_option maxRecDepth 100000
namespace VL
open PySem PySem.Spec PyProof.Rows L2
section
variable {T : Tb} {H : Hp} {s0 : L2.St} {ρ : List PV} {σ : L2.St} {l : Its} {i j n : Nat} {p : Addr} {a : PV} {v : V}
theorem Fits.emp (f : Fits s0 ρ σ) : Fits s0 (ρ.set i .emp) σ := by
  refine ⟨by rw [List.length_set]; exact f.len, fun k hk => ?_, fun k hk => ?_⟩
  · by_cases e : i = k
    · subst e
      by_cases hl : i < ρ.length
      · rw [nth_set_same hl] at hk; cases hk
      · rw [nth_out (by simp; omega)] at hk; cases hk
    · rw [nth_set_ne e] at hk; exact f.has k hk
  · by_cases e : i = k
    · subst e
      by_cases hl : i < ρ.length
      · rw [nth_set_same hl] at hk; cases hk
      · rw [nth_out (by simp; omega)] at hk; cases hk
    · rw [nth_set_ne e] at hk; exact f.io k hk
end
end VL
set_option Elab.async false
set_option linter.all false
set_option maxRecDepth 100000
namespace My
open PySem PySem.Spec PyProof.Rows L2
/-- how its arguments bind -/
structure BindsKw (K : PySem.W.Frag) (fd : FuncData) (ps : List Str) (nm : Str) (dv : Value) : Prop where
  wt : ∀ (s : Shared) (us : List Value) (u : Value), K.In s.heap → us.length + 1 = ps.length → BindsTo s fd ⟨us, [(nm, u)]⟩ (ps.zip (us ++ [u]))
  no : ∀ (s : Shared) (us : List Value), K.In s.heap → us.length + 1 = ps.length → BindsTo s fd ⟨us, []⟩ (ps.zip (us ++ [dv]))
structure DfK (K : PySem.W.Frag) (mg : Str → Option Value) (x : Str) (st : Stmt) (ps : List Str) (nm : Str) (dv : Value) : Prop where
  ex : ∃ (f : Addr) (fd : FuncData), Fun K x x st f fd ∧ BindsKw K fd ps nm dv ∧ mg x = some (.ref f)
structure DnK (P : Program) (w : World) (K : PySem.W.Frag) (mg : Str → Option Value) (base : Heap) (k : Nat) (x : Str) (nm : Str) (dv : Value) (sp : Sp) : Prop where
  ex : ∃ (f : Addr) (fd : FuncData) (ps : List Str), FnG P w K mg base (L2N.CX P w) k f fd ps sp ∧ mg x = some (.ref f) ∧ PySem.W.keepIn K (.ref f) = true ∧ BindsKw K fd ps nm dv
section
variable {P : Program} {w : World} {K : PySem.W.Frag} {mg : Str → Option Value} {base : Heap} {x nm : Str} {dv : Value} {st : Stmt} {N ps : List Str} {k : Nat} {sp : Sp}
theorem DfK.okX (F : DfK K mg x st ps nm dv) (S : FnScope N ps (defScope st)) (len : ∀ vs H Q E, sp vs H Q E → vs.length = ps.length)
    (body : ∀ (f : Addr) (cdv : Value) (A : Around) (outer : List Env) (s : Shared) (H : Hp) (vs : List V) (Q : VK) (E : XK),
      RoomG k (A.deeper (envOfC x (defScope st) s.heap.objs.size f cdv)) → sp vs H Q E →
      ∃ t, PSs (cxOf (L2N.CX P w) P w K mg base N x (defScope st) f cdv A outer s H E) (defBody st) t ∧
        t { nx := fun _ H' => Q .non H', rt := Q } (start N vs) H) : DnK P w K mg base (k + 1) x nm dv sp := by
  obtain ⟨f, fd, F, b, m⟩ := F.ex
  exact ⟨f, fd, ps, okG F S len (body f), m, F.kp, b⟩
end
end My
set_option Elab.async false
set_option linter.all false
set_option maxRecDepth 100000
namespace VL
open PySem PySem.Spec PyProof.Rows L2
end VL
set_option Elab.async false
set_option linter.all false
set_option maxRecDepth 100000
namespace VL
open PySem PySem.Spec PyProof.Rows L2
end VL
set_option linter.all false
set_option maxRecDepth 100000
set_option Elab.async false
namespace VT
open PySem PySem.Spec PyProof.Rows VL
section
variable {α β γ δ : Type}
def kM (e : α → PV) (xs : List (List α)) : PV := .nst .ow .l (xs.map (kL .ow e))
theorem frzs_map {e f : α → PV} (h : ∀ a, (e a).frz = f a) : ∀ xs : List α, PV.frzs (xs.map e) = xs.map f
  | [] => rfl
  | x :: xs => by simp only [List.map_cons, PV.frzs, h, frzs_map h xs]
theorem frz_M {e : α → PV} (xs : List (List α)) : (kM e xs).frz = kL .fz (kL .fz e) xs := by
  unfold kM
  simp only [PV.frz]
  rw [frzs_map (f := kL .fz e) fun _ => rfl]
  rfl
theorem kins_map {k : Knd} {e : α → PV} (h : ∀ a, (e a).kin k = true) : ∀ xs : List α, PV.kins k (xs.map e) = true
  | [] => rfl
  | x :: xs => by simp only [List.map_cons, PV.kins, h, kins_map h xs, Bool.and_self]
theorem kin_M {e : α → PV} {x y : Bool} (xs : List (List α)) : (kM e xs).kin ⟨true, x, y⟩ = true := by
  unfold kM
  simp only [PV.kin, Bool.true_and]
  exact kins_map (fun _ => by simp [kL, PV.kin]) xs
theorem okN_M {e : α → PV} (xs : List (List α)) : ∀ x ∈ xs.map (kL .ow e), x.okN = true := fun x hx => by
  obtain ⟨a, _, rfl⟩ := List.mem_map.mp hx; rfl
end
section
variable {α β γ : Type} {E E0 : List PV → Prop} {Q : β → γ → List PV → Prop} {ρ ρ1 ρ2 ρ' : List PV} {t : TX β} {KH : Hd → M γ} {KA : List Hd → M γ} {fs : M (List Hd)} {fv : M Hd} {hs hs' : List Hd} {h : Hd} {a c : PV} {i j : Nat} {k : Knd}
theorem x_eview {δ : Type} {e : δ → PV} {m : TX δ} {T : δ → TX β} {fe : M Hd} (hf : (nth ρ j).frz = a) (hr : ρ.set j a = ρ1) (ho : (nth ρ j).own = true) (hk : (nth ρ j).kin k = true) (hc : cleanS k (ρ.set j .emp)) (ce : ∀ b, (e b).cln k = true) (h1 : Sim E (fun b h ρ2 => h = Hd.tm (e b) ∧ ρ2 = ρ1) (fe ρ1) m) (kk : ∀ b, Sim E Q (KH (.tm (e b)) ρ) (T b)) : Sim E Q ((eView j k fe ρ).bind KH) ((nox m).bind T) := by
  subst hf hr
  cases m with
  | ok b =>
    obtain ⟨b', ρ2, e1, q⟩ := h1
    obtain ⟨rfl, rfl⟩ := q
    have : eView j k fe ρ = .ok (.tm (e b)) ρ := by
      unfold eView
      rw [e1]
      simp only
      rw [if_pos ⟨⟨rfl, ho, hk, hc⟩, ce b⟩]
    rw [this]
    exact kk b
  | ex c xs => trivial
  | no => trivial
end
end VT
set_option linter.all false
set_option maxRecDepth 100000
set_option synthInstance.maxSize 2000
set_option Elab.async false
set_option Elab.async false
set_option linter.all false
set_option maxRecDepth 100000
namespace VL
open PySem PySem.Spec PyProof.Rows L2
end VL
set_option linter.all false
set_option maxRecDepth 100000
set_option Elab.async false
namespace VT
open PySem PySem.Spec PyProof.Rows VL
section
variable {α β γ δ : Type}
def kV (e : α → PV) (f : β → PV) (p : List α × List β) : PV := .nst .ow .l [kL .ow e p.1, kL .ow f p.2]
variable {E : List PV → Prop} {Qw : β → Fw → List PV → Prop} {ρ ρ1 ρ2 : List PV} {t : TX β} {K : M Fw} {fi fv : M Hd} {h0 h2 : Hd} {i j m : Nat}
end
end VT
set_option linter.all false
set_option maxRecDepth 100000
set_option synthInstance.maxSize 2000
set_option Elab.async false
namespace Law
open VL VT PySem
structure O_Copy where
  forest : O_Forest
  record : (List Int)
def kC_Copy (o : Fl) (x : O_Copy) : PV := .obj o "Copy" [(kC_Forest .fz) x.forest, (kT PV.int) x.record]
instance : Fz (kC_Copy .fz) := ⟨fun _ => rfl⟩
instance : FlE (fun o => kC_Copy o) := ⟨fun o a => by cases o <;> rfl, fun _ _ => rfl, fun _ _ => rfl, fun _ => rfl⟩
end Law
set_option Elab.async false
set_option linter.all false
set_option maxRecDepth 100000
namespace VL
open PySem PySem.Spec PyProof.Rows L2
def rComb : List V → Hp → VK → Prop := fun vs H Q => ∃ a b : Int, vs = [.int a, .int b] ∧ 0 ≤ a ∧ 0 ≤ b ∧ a < 2 ^ 64 ∧ b ≤ 9000 ∧ Q (.int (PySem.W.mcComb a b)) H
theorem cr_comb {X : Cx} : CallR X (.builtin "math.comb") rComb := by
  intro pins s σ H vs us Q I r h
  obtain ⟨a, b, rfl, h1, h2, h3, h4, q⟩ := h
  obtain ⟨t, u, rfl⟩ := Vals.int2 r
  exact PySem.W.mc_comb h1 h2 h3 (.inl h4) fun _ => ⟨.int _, H, I.tok _, ⟨_, rfl⟩, q⟩
def oComb : List PV → Option PV
  | [.int a, .int b] => if 0 ≤ a ∧ 0 ≤ b ∧ a < 2 ^ 64 ∧ b ≤ 9000 then some (.int (PySem.W.mcComb a b)) else none
  | _ => none
theorem f_comb {T : Tb} : Fnv T oComb rComb := by
  intro H l as c vs Q k hl m0 e q
  unfold oComb at e
  split at e
  · rename_i a b
    split at e
    · rename_i h
      cases e
      obtain ⟨v, w, rfl, m, m'⟩ := two_arg rfl hl m0
      exact ⟨a, b, by rw [k.g_int m, k.g_int m'], h.1, h.2.1, h.2.2.1, h.2.2.2, q _ _ k.int⟩
    · cases e
  · cases e
section
variable {g : G} {X : Cx} {es : List Expr} {fs : M (List Hd)} {pos : Pos}
theorem ev_fnM {id : String} {x : Str} {e : Expr} {p : Pos} {opf : List PV → Option PV} {rf : List V → Hp → VK → Prop} (hc : CallR X (.builtin id) rf) (hf : Fnv g.T opf rf) (hg : Gl X x) (hm : X.mg x = some (.builtin id)) (ha : AV g X (e :: es) fs) (hdb : (x == ("__debug__" : Str)) = false := by decide)
    (h1 : starEach (e :: es) X.env = (false, eval e X.env) :: starEach es X.env := by rfl) (h2 : (backTo pos (starEach es X.env)).any (·.1) = false := by rfl) : EV g X (.Call (.Name x p) (e :: es) [] pos) (eFn opf fs) :=
  ev_of (pe_callBfun hc hg hm ha hdb h1 h2) fun σ H Q ρ τ f h hP => stepA (ε := []) f (nilT h) hP fun hs ρ1 hP1 vs H1 f1 s1 k1 => by
    cases e : opf (hs.map (hv ρ1)) with
    | none => rw [e] at hP1; exact hP1.elim
    | some c =>
      rw [e] at hP1
      rw [List.nil_append] at k1
      obtain ⟨q1, q2⟩ := mems_of (l := hits hs vs ++ (its ρ1 σ ++ τ)) f1 s1 (fun x hx => by simp [hx]) fun x hx => by simp [hx]
      exact hf H1 _ _ c vs Q k1 q1 q2 e fun z H' k' => hP1 z H' f1 slot_tm (k'.sub (.cons_cons _ (List.sublist_append_right ..)))
end
end VL
set_option Elab.async false
set_option linter.all false
set_option maxRecDepth 100000
namespace VL
open PySem PySem.Spec PyProof.Rows L2
def lclQ (t : Tg) (tt : M Bool) (fe : M Hd) (own : List Nat) : List PV → List PV → M (List PV)
  | [], acc, ρ => .ok acc ρ
  | x :: xs, acc, ρ => match t x ρ with
    | some ρ1 => (match tt ρ1 with
      | .ok true ρ2 => (match fe ρ2 with
        | .ok h ρ3 => (match keepM h ρ3 with
          | some (a, ρ4) => if acc.length < lim then lclQ t tt fe own xs (acc ++ [a]) (wipeQ ρ4 own) else .stuck
          | none => .stuck)
        | _ => .stuck)
      | .ok false ρ2 => lclQ t tt fe own xs acc (wipeQ ρ2 own)
      | _ => .stuck)
    | none => .stuck
def eLcQ (fi : M (List PV)) (t : Tg) (tt : M Bool) (fe : M Hd) (own : List Nat) : M Hd := fun ρ => (fi ρ).bind fun xs ρ1 => match lclQ t tt fe own xs [] (wipeQ ρ1 own) with
  | .ok ys ρ2 => .ok (.tm (.nst .ow .l ys)) (restP ρ2 ρ1 own)
  | _ => .stuck
section
variable {g : G} {X : Cx} {elt tg iter : Expr} {ifs : List Expr} {fe : M Hd} {fx : M (List PV)} {tt : M Bool} {t : Tg} {pos : Pos} {scope : Scope} {own : List (Str × Nat)} {is : List Nat}
theorem lc_readQ {σ : L2.St} {H : Hp} {Q : VK} {ρ : List PV} {τ : Its} (nd : is.Nodup) (ft : Fits g.s0 ρ σ) (h : Hold g.T H (its ρ σ ++ τ)) (hP : Post g σ τ (PE1 g σ τ Q) (eLcQ fx t tt fe is ρ)) :
    tLc (trI g fx) (trG g.in0 t is) (trT g.in0 tt) (trE g.in0 fe) is σ H Q := by
  refine ⟨ρ, τ, ft, h, ?_⟩
  unfold eLcQ at hP
  cases e : fx ρ with
  | stuck => rw [e] at hP; exact hP
  | exc c xs ρ1 => rw [e] at hP; exact hP
  | ok xs ρ1 =>
    rw [e] at hP
    intro J H' τx K Y w hG hY own f1 k1 D hD
    obtain ⟨S, f2, k2, put⟩ := saveOut nd f1 (mid k1)
    refine lc_it w (fun i H => ∃ ρ acc, Fits g.s0 ρ (wipe σ is) ∧ (∀ j ∈ is, nth ρ j = .emp) ∧ (∀ x ∈ acc, x.okN = true) ∧ Hold g.T H ((.nst .ow .l acc, .ref D) :: (its ρ (wipe σ is) ++ (S ++ (τx ++ τ)))) ∧
      (match lclQ t tt fe is (xs.drop i) acc ρ with
        | .ok ys ρ2 => PE1 g σ τ Q (.tm (.nst .ow .l ys)) (restP ρ2 ρ1 is)
        | _ => False)) ?_ (fun i H _ ⟨ρ, acc, _, _, _, k, _⟩ => hG H ((.nst .ow .l acc, .ref D) :: (its ρ (wipe σ is) ++ (S ++ τ))) (k.perm (permc fun _ x => by simp only [List.count_append, List.count_cons]; omega))) (fun i x H2 H3 hi ⟨ρ, acc, f3, em, ok3, k3, hP3⟩ y => ?_) fun H2 ⟨ρ, acc, f3, em, ok3, k3, hP3⟩ => ?_
    · refine ⟨wipeQ ρ1 is, [], f2, fun j hj => wipeQ_in hj, (fun _ z => by cases z), Hold.join (xs := []) (vs := []) (o := .ow) (Hold.new_own (o := .lst []) (a := .cel .ow (.lst [])) k2 hD rfl fun F s o => ⟨by decide, D, rfl, upd_same, trivial⟩) rfl (fun _ z => by cases z) (by decide), ?_⟩
      rw [List.drop_zero]
      have hP : Post g σ τ (PE1 g σ τ Q) (match lclQ t tt fe is xs [] (wipeQ ρ1 is) with
        | .ok ys ρ2 => (.ok (.tm (.nst .ow .l ys)) (restP ρ2 ρ1 is) : R Hd)
        | _ => .stuck) := hP
      cases e2 : lclQ t tt fe is xs [] (wipeQ ρ1 is) with
      | ok ys ρ2 => rw [e2] at hP; exact hP
      | exc _ _ _ => rw [e2] at hP; exact hP
      | stuck => rw [e2] at hP; exact hP
    · have hd : xs.drop i = xs[i] :: xs.drop (i + 1) := List.drop_eq_getElem_cons hi
      rw [hd] at hP3
      simp only [lclQ] at hP3
      have k4 := hY i H2 x H3 ((.nst .ow .l acc, .ref D) :: (its ρ (wipe σ is) ++ (S ++ τ))) xs[i] (List.getElem?_eq_getElem hi) (k3.perm (permc fun _ x => by simp only [List.count_append, List.count_cons]; omega)) y
      cases e2 : t xs[i] ρ with
      | none => rw [e2] at hP3; exact hP3.elim
      | some ρ2 =>
        rw [e2] at hP3
        simp only at hP3
        -- what a turn leaves aside
        have down : ∀ {ρ4 : List PV} {σ' : L2.St} {H : Hp} {l : Its}, wipe σ' is = wipe σ is → Fits g.s0 ρ4 σ' → Hold g.T H (its ρ4 σ' ++ l) → Fits g.s0 (wipeQ ρ4 is) (wipe σ is) ∧ Hold g.T H (its (wipeQ ρ4 is) (wipe σ is) ++ l) := fun {ρ4 σ' H l} w' f' k' => by
          obtain ⟨S', q1, q2, _⟩ := saveOut nd f' k'
          rw [w'] at q1 q2
          exact ⟨q1, q2.sub (List.Sublist.append_left (List.sublist_append_right ..) _)⟩
        refine ⟨xs[i], ρ, (.nst .ow .l acc, .ref D) :: (S ++ (τx ++ τ)), f3, own _ (List.getElem_mem hi), k4.perm (permc fun _ x => by simp only [List.count_append, List.count_cons]; omega), ρ2, e2, fun σ' H4 w' f4 k5 => ⟨by rw [w', wipe_idem], ?_⟩⟩
        rw [wipe_idem] at w'
        refine ⟨ρ2, _, f4, k5, ?_⟩
        cases e3 : tt ρ2 with
        | stuck => rw [e3] at hP3; exact hP3
        | exc _ _ _ => rw [e3] at hP3; exact hP3.elim
        | ok b ρ3 =>
          rw [e3] at hP3
          intro H5 f5 k6
          cases b with
          | false =>
            simp only [Bool.false_eq_true, if_false] at hP3 ⊢
            obtain ⟨f6, k7⟩ := down w' f5 k6
            exact ⟨wipeQ ρ3 is, acc, f6, fun j hj => wipeQ_in hj, ok3, k7.perm (permc fun _ x => by simp only [List.count_append, List.count_cons]; omega), hP3⟩
          | true =>
            simp only [if_true] at hP3 ⊢
            refine ⟨ρ3, _, f5, k6, ?_⟩
            cases e4 : fe ρ3 with
            | stuck => rw [e4] at hP3; exact hP3
            | exc _ _ _ => rw [e4] at hP3; exact hP3.elim
            | ok h1 ρ4 =>
              rw [e4] at hP3
              simp only at hP3
              intro v H6 f6 s6 k7
              cases e5 : keepM h1 ρ4 with
              | none => rw [e5] at hP3; exact hP3.elim
              | some p =>
                obtain ⟨a, ρ5⟩ := p
                rw [e5] at hP3
                simp only at hP3
                obtain ⟨f7, o7, k8⟩ := keepM_ok f6 s6 k7 e5
                by_cases hz : acc.length < lim
                · rw [if_pos hz] at hP3
                  have k9 : Hold g.T H6 ((.nst .ow .l acc, .ref D) :: ((a, v) :: (its ρ5 σ' ++ (S ++ (τx ++ τ))))) := k8.perm (permc fun _ x => by simp only [List.count_append, List.count_cons]; omega)
                  obtain ⟨_, p, vs, ev, hp, hl, k91⟩ := k9.split
                  cases ev
                  refine ⟨vs, hp, by rw [hl]; exact lim_lt hz, ?_⟩
                  have k10 := Hold.write k91 (b := .cel .ow (.lst (vs ++ [v]))) (o := .lst (vs ++ [v])) rfl rfl fun F s r o => ⟨by decide, D, rfl, upd_same, trivial⟩
                  have k101 : Hold g.T (upd H6 D (.lst (vs ++ [v]))) ((.cel .ow (.lst (vs ++ [v])), .ref D) :: ((acc ++ [a]).zip (vs ++ [v]) ++ (its ρ5 σ' ++ (S ++ (τx ++ τ))))) := k10.perm (by
                    rw [List.zip_append hl.symm, List.zip_cons_cons, List.zip_nil_right]
                    exact permc fun _ x => by simp only [List.count_append, List.count_cons, List.count_nil]; omega)
                  have ok4 : ∀ x ∈ acc ++ [a], x.okN = true := fun x hx => by
                    rcases List.mem_append.mp hx with hx | hx
                    · exact ok3 x hx
                    · rw [List.mem_singleton.mp hx]; exact o7
                  have k11 : Hold g.T (upd H6 D (.lst (vs ++ [v]))) (its ρ5 σ' ++ ((.nst .ow .l (acc ++ [a]), .ref D) :: (S ++ (τx ++ τ)))) := (k101.join (o := .ow) (by simp [hl]) ok4 (by decide)).perm (permc fun _ x => by simp only [List.count_append, List.count_cons]; omega)
                  obtain ⟨f8, k12⟩ := down w' f7 k11
                  exact ⟨wipeQ ρ5 is, acc ++ [a], f8, fun j hj => wipeQ_in hj, ok4, k12.perm (permc fun _ x => by simp only [List.count_append, List.count_cons]; omega), hP3⟩
                · rw [if_neg hz] at hP3; exact hP3.elim
    · rw [List.drop_length] at hP3
      simp only [lclQ] at hP3
      have k4 : Hold g.T H2 (its ρ (wipe σ is) ++ (S ++ ((.nst .ow .l acc, .ref D) :: (τx ++ τ)))) := k3.perm (permc fun _ x => by simp only [List.count_append, List.count_cons]; omega)
      obtain ⟨f4, k5⟩ := put ρ H2 _ f3 em k4
      refine hP3 (.ref D) H2 f4 slot_tm ?_
      have : Hold g.T H2 (τx ++ ((.nst .ow .l acc, .ref D) :: (its (restP ρ ρ1 is) σ ++ τ))) := k5.perm (permc fun _ x => by simp only [List.count_append, List.count_cons]; omega)
      exact this.right
theorem sv_setLcQ {i : Nat} {y : Str} {py spos : Pos} (hc : X.calm = true) (hN : X.N.Nodup) (hy : X.N[i]? = some y) (hyl : X.env.scope.names.lookup y = some .local)
    (hsw : swapsWith (.ListComp elt [⟨tg, iter, ifs, 0⟩] scope pos) (some (.Name y py)) spos.line X.env = pure true) (his : own.map (·.2) = is) (nd : is.Nodup) (hi : IV g X tg iter fx) (ok : BlkOk X.N X.env.scope scope own)
    (hg : ∀ (s : Shared) (H : Hp) (C : Addr) (cl : List (Str × Addr)) (fp : List Addr), GV g.in0 (X.blk s H scope (compEnvC scope cl C X.env) fp) tg t is) (ht : ∀ (s : Shared) (H : Hp) (C : Addr) (cl : List (Str × Addr)) (fp : List Addr), PTsV g.in0 (X.blk s H scope (compEnvC scope cl C X.env) fp) ifs tt)
    (he : ∀ (s : Shared) (H : Hp) (C : Addr) (cl : List (Str × Addr)) (fp : List Addr), EV g.in0 (X.blk s H scope (compEnvC scope cl C X.env) fp) elt fe) (hs : ∀ x, foldedSetIterable iter X.env x = pure x := by intro _; rfl) :
    SV g X (.Assign [.Name y py] (.ListComp elt [⟨tg, iter, ifs, 0⟩] scope pos) spos) (sSet i (eLcQ fx t tt fe is)) :=
  sv_of (ps_setLc hc hN hy hyl hsw hi ok hg ht he hs) fun D σ H ρ τ ft h hP => by
    have hP2 : PS1 g τ D ((eLcQ fx t tt fe is ρ).bind fun h ρ1 => match keep h ρ1 with
      | some (a, ρ2) => ofL (setAt i a ρ2)
      | none => .stuck) := hP
    rw [his]
    refine (show tLc (trI g fx) (trG g.in0 t is) (trT g.in0 tt) (trE g.in0 fe) is σ H (fun x H1 => gName i x σ H1 D.nx) from ?_)
    refine lc_readQ nd ft h (?_ : Post g σ τ (PE1 g σ τ fun x H1 => gName i x σ H1 D.nx) (eLcQ fx t tt fe is ρ))
    cases e : eLcQ fx t tt fe is ρ with
    | stuck => rw [e] at hP2; exact hP2
    | exc c xs ρ1 => rw [e] at hP2; exact fun d vs H' => hP2 d vs σ H'
    | ok h1 ρ1 =>
      rw [e] at hP2
      intro v H1 f1 s1 k1
      simp only [R.bind_ok] at hP2
      cases e1 : keep h1 ρ1 with
      | none => rw [e1] at hP2; exact hP2.elim
      | some p =>
        obtain ⟨a, ρ2⟩ := p
        rw [e1] at hP2
        simp only at hP2
        obtain ⟨f2, k2⟩ := keep_ok f1 s1 k1 e1
        cases e2 : setAt i a ρ2 with
        | none => rw [e2] at hP2; exact hP2.elim
        | some ρ3 =>
          rw [e2] at hP2
          obtain ⟨f3, k3⟩ := setAt_ok f2 k2 e2
          exact hP2 _ H1 f3 k3
end
end VL
set_option Elab.async false
set_option linter.all false
set_option maxRecDepth 100000
namespace VL
open PySem PySem.Spec PyProof.Rows L2
def sSubV (j : Nat) (f1 fi fv : M Hd) : M Fw := fun ρ => (fv ρ).bind fun h0 ρ1 => match nth ρ1 j with
  | .nst .ow .l xs => if (∀ x ∈ xs, x.okN = true) then (f1 (ρ1.set j .emp)).bind fun h1 ρ2 => (match hv ρ2 h1 with
    | .int k1 => (match ixN xs.length k1 with
      | some m => (match xs[m]? with
        | some (.lst .ow ys) => (fi ρ2).bind fun h2 ρ3 => (match take ρ3 h0 with
          | some (a, ρ4) => (match hv ρ4 h2 with
            | .int k => (match ixN ys.length k with
              | some q => .ok .nx (ρ4.set j (.nst .ow .l (xs.set m (.lst .ow (ys.set q a)))))
              | none => .stuck)
            | _ => .stuck)
          | none => .stuck)
        | _ => .stuck)
      | none => .stuck)
    | _ => .stuck) else .stuck
  | _ => .stuck
/-- a name frozen first -/
def sPre (j : Nat) (f : M Fw) : M Fw := fun ρ => match fzOf (nth ρ j) with
  | some a => f (ρ.set j a)
  | none => .stuck
section
variable {g : G} {X : Cx} {i v i1 : Expr} {fi fv f1 : M Hd} {pos tpos npos ipos spos : Pos} {x : Str} {j : Nat} {q : Tok} {s : Stmt} {f : M Fw}
theorem sv_pre (hn : EV g X (.Name x npos) (eN j)) (h : SV g X s f) : SV g X s (sPre j f) :=
  sv_of h fun D σ H ρ τ ft hh hP => by
    unfold sPre at hP
    split at hP
    · rename_i a e
      by_cases em : (nth ρ j).isEmp = true
      · have e0 : nth ρ j = .emp := by cases q : nth ρ j <;> rw [q] at em <;> first | rfl | cases em
        rw [e0] at e
        cases e
      · obtain ⟨u, cj⟩ := ft.has j (by simpa using em)
        obtain ⟨f2, _, k2⟩ := take_ok (h := .sl j) (v := u) (a := a) (ρ' := ρ.set j a) ft (fun i hi => by cases hi; exact cj) (by simpa [hit] using hh) (by simp only [take, e])
        exact ⟨ρ.set j a, τ, f2, k2.tail, hP⟩
    · exact hP.elim
theorem sv_subV (hv' : EV g X v fv) (hn : EV g X (.Name x npos) (eN j)) (h1' : EV g X i1 f1) (hi : EV g X i fi)
    (hpl : PlainIx i1 := by exact fun _ _ => rfl)
    (ha : ∀ v, assign (.Subscript (.Subscript (.Name x npos) i1 spos) i tpos) X.env v = (do
      let ov ← holding [v] (eval (.Subscript (.Name x npos) i1 spos) X.env)
      let iv ← holding [v, ov] (eval i X.env)
      standAt tpos
      holding [v, ov, iv] (setItem ov iv v)
      release [v, ov, iv] []) := by intro _; rfl)
    (hs : swapsWithSole [.Subscript (.Subscript (.Name x npos) i1 spos) i tpos] v pos.line X.env = pure false := by rfl) (hw : swappedStores [.Subscript (.Subscript (.Name x npos) i1 spos) i tpos] v X.env = pure none := by rfl)
    (h1 : (assignEach [.Subscript (.Subscript (.Name x npos) i1 spos) i tpos] X.env).map (·.2) = [assign (.Subscript (.Subscript (.Name x npos) i1 spos) i tpos) X.env] := by rfl) :
    SV g X (.Assign [.Subscript (.Subscript (.Name x npos) i1 spos) i tpos] v pos) (sSubV j f1 fi fv) :=
  sv_of (ps_asg hv' (pg_sub (pe_ix ix_seqA hn h1' hpl) hi set_list ha) hs hw h1) fun D σ H ρ τ ft h hP => stepES ft h hP fun h0 ρ1 hP1 v0 H1 f1' s1 k1 => by
    have st : ∀ {α : Type} {fa : M Hd} {k : Hd → M Fw} {ρ : List PV} {ε : Its} {H : Hp} {Q' : VK}, Fits g.s0 ρ σ → Hold g.T H (its ρ σ ++ (ε ++ τ)) → PS1 g τ D ((fa ρ).bind k) → (∀ h ρ1, PS1 g τ D (k h ρ1) → ∀ v H1, Fits g.s0 ρ1 σ → slotAt σ h v → Hold g.T H1 (hit h v ++ (its ρ1 σ ++ (ε ++ τ))) → Q' v H1) → trE g fa σ H Q' := by
      intro α fa k ρ ε H Q' ft h hP hk
      refine ⟨ρ, ε ++ τ, ft, h, ?_⟩
      cases e : fa ρ with
      | ok h ρ1 => rw [e] at hP; exact hk h ρ1 hP
      | exc c xs ρ1 => rw [e] at hP; exact fun d vs H' fx hx hl hh => hP d vs σ H' fx hx hl (hh.sub (List.Sublist.append_left (List.Sublist.append_left (List.sublist_append_right ..) _) _))
      | stuck => rw [e] at hP; exact hP
    split at hP1
    case h_2 => exact hP1.elim
    rename_i xs e0
    split at hP1
    case isFalse => exact hP1.elim
    rename_i hk3
    have em : (nth ρ1 j).isEmp = false := by rw [e0]; rfl
    -- the name
    refine ⟨ρ1, hit h0 v0 ++ τ, f1', mid k1, ?_⟩
    unfold eN
    rw [em]
    simp only [Bool.false_eq_true, if_false]
    intro w0 H2 f2 s2 k2
    have cj := s2 j rfl
    have k2 : Hold g.T H2 (its ρ1 σ ++ (hit h0 v0 ++ τ)) := by simpa [hit] using k2
    have k4 := k2.slotOut f2 cj
    rw [e0] at k4
    obtain ⟨_, p, vs, rfl, _, hl, k5⟩ := k4.split
    have k5' : Hold g.T H2 (its (ρ1.set j .emp) σ ++ (((.cel .ow (.lst vs), .ref p) :: (xs.zip vs ++ hit h0 v0)) ++ τ)) := k5.perm (permc fun _ x => by simp only [List.count_append, List.count_cons]; omega)
    have f4 : Fits g.s0 (ρ1.set j .emp) σ := f2.re cj fun z => by cases z
    -- the place of the item
    refine st (α := Unit) (ε := (.cel .ow (.lst vs), .ref p) :: (xs.zip vs ++ hit h0 v0)) f4 k5' hP1 fun h1 ρ2 hP2 w H3 f3 s3 k3 => ?_
    cases e1 : hv ρ2 h1 <;> simp only [e1] at hP2 <;> try exact hP2.elim
    rename_i kk1
    cases e2 : ixN xs.length kk1 with
    | none => simp only [e2] at hP2; exact hP2.elim
    | some m =>
      simp only [e2] at hP2
      split at hP2
      case h_2 => exact hP2.elim
      rename_i ys ea
      have mi1 : (hv ρ2 h1, w) ∈ hit h1 w ++ (its ρ2 σ ++ (((.cel .ow (.lst vs), .ref p) :: (xs.zip vs ++ hit h0 v0)) ++ τ)) := mem_of f3 s3 (fun x hx => by simp [hx]) fun x hx => by simp [hx]
      rw [e1] at mi1
      have ew := k3.g_int mi1
      subst ew
      have mc : (PV.cel .ow (.lst vs), V.ref p) ∈ hit h1 (.int kk1) ++ (its ρ2 σ ++ (((.cel .ow (.lst vs), .ref p) :: (xs.zip vs ++ hit h0 v0)) ++ τ)) := by simp
      obtain ⟨F, sF, ow⟩ := k3.own mc
      obtain ⟨_, q, eq, hp, _⟩ := (Own.ow rfl).mp ow
      cases eq
      obtain ⟨A, B, u, eu, z1, z2⟩ := zip_at hl ea
      refine .inl ⟨p, vs, kk1, u, rfl, rfl, SqL.of hp, by unfold L2.atI; rw [hl, e2]; exact eu, ?_⟩
      refine st (α := Unit) (ε := (.cel .ow (.lst vs), .ref p) :: (xs.zip vs ++ hit h0 v0)) f3 k3.right hP2 fun h2 ρ3 hP3 i1 H4 f5 s5 k6 => ?_
      cases e3 : take ρ3 h0 with
      | none => simp only [e3] at hP3; exact hP3.elim
      | some pr =>
        obtain ⟨a, ρ4⟩ := pr
        simp only [e3] at hP3
        have k7 : Hold g.T H4 (hit h0 v0 ++ (its ρ3 σ ++ (hit h2 i1 ++ (((.cel .ow (.lst vs), .ref p) :: xs.zip vs) ++ τ)))) := k6.perm (permc fun _ x => by simp only [List.count_append, List.count_cons]; omega)
        obtain ⟨f6, o6, k8⟩ := take_ok f5 s1 k7 e3
        have mi : (hv ρ4 h2, i1) ∈ (a, v0) :: (its ρ4 σ ++ (hit h2 i1 ++ (((.cel .ow (.lst vs), .ref p) :: xs.zip vs) ++ τ))) := mem_of f6 s5 (fun x hx => by simp [hx]) fun x hx => by simp [hx]
        cases e4 : hv ρ4 h2 <;> simp only [e4] at hP3 mi <;> try exact hP3.elim
        rename_i kk
        cases e5 : ixN ys.length kk with
        | none => simp only [e5] at hP3; exact hP3.elim
        | some qq =>
          simp only [e5] at hP3
          have k9 : Hold g.T H4 ((.lst .ow ys, u) :: ((a, v0) :: (its ρ4 σ ++ (hit h2 i1 ++ ((.cel .ow (.lst vs), .ref p) :: (A ++ B) ++ τ))))) := k8.perm (by
            rw [z1]; exact permc fun _ x => by simp only [List.count_append, List.count_cons]; omega)
          obtain ⟨pk, us, rfl, hpk, hlk, _⟩ := k9.g_lst List.mem_cons_self
          refine ⟨pk, us, kk, qq, rfl, k8.g_int mi, hpk, by rw [hlk]; exact e5, ?_⟩
          have k10 := Hold.write k9 (o := .lst (us.set qq v0)) rfl (b := .lst .ow (ys.set qq a)) rfl fun F s ra ow => ⟨pk, _, rfl, upd_same, by
            obtain ⟨p', vs', ev, hp', r⟩ := ra
            cases ev
            rw [hpk] at hp'; cases hp'
            exact r.set qq ((Own.fz o6).mp (ow (a, v0) (by simp))) o6⟩
          have k11 : Hold g.T (upd H4 pk (.lst (us.set qq v0))) ((.cel .ow (.lst vs), .ref p) :: ((xs.set m (.lst .ow (ys.set qq a))).zip vs ++ ((a, v0) :: (hit h2 i1 ++ (its ρ4 σ ++ τ))))) := k10.perm (by
            rw [z2]; exact permc fun _ x => by simp only [List.count_append, List.count_cons]; omega)
          have k12 := k11.join (o := .ow) (by simpa using hl) (fun x hx => (List.mem_or_eq_of_mem_set hx).elim (hk3 x) fun z => z ▸ rfl) (by decide)
          have k13 : Hold g.T (upd H4 pk (.lst (us.set qq v0))) (its ρ4 σ ++ ((.nst .ow .l (xs.set m (.lst .ow (ys.set qq a))), .ref p) :: τ)) := by
            have : Hold g.T (upd H4 pk (.lst (us.set qq v0))) (((a, v0) :: hit h2 i1) ++ (its ρ4 σ ++ ((.nst .ow .l (xs.set m (.lst .ow (ys.set qq a))), .ref p) :: τ))) := k12.perm (permc fun _ x => by simp only [List.count_append, List.count_cons]; omega)
            exact this.right
          have k14 := (k13.slotOut f6 cj).tail
          have k15 : Hold g.T (upd H4 pk (.lst (us.set qq v0))) ((.nst .ow .l (xs.set m (.lst .ow (ys.set qq a))), .ref p) :: (its (ρ4.set j .emp) σ ++ τ)) := k14.perm (permc fun _ x => by simp only [List.count_append, List.count_cons]; omega)
          exact hP3 σ _ (f6.re cj fun z => by cases z) (k15.slotIn f6 cj)
end
end VL
set_option linter.all false
set_option maxRecDepth 100000
set_option Elab.async false
namespace VT
open PySem PySem.Spec PyProof.Rows VL
section
variable {α β γ δ σ ι : Type} {E : List PV → Prop} {Q : β → α → List PV → Prop} {Qw : β → Fw → List PV → Prop} {ρ ρ1 ρ2 : List PV} {t : TX β} {KH : Hd → M α} {KX : List PV → M α} {K : M Fw} {fa fb fc fe f fo fi fv : M Hd} {fs : M (List Hd)} {ta tb tt : M Bool} {A B : M Fw} {a b c x y : PV} {h h0 h1 h2 : Hd} {i j : Nat} {tg : Tg} {own : List Nat}
def lcbQ (tg : Tg) (tt : M Bool) (fe : M Hd) (x : PV) : M (Option PV) := fun ρ => match tg x ρ with
  | some ρ1 => (tt ρ1).bind fun b ρ2 => if b = true then (fe ρ2).bind fun h ρ3 => (match keepM h ρ3 with
    | some (a, ρ4) => .ok (some a) ρ4
    | none => .stuck) else .ok none ρ2
  | none => .stuck
theorem lcl_simQ {P : σ → List Sl} {e : ι → PV} {e' : γ → PV} {bd : σ → ι → TX (Option γ × σ)} : ∀ {L : List ι} (body : ∀ s x ρ, x ∈ L → Mat (P s) ρ → Sim (fun _ => True) (lcQ P e' own) (lcbQ tg tt fe (e x) ρ) (bd s x)) {s : σ} {acc : List γ} {ρ : List PV}, Mat (P s) ρ →
    Sim (fun _ => True) (fun r ys ρ => ys = r.1.map e' ∧ Mat (P r.2) ρ) (lclQ tg tt fe own (L.map e) (acc.map e') ρ) (tlc acc L s fun s x => nox (bd s x))
  | [], _, s, acc, ρ, h => ⟨_, ρ, rfl, rfl, h⟩
  | x :: L, body, s, acc, ρ, h => by
    have b := body s x ρ List.mem_cons_self h
    simp only [List.map_cons, lclQ, tlc]
    cases eb : bd s x with
    | no => trivial
    | ex c xs => trivial
    | ok r =>
      rw [eb] at b
      obtain ⟨o, ρ1, e1, q1, q2⟩ := b
      subst q1
      unfold lcbQ at e1
      simp only [nox_ok, TX.bind_ok]
      cases et : tg (e x) ρ with
      | none => rw [et] at e1; cases e1
      | some ρ2 =>
        rw [et] at e1
        simp only at e1 ⊢
        cases ett : tt ρ2 with
        | stuck => rw [ett] at e1; cases e1
        | exc _ _ _ => rw [ett] at e1; cases e1
        | ok b ρ3 =>
          rw [ett] at e1
          simp only [R.bind_ok] at e1
          cases b with
          | false =>
            simp only [Bool.false_eq_true, if_false, R.ok.injEq] at e1
            obtain ⟨e1, rfl⟩ := e1
            obtain ⟨r1, s1⟩ := r
            cases r1 with
            | some _ => cases e1
            | none => exact lcl_simQ (L := L) (fun s y ρ hy hM => body s y ρ (List.mem_cons_of_mem _ hy) hM) q2
          | true =>
            simp only [if_true] at e1
            cases ef : fe ρ3 with
            | stuck => rw [ef] at e1; cases e1
            | exc _ _ _ => rw [ef] at e1; cases e1
            | ok h ρ4 =>
              rw [ef] at e1
              simp only [R.bind_ok] at e1
              cases etk : keepM h ρ4 with
              | none => rw [etk] at e1; cases e1
              | some p =>
                obtain ⟨a, ρ5⟩ := p
                rw [etk] at e1
                simp only [R.ok.injEq] at e1
                obtain ⟨e1, rfl⟩ := e1
                obtain ⟨r1, s1⟩ := r
                cases r1 with
                | none => cases e1
                | some y =>
                  simp only [Option.map_some, Option.some.injEq] at e1
                  subst e1
                  simp only [ef, etk, List.length_map]
                  by_cases hc : acc.length < lim
                  · simp only [if_pos hc]
                    have := lcl_simQ (L := L) (acc := acc ++ [y]) (fun s y ρ hy hM => body s y ρ (List.mem_cons_of_mem _ hy) hM) q2
                    rw [List.map_append] at this
                    exact this
                  · simp only [if_neg hc]; trivial
def kLcQ (tg : Tg) (tt : M Bool) (fe : M Hd) (own : List Nat) (xs : List PV) : M Hd := fun ρ1 => match lclQ tg tt fe own xs [] (wipeQ ρ1 own) with
  | .ok ys ρ2 => .ok (.tm (.nst .ow .l ys)) (restP ρ2 ρ1 own)
  | _ => .stuck
theorem x_lcQ {fi : M (List PV)} (k : Sim E Q ((fi ρ).bind fun xs ρ1 => (kLcQ tg tt fe own xs ρ1).bind KH) t) : Sim E Q ((eLcQ fi tg tt fe own ρ).bind KH) t := by
  unfold eLcQ; rw [R_bind_assoc]; exact k
theorem x_lcSQ {P : σ → List Sl} {e : ι → PV} {e' : γ → PV} {bd : σ → ι → TX (Option γ × σ)} {L : List ι} {s : σ} {T : List γ × σ → TX β} (h0 : Mat (P s) (wipeQ ρ own)) (body : ∀ s x ρ, x ∈ L → Mat (P s) ρ → Sim (fun _ => True) (lcQ P e' own) (lcbQ tg tt fe (e x) ρ) (bd s x))
    (k : ∀ ys s ρ2 ρ3, Mat (P s) ρ2 → restP ρ2 ρ own = ρ3 → Sim E Q (KH (.tm (PV.nst .ow .l (ys.map e'))) ρ3) (T (ys, s))) : Sim E Q ((kLcQ tg tt fe own (L.map e) ρ).bind KH) ((tlcS L s bd).bind T) := by
  have := lcl_simQ (e' := e') (acc := []) body h0
  unfold tlcS
  cases et : tlc [] L s fun s x => nox (bd s x) with
  | no => trivial
  | ex c xs =>
    exfalso
    clear this k h0 body
    revert et
    generalize ([] : List γ) = acc
    intro et
    induction L generalizing acc s with
    | nil => cases et
    | cons x L ih =>
      unfold tlc at et
      cases eb : bd s x with
      | ok r =>
        rw [eb] at et
        obtain ⟨o, s1⟩ := r
        cases o with
        | none => exact ih _ et
        | some y =>
          simp only [nox_ok, TX.bind_ok] at et
          split at et
          · exact ih _ et
          · cases et
      | ex _ _ => rw [eb] at et; cases et
      | no => rw [eb] at et; cases et
  | ok r =>
    rw [et] at this
    obtain ⟨ys, ρ2, e1, e2, q⟩ := this
    simp only [List.map_nil] at e1
    unfold kLcQ
    rw [e1]
    subst e2
    exact k r.1 r.2 ρ2 _ q rfl
theorem x_lcPQ {P : List Sl} {e : ι → PV} {e' : γ → PV} {bd : ι → TX (Option γ)} {L : List ι} {T : List γ → TX β} (h0 : Mat P (wipeQ ρ own)) (body : ∀ x ρ, x ∈ L → Mat P ρ → Sim (fun _ => True) (lcQ0 P e' own) (lcbQ tg tt fe (e x) ρ) (bd x))
    (k : ∀ ys ρ2 ρ3, Mat P ρ2 → restP ρ2 ρ own = ρ3 → Sim E Q (KH (.tm (PV.nst .ow .l (ys.map e'))) ρ3) (T ys)) : Sim E Q ((kLcQ tg tt fe own (L.map e) ρ).bind KH) ((tlcP L bd).bind T) := by
  have := x_lcSQ (E := E) (Q := Q) (KH := KH) (P := fun _ : Unit => P) (e := e) (e' := e') (bd := fun _ x => (bd x).bind fun o => .ok (o, ())) (L := L) (s := ()) (T := fun r => T r.1) (tg := tg) (tt := tt) (fe := fe) h0 (fun s x ρ hx hM => by
    have b := body x ρ hx hM
    cases eb : bd x with
    | ok o => rw [eb] at b; obtain ⟨a, ρ1, e1, q⟩ := b; exact ⟨a, ρ1, e1, q⟩
    | ex c xs => rw [eb] at b; exact b
    | no => trivial) (fun ys s ρ2 ρ3 q e => k ys ρ2 ρ3 q e)
  have e2 : (tlcS L () fun (_ : Unit) x => (bd x).bind fun o => .ok (o, ())).bind (fun r => T r.1) = (tlcP L bd).bind T := by
    unfold tlcS tlcP
    rw [TX.bind_assoc]
    have : (fun (s : Unit) x => nox ((bd x).bind fun o => .ok (o, ()))) = fun (s : Unit) x => (nox (bd x)).bind fun o => .ok (o, ()) := by
      funext s x; cases bd x <;> rfl
    rw [this]
    rfl
  rw [e2] at this
  exact this
/-- a turn's parts -/
def kTkQ (h : Hd) : M (Option PV) := fun ρ3 => match keepM h ρ3 with
    | some (a, ρ4) => .ok (some a) ρ4
    | none => .stuck
theorem lcq_tg {QO : β → Option PV → List PV → Prop} (h : tg x ρ = some ρ1) (k : Sim E QO ((tt ρ1).bind fun b ρ2 => if b = true then (fe ρ2).bind fun h ρ3 => kTkQ h ρ3 else .ok none ρ2) t) : Sim E QO (lcbQ tg tt fe x ρ) t := by unfold lcbQ; rw [h]; exact k
theorem lcq_yes {QO : β → Option PV → List PV → Prop} (k : Sim E QO ((fe ρ).bind fun h ρ3 => kTkQ h ρ3) t) : Sim E QO (if true = true then (fe ρ).bind fun h ρ3 => kTkQ h ρ3 else .ok none ρ) t := k
theorem lcq_tm {QO : β → Option PV → List PV → Prop} {r : β} (h : a.okN = true) (q : QO r (some a) ρ) : Sim E QO ((kTkQ (.tm a) ρ)) (.ok r) := by simp only [kTkQ, keepM, h, if_true]; exact x_done q
theorem x_lcPM {P : List Sl} {e : ι → PV} {e' : γ → PV} {bd : ι → TX (Option (List γ))} {L : List ι} {T : List (List γ) → TX β} (h0 : Mat P (wipeQ ρ own)) (body : ∀ x ρ, x ∈ L → Mat P ρ → Sim (fun _ => True) (lcQ0 P (kL .ow e') own) (lcbQ tg tt fe (e x) ρ) (bd x))
    (k : ∀ ys ρ2 ρ3, Mat P ρ2 → restP ρ2 ρ own = ρ3 → Sim E Q (KH (.tm (kM e' ys)) ρ3) (T ys)) : Sim E Q ((kLcQ tg tt fe own (L.map e) ρ).bind KH) ((tlcP L bd).bind T) := x_lcPQ h0 body k
end
section
variable {α β γ : Type} {E : List PV → Prop} {Qw : β → Fw → List PV → Prop} {ρ ρ1 ρ2 : List PV} {t : TX β} {K f : M Fw} {fi fv f1 : M Hd} {h0 h1 h2 : Hd} {i j m : Nat} {a : PV}
theorem fzo_M {e : α → PV} {xs : List (List α)} : fzOf (kM e xs) = some (kL .fz (kL .fz e) xs) := by
  show some (PV.lst .fz (PV.frzs (xs.map (kL .ow e)))) = _
  rw [frzs_map (f := kL .fz e) fun _ => rfl]
  rfl
theorem s_pre (hf : fzOf (nth ρ j) = some a) (hr : ρ.set j a = ρ1) (k : Sim E Qw (sSeq f K ρ1) t) : Sim E Qw (sSeq (sPre j f) K ρ) t := by
  subst hr
  have : sSeq (sPre j f) K ρ = sSeq f K (ρ.set j a) := by
    unfold sSeq sPre
    rw [hf]
  rw [this]; exact k
def kSubVE (j : Nat) (xs : List PV) (m : Nat) (ys : List PV) (K : M Fw) (h0 h2 : Hd) : M Fw := fun ρ3 => match take ρ3 h0 with
  | some (a, ρ4) => (match hv ρ4 h2 with
    | .int k => (match L2.ixN ys.length k with
      | some q => K (ρ4.set j (.nst .ow .l (xs.set m (.lst .ow (ys.set q a)))))
      | none => .stuck)
    | _ => .stuck)
  | none => .stuck
def kSubV1 (j : Nat) (xs : List PV) (fi : M Hd) (K : M Fw) (h0 h1 : Hd) : M Fw := fun ρ2 => match hv ρ2 h1 with
  | .int k1 => (match L2.ixN xs.length k1 with
    | some m => (match xs[m]? with
      | some (.lst .ow ys) => (fi ρ2).bind (kSubVE j xs m ys K h0)
      | _ => .stuck)
    | none => .stuck)
  | _ => .stuck
def kSubV (j : Nat) (f1 fi : M Hd) (K : M Fw) (h0 : Hd) : M Fw := fun ρ1 => match nth ρ1 j with
  | .nst .ow .l xs => if (∀ x ∈ xs, x.okN = true) then (f1 (ρ1.set j .emp)).bind (kSubV1 j xs fi K h0) else .stuck
  | _ => .stuck
theorem s_subV (k : Sim E Qw ((fv ρ).bind fun h0 ρ1 => kSubV j f1 fi K h0 ρ1) t) : Sim E Qw (sSeq (sSubV j f1 fi fv) K ρ) t := by
  have : sSeq (sSubV j f1 fi fv) K ρ = (fv ρ).bind fun h0 ρ1 => kSubV j f1 fi K h0 ρ1 := by
    show seqR ((fv ρ).bind _) K = _
    rw [seqR_bind]
    congr 1; funext h0 ρ1
    unfold kSubV
    by_cases c1 : ∃ xs, nth ρ1 j = .nst .ow .l xs
    · obtain ⟨xs, e1⟩ := c1
      rw [e1]
      simp only
      by_cases c3 : ∀ x ∈ xs, x.okN = true
      · rw [if_pos c3, if_pos c3, seqR_bind]
        congr 1; funext h1 ρ2
        unfold kSubV1
        cases hv ρ2 h1 <;> first | rfl | skip
        rename_i k1
        simp only
        cases L2.ixN xs.length k1 with
        | none => rfl
        | some m =>
          simp only
          by_cases c2 : ∃ ys, xs[m]? = some (.lst .ow ys)
          · obtain ⟨ys, e2⟩ := c2
            rw [e2]
            simp only
            rw [seqR_bind]
            congr 1; funext h2 ρ3
            unfold kSubVE
            cases take ρ3 h0 with
            | none => rfl
            | some p =>
              obtain ⟨a, ρ4⟩ := p
              simp only
              cases hv ρ4 h2 <;> first | rfl | skip
              rename_i kk
              simp only
              cases L2.ixN ys.length kk <;> rfl
          · split
            · rename_i ys e2; exact absurd ⟨ys, e2⟩ c2
            · first
              | rfl
              | (split
                 · rename_i ys e2; exact absurd ⟨ys, e2⟩ c2
                 · rfl)
      · rw [if_neg c3, if_neg c3]; rfl
    · split
      · rename_i xs e1; exact absurd ⟨xs, e1⟩ c1
      · first
        | rfl
        | (split
           · rename_i xs e1; exact absurd ⟨xs, e1⟩ c1
           · rfl)
  rw [this]; exact k
theorem x_subV {e : α → PV} {xs : List (List α)} (hj : nth ρ1 j = kM e xs) (hr : ρ1.set j .emp = ρ2) (k : Sim E Qw ((f1 ρ2).bind (kSubV1 j (xs.map (kL .ow e)) fi K h0)) t) : Sim E Qw (kSubV j f1 fi K h0 ρ1) t := by
  subst hr
  unfold kSubV
  rw [hj]
  show Sim E Qw (if _ then _ else _) t
  rw [if_pos (okN_M xs)]
  exact k
theorem x_subV1 {e : α → PV} {xs : List (List α)} {k1 : Int} {t : Nat → List α → TX β} (hi : hv ρ h1 = .int k1) (k : ∀ m ys, Sim E Qw ((fi ρ).bind (kSubVE j (xs.map (kL .ow e)) m (ys.map e) K h0)) (t m ys)) : Sim E Qw (kSubV1 j (xs.map (kL .ow e)) fi K h0 h1 ρ) ((opt (L2.ixN xs.length k1)).bind fun m => (opt xs[m]?).bind fun ys => t m ys) := by
  unfold kSubV1
  simp only [hi, List.length_map]
  cases q : L2.ixN xs.length k1 with
  | none => trivial
  | some m =>
    simp only [opt_some, TX.bind_ok]
    cases q2 : xs[m]? with
    | none => trivial
    | some ys =>
      simp only [opt_some, TX.bind_ok]
      have : (xs.map (kL .ow e))[m]? = some (PV.lst .ow (ys.map e)) := by rw [List.getElem?_map, q2]; rfl
      rw [this]
      exact k m ys
theorem x_subVE {e : α → PV} {xs : List (List α)} {m : Nat} {ys : List α} {v : α} {k : Int} {T : List (List α) → TX β} (ht : take ρ h0 = some (e v, ρ1)) (hi : hv ρ1 h2 = .int k) (kk : ∀ zs, Sim E Qw (K (ρ1.set j (kM e zs))) (T zs)) : Sim E Qw (kSubVE j (xs.map (kL .ow e)) m (ys.map e) K h0 h2 ρ) ((opt (L2.ixN ys.length k)).bind fun q => (TX.ok (xs.set m (ys.set q v))).bind T) := by
  unfold kSubVE
  simp only [ht, hi, List.length_map]
  cases q : L2.ixN ys.length k with
  | none => trivial
  | some n =>
    simp only [opt_some, TX.bind_ok]
    have := kk (xs.set m (ys.set n v))
    unfold kM at this
    rw [List.map_set] at this
    unfold kL at this
    rw [List.map_set] at this
    exact this
end
section
def tcomb (a b : Int) : TX Int := if 0 ≤ a ∧ 0 ≤ b ∧ a < 2 ^ 64 ∧ b ≤ 9000 then .ok (PySem.W.mcComb a b) else .no
theorem os_comb {x y : PV} {a b : Int} (h1 : x = .int a) (h2 : y = .int b) : OS1 (oComb [x, y]) (tcomb a b) PV.int := by
  subst h1 h2
  intro g hg
  unfold tcomb at hg
  split at hg
  · rename_i h
    cases hg
    simp only [oComb, if_pos h]
  · cases hg
theorem nx_comb {a b : Int} : NoEx (tcomb a b) := by intro c ys h; unfold tcomb at h; split at h <;> cases h
end
end VT
set_option Elab.async false
set_option linter.all false
set_option maxRecDepth 100000
namespace VL
open PySem PySem.Spec PyProof.Rows L2
def isNonU : Value → Bool
  | .none => true
  | _ => false
def isNonV : V → Bool
  | .non => true
  | _ => false
def isNonP : PV → Bool
  | .non => true
  | _ => false
def oiP : PV → Bool
  | .non => true
  | .int _ => true
  | _ => false
def rCntN (K : PySem.W.Frag) : V → List V → Hp → VK → Prop := fun x xs H Q => ∃ (p : Addr) (ys : List V), x = .ref p ∧ xs = [.non] ∧ SqL K H p ys ∧ (∀ y ∈ ys, y = .non ∨ ∃ i, y = .int i) ∧ Q (.int (ys.countP isNonV : Nat)) H
theorem cnt_non : ∀ {ys : List V} {us : List Value}, Vals ys us → (∀ y ∈ ys, y = .non ∨ ∃ i, y = .int i) → us.countP isNonU = ys.countP isNonV
  | _, _, .nil, _ => rfl
  | _, _, .cons r t, h => by
    have ih := cnt_non t fun y hy => h y (List.mem_cons_of_mem _ hy)
    rw [List.countP_cons, List.countP_cons, ih]
    rcases h _ List.mem_cons_self with rfl | ⟨i, rfl⟩
    · cases r; rfl
    · obtain ⟨t, rfl⟩ := r; rfl
theorem eq_non : ∀ {A : Around} {s : Shared} {ys : List V} {us : List Value}, Vals ys us → (∀ y ∈ ys, y = .non ∨ ∃ i, y = .int i) → ∀ u ∈ us, SeqAt.EqAt A s u .none (isNonU u)
  | _, _, _, _, .nil, _ => fun _ z => by cases z
  | A, s, _, _, .cons r t, h => fun u hu => by
    rcases List.mem_cons.mp hu with rfl | hu
    · rcases h _ List.mem_cons_self with rfl | ⟨i, rfl⟩
      · cases r; exact SeqAt.EqAt.same _
      · obtain ⟨t, rfl⟩ := r; exact SeqAt.EqAt.int_none i t
    · exact eq_non t (fun y hy => h y (List.mem_cons_of_mem _ hy)) u hu
theorem mt_lcountN {X : Cx} : MtR X "list.count" (rCntN X.K) := by
  intro pins s σ H x xs v us Q I rx rxs h
  obtain ⟨p, ys, rfl, rfl, hs, hy, q⟩ := h
  cases rx
  obtain ⟨u, rfl, ru⟩ := rxs.one
  cases ru
  obtain ⟨its, rv, ⟨⟨cls, dd, data, sl⟩, n, ho, hc, hdn, hd⟩, hlen⟩ := I.list hs
  simp only at hc hd
  subst hc hd
  refine call_meets PySem.F.slot_list_count ⟨_, ho, rfl⟩ PySem.F.entry_list_count (PySem.F.args_list_count_2 _ _)
    (SeqAt.list_countAt p its.toArray n dd sl .none isNonU) ⟨ho, fun y hy' => eq_non rv hy y (by simpa using hy'), ?_⟩
  have ec : its.toArray.toList.countP isNonU = ys.countP isNonV := cnt_non rv hy
  refine ⟨.int (ys.countP isNonV : Nat), H, I.tok _, ⟨s.toks, ?_⟩, q⟩
  show Value.int ((its.toArray.toList.countP isNonU : Nat) : Int) s.toks = Value.int ((ys.countP isNonV : Nat) : Int) s.toks
  rw [ec]
def rCnt3 (K : PySem.W.Frag) : V → List V → Hp → VK → Prop := fun x xs H Q => rCnt2 K x xs H Q ∨ rCntN K x xs H Q
theorem mt_lcount3 {X : Cx} : MtR X "list.count" (rCnt3 X.K) := by
  intro pins s σ H x xs v us Q I rx rxs h
  rcases h with h | h
  · exact mt_lcount2 _ _ _ _ _ _ _ _ _ I rx rxs h
  · exact mt_lcountN _ _ _ _ _ _ _ _ _ I rx rxs h
theorem reps_oi {T : Tb} {F : Hp} : ∀ {xs : List PV} {vs : List V}, Reps T F xs vs → xs.all oiP = true → (∀ y ∈ vs, y = .non ∨ ∃ i, y = .int i) ∧ vs.countP isNonV = xs.countP isNonP
  | [], vs, r, _ => by
    have : vs = ([] : List V) := by simpa only [Reps] using r
    subst this; exact ⟨(fun _ z => by cases z), rfl⟩
  | x :: xs, _, r, h => by
    obtain ⟨w, ws, rfl, h1, _, h2⟩ := r.inv
    rw [List.all_cons, Bool.and_eq_true] at h
    obtain ⟨a, b⟩ := reps_oi h2 h.2
    have hx := h.1
    cases x <;> first | (cases hx; done) | skip
    · simp only [Rep] at h1
      subst h1
      exact ⟨fun y hy => (List.mem_cons.mp hy).elim (fun z => .inl z) (a y), by rw [List.countP_cons, List.countP_cons, b]; rfl⟩
    · simp only [Rep] at h1
      subst h1
      exact ⟨fun y hy => (List.mem_cons.mp hy).elim (fun z => .inr ⟨_, z⟩) (a y), by rw [List.countP_cons, List.countP_cons, b]; rfl⟩
def oCnt3 : PV → List PV → Option PV
  | .lst o xs, [.non] => if xs.all oiP = true then some (.int ((xs.countP isNonP : Nat) : Int)) else none
  | x, as => oCnt2 x as
theorem m_count3 {T : Tb} : Mtv T oCnt3 (rCnt3 T.K) := by
  intro H l a c as v vs Q k m hl hm e q
  by_cases hc : ∃ o xs, a = .lst o xs ∧ as = [.non]
  · obtain ⟨o, xs, rfl, rfl⟩ := hc
    simp only [oCnt3] at e
    split at e
    · rename_i ha
      cases e
      obtain ⟨v0, rfl, m0⟩ := one_arg rfl hl hm
      have ev0 := k.g_non m0
      obtain ⟨p, vs, rfl, h1, hl2, F, s, r⟩ := k.g_lst m
      obtain ⟨q1, q2⟩ := reps_oi r ha
      exact .inr ⟨p, vs, rfl, by rw [ev0], SqL.of h1, q1, by rw [q2]; exact q _ _ k.int⟩
    · cases e
  · have e2 : oCnt2 a as = some c := by
      unfold oCnt3 at e
      split at e
      · rename_i o xs; exact absurd ⟨o, xs, rfl, rfl⟩ hc
      · exact e
    exact .inl (m_count2 H l a c as v vs Q k m hl hm e2 q)
end VL
set_option linter.all false
set_option maxRecDepth 100000
set_option Elab.async false
namespace VT
open PySem PySem.Spec PyProof.Rows VL
def cntN (xs : List (Option Int)) : Nat := xs.countP fun x => x.isNone
theorem count_LN {o : Fl} {xs : List (Option Int)} {a b : PV} (ha : a = kL o (kO PV.int) xs) (hb : b = .non) : oCnt3 a [b] = some (.int ((cntN xs : Nat) : Int)) := by
  subst ha hb
  have h1 : (xs.map (kO PV.int)).all oiP = true := by
    rw [List.all_eq_true]
    intro x hx
    obtain ⟨y, _, rfl⟩ := List.mem_map.mp hx
    cases y <;> rfl
  have h2 : (xs.map (kO PV.int)).countP isNonP = cntN xs := by
    unfold cntN
    rw [List.countP_map]
    congr 1
    funext y
    cases y <;> rfl
  simp only [kL, oCnt3, h1, if_true, h2]
end VT
set_option linter.all false
set_option maxRecDepth 100000
set_option synthInstance.maxSize 2000
set_option Elab.async false
namespace Law
open VL VT PySem
@[irreducible] def t__law_depth (a_parents : (List (Option Int))) (a_field : Int) : TX Int :=
TX.bind (trg 0 ((a_parents.length : Int) + (1 : Int))) fun v1 =>
TX.bind (tfor v1 (((some a_field), (0 : Int)) : ((Option Int) × Int)) fun s3 x2 =>
if s3.1.isNone = true then (
.ok (.rt s3.2)) else (
TX.bind (opt s3.1) fun v8 =>
TX.bind (tix a_parents v8) fun v10 =>
.ok (.nx (v10, (s3.2 + (1 : Int)))))) (Go.elim (σ := ((Option Int) × Int)) (β := Int) (fun s11 =>
.ok (0 : Int)) fun b15 => .ok b15)
@[irreducible] def t__law_listed (a_n : Int) : TX (List (List Int)) :=
TX.bind (trg 0 a_n) fun v1 =>
TX.bind (tfold v1 ([([] : (List (Option Int)))] : ((List (List (Option Int))))) fun s3 x2 =>
TX.bind (tfold s3 (([] : (List (List (Option Int)))) : ((List (List (Option Int))))) fun s19 x18 =>
TX.bind (trg 0 a_n) fun v32 =>
TX.bind (tcat [(none : (Option Int))] (v32.map fun (z : Int) => (some z))) fun v33 =>
TX.bind (tfold v33 (s19 : ((List (List (Option Int))))) fun s35 x34 =>
TX.bind (tcat x18 [x34]) fun v47 =>
TX.bind (tapp s35 v47) fun v48 =>
.ok v48) fun s49 =>
.ok s49) fun s60 =>
.ok s60) fun s72 =>
TX.bind (trep [(0 : Int)] (21 : Int)) fun v86 =>
TX.bind (trep [(0 : Int)] (21 : Int)) fun v87 =>
TX.bind (trep [(0 : Int)] (21 : Int)) fun v88 =>
TX.bind (tfold s72 ((v86, v87, v88) : ((List Int) × (List Int) × (List Int))) fun s90 x89 =>
TX.bind (trg 0 a_n) fun v102 =>
TX.bind (tlcP v102 fun x103 =>
TX.bind (t__law_depth x89 x103) fun v113 =>
.ok (some v113)) fun v114 =>
TX.bind (
if (!(tmem (0 : Int) v114)) = true then (
TX.bind (trg 0 a_n) fun v117 =>
TX.bind (tlcP v117 fun x118 =>
if (!(tmem (some x118) x89)) = true then (.ok (some x118)) else .ok none) fun v127 =>
TX.bind (tix s90.1 ((cntN x89 : Nat) : Int)) fun v130 =>
TX.bind (tset s90.1 ((cntN x89 : Nat) : Int) (v130 + (1 : Int))) fun v131 =>
TX.bind (tix s90.2.1 (v127.length : Int)) fun v132 =>
TX.bind (tset s90.2.1 (v127.length : Int) (v132 + (1 : Int))) fun v133 =>
TX.bind (tmaxL v114) fun v134 =>
TX.bind (trg v134 (21 : Int)) fun v135 =>
TX.bind (tfold v135 (s90.2.2 : ((List Int))) fun s137 x136 =>
TX.bind (tix s137 x136) fun v146 =>
TX.bind (tset s137 x136 (v146 + (1 : Int))) fun v147 =>
.ok v147) fun s148 =>
.ok (v131, v133, s148)) else (
.ok (s90.1, s90.2.1, s90.2.2))) fun s156 =>
.ok (s156.1, s156.2.1, s156.2.2)) fun s165 =>
.ok [s165.1, s165.2.1, s165.2.2]
@[irreducible] def t_count_by_roots (a_fields : Int) (a_roots : Int) : TX Int :=
if ((decide (a_roots < (1 : Int))) || (decide (a_fields < a_roots))) = true then (
.ok (0 : Int)) else (
TX.bind (tcomb (a_fields - (1 : Int)) (a_roots - (1 : Int))) fun v1 =>
TX.bind (t_power a_fields (a_fields - a_roots)) fun v2 =>
TX.bind (tmul v1 v2) fun v3 =>
.ok v3)
@[irreducible] def t_count_by_leaves (a_fields : Int) (a_leaves : Int) : TX Int :=
TX.bind (trep [(0 : Int)] a_fields) fun v1 =>
TX.bind (tcat [(1 : Int)] v1) fun v2 =>
TX.bind (trg 0 (a_fields - (1 : Int))) fun v3 =>
TX.bind (tfold v3 (v2 : ((List Int))) fun s5 x4 =>
TX.bind (tix s5 (0 : Int)) fun v12 =>
TX.bind (trg (1 : Int) (a_fields + (1 : Int))) fun v13 =>
TX.bind (tfold v13 ([v12] : ((List Int))) fun s15 x14 =>
TX.bind (tix s5 x14) fun v20 =>
TX.bind (tmul v20 (x14 + (1 : Int))) fun v21 =>
TX.bind (tix s5 (x14 - (1 : Int))) fun v22 =>
TX.bind (tmul v22 ((a_fields - x14) + (1 : Int))) fun v23 =>
TX.bind (tapp s15 (v21 + v23)) fun v24 =>
.ok v24) fun s25 =>
.ok s25) fun s29 =>
if ((decide (a_leaves < (0 : Int))) || (decide (a_fields < a_leaves))) = true then (
.ok (0 : Int)) else (
TX.bind (tix s29 (a_fields - a_leaves)) fun v35 =>
.ok v35)
@[irreducible] def t_one_higher (a_shapes : (List Int)) : TX (List Int) :=
TX.bind (trg (1 : Int) (a_shapes.length : Int)) fun v1 =>
TX.bind (tfold v1 ([(1 : Int)] : ((List Int))) fun s3 x2 =>
TX.bind (trg (1 : Int) (x2 + (1 : Int))) fun v11 =>
TX.bind (tfold v11 ((0 : Int) : (Int)) fun s13 x12 =>
TX.bind (tcomb (x2 - (1 : Int)) (x12 - (1 : Int))) fun v19 =>
TX.bind (tmul v19 x12) fun v20 =>
TX.bind (tix a_shapes (x12 - (1 : Int))) fun v21 =>
TX.bind (tmul v20 v21) fun v22 =>
TX.bind (tix s3 (x2 - x12)) fun v23 =>
TX.bind (tmul v22 v23) fun v24 =>
.ok (s13 + v24)) fun s25 =>
TX.bind (tapp s3 s25) fun v30 =>
.ok v30) fun s31 =>
.ok s31
@[irreducible] def t_count_low (a_fields : Int) (a_height : Int) : TX Int :=
TX.bind (trep [(0 : Int)] a_fields) fun v1 =>
TX.bind (tcat [(1 : Int)] v1) fun v2 =>
TX.bind (trg 0 a_height) fun v3 =>
TX.bind (tfold v3 (v2 : ((List Int))) fun s5 x4 =>
TX.bind (t_one_higher s5) fun v10 =>
.ok v10) fun s11 =>
TX.bind (tix s11 a_fields) fun v15 =>
.ok v15
@[irreducible] def t_count_shapes (a_fields : Int) : TX Int :=
TX.bind (t_power (a_fields + (1 : Int)) (a_fields - (1 : Int))) fun v1 =>
.ok v1
@[irreducible] def t_count_fair (a_fields : Int) : TX Int :=
TX.bind (t_count_shapes a_fields) fun v1 =>
TX.bind (tshl (1 : Int) a_fields) fun v2 =>
TX.bind (tmul v1 v2) fun v3 =>
.ok v3
@[irreducible] def t_count_forests (a_fields : Int) : TX Int :=
TX.bind (trg 0 (a_fields + (1 : Int))) fun v1 =>
TX.bind (tfold v1 ((0 : Int) : (Int)) fun s3 x2 =>
TX.bind (t_count_by_leaves a_fields x2) fun v8 =>
TX.bind (tshl (1 : Int) (a_fields + x2)) fun v9 =>
TX.bind (tmul v8 v9) fun v10 =>
.ok (s3 + v10)) fun s11 =>
.ok s11
@[irreducible] def t__law_agree (a_n : Int) (a_seconds : (List Int)) (a_due : (List (List Int))) : TX Bool :=
TX.bind (tfor a_seconds (() : Unit) fun s2 x1 =>
TX.bind (t_count_by_roots a_n x1) fun v14 =>
TX.bind (t_count_by_leaves a_n x1) fun v15 =>
TX.bind (t_count_low a_n x1) fun v16 =>
TX.bind (trepr ((kL .fz PV.int) [v14, v15, v16])) fun v17 =>
TX.bind (tlcP a_due fun x18 =>
TX.bind (tix x18 x1) fun v27 =>
.ok (some v27)) fun v28 =>
TX.bind (trepr ((kL .fz PV.int) v28)) fun v31 =>
if (!(teq v17 v31)) = true then (
.ok (.rt false)) else (
.ok (.nx ()))) (Go.elim (σ := Unit) (β := Bool) (fun s32 =>
TX.bind (trg 0 (a_n - (1 : Int))) fun v43 =>
TX.bind (tfold v43 ((1 : Int) : (Int)) fun s45 x44 =>
TX.bind (tmul s45 (a_n + (1 : Int))) fun v56 =>
.ok v56) fun s57 =>
TX.bind (trg 0 a_n) fun v67 =>
TX.bind (tfold v67 ((1 : Int) : (Int)) fun s69 x68 =>
.ok (s69 * (2 : Int))) fun s79 =>
TX.bind (trg 0 (a_n + (1 : Int))) fun v88 =>
TX.bind (tfold v88 (((0 : Int), (1 : Int)) : (Int × Int)) fun s90 x89 =>
TX.bind (tix a_due (1 : Int)) fun v98 =>
TX.bind (tix v98 x89) fun v99 =>
TX.bind (tmul v99 s90.2) fun v100 =>
TX.bind (tmul v100 s79) fun v101 =>
.ok ((s90.1 + v101), (s90.2 * (2 : Int)))) fun s102 =>
TX.bind (tix a_due (0 : Int)) fun v109 =>
TX.bind (if (!(teq s57 v109.sum)) = true then .ok true else (TX.bind (tix a_due (1 : Int)) fun v110 =>
TX.bind (if (!(teq s57 v110.sum)) = true then .ok true else (TX.bind (tix a_due (2 : Int)) fun v111 =>
TX.bind (tix v111 (20 : Int)) fun v112 =>
.ok (!(teq s57 v112)))) fun v113 =>
.ok v113)) fun v114 =>
if v114 = true then (
.ok false) else (
TX.bind (if (decide (a_n < (4 : Int))) = true then (TX.bind (tix [(4 : Int), (32 : Int), (448 : Int)] (a_n - (1 : Int))) fun v115 =>
.ok (!(teq s102.1 v115))) else .ok false) fun v116 =>
if v116 = true then (
.ok false) else (
TX.bind (t_count_shapes a_n) fun v117 =>
TX.bind (t_count_fair a_n) fun v118 =>
TX.bind (t_count_forests a_n) fun v119 =>
TX.bind (trepr ((kL .fz PV.int) [v117, v118, v119])) fun v120 =>
TX.bind (tmul s57 s79) fun v121 =>
TX.bind (trepr ((kL .fz PV.int) [s57, v121, s102.1])) fun v122 =>
.ok (teq v120 v122)))) fun b123 => .ok b123)
@[irreducible] def t__law_words_v3 (a_n : Int) : TX (List (List Int)) :=
TX.bind (trg 0 (a_n + (1 : Int))) fun v1 =>
TX.bind (tlcP v1 fun x2 =>
TX.bind (trep [(0 : Int)] (a_n + (1 : Int))) fun v6 =>
.ok (some v6)) fun v7 =>
TX.bind (opt (L2.ixN v7.length (0 : Int))) fun n10 =>
TX.bind (opt v7[n10]?) fun y11 =>
TX.bind (opt (L2.ixN y11.length (0 : Int))) fun q98 =>
TX.bind (.ok (v7.set n10 (y11.set q98 (1 : Int)))) fun v12 =>
TX.bind (trg 0 (a_n - (1 : Int))) fun v13 =>
TX.bind (tfold v13 (v12 : ((List (List Int)))) fun s15 x14 =>
TX.bind (trg 0 (a_n + (1 : Int))) fun v24 =>
TX.bind (tlcP v24 fun x25 =>
TX.bind (trep [(0 : Int)] (a_n + (1 : Int))) fun v33 =>
.ok (some v33)) fun v34 =>
TX.bind (trg 0 (x14 + (1 : Int))) fun v37 =>
TX.bind (tfold v37 (v34 : ((List (List Int)))) fun s39 x38 =>
TX.bind (trg 0 ((x14 + (1 : Int)) - x38)) fun v46 =>
TX.bind (tfold v46 (s39 : ((List (List Int)))) fun s48 x47 =>
TX.bind (tix s15 x38) fun v54 =>
TX.bind (tix v54 x47) fun v55 =>
TX.bind (nox (TX.bind (tix s48 (x38 + (1 : Int))) fun v56 =>
TX.bind (tix v56 x47) fun v57 =>
.ok (v57 + v55))) fun v58 =>
TX.bind (opt (L2.ixN s48.length (x38 + (1 : Int)))) fun n59 =>
TX.bind (opt s48[n59]?) fun y60 =>
TX.bind (opt (L2.ixN y60.length x47)) fun q78 =>
TX.bind (.ok (s48.set n59 (y60.set q78 v58))) fun v61 =>
TX.bind (nox (TX.bind (tix v61 x38) fun v62 =>
TX.bind (tix v62 x47) fun v63 =>
TX.bind (tmul v55 x47) fun v64 =>
.ok (v63 + v64))) fun v65 =>
TX.bind (opt (L2.ixN v61.length x38)) fun n66 =>
TX.bind (opt v61[n66]?) fun y67 =>
TX.bind (opt (L2.ixN y67.length x47)) fun q77 =>
TX.bind (.ok (v61.set n66 (y67.set q77 v65))) fun v68 =>
TX.bind (nox (TX.bind (tix v68 x38) fun v69 =>
TX.bind (tix v69 (x47 + (1 : Int))) fun v70 =>
TX.bind (tmul v55 (a_n - x47)) fun v71 =>
.ok (v70 + v71))) fun v72 =>
TX.bind (opt (L2.ixN v68.length x38)) fun n73 =>
TX.bind (opt v68[n73]?) fun y74 =>
TX.bind (opt (L2.ixN y74.length (x47 + (1 : Int)))) fun q76 =>
TX.bind (.ok (v68.set n73 (y74.set q76 v72))) fun v75 =>
.ok v75) fun s79 =>
.ok s79) fun s84 =>
.ok s84) fun s90 =>
.ok s90
@[irreducible] def t__law_choices (a_n : Int) : TX (List (List Int)) :=
TX.bind (trg 0 a_n) fun v1 =>
TX.bind (tfold v1 ([[(1 : Int)]] : ((List (List Int)))) fun s3 x2 =>
TX.bind (tix s3 (-(1 : Int))) fun v10 =>
TX.bind (trg 0 x2) fun v11 =>
TX.bind (tlcP v11 fun x12 =>
TX.bind (tix v10 x12) fun v16 =>
TX.bind (tix v10 (x12 + (1 : Int))) fun v17 =>
.ok (some (v16 + v17))) fun v18 =>
TX.bind (tcat [(1 : Int)] v18) fun v21 =>
TX.bind (tcat v21 [(1 : Int)]) fun v22 =>
TX.bind (tapp s3 v22) fun v23 =>
.ok v23) fun s24 =>
.ok s24
@[irreducible] def t__law_layers (a_n : Int) : TX (List Int) :=
TX.bind (t__law_choices a_n) fun v1 =>
TX.bind (trg 0 (a_n + (1 : Int))) fun v2 =>
TX.bind (tlcP v2 fun x3 =>
TX.bind (trep [(b2i (teq x3 (0 : Int)))] (a_n + (2 : Int))) fun v7 =>
.ok (some v7)) fun v8 =>
TX.bind (tix v8 a_n) fun v11 =>
TX.bind (tix v11 (1 : Int)) fun v12 =>
TX.bind (trg 0 a_n) fun v13 =>
TX.bind (tfold v13 ((v8, [v12]) : ((List (List Int)) × (List Int))) fun s15 x14 =>
TX.bind (trep [(1 : Int)] (a_n + (2 : Int))) fun v27 =>
TX.bind (trg (1 : Int) (a_n + (1 : Int))) fun v28 =>
TX.bind (tfold v28 ([v27] : ((List (List Int)))) fun s30 x29 =>
TX.bind (trep [(0 : Int)] (a_n + (2 : Int))) fun v40 =>
TX.bind (trg (1 : Int) ((a_n + (2 : Int)) - x29)) fun v41 =>
TX.bind (tfold v41 (v40 : ((List Int))) fun s43 x42 =>
TX.bind (trg (1 : Int) (x29 + (1 : Int))) fun v51 =>
TX.bind (tfold v51 (((0 : Int), (1 : Int)) : (Int × Int)) fun s53 x52 =>
TX.bind (tmul s53.2 x42) fun v58 =>
TX.bind (tix v1 x29) fun v59 =>
TX.bind (tix v59 x52) fun v60 =>
TX.bind (tmul v60 v58) fun v61 =>
TX.bind (tix s15.1 (x29 - x52)) fun v62 =>
TX.bind (tix v62 x52) fun v63 =>
TX.bind (tmul v61 v63) fun v64 =>
.ok ((s53.1 + v64), v58)) fun s65 =>
TX.bind (tset s43 x42 s65.1) fun v69 =>
.ok v69) fun s70 =>
TX.bind (tapp s30 s70) fun v77 =>
.ok v77) fun s78 =>
TX.bind (tix s78 a_n) fun v87 =>
TX.bind (tix v87 (1 : Int)) fun v88 =>
TX.bind (tapp s15.2 v88) fun v89 =>
.ok (s78, v89)) fun s90 =>
.ok s90.2
@[irreducible] def t__law_reckoned (a_n : Int) : TX (List (List Int)) :=
TX.bind (t__law_words_v3 a_n) fun v1 =>
TX.bind (t__law_layers a_n) fun v2 =>
TX.bind (trep [(0 : Int)] (21 : Int)) fun v3 =>
TX.bind (trep [(0 : Int)] (21 : Int)) fun v4 =>
TX.bind (trg 0 (21 : Int)) fun v5 =>
TX.bind (tlcP v5 fun x6 =>
TX.bind (tix v2 (if a_n < x6 then a_n else x6)) fun v10 =>
.ok (some v10)) fun v11 =>
TX.bind (trg 0 a_n) fun v14 =>
TX.bind (tfold v14 ((v3, v4) : ((List Int) × (List Int))) fun s16 x15 =>
TX.bind (trg 0 a_n) fun v23 =>
TX.bind (tfold v23 ((s16.1, s16.2) : ((List Int) × (List Int))) fun s25 x24 =>
TX.bind (tix s25.1 (x15 + (1 : Int))) fun v31 =>
TX.bind (tix v1 x15) fun v32 =>
TX.bind (tix v32 x24) fun v33 =>
TX.bind (tset s25.1 (x15 + (1 : Int)) (v31 + v33)) fun v34 =>
TX.bind (tix s25.2 (a_n - x24)) fun v35 =>
TX.bind (tix v1 x15) fun v36 =>
TX.bind (tix v36 x24) fun v37 =>
TX.bind (tset s25.2 (a_n - x24) (v35 + v37)) fun v38 =>
.ok (v34, v38)) fun s39 =>
.ok (s39.1, s39.2)) fun s44 =>
.ok [s44.1, s44.2, v11]
@[irreducible] def t_law_v36 (a_script : (List Int)) : TX Bool :=
TX.bind (t__law_tape a_script (0 : Int)) fun v1 =>
TX.bind (t__law_take v1 (16 : Int)) fun v2 =>
TX.bind (
TX.bind (t__law_take v2.2 (3 : Int)) fun v3 =>
if (teq v3.1 (0 : Int)) = true then (
TX.bind (t__law_take v3.2 (4 : Int)) fun v4 =>
.ok (v4.2, ((1 : Int) + v4.1))) else (
.ok (v3.2, ((1 : Int) + v2.1)))) fun s5 =>
TX.bind (trg (1 : Int) (4 : Int)) fun v10 =>
TX.bind (tfold v10 ([(0 : Int), s5.2, (s5.2 + (1 : Int))] : ((List Int))) fun s12 x11 =>
TX.bind (t__law_tape a_script x11) fun v17 =>
TX.bind (t__law_take v17 (21 : Int)) fun v18 =>
TX.bind (tapp s12 v18.1) fun v19 =>
.ok v19) fun s20 =>
TX.bind (
if (decide (s5.2 < (5 : Int))) = true then (
TX.bind (trg 0 (21 : Int)) fun v24 =>
TX.bind (t__law_listed s5.2) fun v25 =>
TX.bind (t__law_agree s5.2 v24 v25) fun v26 =>
if (!v26) = true then (
.ok (.rt false)) else (
.ok (.nx v24))) else (
.ok (.nx s20))) (Go.elim (σ := ((List Int))) (β := Bool) (fun s27 =>
TX.bind (t__law_reckoned s5.2) fun v31 =>
TX.bind (t__law_agree s5.2 s27 v31) fun v32 =>
.ok v32) fun b33 => .ok b33)
end Law
set_option Elab.async false
set_option linter.all false
set_option maxRecDepth 100000
namespace Law
open PySem PySem.Spec PyProof.Rows L2 VL
noncomputable section
def W__law_tape : M Fw := (sSeq (sIf (tB (eBin oLt (eN 1) (eFn oLen (aCons (eN 0) aNil)))) (sRet (eLst (aCons (eFn oAbs (aCons (eBin oIx (eN 0) (eN 1)) aNil)) (aCons (eC (.int 0)) aNil)))) sNx)
    (sRet (eLst (aCons (eN 1) (aCons (eC (.int 0)) aNil)))))
def F__law_tape : List PV → R PV := runF 2 2 W__law_tape
def W__law_take : M Fw := (sSeq (sSet 2 (eBin oIx (eN 0) (eC (.int 0))))
    (sSeq (sSub (eN 0) (eC (.int 1)) (eBin oAdd (eBin oIx (eN 0) (eC (.int 1))) (eC (.int 1))))
    (sSeq (sSet 3 (eBin oIx (eN 0) (eC (.int 1))))
    (sSeq (sIf (tB (eBin oGe (eN 2) (eBin oPow (eC (.int 10)) (eC (.int 18))))) (sSeq (sSub (eN 0) (eC (.int 0)) (eBin oDiv (eN 2) (eN 1)))
    (sRet (eBin oMod (eFn oInt (aCons (eN 2) aNil)) (eN 1)))) sNx)
    (sSeq (sSet 4 (eBin oMod (eFn oInt (aCons (eBin oAdd (eBin oAdd (eN 2) (eBin oMul (eC (.int 7919)) (eN 3))) (eC (.int 13))) aNil)) (eC (.int 2147483647))))
    (sSeq (sSet 4 (eBin oMod (eFn oInt (aCons (eBin oMul (eN 4) (eBin oAdd (eN 4) (eC (.int 48271)))) aNil)) (eC (.int 2147483629))))
    (sSeq (sSet 4 (eBin oMod (eFn oInt (aCons (eBin oAdd (eBin oMul (eN 4) (eBin oAdd (eN 4) (eC (.int 69621)))) (eBin oMul (eC (.int 31)) (eN 3))) aNil)) (eC (.int 2147483647))))
    (sRet (eBin oMod (eFn oInt (aCons (eBin oDiv (eN 4) (eC (.int 9))) aNil)) (eN 1))))))))))
def F__law_take : List PV → R PV := runF 2 5 W__law_take
def B__law_depth_1 : M Fw := (sSeq (sIf (tB (eBin (oIs false) (eN 1) (eC .non))) (sRet (eN 2)) sNx)
    (sSeq (sSet 2 (eBin oAdd (eN 2) (eC (.int 1))))
    (sSet 1 (eBin oIx (eN 0) (eN 1)))))
def W__law_depth : M Fw := (sSeq (sSet 2 (eC (.int 0)))
    (sSeq (sFor (iRg1 (aCons (eBin oAdd (eFn oLen (aCons (eN 0) aNil)) (eC (.int 1))) aNil)) (gN 3) B__law_depth_1)
    (sRet (eC (.int 0)))))
def F__law_depth : List PV → R PV := runF 2 4 W__law_depth
def B__law_listed_1 : M Fw := (sE (eMu "list" uAppend (eN 3) (aCons (eBin oAdd (eN 4) (eLst (aCons (eN 5) aNil))) aNil)))
def B__law_listed_2 : M Fw := (sFor (iSeq (eBin oAdd (eLst (aCons (eC .non) aNil)) (eRg1 false (eN 0)))) (gN 5) B__law_listed_1)
def B__law_listed_3 : M Fw := (sSeq (sSet 3 (eLst aNil))
    (sSeq (sFor (iSeq (eFn oList (aCons (eN 1) aNil))) (gN 4) B__law_listed_2)
    (sSet 1 (eFz (eN 3)))))
def B__law_listed_4 : M Hd := (eCall F__law_depth (aCons (eN 4) (aCons (eN 10) aNil)))
def B__law_listed_5 : M Hd := (eN 10)
def B__law_listed_6 : M Bool := (tB (eBin (oIn true) (eN 10) (eN 4)))
def B__law_listed_7 : M Fw := (sSub (eN 8) (eN 12) (eBin oAdd (eBin oIx (eN 8) (eN 12)) (eC (.int 1))))
def B__law_listed_8 : M Fw := (sSeq (sSet 9 (eLc (iRg1 (aCons (eN 0) aNil)) (gN 10) tYesV B__law_listed_4 [10]))
    (sIf (tB (eBin (oIn true) (eC (.int 0)) (eN 9))) (sSeq (sSet 11 (eLc (iRg1 (aCons (eN 0) aNil)) (gN 10) B__law_listed_6 B__law_listed_5 [10]))
    (sSeq (sSub (eN 6) (eMt "list" oCnt3 (eN 4) (aCons (eC .non) aNil)) (eBin oAdd (eBin oIx (eN 6) (eMt "list" oCnt3 (eN 4) (aCons (eC .non) aNil))) (eC (.int 1))))
    (sSeq (sSub (eN 7) (eFn oLen (aCons (eN 11) aNil)) (eBin oAdd (eBin oIx (eN 7) (eFn oLen (aCons (eN 11) aNil))) (eC (.int 1))))
    (sFor (iRg2 (aCons (eFn oMaxL (aCons (eN 9) aNil)) (aCons (eC (.int 21)) aNil))) (gN 12) B__law_listed_7)))) sNx))
def W__law_listed : M Fw := (sSeq (sSet 1 (eFz (eLst (aCons (eLst aNil) aNil))))
    (sSeq (sFor (iRg1 (aCons (eN 0) aNil)) (gN 2) B__law_listed_3)
    (sSeq (sSet 6 (eBin oMul (eLst (aCons (eC (.int 0)) aNil)) (eC (.int 21))))
    (sSeq (sSet 7 (eBin oMul (eLst (aCons (eC (.int 0)) aNil)) (eC (.int 21))))
    (sSeq (sSet 8 (eBin oMul (eLst (aCons (eC (.int 0)) aNil)) (eC (.int 21))))
    (sSeq (sFor (iSeq (eN 1)) (gN 4) B__law_listed_8)
    (sRet (eLst (aCons (eN 6) (aCons (eN 7) (aCons (eN 8) aNil)))))))))))
def F__law_listed : List PV → R PV := runF 1 13 W__law_listed
def B_one_higher_1 : M Fw := (sSeq (sSet 5 (eBin oMul (eBin oMul (eFn oComb (aCons (eBin oSub (eN 2) (eC (.int 1))) (aCons (eBin oSub (eN 4) (eC (.int 1))) aNil))) (eN 4)) (eBin oIx (eN 0) (eBin oSub (eN 4) (eC (.int 1))))))
    (sSet 3 (eBin oAdd (eN 3) (eBin oMul (eN 5) (eBin oIx (eN 1) (eBin oSub (eN 2) (eN 4)))))))
def B_one_higher_2 : M Fw := (sSeq (sSet 3 (eC (.int 0)))
    (sSeq (sFor (iRg2 (aCons (eC (.int 1)) (aCons (eBin oAdd (eN 2) (eC (.int 1))) aNil))) (gN 4) B_one_higher_1)
    (sE (eMu "list" uAppend (eN 1) (aCons (eN 3) aNil)))))
def W_one_higher : M Fw := (sSeq (sSet 1 (eLst (aCons (eC (.int 1)) aNil)))
    (sSeq (sFor (iRg2 (aCons (eC (.int 1)) (aCons (eFn oLen (aCons (eN 0) aNil)) aNil))) (gN 2) B_one_higher_2)
    (sRet (eN 1))))
def F_one_higher : List PV → R PV := runF 1 6 W_one_higher
def B_count_low_1 : M Fw := (sSet 2 (eFz (eCall F_one_higher (aCons (eN 2) aNil))))
def W_count_low : M Fw := (sSeq (sSet 2 (eFz (eBin oAdd (eLst (aCons (eC (.int 1)) aNil)) (eBin oMul (eLst (aCons (eC (.int 0)) aNil)) (eN 0)))))
    (sSeq (sFor (iRg1 (aCons (eN 1) aNil)) (gN 3) B_count_low_1)
    (sRet (eBin oIx (eN 2) (eN 0)))))
def F_count_low : List PV → R PV := runF 2 4 W_count_low
def B_count_by_leaves_1 : M Fw := (sE (eMu "list" uAppend (eN 4) (aCons (eBin oAdd (eBin oMul (eBin oIx (eN 2) (eN 5)) (eBin oAdd (eN 5) (eC (.int 1)))) (eBin oMul (eBin oIx (eN 2) (eBin oSub (eN 5) (eC (.int 1)))) (eBin oAdd (eBin oSub (eN 0) (eN 5)) (eC (.int 1))))) aNil)))
def B_count_by_leaves_2 : M Fw := (sSeq (sSet 4 (eLst (aCons (eBin oIx (eN 2) (eC (.int 0))) aNil)))
    (sSeq (sFor (iRg2 (aCons (eC (.int 1)) (aCons (eBin oAdd (eN 0) (eC (.int 1))) aNil))) (gN 5) B_count_by_leaves_1)
    (sSet 2 (eFz (eN 4)))))
def W_count_by_leaves : M Fw := (sSeq (sSet 2 (eFz (eBin oAdd (eLst (aCons (eC (.int 1)) aNil)) (eBin oMul (eLst (aCons (eC (.int 0)) aNil)) (eN 0)))))
    (sSeq (sFor (iRg1 (aCons (eBin oSub (eN 0) (eC (.int 1))) aNil)) (gN 3) B_count_by_leaves_2)
    (sSeq (sIf (tOr (tB (eBin oLt (eN 1) (eC (.int 0)))) (tB (eBin oGt (eN 1) (eN 0)))) (sRet (eC (.int 0))) sNx)
    (sRet (eBin oIx (eN 2) (eBin oSub (eN 0) (eN 1)))))))
def F_count_by_leaves : List PV → R PV := runF 2 6 W_count_by_leaves
def B_power_1 : M Fw := (sSet 2 (eBin oMul (eN 2) (eN 0)))
def W_power : M Fw := (sSeq (sSet 2 (eC (.int 1)))
    (sSeq (sFor (iRg1 (aCons (eN 1) aNil)) (gN 3) B_power_1)
    (sRet (eN 2))))
def F_power : List PV → R PV := runF 2 4 W_power
def W_count_by_roots : M Fw := (sSeq (sIf (tOr (tB (eBin oLt (eN 1) (eC (.int 1)))) (tB (eBin oGt (eN 1) (eN 0)))) (sRet (eC (.int 0))) sNx)
    (sRet (eBin oMul (eFn oComb (aCons (eBin oSub (eN 0) (eC (.int 1))) (aCons (eBin oSub (eN 1) (eC (.int 1))) aNil))) (eCall F_power (aCons (eN 0) (aCons (eBin oSub (eN 0) (eN 1)) aNil))))))
def F_count_by_roots : List PV → R PV := runF 2 2 W_count_by_roots
def B_count_forests_1 : M Fw := (sSet 1 (eBin oAdd (eN 1) (eBin oMul (eCall F_count_by_leaves (aCons (eN 0) (aCons (eN 2) aNil))) (eBin oShl (eC (.int 1)) (eBin oAdd (eN 0) (eN 2))))))
def W_count_forests : M Fw := (sSeq (sSet 1 (eC (.int 0)))
    (sSeq (sFor (iRg1 (aCons (eBin oAdd (eN 0) (eC (.int 1))) aNil)) (gN 2) B_count_forests_1)
    (sRet (eN 1))))
def F_count_forests : List PV → R PV := runF 1 3 W_count_forests
def W_count_shapes : M Fw := (sRet (eCall F_power (aCons (eBin oAdd (eN 0) (eC (.int 1))) (aCons (eBin oSub (eN 0) (eC (.int 1))) aNil))))
def F_count_shapes : List PV → R PV := runF 1 1 W_count_shapes
def W_count_fair : M Fw := (sRet (eBin oMul (eCall F_count_shapes (aCons (eN 0) aNil)) (eBin oShl (eC (.int 1)) (eN 0))))
def F_count_fair : List PV → R PV := runF 1 1 W_count_fair
def B__law_agree_1 : M Hd := (eBin oIx (eN 5) (eN 3))
def B__law_agree_2 : M Fw := (sSeq (sSet 4 (eLst (aCons (eCall F_count_by_roots (aCons (eN 0) (aCons (eN 3) aNil))) (aCons (eCall F_count_by_leaves (aCons (eN 0) (aCons (eN 3) aNil))) (aCons (eCall F_count_low (aCons (eN 0) (aCons (eN 3) aNil))) aNil)))))
    (sIf (tB (eBin (oEq true) (eFn oRepr (aCons (eN 4) aNil)) (eFn oRepr (aCons (eLcN 2 (gN 5) tYesV B__law_agree_1 [5]) aNil)))) (sRet (eC (.bl false))) sNx))
def B__law_agree_3 : M Fw := (sSet 6 (eBin oMul (eN 6) (eBin oAdd (eN 0) (eC (.int 1)))))
def B__law_agree_4 : M Fw := (sSet 8 (eBin oMul (eN 8) (eC (.int 2))))
def B__law_agree_5 : M Fw := (sSeq (sSet 9 (eBin oAdd (eN 9) (eBin oMul (eBin oMul (eBin oIx (eBin oIx (eN 2) (eC (.int 1))) (eN 7)) (eN 10)) (eN 8))))
    (sSet 10 (eBin oMul (eN 10) (eC (.int 2)))))
def W__law_agree : M Fw := (sSeq (sForN 1 (gN 3) B__law_agree_2)
    (sSeq (sSet 6 (eC (.int 1)))
    (sSeq (sFor (iRg1 (aCons (eBin oSub (eN 0) (eC (.int 1))) aNil)) (gN 7) B__law_agree_3)
    (sSeq (sSet 8 (eC (.int 1)))
    (sSeq (sFor (iRg1 (aCons (eN 0) aNil)) (gN 7) B__law_agree_4)
    (sSeq (sSet 9 (eC (.int 0)))
    (sSeq (sSet 10 (eC (.int 1)))
    (sSeq (sFor (iRg1 (aCons (eBin oAdd (eN 0) (eC (.int 1))) aNil)) (gN 7) B__law_agree_5)
    (sSeq (sIf (tOr (tB (eBin (oEq true) (eN 6) (eFn oSum (aCons (eBin oIx (eN 2) (eC (.int 0))) aNil)))) (tOr (tB (eBin (oEq true) (eN 6) (eFn oSum (aCons (eBin oIx (eN 2) (eC (.int 1))) aNil)))) (tB (eBin (oEq true) (eN 6) (eBin oIx (eBin oIx (eN 2) (eC (.int 2))) (eC (.int 20))))))) (sRet (eC (.bl false))) sNx)
    (sSeq (sIf (tAnd (tB (eBin oLt (eN 0) (eC (.int 4)))) (tB (eBin (oEq true) (eN 9) (eBin oIx (eLst (aCons (eC (.int 4)) (aCons (eC (.int 32)) (aCons (eC (.int 448)) aNil)))) (eBin oSub (eN 0) (eC (.int 1))))))) (sRet (eC (.bl false))) sNx)
    (sRet (eBin (oEq false) (eFn oRepr (aCons (eLst (aCons (eCall F_count_shapes (aCons (eN 0) aNil)) (aCons (eCall F_count_fair (aCons (eN 0) aNil)) (aCons (eCall F_count_forests (aCons (eN 0) aNil)) aNil)))) aNil)) (eFn oRepr (aCons (eLst (aCons (eN 6) (aCons (eBin oMul (eN 6) (eN 8)) (aCons (eN 9) aNil)))) aNil))))))))))))))
def F__law_agree : List PV → R PV := runF 3 11 W__law_agree
def B__law_words_1 : M Hd := (eBin oMul (eLst (aCons (eC (.int 0)) aNil)) (eBin oAdd (eN 0) (eC (.int 1))))
def B__law_words_2 : M Hd := (eBin oMul (eLst (aCons (eC (.int 0)) aNil)) (eBin oAdd (eN 0) (eC (.int 1))))
def B__law_words_3 : M Fw := (sSeq (sSet 7 (eBin oIx (eBin oIx (eN 1) (eN 5)) (eN 6)))
    (sSeq (sSubV 4 (eBin oAdd (eN 5) (eC (.int 1))) (eN 6) (eView 4 ⟨true, false, false⟩ (eBin oAdd (eBin oIx (eBin oIx (eN 4) (eBin oAdd (eN 5) (eC (.int 1)))) (eN 6)) (eN 7))))
    (sSeq (sSubV 4 (eN 5) (eN 6) (eView 4 ⟨true, false, false⟩ (eBin oAdd (eBin oIx (eBin oIx (eN 4) (eN 5)) (eN 6)) (eBin oMul (eN 7) (eN 6)))))
    (sSubV 4 (eN 5) (eBin oAdd (eN 6) (eC (.int 1))) (eView 4 ⟨true, false, false⟩ (eBin oAdd (eBin oIx (eBin oIx (eN 4) (eN 5)) (eBin oAdd (eN 6) (eC (.int 1)))) (eBin oMul (eN 7) (eBin oSub (eN 0) (eN 6)))))))))
def B__law_words_4 : M Fw := (sFor (iRg1 (aCons (eBin oSub (eBin oAdd (eN 3) (eC (.int 1))) (eN 5)) aNil)) (gN 6) B__law_words_3)
def B__law_words_5 : M Fw := (sSeq (sSet 4 (eLcQ (iRg1 (aCons (eBin oAdd (eN 0) (eC (.int 1))) aNil)) (gN 2) tYesV B__law_words_2 [2]))
    (sSeq (sFor (iRg1 (aCons (eBin oAdd (eN 3) (eC (.int 1))) aNil)) (gN 5) B__law_words_4)
    (sSet 1 (eN 4))))
def W__law_words : M Fw := (sSeq (sSet 1 (eLcQ (iRg1 (aCons (eBin oAdd (eN 0) (eC (.int 1))) aNil)) (gN 2) tYesV B__law_words_1 [2]))
    (sSeq (sSubV 1 (eC (.int 0)) (eC (.int 0)) (eC (.int 1)))
    (sSeq (sPre 1 (sFor (iRg1 (aCons (eBin oSub (eN 0) (eC (.int 1))) aNil)) (gN 3) B__law_words_5))
    (sRet (eN 1)))))
def F__law_words : List PV → R PV := runF 1 8 W__law_words
def B__law_choices_1 : M Hd := (eBin oAdd (eBin oIx (eN 3) (eN 4)) (eBin oIx (eN 3) (eBin oAdd (eN 4) (eC (.int 1)))))
def B__law_choices_2 : M Fw := (sSeq (sSet 3 (eBin oIx (eN 1) (eUn oNeg (eC (.int 1)))))
    (sE (eMu "list" uAppend (eN 1) (aCons (eBin oAdd (eBin oAdd (eLst (aCons (eC (.int 1)) aNil)) (eLc (iRg1 (aCons (eN 2) aNil)) (gN 4) tYesV B__law_choices_1 [4])) (eLst (aCons (eC (.int 1)) aNil))) aNil))))
def W__law_choices : M Fw := (sSeq (sSet 1 (eLst (aCons (eLst (aCons (eC (.int 1)) aNil)) aNil)))
    (sSeq (sFor (iRg1 (aCons (eN 0) aNil)) (gN 2) B__law_choices_2)
    (sRet (eN 1))))
def F__law_choices : List PV → R PV := runF 1 5 W__law_choices
def B__law_layers_1 : M Hd := (eBin oMul (eLst (aCons (eFn oInt (aCons (eBin (oEq false) (eN 3) (eC (.int 0))) aNil)) aNil)) (eBin oAdd (eN 0) (eC (.int 2))))
def B__law_layers_2 : M Fw := (sSeq (sSet 10 (eBin oMul (eN 10) (eN 8)))
    (sSet 9 (eBin oAdd (eN 9) (eBin oMul (eBin oMul (eBin oIx (eBin oIx (eN 1) (eN 3)) (eN 11)) (eN 10)) (eBin oIx (eBin oIx (eN 2) (eBin oSub (eN 3) (eN 11))) (eN 11))))))
def B__law_layers_3 : M Fw := (sSeq (sSet 9 (eC (.int 0)))
    (sSeq (sSet 10 (eC (.int 1)))
    (sSeq (sFor (iRg2 (aCons (eC (.int 1)) (aCons (eBin oAdd (eN 3) (eC (.int 1))) aNil))) (gN 11) B__law_layers_2)
    (sSub (eN 7) (eN 8) (eN 9)))))
def B__law_layers_4 : M Fw := (sSeq (sSet 7 (eBin oMul (eLst (aCons (eC (.int 0)) aNil)) (eBin oAdd (eN 0) (eC (.int 2)))))
    (sSeq (sFor (iRg2 (aCons (eC (.int 1)) (aCons (eBin oSub (eBin oAdd (eN 0) (eC (.int 2))) (eN 3)) aNil))) (gN 8) B__law_layers_3)
    (sE (eMu "list" uAppend (eN 6) (aCons (eN 7) aNil)))))
def B__law_layers_5 : M Fw := (sSeq (sSet 6 (eLst (aCons (eBin oMul (eLst (aCons (eC (.int 1)) aNil)) (eBin oAdd (eN 0) (eC (.int 2)))) aNil)))
    (sSeq (sFor (iRg2 (aCons (eC (.int 1)) (aCons (eBin oAdd (eN 0) (eC (.int 1))) aNil))) (gN 3) B__law_layers_4)
    (sSeq (sSet 2 (eFz (eN 6)))
    (sE (eMu "list" uAppend (eN 4) (aCons (eBin oIx (eBin oIx (eN 2) (eN 0)) (eC (.int 1))) aNil))))))
def W__law_layers : M Fw := (sSeq (sSet 1 (eCall F__law_choices (aCons (eN 0) aNil)))
    (sSeq (sSet 2 (eFz (eLc (iRg1 (aCons (eBin oAdd (eN 0) (eC (.int 1))) aNil)) (gN 3) tYesV B__law_layers_1 [3])))
    (sSeq (sSet 4 (eLst (aCons (eBin oIx (eBin oIx (eN 2) (eN 0)) (eC (.int 1))) aNil)))
    (sSeq (sFor (iRg1 (aCons (eN 0) aNil)) (gN 5) B__law_layers_5)
    (sRet (eN 4))))))
def F__law_layers : List PV → R PV := runF 1 12 W__law_layers
def B__law_reckoned_1 : M Hd := (eBin oIx (eN 2) (eFn oMin2 (aCons (eN 6) (aCons (eN 0) aNil))))
def B__law_reckoned_2 : M Fw := (sSeq (sSub (eN 3) (eBin oAdd (eN 7) (eC (.int 1))) (eBin oAdd (eBin oIx (eN 3) (eBin oAdd (eN 7) (eC (.int 1)))) (eBin oIx (eBin oIx (eN 1) (eN 7)) (eN 8))))
    (sSub (eN 4) (eBin oSub (eN 0) (eN 8)) (eBin oAdd (eBin oIx (eN 4) (eBin oSub (eN 0) (eN 8))) (eBin oIx (eBin oIx (eN 1) (eN 7)) (eN 8)))))
def B__law_reckoned_3 : M Fw := (sFor (iRg1 (aCons (eN 0) aNil)) (gN 8) B__law_reckoned_2)
def W__law_reckoned : M Fw := (sSeq (sSet 1 (eCall F__law_words (aCons (eN 0) aNil)))
    (sSeq (sSet 2 (eCall F__law_layers (aCons (eN 0) aNil)))
    (sSeq (sSet 3 (eBin oMul (eLst (aCons (eC (.int 0)) aNil)) (eC (.int 21))))
    (sSeq (sSet 4 (eBin oMul (eLst (aCons (eC (.int 0)) aNil)) (eC (.int 21))))
    (sSeq (sSet 5 (eLc (iRg1 (aCons (eC (.int 21)) aNil)) (gN 6) tYesV B__law_reckoned_1 [6]))
    (sSeq (sFor (iRg1 (aCons (eN 0) aNil)) (gN 7) B__law_reckoned_3)
    (sRet (eLst (aCons (eN 3) (aCons (eN 4) (aCons (eN 5) aNil)))))))))))
def F__law_reckoned : List PV → R PV := runF 1 9 W__law_reckoned
def B_law_1 : M Fw := (sE (eMu "list" uAppend (eN 3) (aCons (eCall F__law_take (aCons (eCall F__law_tape (aCons (eN 0) (aCons (eN 4) aNil))) (aCons (eC (.int 21)) aNil))) aNil)))
def W_law : M Fw := (sSeq (sSet 1 (eCall F__law_tape (aCons (eN 0) (aCons (eC (.int 0)) aNil))))
    (sSeq (sSet 2 (eBin oAdd (eC (.int 1)) (eCall F__law_take (aCons (eN 1) (aCons (eC (.int 16)) aNil)))))
    (sSeq (sIf (tB (eBin (oEq false) (eCall F__law_take (aCons (eN 1) (aCons (eC (.int 3)) aNil))) (eC (.int 0)))) (sSet 2 (eBin oAdd (eC (.int 1)) (eCall F__law_take (aCons (eN 1) (aCons (eC (.int 4)) aNil))))) sNx)
    (sSeq (sSet 3 (eLst (aCons (eC (.int 0)) (aCons (eN 2) (aCons (eBin oAdd (eN 2) (eC (.int 1))) aNil)))))
    (sSeq (sFor (iRg2 (aCons (eC (.int 1)) (aCons (eC (.int 4)) aNil))) (gN 4) B_law_1)
    (sSeq (sIf (tB (eBin oLt (eN 2) (eC (.int 5)))) (sSeq (sSet 3 (eRg1 false (eC (.int 21))))
    (sIf (tNot (tE (eCall F__law_agree (aCons (eN 2) (aCons (eN 3) (aCons (eCall F__law_listed (aCons (eN 2) aNil)) aNil)))))) (sRet (eC (.bl false))) sNx)) sNx)
    (sRet (eCall F__law_agree (aCons (eN 2) (aCons (eN 3) (aCons (eCall F__law_reckoned (aCons (eN 2) aNil)) aNil)))))))))))
def F_law : List PV → R PV := runF 1 5 W_law
end
end Law
set_option linter.all false
set_option maxRecDepth 100000
set_option synthInstance.maxSize 2000
set_option Elab.async false
namespace Law
open VL VT PySem
set_option maxHeartbeats 1000000 in
theorem sim__law_tape (a_script : (List Int)) (a_k : Int) : FS (F__law_tape [(PV.scr a_script), (PV.int a_k)]) (t__law_tape a_script a_k) (fun b => (kQ2 .ow PV.int PV.int) b) (fun b => [(PV.scr a_script), (PV.int a_k)]) (fun fn => fn = [(PV.scr a_script), (PV.int a_k)]) := by
  refine fs_run (E := fun r => True) (rq := (fun (b : (Int × Int)) w r => w = (kQ2 .ow PV.int PV.int) b)) (ρ0 := [(PV.scr a_script), (PV.int a_k)]) rfl (ar_fz (FzV.of PV.scr a_script) (ar_fz (FzV.of PV.int a_k) ar_nil)) rfl ?_ (fun b w r h => ⟨h, (ex_fz (FzV.of PV.scr a_script) (ex_fz (FzV.of PV.int a_k) ex_nil))⟩) (fun r h => ⟨_, (ex_fz (FzV.of PV.scr a_script) (ex_fz (FzV.of PV.int a_k) ex_nil)), rfl⟩)
  refine s_last ?_
  refine s_assoc ?_
  refine s_if ?_
  refine x_eq (t_tB (e_bin (e_N rfl) (e_fn (e_cons (e_N rfl) e_nil) rfl) rfl) rfl) ?_
  refine x_ite ?_ ?_
  · refine s_ret ?_
    refine x_lst ?_
    refine x_acons ?_
    refine x_fn ?_
    refine x_acons ?_
    refine x_bin ?_
    refine x_eq (e_N rfl) ?_
    refine x_eq (e_N rfl) ?_
    refine x_p (os_ixS rfl rfl) nx_ix fun v1 _ => ?_
    refine x_anil ?_
    refine x_o (c := (PV.int (iabs v1))) rfl ?_
    refine x_acons ?_
    refine x_eq e_C ?_
    refine x_anil ?_
    refine x_lstE (.tm rfl (.tm rfl .nil)) (Nat.le_of_ble_eq_true rfl) (c := ((kQ2 .ow PV.int PV.int) ((iabs v1), (0 : Int)))) rfl ?_
    exact fn_ret rfl
  refine s_nx ?_
  refine s_ret ?_
  refine x_eq (e_lst (e_cons (e_N rfl) (e_cons e_C e_nil)) (.fz (FzV.of PV.int a_k) rfl (.tm rfl .nil)) (Nat.le_of_ble_eq_true rfl) (c := ((kQ2 .ow PV.int PV.int) (a_k, (0 : Int)))) rfl) ?_
  exact fn_ret rfl
set_option maxHeartbeats 1000000 in
theorem sim__law_take (a_tape_here : (Int × Int)) (a_size : Int) (o0 : Fl) (ho0 : o0 ≠ .fz) : FS (F__law_take [((kQ2 o0 PV.int PV.int) a_tape_here), (PV.int a_size)]) (t__law_take a_tape_here a_size) (fun b => PV.int b.1) (fun b => [(kQ2 .ow PV.int PV.int) b.2, (PV.int a_size)]) (fun fn => ∃ z0, fn = [z0, (PV.int a_size)]) := by
  refine fs_run (E := fun r => True) (rq := (fun (b : (Int × (Int × Int))) w r => w = PV.int b.1 ∧ nth r 0 = (kQ2 .io PV.int PV.int) b.2)) (ρ0 := [((kQ2 .io PV.int PV.int) a_tape_here), (PV.int a_size), .emp, .emp, .emp]) rfl (ar_Q2m ho0 (ar_fz (FzV.of PV.int a_size) ar_nil)) rfl ?_ (fun b w r h => ⟨h.1, (ex_mut (kQ2_own ho0) h.2 rfl rfl (ex_fz (FzV.of PV.int a_size) ex_nil))⟩) (fun r h => ⟨_, (ex_step (ex_fz (FzV.of PV.int a_size) ex_nil)), _, rfl⟩)
  refine s_last ?_
  refine s_assoc ?_
  refine s_set ?_
  refine x_eq (e_bin (e_N rfl) e_C (c := (PV.int a_tape_here.1)) rfl) ?_
  refine x_set_tm rfl rfl ?_
  refine s_rho (ρ1 := ([((kQ2 .io PV.int PV.int) a_tape_here), (PV.int a_size), (PV.int a_tape_here.1), .emp, .emp] : List PV)) rfl ?_
  refine s_assoc ?_
  refine s_sub ?_
  refine x_eq (e_bin (e_bin (e_N rfl) e_C (c := (PV.int a_tape_here.2)) rfl) e_C rfl) ?_
  refine x_eq (e_N rfl) ?_
  refine x_eq e_C ?_
  refine x_subQ2' (o := .io) (e := PV.int) (e' := PV.int) (p := a_tape_here) (v := (a_tape_here.2 + (1 : Int))) (take_tm rfl) rfl (by decide) rfl ?_
  refine s_rho (ρ1 := ([((kQ2 .io PV.int PV.int) (a_tape_here.1, (a_tape_here.2 + (1 : Int)))), (PV.int a_size), (PV.int a_tape_here.1), .emp, .emp] : List PV)) rfl ?_
  refine s_assoc ?_
  refine s_set ?_
  refine x_eq (e_bin (e_N rfl) e_C (c := (PV.int (a_tape_here.1, (a_tape_here.2 + (1 : Int))).2)) rfl) ?_
  refine x_set_tm rfl rfl ?_
  refine s_rho (ρ1 := ([((kQ2 .io PV.int PV.int) (a_tape_here.1, (a_tape_here.2 + (1 : Int)))), (PV.int a_size), (PV.int a_tape_here.1), (PV.int (a_tape_here.1, (a_tape_here.2 + (1 : Int))).2), .emp] : List PV)) rfl ?_
  refine s_assoc ?_
  refine s_if ?_
  refine x_eq (t_tB (e_bin (e_N rfl) (e_bin e_C e_C (powC (z := (1000000000000000000 : Int)) rfl rfl (by decide) (by decide))) rfl) rfl) ?_
  refine x_ite ?_ ?_
  · refine s_assoc ?_
    refine s_sub ?_
    refine x_bin ?_
    refine x_eq (e_N rfl) ?_
    refine x_eq (e_N rfl) ?_
    refine x_p (os_div rfl rfl) nx_div fun v1 _ => ?_
    refine x_eq (e_N rfl) ?_
    refine x_eq e_C ?_
    refine x_subQ2 (o := .io) (e := PV.int) (e' := PV.int) (p := (a_tape_here.1, (a_tape_here.2 + (1 : Int)))) (v := v1) (take_tm rfl) rfl (by decide) rfl ?_
    refine s_rho (ρ1 := ([((kQ2 .io PV.int PV.int) (v1, (a_tape_here.1, (a_tape_here.2 + (1 : Int))).2)), (PV.int a_size), (PV.int a_tape_here.1), (PV.int (a_tape_here.1, (a_tape_here.2 + (1 : Int))).2), .emp] : List PV)) rfl ?_
    refine s_ret ?_
    refine x_bin ?_
    refine x_eq (e_fn (e_cons (e_N rfl) e_nil) (c := PV.int a_tape_here.1) rfl) ?_
    refine x_eq (e_N rfl) ?_
    refine x_p (os_mod rfl rfl) nx_mod fun v2 _ => ?_
    exact fn_ret ⟨rfl, rfl⟩
  refine s_nx ?_
  refine s_assoc ?_
  refine s_set ?_
  refine x_eq (e_bin (e_fn (e_cons (e_bin (e_bin (e_N rfl) (e_bin e_C (e_N rfl) (mulL rfl rfl (by decide) (by decide))) rfl) e_C rfl) e_nil) (c := PV.int ((a_tape_here.1 + ((7919 : Int) * (a_tape_here.1, (a_tape_here.2 + (1 : Int))).2)) + (13 : Int))) rfl) e_C (modC rfl rfl (by decide))) ?_
  refine x_set_tm rfl rfl ?_
  refine s_rho (ρ1 := ([((kQ2 .io PV.int PV.int) (a_tape_here.1, (a_tape_here.2 + (1 : Int)))), (PV.int a_size), (PV.int a_tape_here.1), (PV.int (a_tape_here.1, (a_tape_here.2 + (1 : Int))).2), (PV.int (((a_tape_here.1 + ((7919 : Int) * (a_tape_here.1, (a_tape_here.2 + (1 : Int))).2)) + (13 : Int)) % (2147483647 : Int)))] : List PV)) rfl ?_
  refine s_assoc ?_
  refine s_set ?_
  refine x_bin ?_
  refine x_fn ?_
  refine x_acons ?_
  refine x_bin ?_
  refine x_eq (e_N rfl) ?_
  refine x_eq (e_bin (e_N rfl) e_C rfl) ?_
  refine x_p (os_mul rfl rfl) nx_mul fun v3 _ => ?_
  refine x_anil ?_
  refine x_o (c := (PV.int v3)) rfl ?_
  refine x_eq e_C ?_
  refine x_o (modC rfl rfl (by decide)) ?_
  refine x_set_tm rfl rfl ?_
  refine s_rho (ρ1 := ([((kQ2 .io PV.int PV.int) (a_tape_here.1, (a_tape_here.2 + (1 : Int)))), (PV.int a_size), (PV.int a_tape_here.1), (PV.int (a_tape_here.1, (a_tape_here.2 + (1 : Int))).2), (PV.int (v3 % (2147483629 : Int)))] : List PV)) rfl ?_
  refine s_assoc ?_
  refine s_set ?_
  refine x_bin ?_
  refine x_fn ?_
  refine x_acons ?_
  refine x_bin ?_
  refine x_bin ?_
  refine x_eq (e_N rfl) ?_
  refine x_eq (e_bin (e_N rfl) e_C rfl) ?_
  refine x_p (os_mul rfl rfl) nx_mul fun v4 _ => ?_
  refine x_eq (e_bin e_C (e_N rfl) (mulL rfl rfl (by decide) (by decide))) ?_
  refine x_o rfl ?_
  refine x_anil ?_
  refine x_o (c := (PV.int (v4 + ((31 : Int) * (a_tape_here.1, (a_tape_here.2 + (1 : Int))).2)))) rfl ?_
  refine x_eq e_C ?_
  refine x_o (modC rfl rfl (by decide)) ?_
  refine x_set_tm rfl rfl ?_
  refine s_rho (ρ1 := ([((kQ2 .io PV.int PV.int) (a_tape_here.1, (a_tape_here.2 + (1 : Int)))), (PV.int a_size), (PV.int a_tape_here.1), (PV.int (a_tape_here.1, (a_tape_here.2 + (1 : Int))).2), (PV.int ((v4 + ((31 : Int) * (a_tape_here.1, (a_tape_here.2 + (1 : Int))).2)) % (2147483647 : Int)))] : List PV)) rfl ?_
  refine s_ret ?_
  refine x_bin ?_
  refine x_eq (e_fn (e_cons (e_bin (e_N rfl) e_C (divC rfl rfl (by decide))) e_nil) (c := PV.int (((v4 + ((31 : Int) * (a_tape_here.1, (a_tape_here.2 + (1 : Int))).2)) % (2147483647 : Int)) / (9 : Int))) rfl) ?_
  refine x_eq (e_N rfl) ?_
  refine x_p (os_mod rfl rfl) nx_mod fun v5 _ => ?_
  exact fn_ret ⟨rfl, rfl⟩
set_option maxHeartbeats 1000000 in
theorem sim__law_depth (a_parents : (List (Option Int))) (a_field : Int) (o0 : Fl) : FS (F__law_depth [((kL o0 (kO PV.int)) a_parents), (PV.int a_field)]) (t__law_depth a_parents a_field) (fun b => PV.int b) (fun b => [exitR ((kL o0 (kO PV.int)) a_parents), (PV.int a_field)]) (fun fn => fn = [exitR ((kL o0 (kO PV.int)) a_parents), (PV.int a_field)]) := by
  refine fs_run (E := fun r => nth r 0 = (kL (ioF o0) (kO PV.int)) a_parents) (rq := (fun (b : Int) w r => w = PV.int b ∧ nth r 0 = (kL (ioF o0) (kO PV.int)) a_parents)) (ρ0 := [((kL (ioF o0) (kO PV.int)) a_parents), (PV.int a_field), .emp, .emp]) rfl (ar_of (fun o => (kL o (kO PV.int))) (ar_fz (FzV.of PV.int a_field) ar_nil)) rfl ?_ (fun b w r h => ⟨h.1, (ex_ro (fun _ => h.2.trans (toIo_of (fun o => (kL o (kO PV.int)))).symm) (ne_of (fun o => (kL o (kO PV.int)))) (ex_fz (FzV.of PV.int a_field) ex_nil))⟩) (fun r h => ⟨_, (ex_ro (fun _ => h.trans (toIo_of (fun o => (kL o (kO PV.int)))).symm) (ne_of (fun o => (kL o (kO PV.int)))) (ex_fz (FzV.of PV.int a_field) ex_nil)), rfl⟩)
  unfold t__law_depth
  refine s_last ?_
  refine s_assoc ?_
  refine s_set ?_
  refine x_eq e_C ?_
  refine x_set_tm rfl rfl ?_
  refine s_rho (ρ1 := ([((kL (ioF o0) (kO PV.int)) a_parents), (PV.int a_field), (PV.int (0 : Int)), .emp] : List PV)) rfl ?_
  refine s_assoc ?_
  refine s_for ?_
  refine x_iRg1 ?_
  refine x_eq (e_cons (e_bin (e_fn (e_cons (e_N rfl) e_nil) (len_L (e := (kO PV.int)) (xs := a_parents))) e_C rfl) e_nil) ?_
  refine x_rg1E rfl ?_
  generalize rgI 0 ((a_parents.length : Int) + (1 : Int)) = v1
  refine x_for (P := fun s3 : ((Option Int) × Int) => [.is ((kL (ioF o0) (kO PV.int)) a_parents), .is ((kO PV.int) s3.1), .is (PV.int s3.2), .jk]) (e := PV.int) (rq := (fun (b : Int) w r => w = PV.int b ∧ nth r 0 = (kL (ioF o0) (kO PV.int)) a_parents)) ⟨_, rfl, _, rfl, _, rfl, _, _, rfl, rfl, rfl⟩ (fun s3 x2 r4 e6 m5 => ?_) (fun s11 r12 m13 => ?_) (fun b15 w16 r17 q18 => ?_)
  · obtain ⟨_, rfl, _, rfl, _, rfl, j7v, _, rfl, j7, rfl⟩ := m5
    refine x_tg (tg_N j7 rfl) ?_
    refine s_rho (ρ1 := ([((kL (ioF o0) (kO PV.int)) a_parents), ((kO PV.int) s3.1), (PV.int s3.2), (PV.int x2)] : List PV)) rfl ?_
    refine s_last ?_
    refine s_assoc ?_
    refine s_if ?_
    refine x_eq (t_tB (e_bin (e_Nf (FzV.of (kO PV.int) s3.1) rfl) e_C (isN PV.int s3.1)) rfl) ?_
    refine x_ite ?_ ?_
    · refine s_ret ?_
      refine x_eq (e_N rfl) ?_
      refine ret_sl (a := (PV.int s3.2)) rfl rfl ?_
      exact go_ret ⟨rfl, rfl⟩
    refine s_nx ?_
    refine s_assoc ?_
    refine s_set ?_
    refine x_eq (e_bin (e_N rfl) e_C rfl) ?_
    refine x_set_tm rfl rfl ?_
    refine s_rho (ρ1 := ([((kL (ioF o0) (kO PV.int)) a_parents), ((kO PV.int) s3.1), (PV.int (s3.2 + (1 : Int))), (PV.int x2)] : List PV)) rfl ?_
    refine s_set ?_
    refine x_bin ?_
    refine x_eq (e_N rfl) ?_
    refine x_eq (e_Nf (FzV.of (kO PV.int) s3.1) rfl) ?_
    refine x_opt fun v8 e9 => ?_
    have e9z : ((kO PV.int) s3.1) = (PV.int v8) := by first | (rw [e9]; rfl) | (injection e9 with e9; subst e9; first | (simp only [*]; done) | (simp only [*]; rfl))
    try rw [e9z]
    try rw [e9]
    refine x_p (os_ix (e := (kO PV.int)) (xs := a_parents) rfl rfl) nx_ix fun v10 _ => ?_
    refine x_set_tm rfl (FzV.of (kO PV.int) v10).io ?_
    exact x_done ⟨.inl rfl, ⟨_, rfl, _, rfl, _, rfl, _, _, rfl, rfl, rfl⟩⟩
  · obtain ⟨_, rfl, _, rfl, _, rfl, j14v, _, rfl, j14, rfl⟩ := m13
    refine s_ret ?_
    refine x_eq e_C ?_
    exact fn_ret ⟨rfl, rfl⟩
  exact fn_ret q18
set_option maxHeartbeats 1000000 in
theorem sim__law_listed (a_n : Int) : FS (F__law_listed [(PV.int a_n)]) (t__law_listed a_n) (fun b => (kL .ow (kL .fz PV.int)) b) (fun b => [(PV.int a_n)]) (fun fn => fn = [(PV.int a_n)]) := by
  refine fs_run (E := fun r => True) (rq := (fun (b : (List (List Int))) w r => w = (kL .ow (kL .fz PV.int)) b)) (ρ0 := [(PV.int a_n), .emp, .emp, .emp, .emp, .emp, .emp, .emp, .emp, .emp, .emp, .emp, .emp]) rfl (ar_fz (FzV.of PV.int a_n) ar_nil) rfl ?_ (fun b w r h => ⟨h, (ex_fz (FzV.of PV.int a_n) ex_nil)⟩) (fun r h => ⟨_, (ex_fz (FzV.of PV.int a_n) ex_nil), rfl⟩)
  unfold t__law_listed
  refine s_last ?_
  refine s_assoc ?_
  refine s_set ?_
  refine x_fz0 ?_
  refine x_eq (e_lst (e_cons (e_lst e_nil .nil (Nat.le_of_ble_eq_true rfl) (c := ((kL .ow (kO PV.int)) ([] : (List (Option Int))))) rfl) e_nil) (.tm rfl .nil) (Nat.le_of_ble_eq_true rfl) (c := ((kL .ow (kL .fz (kO PV.int))) [([] : (List (Option Int)))])) rfl) ?_
  refine x_fz1 (a := ((kL .fz (kL .fz (kO PV.int))) [([] : (List (Option Int)))])) (ρ2 := ([(PV.int a_n), .emp, .emp, .emp, .emp, .emp, .emp, .emp, .emp, .emp, .emp, .emp, .emp] : List PV)) rfl ?_
  refine x_set_tm rfl rfl ?_
  refine s_rho (ρ1 := ([(PV.int a_n), ((kL .fz (kL .fz (kO PV.int))) [([] : (List (Option Int)))]), .emp, .emp, .emp, .emp, .emp, .emp, .emp, .emp, .emp, .emp, .emp] : List PV)) rfl ?_
  refine s_assoc ?_
  refine s_for ?_
  refine x_iRg1 ?_
  refine x_eq (e_cons (e_N rfl) e_nil) ?_
  refine x_rg1E rfl ?_
  generalize rgI 0 a_n = v1
  refine x_fold (P := fun s3 : ((List (List (Option Int)))) => [.is (PV.int a_n), .is ((kL .fz (kL .fz (kO PV.int))) s3), .jk, .jk, .jk, .jk, .jk, .jk, .jk, .jk, .jk, .jk, .jk]) (e := PV.int) ⟨_, rfl, _, rfl, _, _, rfl, rfl, _, _, rfl, rfl, _, _, rfl, rfl, _, _, rfl, rfl, _, _, rfl, rfl, _, _, rfl, rfl, _, _, rfl, rfl, _, _, rfl, rfl, _, _, rfl, rfl, _, _, rfl, rfl, _, _, rfl, rfl, rfl⟩ (fun s3 x2 r4 e6 m5 => ?_) fun s72 r73 m74 => ?_
  · obtain ⟨_, rfl, _, rfl, j7v, _, rfl, j7, j8v, _, rfl, j8, j9v, _, rfl, j9, j10v, _, rfl, j10, j11v, _, rfl, j11, j12v, _, rfl, j12, j13v, _, rfl, j13, j14v, _, rfl, j14, j15v, _, rfl, j15, j16v, _, rfl, j16, j17v, _, rfl, j17, rfl⟩ := m5
    refine x_tg (tg_N j7 rfl) ?_
    refine s_rho (ρ1 := ([(PV.int a_n), ((kL .fz (kL .fz (kO PV.int))) s3), (PV.int x2), j8v, j9v, j10v, j11v, j12v, j13v, j14v, j15v, j16v, j17v] : List PV)) rfl ?_
    refine s_last ?_
    refine s_assoc ?_
    refine s_set ?_
    refine x_eq (e_lst e_nil .nil (Nat.le_of_ble_eq_true rfl) (c := ((kL .ow (kL .fz (kO PV.int))) ([] : (List (List (Option Int)))))) rfl) ?_
    refine x_set_tm j8 rfl ?_
    refine s_rho (ρ1 := ([(PV.int a_n), ((kL .fz (kL .fz (kO PV.int))) s3), (PV.int x2), ((kL .ow (kL .fz (kO PV.int))) ([] : (List (List (Option Int))))), j9v, j10v, j11v, j12v, j13v, j14v, j15v, j16v, j17v] : List PV)) rfl ?_
    refine s_assoc ?_
    refine s_for ?_
    refine x_iSeq ?_
    refine x_eq (e_fn (e_cons (e_N rfl) e_nil) (c := ((kL .ow (kL .fz (kO PV.int))) s3)) rfl) ?_
    refine x_it_tm (xs := s3.map (kL .fz (kO PV.int))) rfl ?_
    refine x_fold (P := fun s19 : ((List (List (Option Int)))) => [.is (PV.int a_n), .is ((kL .fz (kL .fz (kO PV.int))) s3), .is (PV.int x2), .is ((kL .ow (kL .fz (kO PV.int))) s19), .jk, .jk, .jk, .jk, .jk, .jk, .jk, .jk, .jk]) (e := (kL .fz (kO PV.int))) ⟨_, rfl, _, rfl, _, rfl, _, rfl, _, _, rfl, j9, _, _, rfl, j10, _, _, rfl, j11, _, _, rfl, j12, _, _, rfl, j13, _, _, rfl, j14, _, _, rfl, j15, _, _, rfl, j16, _, _, rfl, j17, rfl⟩ (fun s19 x18 r20 e22 m21 => ?_) fun s60 r61 m62 => ?_
    · obtain ⟨_, rfl, _, rfl, _, rfl, _, rfl, j23v, _, rfl, j23, j24v, _, rfl, j24, j25v, _, rfl, j25, j26v, _, rfl, j26, j27v, _, rfl, j27, j28v, _, rfl, j28, j29v, _, rfl, j29, j30v, _, rfl, j30, j31v, _, rfl, j31, rfl⟩ := m21
      refine x_tg (tg_N j23 rfl) ?_
      refine s_rho (ρ1 := ([(PV.int a_n), ((kL .fz (kL .fz (kO PV.int))) s3), (PV.int x2), ((kL .ow (kL .fz (kO PV.int))) s19), ((kL .fz (kO PV.int)) x18), j24v, j25v, j26v, j27v, j28v, j29v, j30v, j31v] : List PV)) rfl ?_
      refine s_last ?_
      refine s_for ?_
      refine x_iSeq ?_
      refine x_bin ?_
      refine x_eq (e_lst (e_cons e_C e_nil) (.tm rfl .nil) (Nat.le_of_ble_eq_true rfl) (c := ((kL .ow kU) [()])) rfl) ?_
      refine x_eRg1 ?_
      refine x_eq (e_N rfl) ?_
      refine x_eRg1E (e := (kL .ow PV.int)) rfl (fun _ => rfl) fun v32 => ?_
      refine x_p (os_catL (e := (kO PV.int)) (xs := [(none : (Option Int))]) (ys := (v32.map fun (z : Int) => (some z))) rfl (show ((kL .ow PV.int) v32) = (kL .ow (kO PV.int)) (v32.map fun (z : Int) => (some z)) from (kL_cast (f := fun (z : Int) => (some z)) fun z => rfl))) nx_cat fun v33 _ => ?_
      refine x_it_tm (xs := v33.map (kO PV.int)) rfl ?_
      refine x_fold (P := fun s35 : ((List (List (Option Int)))) => [.is (PV.int a_n), .is ((kL .fz (kL .fz (kO PV.int))) s3), .is (PV.int x2), .is ((kL .ow (kL .fz (kO PV.int))) s35), .is ((kL .fz (kO PV.int)) x18), .jk, .jk, .jk, .jk, .jk, .jk, .jk, .jk]) (e := (kO PV.int)) ⟨_, rfl, _, rfl, _, rfl, _, rfl, _, rfl, _, _, rfl, j24, _, _, rfl, j25, _, _, rfl, j26, _, _, rfl, j27, _, _, rfl, j28, _, _, rfl, j29, _, _, rfl, j30, _, _, rfl, j31, rfl⟩ (fun s35 x34 r36 e38 m37 => ?_) fun s49 r50 m51 => ?_
      · obtain ⟨_, rfl, _, rfl, _, rfl, _, rfl, _, rfl, j39v, _, rfl, j39, j40v, _, rfl, j40, j41v, _, rfl, j41, j42v, _, rfl, j42, j43v, _, rfl, j43, j44v, _, rfl, j44, j45v, _, rfl, j45, j46v, _, rfl, j46, rfl⟩ := m37
        refine x_tg (tg_N j39 (FzV.of (kO PV.int) x34).io) ?_
        refine s_rho (ρ1 := ([(PV.int a_n), ((kL .fz (kL .fz (kO PV.int))) s3), (PV.int x2), ((kL .ow (kL .fz (kO PV.int))) s35), ((kL .fz (kO PV.int)) x18), ((kO PV.int) x34), j40v, j41v, j42v, j43v, j44v, j45v, j46v] : List PV)) rfl ?_
        refine s_last ?_
        refine s_E ?_
        refine x_mu ?_
        refine x_eq (e_N rfl) ?_
        refine x_muL (e := (kL .fz (kO PV.int))) (xs := s35) rfl ?_
        refine x_acons ?_
        refine x_bin ?_
        refine x_eq (e_N rfl) ?_
        refine x_eq (e_lst (e_cons (e_Nf (FzV.of (kO PV.int) x34) rfl) e_nil) (.fz (FzV.of (kO PV.int) x34) rfl .nil) (Nat.le_of_ble_eq_true rfl) (c := ((kL .ow (kO PV.int)) [x34])) rfl) ?_
        refine x_p (os_catL (e := (kO PV.int)) (xs := x18) (ys := [x34]) rfl rfl) nx_cat fun v47 _ => ?_
        refine x_anil ?_
        refine x_app (o := .ow) (e := (kL .fz (kO PV.int))) (xs := s35) (v := v47) (.tm rfl .nil) rfl (by decide) fun v48 => ?_
        exact x_done ⟨.inl rfl, ⟨_, rfl, _, rfl, _, rfl, _, rfl, _, rfl, _, _, rfl, (FzV.of (kO PV.int) x34).io, _, _, rfl, j40, _, _, rfl, j41, _, _, rfl, j42, _, _, rfl, j43, _, _, rfl, j44, _, _, rfl, j45, _, _, rfl, j46, rfl⟩⟩
      obtain ⟨_, rfl, _, rfl, _, rfl, _, rfl, _, rfl, j52v, _, rfl, j52, j53v, _, rfl, j53, j54v, _, rfl, j54, j55v, _, rfl, j55, j56v, _, rfl, j56, j57v, _, rfl, j57, j58v, _, rfl, j58, j59v, _, rfl, j59, rfl⟩ := m51
      exact x_done ⟨.inl rfl, ⟨_, rfl, _, rfl, _, rfl, _, rfl, _, _, rfl, rfl, _, _, rfl, j52, _, _, rfl, j53, _, _, rfl, j54, _, _, rfl, j55, _, _, rfl, j56, _, _, rfl, j57, _, _, rfl, j58, _, _, rfl, j59, rfl⟩⟩
    obtain ⟨_, rfl, _, rfl, _, rfl, _, rfl, j63v, _, rfl, j63, j64v, _, rfl, j64, j65v, _, rfl, j65, j66v, _, rfl, j66, j67v, _, rfl, j67, j68v, _, rfl, j68, j69v, _, rfl, j69, j70v, _, rfl, j70, j71v, _, rfl, j71, rfl⟩ := m62
    refine s_set ?_
    refine x_fz0 ?_
    refine x_eq (e_N rfl) ?_
    refine x_fz1 (a := ((kL .fz (kL .fz (kO PV.int))) s60)) (ρ2 := ([(PV.int a_n), ((kL .fz (kL .fz (kO PV.int))) s3), (PV.int x2), ((kL .fz (kL .fz (kO PV.int))) s60), j63v, j64v, j65v, j66v, j67v, j68v, j69v, j70v, j71v] : List PV)) rfl ?_
    refine x_set_tm rfl rfl ?_
    exact x_done ⟨.inl rfl, ⟨_, rfl, _, rfl, _, _, rfl, rfl, _, _, rfl, rfl, _, _, rfl, j63, _, _, rfl, j64, _, _, rfl, j65, _, _, rfl, j66, _, _, rfl, j67, _, _, rfl, j68, _, _, rfl, j69, _, _, rfl, j70, _, _, rfl, j71, rfl⟩⟩
  obtain ⟨_, rfl, _, rfl, j75v, _, rfl, j75, j76v, _, rfl, j76, j77v, _, rfl, j77, j78v, _, rfl, j78, j79v, _, rfl, j79, j80v, _, rfl, j80, j81v, _, rfl, j81, j82v, _, rfl, j82, j83v, _, rfl, j83, j84v, _, rfl, j84, j85v, _, rfl, j85, rfl⟩ := m74
  refine s_assoc ?_
  refine s_set ?_
  refine x_bin ?_
  refine x_eq (e_lst (e_cons e_C e_nil) (.tm rfl .nil) (Nat.le_of_ble_eq_true rfl) (c := ((kL .ow PV.int) [(0 : Int)])) rfl) ?_
  refine x_eq e_C ?_
  refine x_p (os_rep (e := PV.int) (xs := [(0 : Int)]) rfl rfl) nx_rep fun v86 _ => ?_
  refine x_set_tm j79 rfl ?_
  refine s_rho (ρ1 := ([(PV.int a_n), ((kL .fz (kL .fz (kO PV.int))) s72), j75v, j76v, j77v, j78v, ((kL .ow PV.int) v86), j80v, j81v, j82v, j83v, j84v, j85v] : List PV)) rfl ?_
  refine s_assoc ?_
  refine s_set ?_
  refine x_bin ?_
  refine x_eq (e_lst (e_cons e_C e_nil) (.tm rfl .nil) (Nat.le_of_ble_eq_true rfl) (c := ((kL .ow PV.int) [(0 : Int)])) rfl) ?_
  refine x_eq e_C ?_
  refine x_p (os_rep (e := PV.int) (xs := [(0 : Int)]) rfl rfl) nx_rep fun v87 _ => ?_
  refine x_set_tm j80 rfl ?_
  refine s_rho (ρ1 := ([(PV.int a_n), ((kL .fz (kL .fz (kO PV.int))) s72), j75v, j76v, j77v, j78v, ((kL .ow PV.int) v86), ((kL .ow PV.int) v87), j81v, j82v, j83v, j84v, j85v] : List PV)) rfl ?_
  refine s_assoc ?_
  refine s_set ?_
  refine x_bin ?_
  refine x_eq (e_lst (e_cons e_C e_nil) (.tm rfl .nil) (Nat.le_of_ble_eq_true rfl) (c := ((kL .ow PV.int) [(0 : Int)])) rfl) ?_
  refine x_eq e_C ?_
  refine x_p (os_rep (e := PV.int) (xs := [(0 : Int)]) rfl rfl) nx_rep fun v88 _ => ?_
  refine x_set_tm j81 rfl ?_
  refine s_rho (ρ1 := ([(PV.int a_n), ((kL .fz (kL .fz (kO PV.int))) s72), j75v, j76v, j77v, j78v, ((kL .ow PV.int) v86), ((kL .ow PV.int) v87), ((kL .ow PV.int) v88), j82v, j83v, j84v, j85v] : List PV)) rfl ?_
  refine s_assoc ?_
  refine s_for ?_
  refine x_iSeq ?_
  refine x_eq (e_N rfl) ?_
  refine x_it_fz (xs := s72.map (kL .fz (kO PV.int))) (FzV.of (kL .fz (kL .fz (kO PV.int))) s72) rfl rfl ?_
  refine x_fold (P := fun s90 : ((List Int) × (List Int) × (List Int)) => [.is (PV.int a_n), .is ((kL .fz (kL .fz (kO PV.int))) s72), .jk, .jk, .jk, .jk, .is ((kL .ow PV.int) s90.1), .is ((kL .ow PV.int) s90.2.1), .is ((kL .ow PV.int) s90.2.2), .jk, .jk, .jk, .jk]) (e := (kL .fz (kO PV.int))) ⟨_, rfl, _, rfl, _, _, rfl, j75, _, _, rfl, j76, _, _, rfl, j77, _, _, rfl, j78, _, rfl, _, rfl, _, rfl, _, _, rfl, j82, _, _, rfl, j83, _, _, rfl, j84, _, _, rfl, j85, rfl⟩ (fun s90 x89 r91 e93 m92 => ?_) fun s165 r166 m167 => ?_
  · obtain ⟨_, rfl, _, rfl, j94v, _, rfl, j94, j95v, _, rfl, j95, j96v, _, rfl, j96, j97v, _, rfl, j97, _, rfl, _, rfl, _, rfl, j98v, _, rfl, j98, j99v, _, rfl, j99, j100v, _, rfl, j100, j101v, _, rfl, j101, rfl⟩ := m92
    refine x_tg (tg_N j96 rfl) ?_
    refine s_rho (ρ1 := ([(PV.int a_n), ((kL .fz (kL .fz (kO PV.int))) s72), j94v, j95v, ((kL .fz (kO PV.int)) x89), j97v, ((kL .ow PV.int) s90.1), ((kL .ow PV.int) s90.2.1), ((kL .ow PV.int) s90.2.2), j98v, j99v, j100v, j101v] : List PV)) rfl ?_
    refine s_last ?_
    refine s_assoc ?_
    refine s_set ?_
    refine x_lc ?_
    refine x_iRg1 ?_
    refine x_eq (e_cons (e_N rfl) e_nil) ?_
    refine x_rg1E rfl ?_
    generalize rgI 0 a_n = v102
    refine x_lcP (P := [.is (PV.int a_n), .is ((kL .fz (kL .fz (kO PV.int))) s72), .jk, .jk, .is ((kL .fz (kO PV.int)) x89), .jk, .is ((kL .ow PV.int) s90.1), .is ((kL .ow PV.int) s90.2.1), .is ((kL .ow PV.int) s90.2.2), .jk, .is .emp, .jk, .jk]) (e := PV.int) (e' := PV.int) ⟨_, rfl, _, rfl, _, _, rfl, j94, _, _, rfl, j95, _, rfl, _, _, rfl, j97, _, rfl, _, rfl, _, rfl, _, _, rfl, j98, _, rfl, _, _, rfl, j100, _, _, rfl, j101, rfl⟩ (fun x103 r105 _ m106 => ?_) fun v114 r115 r115c m116 m116e => ?_
    · obtain ⟨_, rfl, _, rfl, j107v, _, rfl, j107, j108v, _, rfl, j108, _, rfl, j109v, _, rfl, j109, _, rfl, _, rfl, _, rfl, j110v, _, rfl, j110, _, rfl, j111v, _, rfl, j111, j112v, _, rfl, j112, rfl⟩ := m106
      refine lc_tg (tg_N rfl rfl) ?_
      refine x_tYes ?_
      refine lc_yes ?_
      refine x_call ?_
      refine x_eq (e_cons (e_N rfl) (e_cons (e_N rfl) e_nil)) ?_
      refine x_callR (ok_fz (FzV.of (kL .fz (kO PV.int)) x89) rfl (ok_fz (FzV.of PV.int x103) rfl ok_nil)) (sim__law_depth x89 x103 .fz) (bk_fz (FzV.of (kL .fz (kO PV.int)) x89) rfl (bk_fz (FzV.of PV.int x103) rfl bk_nil)) trivial fun v113 => ?_
      refine lc_tm rfl ⟨rfl, ⟨_, rfl, _, rfl, _, _, rfl, j107, _, _, rfl, j108, _, rfl, _, _, rfl, j109, _, rfl, _, rfl, _, rfl, _, _, rfl, j110, _, rfl, _, _, rfl, j111, _, _, rfl, j112, rfl⟩⟩
    obtain ⟨_, rfl, _, rfl, j107v, _, rfl, j107, j108v, _, rfl, j108, _, rfl, j109v, _, rfl, j109, _, rfl, _, rfl, _, rfl, j110v, _, rfl, j110, _, rfl, j111v, _, rfl, j111, j112v, _, rfl, j112, rfl⟩ := m116
    obtain rfl : ([(PV.int a_n), ((kL .fz (kL .fz (kO PV.int))) s72), j107v, j108v, ((kL .fz (kO PV.int)) x89), j109v, ((kL .ow PV.int) s90.1), ((kL .ow PV.int) s90.2.1), ((kL .ow PV.int) s90.2.2), j110v, j99v, j111v, j112v] : List PV) = r115c := m116e
    refine x_set_tm j110 rfl ?_
    refine s_rho (ρ1 := ([(PV.int a_n), ((kL .fz (kL .fz (kO PV.int))) s72), j107v, j108v, ((kL .fz (kO PV.int)) x89), j109v, ((kL .ow PV.int) s90.1), ((kL .ow PV.int) s90.2.1), ((kL .ow PV.int) s90.2.2), ((kL .ow PV.int) v114), j99v, j111v, j112v] : List PV)) rfl ?_
    refine s_join (P := fun s => [.is (PV.int a_n), .is ((kL .fz (kL .fz (kO PV.int))) s72), .jk, .jk, .is ((kL .fz (kO PV.int)) x89), .jk, .is ((kL .ow PV.int) s.1), .is ((kL .ow PV.int) s.2.1), .is ((kL .ow PV.int) s.2.2), .is ((kL .ow PV.int) v114), .jk, .jk, .jk]) ?_ fun s156 r157 m158 => ?_
    · refine s_last ?_
      refine s_if ?_
      refine x_eq (t_tB (e_bin e_C (e_N rfl) (ninLs PV.int PV.int (0 : Int) v114)) rfl) ?_
      refine x_ite ?_ ?_
      · refine s_assoc ?_
        refine s_set ?_
        refine x_lc ?_
        refine x_iRg1 ?_
        refine x_eq (e_cons (e_N rfl) e_nil) ?_
        refine x_rg1E rfl ?_
        generalize rgI 0 a_n = v117
        refine x_lcP (P := [.is (PV.int a_n), .is ((kL .fz (kL .fz (kO PV.int))) s72), .jk, .jk, .is ((kL .fz (kO PV.int)) x89), .jk, .is ((kL .ow PV.int) s90.1), .is ((kL .ow PV.int) s90.2.1), .is ((kL .ow PV.int) s90.2.2), .is ((kL .ow PV.int) v114), .is .emp, .jk, .jk]) (e := PV.int) (e' := PV.int) ⟨_, rfl, _, rfl, _, _, rfl, j107, _, _, rfl, j108, _, rfl, _, _, rfl, j109, _, rfl, _, rfl, _, rfl, _, rfl, _, rfl, _, _, rfl, j111, _, _, rfl, j112, rfl⟩ (fun x118 r120 _ m121 => ?_) fun v127 r128 r128c m129 m129e => ?_
        · obtain ⟨_, rfl, _, rfl, j122v, _, rfl, j122, j123v, _, rfl, j123, _, rfl, j124v, _, rfl, j124, _, rfl, _, rfl, _, rfl, _, rfl, _, rfl, j125v, _, rfl, j125, j126v, _, rfl, j126, rfl⟩ := m121
          refine lc_tg (tg_N rfl rfl) ?_
          refine x_eq (t_tB (e_bin (e_N rfl) (e_N rfl) (ninLs (kO PV.int) (kO PV.int) (some x118) x89)) rfl) ?_
          refine x_ite ?_ ?_
          · refine x_eq (e_N rfl) ?_
            refine lc_fz (FzV.of PV.int x118) rfl ⟨rfl, ⟨_, rfl, _, rfl, _, _, rfl, j122, _, _, rfl, j123, _, rfl, _, _, rfl, j124, _, rfl, _, rfl, _, rfl, _, rfl, _, rfl, _, _, rfl, j125, _, _, rfl, j126, rfl⟩⟩
          exact x_done ⟨rfl, ⟨_, rfl, _, rfl, _, _, rfl, j122, _, _, rfl, j123, _, rfl, _, _, rfl, j124, _, rfl, _, rfl, _, rfl, _, rfl, _, rfl, _, _, rfl, j125, _, _, rfl, j126, rfl⟩⟩
        obtain ⟨_, rfl, _, rfl, j122v, _, rfl, j122, j123v, _, rfl, j123, _, rfl, j124v, _, rfl, j124, _, rfl, _, rfl, _, rfl, _, rfl, _, rfl, j125v, _, rfl, j125, j126v, _, rfl, j126, rfl⟩ := m129
        obtain rfl : ([(PV.int a_n), ((kL .fz (kL .fz (kO PV.int))) s72), j122v, j123v, ((kL .fz (kO PV.int)) x89), j124v, ((kL .ow PV.int) s90.1), ((kL .ow PV.int) s90.2.1), ((kL .ow PV.int) s90.2.2), ((kL .ow PV.int) v114), j99v, j125v, j126v] : List PV) = r128c := m129e
        refine x_set_tm j125 rfl ?_
        refine s_rho (ρ1 := ([(PV.int a_n), ((kL .fz (kL .fz (kO PV.int))) s72), j122v, j123v, ((kL .fz (kO PV.int)) x89), j124v, ((kL .ow PV.int) s90.1), ((kL .ow PV.int) s90.2.1), ((kL .ow PV.int) s90.2.2), ((kL .ow PV.int) v114), j99v, ((kL .ow PV.int) v127), j126v] : List PV)) rfl ?_
        refine s_assoc ?_
        refine s_sub ?_
        refine x_bin ?_
        refine x_bin ?_
        refine x_eq (e_N rfl) ?_
        refine x_mt ?_
        refine x_eq (e_N rfl) ?_
        refine x_mtL (e := (kO PV.int)) (xs := x89) (o := .fz) rfl ?_
        refine x_eq (e_cons e_C e_nil) ?_
        refine x_o (c := PV.int ((cntN x89 : Nat) : Int)) (count_LN (o := .fz) rfl rfl) ?_
        refine x_p (os_ix (e := PV.int) (xs := s90.1) rfl rfl) nx_ix fun v130 _ => ?_
        refine x_eq e_C ?_
        refine x_o rfl ?_
        refine x_eq (e_N rfl) ?_
        refine x_mt ?_
        refine x_eq (e_N rfl) ?_
        refine x_mtL (e := (kO PV.int)) (xs := x89) (o := .fz) rfl ?_
        refine x_eq (e_cons e_C e_nil) ?_
        refine x_o (c := PV.int ((cntN x89 : Nat) : Int)) (count_LN (o := .fz) rfl rfl) ?_
        refine x_sub (o := .ow) (e := PV.int) (xs := s90.1) (v := (v130 + (1 : Int))) (take_tm rfl) rfl (by decide) rfl fun v131 => ?_
        refine s_rho (ρ1 := ([(PV.int a_n), ((kL .fz (kL .fz (kO PV.int))) s72), j122v, j123v, ((kL .fz (kO PV.int)) x89), j124v, ((kL .ow PV.int) v131), ((kL .ow PV.int) s90.2.1), ((kL .ow PV.int) s90.2.2), ((kL .ow PV.int) v114), j99v, ((kL .ow PV.int) v127), j126v] : List PV)) rfl ?_
        refine s_assoc ?_
        refine s_sub ?_
        refine x_bin ?_
        refine x_bin ?_
        refine x_eq (e_N rfl) ?_
        refine x_eq (e_fn (e_cons (e_N rfl) e_nil) (len_L (e := PV.int) (xs := v127))) ?_
        refine x_p (os_ix (e := PV.int) (xs := s90.2.1) rfl rfl) nx_ix fun v132 _ => ?_
        refine x_eq e_C ?_
        refine x_o rfl ?_
        refine x_eq (e_N rfl) ?_
        refine x_eq (e_fn (e_cons (e_N rfl) e_nil) (len_L (e := PV.int) (xs := v127))) ?_
        refine x_sub (o := .ow) (e := PV.int) (xs := s90.2.1) (v := (v132 + (1 : Int))) (take_tm rfl) rfl (by decide) rfl fun v133 => ?_
        refine s_rho (ρ1 := ([(PV.int a_n), ((kL .fz (kL .fz (kO PV.int))) s72), j122v, j123v, ((kL .fz (kO PV.int)) x89), j124v, ((kL .ow PV.int) v131), ((kL .ow PV.int) v133), ((kL .ow PV.int) s90.2.2), ((kL .ow PV.int) v114), j99v, ((kL .ow PV.int) v127), j126v] : List PV)) rfl ?_
        refine s_for ?_
        refine x_iRg2 ?_
        refine x_acons ?_
        refine x_fn ?_
        refine x_eq (e_cons (e_N rfl) e_nil) ?_
        refine x_p (os_maxL (xs := v114) rfl) nx_maxL fun v134 _ => ?_
        refine x_acons ?_
        refine x_eq e_C ?_
        refine x_anil ?_
        refine x_rg2E rfl rfl ?_
        generalize rgI v134 (21 : Int) = v135
        refine x_fold (P := fun s137 : ((List Int)) => [.is (PV.int a_n), .is ((kL .fz (kL .fz (kO PV.int))) s72), .jk, .jk, .is ((kL .fz (kO PV.int)) x89), .jk, .is ((kL .ow PV.int) v131), .is ((kL .ow PV.int) v133), .is ((kL .ow PV.int) s137), .is ((kL .ow PV.int) v114), .jk, .is ((kL .ow PV.int) v127), .jk]) (e := PV.int) ⟨_, rfl, _, rfl, _, _, rfl, j122, _, _, rfl, j123, _, rfl, _, _, rfl, j124, _, rfl, _, rfl, _, rfl, _, rfl, _, _, rfl, j99, _, rfl, _, _, rfl, j126, rfl⟩ (fun s137 x136 r138 e140 m139 => ?_) fun s148 r149 m150 => ?_
        · obtain ⟨_, rfl, _, rfl, j141v, _, rfl, j141, j142v, _, rfl, j142, _, rfl, j143v, _, rfl, j143, _, rfl, _, rfl, _, rfl, _, rfl, j144v, _, rfl, j144, _, rfl, j145v, _, rfl, j145, rfl⟩ := m139
          refine x_tg (tg_N j145 rfl) ?_
          refine s_rho (ρ1 := ([(PV.int a_n), ((kL .fz (kL .fz (kO PV.int))) s72), j141v, j142v, ((kL .fz (kO PV.int)) x89), j143v, ((kL .ow PV.int) v131), ((kL .ow PV.int) v133), ((kL .ow PV.int) s137), ((kL .ow PV.int) v114), j144v, ((kL .ow PV.int) v127), (PV.int x136)] : List PV)) rfl ?_
          refine s_last ?_
          refine s_sub ?_
          refine x_bin ?_
          refine x_bin ?_
          refine x_eq (e_N rfl) ?_
          refine x_eq (e_N rfl) ?_
          refine x_p (os_ix (e := PV.int) (xs := s137) rfl rfl) nx_ix fun v146 _ => ?_
          refine x_eq e_C ?_
          refine x_o rfl ?_
          refine x_eq (e_N rfl) ?_
          refine x_eq (e_N rfl) ?_
          refine x_sub (o := .ow) (e := PV.int) (xs := s137) (v := (v146 + (1 : Int))) (take_tm rfl) rfl (by decide) rfl fun v147 => ?_
          exact x_done ⟨.inl rfl, ⟨_, rfl, _, rfl, _, _, rfl, j141, _, _, rfl, j142, _, rfl, _, _, rfl, j143, _, rfl, _, rfl, _, rfl, _, rfl, _, _, rfl, j144, _, rfl, _, _, rfl, rfl, rfl⟩⟩
        obtain ⟨_, rfl, _, rfl, j151v, _, rfl, j151, j152v, _, rfl, j152, _, rfl, j153v, _, rfl, j153, _, rfl, _, rfl, _, rfl, _, rfl, j154v, _, rfl, j154, _, rfl, j155v, _, rfl, j155, rfl⟩ := m150
        exact x_done ⟨rfl, ⟨_, rfl, _, rfl, _, _, rfl, j151, _, _, rfl, j152, _, rfl, _, _, rfl, j153, _, rfl, _, rfl, _, rfl, _, rfl, _, _, rfl, j154, _, _, rfl, rfl, _, _, rfl, j155, rfl⟩⟩
      refine s_nx ?_
      exact x_done ⟨rfl, ⟨_, rfl, _, rfl, _, _, rfl, j107, _, _, rfl, j108, _, rfl, _, _, rfl, j109, _, rfl, _, rfl, _, rfl, _, rfl, _, _, rfl, j99, _, _, rfl, j111, _, _, rfl, j112, rfl⟩⟩
    obtain ⟨_, rfl, _, rfl, j159v, _, rfl, j159, j160v, _, rfl, j160, _, rfl, j161v, _, rfl, j161, _, rfl, _, rfl, _, rfl, _, rfl, j162v, _, rfl, j162, j163v, _, rfl, j163, j164v, _, rfl, j164, rfl⟩ := m158
    exact x_done ⟨.inl rfl, ⟨_, rfl, _, rfl, _, _, rfl, j159, _, _, rfl, j160, _, _, rfl, rfl, _, _, rfl, j161, _, rfl, _, rfl, _, rfl, _, _, rfl, rfl, _, _, rfl, j162, _, _, rfl, j163, _, _, rfl, j164, rfl⟩⟩
  obtain ⟨_, rfl, _, rfl, j168v, _, rfl, j168, j169v, _, rfl, j169, j170v, _, rfl, j170, j171v, _, rfl, j171, _, rfl, _, rfl, _, rfl, j172v, _, rfl, j172, j173v, _, rfl, j173, j174v, _, rfl, j174, j175v, _, rfl, j175, rfl⟩ := m167
  refine s_ret ?_
  refine x_lst ?_
  refine x_eq (e_cons (e_N rfl) (e_cons (e_N rfl) (e_cons (e_N rfl) e_nil))) ?_
  refine x_lstE (.sl rfl (.sl rfl (.sl rfl .nil))) (Nat.le_of_ble_eq_true rfl) (c := ((kL .ow (kL .fz PV.int)) [s165.1, s165.2.1, s165.2.2])) rfl ?_
  exact fn_ret rfl
set_option maxHeartbeats 1000000 in
theorem sim_power (a_base : Int) (a_exponent : Int) : FS (F_power [(PV.int a_base), (PV.int a_exponent)]) (t_power a_base a_exponent) (fun b => PV.int b) (fun b => [(PV.int a_base), (PV.int a_exponent)]) (fun fn => fn = [(PV.int a_base), (PV.int a_exponent)]) := by
  refine fs_run (E := fun r => True) (rq := (fun (b : Int) w r => w = PV.int b)) (ρ0 := [(PV.int a_base), (PV.int a_exponent), .emp, .emp]) rfl (ar_fz (FzV.of PV.int a_base) (ar_fz (FzV.of PV.int a_exponent) ar_nil)) rfl ?_ (fun b w r h => ⟨h, (ex_fz (FzV.of PV.int a_base) (ex_fz (FzV.of PV.int a_exponent) ex_nil))⟩) (fun r h => ⟨_, (ex_fz (FzV.of PV.int a_base) (ex_fz (FzV.of PV.int a_exponent) ex_nil)), rfl⟩)
  unfold t_power
  refine s_last ?_
  refine s_assoc ?_
  refine s_set ?_
  refine x_eq e_C ?_
  refine x_set_tm rfl rfl ?_
  refine s_rho (ρ1 := ([(PV.int a_base), (PV.int a_exponent), (PV.int (1 : Int)), .emp] : List PV)) rfl ?_
  refine s_assoc ?_
  refine s_for ?_
  refine x_iRg1 ?_
  refine x_eq (e_cons (e_N rfl) e_nil) ?_
  refine x_rg1E rfl ?_
  generalize rgI 0 a_exponent = v1
  refine x_fold (P := fun s3 : (Int) => [.is (PV.int a_base), .is (PV.int a_exponent), .is (PV.int s3), .jk]) (e := PV.int) ⟨_, rfl, _, rfl, _, rfl, _, _, rfl, rfl, rfl⟩ (fun s3 x2 r4 e6 m5 => ?_) fun s9 r10 m11 => ?_
  · obtain ⟨_, rfl, _, rfl, _, rfl, j7v, _, rfl, j7, rfl⟩ := m5
    refine x_tg (tg_N j7 rfl) ?_
    refine s_rho (ρ1 := ([(PV.int a_base), (PV.int a_exponent), (PV.int s3), (PV.int x2)] : List PV)) rfl ?_
    refine s_last ?_
    refine s_set ?_
    refine x_bin ?_
    refine x_eq (e_N rfl) ?_
    refine x_eq (e_N rfl) ?_
    refine x_p (os_mul rfl rfl) nx_mul fun v8 _ => ?_
    refine x_set_tm rfl rfl ?_
    exact x_done ⟨.inl rfl, ⟨_, rfl, _, rfl, _, rfl, _, _, rfl, rfl, rfl⟩⟩
  obtain ⟨_, rfl, _, rfl, _, rfl, j12v, _, rfl, j12, rfl⟩ := m11
  refine s_ret ?_
  refine x_eq (e_N rfl) ?_
  refine ret_sl (a := (PV.int s9)) rfl rfl ?_
  exact fn_ret rfl
set_option maxHeartbeats 1000000 in
theorem sim_count_by_roots (a_fields : Int) (a_roots : Int) : FS (F_count_by_roots [(PV.int a_fields), (PV.int a_roots)]) (t_count_by_roots a_fields a_roots) (fun b => PV.int b) (fun b => [(PV.int a_fields), (PV.int a_roots)]) (fun fn => fn = [(PV.int a_fields), (PV.int a_roots)]) := by
  refine fs_run (E := fun r => True) (rq := (fun (b : Int) w r => w = PV.int b)) (ρ0 := [(PV.int a_fields), (PV.int a_roots)]) rfl (ar_fz (FzV.of PV.int a_fields) (ar_fz (FzV.of PV.int a_roots) ar_nil)) rfl ?_ (fun b w r h => ⟨h, (ex_fz (FzV.of PV.int a_fields) (ex_fz (FzV.of PV.int a_roots) ex_nil))⟩) (fun r h => ⟨_, (ex_fz (FzV.of PV.int a_fields) (ex_fz (FzV.of PV.int a_roots) ex_nil)), rfl⟩)
  unfold t_count_by_roots
  refine s_last ?_
  refine s_assoc ?_
  refine s_if ?_
  refine x_eq (t_or (t_tB (e_bin (e_N rfl) e_C rfl) rfl) (t_tB (e_bin (e_N rfl) (e_N rfl) rfl) rfl)) ?_
  refine x_ite ?_ ?_
  · refine s_ret ?_
    refine x_eq e_C ?_
    exact fn_ret rfl
  refine s_nx ?_
  refine s_ret ?_
  refine x_bin ?_
  refine x_fn ?_
  refine x_eq (e_cons (e_bin (e_N rfl) e_C rfl) (e_cons (e_bin (e_N rfl) e_C rfl) e_nil)) ?_
  refine x_p (os_comb rfl rfl) nx_comb fun v1 _ => ?_
  refine x_call ?_
  refine x_eq (e_cons (e_N rfl) (e_cons (e_bin (e_N rfl) (e_N rfl) rfl) e_nil)) ?_
  refine x_callR (ok_fz (FzV.of PV.int a_fields) rfl (ok_tm ok_nil)) (sim_power a_fields (a_fields - a_roots)) (bk_fz (FzV.of PV.int a_fields) rfl (bk_tm bk_nil)) trivial fun v2 => ?_
  refine x_p (os_mul rfl rfl) nx_mul fun v3 _ => ?_
  exact fn_ret rfl
set_option maxHeartbeats 1000000 in
theorem sim_count_by_leaves (a_fields : Int) (a_leaves : Int) : FS (F_count_by_leaves [(PV.int a_fields), (PV.int a_leaves)]) (t_count_by_leaves a_fields a_leaves) (fun b => PV.int b) (fun b => [(PV.int a_fields), (PV.int a_leaves)]) (fun fn => fn = [(PV.int a_fields), (PV.int a_leaves)]) := by
  refine fs_run (E := fun r => True) (rq := (fun (b : Int) w r => w = PV.int b)) (ρ0 := [(PV.int a_fields), (PV.int a_leaves), .emp, .emp, .emp, .emp]) rfl (ar_fz (FzV.of PV.int a_fields) (ar_fz (FzV.of PV.int a_leaves) ar_nil)) rfl ?_ (fun b w r h => ⟨h, (ex_fz (FzV.of PV.int a_fields) (ex_fz (FzV.of PV.int a_leaves) ex_nil))⟩) (fun r h => ⟨_, (ex_fz (FzV.of PV.int a_fields) (ex_fz (FzV.of PV.int a_leaves) ex_nil)), rfl⟩)
  unfold t_count_by_leaves
  refine s_last ?_
  refine s_assoc ?_
  refine s_set ?_
  refine x_fz0 ?_
  refine x_bin ?_
  refine x_eq (e_lst (e_cons e_C e_nil) (.tm rfl .nil) (Nat.le_of_ble_eq_true rfl) (c := ((kL .ow PV.int) [(1 : Int)])) rfl) ?_
  refine x_bin ?_
  refine x_eq (e_lst (e_cons e_C e_nil) (.tm rfl .nil) (Nat.le_of_ble_eq_true rfl) (c := ((kL .ow PV.int) [(0 : Int)])) rfl) ?_
  refine x_eq (e_N rfl) ?_
  refine x_p (os_rep (e := PV.int) (xs := [(0 : Int)]) rfl rfl) nx_rep fun v1 _ => ?_
  refine x_p (os_catL (e := PV.int) (xs := [(1 : Int)]) (ys := v1) rfl rfl) nx_cat fun v2 _ => ?_
  refine x_fz1 (a := ((kL .fz PV.int) v2)) (ρ2 := ([(PV.int a_fields), (PV.int a_leaves), .emp, .emp, .emp, .emp] : List PV)) rfl ?_
  refine x_set_tm rfl rfl ?_
  refine s_rho (ρ1 := ([(PV.int a_fields), (PV.int a_leaves), ((kL .fz PV.int) v2), .emp, .emp, .emp] : List PV)) rfl ?_
  refine s_assoc ?_
  refine s_for ?_
  refine x_iRg1 ?_
  refine x_eq (e_cons (e_bin (e_N rfl) e_C rfl) e_nil) ?_
  refine x_rg1E rfl ?_
  generalize rgI 0 (a_fields - (1 : Int)) = v3
  refine x_fold (P := fun s5 : ((List Int)) => [.is (PV.int a_fields), .is (PV.int a_leaves), .is ((kL .fz PV.int) s5), .jk, .jk, .jk]) (e := PV.int) ⟨_, rfl, _, rfl, _, rfl, _, _, rfl, rfl, _, _, rfl, rfl, _, _, rfl, rfl, rfl⟩ (fun s5 x4 r6 e8 m7 => ?_) fun s29 r30 m31 => ?_
  · obtain ⟨_, rfl, _, rfl, _, rfl, j9v, _, rfl, j9, j10v, _, rfl, j10, j11v, _, rfl, j11, rfl⟩ := m7
    refine x_tg (tg_N j9 rfl) ?_
    refine s_rho (ρ1 := ([(PV.int a_fields), (PV.int a_leaves), ((kL .fz PV.int) s5), (PV.int x4), j10v, j11v] : List PV)) rfl ?_
    refine s_last ?_
    refine s_assoc ?_
    refine s_set ?_
    refine x_lst ?_
    refine x_acons ?_
    refine x_bin ?_
    refine x_eq (e_N rfl) ?_
    refine x_eq e_C ?_
    refine x_p (os_ix (e := PV.int) (xs := s5) rfl rfl) nx_ix fun v12 _ => ?_
    refine x_anil ?_
    refine x_lstE (.tm rfl .nil) (Nat.le_of_ble_eq_true rfl) (c := ((kL .ow PV.int) [v12])) rfl ?_
    refine x_set_tm j10 rfl ?_
    refine s_rho (ρ1 := ([(PV.int a_fields), (PV.int a_leaves), ((kL .fz PV.int) s5), (PV.int x4), ((kL .ow PV.int) [v12]), j11v] : List PV)) rfl ?_
    refine s_assoc ?_
    refine s_for ?_
    refine x_iRg2 ?_
    refine x_eq (e_cons e_C (e_cons (e_bin (e_N rfl) e_C rfl) e_nil)) ?_
    refine x_rg2E rfl rfl ?_
    generalize rgI (1 : Int) (a_fields + (1 : Int)) = v13
    refine x_fold (P := fun s15 : ((List Int)) => [.is (PV.int a_fields), .is (PV.int a_leaves), .is ((kL .fz PV.int) s5), .is (PV.int x4), .is ((kL .ow PV.int) s15), .jk]) (e := PV.int) ⟨_, rfl, _, rfl, _, rfl, _, rfl, _, rfl, _, _, rfl, j11, rfl⟩ (fun s15 x14 r16 e18 m17 => ?_) fun s25 r26 m27 => ?_
    · obtain ⟨_, rfl, _, rfl, _, rfl, _, rfl, _, rfl, j19v, _, rfl, j19, rfl⟩ := m17
      refine x_tg (tg_N j19 rfl) ?_
      refine s_rho (ρ1 := ([(PV.int a_fields), (PV.int a_leaves), ((kL .fz PV.int) s5), (PV.int x4), ((kL .ow PV.int) s15), (PV.int x14)] : List PV)) rfl ?_
      refine s_last ?_
      refine s_E ?_
      refine x_mu ?_
      refine x_eq (e_N rfl) ?_
      refine x_muL (e := PV.int) (xs := s15) rfl ?_
      refine x_acons ?_
      refine x_bin ?_
      refine x_bin ?_
      refine x_bin ?_
      refine x_eq (e_N rfl) ?_
      refine x_eq (e_N rfl) ?_
      refine x_p (os_ix (e := PV.int) (xs := s5) rfl rfl) nx_ix fun v20 _ => ?_
      refine x_eq (e_bin (e_N rfl) e_C rfl) ?_
      refine x_p (os_mul rfl rfl) nx_mul fun v21 _ => ?_
      refine x_bin ?_
      refine x_bin ?_
      refine x_eq (e_N rfl) ?_
      refine x_eq (e_bin (e_N rfl) e_C rfl) ?_
      refine x_p (os_ix (e := PV.int) (xs := s5) rfl rfl) nx_ix fun v22 _ => ?_
      refine x_eq (e_bin (e_bin (e_N rfl) (e_N rfl) rfl) e_C rfl) ?_
      refine x_p (os_mul rfl rfl) nx_mul fun v23 _ => ?_
      refine x_o rfl ?_
      refine x_anil ?_
      refine x_app (o := .ow) (e := PV.int) (xs := s15) (v := (v21 + v23)) (.tm rfl .nil) rfl (by decide) fun v24 => ?_
      exact x_done ⟨.inl rfl, ⟨_, rfl, _, rfl, _, rfl, _, rfl, _, rfl, _, _, rfl, rfl, rfl⟩⟩
    obtain ⟨_, rfl, _, rfl, _, rfl, _, rfl, _, rfl, j28v, _, rfl, j28, rfl⟩ := m27
    refine s_set ?_
    refine x_fz0 ?_
    refine x_eq (e_N rfl) ?_
    refine x_fz1 (a := ((kL .fz PV.int) s25)) (ρ2 := ([(PV.int a_fields), (PV.int a_leaves), ((kL .fz PV.int) s5), (PV.int x4), ((kL .fz PV.int) s25), j28v] : List PV)) rfl ?_
    refine x_set_tm rfl rfl ?_
    exact x_done ⟨.inl rfl, ⟨_, rfl, _, rfl, _, rfl, _, _, rfl, rfl, _, _, rfl, rfl, _, _, rfl, j28, rfl⟩⟩
  obtain ⟨_, rfl, _, rfl, _, rfl, j32v, _, rfl, j32, j33v, _, rfl, j33, j34v, _, rfl, j34, rfl⟩ := m31
  refine s_assoc ?_
  refine s_if ?_
  refine x_eq (t_or (t_tB (e_bin (e_N rfl) e_C rfl) rfl) (t_tB (e_bin (e_N rfl) (e_N rfl) rfl) rfl)) ?_
  refine x_ite ?_ ?_
  · refine s_ret ?_
    refine x_eq e_C ?_
    exact fn_ret rfl
  refine s_nx ?_
  refine s_ret ?_
  refine x_bin ?_
  refine x_eq (e_N rfl) ?_
  refine x_eq (e_bin (e_N rfl) (e_N rfl) rfl) ?_
  refine x_p (os_ix (e := PV.int) (xs := s29) rfl rfl) nx_ix fun v35 _ => ?_
  exact fn_ret rfl
set_option maxHeartbeats 1000000 in
theorem sim_one_higher (a_shapes : (List Int)) (o0 : Fl) : FS (F_one_higher [((kL o0 PV.int) a_shapes)]) (t_one_higher a_shapes) (fun b => (kL .ow PV.int) b) (fun b => [exitR ((kL o0 PV.int) a_shapes)]) (fun fn => fn = [exitR ((kL o0 PV.int) a_shapes)]) := by
  refine fs_run (E := fun r => nth r 0 = (kL (ioF o0) PV.int) a_shapes) (rq := (fun (b : (List Int)) w r => w = (kL .ow PV.int) b ∧ nth r 0 = (kL (ioF o0) PV.int) a_shapes)) (ρ0 := [((kL (ioF o0) PV.int) a_shapes), .emp, .emp, .emp, .emp, .emp]) rfl (ar_of (fun o => (kL o PV.int)) ar_nil) rfl ?_ (fun b w r h => ⟨h.1, (ex_ro (fun _ => h.2.trans (toIo_of (fun o => (kL o PV.int))).symm) (ne_of (fun o => (kL o PV.int))) ex_nil)⟩) (fun r h => ⟨_, (ex_ro (fun _ => h.trans (toIo_of (fun o => (kL o PV.int))).symm) (ne_of (fun o => (kL o PV.int))) ex_nil), rfl⟩)
  unfold t_one_higher
  refine s_last ?_
  refine s_assoc ?_
  refine s_set ?_
  refine x_eq (e_lst (e_cons e_C e_nil) (.tm rfl .nil) (Nat.le_of_ble_eq_true rfl) (c := ((kL .ow PV.int) [(1 : Int)])) rfl) ?_
  refine x_set_tm rfl rfl ?_
  refine s_rho (ρ1 := ([((kL (ioF o0) PV.int) a_shapes), ((kL .ow PV.int) [(1 : Int)]), .emp, .emp, .emp, .emp] : List PV)) rfl ?_
  refine s_assoc ?_
  refine s_for ?_
  refine x_iRg2 ?_
  refine x_eq (e_cons e_C (e_cons (e_fn (e_cons (e_N rfl) e_nil) (len_L (e := PV.int) (xs := a_shapes))) e_nil)) ?_
  refine x_rg2E rfl rfl ?_
  generalize rgI (1 : Int) (a_shapes.length : Int) = v1
  refine x_fold (P := fun s3 : ((List Int)) => [.is ((kL (ioF o0) PV.int) a_shapes), .is ((kL .ow PV.int) s3), .jk, .jk, .jk, .jk]) (e := PV.int) ⟨_, rfl, _, rfl, _, _, rfl, rfl, _, _, rfl, rfl, _, _, rfl, rfl, _, _, rfl, rfl, rfl⟩ (fun s3 x2 r4 e6 m5 => ?_) fun s31 r32 m33 => ?_
  · obtain ⟨_, rfl, _, rfl, j7v, _, rfl, j7, j8v, _, rfl, j8, j9v, _, rfl, j9, j10v, _, rfl, j10, rfl⟩ := m5
    refine x_tg (tg_N j7 rfl) ?_
    refine s_rho (ρ1 := ([((kL (ioF o0) PV.int) a_shapes), ((kL .ow PV.int) s3), (PV.int x2), j8v, j9v, j10v] : List PV)) rfl ?_
    refine s_last ?_
    refine s_assoc ?_
    refine s_set ?_
    refine x_eq e_C ?_
    refine x_set_tm j8 rfl ?_
    refine s_rho (ρ1 := ([((kL (ioF o0) PV.int) a_shapes), ((kL .ow PV.int) s3), (PV.int x2), (PV.int (0 : Int)), j9v, j10v] : List PV)) rfl ?_
    refine s_assoc ?_
    refine s_for ?_
    refine x_iRg2 ?_
    refine x_eq (e_cons e_C (e_cons (e_bin (e_N rfl) e_C rfl) e_nil)) ?_
    refine x_rg2E rfl rfl ?_
    generalize rgI (1 : Int) (x2 + (1 : Int)) = v11
    refine x_fold (P := fun s13 : (Int) => [.is ((kL (ioF o0) PV.int) a_shapes), .is ((kL .ow PV.int) s3), .is (PV.int x2), .is (PV.int s13), .jk, .jk]) (e := PV.int) ⟨_, rfl, _, rfl, _, rfl, _, rfl, _, _, rfl, j9, _, _, rfl, j10, rfl⟩ (fun s13 x12 r14 e16 m15 => ?_) fun s25 r26 m27 => ?_
    · obtain ⟨_, rfl, _, rfl, _, rfl, _, rfl, j17v, _, rfl, j17, j18v, _, rfl, j18, rfl⟩ := m15
      refine x_tg (tg_N j17 rfl) ?_
      refine s_rho (ρ1 := ([((kL (ioF o0) PV.int) a_shapes), ((kL .ow PV.int) s3), (PV.int x2), (PV.int s13), (PV.int x12), j18v] : List PV)) rfl ?_
      refine s_last ?_
      refine s_assoc ?_
      refine s_set ?_
      refine x_bin ?_
      refine x_bin ?_
      refine x_fn ?_
      refine x_eq (e_cons (e_bin (e_N rfl) e_C rfl) (e_cons (e_bin (e_N rfl) e_C rfl) e_nil)) ?_
      refine x_p (os_comb rfl rfl) nx_comb fun v19 _ => ?_
      refine x_eq (e_N rfl) ?_
      refine x_p (os_mul rfl rfl) nx_mul fun v20 _ => ?_
      refine x_bin ?_
      refine x_eq (e_N rfl) ?_
      refine x_eq (e_bin (e_N rfl) e_C rfl) ?_
      refine x_p (os_ix (e := PV.int) (xs := a_shapes) rfl rfl) nx_ix fun v21 _ => ?_
      refine x_p (os_mul rfl rfl) nx_mul fun v22 _ => ?_
      refine x_set_tm j18 rfl ?_
      refine s_rho (ρ1 := ([((kL (ioF o0) PV.int) a_shapes), ((kL .ow PV.int) s3), (PV.int x2), (PV.int s13), (PV.int x12), (PV.int v22)] : List PV)) rfl ?_
      refine s_set ?_
      refine x_bin ?_
      refine x_eq (e_N rfl) ?_
      refine x_bin ?_
      refine x_eq (e_N rfl) ?_
      refine x_bin ?_
      refine x_eq (e_N rfl) ?_
      refine x_eq (e_bin (e_N rfl) (e_N rfl) rfl) ?_
      refine x_p (os_ix (e := PV.int) (xs := s3) rfl rfl) nx_ix fun v23 _ => ?_
      refine x_p (os_mul rfl rfl) nx_mul fun v24 _ => ?_
      refine x_o rfl ?_
      refine x_set_tm rfl rfl ?_
      exact x_done ⟨.inl rfl, ⟨_, rfl, _, rfl, _, rfl, _, rfl, _, _, rfl, rfl, _, _, rfl, rfl, rfl⟩⟩
    obtain ⟨_, rfl, _, rfl, _, rfl, _, rfl, j28v, _, rfl, j28, j29v, _, rfl, j29, rfl⟩ := m27
    refine s_E ?_
    refine x_mu ?_
    refine x_eq (e_N rfl) ?_
    refine x_muL (e := PV.int) (xs := s3) rfl ?_
    refine x_eq (e_cons (e_N rfl) e_nil) ?_
    refine x_app (o := .ow) (e := PV.int) (xs := s3) (v := s25) (.fz (FzV.of PV.int s25) rfl .nil) rfl (by decide) fun v30 => ?_
    exact x_done ⟨.inl rfl, ⟨_, rfl, _, rfl, _, _, rfl, rfl, _, _, rfl, rfl, _, _, rfl, j28, _, _, rfl, j29, rfl⟩⟩
  obtain ⟨_, rfl, _, rfl, j34v, _, rfl, j34, j35v, _, rfl, j35, j36v, _, rfl, j36, j37v, _, rfl, j37, rfl⟩ := m33
  refine s_ret ?_
  refine x_eq (e_N rfl) ?_
  refine ret_sl (a := ((kL .ow PV.int) s31)) rfl rfl ?_
  exact fn_ret ⟨rfl, rfl⟩
set_option maxHeartbeats 1000000 in
theorem sim_count_low (a_fields : Int) (a_height : Int) : FS (F_count_low [(PV.int a_fields), (PV.int a_height)]) (t_count_low a_fields a_height) (fun b => PV.int b) (fun b => [(PV.int a_fields), (PV.int a_height)]) (fun fn => fn = [(PV.int a_fields), (PV.int a_height)]) := by
  refine fs_run (E := fun r => True) (rq := (fun (b : Int) w r => w = PV.int b)) (ρ0 := [(PV.int a_fields), (PV.int a_height), .emp, .emp]) rfl (ar_fz (FzV.of PV.int a_fields) (ar_fz (FzV.of PV.int a_height) ar_nil)) rfl ?_ (fun b w r h => ⟨h, (ex_fz (FzV.of PV.int a_fields) (ex_fz (FzV.of PV.int a_height) ex_nil))⟩) (fun r h => ⟨_, (ex_fz (FzV.of PV.int a_fields) (ex_fz (FzV.of PV.int a_height) ex_nil)), rfl⟩)
  unfold t_count_low
  refine s_last ?_
  refine s_assoc ?_
  refine s_set ?_
  refine x_fz0 ?_
  refine x_bin ?_
  refine x_eq (e_lst (e_cons e_C e_nil) (.tm rfl .nil) (Nat.le_of_ble_eq_true rfl) (c := ((kL .ow PV.int) [(1 : Int)])) rfl) ?_
  refine x_bin ?_
  refine x_eq (e_lst (e_cons e_C e_nil) (.tm rfl .nil) (Nat.le_of_ble_eq_true rfl) (c := ((kL .ow PV.int) [(0 : Int)])) rfl) ?_
  refine x_eq (e_N rfl) ?_
  refine x_p (os_rep (e := PV.int) (xs := [(0 : Int)]) rfl rfl) nx_rep fun v1 _ => ?_
  refine x_p (os_catL (e := PV.int) (xs := [(1 : Int)]) (ys := v1) rfl rfl) nx_cat fun v2 _ => ?_
  refine x_fz1 (a := ((kL .fz PV.int) v2)) (ρ2 := ([(PV.int a_fields), (PV.int a_height), .emp, .emp] : List PV)) rfl ?_
  refine x_set_tm rfl rfl ?_
  refine s_rho (ρ1 := ([(PV.int a_fields), (PV.int a_height), ((kL .fz PV.int) v2), .emp] : List PV)) rfl ?_
  refine s_assoc ?_
  refine s_for ?_
  refine x_iRg1 ?_
  refine x_eq (e_cons (e_N rfl) e_nil) ?_
  refine x_rg1E rfl ?_
  generalize rgI 0 a_height = v3
  refine x_fold (P := fun s5 : ((List Int)) => [.is (PV.int a_fields), .is (PV.int a_height), .is ((kL .fz PV.int) s5), .jk]) (e := PV.int) ⟨_, rfl, _, rfl, _, rfl, _, _, rfl, rfl, rfl⟩ (fun s5 x4 r6 e8 m7 => ?_) fun s11 r12 m13 => ?_
  · obtain ⟨_, rfl, _, rfl, _, rfl, j9v, _, rfl, j9, rfl⟩ := m7
    refine x_tg (tg_N j9 rfl) ?_
    refine s_rho (ρ1 := ([(PV.int a_fields), (PV.int a_height), ((kL .fz PV.int) s5), (PV.int x4)] : List PV)) rfl ?_
    refine s_last ?_
    refine s_set ?_
    refine x_fz0 ?_
    refine x_call ?_
    refine x_eq (e_cons (e_N rfl) e_nil) ?_
    refine x_callR (ok_fz (FzV.of (kL .fz PV.int) s5) rfl ok_nil) (sim_one_higher s5 .fz) (bk_fz (FzV.of (kL .fz PV.int) s5) rfl bk_nil) trivial fun v10 => ?_
    refine x_fz1 (a := ((kL .fz PV.int) v10)) (ρ2 := ([(PV.int a_fields), (PV.int a_height), ((kL .fz PV.int) s5), (PV.int x4)] : List PV)) rfl ?_
    refine x_set_tm rfl rfl ?_
    exact x_done ⟨.inl rfl, ⟨_, rfl, _, rfl, _, rfl, _, _, rfl, rfl, rfl⟩⟩
  obtain ⟨_, rfl, _, rfl, _, rfl, j14v, _, rfl, j14, rfl⟩ := m13
  refine s_ret ?_
  refine x_bin ?_
  refine x_eq (e_N rfl) ?_
  refine x_eq (e_N rfl) ?_
  refine x_p (os_ix (e := PV.int) (xs := s11) rfl rfl) nx_ix fun v15 _ => ?_
  exact fn_ret rfl
set_option maxHeartbeats 1000000 in
theorem sim_count_shapes (a_fields : Int) : FS (F_count_shapes [(PV.int a_fields)]) (t_count_shapes a_fields) (fun b => PV.int b) (fun b => [(PV.int a_fields)]) (fun fn => fn = [(PV.int a_fields)]) := by
  refine fs_run (E := fun r => True) (rq := (fun (b : Int) w r => w = PV.int b)) (ρ0 := [(PV.int a_fields)]) rfl (ar_fz (FzV.of PV.int a_fields) ar_nil) rfl ?_ (fun b w r h => ⟨h, (ex_fz (FzV.of PV.int a_fields) ex_nil)⟩) (fun r h => ⟨_, (ex_fz (FzV.of PV.int a_fields) ex_nil), rfl⟩)
  unfold t_count_shapes
  refine s_last ?_
  refine s_ret ?_
  refine x_call ?_
  refine x_eq (e_cons (e_bin (e_N rfl) e_C rfl) (e_cons (e_bin (e_N rfl) e_C rfl) e_nil)) ?_
  refine x_callR (ok_tm (ok_tm ok_nil)) (sim_power (a_fields + (1 : Int)) (a_fields - (1 : Int))) (bk_tm (bk_tm bk_nil)) trivial fun v1 => ?_
  exact fn_ret rfl
set_option maxHeartbeats 1000000 in
theorem sim_count_fair (a_fields : Int) : FS (F_count_fair [(PV.int a_fields)]) (t_count_fair a_fields) (fun b => PV.int b) (fun b => [(PV.int a_fields)]) (fun fn => fn = [(PV.int a_fields)]) := by
  refine fs_run (E := fun r => True) (rq := (fun (b : Int) w r => w = PV.int b)) (ρ0 := [(PV.int a_fields)]) rfl (ar_fz (FzV.of PV.int a_fields) ar_nil) rfl ?_ (fun b w r h => ⟨h, (ex_fz (FzV.of PV.int a_fields) ex_nil)⟩) (fun r h => ⟨_, (ex_fz (FzV.of PV.int a_fields) ex_nil), rfl⟩)
  unfold t_count_fair
  refine s_last ?_
  refine s_ret ?_
  refine x_bin ?_
  refine x_call ?_
  refine x_eq (e_cons (e_N rfl) e_nil) ?_
  refine x_callR (ok_fz (FzV.of PV.int a_fields) rfl ok_nil) (sim_count_shapes a_fields) (bk_fz (FzV.of PV.int a_fields) rfl bk_nil) trivial fun v1 => ?_
  refine x_bin ?_
  refine x_eq e_C ?_
  refine x_eq (e_N rfl) ?_
  refine x_p (os_shl rfl rfl) nx_shl fun v2 _ => ?_
  refine x_p (os_mul rfl rfl) nx_mul fun v3 _ => ?_
  exact fn_ret rfl
set_option maxHeartbeats 1000000 in
theorem sim_count_forests (a_fields : Int) : FS (F_count_forests [(PV.int a_fields)]) (t_count_forests a_fields) (fun b => PV.int b) (fun b => [(PV.int a_fields)]) (fun fn => fn = [(PV.int a_fields)]) := by
  refine fs_run (E := fun r => True) (rq := (fun (b : Int) w r => w = PV.int b)) (ρ0 := [(PV.int a_fields), .emp, .emp]) rfl (ar_fz (FzV.of PV.int a_fields) ar_nil) rfl ?_ (fun b w r h => ⟨h, (ex_fz (FzV.of PV.int a_fields) ex_nil)⟩) (fun r h => ⟨_, (ex_fz (FzV.of PV.int a_fields) ex_nil), rfl⟩)
  unfold t_count_forests
  refine s_last ?_
  refine s_assoc ?_
  refine s_set ?_
  refine x_eq e_C ?_
  refine x_set_tm rfl rfl ?_
  refine s_rho (ρ1 := ([(PV.int a_fields), (PV.int (0 : Int)), .emp] : List PV)) rfl ?_
  refine s_assoc ?_
  refine s_for ?_
  refine x_iRg1 ?_
  refine x_eq (e_cons (e_bin (e_N rfl) e_C rfl) e_nil) ?_
  refine x_rg1E rfl ?_
  generalize rgI 0 (a_fields + (1 : Int)) = v1
  refine x_fold (P := fun s3 : (Int) => [.is (PV.int a_fields), .is (PV.int s3), .jk]) (e := PV.int) ⟨_, rfl, _, rfl, _, _, rfl, rfl, rfl⟩ (fun s3 x2 r4 e6 m5 => ?_) fun s11 r12 m13 => ?_
  · obtain ⟨_, rfl, _, rfl, j7v, _, rfl, j7, rfl⟩ := m5
    refine x_tg (tg_N j7 rfl) ?_
    refine s_rho (ρ1 := ([(PV.int a_fields), (PV.int s3), (PV.int x2)] : List PV)) rfl ?_
    refine s_last ?_
    refine s_set ?_
    refine x_bin ?_
    refine x_eq (e_N rfl) ?_
    refine x_bin ?_
    refine x_call ?_
    refine x_eq (e_cons (e_N rfl) (e_cons (e_N rfl) e_nil)) ?_
    refine x_callR (ok_fz (FzV.of PV.int a_fields) rfl (ok_fz (FzV.of PV.int x2) rfl ok_nil)) (sim_count_by_leaves a_fields x2) (bk_fz (FzV.of PV.int a_fields) rfl (bk_fz (FzV.of PV.int x2) rfl bk_nil)) trivial fun v8 => ?_
    refine x_bin ?_
    refine x_eq e_C ?_
    refine x_eq (e_bin (e_N rfl) (e_N rfl) rfl) ?_
    refine x_p (os_shl rfl rfl) nx_shl fun v9 _ => ?_
    refine x_p (os_mul rfl rfl) nx_mul fun v10 _ => ?_
    refine x_o rfl ?_
    refine x_set_tm rfl rfl ?_
    exact x_done ⟨.inl rfl, ⟨_, rfl, _, rfl, _, _, rfl, rfl, rfl⟩⟩
  obtain ⟨_, rfl, _, rfl, j14v, _, rfl, j14, rfl⟩ := m13
  refine s_ret ?_
  refine x_eq (e_N rfl) ?_
  refine ret_sl (a := (PV.int s11)) rfl rfl ?_
  exact fn_ret rfl
set_option maxHeartbeats 1000000 in
theorem sim__law_agree (a_n : Int) (a_seconds : (List Int)) (a_due : (List (List Int))) (o1 : Fl) (o2 : Fl) : FS (F__law_agree [(PV.int a_n), ((kL o1 PV.int) a_seconds), ((kL o2 (kL .fz PV.int)) a_due)]) (t__law_agree a_n a_seconds a_due) (fun b => PV.bl b) (fun b => [(PV.int a_n), exitR ((kL o1 PV.int) a_seconds), exitR ((kL o2 (kL .fz PV.int)) a_due)]) (fun fn => fn = [(PV.int a_n), exitR ((kL o1 PV.int) a_seconds), exitR ((kL o2 (kL .fz PV.int)) a_due)]) := by
  refine fs_run (E := fun r => nth r 1 = (kL (ioF o1) PV.int) a_seconds ∧ nth r 2 = (kL (ioF o2) (kL .fz PV.int)) a_due) (rq := (fun (b : Bool) w r => w = PV.bl b ∧ nth r 1 = (kL (ioF o1) PV.int) a_seconds ∧ nth r 2 = (kL (ioF o2) (kL .fz PV.int)) a_due)) (ρ0 := [(PV.int a_n), ((kL (ioF o1) PV.int) a_seconds), ((kL (ioF o2) (kL .fz PV.int)) a_due), .emp, .emp, .emp, .emp, .emp, .emp, .emp, .emp]) rfl (ar_fz (FzV.of PV.int a_n) (ar_of (fun o => (kL o PV.int)) (ar_of (fun o => (kL o (kL .fz PV.int))) ar_nil))) rfl ?_ (fun b w r h => ⟨h.1, (ex_fz (FzV.of PV.int a_n) (ex_ro (fun _ => h.2.1.trans (toIo_of (fun o => (kL o PV.int))).symm) (ne_of (fun o => (kL o PV.int))) (ex_ro (fun _ => h.2.2.trans (toIo_of (fun o => (kL o (kL .fz PV.int)))).symm) (ne_of (fun o => (kL o (kL .fz PV.int)))) ex_nil)))⟩) (fun r h => ⟨_, (ex_fz (FzV.of PV.int a_n) (ex_ro (fun _ => h.1.trans (toIo_of (fun o => (kL o PV.int))).symm) (ne_of (fun o => (kL o PV.int))) (ex_ro (fun _ => h.2.trans (toIo_of (fun o => (kL o (kL .fz PV.int)))).symm) (ne_of (fun o => (kL o (kL .fz PV.int)))) ex_nil))), rfl⟩)
  unfold t__law_agree
  refine s_last ?_
  refine s_assoc ?_
  refine forN_for (P := fun s2 : Unit => [.is (PV.int a_n), .is ((kL (ioF o1) PV.int) a_seconds), .is ((kL (ioF o2) (kL .fz PV.int)) a_due), .jk, .jk, .jk, .jk, .jk, .jk, .jk, .jk]) (e := PV.int) (rq := (fun (b : Bool) w r => w = PV.bl b ∧ nth r 1 = (kL (ioF o1) PV.int) a_seconds ∧ nth r 2 = (kL (ioF o2) (kL .fz PV.int)) a_due)) (ioF_or o1) rfl (fun s2 r3 m4 => by obtain ⟨_, rfl, _, rfl, _, rfl, j6v, _, rfl, j6, j7v, _, rfl, j7, j8v, _, rfl, j8, j9v, _, rfl, j9, j10v, _, rfl, j10, j11v, _, rfl, j11, j12v, _, rfl, j12, j13v, _, rfl, j13, rfl⟩ := m4; rfl) ⟨_, rfl, _, rfl, _, rfl, _, _, rfl, rfl, _, _, rfl, rfl, _, _, rfl, rfl, _, _, rfl, rfl, _, _, rfl, rfl, _, _, rfl, rfl, _, _, rfl, rfl, _, _, rfl, rfl, rfl⟩ (fun s2 x1 r3 e5 m4 => ?_) (fun s32 r33 m34 => ?_) (fun b123 w124 r125 q126 => ?_)
  · obtain ⟨_, rfl, _, rfl, _, rfl, j6v, _, rfl, j6, j7v, _, rfl, j7, j8v, _, rfl, j8, j9v, _, rfl, j9, j10v, _, rfl, j10, j11v, _, rfl, j11, j12v, _, rfl, j12, j13v, _, rfl, j13, rfl⟩ := m4
    refine x_tg (tg_N j6 rfl) ?_
    refine s_rho (ρ1 := ([(PV.int a_n), ((kL (ioF o1) PV.int) a_seconds), ((kL (ioF o2) (kL .fz PV.int)) a_due), (PV.int x1), j7v, j8v, j9v, j10v, j11v, j12v, j13v] : List PV)) rfl ?_
    refine s_last ?_
    refine s_assoc ?_
    refine s_set ?_
    refine x_lst ?_
    refine x_acons ?_
    refine x_call ?_
    refine x_eq (e_cons (e_N rfl) (e_cons (e_N rfl) e_nil)) ?_
    refine x_callR (ok_fz (FzV.of PV.int a_n) rfl (ok_fz (FzV.of PV.int x1) rfl ok_nil)) (sim_count_by_roots a_n x1) (bk_fz (FzV.of PV.int a_n) rfl (bk_fz (FzV.of PV.int x1) rfl bk_nil)) ⟨rfl, rfl⟩ fun v14 => ?_
    refine x_acons ?_
    refine x_call ?_
    refine x_eq (e_cons (e_N rfl) (e_cons (e_N rfl) e_nil)) ?_
    refine x_callR (ok_fz (FzV.of PV.int a_n) rfl (ok_fz (FzV.of PV.int x1) rfl ok_nil)) (sim_count_by_leaves a_n x1) (bk_fz (FzV.of PV.int a_n) rfl (bk_fz (FzV.of PV.int x1) rfl bk_nil)) ⟨rfl, rfl⟩ fun v15 => ?_
    refine x_acons ?_
    refine x_call ?_
    refine x_eq (e_cons (e_N rfl) (e_cons (e_N rfl) e_nil)) ?_
    refine x_callR (ok_fz (FzV.of PV.int a_n) rfl (ok_fz (FzV.of PV.int x1) rfl ok_nil)) (sim_count_low a_n x1) (bk_fz (FzV.of PV.int a_n) rfl (bk_fz (FzV.of PV.int x1) rfl bk_nil)) ⟨rfl, rfl⟩ fun v16 => ?_
    refine x_anil ?_
    refine x_lstE (.tm rfl (.tm rfl (.tm rfl .nil))) (Nat.le_of_ble_eq_true rfl) (c := ((kL .ow PV.int) [v14, v15, v16])) rfl ?_
    refine x_set_tm j7 rfl ?_
    refine s_rho (ρ1 := ([(PV.int a_n), ((kL (ioF o1) PV.int) a_seconds), ((kL (ioF o2) (kL .fz PV.int)) a_due), (PV.int x1), ((kL .ow PV.int) [v14, v15, v16]), j8v, j9v, j10v, j11v, j12v, j13v] : List PV)) rfl ?_
    refine s_if ?_
    refine x_tB ?_
    refine x_bin ?_
    refine x_fn ?_
    refine x_eq (e_cons (e_N rfl) e_nil) ?_
    refine x_p (os_repr (a := ((kL .fz PV.int) [v14, v15, v16])) (by show dat ((kL .ow PV.int) [v14, v15, v16]) = dat ((kL .fz PV.int) [v14, v15, v16]); simp only [VT.kL, VT.kQ2, VT.kQ3, VT.kQ4, VT.kA, dat_lst])) nx_repr fun v17 _ => ?_
    refine x_fn ?_
    refine x_acons ?_
    refine lcN_P (P := [.is (PV.int a_n), .is ((kL (ioF o1) PV.int) a_seconds), .is ((kL (ioF o2) (kL .fz PV.int)) a_due), .is (PV.int x1), .is ((kL .ow PV.int) [v14, v15, v16]), .is .emp, .jk, .jk, .jk, .jk, .jk]) (e := (kL .fz PV.int)) (e' := PV.int) (ioF_or o2) rfl (fun r20 m21 => by obtain ⟨_, rfl, _, rfl, _, rfl, _, rfl, _, rfl, _, rfl, j22v, _, rfl, j22, j23v, _, rfl, j23, j24v, _, rfl, j24, j25v, _, rfl, j25, j26v, _, rfl, j26, rfl⟩ := m21; rfl) ⟨_, rfl, _, rfl, _, rfl, _, rfl, _, rfl, _, rfl, _, _, rfl, j9, _, _, rfl, j10, _, _, rfl, j11, _, _, rfl, j12, _, _, rfl, j13, rfl⟩ (fun x18 r20 _ m21 => ?_) fun v28 r29 r29c m30 m30e => ?_
    · obtain ⟨_, rfl, _, rfl, _, rfl, _, rfl, _, rfl, _, rfl, j22v, _, rfl, j22, j23v, _, rfl, j23, j24v, _, rfl, j24, j25v, _, rfl, j25, j26v, _, rfl, j26, rfl⟩ := m21
      refine lc_tg (tg_N rfl rfl) ?_
      refine x_tYes ?_
      refine lc_yes ?_
      refine x_bin ?_
      refine x_eq (e_N rfl) ?_
      refine x_eq (e_N rfl) ?_
      refine x_p (os_ix (e := PV.int) (xs := x18) rfl rfl) nx_ix fun v27 _ => ?_
      refine lc_tm rfl ⟨rfl, ⟨_, rfl, _, rfl, _, rfl, _, rfl, _, rfl, _, rfl, _, _, rfl, j22, _, _, rfl, j23, _, _, rfl, j24, _, _, rfl, j25, _, _, rfl, j26, rfl⟩⟩
    obtain ⟨_, rfl, _, rfl, _, rfl, _, rfl, _, rfl, _, rfl, j22v, _, rfl, j22, j23v, _, rfl, j23, j24v, _, rfl, j24, j25v, _, rfl, j25, j26v, _, rfl, j26, rfl⟩ := m30
    obtain rfl : ([(PV.int a_n), ((kL (ioF o1) PV.int) a_seconds), ((kL (ioF o2) (kL .fz PV.int)) a_due), (PV.int x1), ((kL .ow PV.int) [v14, v15, v16]), j8v, j22v, j23v, j24v, j25v, j26v] : List PV) = r29c := m30e
    refine x_anil ?_
    refine x_p (os_repr (a := ((kL .fz PV.int) v28)) (by show dat ((kL .ow PV.int) v28) = dat ((kL .fz PV.int) v28); simp only [VT.kL, VT.kQ2, VT.kQ3, VT.kQ4, VT.kA, dat_lst])) nx_repr fun v31 _ => ?_
    refine x_o (neD kS kS v17 v31) ?_
    refine x_ofB rfl ?_
    refine x_ite ?_ ?_
    · refine s_ret ?_
      refine x_eq e_C ?_
      exact go_ret ⟨rfl, rfl, rfl⟩
    refine s_nx ?_
    exact x_done ⟨.inl rfl, ⟨_, rfl, _, rfl, _, rfl, _, _, rfl, rfl, _, _, rfl, rfl, _, _, rfl, j8, _, _, rfl, j22, _, _, rfl, j23, _, _, rfl, j24, _, _, rfl, j25, _, _, rfl, j26, rfl⟩⟩
  · obtain ⟨_, rfl, _, rfl, _, rfl, j35v, _, rfl, j35, j36v, _, rfl, j36, j37v, _, rfl, j37, j38v, _, rfl, j38, j39v, _, rfl, j39, j40v, _, rfl, j40, j41v, _, rfl, j41, j42v, _, rfl, j42, rfl⟩ := m34
    refine s_assoc ?_
    refine s_set ?_
    refine x_eq e_C ?_
    refine x_set_tm j38 rfl ?_
    refine s_rho (ρ1 := ([(PV.int a_n), ((kL (ioF o1) PV.int) a_seconds), ((kL (ioF o2) (kL .fz PV.int)) a_due), j35v, j36v, j37v, (PV.int (1 : Int)), j39v, j40v, j41v, j42v] : List PV)) rfl ?_
    refine s_assoc ?_
    refine s_for ?_
    refine x_iRg1 ?_
    refine x_eq (e_cons (e_bin (e_N rfl) e_C rfl) e_nil) ?_
    refine x_rg1E rfl ?_
    generalize rgI 0 (a_n - (1 : Int)) = v43
    refine x_fold (P := fun s45 : (Int) => [.is (PV.int a_n), .is ((kL (ioF o1) PV.int) a_seconds), .is ((kL (ioF o2) (kL .fz PV.int)) a_due), .jk, .jk, .jk, .is (PV.int s45), .jk, .jk, .jk, .jk]) (e := PV.int) ⟨_, rfl, _, rfl, _, rfl, _, _, rfl, j35, _, _, rfl, j36, _, _, rfl, j37, _, rfl, _, _, rfl, j39, _, _, rfl, j40, _, _, rfl, j41, _, _, rfl, j42, rfl⟩ (fun s45 x44 r46 e48 m47 => ?_) fun s57 r58 m59 => ?_
    · obtain ⟨_, rfl, _, rfl, _, rfl, j49v, _, rfl, j49, j50v, _, rfl, j50, j51v, _, rfl, j51, _, rfl, j52v, _, rfl, j52, j53v, _, rfl, j53, j54v, _, rfl, j54, j55v, _, rfl, j55, rfl⟩ := m47
      refine x_tg (tg_N j52 rfl) ?_
      refine s_rho (ρ1 := ([(PV.int a_n), ((kL (ioF o1) PV.int) a_seconds), ((kL (ioF o2) (kL .fz PV.int)) a_due), j49v, j50v, j51v, (PV.int s45), (PV.int x44), j53v, j54v, j55v] : List PV)) rfl ?_
      refine s_last ?_
      refine s_set ?_
      refine x_bin ?_
      refine x_eq (e_N rfl) ?_
      refine x_eq (e_bin (e_N rfl) e_C rfl) ?_
      refine x_p (os_mul rfl rfl) nx_mul fun v56 _ => ?_
      refine x_set_tm rfl rfl ?_
      exact x_done ⟨.inl rfl, ⟨_, rfl, _, rfl, _, rfl, _, _, rfl, j49, _, _, rfl, j50, _, _, rfl, j51, _, rfl, _, _, rfl, rfl, _, _, rfl, j53, _, _, rfl, j54, _, _, rfl, j55, rfl⟩⟩
    obtain ⟨_, rfl, _, rfl, _, rfl, j60v, _, rfl, j60, j61v, _, rfl, j61, j62v, _, rfl, j62, _, rfl, j63v, _, rfl, j63, j64v, _, rfl, j64, j65v, _, rfl, j65, j66v, _, rfl, j66, rfl⟩ := m59
    refine s_assoc ?_
    refine s_set ?_
    refine x_eq e_C ?_
    refine x_set_tm j64 rfl ?_
    refine s_rho (ρ1 := ([(PV.int a_n), ((kL (ioF o1) PV.int) a_seconds), ((kL (ioF o2) (kL .fz PV.int)) a_due), j60v, j61v, j62v, (PV.int s57), j63v, (PV.int (1 : Int)), j65v, j66v] : List PV)) rfl ?_
    refine s_assoc ?_
    refine s_for ?_
    refine x_iRg1 ?_
    refine x_eq (e_cons (e_N rfl) e_nil) ?_
    refine x_rg1E rfl ?_
    generalize rgI 0 a_n = v67
    refine x_fold (P := fun s69 : (Int) => [.is (PV.int a_n), .is ((kL (ioF o1) PV.int) a_seconds), .is ((kL (ioF o2) (kL .fz PV.int)) a_due), .jk, .jk, .jk, .is (PV.int s57), .jk, .is (PV.int s69), .jk, .jk]) (e := PV.int) ⟨_, rfl, _, rfl, _, rfl, _, _, rfl, j60, _, _, rfl, j61, _, _, rfl, j62, _, rfl, _, _, rfl, j63, _, rfl, _, _, rfl, j65, _, _, rfl, j66, rfl⟩ (fun s69 x68 r70 e72 m71 => ?_) fun s79 r80 m81 => ?_
    · obtain ⟨_, rfl, _, rfl, _, rfl, j73v, _, rfl, j73, j74v, _, rfl, j74, j75v, _, rfl, j75, _, rfl, j76v, _, rfl, j76, _, rfl, j77v, _, rfl, j77, j78v, _, rfl, j78, rfl⟩ := m71
      refine x_tg (tg_N j76 rfl) ?_
      refine s_rho (ρ1 := ([(PV.int a_n), ((kL (ioF o1) PV.int) a_seconds), ((kL (ioF o2) (kL .fz PV.int)) a_due), j73v, j74v, j75v, (PV.int s57), (PV.int x68), (PV.int s69), j77v, j78v] : List PV)) rfl ?_
      refine s_last ?_
      refine s_set ?_
      refine x_eq (e_bin (e_N rfl) e_C (mulR rfl rfl (by decide) (by decide))) ?_
      refine x_set_tm rfl rfl ?_
      exact x_done ⟨.inl rfl, ⟨_, rfl, _, rfl, _, rfl, _, _, rfl, j73, _, _, rfl, j74, _, _, rfl, j75, _, rfl, _, _, rfl, rfl, _, rfl, _, _, rfl, j77, _, _, rfl, j78, rfl⟩⟩
    obtain ⟨_, rfl, _, rfl, _, rfl, j82v, _, rfl, j82, j83v, _, rfl, j83, j84v, _, rfl, j84, _, rfl, j85v, _, rfl, j85, _, rfl, j86v, _, rfl, j86, j87v, _, rfl, j87, rfl⟩ := m81
    refine s_assoc ?_
    refine s_set ?_
    refine x_eq e_C ?_
    refine x_set_tm j86 rfl ?_
    refine s_rho (ρ1 := ([(PV.int a_n), ((kL (ioF o1) PV.int) a_seconds), ((kL (ioF o2) (kL .fz PV.int)) a_due), j82v, j83v, j84v, (PV.int s57), j85v, (PV.int s79), (PV.int (0 : Int)), j87v] : List PV)) rfl ?_
    refine s_assoc ?_
    refine s_set ?_
    refine x_eq e_C ?_
    refine x_set_tm j87 rfl ?_
    refine s_rho (ρ1 := ([(PV.int a_n), ((kL (ioF o1) PV.int) a_seconds), ((kL (ioF o2) (kL .fz PV.int)) a_due), j82v, j83v, j84v, (PV.int s57), j85v, (PV.int s79), (PV.int (0 : Int)), (PV.int (1 : Int))] : List PV)) rfl ?_
    refine s_assoc ?_
    refine s_for ?_
    refine x_iRg1 ?_
    refine x_eq (e_cons (e_bin (e_N rfl) e_C rfl) e_nil) ?_
    refine x_rg1E rfl ?_
    generalize rgI 0 (a_n + (1 : Int)) = v88
    refine x_fold (P := fun s90 : (Int × Int) => [.is (PV.int a_n), .is ((kL (ioF o1) PV.int) a_seconds), .is ((kL (ioF o2) (kL .fz PV.int)) a_due), .jk, .jk, .jk, .is (PV.int s57), .jk, .is (PV.int s79), .is (PV.int s90.1), .is (PV.int s90.2)]) (e := PV.int) ⟨_, rfl, _, rfl, _, rfl, _, _, rfl, j82, _, _, rfl, j83, _, _, rfl, j84, _, rfl, _, _, rfl, j85, _, rfl, _, rfl, _, rfl, rfl⟩ (fun s90 x89 r91 e93 m92 => ?_) fun s102 r103 m104 => ?_
    · obtain ⟨_, rfl, _, rfl, _, rfl, j94v, _, rfl, j94, j95v, _, rfl, j95, j96v, _, rfl, j96, _, rfl, j97v, _, rfl, j97, _, rfl, _, rfl, _, rfl, rfl⟩ := m92
      refine x_tg (tg_N j97 rfl) ?_
      refine s_rho (ρ1 := ([(PV.int a_n), ((kL (ioF o1) PV.int) a_seconds), ((kL (ioF o2) (kL .fz PV.int)) a_due), j94v, j95v, j96v, (PV.int s57), (PV.int x89), (PV.int s79), (PV.int s90.1), (PV.int s90.2)] : List PV)) rfl ?_
      refine s_last ?_
      refine s_assoc ?_
      refine s_set ?_
      refine x_bin ?_
      refine x_eq (e_N rfl) ?_
      refine x_bin ?_
      refine x_bin ?_
      refine x_bin ?_
      refine x_bin ?_
      refine x_eq (e_N rfl) ?_
      refine x_eq e_C ?_
      refine x_p (os_ix (e := (kL .fz PV.int)) (xs := a_due) rfl rfl) nx_ix fun v98 _ => ?_
      refine x_eq (e_N rfl) ?_
      refine x_p (os_ix (e := PV.int) (xs := v98) rfl rfl) nx_ix fun v99 _ => ?_
      refine x_eq (e_N rfl) ?_
      refine x_p (os_mul rfl rfl) nx_mul fun v100 _ => ?_
      refine x_eq (e_N rfl) ?_
      refine x_p (os_mul rfl rfl) nx_mul fun v101 _ => ?_
      refine x_o rfl ?_
      refine x_set_tm rfl rfl ?_
      refine s_rho (ρ1 := ([(PV.int a_n), ((kL (ioF o1) PV.int) a_seconds), ((kL (ioF o2) (kL .fz PV.int)) a_due), j94v, j95v, j96v, (PV.int s57), (PV.int x89), (PV.int s79), (PV.int (s90.1 + v101)), (PV.int s90.2)] : List PV)) rfl ?_
      refine s_set ?_
      refine x_eq (e_bin (e_N rfl) e_C (mulR rfl rfl (by decide) (by decide))) ?_
      refine x_set_tm rfl rfl ?_
      exact x_done ⟨.inl rfl, ⟨_, rfl, _, rfl, _, rfl, _, _, rfl, j94, _, _, rfl, j95, _, _, rfl, j96, _, rfl, _, _, rfl, rfl, _, rfl, _, rfl, _, rfl, rfl⟩⟩
    obtain ⟨_, rfl, _, rfl, _, rfl, j105v, _, rfl, j105, j106v, _, rfl, j106, j107v, _, rfl, j107, _, rfl, j108v, _, rfl, j108, _, rfl, _, rfl, _, rfl, rfl⟩ := m104
    refine s_assoc ?_
    refine s_if ?_
    refine x_tOr ?_
    refine x_tB ?_
    refine x_bin ?_
    refine x_eq (e_N rfl) ?_
    refine x_fn ?_
    refine x_acons ?_
    refine x_bin ?_
    refine x_eq (e_N rfl) ?_
    refine x_eq e_C ?_
    refine x_p (os_ix (e := (kL .fz PV.int)) (xs := a_due) rfl rfl) nx_ix fun v109 _ => ?_
    refine x_anil ?_
    refine x_o (c := (PV.int v109.sum)) (sum_L (xs := v109)) ?_
    refine x_o (neD PV.int PV.int s57 v109.sum) ?_
    refine x_ofB rfl ?_
    refine x_tOrP ?_ fun v114 => ?_
    · refine x_fin ?_
      refine x_tOr ?_
      refine x_tB ?_
      refine x_bin ?_
      refine x_eq (e_N rfl) ?_
      refine x_fn ?_
      refine x_acons ?_
      refine x_bin ?_
      refine x_eq (e_N rfl) ?_
      refine x_eq e_C ?_
      refine x_p (os_ix (e := (kL .fz PV.int)) (xs := a_due) rfl rfl) nx_ix fun v110 _ => ?_
      refine x_anil ?_
      refine x_o (c := (PV.int v110.sum)) (sum_L (xs := v110)) ?_
      refine x_o (neD PV.int PV.int s57 v110.sum) ?_
      refine x_ofB rfl ?_
      refine x_tOrP ?_ fun v113 => ?_
      · refine x_fin ?_
        refine x_tB ?_
        refine x_bin ?_
        refine x_eq (e_N rfl) ?_
        refine x_bin ?_
        refine x_bin ?_
        refine x_eq (e_N rfl) ?_
        refine x_eq e_C ?_
        refine x_p (os_ix (e := (kL .fz PV.int)) (xs := a_due) rfl rfl) nx_ix fun v111 _ => ?_
        refine x_eq e_C ?_
        refine x_p (os_ix (e := PV.int) (xs := v111) rfl rfl) nx_ix fun v112 _ => ?_
        refine x_o (neD PV.int PV.int s57 v112) ?_
        refine x_ofB rfl ?_
        exact pq_done
      exact pq_done
    refine x_ite ?_ ?_
    · refine s_ret ?_
      refine x_eq e_C ?_
      exact fn_ret ⟨rfl, rfl, rfl⟩
    refine s_nx ?_
    refine s_assoc ?_
    refine s_if ?_
    refine x_tAnd ?_
    refine x_eq (t_tB (e_bin (e_N rfl) e_C rfl) rfl) ?_
    refine x_tAndP ?_ fun v116 => ?_
    · refine x_fin ?_
      refine x_tB ?_
      refine x_bin ?_
      refine x_eq (e_N rfl) ?_
      refine x_bin ?_
      refine x_eq (e_lst (e_cons e_C (e_cons e_C (e_cons e_C e_nil))) (.tm rfl (.tm rfl (.tm rfl .nil))) (Nat.le_of_ble_eq_true rfl) (c := ((kL .ow PV.int) [(4 : Int), (32 : Int), (448 : Int)])) rfl) ?_
      refine x_eq (e_bin (e_N rfl) e_C rfl) ?_
      refine x_p (os_ix (e := PV.int) (xs := [(4 : Int), (32 : Int), (448 : Int)]) rfl rfl) nx_ix fun v115 _ => ?_
      refine x_o (neD PV.int PV.int s102.1 v115) ?_
      refine x_ofB rfl ?_
      exact pq_done
    refine x_ite ?_ ?_
    · refine s_ret ?_
      refine x_eq e_C ?_
      exact fn_ret ⟨rfl, rfl, rfl⟩
    refine s_nx ?_
    refine s_ret ?_
    refine x_bin ?_
    refine x_fn ?_
    refine x_acons ?_
    refine x_lst ?_
    refine x_acons ?_
    refine x_call ?_
    refine x_eq (e_cons (e_N rfl) e_nil) ?_
    refine x_callR (ok_fz (FzV.of PV.int a_n) rfl ok_nil) (sim_count_shapes a_n) (bk_fz (FzV.of PV.int a_n) rfl bk_nil) ⟨rfl, rfl⟩ fun v117 => ?_
    refine x_acons ?_
    refine x_call ?_
    refine x_eq (e_cons (e_N rfl) e_nil) ?_
    refine x_callR (ok_fz (FzV.of PV.int a_n) rfl ok_nil) (sim_count_fair a_n) (bk_fz (FzV.of PV.int a_n) rfl bk_nil) ⟨rfl, rfl⟩ fun v118 => ?_
    refine x_acons ?_
    refine x_call ?_
    refine x_eq (e_cons (e_N rfl) e_nil) ?_
    refine x_callR (ok_fz (FzV.of PV.int a_n) rfl ok_nil) (sim_count_forests a_n) (bk_fz (FzV.of PV.int a_n) rfl bk_nil) ⟨rfl, rfl⟩ fun v119 => ?_
    refine x_anil ?_
    refine x_lstE (.tm rfl (.tm rfl (.tm rfl .nil))) (Nat.le_of_ble_eq_true rfl) (c := ((kL .ow PV.int) [v117, v118, v119])) rfl ?_
    refine x_anil ?_
    refine x_p (os_repr (a := ((kL .fz PV.int) [v117, v118, v119])) (by show dat ((kL .ow PV.int) [v117, v118, v119]) = dat ((kL .fz PV.int) [v117, v118, v119]); simp only [VT.kL, VT.kQ2, VT.kQ3, VT.kQ4, VT.kA, dat_lst])) nx_repr fun v120 _ => ?_
    refine x_fn ?_
    refine x_acons ?_
    refine x_lst ?_
    refine x_acons ?_
    refine x_eq (e_N rfl) ?_
    refine x_acons ?_
    refine x_bin ?_
    refine x_eq (e_N rfl) ?_
    refine x_eq (e_N rfl) ?_
    refine x_p (os_mul rfl rfl) nx_mul fun v121 _ => ?_
    refine x_acons ?_
    refine x_eq (e_N rfl) ?_
    refine x_anil ?_
    refine x_lstE (.fz (FzV.of PV.int s57) rfl (.tm rfl (.fz (FzV.of PV.int s102.1) rfl .nil))) (Nat.le_of_ble_eq_true rfl) (c := ((kL .ow PV.int) [s57, v121, s102.1])) rfl ?_
    refine x_anil ?_
    refine x_p (os_repr (a := ((kL .fz PV.int) [s57, v121, s102.1])) (by show dat ((kL .ow PV.int) [s57, v121, s102.1]) = dat ((kL .fz PV.int) [s57, v121, s102.1]); simp only [VT.kL, VT.kQ2, VT.kQ3, VT.kQ4, VT.kA, dat_lst])) nx_repr fun v122 _ => ?_
    refine x_o (eqD kS kS v120 v122) ?_
    exact fn_ret ⟨rfl, rfl, rfl⟩
  exact fn_ret q126
set_option maxHeartbeats 1000000 in
theorem sim__law_words (a_n : Int) : FS (F__law_words [(PV.int a_n)]) (t__law_words_v3 a_n) (fun b => (kL .fz (kL .fz PV.int)) b) (fun b => [(PV.int a_n)]) (fun fn => fn = [(PV.int a_n)]) := by
  refine fs_run (E := fun r => True) (rq := (fun (b : (List (List Int))) w r => w = (kL .fz (kL .fz PV.int)) b)) (ρ0 := [(PV.int a_n), .emp, .emp, .emp, .emp, .emp, .emp, .emp]) rfl (ar_fz (FzV.of PV.int a_n) ar_nil) rfl ?_ (fun b w r h => ⟨h, (ex_fz (FzV.of PV.int a_n) ex_nil)⟩) (fun r h => ⟨_, (ex_fz (FzV.of PV.int a_n) ex_nil), rfl⟩)
  unfold t__law_words_v3
  refine s_last ?_
  refine s_assoc ?_
  refine s_set ?_
  refine x_lcQ ?_
  refine x_iRg1 ?_
  refine x_eq (e_cons (e_bin (e_N rfl) e_C rfl) e_nil) ?_
  refine x_rg1E rfl ?_
  generalize rgI 0 (a_n + (1 : Int)) = v1
  refine x_lcPM (P := [.is (PV.int a_n), .is .emp, .is .emp, .is .emp, .is .emp, .is .emp, .is .emp, .is .emp]) (e := PV.int) (e' := PV.int) ⟨_, rfl, _, rfl, _, rfl, _, rfl, _, rfl, _, rfl, _, rfl, _, rfl, rfl⟩ (fun x2 r4 _ m5 => ?_) fun v7 r8 r8c m9 m9e => ?_
  · obtain ⟨_, rfl, _, rfl, _, rfl, _, rfl, _, rfl, _, rfl, _, rfl, _, rfl, rfl⟩ := m5
    refine lcq_tg (tg_N rfl rfl) ?_
    refine x_tYes ?_
    refine lcq_yes ?_
    refine x_bin ?_
    refine x_eq (e_lst (e_cons e_C e_nil) (.tm rfl .nil) (Nat.le_of_ble_eq_true rfl) (c := ((kL .ow PV.int) [(0 : Int)])) rfl) ?_
    refine x_eq (e_bin (e_N rfl) e_C rfl) ?_
    refine x_p (os_rep (e := PV.int) (xs := [(0 : Int)]) rfl rfl) nx_rep fun v6 _ => ?_
    refine lcq_tm rfl ⟨rfl, ⟨_, rfl, _, rfl, _, rfl, _, rfl, _, rfl, _, rfl, _, rfl, _, rfl, rfl⟩⟩
  obtain ⟨_, rfl, _, rfl, _, rfl, _, rfl, _, rfl, _, rfl, _, rfl, _, rfl, rfl⟩ := m9
  obtain rfl : ([(PV.int a_n), .emp, (PV.emp), .emp, .emp, .emp, .emp, .emp] : List PV) = r8c := m9e
  refine x_set_tm rfl rfl ?_
  refine s_rho (ρ1 := ([(PV.int a_n), ((kM PV.int) v7), (PV.emp), .emp, .emp, .emp, .emp, .emp] : List PV)) rfl ?_
  refine s_assoc ?_
  refine s_subV ?_
  refine x_eq e_C ?_
  refine x_subV (e := PV.int) (xs := v7) rfl (ρ2 := ([(PV.int a_n), .emp, (PV.emp), .emp, .emp, .emp, .emp, .emp] : List PV)) rfl ?_
  refine x_eq e_C ?_
  refine x_subV1 (e := PV.int) (xs := v7) rfl fun n10 y11 => ?_
  refine x_eq e_C ?_
  refine x_subVE (e := PV.int) (xs := v7) (m := n10) (ys := y11) (v := (1 : Int)) (take_tm rfl) rfl fun v12 => ?_
  refine s_rho (ρ1 := ([(PV.int a_n), ((kM PV.int) v12), (PV.emp), .emp, .emp, .emp, .emp, .emp] : List PV)) rfl ?_
  refine s_assoc ?_
  refine s_pre (a := ((kL .fz (kL .fz PV.int)) v12)) (ρ1 := ([(PV.int a_n), ((kL .fz (kL .fz PV.int)) v12), (PV.emp), .emp, .emp, .emp, .emp, .emp] : List PV)) fzo_M rfl ?_
  refine s_for ?_
  refine x_iRg1 ?_
  refine x_eq (e_cons (e_bin (e_N rfl) e_C rfl) e_nil) ?_
  refine x_rg1E rfl ?_
  generalize rgI 0 (a_n - (1 : Int)) = v13
  refine x_fold (P := fun s15 : ((List (List Int))) => [.is (PV.int a_n), .is ((kL .fz (kL .fz PV.int)) s15), .is (PV.emp), .jk, .jk, .jk, .jk, .jk]) (e := PV.int) ⟨_, rfl, _, rfl, _, rfl, _, _, rfl, rfl, _, _, rfl, rfl, _, _, rfl, rfl, _, _, rfl, rfl, _, _, rfl, rfl, rfl⟩ (fun s15 x14 r16 e18 m17 => ?_) fun s90 r91 m92 => ?_
  · obtain ⟨_, rfl, _, rfl, _, rfl, j19v, _, rfl, j19, j20v, _, rfl, j20, j21v, _, rfl, j21, j22v, _, rfl, j22, j23v, _, rfl, j23, rfl⟩ := m17
    refine x_tg (tg_N j19 rfl) ?_
    refine s_rho (ρ1 := ([(PV.int a_n), ((kL .fz (kL .fz PV.int)) s15), (PV.emp), (PV.int x14), j20v, j21v, j22v, j23v] : List PV)) rfl ?_
    refine s_last ?_
    refine s_assoc ?_
    refine s_set ?_
    refine x_lcQ ?_
    refine x_iRg1 ?_
    refine x_eq (e_cons (e_bin (e_N rfl) e_C rfl) e_nil) ?_
    refine x_rg1E rfl ?_
    generalize rgI 0 (a_n + (1 : Int)) = v24
    refine x_lcPM (P := [.is (PV.int a_n), .is ((kL .fz (kL .fz PV.int)) s15), .is .emp, .is (PV.int x14), .jk, .jk, .jk, .jk]) (e := PV.int) (e' := PV.int) ⟨_, rfl, _, rfl, _, rfl, _, rfl, _, _, rfl, j20, _, _, rfl, j21, _, _, rfl, j22, _, _, rfl, j23, rfl⟩ (fun x25 r27 _ m28 => ?_) fun v34 r35 r35c m36 m36e => ?_
    · obtain ⟨_, rfl, _, rfl, _, rfl, _, rfl, j29v, _, rfl, j29, j30v, _, rfl, j30, j31v, _, rfl, j31, j32v, _, rfl, j32, rfl⟩ := m28
      refine lcq_tg (tg_N rfl rfl) ?_
      refine x_tYes ?_
      refine lcq_yes ?_
      refine x_bin ?_
      refine x_eq (e_lst (e_cons e_C e_nil) (.tm rfl .nil) (Nat.le_of_ble_eq_true rfl) (c := ((kL .ow PV.int) [(0 : Int)])) rfl) ?_
      refine x_eq (e_bin (e_N rfl) e_C rfl) ?_
      refine x_p (os_rep (e := PV.int) (xs := [(0 : Int)]) rfl rfl) nx_rep fun v33 _ => ?_
      refine lcq_tm rfl ⟨rfl, ⟨_, rfl, _, rfl, _, rfl, _, rfl, _, _, rfl, j29, _, _, rfl, j30, _, _, rfl, j31, _, _, rfl, j32, rfl⟩⟩
    obtain ⟨_, rfl, _, rfl, _, rfl, _, rfl, j29v, _, rfl, j29, j30v, _, rfl, j30, j31v, _, rfl, j31, j32v, _, rfl, j32, rfl⟩ := m36
    obtain rfl : ([(PV.int a_n), ((kL .fz (kL .fz PV.int)) s15), (PV.emp), (PV.int x14), j29v, j30v, j31v, j32v] : List PV) = r35c := m36e
    refine x_set_tm j29 rfl ?_
    refine s_rho (ρ1 := ([(PV.int a_n), ((kL .fz (kL .fz PV.int)) s15), (PV.emp), (PV.int x14), ((kM PV.int) v34), j30v, j31v, j32v] : List PV)) rfl ?_
    refine s_assoc ?_
    refine s_for ?_
    refine x_iRg1 ?_
    refine x_eq (e_cons (e_bin (e_N rfl) e_C rfl) e_nil) ?_
    refine x_rg1E rfl ?_
    generalize rgI 0 (x14 + (1 : Int)) = v37
    refine x_fold (P := fun s39 : ((List (List Int))) => [.is (PV.int a_n), .is ((kL .fz (kL .fz PV.int)) s15), .is (PV.emp), .is (PV.int x14), .is ((kM PV.int) s39), .jk, .jk, .jk]) (e := PV.int) ⟨_, rfl, _, rfl, _, rfl, _, rfl, _, rfl, _, _, rfl, j30, _, _, rfl, j31, _, _, rfl, j32, rfl⟩ (fun s39 x38 r40 e42 m41 => ?_) fun s84 r85 m86 => ?_
    · obtain ⟨_, rfl, _, rfl, _, rfl, _, rfl, _, rfl, j43v, _, rfl, j43, j44v, _, rfl, j44, j45v, _, rfl, j45, rfl⟩ := m41
      refine x_tg (tg_N j43 rfl) ?_
      refine s_rho (ρ1 := ([(PV.int a_n), ((kL .fz (kL .fz PV.int)) s15), (PV.emp), (PV.int x14), ((kM PV.int) s39), (PV.int x38), j44v, j45v] : List PV)) rfl ?_
      refine s_last ?_
      refine s_for ?_
      refine x_iRg1 ?_
      refine x_eq (e_cons (e_bin (e_bin (e_N rfl) e_C rfl) (e_N rfl) rfl) e_nil) ?_
      refine x_rg1E rfl ?_
      generalize rgI 0 ((x14 + (1 : Int)) - x38) = v46
      refine x_fold (P := fun s48 : ((List (List Int))) => [.is (PV.int a_n), .is ((kL .fz (kL .fz PV.int)) s15), .is (PV.emp), .is (PV.int x14), .is ((kM PV.int) s48), .is (PV.int x38), .jk, .jk]) (e := PV.int) ⟨_, rfl, _, rfl, _, rfl, _, rfl, _, rfl, _, rfl, _, _, rfl, j44, _, _, rfl, j45, rfl⟩ (fun s48 x47 r49 e51 m50 => ?_) fun s79 r80 m81 => ?_
      · obtain ⟨_, rfl, _, rfl, _, rfl, _, rfl, _, rfl, _, rfl, j52v, _, rfl, j52, j53v, _, rfl, j53, rfl⟩ := m50
        refine x_tg (tg_N j52 rfl) ?_
        refine s_rho (ρ1 := ([(PV.int a_n), ((kL .fz (kL .fz PV.int)) s15), (PV.emp), (PV.int x14), ((kM PV.int) s48), (PV.int x38), (PV.int x47), j53v] : List PV)) rfl ?_
        refine s_last ?_
        refine s_assoc ?_
        refine s_set ?_
        refine x_bin ?_
        refine x_bin ?_
        refine x_eq (e_N rfl) ?_
        refine x_eq (e_N rfl) ?_
        refine x_p (os_ix (e := (kL .fz PV.int)) (xs := s15) rfl rfl) nx_ix fun v54 _ => ?_
        refine x_eq (e_N rfl) ?_
        refine x_p (os_ix (e := PV.int) (xs := v54) rfl rfl) nx_ix fun v55 _ => ?_
        refine x_set_tm j53 rfl ?_
        refine s_rho (ρ1 := ([(PV.int a_n), ((kL .fz (kL .fz PV.int)) s15), (PV.emp), (PV.int x14), ((kM PV.int) s48), (PV.int x38), (PV.int x47), (PV.int v55)] : List PV)) rfl ?_
        refine s_assoc ?_
        refine s_subV ?_
        refine x_eview (e := PV.int) (a := ((kL .fz (kL .fz PV.int)) s48)) (ρ1 := ([(PV.int a_n), ((kL .fz (kL .fz PV.int)) s15), (PV.emp), (PV.int x14), ((kL .fz (kL .fz PV.int)) s48), (PV.int x38), (PV.int x47), (PV.int v55)] : List PV)) (frz_M _) rfl rfl (kin_M _) (cs_fz (FzV.of PV.int a_n) (cs_fz (FzV.of (kL .fz (kL .fz PV.int)) s15) (cs_em (cs_fz (FzV.of PV.int x14) (cs_em (cs_fz (FzV.of PV.int x38) (cs_fz (FzV.of PV.int x47) (cs_fz (FzV.of PV.int v55) cs_nil)))))))) (fun _ => rfl) ?_ fun v58 => ?_
        · refine x_fin ?_
          refine x_bin ?_
          refine x_bin ?_
          refine x_bin ?_
          refine x_eq (e_N rfl) ?_
          refine x_eq (e_bin (e_N rfl) e_C rfl) ?_
          refine x_p (os_ix (e := (kL .fz PV.int)) (xs := s48) rfl rfl) nx_ix fun v56 _ => ?_
          refine x_eq (e_N rfl) ?_
          refine x_p (os_ix (e := PV.int) (xs := v56) rfl rfl) nx_ix fun v57 _ => ?_
          refine x_eq (e_N rfl) ?_
          refine x_o rfl ?_
          exact ⟨_, _, rfl, rfl, rfl⟩
        refine x_subV (e := PV.int) (xs := s48) rfl (ρ2 := ([(PV.int a_n), ((kL .fz (kL .fz PV.int)) s15), (PV.emp), (PV.int x14), .emp, (PV.int x38), (PV.int x47), (PV.int v55)] : List PV)) rfl ?_
        refine x_eq (e_bin (e_N rfl) e_C rfl) ?_
        refine x_subV1 (e := PV.int) (xs := s48) rfl fun n59 y60 => ?_
        refine x_eq (e_N rfl) ?_
        refine x_subVE (e := PV.int) (xs := s48) (m := n59) (ys := y60) (v := v58) (take_tm rfl) rfl fun v61 => ?_
        refine s_rho (ρ1 := ([(PV.int a_n), ((kL .fz (kL .fz PV.int)) s15), (PV.emp), (PV.int x14), ((kM PV.int) v61), (PV.int x38), (PV.int x47), (PV.int v55)] : List PV)) rfl ?_
        refine s_assoc ?_
        refine s_subV ?_
        refine x_eview (e := PV.int) (a := ((kL .fz (kL .fz PV.int)) v61)) (ρ1 := ([(PV.int a_n), ((kL .fz (kL .fz PV.int)) s15), (PV.emp), (PV.int x14), ((kL .fz (kL .fz PV.int)) v61), (PV.int x38), (PV.int x47), (PV.int v55)] : List PV)) (frz_M _) rfl rfl (kin_M _) (cs_fz (FzV.of PV.int a_n) (cs_fz (FzV.of (kL .fz (kL .fz PV.int)) s15) (cs_em (cs_fz (FzV.of PV.int x14) (cs_em (cs_fz (FzV.of PV.int x38) (cs_fz (FzV.of PV.int x47) (cs_fz (FzV.of PV.int v55) cs_nil)))))))) (fun _ => rfl) ?_ fun v65 => ?_
        · refine x_fin ?_
          refine x_bin ?_
          refine x_bin ?_
          refine x_bin ?_
          refine x_eq (e_N rfl) ?_
          refine x_eq (e_N rfl) ?_
          refine x_p (os_ix (e := (kL .fz PV.int)) (xs := v61) rfl rfl) nx_ix fun v62 _ => ?_
          refine x_eq (e_N rfl) ?_
          refine x_p (os_ix (e := PV.int) (xs := v62) rfl rfl) nx_ix fun v63 _ => ?_
          refine x_bin ?_
          refine x_eq (e_N rfl) ?_
          refine x_eq (e_N rfl) ?_
          refine x_p (os_mul rfl rfl) nx_mul fun v64 _ => ?_
          refine x_o rfl ?_
          exact ⟨_, _, rfl, rfl, rfl⟩
        refine x_subV (e := PV.int) (xs := v61) rfl (ρ2 := ([(PV.int a_n), ((kL .fz (kL .fz PV.int)) s15), (PV.emp), (PV.int x14), .emp, (PV.int x38), (PV.int x47), (PV.int v55)] : List PV)) rfl ?_
        refine x_eq (e_N rfl) ?_
        refine x_subV1 (e := PV.int) (xs := v61) rfl fun n66 y67 => ?_
        refine x_eq (e_N rfl) ?_
        refine x_subVE (e := PV.int) (xs := v61) (m := n66) (ys := y67) (v := v65) (take_tm rfl) rfl fun v68 => ?_
        refine s_rho (ρ1 := ([(PV.int a_n), ((kL .fz (kL .fz PV.int)) s15), (PV.emp), (PV.int x14), ((kM PV.int) v68), (PV.int x38), (PV.int x47), (PV.int v55)] : List PV)) rfl ?_
        refine s_subV ?_
        refine x_eview (e := PV.int) (a := ((kL .fz (kL .fz PV.int)) v68)) (ρ1 := ([(PV.int a_n), ((kL .fz (kL .fz PV.int)) s15), (PV.emp), (PV.int x14), ((kL .fz (kL .fz PV.int)) v68), (PV.int x38), (PV.int x47), (PV.int v55)] : List PV)) (frz_M _) rfl rfl (kin_M _) (cs_fz (FzV.of PV.int a_n) (cs_fz (FzV.of (kL .fz (kL .fz PV.int)) s15) (cs_em (cs_fz (FzV.of PV.int x14) (cs_em (cs_fz (FzV.of PV.int x38) (cs_fz (FzV.of PV.int x47) (cs_fz (FzV.of PV.int v55) cs_nil)))))))) (fun _ => rfl) ?_ fun v72 => ?_
        · refine x_fin ?_
          refine x_bin ?_
          refine x_bin ?_
          refine x_bin ?_
          refine x_eq (e_N rfl) ?_
          refine x_eq (e_N rfl) ?_
          refine x_p (os_ix (e := (kL .fz PV.int)) (xs := v68) rfl rfl) nx_ix fun v69 _ => ?_
          refine x_eq (e_bin (e_N rfl) e_C rfl) ?_
          refine x_p (os_ix (e := PV.int) (xs := v69) rfl rfl) nx_ix fun v70 _ => ?_
          refine x_bin ?_
          refine x_eq (e_N rfl) ?_
          refine x_eq (e_bin (e_N rfl) (e_N rfl) rfl) ?_
          refine x_p (os_mul rfl rfl) nx_mul fun v71 _ => ?_
          refine x_o rfl ?_
          exact ⟨_, _, rfl, rfl, rfl⟩
        refine x_subV (e := PV.int) (xs := v68) rfl (ρ2 := ([(PV.int a_n), ((kL .fz (kL .fz PV.int)) s15), (PV.emp), (PV.int x14), .emp, (PV.int x38), (PV.int x47), (PV.int v55)] : List PV)) rfl ?_
        refine x_eq (e_N rfl) ?_
        refine x_subV1 (e := PV.int) (xs := v68) rfl fun n73 y74 => ?_
        refine x_eq (e_bin (e_N rfl) e_C rfl) ?_
        refine x_subVE (e := PV.int) (xs := v68) (m := n73) (ys := y74) (v := v72) (take_tm rfl) rfl fun v75 => ?_
        exact x_done ⟨.inl rfl, ⟨_, rfl, _, rfl, _, rfl, _, rfl, _, rfl, _, rfl, _, _, rfl, rfl, _, _, rfl, rfl, rfl⟩⟩
      obtain ⟨_, rfl, _, rfl, _, rfl, _, rfl, _, rfl, _, rfl, j82v, _, rfl, j82, j83v, _, rfl, j83, rfl⟩ := m81
      exact x_done ⟨.inl rfl, ⟨_, rfl, _, rfl, _, rfl, _, rfl, _, rfl, _, _, rfl, rfl, _, _, rfl, j82, _, _, rfl, j83, rfl⟩⟩
    obtain ⟨_, rfl, _, rfl, _, rfl, _, rfl, _, rfl, j87v, _, rfl, j87, j88v, _, rfl, j88, j89v, _, rfl, j89, rfl⟩ := m86
    refine s_set ?_
    refine x_eq (e_N rfl) ?_
    refine x_set_sl fzo_M rfl ?_
    exact x_done ⟨.inl rfl, ⟨_, rfl, _, rfl, _, rfl, _, _, rfl, rfl, _, _, rfl, rfl, _, _, rfl, j87, _, _, rfl, j88, _, _, rfl, j89, rfl⟩⟩
  obtain ⟨_, rfl, _, rfl, _, rfl, j93v, _, rfl, j93, j94v, _, rfl, j94, j95v, _, rfl, j95, j96v, _, rfl, j96, j97v, _, rfl, j97, rfl⟩ := m92
  refine s_ret ?_
  refine x_eq (e_N rfl) ?_
  refine ret_sl (a := ((kL .fz (kL .fz PV.int)) s90)) rfl rfl ?_
  exact fn_ret rfl
set_option maxHeartbeats 1000000 in
theorem sim__law_choices (a_n : Int) : FS (F__law_choices [(PV.int a_n)]) (t__law_choices a_n) (fun b => (kL .ow (kL .fz PV.int)) b) (fun b => [(PV.int a_n)]) (fun fn => fn = [(PV.int a_n)]) := by
  refine fs_run (E := fun r => True) (rq := (fun (b : (List (List Int))) w r => w = (kL .ow (kL .fz PV.int)) b)) (ρ0 := [(PV.int a_n), .emp, .emp, .emp, .emp]) rfl (ar_fz (FzV.of PV.int a_n) ar_nil) rfl ?_ (fun b w r h => ⟨h, (ex_fz (FzV.of PV.int a_n) ex_nil)⟩) (fun r h => ⟨_, (ex_fz (FzV.of PV.int a_n) ex_nil), rfl⟩)
  unfold t__law_choices
  refine s_last ?_
  refine s_assoc ?_
  refine s_set ?_
  refine x_eq (e_lst (e_cons (e_lst (e_cons e_C e_nil) (.tm rfl .nil) (Nat.le_of_ble_eq_true rfl) (c := ((kL .ow PV.int) [(1 : Int)])) rfl) e_nil) (.tm rfl .nil) (Nat.le_of_ble_eq_true rfl) (c := ((kL .ow (kL .fz PV.int)) [[(1 : Int)]])) rfl) ?_
  refine x_set_tm rfl rfl ?_
  refine s_rho (ρ1 := ([(PV.int a_n), ((kL .ow (kL .fz PV.int)) [[(1 : Int)]]), .emp, .emp, .emp] : List PV)) rfl ?_
  refine s_assoc ?_
  refine s_for ?_
  refine x_iRg1 ?_
  refine x_eq (e_cons (e_N rfl) e_nil) ?_
  refine x_rg1E rfl ?_
  generalize rgI 0 a_n = v1
  refine x_fold (P := fun s3 : ((List (List Int))) => [.is (PV.int a_n), .is ((kL .ow (kL .fz PV.int)) s3), .jk, .jk, .jk]) (e := PV.int) ⟨_, rfl, _, rfl, _, _, rfl, rfl, _, _, rfl, rfl, _, _, rfl, rfl, rfl⟩ (fun s3 x2 r4 e6 m5 => ?_) fun s24 r25 m26 => ?_
  · obtain ⟨_, rfl, _, rfl, j7v, _, rfl, j7, j8v, _, rfl, j8, j9v, _, rfl, j9, rfl⟩ := m5
    refine x_tg (tg_N j7 rfl) ?_
    refine s_rho (ρ1 := ([(PV.int a_n), ((kL .ow (kL .fz PV.int)) s3), (PV.int x2), j8v, j9v] : List PV)) rfl ?_
    refine s_last ?_
    refine s_assoc ?_
    refine s_set ?_
    refine x_bin ?_
    refine x_eq (e_N rfl) ?_
    refine x_eq (e_un e_C rfl) ?_
    refine x_p (os_ix (e := (kL .fz PV.int)) (xs := s3) rfl rfl) nx_ix fun v10 _ => ?_
    refine x_set_tm j8 rfl ?_
    refine s_rho (ρ1 := ([(PV.int a_n), ((kL .ow (kL .fz PV.int)) s3), (PV.int x2), ((kL .fz PV.int) v10), j9v] : List PV)) rfl ?_
    refine s_E ?_
    refine x_mu ?_
    refine x_eq (e_N rfl) ?_
    refine x_muL (e := (kL .fz PV.int)) (xs := s3) rfl ?_
    refine x_acons ?_
    refine x_bin ?_
    refine x_bin ?_
    refine x_eq (e_lst (e_cons e_C e_nil) (.tm rfl .nil) (Nat.le_of_ble_eq_true rfl) (c := ((kL .ow PV.int) [(1 : Int)])) rfl) ?_
    refine x_lc ?_
    refine x_iRg1 ?_
    refine x_eq (e_cons (e_N rfl) e_nil) ?_
    refine x_rg1E rfl ?_
    generalize rgI 0 x2 = v11
    refine x_lcP (P := [.is (PV.int a_n), .is ((kL .ow (kL .fz PV.int)) s3), .is (PV.int x2), .is ((kL .fz PV.int) v10), .is .emp]) (e := PV.int) (e' := PV.int) ⟨_, rfl, _, rfl, _, rfl, _, rfl, _, rfl, rfl⟩ (fun x12 r14 _ m15 => ?_) fun v18 r19 r19c m20 m20e => ?_
    · obtain ⟨_, rfl, _, rfl, _, rfl, _, rfl, _, rfl, rfl⟩ := m15
      refine lc_tg (tg_N rfl rfl) ?_
      refine x_tYes ?_
      refine lc_yes ?_
      refine x_bin ?_
      refine x_bin ?_
      refine x_eq (e_N rfl) ?_
      refine x_eq (e_N rfl) ?_
      refine x_p (os_ix (e := PV.int) (xs := v10) rfl rfl) nx_ix fun v16 _ => ?_
      refine x_bin ?_
      refine x_eq (e_N rfl) ?_
      refine x_eq (e_bin (e_N rfl) e_C rfl) ?_
      refine x_p (os_ix (e := PV.int) (xs := v10) rfl rfl) nx_ix fun v17 _ => ?_
      refine x_o rfl ?_
      refine lc_tm rfl ⟨rfl, ⟨_, rfl, _, rfl, _, rfl, _, rfl, _, rfl, rfl⟩⟩
    obtain ⟨_, rfl, _, rfl, _, rfl, _, rfl, _, rfl, rfl⟩ := m20
    obtain rfl : ([(PV.int a_n), ((kL .ow (kL .fz PV.int)) s3), (PV.int x2), ((kL .fz PV.int) v10), j9v] : List PV) = r19c := m20e
    refine x_p (os_catL (e := PV.int) (xs := [(1 : Int)]) (ys := v18) rfl rfl) nx_cat fun v21 _ => ?_
    refine x_eq (e_lst (e_cons e_C e_nil) (.tm rfl .nil) (Nat.le_of_ble_eq_true rfl) (c := ((kL .ow PV.int) [(1 : Int)])) rfl) ?_
    refine x_p (os_catL (e := PV.int) (xs := v21) (ys := [(1 : Int)]) rfl rfl) nx_cat fun v22 _ => ?_
    refine x_anil ?_
    refine x_app (o := .ow) (e := (kL .fz PV.int)) (xs := s3) (v := v22) (.tm rfl .nil) rfl (by decide) fun v23 => ?_
    exact x_done ⟨.inl rfl, ⟨_, rfl, _, rfl, _, _, rfl, rfl, _, _, rfl, rfl, _, _, rfl, j9, rfl⟩⟩
  obtain ⟨_, rfl, _, rfl, j27v, _, rfl, j27, j28v, _, rfl, j28, j29v, _, rfl, j29, rfl⟩ := m26
  refine s_ret ?_
  refine x_eq (e_N rfl) ?_
  refine ret_sl (a := ((kL .ow (kL .fz PV.int)) s24)) rfl rfl ?_
  exact fn_ret rfl
set_option maxHeartbeats 1000000 in
theorem sim__law_layers (a_n : Int) : FS (F__law_layers [(PV.int a_n)]) (t__law_layers a_n) (fun b => (kL .ow PV.int) b) (fun b => [(PV.int a_n)]) (fun fn => fn = [(PV.int a_n)]) := by
  refine fs_run (E := fun r => True) (rq := (fun (b : (List Int)) w r => w = (kL .ow PV.int) b)) (ρ0 := [(PV.int a_n), .emp, .emp, .emp, .emp, .emp, .emp, .emp, .emp, .emp, .emp, .emp]) rfl (ar_fz (FzV.of PV.int a_n) ar_nil) rfl ?_ (fun b w r h => ⟨h, (ex_fz (FzV.of PV.int a_n) ex_nil)⟩) (fun r h => ⟨_, (ex_fz (FzV.of PV.int a_n) ex_nil), rfl⟩)
  unfold t__law_layers
  refine s_last ?_
  refine s_assoc ?_
  refine s_set ?_
  refine x_call ?_
  refine x_eq (e_cons (e_N rfl) e_nil) ?_
  refine x_callR (ok_fz (FzV.of PV.int a_n) rfl ok_nil) (sim__law_choices a_n) (bk_fz (FzV.of PV.int a_n) rfl bk_nil) trivial fun v1 => ?_
  refine x_set_tm rfl rfl ?_
  refine s_rho (ρ1 := ([(PV.int a_n), ((kL .ow (kL .fz PV.int)) v1), .emp, .emp, .emp, .emp, .emp, .emp, .emp, .emp, .emp, .emp] : List PV)) rfl ?_
  refine s_assoc ?_
  refine s_set ?_
  refine x_fz0 ?_
  refine x_lc ?_
  refine x_iRg1 ?_
  refine x_eq (e_cons (e_bin (e_N rfl) e_C rfl) e_nil) ?_
  refine x_rg1E rfl ?_
  generalize rgI 0 (a_n + (1 : Int)) = v2
  refine x_lcP (P := [.is (PV.int a_n), .is ((kL .ow (kL .fz PV.int)) v1), .is .emp, .is .emp, .is .emp, .is .emp, .is .emp, .is .emp, .is .emp, .is .emp, .is .emp, .is .emp]) (e := PV.int) (e' := (kL .fz PV.int)) ⟨_, rfl, _, rfl, _, rfl, _, rfl, _, rfl, _, rfl, _, rfl, _, rfl, _, rfl, _, rfl, _, rfl, _, rfl, rfl⟩ (fun x3 r5 _ m6 => ?_) fun v8 r9 r9c m10 m10e => ?_
  · obtain ⟨_, rfl, _, rfl, _, rfl, _, rfl, _, rfl, _, rfl, _, rfl, _, rfl, _, rfl, _, rfl, _, rfl, _, rfl, rfl⟩ := m6
    refine lc_tg (tg_N rfl rfl) ?_
    refine x_tYes ?_
    refine lc_yes ?_
    refine x_bin ?_
    refine x_eq (e_lst (e_cons (e_fn (e_cons (e_bin (e_N rfl) e_C (eqD PV.int PV.int x3 (0 : Int))) e_nil) (c := PV.int (b2i (teq x3 (0 : Int)))) rfl) e_nil) (.tm rfl .nil) (Nat.le_of_ble_eq_true rfl) (c := ((kL .ow PV.int) [(b2i (teq x3 (0 : Int)))])) rfl) ?_
    refine x_eq (e_bin (e_N rfl) e_C rfl) ?_
    refine x_p (os_rep (e := PV.int) (xs := [(b2i (teq x3 (0 : Int)))]) rfl rfl) nx_rep fun v7 _ => ?_
    refine lc_tm rfl ⟨rfl, ⟨_, rfl, _, rfl, _, rfl, _, rfl, _, rfl, _, rfl, _, rfl, _, rfl, _, rfl, _, rfl, _, rfl, _, rfl, rfl⟩⟩
  obtain ⟨_, rfl, _, rfl, _, rfl, _, rfl, _, rfl, _, rfl, _, rfl, _, rfl, _, rfl, _, rfl, _, rfl, _, rfl, rfl⟩ := m10
  obtain rfl : ([(PV.int a_n), ((kL .ow (kL .fz PV.int)) v1), .emp, .emp, .emp, .emp, .emp, .emp, .emp, .emp, .emp, .emp] : List PV) = r9c := m10e
  refine x_fz1 (a := ((kL .fz (kL .fz PV.int)) v8)) (ρ2 := ([(PV.int a_n), ((kL .ow (kL .fz PV.int)) v1), .emp, .emp, .emp, .emp, .emp, .emp, .emp, .emp, .emp, .emp] : List PV)) rfl ?_
  refine x_set_tm rfl rfl ?_
  refine s_rho (ρ1 := ([(PV.int a_n), ((kL .ow (kL .fz PV.int)) v1), ((kL .fz (kL .fz PV.int)) v8), .emp, .emp, .emp, .emp, .emp, .emp, .emp, .emp, .emp] : List PV)) rfl ?_
  refine s_assoc ?_
  refine s_set ?_
  refine x_lst ?_
  refine x_acons ?_
  refine x_bin ?_
  refine x_bin ?_
  refine x_eq (e_N rfl) ?_
  refine x_eq (e_N rfl) ?_
  refine x_p (os_ix (e := (kL .fz PV.int)) (xs := v8) rfl rfl) nx_ix fun v11 _ => ?_
  refine x_eq e_C ?_
  refine x_p (os_ix (e := PV.int) (xs := v11) rfl rfl) nx_ix fun v12 _ => ?_
  refine x_anil ?_
  refine x_lstE (.tm rfl .nil) (Nat.le_of_ble_eq_true rfl) (c := ((kL .ow PV.int) [v12])) rfl ?_
  refine x_set_tm rfl rfl ?_
  refine s_rho (ρ1 := ([(PV.int a_n), ((kL .ow (kL .fz PV.int)) v1), ((kL .fz (kL .fz PV.int)) v8), .emp, ((kL .ow PV.int) [v12]), .emp, .emp, .emp, .emp, .emp, .emp, .emp] : List PV)) rfl ?_
  refine s_assoc ?_
  refine s_for ?_
  refine x_iRg1 ?_
  refine x_eq (e_cons (e_N rfl) e_nil) ?_
  refine x_rg1E rfl ?_
  generalize rgI 0 a_n = v13
  refine x_fold (P := fun s15 : ((List (List Int)) × (List Int)) => [.is (PV.int a_n), .is ((kL .ow (kL .fz PV.int)) v1), .is ((kL .fz (kL .fz PV.int)) s15.1), .jk, .is ((kL .ow PV.int) s15.2), .jk, .jk, .jk, .jk, .jk, .jk, .jk]) (e := PV.int) ⟨_, rfl, _, rfl, _, rfl, _, _, rfl, rfl, _, rfl, _, _, rfl, rfl, _, _, rfl, rfl, _, _, rfl, rfl, _, _, rfl, rfl, _, _, rfl, rfl, _, _, rfl, rfl, _, _, rfl, rfl, rfl⟩ (fun s15 x14 r16 e18 m17 => ?_) fun s90 r91 m92 => ?_
  · obtain ⟨_, rfl, _, rfl, _, rfl, j19v, _, rfl, j19, _, rfl, j20v, _, rfl, j20, j21v, _, rfl, j21, j22v, _, rfl, j22, j23v, _, rfl, j23, j24v, _, rfl, j24, j25v, _, rfl, j25, j26v, _, rfl, j26, rfl⟩ := m17
    refine x_tg (tg_N j20 rfl) ?_
    refine s_rho (ρ1 := ([(PV.int a_n), ((kL .ow (kL .fz PV.int)) v1), ((kL .fz (kL .fz PV.int)) s15.1), j19v, ((kL .ow PV.int) s15.2), (PV.int x14), j21v, j22v, j23v, j24v, j25v, j26v] : List PV)) rfl ?_
    refine s_last ?_
    refine s_assoc ?_
    refine s_set ?_
    refine x_lst ?_
    refine x_acons ?_
    refine x_bin ?_
    refine x_eq (e_lst (e_cons e_C e_nil) (.tm rfl .nil) (Nat.le_of_ble_eq_true rfl) (c := ((kL .ow PV.int) [(1 : Int)])) rfl) ?_
    refine x_eq (e_bin (e_N rfl) e_C rfl) ?_
    refine x_p (os_rep (e := PV.int) (xs := [(1 : Int)]) rfl rfl) nx_rep fun v27 _ => ?_
    refine x_anil ?_
    refine x_lstE (.tm rfl .nil) (Nat.le_of_ble_eq_true rfl) (c := ((kL .ow (kL .fz PV.int)) [v27])) rfl ?_
    refine x_set_tm j21 rfl ?_
    refine s_rho (ρ1 := ([(PV.int a_n), ((kL .ow (kL .fz PV.int)) v1), ((kL .fz (kL .fz PV.int)) s15.1), j19v, ((kL .ow PV.int) s15.2), (PV.int x14), ((kL .ow (kL .fz PV.int)) [v27]), j22v, j23v, j24v, j25v, j26v] : List PV)) rfl ?_
    refine s_assoc ?_
    refine s_for ?_
    refine x_iRg2 ?_
    refine x_eq (e_cons e_C (e_cons (e_bin (e_N rfl) e_C rfl) e_nil)) ?_
    refine x_rg2E rfl rfl ?_
    generalize rgI (1 : Int) (a_n + (1 : Int)) = v28
    refine x_fold (P := fun s30 : ((List (List Int))) => [.is (PV.int a_n), .is ((kL .ow (kL .fz PV.int)) v1), .is ((kL .fz (kL .fz PV.int)) s15.1), .jk, .is ((kL .ow PV.int) s15.2), .is (PV.int x14), .is ((kL .ow (kL .fz PV.int)) s30), .jk, .jk, .jk, .jk, .jk]) (e := PV.int) ⟨_, rfl, _, rfl, _, rfl, _, _, rfl, j19, _, rfl, _, rfl, _, rfl, _, _, rfl, j22, _, _, rfl, j23, _, _, rfl, j24, _, _, rfl, j25, _, _, rfl, j26, rfl⟩ (fun s30 x29 r31 e33 m32 => ?_) fun s78 r79 m80 => ?_
    · obtain ⟨_, rfl, _, rfl, _, rfl, j34v, _, rfl, j34, _, rfl, _, rfl, _, rfl, j35v, _, rfl, j35, j36v, _, rfl, j36, j37v, _, rfl, j37, j38v, _, rfl, j38, j39v, _, rfl, j39, rfl⟩ := m32
      refine x_tg (tg_N j34 rfl) ?_
      refine s_rho (ρ1 := ([(PV.int a_n), ((kL .ow (kL .fz PV.int)) v1), ((kL .fz (kL .fz PV.int)) s15.1), (PV.int x29), ((kL .ow PV.int) s15.2), (PV.int x14), ((kL .ow (kL .fz PV.int)) s30), j35v, j36v, j37v, j38v, j39v] : List PV)) rfl ?_
      refine s_last ?_
      refine s_assoc ?_
      refine s_set ?_
      refine x_bin ?_
      refine x_eq (e_lst (e_cons e_C e_nil) (.tm rfl .nil) (Nat.le_of_ble_eq_true rfl) (c := ((kL .ow PV.int) [(0 : Int)])) rfl) ?_
      refine x_eq (e_bin (e_N rfl) e_C rfl) ?_
      refine x_p (os_rep (e := PV.int) (xs := [(0 : Int)]) rfl rfl) nx_rep fun v40 _ => ?_
      refine x_set_tm j35 rfl ?_
      refine s_rho (ρ1 := ([(PV.int a_n), ((kL .ow (kL .fz PV.int)) v1), ((kL .fz (kL .fz PV.int)) s15.1), (PV.int x29), ((kL .ow PV.int) s15.2), (PV.int x14), ((kL .ow (kL .fz PV.int)) s30), ((kL .ow PV.int) v40), j36v, j37v, j38v, j39v] : List PV)) rfl ?_
      refine s_assoc ?_
      refine s_for ?_
      refine x_iRg2 ?_
      refine x_eq (e_cons e_C (e_cons (e_bin (e_bin (e_N rfl) e_C rfl) (e_N rfl) rfl) e_nil)) ?_
      refine x_rg2E rfl rfl ?_
      generalize rgI (1 : Int) ((a_n + (2 : Int)) - x29) = v41
      refine x_fold (P := fun s43 : ((List Int)) => [.is (PV.int a_n), .is ((kL .ow (kL .fz PV.int)) v1), .is ((kL .fz (kL .fz PV.int)) s15.1), .is (PV.int x29), .is ((kL .ow PV.int) s15.2), .is (PV.int x14), .is ((kL .ow (kL .fz PV.int)) s30), .is ((kL .ow PV.int) s43), .jk, .jk, .jk, .jk]) (e := PV.int) ⟨_, rfl, _, rfl, _, rfl, _, rfl, _, rfl, _, rfl, _, rfl, _, rfl, _, _, rfl, j36, _, _, rfl, j37, _, _, rfl, j38, _, _, rfl, j39, rfl⟩ (fun s43 x42 r44 e46 m45 => ?_) fun s70 r71 m72 => ?_
      · obtain ⟨_, rfl, _, rfl, _, rfl, _, rfl, _, rfl, _, rfl, _, rfl, _, rfl, j47v, _, rfl, j47, j48v, _, rfl, j48, j49v, _, rfl, j49, j50v, _, rfl, j50, rfl⟩ := m45
        refine x_tg (tg_N j47 rfl) ?_
        refine s_rho (ρ1 := ([(PV.int a_n), ((kL .ow (kL .fz PV.int)) v1), ((kL .fz (kL .fz PV.int)) s15.1), (PV.int x29), ((kL .ow PV.int) s15.2), (PV.int x14), ((kL .ow (kL .fz PV.int)) s30), ((kL .ow PV.int) s43), (PV.int x42), j48v, j49v, j50v] : List PV)) rfl ?_
        refine s_last ?_
        refine s_assoc ?_
        refine s_set ?_
        refine x_eq e_C ?_
        refine x_set_tm j48 rfl ?_
        refine s_rho (ρ1 := ([(PV.int a_n), ((kL .ow (kL .fz PV.int)) v1), ((kL .fz (kL .fz PV.int)) s15.1), (PV.int x29), ((kL .ow PV.int) s15.2), (PV.int x14), ((kL .ow (kL .fz PV.int)) s30), ((kL .ow PV.int) s43), (PV.int x42), (PV.int (0 : Int)), j49v, j50v] : List PV)) rfl ?_
        refine s_assoc ?_
        refine s_set ?_
        refine x_eq e_C ?_
        refine x_set_tm j49 rfl ?_
        refine s_rho (ρ1 := ([(PV.int a_n), ((kL .ow (kL .fz PV.int)) v1), ((kL .fz (kL .fz PV.int)) s15.1), (PV.int x29), ((kL .ow PV.int) s15.2), (PV.int x14), ((kL .ow (kL .fz PV.int)) s30), ((kL .ow PV.int) s43), (PV.int x42), (PV.int (0 : Int)), (PV.int (1 : Int)), j50v] : List PV)) rfl ?_
        refine s_assoc ?_
        refine s_for ?_
        refine x_iRg2 ?_
        refine x_eq (e_cons e_C (e_cons (e_bin (e_N rfl) e_C rfl) e_nil)) ?_
        refine x_rg2E rfl rfl ?_
        generalize rgI (1 : Int) (x29 + (1 : Int)) = v51
        refine x_fold (P := fun s53 : (Int × Int) => [.is (PV.int a_n), .is ((kL .ow (kL .fz PV.int)) v1), .is ((kL .fz (kL .fz PV.int)) s15.1), .is (PV.int x29), .is ((kL .ow PV.int) s15.2), .is (PV.int x14), .is ((kL .ow (kL .fz PV.int)) s30), .is ((kL .ow PV.int) s43), .is (PV.int x42), .is (PV.int s53.1), .is (PV.int s53.2), .jk]) (e := PV.int) ⟨_, rfl, _, rfl, _, rfl, _, rfl, _, rfl, _, rfl, _, rfl, _, rfl, _, rfl, _, rfl, _, rfl, _, _, rfl, j50, rfl⟩ (fun s53 x52 r54 e56 m55 => ?_) fun s65 r66 m67 => ?_
        · obtain ⟨_, rfl, _, rfl, _, rfl, _, rfl, _, rfl, _, rfl, _, rfl, _, rfl, _, rfl, _, rfl, _, rfl, j57v, _, rfl, j57, rfl⟩ := m55
          refine x_tg (tg_N j57 rfl) ?_
          refine s_rho (ρ1 := ([(PV.int a_n), ((kL .ow (kL .fz PV.int)) v1), ((kL .fz (kL .fz PV.int)) s15.1), (PV.int x29), ((kL .ow PV.int) s15.2), (PV.int x14), ((kL .ow (kL .fz PV.int)) s30), ((kL .ow PV.int) s43), (PV.int x42), (PV.int s53.1), (PV.int s53.2), (PV.int x52)] : List PV)) rfl ?_
          refine s_last ?_
          refine s_assoc ?_
          refine s_set ?_
          refine x_bin ?_
          refine x_eq (e_N rfl) ?_
          refine x_eq (e_N rfl) ?_
          refine x_p (os_mul rfl rfl) nx_mul fun v58 _ => ?_
          refine x_set_tm rfl rfl ?_
          refine s_rho (ρ1 := ([(PV.int a_n), ((kL .ow (kL .fz PV.int)) v1), ((kL .fz (kL .fz PV.int)) s15.1), (PV.int x29), ((kL .ow PV.int) s15.2), (PV.int x14), ((kL .ow (kL .fz PV.int)) s30), ((kL .ow PV.int) s43), (PV.int x42), (PV.int s53.1), (PV.int v58), (PV.int x52)] : List PV)) rfl ?_
          refine s_set ?_
          refine x_bin ?_
          refine x_eq (e_N rfl) ?_
          refine x_bin ?_
          refine x_bin ?_
          refine x_bin ?_
          refine x_bin ?_
          refine x_eq (e_N rfl) ?_
          refine x_eq (e_N rfl) ?_
          refine x_p (os_ix (e := (kL .fz PV.int)) (xs := v1) rfl rfl) nx_ix fun v59 _ => ?_
          refine x_eq (e_N rfl) ?_
          refine x_p (os_ix (e := PV.int) (xs := v59) rfl rfl) nx_ix fun v60 _ => ?_
          refine x_eq (e_N rfl) ?_
          refine x_p (os_mul rfl rfl) nx_mul fun v61 _ => ?_
          refine x_bin ?_
          refine x_bin ?_
          refine x_eq (e_N rfl) ?_
          refine x_eq (e_bin (e_N rfl) (e_N rfl) rfl) ?_
          refine x_p (os_ix (e := (kL .fz PV.int)) (xs := s15.1) rfl rfl) nx_ix fun v62 _ => ?_
          refine x_eq (e_N rfl) ?_
          refine x_p (os_ix (e := PV.int) (xs := v62) rfl rfl) nx_ix fun v63 _ => ?_
          refine x_p (os_mul rfl rfl) nx_mul fun v64 _ => ?_
          refine x_o rfl ?_
          refine x_set_tm rfl rfl ?_
          exact x_done ⟨.inl rfl, ⟨_, rfl, _, rfl, _, rfl, _, rfl, _, rfl, _, rfl, _, rfl, _, rfl, _, rfl, _, rfl, _, rfl, _, _, rfl, rfl, rfl⟩⟩
        obtain ⟨_, rfl, _, rfl, _, rfl, _, rfl, _, rfl, _, rfl, _, rfl, _, rfl, _, rfl, _, rfl, _, rfl, j68v, _, rfl, j68, rfl⟩ := m67
        refine s_sub ?_
        refine x_eq (e_N rfl) ?_
        refine x_eq (e_N rfl) ?_
        refine x_eq (e_N rfl) ?_
        refine x_sub (o := .ow) (e := PV.int) (xs := s43) (v := s65.1) (take_fz (FzV.of PV.int s65.1) rfl) rfl (by decide) rfl fun v69 => ?_
        exact x_done ⟨.inl rfl, ⟨_, rfl, _, rfl, _, rfl, _, rfl, _, rfl, _, rfl, _, rfl, _, rfl, _, _, rfl, rfl, _, _, rfl, rfl, _, _, rfl, rfl, _, _, rfl, j68, rfl⟩⟩
      obtain ⟨_, rfl, _, rfl, _, rfl, _, rfl, _, rfl, _, rfl, _, rfl, _, rfl, j73v, _, rfl, j73, j74v, _, rfl, j74, j75v, _, rfl, j75, j76v, _, rfl, j76, rfl⟩ := m72
      refine s_E ?_
      refine x_mu ?_
      refine x_eq (e_N rfl) ?_
      refine x_muL (e := (kL .fz PV.int)) (xs := s30) rfl ?_
      refine x_eq (e_cons (e_N rfl) e_nil) ?_
      refine x_app (o := .ow) (e := (kL .fz PV.int)) (xs := s30) (v := s70) (.sl rfl .nil) rfl (by decide) fun v77 => ?_
      exact x_done ⟨.inl rfl, ⟨_, rfl, _, rfl, _, rfl, _, _, rfl, rfl, _, rfl, _, rfl, _, rfl, _, _, rfl, rfl, _, _, rfl, j73, _, _, rfl, j74, _, _, rfl, j75, _, _, rfl, j76, rfl⟩⟩
    obtain ⟨_, rfl, _, rfl, _, rfl, j81v, _, rfl, j81, _, rfl, _, rfl, _, rfl, j82v, _, rfl, j82, j83v, _, rfl, j83, j84v, _, rfl, j84, j85v, _, rfl, j85, j86v, _, rfl, j86, rfl⟩ := m80
    refine s_assoc ?_
    refine s_set ?_
    refine x_fz0 ?_
    refine x_eq (e_N rfl) ?_
    refine x_fz1 (a := ((kL .fz (kL .fz PV.int)) s78)) (ρ2 := ([(PV.int a_n), ((kL .ow (kL .fz PV.int)) v1), ((kL .fz (kL .fz PV.int)) s15.1), j81v, ((kL .ow PV.int) s15.2), (PV.int x14), ((kL .fz (kL .fz PV.int)) s78), j82v, j83v, j84v, j85v, j86v] : List PV)) rfl ?_
    refine x_set_tm rfl rfl ?_
    refine s_rho (ρ1 := ([(PV.int a_n), ((kL .ow (kL .fz PV.int)) v1), ((kL .fz (kL .fz PV.int)) s78), j81v, ((kL .ow PV.int) s15.2), (PV.int x14), ((kL .fz (kL .fz PV.int)) s78), j82v, j83v, j84v, j85v, j86v] : List PV)) rfl ?_
    refine s_E ?_
    refine x_mu ?_
    refine x_eq (e_N rfl) ?_
    refine x_muL (e := PV.int) (xs := s15.2) rfl ?_
    refine x_acons ?_
    refine x_bin ?_
    refine x_bin ?_
    refine x_eq (e_N rfl) ?_
    refine x_eq (e_N rfl) ?_
    refine x_p (os_ix (e := (kL .fz PV.int)) (xs := s78) rfl rfl) nx_ix fun v87 _ => ?_
    refine x_eq e_C ?_
    refine x_p (os_ix (e := PV.int) (xs := v87) rfl rfl) nx_ix fun v88 _ => ?_
    refine x_anil ?_
    refine x_app (o := .ow) (e := PV.int) (xs := s15.2) (v := v88) (.tm rfl .nil) rfl (by decide) fun v89 => ?_
    exact x_done ⟨.inl rfl, ⟨_, rfl, _, rfl, _, rfl, _, _, rfl, j81, _, rfl, _, _, rfl, rfl, _, _, rfl, rfl, _, _, rfl, j82, _, _, rfl, j83, _, _, rfl, j84, _, _, rfl, j85, _, _, rfl, j86, rfl⟩⟩
  obtain ⟨_, rfl, _, rfl, _, rfl, j93v, _, rfl, j93, _, rfl, j94v, _, rfl, j94, j95v, _, rfl, j95, j96v, _, rfl, j96, j97v, _, rfl, j97, j98v, _, rfl, j98, j99v, _, rfl, j99, j100v, _, rfl, j100, rfl⟩ := m92
  refine s_ret ?_
  refine x_eq (e_N rfl) ?_
  refine ret_sl (a := ((kL .ow PV.int) s90.2)) rfl rfl ?_
  exact fn_ret rfl
set_option maxHeartbeats 1000000 in
theorem sim__law_reckoned (a_n : Int) : FS (F__law_reckoned [(PV.int a_n)]) (t__law_reckoned a_n) (fun b => (kL .ow (kL .fz PV.int)) b) (fun b => [(PV.int a_n)]) (fun fn => fn = [(PV.int a_n)]) := by
  refine fs_run (E := fun r => True) (rq := (fun (b : (List (List Int))) w r => w = (kL .ow (kL .fz PV.int)) b)) (ρ0 := [(PV.int a_n), .emp, .emp, .emp, .emp, .emp, .emp, .emp, .emp]) rfl (ar_fz (FzV.of PV.int a_n) ar_nil) rfl ?_ (fun b w r h => ⟨h, (ex_fz (FzV.of PV.int a_n) ex_nil)⟩) (fun r h => ⟨_, (ex_fz (FzV.of PV.int a_n) ex_nil), rfl⟩)
  unfold t__law_reckoned
  refine s_last ?_
  refine s_assoc ?_
  refine s_set ?_
  refine x_call ?_
  refine x_eq (e_cons (e_N rfl) e_nil) ?_
  refine x_callR (ok_fz (FzV.of PV.int a_n) rfl ok_nil) (sim__law_words a_n) (bk_fz (FzV.of PV.int a_n) rfl bk_nil) trivial fun v1 => ?_
  refine x_set_tm rfl rfl ?_
  refine s_rho (ρ1 := ([(PV.int a_n), ((kL .fz (kL .fz PV.int)) v1), .emp, .emp, .emp, .emp, .emp, .emp, .emp] : List PV)) rfl ?_
  refine s_assoc ?_
  refine s_set ?_
  refine x_call ?_
  refine x_eq (e_cons (e_N rfl) e_nil) ?_
  refine x_callR (ok_fz (FzV.of PV.int a_n) rfl ok_nil) (sim__law_layers a_n) (bk_fz (FzV.of PV.int a_n) rfl bk_nil) trivial fun v2 => ?_
  refine x_set_tm rfl rfl ?_
  refine s_rho (ρ1 := ([(PV.int a_n), ((kL .fz (kL .fz PV.int)) v1), ((kL .ow PV.int) v2), .emp, .emp, .emp, .emp, .emp, .emp] : List PV)) rfl ?_
  refine s_assoc ?_
  refine s_set ?_
  refine x_bin ?_
  refine x_eq (e_lst (e_cons e_C e_nil) (.tm rfl .nil) (Nat.le_of_ble_eq_true rfl) (c := ((kL .ow PV.int) [(0 : Int)])) rfl) ?_
  refine x_eq e_C ?_
  refine x_p (os_rep (e := PV.int) (xs := [(0 : Int)]) rfl rfl) nx_rep fun v3 _ => ?_
  refine x_set_tm rfl rfl ?_
  refine s_rho (ρ1 := ([(PV.int a_n), ((kL .fz (kL .fz PV.int)) v1), ((kL .ow PV.int) v2), ((kL .ow PV.int) v3), .emp, .emp, .emp, .emp, .emp] : List PV)) rfl ?_
  refine s_assoc ?_
  refine s_set ?_
  refine x_bin ?_
  refine x_eq (e_lst (e_cons e_C e_nil) (.tm rfl .nil) (Nat.le_of_ble_eq_true rfl) (c := ((kL .ow PV.int) [(0 : Int)])) rfl) ?_
  refine x_eq e_C ?_
  refine x_p (os_rep (e := PV.int) (xs := [(0 : Int)]) rfl rfl) nx_rep fun v4 _ => ?_
  refine x_set_tm rfl rfl ?_
  refine s_rho (ρ1 := ([(PV.int a_n), ((kL .fz (kL .fz PV.int)) v1), ((kL .ow PV.int) v2), ((kL .ow PV.int) v3), ((kL .ow PV.int) v4), .emp, .emp, .emp, .emp] : List PV)) rfl ?_
  refine s_assoc ?_
  refine s_set ?_
  refine x_lc ?_
  refine x_iRg1 ?_
  refine x_eq (e_cons e_C e_nil) ?_
  refine x_rg1E rfl ?_
  generalize rgI 0 (21 : Int) = v5
  refine x_lcP (P := [.is (PV.int a_n), .is ((kL .fz (kL .fz PV.int)) v1), .is ((kL .ow PV.int) v2), .is ((kL .ow PV.int) v3), .is ((kL .ow PV.int) v4), .is .emp, .is .emp, .is .emp, .is .emp]) (e := PV.int) (e' := PV.int) ⟨_, rfl, _, rfl, _, rfl, _, rfl, _, rfl, _, rfl, _, rfl, _, rfl, _, rfl, rfl⟩ (fun x6 r8 _ m9 => ?_) fun v11 r12 r12c m13 m13e => ?_
  · obtain ⟨_, rfl, _, rfl, _, rfl, _, rfl, _, rfl, _, rfl, _, rfl, _, rfl, _, rfl, rfl⟩ := m9
    refine lc_tg (tg_N rfl rfl) ?_
    refine x_tYes ?_
    refine lc_yes ?_
    refine x_bin ?_
    refine x_eq (e_N rfl) ?_
    refine x_eq (e_fn (e_cons (e_N rfl) (e_cons (e_N rfl) e_nil)) (c := PV.int (if a_n < x6 then a_n else x6)) rfl) ?_
    refine x_p (os_ix (e := PV.int) (xs := v2) rfl rfl) nx_ix fun v10 _ => ?_
    refine lc_tm rfl ⟨rfl, ⟨_, rfl, _, rfl, _, rfl, _, rfl, _, rfl, _, rfl, _, rfl, _, rfl, _, rfl, rfl⟩⟩
  obtain ⟨_, rfl, _, rfl, _, rfl, _, rfl, _, rfl, _, rfl, _, rfl, _, rfl, _, rfl, rfl⟩ := m13
  obtain rfl : ([(PV.int a_n), ((kL .fz (kL .fz PV.int)) v1), ((kL .ow PV.int) v2), ((kL .ow PV.int) v3), ((kL .ow PV.int) v4), .emp, .emp, .emp, .emp] : List PV) = r12c := m13e
  refine x_set_tm rfl rfl ?_
  refine s_rho (ρ1 := ([(PV.int a_n), ((kL .fz (kL .fz PV.int)) v1), ((kL .ow PV.int) v2), ((kL .ow PV.int) v3), ((kL .ow PV.int) v4), ((kL .ow PV.int) v11), .emp, .emp, .emp] : List PV)) rfl ?_
  refine s_assoc ?_
  refine s_for ?_
  refine x_iRg1 ?_
  refine x_eq (e_cons (e_N rfl) e_nil) ?_
  refine x_rg1E rfl ?_
  generalize rgI 0 a_n = v14
  refine x_fold (P := fun s16 : ((List Int) × (List Int)) => [.is (PV.int a_n), .is ((kL .fz (kL .fz PV.int)) v1), .is ((kL .ow PV.int) v2), .is ((kL .ow PV.int) s16.1), .is ((kL .ow PV.int) s16.2), .is ((kL .ow PV.int) v11), .jk, .jk, .jk]) (e := PV.int) ⟨_, rfl, _, rfl, _, rfl, _, rfl, _, rfl, _, rfl, _, _, rfl, rfl, _, _, rfl, rfl, _, _, rfl, rfl, rfl⟩ (fun s16 x15 r17 e19 m18 => ?_) fun s44 r45 m46 => ?_
  · obtain ⟨_, rfl, _, rfl, _, rfl, _, rfl, _, rfl, _, rfl, j20v, _, rfl, j20, j21v, _, rfl, j21, j22v, _, rfl, j22, rfl⟩ := m18
    refine x_tg (tg_N j21 rfl) ?_
    refine s_rho (ρ1 := ([(PV.int a_n), ((kL .fz (kL .fz PV.int)) v1), ((kL .ow PV.int) v2), ((kL .ow PV.int) s16.1), ((kL .ow PV.int) s16.2), ((kL .ow PV.int) v11), j20v, (PV.int x15), j22v] : List PV)) rfl ?_
    refine s_last ?_
    refine s_for ?_
    refine x_iRg1 ?_
    refine x_eq (e_cons (e_N rfl) e_nil) ?_
    refine x_rg1E rfl ?_
    generalize rgI 0 a_n = v23
    refine x_fold (P := fun s25 : ((List Int) × (List Int)) => [.is (PV.int a_n), .is ((kL .fz (kL .fz PV.int)) v1), .is ((kL .ow PV.int) v2), .is ((kL .ow PV.int) s25.1), .is ((kL .ow PV.int) s25.2), .is ((kL .ow PV.int) v11), .jk, .is (PV.int x15), .jk]) (e := PV.int) ⟨_, rfl, _, rfl, _, rfl, _, rfl, _, rfl, _, rfl, _, _, rfl, j20, _, rfl, _, _, rfl, j22, rfl⟩ (fun s25 x24 r26 e28 m27 => ?_) fun s39 r40 m41 => ?_
    · obtain ⟨_, rfl, _, rfl, _, rfl, _, rfl, _, rfl, _, rfl, j29v, _, rfl, j29, _, rfl, j30v, _, rfl, j30, rfl⟩ := m27
      refine x_tg (tg_N j30 rfl) ?_
      refine s_rho (ρ1 := ([(PV.int a_n), ((kL .fz (kL .fz PV.int)) v1), ((kL .ow PV.int) v2), ((kL .ow PV.int) s25.1), ((kL .ow PV.int) s25.2), ((kL .ow PV.int) v11), j29v, (PV.int x15), (PV.int x24)] : List PV)) rfl ?_
      refine s_last ?_
      refine s_assoc ?_
      refine s_sub ?_
      refine x_bin ?_
      refine x_bin ?_
      refine x_eq (e_N rfl) ?_
      refine x_eq (e_bin (e_N rfl) e_C rfl) ?_
      refine x_p (os_ix (e := PV.int) (xs := s25.1) rfl rfl) nx_ix fun v31 _ => ?_
      refine x_bin ?_
      refine x_bin ?_
      refine x_eq (e_N rfl) ?_
      refine x_eq (e_N rfl) ?_
      refine x_p (os_ix (e := (kL .fz PV.int)) (xs := v1) rfl rfl) nx_ix fun v32 _ => ?_
      refine x_eq (e_N rfl) ?_
      refine x_p (os_ix (e := PV.int) (xs := v32) rfl rfl) nx_ix fun v33 _ => ?_
      refine x_o rfl ?_
      refine x_eq (e_N rfl) ?_
      refine x_eq (e_bin (e_N rfl) e_C rfl) ?_
      refine x_sub (o := .ow) (e := PV.int) (xs := s25.1) (v := (v31 + v33)) (take_tm rfl) rfl (by decide) rfl fun v34 => ?_
      refine s_rho (ρ1 := ([(PV.int a_n), ((kL .fz (kL .fz PV.int)) v1), ((kL .ow PV.int) v2), ((kL .ow PV.int) v34), ((kL .ow PV.int) s25.2), ((kL .ow PV.int) v11), j29v, (PV.int x15), (PV.int x24)] : List PV)) rfl ?_
      refine s_sub ?_
      refine x_bin ?_
      refine x_bin ?_
      refine x_eq (e_N rfl) ?_
      refine x_eq (e_bin (e_N rfl) (e_N rfl) rfl) ?_
      refine x_p (os_ix (e := PV.int) (xs := s25.2) rfl rfl) nx_ix fun v35 _ => ?_
      refine x_bin ?_
      refine x_bin ?_
      refine x_eq (e_N rfl) ?_
      refine x_eq (e_N rfl) ?_
      refine x_p (os_ix (e := (kL .fz PV.int)) (xs := v1) rfl rfl) nx_ix fun v36 _ => ?_
      refine x_eq (e_N rfl) ?_
      refine x_p (os_ix (e := PV.int) (xs := v36) rfl rfl) nx_ix fun v37 _ => ?_
      refine x_o rfl ?_
      refine x_eq (e_N rfl) ?_
      refine x_eq (e_bin (e_N rfl) (e_N rfl) rfl) ?_
      refine x_sub (o := .ow) (e := PV.int) (xs := s25.2) (v := (v35 + v37)) (take_tm rfl) rfl (by decide) rfl fun v38 => ?_
      exact x_done ⟨.inl rfl, ⟨_, rfl, _, rfl, _, rfl, _, rfl, _, rfl, _, rfl, _, _, rfl, j29, _, rfl, _, _, rfl, rfl, rfl⟩⟩
    obtain ⟨_, rfl, _, rfl, _, rfl, _, rfl, _, rfl, _, rfl, j42v, _, rfl, j42, _, rfl, j43v, _, rfl, j43, rfl⟩ := m41
    exact x_done ⟨.inl rfl, ⟨_, rfl, _, rfl, _, rfl, _, rfl, _, rfl, _, rfl, _, _, rfl, j42, _, _, rfl, rfl, _, _, rfl, j43, rfl⟩⟩
  obtain ⟨_, rfl, _, rfl, _, rfl, _, rfl, _, rfl, _, rfl, j47v, _, rfl, j47, j48v, _, rfl, j48, j49v, _, rfl, j49, rfl⟩ := m46
  refine s_ret ?_
  refine x_lst ?_
  refine x_eq (e_cons (e_N rfl) (e_cons (e_N rfl) (e_cons (e_N rfl) e_nil))) ?_
  refine x_lstE (.sl rfl (.sl rfl (.sl rfl .nil))) (Nat.le_of_ble_eq_true rfl) (c := ((kL .ow (kL .fz PV.int)) [s44.1, s44.2, v11])) rfl ?_
  exact fn_ret rfl
set_option maxHeartbeats 1000000 in
theorem sim_law (a_script : (List Int)) : FS (F_law [(PV.scr a_script)]) (t_law_v36 a_script) (fun b => PV.bl b) (fun b => [(PV.scr a_script)]) (fun fn => fn = [(PV.scr a_script)]) := by
  refine fs_run (E := fun r => True) (rq := (fun (b : Bool) w r => w = PV.bl b)) (ρ0 := [(PV.scr a_script), .emp, .emp, .emp, .emp]) rfl (ar_fz (FzV.of PV.scr a_script) ar_nil) rfl ?_ (fun b w r h => ⟨h, (ex_fz (FzV.of PV.scr a_script) ex_nil)⟩) (fun r h => ⟨_, (ex_fz (FzV.of PV.scr a_script) ex_nil), rfl⟩)
  unfold t_law_v36
  refine s_last ?_
  refine s_assoc ?_
  refine s_set ?_
  refine x_call ?_
  refine x_eq (e_cons (e_N rfl) (e_cons e_C e_nil)) ?_
  refine x_callR (ok_fz (FzV.of PV.scr a_script) rfl (ok_tm ok_nil)) (sim__law_tape a_script (0 : Int)) (bk_fz (FzV.of PV.scr a_script) rfl (bk_tm bk_nil)) trivial fun v1 => ?_
  refine x_set_tm rfl rfl ?_
  refine s_rho (ρ1 := ([(PV.scr a_script), ((kQ2 .ow PV.int PV.int) v1), .emp, .emp, .emp] : List PV)) rfl ?_
  refine s_assoc ?_
  refine s_set ?_
  refine x_bin ?_
  refine x_eq e_C ?_
  refine x_call ?_
  refine x_eq (e_cons (e_N rfl) (e_cons e_C e_nil)) ?_
  refine x_callM (ok_own rfl (ok_tm ok_nil)) (sim__law_take v1 (16 : Int) .ow (by decide)) (fun v2 => (bk_mut (z' := (kQ2 .ow PV.int PV.int) v2.2) rfl rfl rfl (bk_tm bk_nil))) (fun z0 => (bk_mut rfl rfl rfl (bk_tm bk_nil))) (fun z0 => trivial) fun v2 => ?_
  refine x_o rfl ?_
  refine x_set_tm rfl rfl ?_
  refine s_rho (ρ1 := ([(PV.scr a_script), ((kQ2 .ow PV.int PV.int) v2.2), (PV.int ((1 : Int) + v2.1)), .emp, .emp] : List PV)) rfl ?_
  refine s_assoc ?_
  refine s_join (P := fun s => [.is (PV.scr a_script), .is ((kQ2 .ow PV.int PV.int) s.1), .is (PV.int s.2), .jk, .jk]) ?_ fun s5 r6 m7 => ?_
  · refine s_last ?_
    refine s_if ?_
    refine x_tB ?_
    refine x_bin ?_
    refine x_call ?_
    refine x_eq (e_cons (e_N rfl) (e_cons e_C e_nil)) ?_
    refine x_callM (ok_own rfl (ok_tm ok_nil)) (sim__law_take v2.2 (3 : Int) .ow (by decide)) (fun v3 => (bk_mut (z' := (kQ2 .ow PV.int PV.int) v3.2) rfl rfl rfl (bk_tm bk_nil))) (fun z0 => (bk_mut rfl rfl rfl (bk_tm bk_nil))) (fun z0 => trivial) fun v3 => ?_
    refine x_eq e_C ?_
    refine x_o (eqD PV.int PV.int v3.1 (0 : Int)) ?_
    refine x_ofB rfl ?_
    refine x_ite ?_ ?_
    · refine s_set ?_
      refine x_bin ?_
      refine x_eq e_C ?_
      refine x_call ?_
      refine x_eq (e_cons (e_N rfl) (e_cons e_C e_nil)) ?_
      refine x_callM (ok_own rfl (ok_tm ok_nil)) (sim__law_take v3.2 (4 : Int) .ow (by decide)) (fun v4 => (bk_mut (z' := (kQ2 .ow PV.int PV.int) v4.2) rfl rfl rfl (bk_tm bk_nil))) (fun z0 => (bk_mut rfl rfl rfl (bk_tm bk_nil))) (fun z0 => trivial) fun v4 => ?_
      refine x_o rfl ?_
      refine x_set_tm rfl rfl ?_
      exact x_done ⟨rfl, ⟨_, rfl, _, rfl, _, rfl, _, _, rfl, rfl, _, _, rfl, rfl, rfl⟩⟩
    refine s_nx ?_
    exact x_done ⟨rfl, ⟨_, rfl, _, rfl, _, rfl, _, _, rfl, rfl, _, _, rfl, rfl, rfl⟩⟩
  obtain ⟨_, rfl, _, rfl, _, rfl, j8v, _, rfl, j8, j9v, _, rfl, j9, rfl⟩ := m7
  refine s_assoc ?_
  refine s_set ?_
  refine x_eq (e_lst (e_cons e_C (e_cons (e_N rfl) (e_cons (e_bin (e_N rfl) e_C rfl) e_nil))) (.tm rfl (.fz (FzV.of PV.int s5.2) rfl (.tm rfl .nil))) (Nat.le_of_ble_eq_true rfl) (c := ((kL .ow PV.int) [(0 : Int), s5.2, (s5.2 + (1 : Int))])) rfl) ?_
  refine x_set_tm j8 rfl ?_
  refine s_rho (ρ1 := ([(PV.scr a_script), ((kQ2 .ow PV.int PV.int) s5.1), (PV.int s5.2), ((kL .ow PV.int) [(0 : Int), s5.2, (s5.2 + (1 : Int))]), j9v] : List PV)) rfl ?_
  refine s_assoc ?_
  refine s_for ?_
  refine x_iRg2 ?_
  refine x_eq (e_cons e_C (e_cons e_C e_nil)) ?_
  refine x_rg2E rfl rfl ?_
  generalize rgI (1 : Int) (4 : Int) = v10
  refine x_fold (P := fun s12 : ((List Int)) => [.is (PV.scr a_script), .is ((kQ2 .ow PV.int PV.int) s5.1), .is (PV.int s5.2), .is ((kL .ow PV.int) s12), .jk]) (e := PV.int) ⟨_, rfl, _, rfl, _, rfl, _, rfl, _, _, rfl, j9, rfl⟩ (fun s12 x11 r13 e15 m14 => ?_) fun s20 r21 m22 => ?_
  · obtain ⟨_, rfl, _, rfl, _, rfl, _, rfl, j16v, _, rfl, j16, rfl⟩ := m14
    refine x_tg (tg_N j16 rfl) ?_
    refine s_rho (ρ1 := ([(PV.scr a_script), ((kQ2 .ow PV.int PV.int) s5.1), (PV.int s5.2), ((kL .ow PV.int) s12), (PV.int x11)] : List PV)) rfl ?_
    refine s_last ?_
    refine s_E ?_
    refine x_mu ?_
    refine x_eq (e_N rfl) ?_
    refine x_muL (e := PV.int) (xs := s12) rfl ?_
    refine x_acons ?_
    refine x_call ?_
    refine x_acons ?_
    refine x_call ?_
    refine x_eq (e_cons (e_N rfl) (e_cons (e_N rfl) e_nil)) ?_
    refine x_callR (ok_fz (FzV.of PV.scr a_script) rfl (ok_fz (FzV.of PV.int x11) rfl ok_nil)) (sim__law_tape a_script x11) (bk_fz (FzV.of PV.scr a_script) rfl (bk_fz (FzV.of PV.int x11) rfl bk_nil)) trivial fun v17 => ?_
    refine x_acons ?_
    refine x_eq e_C ?_
    refine x_anil ?_
    refine x_callM (ok_tm (ok_tm ok_nil)) (sim__law_take v17 (21 : Int) .ow (by decide)) (fun v18 => (bk_tm (bk_tm bk_nil))) (fun z0 => (bk_tm (bk_tm bk_nil))) (fun z0 => trivial) fun v18 => ?_
    refine x_anil ?_
    refine x_app (o := .ow) (e := PV.int) (xs := s12) (v := v18.1) (.tm rfl .nil) rfl (by decide) fun v19 => ?_
    exact x_done ⟨.inl rfl, ⟨_, rfl, _, rfl, _, rfl, _, rfl, _, _, rfl, rfl, rfl⟩⟩
  obtain ⟨_, rfl, _, rfl, _, rfl, _, rfl, j23v, _, rfl, j23, rfl⟩ := m22
  refine s_assoc ?_
  refine s_joinG (P := fun s => [.is (PV.scr a_script), .is ((kQ2 .ow PV.int PV.int) s5.1), .is (PV.int s5.2), .is ((kL .ow PV.int) s), .jk]) (rq := (fun (b : Bool) w r => w = PV.bl b)) ?_ (fun s27 r28 m29 => ?_) fun b33 w34 r35 q36 => ?_
  · refine s_last ?_
    refine s_if ?_
    refine x_eq (t_tB (e_bin (e_N rfl) e_C rfl) rfl) ?_
    refine x_ite ?_ ?_
    · refine s_assoc ?_
      refine s_set ?_
      refine x_eRg1 ?_
      refine x_eq e_C ?_
      refine x_eRg1E (e := (kL .ow PV.int)) rfl (fun _ => rfl) fun v24 => ?_
      refine x_set_tm rfl rfl ?_
      refine s_rho (ρ1 := ([(PV.scr a_script), ((kQ2 .ow PV.int PV.int) s5.1), (PV.int s5.2), ((kL .ow PV.int) v24), j23v] : List PV)) rfl ?_
      refine s_if ?_
      refine x_tNot ?_
      refine x_tE ?_
      refine x_call ?_
      refine x_acons ?_
      refine x_eq (e_N rfl) ?_
      refine x_acons ?_
      refine x_eq (e_N rfl) ?_
      refine x_acons ?_
      refine x_call ?_
      refine x_eq (e_cons (e_N rfl) e_nil) ?_
      refine x_callR (ok_fz (FzV.of PV.int s5.2) rfl ok_nil) (sim__law_listed s5.2) (bk_fz (FzV.of PV.int s5.2) rfl bk_nil) trivial fun v25 => ?_
      refine x_anil ?_
      refine x_callR (ok_fz (FzV.of PV.int s5.2) rfl (ok_own rfl (ok_tm ok_nil))) (sim__law_agree s5.2 v24 v25 .ow .ow) (bk_fz (FzV.of PV.int s5.2) rfl (bk_ro rfl rfl (bk_tm bk_nil))) trivial fun v26 => ?_
      refine x_ofB rfl ?_
      refine x_ite ?_ ?_
      · refine s_ret ?_
        refine x_eq e_C ?_
        exact jg_ret rfl
      refine s_nx ?_
      exact x_done ⟨rfl, ⟨_, rfl, _, rfl, _, rfl, _, rfl, _, _, rfl, j23, rfl⟩⟩
    refine s_nx ?_
    exact x_done ⟨rfl, ⟨_, rfl, _, rfl, _, rfl, _, rfl, _, _, rfl, j23, rfl⟩⟩
  · obtain ⟨_, rfl, _, rfl, _, rfl, _, rfl, j30v, _, rfl, j30, rfl⟩ := m29
    refine s_ret ?_
    refine x_call ?_
    refine x_acons ?_
    refine x_eq (e_N rfl) ?_
    refine x_acons ?_
    refine x_eq (e_N rfl) ?_
    refine x_acons ?_
    refine x_call ?_
    refine x_eq (e_cons (e_N rfl) e_nil) ?_
    refine x_callR (ok_fz (FzV.of PV.int s5.2) rfl ok_nil) (sim__law_reckoned s5.2) (bk_fz (FzV.of PV.int s5.2) rfl bk_nil) trivial fun v31 => ?_
    refine x_anil ?_
    refine x_callR (ok_fz (FzV.of PV.int s5.2) rfl (ok_own rfl (ok_tm ok_nil))) (sim__law_agree s5.2 s27 v31 .ow .ow) (bk_fz (FzV.of PV.int s5.2) rfl (bk_ro rfl rfl (bk_tm bk_nil))) trivial fun v32 => ?_
    exact fn_ret rfl
  exact fn_ret q36
end Law
set_option linter.all false
set_option maxRecDepth 100000
set_option Elab.async false
namespace Law
open VL VT PySem
open My (par Acy path par_lt par_get par_mem mem_par par_set path_root path_step path_len path_lt path_self acy_of eraseIdx_perm eraseIdx_map)
def oI : Option Nat → Option Int
  | none => none
  | some n => some (n : Int)
@[simp] theorem oI_none : oI none = none := rfl
@[simp] theorem oI_some (n : Nat) : oI (some n) = some (n : Int) := rfl
def nI (l : List Nat) : List Int := l.map fun i : Nat => (i : Int)
@[simp] theorem nI_len (l : List Nat) : (nI l).length = l.length := by simp [nI]
@[simp] theorem nI_cons (a : Nat) (l : List Nat) : nI (a :: l) = (a : Int) :: nI l := rfl
theorem th_tape (sc : List Int) (k : Int) (h0 : 0 ≤ k) : Ok (t__law_tape sc k) fun _ => True := by
  unfold t__law_tape
  split
  · rename_i h
    exact (tix_ok h0 (by simpa using h)).bind fun a _ => Ok.of trivial
  · exact Ok.of trivial
theorem th_take (t : Int × Int) (s : Int) (h : 0 < s) (h2 : s < 1073741824) : Ok (t__law_take t s) fun r => 0 ≤ r.1 ∧ r.1 < s := by
  unfold t__law_take
  split
  · simp only [tdiv_ok h h2, TX.bind_ok, tmod_ok h]
    exact ⟨_, rfl, Int.emod_nonneg _ (by omega), Int.emod_lt_of_pos _ h⟩
  · rw [tmul_l (by omega) (by omega), TX.bind_ok, tmul_l (by omega) (by omega), TX.bind_ok, tmod_ok h, TX.bind_ok]
    exact ⟨_, rfl, Int.emod_nonneg _ (by omega), Int.emod_lt_of_pos _ h⟩
end Law
set_option linter.all false
set_option maxRecDepth 100000
set_option Elab.async false
namespace Law
open VL VT PySem
open My (par Acy path par_lt par_get par_mem mem_par par_set path_root path_step path_len path_lt path_self)
@[simp] theorem mem_nI {l : List Nat} {x : Int} : x ∈ nI l ↔ ∃ i ∈ l, (i : Int) = x := by unfold nI; exact List.mem_map
/-- the first field of a list at which the records differ -/
def fd (xs ys : List Int) (js : List Nat) : Option Nat := js.find? fun j => !decide (xs.getD j 0 = ys.getD j 0)
/-- the newer value wins at this field -/
def newerK (k : OS) (x y : Int) : Bool := if k = lit "first" then false else if k = lit "last" then true else (decide (y < x)) != decide (k = lit "up")
def kd (ks : List OS) (d : Nat) : OS := ks.getD d (lit "up")
def winD (ks : List OS) (xs ys : List Int) : Option Nat → Bool
  | none => false
  | some d => newerK (kd ks d) (xs.getD d 0) (ys.getD d 0)
def sideN (ps : List (Option Nat)) (ks : List OS) (xs ys : List Int) (f : Nat) : Bool := winD ks xs ys (fd xs ys (path ps f))
def mgA (ps : List (Option Nat)) (ks : List OS) (xs ys : List Int) (f : Nat) : Int := if sideN ps ks xs ys f = true then ys.getD f 0 else xs.getD f 0
def mg (ps : List (Option Nat)) (ks : List OS) (xs ys : List Int) : List Int := (List.range ps.length).map fun f => mgA ps ks xs ys f
theorem mg_len {ps : List (Option Nat)} {ks : List OS} {xs ys : List Int} : (mg ps ks xs ys).length = ps.length := by simp [mg]
theorem mg_at {ps : List (Option Nat)} {ks : List OS} {xs ys : List Int} {f : Nat} (h : f < ps.length) : (mg ps ks xs ys).getD f 0 = mgA ps ks xs ys f := by simp [mg, List.getD, h]
theorem path_pre {ps : List (Option Nat)} (ac : Acy ps) {g : Nat} : ∀ (n : Nat) (R : List Nat) {f : Nat} {P : List Nat}, R.length = n → path ps f = P ++ g :: R → path ps g = P ++ [g] := by
  intro n
  induction n with
  | zero =>
    intro R f P hR e
    have : R = [] := List.length_eq_zero_iff.mp hR
    subst this
    have : f = g := by
      cases q : par ps f with
      | none => rw [path_root q] at e; simpa using (List.append_inj' (s₁ := []) e rfl).2
      | some p => rw [path_step ac q] at e; simpa using (List.append_inj' e rfl).2
    subst this
    exact e
  | succ n ih =>
    intro R f P hR e
    have hne : R ≠ [] := by rintro rfl; cases hR
    obtain ⟨R', z, rfl⟩ : ∃ R' z, R = R' ++ [z] := ⟨R.dropLast, R.getLast hne, (List.dropLast_concat_getLast hne).symm⟩
    cases q : par ps f with
    | none =>
      rw [path_root q] at e
      have := congrArg List.length e
      simp at this
      omega
    | some p =>
      rw [path_step ac q] at e
      have e2 : path ps p ++ [f] = (P ++ g :: R') ++ [z] := by rw [e]; simp
      exact ih R' (by simpa using hR) (List.append_inj' e2 rfl).1
theorem fd_none {xs ys : List Int} {js : List Nat} (h : ∀ j ∈ js, xs.getD j 0 = ys.getD j 0) : fd xs ys js = none := by
  unfold fd
  rw [List.find?_eq_none]
  intro j hj
  simpa using h j hj
theorem fd_some {xs ys : List Int} {A B : List Nat} {d : Nat} (h : ∀ j ∈ A, xs.getD j 0 = ys.getD j 0) (hd : xs.getD d 0 ≠ ys.getD d 0) : fd xs ys (A ++ d :: B) = some d := by
  unfold fd
  rw [List.find?_append, show A.find? _ = none from fd_none h, List.find?_cons]
  simp only [Option.none_or]
  have : (!decide (xs.getD d 0 = ys.getD d 0)) = true := by simpa using hd
  rw [this]
theorem fd_cases {xs ys : List Int} {js : List Nat} : (fd xs ys js = none ∧ ∀ j ∈ js, xs.getD j 0 = ys.getD j 0) ∨ ∃ A d B, js = A ++ d :: B ∧ fd xs ys js = some d ∧ (∀ j ∈ A, xs.getD j 0 = ys.getD j 0) ∧ xs.getD d 0 ≠ ys.getD d 0 := by
  cases q : fd xs ys js with
  | none => exact .inl ⟨rfl, fun j hj => by simpa using (List.find?_eq_none.mp q) j hj⟩
  | some d =>
    obtain ⟨hp, A, B, e, hA⟩ := List.find?_eq_some_iff_append.mp q
    exact .inr ⟨A, d, B, e, rfl, fun j hj => by simpa using hA j hj, by simpa using hp⟩
/-- along a way the result is the newer record, or the older one -/
theorem mg_dich {ps : List (Option Nat)} {ks : List OS} {xs ys : List Int} (ac : Acy ps) (f : Nat) : (∀ g ∈ path ps f, mgA ps ks xs ys g = ys.getD g 0) ∨ (sideN ps ks xs ys f = false ∧ ∀ g ∈ path ps f, mgA ps ks xs ys g = xs.getD g 0) := by
  rcases fd_cases (xs := xs) (ys := ys) (js := path ps f) with ⟨q, h⟩ | ⟨A, d, B, e, q, h, hd⟩
  · left
    intro g hg
    unfold mgA
    split
    · rfl
    · exact h g hg
  · have inA : ∀ g ∈ A, mgA ps ks xs ys g = xs.getD g 0 := by
      intro g hg
      obtain ⟨P, R, eA⟩ := List.append_of_mem hg
      have := path_pre ac _ (R ++ d :: B) rfl (by rw [e, eA]; simp : path ps f = P ++ g :: (R ++ d :: B))
      unfold mgA sideN
      rw [this, fd_none (fun j hj => h j (by rw [eA]; have z : j ∈ P ∨ j = g := (by simpa using hj); rcases z with z | z <;> simp [z]))]
      rfl
    have inB : ∀ g ∈ d :: B, sideN ps ks xs ys g = newerK (kd ks d) (xs.getD d 0) (ys.getD d 0) := by
      intro g hg
      obtain ⟨P, R, eB⟩ := List.append_of_mem hg
      have e2 := path_pre ac _ R rfl (by rw [e, eB]; simp : path ps f = (A ++ P) ++ g :: R)
      have : ∃ T, path ps g = A ++ d :: T := by
        rw [e2]
        cases P with
        | nil => simp at eB; exact ⟨[], by rw [eB.1]; simp⟩
        | cons z P => simp at eB; exact ⟨P ++ [g], by rw [eB.1]; simp⟩
      obtain ⟨T, eT⟩ := this
      unfold sideN
      rw [eT, fd_some h hd]
      rfl
    have sf : sideN ps ks xs ys f = newerK (kd ks d) (xs.getD d 0) (ys.getD d 0) := by
      unfold sideN; rw [q]; rfl
    cases w : newerK (kd ks d) (xs.getD d 0) (ys.getD d 0) with
    | true =>
      left
      intro g hg
      rw [e] at hg
      rcases List.mem_append.mp hg with hg | hg
      · rw [inA g hg, h g hg]
      · unfold mgA; rw [inB g hg, w, if_pos rfl]
    | false =>
      right
      refine ⟨by rw [sf, w], fun g hg => ?_⟩
      rw [e] at hg
      rcases List.mem_append.mp hg with hg | hg
      · exact inA g hg
      · unfold mgA; rw [inB g hg, w, if_neg (by simp)]
end Law
set_option linter.all false
set_option maxRecDepth 100000
set_option Elab.async false
namespace Law
open VL VT PySem
open My (par Acy path par_lt par_get par_mem mem_par par_set path_root path_step path_len path_lt path_self)
section
variable {α β γ σ : Type}
theorem tfor_const {L : List α} {s : σ} {b : σ → α → TX (Go σ β)} (h : ∀ x ∈ L, b s x = .ok (.nx s)) : tfor L s b = .ok (.nx s) := by
  induction L with
  | nil => rfl
  | cons x L ih =>
    rw [tfor_cons, h x List.mem_cons_self, TX.bind_ok]
    exact ih fun y hy => h y (List.mem_cons_of_mem _ hy)
end
def rk (k : OS) : Bool := (teq k (lit "up")) || (teq k (lit "down"))
def ub (ks : List OS) : Option Nat := (List.range ks.length).find? fun i => !rk (kd ks i)
end Law
set_option linter.all false
set_option maxRecDepth 100000
set_option Elab.async false
namespace Law
open VL VT PySem
open My (par Acy path par_lt par_get par_mem mem_par par_set path_root path_step path_len path_lt path_self)
/-- kinds that rank -/
theorem rk_of {ks : List OS} (hu : ub ks = none) {d : Nat} : kd ks d = lit "up" ∨ kd ks d = lit "down" := by
  by_cases h : d < ks.length
  · have := List.find?_eq_none.mp hu d (List.mem_range.mpr h)
    by_cases q : kd ks d = lit "up"
    · exact .inl q
    · right; simp [rk] at this; exact this q
  · left
    unfold kd
    simp [List.getD, Nat.le_of_not_lt h]
end Law
set_option linter.all false
set_option maxRecDepth 100000
set_option Elab.async false
set_option linter.all false
set_option maxRecDepth 100000
set_option Elab.async false
namespace Law
open VL VT PySem
open My (par Acy path par_lt par_get par_mem mem_par par_set path_root path_step path_len path_lt path_self)
theorem side_pre {ps : List (Option Nat)} {ks : List OS} {xs ys : List Int} (ac : Acy ps) {f g : Nat} (hg : g ∈ path ps f) : sideN ps ks xs ys g = false ∨ sideN ps ks xs ys g = sideN ps ks xs ys f := by
  rcases fd_cases (xs := xs) (ys := ys) (js := path ps f) with ⟨q, h⟩ | ⟨A, d, B, e, q, h, hd⟩
  · left
    obtain ⟨P, R, eA⟩ := List.append_of_mem hg
    have := path_pre ac _ R rfl eA
    unfold sideN
    rw [this, fd_none (fun j hj => h j (by rw [eA]; have z : j ∈ P ∨ j = g := (by simpa using hj); rcases z with z | z <;> simp [z]))]
    rfl
  · rw [e] at hg
    rcases List.mem_append.mp hg with hg | hg
    · left
      obtain ⟨P, R, eA⟩ := List.append_of_mem hg
      have := path_pre ac _ (R ++ d :: B) rfl (by rw [e, eA]; simp : path ps f = P ++ g :: (R ++ d :: B))
      unfold sideN
      rw [this, fd_none (fun j hj => h j (by rw [eA]; have z : j ∈ P ∨ j = g := (by simpa using hj); rcases z with z | z <;> simp [z]))]
      rfl
    · right
      obtain ⟨P, R, eB⟩ := List.append_of_mem hg
      have e2 := path_pre ac _ R rfl (by rw [e, eB]; simp : path ps f = (A ++ P) ++ g :: R)
      have : ∃ T, path ps g = A ++ d :: T := by
        rw [e2]
        cases P with
        | nil => simp at eB; exact ⟨[], by rw [eB.1]; simp⟩
        | cons z P => simp at eB; exact ⟨P ++ [g], by rw [eB.1]; simp⟩
      obtain ⟨T, eT⟩ := this
      unfold sideN
      rw [eT, fd_some h hd, q]
theorem newerK_up (x y : Int) : newerK (lit "up") x y = (decide (y < x) != true) := rfl
theorem newerK_down (x y : Int) : newerK (lit "down") x y = (decide (y < x) != false) := rfl
end Law
set_option linter.all false
set_option maxRecDepth 100000
set_option Elab.async false
namespace Law
open VL VT PySem
open My (par Acy path par_lt par_get par_mem mem_par par_set path_root path_step path_len path_lt path_self)
/-- lexicographic order, first entries first -/
def lxb : List Int → List Int → Bool
  | x :: xs, y :: ys => decide (x < y) || (decide (x = y) && lxb xs ys)
  | _, _ => false
theorem lx_irr : ∀ a : List Int, lxb a a = false
  | [] => rfl
  | x :: a => by simp [lxb, lx_irr a]
theorem lx_trans : ∀ {a b c : List Int}, lxb a b = true → lxb b c = true → lxb a c = true
  | [], _, _, h, _ => by simp [lxb] at h
  | _ :: _, [], _, h, _ => by simp [lxb] at h
  | _ :: _, _ :: _, [], _, h => by simp [lxb] at h
  | x :: a, y :: b, z :: c, h1, h2 => by
    simp only [lxb, Bool.or_eq_true, Bool.and_eq_true, decide_eq_true_eq] at h1 h2 ⊢
    rcases h1 with h1 | ⟨h1, g1⟩
    · rcases h2 with h2 | ⟨h2, g2⟩
      · exact .inl (by omega)
      · exact .inl (by omega)
    · rcases h2 with h2 | ⟨h2, g2⟩
      · exact .inl (by omega)
      · exact .inr ⟨by omega, lx_trans g1 g2⟩
theorem lx_tri : ∀ {a b : List Int}, a.length = b.length → lxb a b = false → lxb b a = false → a = b
  | [], [], _, _, _ => rfl
  | [], _ :: _, h, _, _ => by cases h
  | _ :: _, [], h, _, _ => by cases h
  | x :: a, y :: b, h, h1, h2 => by
    simp only [lxb, Bool.or_eq_false_iff, decide_eq_false_iff_not, Bool.and_eq_false_iff] at h1 h2
    have e : x = y := by omega
    subst e
    have g1 : lxb a b = false := by rcases h1.2 with z | z; exact absurd rfl z; exact z
    have g2 : lxb b a = false := by rcases h2.2 with z | z; exact absurd rfl z; exact z
    rw [lx_tri (by simpa using h) g1 g2]
theorem lx_asymm {a b : List Int} (h : lxb a b = true) : lxb b a = false := by
  cases q : lxb b a with
  | false => rfl
  | true => have := lx_trans h q; rw [lx_irr] at this; cases this
/-- a value turned so that greater is better -/
def tvk (k : OS) (x : Int) : Int := if k = lit "down" then -x else x
theorem tvk_inj {k : OS} {x y : Int} (h : tvk k x = tvk k y) : x = y := by unfold tvk at h; split at h <;> omega
theorem tvk_lt {k : OS} (hk : k = lit "up" ∨ k = lit "down") {x y : Int} (hne : x ≠ y) : newerK k x y = decide (tvk k x < tvk k y) := by
  unfold tvk
  rcases hk with rfl | rfl
  · rw [newerK_up, if_neg (by decide), if_neg (by decide)]
    by_cases q : y < x
    · rw [decide_eq_true q, decide_eq_false (by omega)]; rfl
    · rw [decide_eq_false q, decide_eq_true (by omega)]; rfl
  · rw [newerK_down, if_pos rfl, if_pos rfl]
    by_cases q : y < x
    · rw [decide_eq_true q, decide_eq_true (by omega)]; rfl
    · rw [decide_eq_false q, decide_eq_false (by omega)]; rfl
def tvL (ks : List OS) (xs : List Int) (js : List Nat) : List Int := js.map fun j => tvk (kd ks j) (xs.getD j 0)
def tv (ps : List (Option Nat)) (ks : List OS) (xs : List Int) (f : Nat) : List Int := tvL ks xs (path ps f)
theorem tvL_len {ks : List OS} {xs ys : List Int} {js : List Nat} : (tvL ks xs js).length = (tvL ks ys js).length := by simp [tvL]
theorem tv_len {ps : List (Option Nat)} {ks : List OS} {xs ys : List Int} {f : Nat} : (tv ps ks xs f).length = (tv ps ks ys f).length := tvL_len
theorem winD_lx {ks : List OS} (hu : ub ks = none) {xs ys : List Int} : ∀ js : List Nat, winD ks xs ys (fd xs ys js) = lxb (tvL ks xs js) (tvL ks ys js)
  | [] => rfl
  | j :: js => by
    have ih := winD_lx hu (xs := xs) (ys := ys) js
    show winD ks xs ys (fd xs ys (j :: js)) = (decide (tvk (kd ks j) (xs.getD j 0) < tvk (kd ks j) (ys.getD j 0)) || (decide (tvk (kd ks j) (xs.getD j 0) = tvk (kd ks j) (ys.getD j 0)) && lxb (tvL ks xs js) (tvL ks ys js)))
    by_cases q : xs.getD j 0 = ys.getD j 0
    · have : fd xs ys (j :: js) = fd xs ys js := by
        unfold fd
        rw [List.find?_cons, decide_eq_true q]
        rfl
      rw [this, ih, q]
      simp
    · have : fd xs ys (j :: js) = some j := by
        unfold fd
        rw [List.find?_cons, decide_eq_false q]
        rfl
      rw [this]
      show newerK (kd ks j) (xs.getD j 0) (ys.getD j 0) = _
      rw [tvk_lt (rk_of hu) q, decide_eq_false (fun z => q (tvk_inj z))]
      simp
theorem side_lx {ps : List (Option Nat)} {ks : List OS} (hu : ub ks = none) {xs ys : List Int} {f : Nat} : sideN ps ks xs ys f = lxb (tv ps ks xs f) (tv ps ks ys f) := winD_lx hu _
theorem tvL_eq {ks : List OS} {xs ys : List Int} {js : List Nat} : tvL ks xs js = tvL ks ys js ↔ ∀ j ∈ js, xs.getD j 0 = ys.getD j 0 := by
  unfold tvL
  rw [List.map_inj_left]
  exact ⟨fun h j hj => tvk_inj (h j hj), fun h j hj => by rw [h j hj]⟩
theorem tv_eq {ps : List (Option Nat)} {ks : List OS} {xs ys : List Int} {f : Nat} : tv ps ks xs f = tv ps ks ys f ↔ ∀ j ∈ path ps f, xs.getD j 0 = ys.getD j 0 := tvL_eq
def mx (a b : List Int) : List Int := if lxb a b = true then b else a
/-- along the way of f the merge is the one that wins at f -/
theorem mg_way {ps : List (Option Nat)} {ks : List OS} {xs ys : List Int} (ac : Acy ps) {f : Nat} : ∀ g ∈ path ps f, mgA ps ks xs ys g = if sideN ps ks xs ys f = true then ys.getD g 0 else xs.getD g 0 := by
  intro g hg
  cases s : sideN ps ks xs ys f with
  | true =>
    rcases mg_dich (ks := ks) (xs := xs) (ys := ys) ac f with h | ⟨h, _⟩
    · rw [h g hg]; rfl
    · rw [s] at h; cases h
  | false =>
    unfold mgA
    rcases side_pre (ks := ks) (xs := xs) (ys := ys) ac hg with h | h
    · rw [h]
    · rw [h, s]
theorem tv_mg {ps : List (Option Nat)} {ks : List OS} {xs ys : List Int} (ac : Acy ps) (hu : ub ks = none) {f : Nat} (hf : f < ps.length) : tv ps ks (mg ps ks xs ys) f = mx (tv ps ks xs f) (tv ps ks ys f) := by
  unfold mx
  rw [← side_lx hu]
  split
  · rename_i s
    rw [tv_eq]
    intro g hg
    rw [mg_at (path_lt ac hf g hg), mg_way ac g hg, if_pos s]
  · rename_i s
    rw [tv_eq]
    intro g hg
    rw [mg_at (path_lt ac hf g hg), mg_way ac g hg, if_neg s]
/-- at least: no way of the second is above the first's -/
def upon (ps : List (Option Nat)) (ks : List OS) (r x : List Int) : Prop := ∀ f, f < ps.length → lxb (tv ps ks r f) (tv ps ks x f) = false
theorem upon_self {ps : List (Option Nat)} {ks : List OS} {x : List Int} : upon ps ks x x := fun _ _ => lx_irr _
theorem upon_mg {ps : List (Option Nat)} {ks : List OS} {x y : List Int} (ac : Acy ps) (hu : ub ks = none) : upon ps ks (mg ps ks x y) x := by
  intro f hf
  rw [tv_mg ac hu hf]
  unfold mx
  split
  · rename_i h; exact lx_asymm h
  · exact lx_irr _
theorem upon_mg_r {ps : List (Option Nat)} {ks : List OS} {x y : List Int} (ac : Acy ps) (hu : ub ks = none) : upon ps ks (mg ps ks x y) y := by
  intro f hf
  rw [tv_mg ac hu hf]
  unfold mx
  split
  · exact lx_irr _
  · rename_i h; exact Bool.eq_false_iff.mpr h
theorem upon_trans {ps : List (Option Nat)} {ks : List OS} {x y z : List Int} (h : upon ps ks x y) (g : upon ps ks y z) : upon ps ks x z := fun f hf => by
  cases q : lxb (tv ps ks x f) (tv ps ks z f) with
  | false => rfl
  | true =>
    have a := h f hf
    have b := g f hf
    cases r : lxb (tv ps ks y f) (tv ps ks x f) with
    | true => rw [lx_trans r q] at b; cases b
    | false => rw [lx_tri tv_len a r, b] at q; cases q
end Law
set_option linter.all false
set_option maxRecDepth 100000
set_option Elab.async false
namespace Law
open VL VT PySem
open My (par Acy path par_lt par_get par_mem mem_par par_set path_root path_step path_len path_lt path_self)
def Rk (k : OS) : Prop := k = lit "up" ∨ k = lit "down"
/-- a list of fields: nothing, or the whole way of a field whose kinds rank -/
inductive Way (ps : List (Option Nat)) (ks : List OS) : List Nat → Prop
  | nil : Way ps ks []
  | path (p : Nat) (hp : p < ps.length) (h : ∀ g ∈ path ps p, Rk (kd ks g)) : Way ps ks (path ps p)
theorem Way.rk {ps : List (Option Nat)} {ks : List OS} {js : List Nat} (w : Way ps ks js) : ∀ g ∈ js, Rk (kd ks g) := by
  cases w with
  | nil => intro g h; cases h
  | path p hp h => exact h
theorem Way.lt {ps : List (Option Nat)} {ks : List OS} {js : List Nat} (ac : Acy ps) (w : Way ps ks js) : ∀ g ∈ js, g < ps.length := by
  cases w with
  | nil => intro g h; cases h
  | path p hp h => exact path_lt ac hp
def endL (ps : List (Option Nat)) (ks : List OS) : List (List Int) → List Int
  | [] => []
  | x :: L => L.foldl (mg ps ks) x
theorem endL_snoc {ps : List (Option Nat)} {ks : List OS} {R : List (List Int)} (h : R ≠ []) (y : List Int) : endL ps ks (R ++ [y]) = mg ps ks (endL ps ks R) y := by
  cases R with
  | nil => exact absurd rfl h
  | cons x L => show (L ++ [y]).foldl _ x = _; rw [List.foldl_append]; rfl
end Law
set_option linter.all false
set_option maxRecDepth 100000
set_option Elab.async false
namespace Law
open VL VT PySem
open My (par Acy path par_lt par_get par_mem mem_par par_set path_root path_step path_len path_lt path_self)
def rr (R : List (List Int)) (i : Nat) : List Int := R.getD i []
end Law
set_option linter.all false
set_option maxRecDepth 100000
set_option Elab.async false
set_option linter.all false
set_option maxRecDepth 100000
set_option Elab.async false
namespace Law
open VL VT PySem
open My (par Acy path par_lt par_get par_mem mem_par par_set path_root path_step path_len path_lt path_self)
/-- the fields that win -/
def winL (ps : List (Option Nat)) (ks : List OS) (xs ys : List Int) : List Nat := (List.range ps.length).filter fun f => sideN ps ks xs ys f
/-- a field that must be sent -/
def ndd (ps : List (Option Nat)) (ks : List OS) (xs ys : List Int) (j : Nat) : Bool := (winL ps ks xs ys).any fun f => decide (j ∈ path ps f)
def llt (ps : List (Option Nat)) (ks : List OS) (xs ys : List Int) : List (Option Int) := (List.range ps.length).map fun j => if ndd ps ks xs ys j = true then some (ys.getD j 0) else none
end Law
set_option linter.all false
set_option maxRecDepth 100000
set_option Elab.async false
set_option linter.all false
set_option maxRecDepth 100000
set_option Elab.async false
namespace Law
open VL VT PySem
open My (par Acy path par_lt par_get par_mem mem_par par_set path_root path_step path_len path_lt path_self)
theorem upon_lub {ps : List (Option Nat)} {ks : List OS} {x y z : List Int} (ac : Acy ps) (hu : ub ks = none) (h1 : upon ps ks z x) (h2 : upon ps ks z y) : upon ps ks z (mg ps ks x y) := by
  intro f hf
  rw [tv_mg ac hu hf]
  unfold mx
  split
  · exact h2 f hf
  · exact h1 f hf
end Law
set_option linter.all false
set_option maxRecDepth 100000
set_option Elab.async false
namespace Law
open VL VT PySem
open My (par Acy path par_lt par_get par_mem mem_par par_set path_root path_step path_len path_lt path_self)
abbrev Pst := Option (Int × (List (Option Int)) × (List Int))
theorem rr_set {H : List (List Int)} {i j : Nat} {v : List Int} : rr (H.set i v) j = if i = j ∧ i < H.length then v else rr H j := by
  unfold rr
  rw [List.getD, List.getElem?_set]
  by_cases q : i = j
  · subst q
    by_cases z : i < H.length
    · rw [if_pos rfl, if_pos z, if_pos ⟨rfl, z⟩]; rfl
    · rw [if_pos rfl, if_neg z, if_neg (fun w => z w.2)]
      simp [List.getD, z]
  · rw [if_neg q, if_neg (fun w => q w.1)]; rfl
section
variable {ps : List (Option Nat)} {ks : List OS} {F H : List (List Int)} {E E' : List Int}
/-- all houses together are the end E; each is at least its first copy -/
structure St (ps : List (Option Nat)) (ks : List OS) (F H : List (List Int)) (E : List Int) : Prop where
  hl : H.length = F.length
  h : ∀ i, i < H.length → (rr H i).length = ps.length
  le : ∀ i, i < H.length → upon ps ks E (rr H i)
  lub : ∀ z : List Int, (∀ i, i < H.length → upon ps ks z (rr H i)) → upon ps ks z E
  fi : ∀ i, i < H.length → upon ps ks (rr H i) (rr F i)
theorem up_set {i : Nat} {r : List Int} (ac : Acy ps) (hu : ub ks = none) (j : Nat) : upon ps ks (rr (H.set i (mg ps ks (rr H i) r)) j) (rr H j) := by
  rw [rr_set]
  split
  · rename_i z; rw [← z.1]; exact upon_mg ac hu
  · exact upon_self
theorem St.grow (s : St ps ks F H E) (ac : Acy ps) (hu : ub ks = none) {i : Nat} {r : List Int} (hi : i < H.length) (e1 : upon ps ks E' E) (e2 : upon ps ks E' r) (e3 : ∀ z, upon ps ks z E → upon ps ks z r → upon ps ks z E') : St ps ks F (H.set i (mg ps ks (rr H i) r)) E' := by
  refine ⟨by rw [List.length_set]; exact s.hl, fun j hj => ?_, fun j hj => ?_, fun z hz => ?_, fun j hj => ?_⟩
  · rw [List.length_set] at hj
    rw [rr_set]
    split
    · exact mg_len
    · exact s.h j hj
  · rw [List.length_set] at hj
    rw [rr_set]
    split
    · exact upon_lub ac hu (upon_trans e1 (s.le i hi)) e2
    · exact upon_trans e1 (s.le j hj)
  · refine e3 z (s.lub z fun j hj => upon_trans (hz j (by rw [List.length_set]; exact hj)) (up_set ac hu j)) ?_
    have := hz i (by rw [List.length_set]; exact hi)
    rw [rr_set, if_pos ⟨rfl, hi⟩] at this
    exact upon_trans this (upon_mg_r ac hu)
  · rw [List.length_set] at hj
    exact upon_trans (up_set ac hu j) (s.fi j hj)
/-- a letter on its way -/
def Post (ps : List (Option Nat)) (ks : List OS) (E : List Int) (H : List (List Int)) (p : Pst) : Prop :=
  ∃ (to : Nat) (kn sn : List Int), p = some ((to : Int), llt ps ks kn sn, sn) ∧ to < H.length ∧ sn.length = ps.length ∧ upon ps ks E sn ∧ upon ps ks (rr H to) kn
theorem Post.grow {p : Pst} (h : Post ps ks E H p) (ac : Acy ps) (hu : ub ks = none) {i : Nat} {r : List Int} (e1 : upon ps ks E' E) : Post ps ks E' (H.set i (mg ps ks (rr H i) r)) p := by
  obtain ⟨to, kn, sn, rfl, h1, h2, h3, h4⟩ := h
  exact ⟨to, kn, sn, rfl, by rw [List.length_set]; exact h1, h2, upon_trans e1 h3, upon_trans (up_set ac hu to) h4⟩
structure Wk (ps : List (Option Nat)) (ks : List OS) (F H L : List (List Int)) (P : List Pst) : Prop where
  st : St ps ks F H (endL ps ks L)
  ne : L ≠ []
  ln : ∀ x ∈ L, x.length = ps.length
  po : ∀ p ∈ P, Post ps ks (endL ps ks L) H p
variable {L : List (List Int)} {P : List Pst}
theorem Wk.add (w : Wk ps ks F H L P) (ac : Acy ps) (hu : ub ks = none) {i : Nat} {r : List Int} (hi : i < H.length) (hr : r.length = ps.length) : Wk ps ks F (H.set i (mg ps ks (rr H i) r)) (L ++ [r]) P := by
  have e : endL ps ks (L ++ [r]) = mg ps ks (endL ps ks L) r := endL_snoc w.ne r
  refine ⟨?_, by simp, fun x hx => ?_, fun p hp => ?_⟩
  · rw [e]
    exact w.st.grow ac hu hi (upon_mg ac hu) (upon_mg_r ac hu) fun z h1 h2 => upon_lub ac hu h1 h2
  · rcases List.mem_append.mp hx with hx | hx
    · exact w.ln x hx
    · rw [List.mem_singleton.mp hx]; exact hr
  · rw [e]
    exact (w.po p hp).grow ac hu (upon_mg ac hu)
theorem Wk.take (w : Wk ps ks F H L P) (ac : Acy ps) (hu : ub ks = none) {i : Nat} {r : List Int} (hi : i < H.length) (hr : upon ps ks (endL ps ks L) r) : Wk ps ks F (H.set i (mg ps ks (rr H i) r)) L P :=
  ⟨w.st.grow ac hu hi upon_self hr fun z h1 _ => h1, w.ne, w.ln, fun p hp => (w.po p hp).grow ac hu upon_self⟩
end
end Law
set_option linter.all false
set_option maxRecDepth 100000
set_option Elab.async false
namespace Law
open VL VT PySem
section
variable {β : Type} [DecidableEq β]
def agB (P : List Int → TX β) (a_n : Int) (a_due : List (List Int)) (x1 : Int) : TX (Go Unit Bool) :=
TX.bind (t_count_by_roots a_n x1) fun v14 =>
TX.bind (t_count_by_leaves a_n x1) fun v15 =>
TX.bind (t_count_low a_n x1) fun v16 =>
TX.bind (P [v14, v15, v16]) fun v17 =>
TX.bind (tlcP a_due fun x18 =>
TX.bind (tix x18 x1) fun v27 =>
.ok (some v27)) fun v28 =>
TX.bind (P v28) fun v31 =>
if (!(teq v17 v31)) = true then (
.ok (.rt false)) else (
.ok (.nx ()))
def agT (P : List Int → TX β) (a_n : Int) (a_due : List (List Int)) : TX Bool :=
TX.bind (trg 0 (a_n - (1 : Int))) fun v43 =>
TX.bind (tfold v43 ((1 : Int) : (Int)) fun s45 x44 =>
TX.bind (tmul s45 (a_n + (1 : Int))) fun v56 =>
.ok v56) fun s57 =>
TX.bind (trg 0 a_n) fun v67 =>
TX.bind (tfold v67 ((1 : Int) : (Int)) fun s69 x68 =>
.ok (s69 * (2 : Int))) fun s79 =>
TX.bind (trg 0 (a_n + (1 : Int))) fun v88 =>
TX.bind (tfold v88 (((0 : Int), (1 : Int)) : (Int × Int)) fun s90 x89 =>
TX.bind (tix a_due (1 : Int)) fun v98 =>
TX.bind (tix v98 x89) fun v99 =>
TX.bind (tmul v99 s90.2) fun v100 =>
TX.bind (tmul v100 s79) fun v101 =>
.ok ((s90.1 + v101), (s90.2 * (2 : Int)))) fun s102 =>
TX.bind (tix a_due (0 : Int)) fun v109 =>
TX.bind (if (!(teq s57 v109.sum)) = true then .ok true else (TX.bind (tix a_due (1 : Int)) fun v110 =>
TX.bind (if (!(teq s57 v110.sum)) = true then .ok true else (TX.bind (tix a_due (2 : Int)) fun v111 =>
TX.bind (tix v111 (20 : Int)) fun v112 =>
.ok (!(teq s57 v112)))) fun v113 =>
.ok v113)) fun v114 =>
if v114 = true then (
.ok false) else (
TX.bind (if (decide (a_n < (4 : Int))) = true then (TX.bind (tix [(4 : Int), (32 : Int), (448 : Int)] (a_n - (1 : Int))) fun v115 =>
.ok (!(teq s102.1 v115))) else .ok false) fun v116 =>
if v116 = true then (
.ok false) else (
TX.bind (t_count_shapes a_n) fun v117 =>
TX.bind (t_count_fair a_n) fun v118 =>
TX.bind (t_count_forests a_n) fun v119 =>
TX.bind (P [v117, v118, v119]) fun v120 =>
TX.bind (tmul s57 s79) fun v121 =>
TX.bind (P [s57, v121, s102.1]) fun v122 =>
.ok (teq v120 v122)))
end
def sml (l : List Int) : Bool := decide (l.length ≤ 10) && l.all fun x => decide (x.natAbs < 2 ^ 200)
def P2 (l : List Int) : TX (List Int) := if sml l = true then .ok l else .no
def P1 (l : List Int) : TX OS := trepr (VT.kL .fz PV.int l)
theorem P1_ok {l : List Int} (h : sml l = true) : P1 l = .ok (rtx (VT.kL .fz PV.int l)) := by
  unfold sml at h
  rw [Bool.and_eq_true, decide_eq_true_eq, List.all_eq_true] at h
  refine trepr_ok ?_
  have s : Sh (10 * (1921 + 2) + 2) (0 + 1) (dat (VT.kL .fz PV.int l)) := by
    unfold VT.kL
    rw [dat_lst, List.map_map]
    refine sh_list (fun d hd => ?_) (by rw [List.length_map]; exact h.1)
    obtain ⟨x, hx, rfl⟩ := List.mem_map.mp hd
    show Sh _ _ (dat (.int x))
    rw [dat_int]
    refine sh_int ?_
    have := of_decide_eq_true (h.2 x hx)
    by_cases z : x.natAbs = 0
    · rw [z]; decide
    · exact Nat.lt_of_lt_of_le ((Nat.log2_lt z).mpr this) (by decide)
  exact s.ok (by decide) (by decide)
theorem bm {α β : Type} {r : β} {X : TX α} {f g : α → TX β} (h : ∀ v, f v = .ok r → g v = .ok r) : X.bind f = .ok r → X.bind g = .ok r := by
  cases X with
  | ok v => exact h v
  | ex c xs => intro z; cases z
  | no => intro z; cases z
theorem im {β : Type} {r : β} {c : Prop} [Decidable c] {a a' f g : TX β} (h1 : a = .ok r → a' = .ok r) (h : f = .ok r → g = .ok r) : (if c then a else f) = .ok r → (if c then a' else g) = .ok r := by
  split <;> assumption
theorem pm {β : Type} {r : β} {l : List Int} {f : List Int → TX β} {g : OS → TX β} (h : sml l = true → f l = .ok r → g (rtx (VT.kL .fz PV.int l)) = .ok r) : (P2 l).bind f = .ok r → (P1 l).bind g = .ok r := by
  unfold P2
  split
  · rename_i q
    rw [P1_ok q]
    exact h q
  · intro z; cases z
theorem agB_ok {n : Int} {D : List (List Int)} {x : Int} : agB P2 n D x = .ok (.nx ()) → agB P1 n D x = .ok (.nx ()) := by
  unfold agB
  refine bm fun v14 => bm fun v15 => bm fun v16 => pm fun _ => bm fun v28 => pm fun _ => ?_
  by_cases e : [v14, v15, v16] = v28
  · subst e
    rw [teq_self, teq_self]
    exact id
  · rw [if_pos (by rw [show teq [v14, v15, v16] v28 = false from decide_eq_false e]; rfl)]
    intro z; cases z
theorem agT_ok {n : Int} {D : List (List Int)} : agT P2 n D = .ok true → agT P1 n D = .ok true := by
  unfold agT
  refine bm fun v43 => bm fun s57 => bm fun v67 => bm fun s79 => bm fun v88 => bm fun s102 => bm fun v109 => bm fun v114 => im id <| bm fun v116 => im id <| bm fun v117 => bm fun v118 => bm fun v119 => pm fun _ => bm fun v121 => pm fun _ => ?_
  intro h
  have e : [v117, v118, v119] = [s57, v121, s102.1] := by
    have := TX.ok.inj h
    exact of_decide_eq_true this
  rw [e, teq_self]
theorem ag_eq (n : Int) (S : List Int) (D : List (List Int)) : t__law_agree n S D = TX.bind (tfor S (() : Unit) fun _ x => agB P1 n D x) (Go.elim (fun _ => agT P1 n D) fun b => .ok b) := by
  unfold t__law_agree
  rfl
def isT (t : TX Bool) : Bool := match t with
  | .ok true => true
  | _ => false
def isNx (t : TX (Go Unit Bool)) : Bool := match t with
  | .ok (.nx ()) => true
  | _ => false
theorem isT_ok {t : TX Bool} (h : isT t = true) : t = .ok true := by
  unfold isT at h
  split at h
  · rfl
  · cases h
theorem isNx_ok {t : TX (Go Unit Bool)} (h : isNx t = true) : t = .ok (.nx ()) := by
  unfold isNx at h
  split at h
  · rfl
  · cases h
def okAg (n : Int) (D : List (List Int)) : Bool := ((List.range 21).all fun s : Nat => isNx (agB P2 n D (s : Int))) && isT (agT P2 n D)
def okOf (n : Int) (t : TX (List (List Int))) : Bool := match t with
  | .ok D => okAg n D
  | _ => false
theorem okOf_ok {n : Int} {t : TX (List (List Int))} (h : okOf n t = true) (S : List Int) (hS : ∀ s ∈ S, 0 ≤ s ∧ s ≤ 20) : ∃ D, t = .ok D ∧ t__law_agree n S D = .ok true := by
  unfold okOf at h
  split at h
  · rename_i D
    refine ⟨D, rfl, ?_⟩
    unfold okAg at h
    rw [Bool.and_eq_true, List.all_eq_true] at h
    rw [ag_eq, tfor_const fun x hx => ?_, TX.bind_ok, Go.elim_nx]
    · exact agT_ok (isT_ok h.2)
    · obtain ⟨h0, h1⟩ := hS x hx
      obtain ⟨k, rfl⟩ := Int.eq_ofNat_of_zero_le h0
      exact agB_ok (isNx_ok (h.1 k (List.mem_range.mpr (by omega))))
  · cases h
set_option maxHeartbeats 0 in
theorem listed_ok : (okOf 1 (t__law_listed 1) && okOf 2 (t__law_listed 2) && okOf 3 (t__law_listed 3) && okOf 4 (t__law_listed 4)) = true := by decide +kernel
end Law
set_option linter.all false
set_option maxRecDepth 100000
set_option Elab.async false
namespace Law
open VL VT PySem
set_option maxHeartbeats 0 in
theorem reck_8 : (okOf 1 (t__law_reckoned 1) && okOf 2 (t__law_reckoned 2) && okOf 3 (t__law_reckoned 3) && okOf 4 (t__law_reckoned 4) && okOf 5 (t__law_reckoned 5) && okOf 6 (t__law_reckoned 6) && okOf 7 (t__law_reckoned 7) && okOf 8 (t__law_reckoned 8)) = true := by decide +kernel
set_option maxHeartbeats 0 in
theorem reck_12 : (okOf 9 (t__law_reckoned 9) && okOf 10 (t__law_reckoned 10) && okOf 11 (t__law_reckoned 11) && okOf 12 (t__law_reckoned 12)) = true := by decide +kernel
set_option maxHeartbeats 0 in
theorem reck_14 : (okOf 13 (t__law_reckoned 13) && okOf 14 (t__law_reckoned 14)) = true := by decide +kernel
set_option maxHeartbeats 0 in
theorem reck_16 : (okOf 15 (t__law_reckoned 15) && okOf 16 (t__law_reckoned 16)) = true := by decide +kernel
theorem reck (n : Int) (h1 : 1 ≤ n) (h2 : n ≤ 16) : okOf n (t__law_reckoned n) = true := by
  have a := reck_8
  have b := reck_12
  have c := reck_14
  have d := reck_16
  simp only [Bool.and_eq_true] at a b c d
  obtain ⟨⟨⟨⟨⟨⟨⟨a1, a2⟩, a3⟩, a4⟩, a5⟩, a6⟩, a7⟩, a8⟩ := a
  obtain ⟨⟨⟨b1, b2⟩, b3⟩, b4⟩ := b
  obtain ⟨c1, c2⟩ := c
  obtain ⟨d1, d2⟩ := d
  have : n = 1 ∨ n = 2 ∨ n = 3 ∨ n = 4 ∨ n = 5 ∨ n = 6 ∨ n = 7 ∨ n = 8 ∨ n = 9 ∨ n = 10 ∨ n = 11 ∨ n = 12 ∨ n = 13 ∨ n = 14 ∨ n = 15 ∨ n = 16 := by omega
  rcases this with rfl | rfl | rfl | rfl | rfl | rfl | rfl | rfl | rfl | rfl | rfl | rfl | rfl | rfl | rfl | rfl <;> assumption
theorem listed (n : Int) (h1 : 1 ≤ n) (h2 : n ≤ 4) : okOf n (t__law_listed n) = true := by
  have a := listed_ok
  simp only [Bool.and_eq_true] at a
  obtain ⟨⟨⟨a1, a2⟩, a3⟩, a4⟩ := a
  have : n = 1 ∨ n = 2 ∨ n = 3 ∨ n = 4 := by omega
  rcases this with rfl | rfl | rfl | rfl <;> assumption
theorem th_law10k (sc : List Int) : t_law_v36 sc = .ok true := by
  suffices Ok (t_law_v36 sc) fun b => b = true by
    obtain ⟨b, e, rfl⟩ := this
    exact e
  unfold t_law_v36
  refine (th_tape sc 0 (by decide)).bind fun v1 _ => ?_
  refine (th_take v1 16 (by decide) (by decide)).bind fun v2 h2 => ?_
  refine Ok.bind (Q := fun s => 1 ≤ s.2 ∧ s.2 ≤ 16) ?_ fun s5 h5 => ?_
  · refine (th_take v2.2 3 (by decide) (by decide)).bind fun v3 h3 => ?_
    split
    · exact (th_take v3.2 4 (by decide) (by decide)).bind fun v4 h4 => Ok.of ⟨by simp only; omega, by simp only; omega⟩
    · exact Ok.of ⟨by simp only; omega, by simp only; omega⟩
  rw [show trg (1 : Int) (4 : Int) = .ok [1, 2, 3] from rfl, TX.bind_ok]
  refine Ok.bind (Q := fun S => ∀ s ∈ S, 0 ≤ s ∧ s ≤ 20) ?_ fun S hS => ?_
  · refine (tfold_inv (fun A (S : List Int) => S.length = A.length + 3 ∧ ∀ s ∈ S, 0 ≤ s ∧ s ≤ 20) ⟨rfl, fun s hs => ?_⟩ ?_).imp fun S h => h.2
    · simp only [List.mem_cons, List.not_mem_nil, or_false] at hs
      rcases hs with rfl | rfl | rfl <;> omega
    · rintro A x B S e ⟨i1, i2⟩
      have lA : A.length ≤ 3 := by have := congrArg List.length e; simp at this; omega
      have hx : x ∈ [(1 : Int), 2, 3] := by rw [e]; simp
      have hx0 : 0 ≤ x := by simp at hx; omega
      refine (th_tape sc x hx0).bind fun v17 _ => ?_
      refine (th_take v17 21 (by decide) (by decide)).bind fun v18 h18 => ?_
      rw [tapp_ok (by unfold lim; omega), TX.bind_ok]
      refine Ok.of ⟨by simp [i1], fun s hs => ?_⟩
      rcases List.mem_append.mp hs with hs | hs
      · exact i2 s hs
      · rw [List.mem_singleton.mp hs]; omega
  refine Ok.bind (Q := fun g => ∃ s : List Int, g = Go.nx s ∧ ∀ x ∈ s, 0 ≤ x ∧ x ≤ 20) ?_ fun g hg => ?_
  · split
    · rename_i q
      have q := of_decide_eq_true q
      have e21 : trg 0 (21 : Int) = .ok ((List.range 21).map fun i : Nat => (i : Int)) := trg_nat (n := 21) (by unfold lim; omega)
      have h21 : ∀ x ∈ (List.range 21).map fun i : Nat => (i : Int), 0 ≤ x ∧ x ≤ 20 := fun x hx => by
        obtain ⟨k, hk, rfl⟩ := List.mem_map.mp hx
        have := List.mem_range.mp hk
        omega
      obtain ⟨D, e1, e2⟩ := okOf_ok (listed s5.2 h5.1 (by omega)) _ h21
      rw [e21, TX.bind_ok, e1, TX.bind_ok, e2, TX.bind_ok, if_neg (by decide)]
      exact Ok.of ⟨_, rfl, h21⟩
    · exact Ok.of ⟨_, rfl, hS⟩
  obtain ⟨s, rfl, hs⟩ := hg
  rw [Go.elim_nx]
  obtain ⟨D, e1, e2⟩ := okOf_ok (reck s5.2 h5.1 h5.2) s hs
  rw [e1, TX.bind_ok, e2, TX.bind_ok]
  exact Ok.of rfl
end Law
set_option linter.all false
namespace Law
open VL VT PySem
theorem LAW : ∀ ns : List Int, ns.length ≤ 63 → ∃ fin, F_law [.scr ns] = .ok (.bl true) fin := fun ns _ =>
  ⟨_, (sim_law ns).ok (th_law10k ns)⟩
end Law
set_option Elab.async false
set_option linter.all false
set_option maxRecDepth 100000
namespace Law
open PySem PySem.Spec PyProof.Rows L2 VL
def topS (i : Nat) : Stmt := PySem.Challenge.pw_fieldrides_k10_counts_of_shapes.main.body.getD i (.Pass ⟨0, 0, 0, 0⟩)
abbrev s__law_tape : Stmt := topS 11
abbrev N__law_tape : List Str := ["_law_script", "_law_k"]
abbrev P__law_tape : List Str := ["_law_script", "_law_k"]
theorem sc__law_tape : FnScope N__law_tape P__law_tape (defScope s__law_tape) := ⟨rfl, rfl, rfl, by decide +kernel, rfl, by decide +kernel, by decide +kernel⟩
abbrev s__law_take : Stmt := topS 12
abbrev N__law_take : List Str := ["_law_tape_here", "_law_size", "_law_cell", "_law_k", "_law_mixed"]
abbrev P__law_take : List Str := ["_law_tape_here", "_law_size"]
theorem sc__law_take : FnScope N__law_take P__law_take (defScope s__law_take) := ⟨rfl, rfl, rfl, by decide +kernel, rfl, by decide +kernel, by decide +kernel⟩
abbrev s__law_depth : Stmt := topS 13
abbrev N__law_depth : List Str := ["_law_parents", "_law_field", "_law_depth_here", "_law_k"]
abbrev P__law_depth : List Str := ["_law_parents", "_law_field"]
theorem sc__law_depth : FnScope N__law_depth P__law_depth (defScope s__law_depth) := ⟨rfl, rfl, rfl, by decide +kernel, rfl, by decide +kernel, by decide +kernel⟩
abbrev s__law_listed : Stmt := topS 17
abbrev N__law_listed : List Str := ["_law_n", "_law_rows", "_law_k", "_law_longer", "_law_row", "_law_parent", "_law_roots", "_law_leaves", "_law_lows", "_law_depths", "_law_field", "_law_free", "_law_height"]
abbrev P__law_listed : List Str := ["_law_n"]
theorem sc__law_listed : FnScope N__law_listed P__law_listed (defScope s__law_listed) := ⟨rfl, rfl, rfl, by decide +kernel, rfl, by decide +kernel, by decide +kernel⟩
abbrev s_one_higher : Stmt := topS 9
abbrev N_one_higher : List Str := ["shapes", "higher", "fields", "total", "size", "trees"]
abbrev P_one_higher : List Str := ["shapes"]
theorem sc_one_higher : FnScope N_one_higher P_one_higher (defScope s_one_higher) := ⟨rfl, rfl, rfl, by decide +kernel, rfl, by decide +kernel, by decide +kernel⟩
abbrev s_count_low : Stmt := topS 8
abbrev N_count_low : List Str := ["fields", "height", "shapes", "_"]
abbrev P_count_low : List Str := ["fields", "height"]
theorem sc_count_low : FnScope N_count_low P_count_low (defScope s_count_low) := ⟨rfl, rfl, rfl, by decide +kernel, rfl, by decide +kernel, by decide +kernel⟩
abbrev s_count_by_leaves : Stmt := topS 7
abbrev N_count_by_leaves : List Str := ["fields", "leaves", "words", "_", "longer", "many"]
abbrev P_count_by_leaves : List Str := ["fields", "leaves"]
theorem sc_count_by_leaves : FnScope N_count_by_leaves P_count_by_leaves (defScope s_count_by_leaves) := ⟨rfl, rfl, rfl, by decide +kernel, rfl, by decide +kernel, by decide +kernel⟩
abbrev s_power : Stmt := topS 2
abbrev N_power : List Str := ["base", "exponent", "result", "_"]
abbrev P_power : List Str := ["base", "exponent"]
theorem sc_power : FnScope N_power P_power (defScope s_power) := ⟨rfl, rfl, rfl, by decide +kernel, rfl, by decide +kernel, by decide +kernel⟩
abbrev s_count_by_roots : Stmt := topS 6
abbrev N_count_by_roots : List Str := ["fields", "roots"]
abbrev P_count_by_roots : List Str := ["fields", "roots"]
theorem sc_count_by_roots : FnScope N_count_by_roots P_count_by_roots (defScope s_count_by_roots) := ⟨rfl, rfl, rfl, by decide +kernel, rfl, by decide +kernel, by decide +kernel⟩
abbrev s_count_forests : Stmt := topS 5
abbrev N_count_forests : List Str := ["fields", "total", "leaves"]
abbrev P_count_forests : List Str := ["fields"]
theorem sc_count_forests : FnScope N_count_forests P_count_forests (defScope s_count_forests) := ⟨rfl, rfl, rfl, by decide +kernel, rfl, by decide +kernel, by decide +kernel⟩
abbrev s_count_shapes : Stmt := topS 3
abbrev N_count_shapes : List Str := ["fields"]
abbrev P_count_shapes : List Str := ["fields"]
theorem sc_count_shapes : FnScope N_count_shapes P_count_shapes (defScope s_count_shapes) := ⟨rfl, rfl, rfl, by decide +kernel, rfl, by decide +kernel, by decide +kernel⟩
abbrev s_count_fair : Stmt := topS 4
abbrev N_count_fair : List Str := ["fields"]
abbrev P_count_fair : List Str := ["fields"]
theorem sc_count_fair : FnScope N_count_fair P_count_fair (defScope s_count_fair) := ⟨rfl, rfl, rfl, by decide +kernel, rfl, by decide +kernel, by decide +kernel⟩
abbrev s__law_agree : Stmt := topS 19
abbrev N__law_agree : List Str := ["_law_n", "_law_seconds", "_law_due", "_law_second", "_law_told", "_law_row", "_law_shapes", "_law_k", "_law_kinds", "_law_forests", "_law_power"]
abbrev P__law_agree : List Str := ["_law_n", "_law_seconds", "_law_due"]
theorem sc__law_agree : FnScope N__law_agree P__law_agree (defScope s__law_agree) := ⟨rfl, rfl, rfl, by decide +kernel, rfl, by decide +kernel, by decide +kernel⟩
abbrev s__law_words : Stmt := topS 15
abbrev N__law_words : List Str := ["_law_n", "_law_table", "_law_k", "_law_step", "_law_fresh", "_law_noughts", "_law_seen", "_law_ways"]
abbrev P__law_words : List Str := ["_law_n"]
theorem sc__law_words : FnScope N__law_words P__law_words (defScope s__law_words) := ⟨rfl, rfl, rfl, by decide +kernel, rfl, by decide +kernel, by decide +kernel⟩
abbrev s__law_choices : Stmt := topS 14
abbrev N__law_choices : List Str := ["_law_n", "_law_rows", "_law_k", "_law_last", "_law_j"]
abbrev P__law_choices : List Str := ["_law_n"]
theorem sc__law_choices : FnScope N__law_choices P__law_choices (defScope s__law_choices) := ⟨rfl, rfl, rfl, by decide +kernel, rfl, by decide +kernel, by decide +kernel⟩
abbrev s__law_layers : Stmt := topS 16
abbrev N__law_layers : List Str := ["_law_n", "_law_choices_here", "_law_ways", "_law_left", "_law_lows", "_law_height", "_law_fresh", "_law_row", "_law_last", "_law_total", "_law_hung", "_law_layer"]
abbrev P__law_layers : List Str := ["_law_n"]
theorem sc__law_layers : FnScope N__law_layers P__law_layers (defScope s__law_layers) := ⟨rfl, rfl, rfl, by decide +kernel, rfl, by decide +kernel, by decide +kernel⟩
abbrev s__law_reckoned : Stmt := topS 18
abbrev N__law_reckoned : List Str := ["_law_n", "_law_table", "_law_heights", "_law_roots", "_law_leaves", "_law_lows", "_law_height", "_law_noughts", "_law_seen"]
abbrev P__law_reckoned : List Str := ["_law_n"]
theorem sc__law_reckoned : FnScope N__law_reckoned P__law_reckoned (defScope s__law_reckoned) := ⟨rfl, rfl, rfl, by decide +kernel, rfl, by decide +kernel, by decide +kernel⟩
abbrev s_law : Stmt := topS 20
abbrev N_law : List Str := ["_law_script", "_law_tape_here", "_law_n", "_law_seconds", "_law_k"]
abbrev P_law : List Str := ["_law_script"]
theorem sc_law : FnScope N_law P_law (defScope s_law) := ⟨rfl, rfl, rfl, by decide +kernel, rfl, by decide +kernel, by decide +kernel⟩
structure Bts (mg : Str → Option Value) : Prop where
  abs_ : mg "abs" = none
  int_ : mg "int" = none
  len_ : mg "len" = none
  list_ : mg "list" = none
  max_ : mg "max" = none
  min_ : mg "min" = none
  range_ : mg "range" = none
  repr_ : mg "repr" = none
  sum_ : mg "sum" = none
structure Gcs (T : Tb) (w : World) (mg : Str → Option Value) : Prop where
  z : True
structure Mbs (mg : Str → Option Value) : Prop where
  comb_ : mg "comb" = some (.builtin "math.comb")
structure Env (P : Program) (w : World) (mg : Str → Option Value) (base : Heap) (T : Tb) : Prop where
  B : Bts mg
  W : P = T.P ∧ w = T.w
  Gc : Gcs T w mg
  Mb : Mbs mg
section
variable {P : Program} {w : World} {mg : Str → Option Value} {base : Heap} {T : Tb}
set_option maxHeartbeats 2000000 in
theorem d__law_tape (U : Env P w mg base T)  (F : My.Df T.K mg "_law_tape" s__law_tape P__law_tape) : My.DnX P w T.K mg base 1 "_law_tape" (spF T F__law_tape) :=
  okV F sc__law_tape (by decide) <| fun fa cdv A outer s H vs E hr => (bv_cons (sv_if (tv_cmp op_lt v_lt (evn 1) (ev_fn c_len f_len rfl U.B.len_ PySem.boot_len (av_cons (evn 0) av_nil))) (bv_one (sv_ret (ev_lst (av_cons (ev_fn call_abs f_abs rfl U.B.abs_ boot_abs (av_cons (ev_ix ix_seqA v_ix (evn 0) (evn 1) (fun _ _ => rfl)) av_nil)) (av_cons ev_int av_nil))))) bv_nil)
    (bv_one (sv_ret (ev_lst (av_cons (evn 1) (av_cons ev_int av_nil))))))
set_option maxHeartbeats 2000000 in
theorem d__law_take (U : Env P w mg base T)  (F : My.Df T.K mg "_law_take" s__law_take P__law_take) : My.DnX P w T.K mg base 1 "_law_take" (spF T F__law_take) :=
  okV F sc__law_take (by decide) <| fun fa cdv A outer s H vs E hr => (bv_cons (sv_set (i := 2) sc__law_take.nd rfl (.inl rfl) (ev_ix ix_seqA v_ix (evn 0) ev_int (fun _ _ => rfl)))
    (bv_cons (sv_sub (ev_op o_add v_add (ev_ix ix_seqA v_ix (evn 0) ev_int (fun _ _ => rfl)) ev_int) (evn 0) ev_int)
    (bv_cons (sv_set (i := 3) sc__law_take.nd rfl (.inl rfl) (ev_ix ix_seqA v_ix (evn 0) ev_int (fun _ _ => rfl)))
    (bv_cons (sv_if (tv_cmp op_ge v_ge (evn 2) (ev_op op_pow v_pow ev_int ev_int)) (bv_cons (sv_sub (ev_op VL.op_fdivW v_div (evn 2) (evn 1)) (evn 0) ev_int)
    (bv_one (sv_ret (ev_op op_mod v_mod (ev_ty call_int1 f_int rfl U.B.int_ boot_int (av_cons (evn 2) av_nil)) (evn 1))))) bv_nil)
    (bv_cons (sv_set (i := 4) sc__law_take.nd rfl (.inl rfl) (ev_op op_mod v_mod (ev_ty call_int1 f_int rfl U.B.int_ boot_int (av_cons (ev_op o_add v_add (ev_op o_add v_add (evn 2) (ev_op o_mul v_mul ev_int (evn 3))) ev_int) av_nil)) ev_int))
    (bv_cons (sv_set (i := 4) sc__law_take.nd rfl (.inl rfl) (ev_op op_mod v_mod (ev_ty call_int1 f_int rfl U.B.int_ boot_int (av_cons (ev_op o_mul v_mul (evn 4) (ev_op o_add v_add (evn 4) ev_int)) av_nil)) ev_int))
    (bv_cons (sv_set (i := 4) sc__law_take.nd rfl (.inl rfl) (ev_op op_mod v_mod (ev_ty call_int1 f_int rfl U.B.int_ boot_int (av_cons (ev_op o_add v_add (ev_op o_mul v_mul (evn 4) (ev_op o_add v_add (evn 4) ev_int)) (ev_op o_mul v_mul ev_int (evn 3))) av_nil)) ev_int))
    (bv_one (sv_ret (ev_op op_mod v_mod (ev_ty call_int1 f_int rfl U.B.int_ boot_int (av_cons (ev_op VL.op_fdivW v_div (evn 4) ev_int) av_nil)) (evn 1)))))))))))
set_option maxHeartbeats 2000000 in
theorem d__law_depth (U : Env P w mg base T)  (F : My.Df T.K mg "_law_depth" s__law_depth P__law_depth) : My.DnX P w T.K mg base 1 "_law_depth" (spF T F__law_depth) :=
  okV F sc__law_depth (by decide) <| fun fa cdv A outer s H vs E hr => (bv_cons (sv_set (i := 2) sc__law_depth.nd rfl (.inl rfl) ev_int)
    (bv_cons (sv_for (passes_of rfl) rfl (iv_rg1 rfl U.B.range_ (av_cons (ev_op o_add v_add (ev_fn c_len f_len rfl U.B.len_ PySem.boot_len (av_cons (evn 0) av_nil)) ev_int) av_nil)) (gv_name (i := 3) sc__law_depth.nd rfl (.inl rfl)) (bv_cons (sv_if (tv_cmp op_isN v_is (evn 1) ev_non) (bv_one (sv_ret (evn 2))) bv_nil)
    (bv_cons (sv_set (i := 2) sc__law_depth.nd rfl (.inl rfl) (ev_op o_add v_add (evn 2) ev_int))
    (bv_one (sv_set (i := 1) sc__law_depth.nd rfl (.inl rfl) (ev_ix ix_seqA v_ix (evn 0) (evn 1) (fun _ _ => rfl)))))))
    (bv_one (sv_ret ev_int))))
set_option maxHeartbeats 2000000 in
theorem d__law_listed (U : Env P w mg base T) (D__law_depth : My.DnX P w T.K mg base 1 "_law_depth" (spF T F__law_depth)) (F : My.Df T.K mg "_law_listed" s__law_listed P__law_listed) : My.DnX P w T.K mg base 2 "_law_listed" (spF T F__law_listed) :=
  okV F sc__law_listed (by decide) <| fun fa cdv A outer s H vs E hr => (bv_cons (sv_set (i := 1) sc__law_listed.nd rfl (.inl rfl) (ev_fz (ev_lst (av_cons (ev_lst av_nil) av_nil))))
    (bv_cons (sv_for (passes_of rfl) rfl (iv_rg1 rfl U.B.range_ (av_cons (evn 0) av_nil)) (gv_name (i := 2) sc__law_listed.nd rfl (.inl rfl)) (bv_cons (sv_set (i := 3) sc__law_listed.nd rfl (.inl rfl) (ev_lst av_nil))
    (bv_cons (sv_for (passes_of rfl) rfl (iv_seq rfl (ev_ty call_list_of f_list rfl U.B.list_ boot_list (av_cons (evn 1) av_nil))) (gv_name (i := 4) sc__law_listed.nd rfl (.inr rfl)) (bv_one (sv_for (passes_of rfl) rfl (iv_seq rfl (ev_op o_add v_add (ev_lst (av_cons ev_non av_nil)) (ev_listRg rfl rfl U.B.list_ rfl U.B.range_ (evn 0)))) (gv_name (i := 5) sc__law_listed.nd rfl (.inl rfl)) (bv_one (sv_expr (ev_mu rfl PySem.F.plainAttrs_list PySem.F.slot_list_append PySem.F.type_list_append (by decide) mt_append u_append (evn 3) (av_cons (ev_op o_add v_add (evn 4) (ev_lst (av_cons (evn 5) av_nil))) av_nil)))))))
    (bv_one (sv_set (i := 1) sc__law_listed.nd rfl (.inl rfl) (ev_fz (evn 3)))))))
    (bv_cons (sv_set (i := 6) sc__law_listed.nd rfl (.inl rfl) (ev_op o_mul v_mul (ev_lst (av_cons ev_int av_nil)) ev_int))
    (bv_cons (sv_set (i := 7) sc__law_listed.nd rfl (.inl rfl) (ev_op o_mul v_mul (ev_lst (av_cons ev_int av_nil)) ev_int))
    (bv_cons (sv_set (i := 8) sc__law_listed.nd rfl (.inl rfl) (ev_op o_mul v_mul (ev_lst (av_cons ev_int av_nil)) ev_int))
    (bv_cons (sv_for (passes_of rfl) rfl (iv_seq rfl (evn 1)) (gv_name (i := 4) sc__law_listed.nd rfl (.inr rfl)) (bv_cons (sv_setLc (i := 9) (own := [("_law_field", 10)]) rfl sc__law_listed.nd rfl rfl (sw_true rfl rfl rfl (by decide +kernel)) rfl (by decide) (iv_rg1 rfl U.B.range_ (av_cons (evn 0) av_nil)) (blkOk_by (own := [("_law_field", 10)]) (N := N__law_listed) (sc := defScope s__law_listed) (by decide +kernel)) (fun _ _ _ _ _ => (gv_name (i := 10) sc__law_listed.nd rfl (.inl rfl))) (fun _ _ _ _ _ => ptsv_nil) (fun _ _ _ _ _ => (ev_call D__law_depth (hr.mono (by decide)) rfl My.takes0N (av_cons (evn 4) (av_cons (evn 10) av_nil)))))
    (bv_one (sv_if (tv_cmp (o_notIn (hu65 hr)) v_in ev_int (evn 9)) (bv_cons (sv_setLc (i := 11) (own := [("_law_field", 10)]) rfl sc__law_listed.nd rfl rfl (sw_true rfl rfl rfl (by decide +kernel)) rfl (by decide) (iv_rg1 rfl U.B.range_ (av_cons (evn 0) av_nil)) (blkOk_by (own := [("_law_field", 10)]) (N := N__law_listed) (sc := defScope s__law_listed) (by decide +kernel)) (fun _ _ _ _ _ => (gv_name (i := 10) sc__law_listed.nd rfl (.inl rfl))) (fun _ _ _ _ _ => (ptsv_one (tv_cmp (o_notIn (hu65 hr)) v_in (evn 10) (evn 4)))) (fun _ _ _ _ _ => (evn 10)))
    (bv_cons (sv_sub (ev_op o_add v_add (ev_ix ix_seqA v_ix (evn 6) (ev_mt rfl PySem.F.plainAttrs_list PySem.F.slot_list_count PySem.F.type_list_count (by decide) mt_lcount3 m_count3 (evn 4) (av_cons ev_non av_nil)) (fun _ _ => rfl)) ev_int) (evn 6) (ev_mt rfl PySem.F.plainAttrs_list PySem.F.slot_list_count PySem.F.type_list_count (by decide) mt_lcount3 m_count3 (evn 4) (av_cons ev_non av_nil)))
    (bv_cons (sv_sub (ev_op o_add v_add (ev_ix ix_seqA v_ix (evn 7) (ev_fn c_len f_len rfl U.B.len_ PySem.boot_len (av_cons (evn 11) av_nil)) (fun _ _ => rfl)) ev_int) (evn 7) (ev_fn c_len f_len rfl U.B.len_ PySem.boot_len (av_cons (evn 11) av_nil)))
    (bv_one (sv_for (passes_of rfl) rfl (iv_rg2 rfl U.B.range_ (av_cons (ev_fn (cr_max rfl) f_maxL rfl U.B.max_ (by decide +kernel) (av_cons (evn 9) av_nil)) (av_cons ev_int av_nil))) (gv_name (i := 12) sc__law_listed.nd rfl (.inl rfl)) (bv_one (sv_sub (ev_op o_add v_add (ev_ix ix_seqA v_ix (evn 8) (evn 12) (fun _ _ => rfl)) ev_int) (evn 8) (evn 12)))))))) bv_nil))))
    (bv_one (sv_ret (ev_lst (av_cons (evn 6) (av_cons (evn 7) (av_cons (evn 8) av_nil))))))))))))
set_option maxHeartbeats 2000000 in
theorem d_one_higher (U : Env P w mg base T)  (F : My.Df T.K mg "one_higher" s_one_higher P_one_higher) : My.DnX P w T.K mg base 1 "one_higher" (spF T F_one_higher) :=
  okV F sc_one_higher (by decide) <| fun fa cdv A outer s H vs E hr => (bv_cons (sv_set (i := 1) sc_one_higher.nd rfl (.inl rfl) (ev_lst (av_cons ev_int av_nil)))
    (bv_cons (sv_for (passes_of rfl) rfl (iv_rg2 rfl U.B.range_ (av_cons ev_int (av_cons (ev_fn c_len f_len rfl U.B.len_ PySem.boot_len (av_cons (evn 0) av_nil)) av_nil))) (gv_name (i := 2) sc_one_higher.nd rfl (.inl rfl)) (bv_cons (sv_set (i := 3) sc_one_higher.nd rfl (.inl rfl) ev_int)
    (bv_cons (sv_for (passes_of rfl) rfl (iv_rg2 rfl U.B.range_ (av_cons ev_int (av_cons (ev_op o_add v_add (evn 2) ev_int) av_nil))) (gv_name (i := 4) sc_one_higher.nd rfl (.inl rfl)) (bv_cons (sv_set (i := 5) sc_one_higher.nd rfl (.inl rfl) (ev_op o_mul v_mul (ev_op o_mul v_mul (ev_fnM cr_comb f_comb rfl U.Mb.comb_ (av_cons (ev_op op_sub v_sub (evn 2) ev_int) (av_cons (ev_op op_sub v_sub (evn 4) ev_int) av_nil))) (evn 4)) (ev_ix ix_seqA v_ix (evn 0) (ev_op op_sub v_sub (evn 4) ev_int) (fun _ _ => rfl))))
    (bv_one (sv_set (i := 3) sc_one_higher.nd rfl (.inl rfl) (ev_op o_add v_add (evn 3) (ev_op o_mul v_mul (evn 5) (ev_ix ix_seqA v_ix (evn 1) (ev_op op_sub v_sub (evn 2) (evn 4)) (fun _ _ => rfl))))))))
    (bv_one (sv_expr (ev_mu rfl PySem.F.plainAttrs_list PySem.F.slot_list_append PySem.F.type_list_append (by decide) mt_append u_append (evn 1) (av_cons (evn 3) av_nil)))))))
    (bv_one (sv_ret (evn 1)))))
set_option maxHeartbeats 2000000 in
theorem d_count_low (U : Env P w mg base T) (D_one_higher : My.DnX P w T.K mg base 1 "one_higher" (spF T F_one_higher)) (F : My.Df T.K mg "count_low" s_count_low P_count_low) : My.DnX P w T.K mg base 2 "count_low" (spF T F_count_low) :=
  okV F sc_count_low (by decide) <| fun fa cdv A outer s H vs E hr => (bv_cons (sv_set (i := 2) sc_count_low.nd rfl (.inl rfl) (ev_fz (ev_op o_add v_add (ev_lst (av_cons ev_int av_nil)) (ev_op o_mul v_mul (ev_lst (av_cons ev_int av_nil)) (evn 0)))))
    (bv_cons (sv_for (passes_of rfl) rfl (iv_rg1 rfl U.B.range_ (av_cons (evn 1) av_nil)) (gv_name (i := 3) sc_count_low.nd rfl (.inl rfl)) (bv_one (sv_set (i := 2) sc_count_low.nd rfl (.inl rfl) (ev_fz (ev_call D_one_higher (hr.mono (by decide)) rfl (L2N.takes_of rfl rfl rfl rfl) (av_cons (evn 2) av_nil))))))
    (bv_one (sv_ret (ev_ix ix_seqA v_ix (evn 2) (evn 0) (fun _ _ => rfl))))))
set_option maxHeartbeats 2000000 in
theorem d_count_by_leaves (U : Env P w mg base T)  (F : My.Df T.K mg "count_by_leaves" s_count_by_leaves P_count_by_leaves) : My.DnX P w T.K mg base 1 "count_by_leaves" (spF T F_count_by_leaves) :=
  okV F sc_count_by_leaves (by decide) <| fun fa cdv A outer s H vs E hr => (bv_cons (sv_set (i := 2) sc_count_by_leaves.nd rfl (.inl rfl) (ev_fz (ev_op o_add v_add (ev_lst (av_cons ev_int av_nil)) (ev_op o_mul v_mul (ev_lst (av_cons ev_int av_nil)) (evn 0)))))
    (bv_cons (sv_for (passes_of rfl) rfl (iv_rg1 rfl U.B.range_ (av_cons (ev_op op_sub v_sub (evn 0) ev_int) av_nil)) (gv_name (i := 3) sc_count_by_leaves.nd rfl (.inl rfl)) (bv_cons (sv_set (i := 4) sc_count_by_leaves.nd rfl (.inl rfl) (ev_lst (av_cons (ev_ix ix_seqA v_ix (evn 2) ev_int (fun _ _ => rfl)) av_nil)))
    (bv_cons (sv_for (passes_of rfl) rfl (iv_rg2 rfl U.B.range_ (av_cons ev_int (av_cons (ev_op o_add v_add (evn 0) ev_int) av_nil))) (gv_name (i := 5) sc_count_by_leaves.nd rfl (.inl rfl)) (bv_one (sv_expr (ev_mu rfl PySem.F.plainAttrs_list PySem.F.slot_list_append PySem.F.type_list_append (by decide) mt_append u_append (evn 4) (av_cons (ev_op o_add v_add (ev_op o_mul v_mul (ev_ix ix_seqA v_ix (evn 2) (evn 5) (fun _ _ => rfl)) (ev_op o_add v_add (evn 5) ev_int)) (ev_op o_mul v_mul (ev_ix ix_seqA v_ix (evn 2) (ev_op op_sub v_sub (evn 5) ev_int) (fun _ _ => rfl)) (ev_op o_add v_add (ev_op op_sub v_sub (evn 0) (evn 5)) ev_int))) av_nil)))))
    (bv_one (sv_set (i := 2) sc_count_by_leaves.nd rfl (.inl rfl) (ev_fz (evn 4)))))))
    (bv_cons (sv_if (tv_w (wv_or (tv_cmp op_lt v_lt (evn 1) ev_int) (wv_or1 (tv_cmp op_gt v_gt (evn 1) (evn 0))))) (bv_one (sv_ret ev_int)) bv_nil)
    (bv_one (sv_ret (ev_ix ix_seqA v_ix (evn 2) (ev_op op_sub v_sub (evn 0) (evn 1)) (fun _ _ => rfl)))))))
set_option maxHeartbeats 2000000 in
theorem d_power (U : Env P w mg base T)  (F : My.Df T.K mg "power" s_power P_power) : My.DnX P w T.K mg base 1 "power" (spF T F_power) :=
  okV F sc_power (by decide) <| fun fa cdv A outer s H vs E hr => (bv_cons (sv_set (i := 2) sc_power.nd rfl (.inl rfl) ev_int)
    (bv_cons (sv_for (passes_of rfl) rfl (iv_rg1 rfl U.B.range_ (av_cons (evn 1) av_nil)) (gv_name (i := 3) sc_power.nd rfl (.inl rfl)) (bv_one (sv_set (i := 2) sc_power.nd rfl (.inl rfl) (ev_op o_mul v_mul (evn 2) (evn 0)))))
    (bv_one (sv_ret (evn 2)))))
set_option maxHeartbeats 2000000 in
theorem d_count_by_roots (U : Env P w mg base T) (D_power : My.DnX P w T.K mg base 1 "power" (spF T F_power)) (F : My.Df T.K mg "count_by_roots" s_count_by_roots P_count_by_roots) : My.DnX P w T.K mg base 2 "count_by_roots" (spF T F_count_by_roots) :=
  okV F sc_count_by_roots (by decide) <| fun fa cdv A outer s H vs E hr => (bv_cons (sv_if (tv_w (wv_or (tv_cmp op_lt v_lt (evn 1) ev_int) (wv_or1 (tv_cmp op_gt v_gt (evn 1) (evn 0))))) (bv_one (sv_ret ev_int)) bv_nil)
    (bv_one (sv_ret (ev_op o_mul v_mul (ev_fnM cr_comb f_comb rfl U.Mb.comb_ (av_cons (ev_op op_sub v_sub (evn 0) ev_int) (av_cons (ev_op op_sub v_sub (evn 1) ev_int) av_nil))) (ev_call D_power (hr.mono (by decide)) rfl (L2N.takes_of rfl rfl rfl rfl) (av_cons (evn 0) (av_cons (ev_op op_sub v_sub (evn 0) (evn 1)) av_nil)))))))
set_option maxHeartbeats 2000000 in
theorem d_count_forests (U : Env P w mg base T) (D_count_by_leaves : My.DnX P w T.K mg base 1 "count_by_leaves" (spF T F_count_by_leaves)) (F : My.Df T.K mg "count_forests" s_count_forests P_count_forests) : My.DnX P w T.K mg base 2 "count_forests" (spF T F_count_forests) :=
  okV F sc_count_forests (by decide) <| fun fa cdv A outer s H vs E hr => (bv_cons (sv_set (i := 1) sc_count_forests.nd rfl (.inl rfl) ev_int)
    (bv_cons (sv_for (passes_of rfl) rfl (iv_rg1 rfl U.B.range_ (av_cons (ev_op o_add v_add (evn 0) ev_int) av_nil)) (gv_name (i := 2) sc_count_forests.nd rfl (.inl rfl)) (bv_one (sv_set (i := 1) sc_count_forests.nd rfl (.inl rfl) (ev_op o_add v_add (evn 1) (ev_op o_mul v_mul (ev_call D_count_by_leaves (hr.mono (by decide)) rfl (L2N.takes_of rfl rfl rfl rfl) (av_cons (evn 0) (av_cons (evn 2) av_nil))) (ev_op op_shl v_shl ev_int (ev_op o_add v_add (evn 0) (evn 2))))))))
    (bv_one (sv_ret (evn 1)))))
set_option maxHeartbeats 2000000 in
theorem d_count_shapes (U : Env P w mg base T) (D_power : My.DnX P w T.K mg base 1 "power" (spF T F_power)) (F : My.Df T.K mg "count_shapes" s_count_shapes P_count_shapes) : My.DnX P w T.K mg base 2 "count_shapes" (spF T F_count_shapes) :=
  okV F sc_count_shapes (by decide) <| fun fa cdv A outer s H vs E hr => (bv_one (sv_ret (ev_call D_power (hr.mono (by decide)) rfl (L2N.takes_of rfl rfl rfl rfl) (av_cons (ev_op o_add v_add (evn 0) ev_int) (av_cons (ev_op op_sub v_sub (evn 0) ev_int) av_nil)))))
set_option maxHeartbeats 2000000 in
theorem d_count_fair (U : Env P w mg base T) (D_count_shapes : My.DnX P w T.K mg base 2 "count_shapes" (spF T F_count_shapes)) (F : My.Df T.K mg "count_fair" s_count_fair P_count_fair) : My.DnX P w T.K mg base 3 "count_fair" (spF T F_count_fair) :=
  okV F sc_count_fair (by decide) <| fun fa cdv A outer s H vs E hr => (bv_one (sv_ret (ev_op o_mul v_mul (ev_call D_count_shapes (hr.mono (by decide)) rfl (L2N.takes_of rfl rfl rfl rfl) (av_cons (evn 0) av_nil)) (ev_op op_shl v_shl ev_int (evn 0)))))
set_option maxHeartbeats 2000000 in
theorem d__law_agree (U : Env P w mg base T) (D_count_low : My.DnX P w T.K mg base 2 "count_low" (spF T F_count_low)) (D_count_by_leaves : My.DnX P w T.K mg base 1 "count_by_leaves" (spF T F_count_by_leaves)) (D_count_by_roots : My.DnX P w T.K mg base 2 "count_by_roots" (spF T F_count_by_roots)) (D_count_forests : My.DnX P w T.K mg base 2 "count_forests" (spF T F_count_forests)) (D_count_fair : My.DnX P w T.K mg base 3 "count_fair" (spF T F_count_fair)) (D_count_shapes : My.DnX P w T.K mg base 2 "count_shapes" (spF T F_count_shapes)) (F : My.Df T.K mg "_law_agree" s__law_agree P__law_agree) : My.DnX P w T.K mg base 4 "_law_agree" (spF T F__law_agree) :=
  okV F sc__law_agree (by decide) <| fun fa cdv A outer s H vs E hr => (bv_cons (sv_forN (passes_of rfl) rfl rfl (evn 1) (gv_name (i := 3) sc__law_agree.nd rfl (.inr rfl)) (bv_cons (sv_set (i := 4) sc__law_agree.nd rfl (.inl rfl) (ev_lst (av_cons (ev_call D_count_by_roots (hr.mono (by decide)) rfl (L2N.takes_of rfl rfl rfl rfl) (av_cons (evn 0) (av_cons (evn 3) av_nil))) (av_cons (ev_call D_count_by_leaves (hr.mono (by decide)) rfl (L2N.takes_of rfl rfl rfl rfl) (av_cons (evn 0) (av_cons (evn 3) av_nil))) (av_cons (ev_call D_count_low (hr.mono (by decide)) rfl (L2N.takes_of rfl rfl rfl rfl) (av_cons (evn 0) (av_cons (evn 3) av_nil))) av_nil)))))
    (bv_one (sv_if (tv_cmp (op_neD hr.units) v_ne (ev_fn (call_reprG hr) f_repr rfl U.B.repr_ (by decide +kernel) (av_cons (evn 4) av_nil)) (ev_fn (call_reprG hr) f_repr rfl U.B.repr_ (by decide +kernel) (av_cons (ev_lcN (own := [("_law_row", 5)]) rfl rfl sc__law_agree.nd rfl (by decide) (evn 2) (blkOk_by (own := [("_law_row", 5)]) (N := N__law_agree) (sc := defScope s__law_agree) (by decide +kernel)) (fun _ _ _ _ _ => (gv_name (i := 5) sc__law_agree.nd rfl (.inl rfl))) (fun _ _ _ _ _ => ptsv_nil) (fun _ _ _ _ _ => (ev_ix ix_seqA v_ix (evn 5) (evn 3) (fun _ _ => rfl)))) av_nil))) (bv_one (sv_ret ev_bl)) bv_nil))))
    (bv_cons (sv_set (i := 6) sc__law_agree.nd rfl (.inl rfl) ev_int)
    (bv_cons (sv_for (passes_of rfl) rfl (iv_rg1 rfl U.B.range_ (av_cons (ev_op op_sub v_sub (evn 0) ev_int) av_nil)) (gv_name (i := 7) sc__law_agree.nd rfl (.inl rfl)) (bv_one (sv_set (i := 6) sc__law_agree.nd rfl (.inl rfl) (ev_op o_mul v_mul (evn 6) (ev_op o_add v_add (evn 0) ev_int)))))
    (bv_cons (sv_set (i := 8) sc__law_agree.nd rfl (.inl rfl) ev_int)
    (bv_cons (sv_for (passes_of rfl) rfl (iv_rg1 rfl U.B.range_ (av_cons (evn 0) av_nil)) (gv_name (i := 7) sc__law_agree.nd rfl (.inl rfl)) (bv_one (sv_set (i := 8) sc__law_agree.nd rfl (.inl rfl) (ev_op o_mul v_mul (evn 8) ev_int))))
    (bv_cons (sv_set (i := 9) sc__law_agree.nd rfl (.inl rfl) ev_int)
    (bv_cons (sv_set (i := 10) sc__law_agree.nd rfl (.inl rfl) ev_int)
    (bv_cons (sv_for (passes_of rfl) rfl (iv_rg1 rfl U.B.range_ (av_cons (ev_op o_add v_add (evn 0) ev_int) av_nil)) (gv_name (i := 7) sc__law_agree.nd rfl (.inl rfl)) (bv_cons (sv_set (i := 9) sc__law_agree.nd rfl (.inl rfl) (ev_op o_add v_add (evn 9) (ev_op o_mul v_mul (ev_op o_mul v_mul (ev_ix ix_seqA v_ix (ev_ix ix_seqA v_ix (evn 2) ev_int (fun _ _ => rfl)) (evn 7) (fun _ _ => rfl)) (evn 10)) (evn 8))))
    (bv_one (sv_set (i := 10) sc__law_agree.nd rfl (.inl rfl) (ev_op o_mul v_mul (evn 10) ev_int)))))
    (bv_cons (sv_if (tv_w (wv_or (tv_cmp (op_neD hr.units) v_ne (evn 6) (ev_fn (cr_sum rfl) f_sum rfl U.B.sum_ (by decide +kernel) (av_cons (ev_ix ix_seqA v_ix (evn 2) ev_int (fun _ _ => rfl)) av_nil))) (wv_or (tv_cmp (op_neD hr.units) v_ne (evn 6) (ev_fn (cr_sum rfl) f_sum rfl U.B.sum_ (by decide +kernel) (av_cons (ev_ix ix_seqA v_ix (evn 2) ev_int (fun _ _ => rfl)) av_nil))) (wv_or1 (tv_cmp (op_neD hr.units) v_ne (evn 6) (ev_ix ix_seqA v_ix (ev_ix ix_seqA v_ix (evn 2) ev_int (fun _ _ => rfl)) ev_int (fun _ _ => rfl))))))) (bv_one (sv_ret ev_bl)) bv_nil)
    (bv_cons (sv_if (tv_w (wv_and (tv_cmp op_lt v_lt (evn 0) ev_int) (wv_and1 (tv_cmp (op_neD hr.units) v_ne (evn 9) (ev_ix ix_seqA v_ix (ev_lst (av_cons ev_int (av_cons ev_int (av_cons ev_int av_nil)))) (ev_op op_sub v_sub (evn 0) ev_int) (fun _ _ => rfl)))))) (bv_one (sv_ret ev_bl)) bv_nil)
    (bv_one (sv_ret (ev_cmp (op_eqD hr.units) v_eq (ev_fn (call_reprG hr) f_repr rfl U.B.repr_ (by decide +kernel) (av_cons (ev_lst (av_cons (ev_call D_count_shapes (hr.mono (by decide)) rfl (L2N.takes_of rfl rfl rfl rfl) (av_cons (evn 0) av_nil)) (av_cons (ev_call D_count_fair (hr.mono (by decide)) rfl (L2N.takes_of rfl rfl rfl rfl) (av_cons (evn 0) av_nil)) (av_cons (ev_call D_count_forests (hr.mono (by decide)) rfl (L2N.takes_of rfl rfl rfl rfl) (av_cons (evn 0) av_nil)) av_nil)))) av_nil)) (ev_fn (call_reprG hr) f_repr rfl U.B.repr_ (by decide +kernel) (av_cons (ev_lst (av_cons (evn 6) (av_cons (ev_op o_mul v_mul (evn 6) (evn 8)) (av_cons (evn 9) av_nil)))) av_nil)))))))))))))))
set_option maxHeartbeats 2000000 in
theorem d__law_words (U : Env P w mg base T)  (F : My.Df T.K mg "_law_words" s__law_words P__law_words) : My.DnX P w T.K mg base 1 "_law_words" (spF T F__law_words) :=
  okV F sc__law_words (by decide) <| fun fa cdv A outer s H vs E hr => (bv_cons (sv_setLcQ (i := 1) (own := [("_law_k", 2)]) rfl sc__law_words.nd rfl rfl (sw_true rfl rfl rfl (by decide +kernel)) rfl (by decide) (iv_rg1 rfl U.B.range_ (av_cons (ev_op o_add v_add (evn 0) ev_int) av_nil)) (blkOk_by (own := [("_law_k", 2)]) (N := N__law_words) (sc := defScope s__law_words) (by decide +kernel)) (fun _ _ _ _ _ => (gv_name (i := 2) sc__law_words.nd rfl (.inl rfl))) (fun _ _ _ _ _ => ptsv_nil) (fun _ _ _ _ _ => (ev_op o_mul v_mul (ev_lst (av_cons ev_int av_nil)) (ev_op o_add v_add (evn 0) ev_int))))
    (bv_cons (sv_subV ev_int (evn 1) ev_int ev_int)
    (bv_cons (sv_pre (npos := ⟨0, 0, 0, 0⟩) (evn 1) (sv_for (passes_of rfl) rfl (iv_rg1 rfl U.B.range_ (av_cons (ev_op op_sub v_sub (evn 0) ev_int) av_nil)) (gv_name (i := 3) sc__law_words.nd rfl (.inl rfl)) (bv_cons (sv_setLcQ (i := 4) (own := [("_law_k", 2)]) rfl sc__law_words.nd rfl rfl (sw_true rfl rfl rfl (by decide +kernel)) rfl (by decide) (iv_rg1 rfl U.B.range_ (av_cons (ev_op o_add v_add (evn 0) ev_int) av_nil)) (blkOk_by (own := [("_law_k", 2)]) (N := N__law_words) (sc := defScope s__law_words) (by decide +kernel)) (fun _ _ _ _ _ => (gv_name (i := 2) sc__law_words.nd rfl (.inl rfl))) (fun _ _ _ _ _ => ptsv_nil) (fun _ _ _ _ _ => (ev_op o_mul v_mul (ev_lst (av_cons ev_int av_nil)) (ev_op o_add v_add (evn 0) ev_int))))
    (bv_cons (sv_for (passes_of rfl) rfl (iv_rg1 rfl U.B.range_ (av_cons (ev_op o_add v_add (evn 3) ev_int) av_nil)) (gv_name (i := 5) sc__law_words.nd rfl (.inl rfl)) (bv_one (sv_for (passes_of rfl) rfl (iv_rg1 rfl U.B.range_ (av_cons (ev_op op_sub v_sub (ev_op o_add v_add (evn 3) ev_int) (evn 5)) av_nil)) (gv_name (i := 6) sc__law_words.nd rfl (.inl rfl)) (bv_cons (sv_set (i := 7) sc__law_words.nd rfl (.inl rfl) (ev_ix ix_seqA v_ix (ev_ix ix_seqA v_ix (evn 1) (evn 5) (fun _ _ => rfl)) (evn 6) (fun _ _ => rfl)))
    (bv_cons (sv_subV (ev_view (ev_op o_add v_add (ev_ix ix_seqA v_ix (ev_ix ix_seqA v_ix (evn 4) (ev_op o_add v_add (evn 5) ev_int) (fun _ _ => rfl)) (evn 6) (fun _ _ => rfl)) (evn 7))) (evn 4) (ev_op o_add v_add (evn 5) ev_int) (evn 6))
    (bv_cons (sv_subV (ev_view (ev_op o_add v_add (ev_ix ix_seqA v_ix (ev_ix ix_seqA v_ix (evn 4) (evn 5) (fun _ _ => rfl)) (evn 6) (fun _ _ => rfl)) (ev_op o_mul v_mul (evn 7) (evn 6)))) (evn 4) (evn 5) (evn 6))
    (bv_one (sv_subV (ev_view (ev_op o_add v_add (ev_ix ix_seqA v_ix (ev_ix ix_seqA v_ix (evn 4) (evn 5) (fun _ _ => rfl)) (ev_op o_add v_add (evn 6) ev_int) (fun _ _ => rfl)) (ev_op o_mul v_mul (evn 7) (ev_op op_sub v_sub (evn 0) (evn 6))))) (evn 4) (evn 5) (ev_op o_add v_add (evn 6) ev_int)))))))))
    (bv_one (sv_set (i := 1) sc__law_words.nd rfl (.inl rfl) (evn 4)))))))
    (bv_one (sv_ret (evn 1))))))
set_option maxHeartbeats 2000000 in
theorem d__law_choices (U : Env P w mg base T)  (F : My.Df T.K mg "_law_choices" s__law_choices P__law_choices) : My.DnX P w T.K mg base 1 "_law_choices" (spF T F__law_choices) :=
  okV F sc__law_choices (by decide) <| fun fa cdv A outer s H vs E hr => (bv_cons (sv_set (i := 1) sc__law_choices.nd rfl (.inl rfl) (ev_lst (av_cons (ev_lst (av_cons ev_int av_nil)) av_nil)))
    (bv_cons (sv_for (passes_of rfl) rfl (iv_rg1 rfl U.B.range_ (av_cons (evn 0) av_nil)) (gv_name (i := 2) sc__law_choices.nd rfl (.inl rfl)) (bv_cons (sv_set (i := 3) sc__law_choices.nd rfl (.inr rfl) (ev_ix ix_seqA v_ix (evn 1) (ev_un un_neg v_neg ev_int) (fun _ _ => rfl)))
    (bv_one (sv_expr (ev_mu rfl PySem.F.plainAttrs_list PySem.F.slot_list_append PySem.F.type_list_append (by decide) mt_append u_append (evn 1) (av_cons (ev_op o_add v_add (ev_op o_add v_add (ev_lst (av_cons ev_int av_nil)) (ev_lc (own := [("_law_j", 4)]) rfl sc__law_choices.nd rfl (by decide) (iv_rg1 rfl U.B.range_ (av_cons (evn 2) av_nil)) (blkOk_by (own := [("_law_j", 4)]) (N := N__law_choices) (sc := defScope s__law_choices) (by decide +kernel)) (fun _ _ _ _ _ => (gv_name (i := 4) sc__law_choices.nd rfl (.inl rfl))) (fun _ _ _ _ _ => ptsv_nil) (fun _ _ _ _ _ => (ev_op o_add v_add (ev_ix ix_seqA v_ix (evn 3) (evn 4) (fun _ _ => rfl)) (ev_ix ix_seqA v_ix (evn 3) (ev_op o_add v_add (evn 4) ev_int) (fun _ _ => rfl)))))) (ev_lst (av_cons ev_int av_nil))) av_nil))))))
    (bv_one (sv_ret (evn 1)))))
set_option maxHeartbeats 2000000 in
theorem d__law_layers (U : Env P w mg base T) (D__law_choices : My.DnX P w T.K mg base 1 "_law_choices" (spF T F__law_choices)) (F : My.Df T.K mg "_law_layers" s__law_layers P__law_layers) : My.DnX P w T.K mg base 2 "_law_layers" (spF T F__law_layers) :=
  okV F sc__law_layers (by decide) <| fun fa cdv A outer s H vs E hr => (bv_cons (sv_set (i := 1) sc__law_layers.nd rfl (.inl rfl) (ev_call D__law_choices (hr.mono (by decide)) rfl (L2N.takes_of rfl rfl rfl rfl) (av_cons (evn 0) av_nil)))
    (bv_cons (sv_setLcF (i := 2) (own := [("_law_left", 3)]) rfl sc__law_layers.nd rfl rfl (sw_true rfl rfl rfl (by decide +kernel)) rfl (by decide) (iv_rg1 rfl U.B.range_ (av_cons (ev_op o_add v_add (evn 0) ev_int) av_nil)) (blkOk_by (own := [("_law_left", 3)]) (N := N__law_layers) (sc := defScope s__law_layers) (by decide +kernel)) (fun _ _ _ _ _ => (gv_name (i := 3) sc__law_layers.nd rfl (.inl rfl))) (fun _ _ _ _ _ => ptsv_nil) (fun _ _ _ _ _ => (ev_op o_mul v_mul (ev_lst (av_cons (ev_ty call_int1 f_int rfl U.B.int_ boot_int (av_cons (ev_cmp (op_eqD hr.units) v_eq (evn 3) ev_int) av_nil)) av_nil)) (ev_op o_add v_add (evn 0) ev_int))))
    (bv_cons (sv_set (i := 4) sc__law_layers.nd rfl (.inl rfl) (ev_lst (av_cons (ev_ix ix_seqA v_ix (ev_ix ix_seqA v_ix (evn 2) (evn 0) (fun _ _ => rfl)) ev_int (fun _ _ => rfl)) av_nil)))
    (bv_cons (sv_for (passes_of rfl) rfl (iv_rg1 rfl U.B.range_ (av_cons (evn 0) av_nil)) (gv_name (i := 5) sc__law_layers.nd rfl (.inl rfl)) (bv_cons (sv_set (i := 6) sc__law_layers.nd rfl (.inl rfl) (ev_lst (av_cons (ev_op o_mul v_mul (ev_lst (av_cons ev_int av_nil)) (ev_op o_add v_add (evn 0) ev_int)) av_nil)))
    (bv_cons (sv_for (passes_of rfl) rfl (iv_rg2 rfl U.B.range_ (av_cons ev_int (av_cons (ev_op o_add v_add (evn 0) ev_int) av_nil))) (gv_name (i := 3) sc__law_layers.nd rfl (.inl rfl)) (bv_cons (sv_set (i := 7) sc__law_layers.nd rfl (.inl rfl) (ev_op o_mul v_mul (ev_lst (av_cons ev_int av_nil)) (ev_op o_add v_add (evn 0) ev_int)))
    (bv_cons (sv_for (passes_of rfl) rfl (iv_rg2 rfl U.B.range_ (av_cons ev_int (av_cons (ev_op op_sub v_sub (ev_op o_add v_add (evn 0) ev_int) (evn 3)) av_nil))) (gv_name (i := 8) sc__law_layers.nd rfl (.inl rfl)) (bv_cons (sv_set (i := 9) sc__law_layers.nd rfl (.inl rfl) ev_int)
    (bv_cons (sv_set (i := 10) sc__law_layers.nd rfl (.inl rfl) ev_int)
    (bv_cons (sv_for (passes_of rfl) rfl (iv_rg2 rfl U.B.range_ (av_cons ev_int (av_cons (ev_op o_add v_add (evn 3) ev_int) av_nil))) (gv_name (i := 11) sc__law_layers.nd rfl (.inl rfl)) (bv_cons (sv_set (i := 10) sc__law_layers.nd rfl (.inl rfl) (ev_op o_mul v_mul (evn 10) (evn 8)))
    (bv_one (sv_set (i := 9) sc__law_layers.nd rfl (.inl rfl) (ev_op o_add v_add (evn 9) (ev_op o_mul v_mul (ev_op o_mul v_mul (ev_ix ix_seqA v_ix (ev_ix ix_seqA v_ix (evn 1) (evn 3) (fun _ _ => rfl)) (evn 11) (fun _ _ => rfl)) (evn 10)) (ev_ix ix_seqA v_ix (ev_ix ix_seqA v_ix (evn 2) (ev_op op_sub v_sub (evn 3) (evn 11)) (fun _ _ => rfl)) (evn 11) (fun _ _ => rfl))))))))
    (bv_one (sv_sub (evn 9) (evn 7) (evn 8)))))))
    (bv_one (sv_expr (ev_mu rfl PySem.F.plainAttrs_list PySem.F.slot_list_append PySem.F.type_list_append (by decide) mt_append u_append (evn 6) (av_cons (evn 7) av_nil)))))))
    (bv_cons (sv_set (i := 2) sc__law_layers.nd rfl (.inl rfl) (ev_fz (evn 6)))
    (bv_one (sv_expr (ev_mu rfl PySem.F.plainAttrs_list PySem.F.slot_list_append PySem.F.type_list_append (by decide) mt_append u_append (evn 4) (av_cons (ev_ix ix_seqA v_ix (ev_ix ix_seqA v_ix (evn 2) (evn 0) (fun _ _ => rfl)) ev_int (fun _ _ => rfl)) av_nil))))))))
    (bv_one (sv_ret (evn 4)))))))
set_option maxHeartbeats 2000000 in
theorem d__law_reckoned (U : Env P w mg base T) (D__law_words : My.DnX P w T.K mg base 1 "_law_words" (spF T F__law_words)) (D__law_layers : My.DnX P w T.K mg base 2 "_law_layers" (spF T F__law_layers)) (F : My.Df T.K mg "_law_reckoned" s__law_reckoned P__law_reckoned) : My.DnX P w T.K mg base 3 "_law_reckoned" (spF T F__law_reckoned) :=
  okV F sc__law_reckoned (by decide) <| fun fa cdv A outer s H vs E hr => (bv_cons (sv_set (i := 1) sc__law_reckoned.nd rfl (.inl rfl) (ev_call D__law_words (hr.mono (by decide)) rfl (L2N.takes_of rfl rfl rfl rfl) (av_cons (evn 0) av_nil)))
    (bv_cons (sv_set (i := 2) sc__law_reckoned.nd rfl (.inr rfl) (ev_call D__law_layers (hr.mono (by decide)) rfl (L2N.takes_of rfl rfl rfl rfl) (av_cons (evn 0) av_nil)))
    (bv_cons (sv_set (i := 3) sc__law_reckoned.nd rfl (.inl rfl) (ev_op o_mul v_mul (ev_lst (av_cons ev_int av_nil)) ev_int))
    (bv_cons (sv_set (i := 4) sc__law_reckoned.nd rfl (.inl rfl) (ev_op o_mul v_mul (ev_lst (av_cons ev_int av_nil)) ev_int))
    (bv_cons (sv_setLc (i := 5) (own := [("_law_height", 6)]) rfl sc__law_reckoned.nd rfl rfl (sw_true rfl rfl rfl (by decide +kernel)) rfl (by decide) (iv_rg1 rfl U.B.range_ (av_cons ev_int av_nil)) (blkOk_by (own := [("_law_height", 6)]) (N := N__law_reckoned) (sc := defScope s__law_reckoned) (by decide +kernel)) (fun _ _ _ _ _ => (gv_name (i := 6) sc__law_reckoned.nd rfl (.inl rfl))) (fun _ _ _ _ _ => ptsv_nil) (fun _ _ _ _ _ => (ev_ix ix_seqA v_ix (evn 2) (ev_fn (call_min2 rfl) f_min2 rfl U.B.min_ boot_min (av_cons (evn 6) (av_cons (evn 0) av_nil))) (fun _ _ => rfl))))
    (bv_cons (sv_for (passes_of rfl) rfl (iv_rg1 rfl U.B.range_ (av_cons (evn 0) av_nil)) (gv_name (i := 7) sc__law_reckoned.nd rfl (.inl rfl)) (bv_one (sv_for (passes_of rfl) rfl (iv_rg1 rfl U.B.range_ (av_cons (evn 0) av_nil)) (gv_name (i := 8) sc__law_reckoned.nd rfl (.inl rfl)) (bv_cons (sv_sub (ev_op o_add v_add (ev_ix ix_seqA v_ix (evn 3) (ev_op o_add v_add (evn 7) ev_int) (fun _ _ => rfl)) (ev_ix ix_seqA v_ix (ev_ix ix_seqA v_ix (evn 1) (evn 7) (fun _ _ => rfl)) (evn 8) (fun _ _ => rfl))) (evn 3) (ev_op o_add v_add (evn 7) ev_int))
    (bv_one (sv_sub (ev_op o_add v_add (ev_ix ix_seqA v_ix (evn 4) (ev_op op_sub v_sub (evn 0) (evn 8)) (fun _ _ => rfl)) (ev_ix ix_seqA v_ix (ev_ix ix_seqA v_ix (evn 1) (evn 7) (fun _ _ => rfl)) (evn 8) (fun _ _ => rfl))) (evn 4) (ev_op op_sub v_sub (evn 0) (evn 8))))))))
    (bv_one (sv_ret (ev_lst (av_cons (evn 3) (av_cons (evn 4) (av_cons (evn 5) av_nil))))))))))))
set_option maxHeartbeats 2000000 in
theorem d_law {f : Addr} {fd : FuncData} (U : Env P w mg base T) (D__law_tape : My.DnX P w T.K mg base 1 "_law_tape" (spF T F__law_tape)) (D__law_take : My.DnX P w T.K mg base 1 "_law_take" (spF T F__law_take)) (D__law_listed : My.DnX P w T.K mg base 2 "_law_listed" (spF T F__law_listed)) (D__law_agree : My.DnX P w T.K mg base 4 "_law_agree" (spF T F__law_agree)) (D__law_reckoned : My.DnX P w T.K mg base 3 "_law_reckoned" (spF T F__law_reckoned)) (F : L2.Fun T.K "law" "law" s_law f fd) (hl : ∀ ns : List Int, ns.length ≤ 63 → ∃ fin, F_law [.scr ns] = .ok (.bl true) fin) : My.FnG P w T.K mg base (L2N.CX P w) 5 f fd ["_law_script"] (spLaw T.K) :=
  law_ok (W := W_law) F sc_law (by decide) hl <| fun fa cdv A outer s H vs E hr => (bv_cons (sv_set (i := 1) sc_law.nd rfl (.inl rfl) (ev_call D__law_tape (hr.mono (by decide)) rfl (L2N.takes_of rfl rfl rfl rfl) (av_cons (evn 0) (av_cons ev_int av_nil))))
    (bv_cons (sv_set (i := 2) sc_law.nd rfl (.inl rfl) (ev_op o_add v_add ev_int (ev_call D__law_take (hr.mono (by decide)) rfl (L2N.takes_of rfl rfl rfl rfl) (av_cons (evn 1) (av_cons ev_int av_nil)))))
    (bv_cons (sv_if (tv_cmp (op_eqD hr.units) v_eq (ev_call D__law_take (hr.mono (by decide)) rfl (L2N.takes_of rfl rfl rfl rfl) (av_cons (evn 1) (av_cons ev_int av_nil))) ev_int) (bv_one (sv_set (i := 2) sc_law.nd rfl (.inl rfl) (ev_op o_add v_add ev_int (ev_call D__law_take (hr.mono (by decide)) rfl (L2N.takes_of rfl rfl rfl rfl) (av_cons (evn 1) (av_cons ev_int av_nil)))))) bv_nil)
    (bv_cons (sv_set (i := 3) sc_law.nd rfl (.inl rfl) (ev_lst (av_cons ev_int (av_cons (evn 2) (av_cons (ev_op o_add v_add (evn 2) ev_int) av_nil)))))
    (bv_cons (sv_for (passes_of rfl) rfl (iv_rg2 rfl U.B.range_ (av_cons ev_int (av_cons ev_int av_nil))) (gv_name (i := 4) sc_law.nd rfl (.inl rfl)) (bv_one (sv_expr (ev_mu rfl PySem.F.plainAttrs_list PySem.F.slot_list_append PySem.F.type_list_append (by decide) mt_append u_append (evn 3) (av_cons (ev_call D__law_take (hr.mono (by decide)) rfl (L2N.takes_of rfl rfl rfl rfl) (av_cons (ev_call D__law_tape (hr.mono (by decide)) rfl (L2N.takes_of rfl rfl rfl rfl) (av_cons (evn 0) (av_cons (evn 4) av_nil))) (av_cons ev_int av_nil))) av_nil)))))
    (bv_cons (sv_if (tv_cmp op_lt v_lt (evn 2) ev_int) (bv_cons (sv_set (i := 3) sc_law.nd rfl (.inl rfl) (ev_listRg rfl rfl U.B.list_ rfl U.B.range_ ev_int))
    (bv_one (sv_if (tv_not (tv_e rfl (ev_call D__law_agree (hr.mono (by decide)) rfl (L2N.takes_of rfl rfl rfl rfl) (av_cons (evn 2) (av_cons (evn 3) (av_cons (ev_call D__law_listed (hr.mono (by decide)) rfl (L2N.takes_of rfl rfl rfl rfl) (av_cons (evn 2) av_nil)) av_nil)))))) (bv_one (sv_ret ev_bl)) bv_nil))) bv_nil)
    (bv_one (sv_ret (ev_call D__law_agree (hr.mono (by decide)) rfl (L2N.takes_of rfl rfl rfl rfl) (av_cons (evn 2) (av_cons (evn 3) (av_cons (ev_call D__law_reckoned (hr.mono (by decide)) rfl (L2N.takes_of rfl rfl rfl rfl) (av_cons (evn 2) av_nil)) av_nil))))))))))))
end
theorem lenE1 {F : FuncData} {P : List Str} {us : List Value} (h : us.length = 1) (k : ∀ a0, bindArgs F { pos := [a0] } = pure (P.zip [a0])) : bindArgs F { pos := us } = pure (P.zip us) := by
  obtain _ | ⟨a0, us⟩ := us
  · cases h
  obtain _ | ⟨_, _⟩ := us
  · exact k a0
  · simp at h
theorem lenE2 {F : FuncData} {P : List Str} {us : List Value} (h : us.length = 2) (k : ∀ a0 a1, bindArgs F { pos := [a0, a1] } = pure (P.zip [a0, a1])) : bindArgs F { pos := us } = pure (P.zip us) := by
  obtain _ | ⟨a0, us⟩ := us
  · cases h
  obtain _ | ⟨a1, us⟩ := us
  · cases h
  obtain _ | ⟨_, _⟩ := us
  · exact k a0 a1
  · simp at h
theorem lenE3 {F : FuncData} {P : List Str} {us : List Value} (h : us.length = 3) (k : ∀ a0 a1 a2, bindArgs F { pos := [a0, a1, a2] } = pure (P.zip [a0, a1, a2])) : bindArgs F { pos := us } = pure (P.zip us) := by
  obtain _ | ⟨a0, us⟩ := us
  · cases h
  obtain _ | ⟨a1, us⟩ := us
  · cases h
  obtain _ | ⟨a2, us⟩ := us
  · cases h
  obtain _ | ⟨_, _⟩ := us
  · exact k a0 a1 a2
  · simp at h
set_option maxHeartbeats 0 in
theorem all_mk {l : PySem.W.OpenLaw} {w : World} {K : PySem.W.Frag} {h : Heap} {mg : Str → Option Value} {fa : Addr} (X : K.In h) (G : h.Ns mainGlobals mg) (hfa : mg "law" = some (.ref fa))
    {f1 : Addr} {od1 an1 : Option Addr} {sl1 : Array (Option Value)} {oc1 kV1 dc1 pm1 cd1 ct1 : Value}
    {f2 : Addr} {od2 an2 : Option Addr} {sl2 : Array (Option Value)} {oc2 kV2 dc2 pm2 cd2 ct2 : Value}
    {f3 : Addr} {od3 an3 : Option Addr} {sl3 : Array (Option Value)} {oc3 kV3 dc3 pm3 cd3 ct3 : Value}
    {f4 : Addr} {od4 an4 : Option Addr} {sl4 : Array (Option Value)} {oc4 kV4 dc4 pm4 cd4 ct4 : Value}
    {f5 : Addr} {od5 an5 : Option Addr} {sl5 : Array (Option Value)} {oc5 kV5 dc5 pm5 cd5 ct5 : Value}
    {f6 : Addr} {od6 an6 : Option Addr} {sl6 : Array (Option Value)} {oc6 kV6 dc6 pm6 cd6 ct6 : Value}
    {f7 : Addr} {od7 an7 : Option Addr} {sl7 : Array (Option Value)} {oc7 kV7 dc7 pm7 cd7 ct7 : Value}
    {f8 : Addr} {od8 an8 : Option Addr} {sl8 : Array (Option Value)} {oc8 kV8 dc8 pm8 cd8 ct8 : Value}
    {f9 : Addr} {od9 an9 : Option Addr} {sl9 : Array (Option Value)} {oc9 kV9 dc9 pm9 cd9 ct9 : Value}
    {f10 : Addr} {od10 an10 : Option Addr} {sl10 : Array (Option Value)} {oc10 kV10 dc10 pm10 cd10 ct10 : Value}
    {f11 : Addr} {od11 an11 : Option Addr} {sl11 : Array (Option Value)} {oc11 kV11 dc11 pm11 cd11 ct11 : Value}
    {f12 : Addr} {od12 an12 : Option Addr} {sl12 : Array (Option Value)} {oc12 kV12 dc12 pm12 cd12 ct12 : Value}
    {f13 : Addr} {od13 an13 : Option Addr} {sl13 : Array (Option Value)} {oc13 kV13 dc13 pm13 cd13 ct13 : Value}
    {f14 : Addr} {od14 an14 : Option Addr} {sl14 : Array (Option Value)} {oc14 kV14 dc14 pm14 cd14 ct14 : Value}
    {f15 : Addr} {od15 an15 : Option Addr} {sl15 : Array (Option Value)} {oc15 kV15 dc15 pm15 cd15 ct15 : Value}
    {f16 : Addr} {od16 an16 : Option Addr} {sl16 : Array (Option Value)} {oc16 kV16 dc16 pm16 cd16 ct16 : Value}
    {f17 : Addr} {od17 an17 : Option Addr} {sl17 : Array (Option Value)} {oc17 kV17 dc17 pm17 cd17 ct17 : Value}
    {f18 : Addr} {od18 an18 : Option Addr} {sl18 : Array (Option Value)} {oc18 kV18 dc18 pm18 cd18 ct18 : Value}
    (a1 : PySem.W.nsIn K mainGlobals "_law_tape" = some (some (.ref f1)))
    (l1 : K.lookup f1 = some ⟨oc1, od1, .func (PySem.W.fnOf "_law_tape" "_law_tape" (defArgs s__law_tape) (defBody s__law_tape) (defScope s__law_tape) .none kV1 dc1 pm1 an1 cd1 ct1), sl1⟩)
    (c1 : PySem.W.codeIn K cd1 "_law_tape" = true)
    (k1 : PySem.W.keepIn K (.ref f1) = true)
    (a2 : PySem.W.nsIn K mainGlobals "_law_take" = some (some (.ref f2)))
    (l2 : K.lookup f2 = some ⟨oc2, od2, .func (PySem.W.fnOf "_law_take" "_law_take" (defArgs s__law_take) (defBody s__law_take) (defScope s__law_take) .none kV2 dc2 pm2 an2 cd2 ct2), sl2⟩)
    (c2 : PySem.W.codeIn K cd2 "_law_take" = true)
    (k2 : PySem.W.keepIn K (.ref f2) = true)
    (a3 : PySem.W.nsIn K mainGlobals "_law_depth" = some (some (.ref f3)))
    (l3 : K.lookup f3 = some ⟨oc3, od3, .func (PySem.W.fnOf "_law_depth" "_law_depth" (defArgs s__law_depth) (defBody s__law_depth) (defScope s__law_depth) .none kV3 dc3 pm3 an3 cd3 ct3), sl3⟩)
    (c3 : PySem.W.codeIn K cd3 "_law_depth" = true)
    (k3 : PySem.W.keepIn K (.ref f3) = true)
    (a4 : PySem.W.nsIn K mainGlobals "_law_listed" = some (some (.ref f4)))
    (l4 : K.lookup f4 = some ⟨oc4, od4, .func (PySem.W.fnOf "_law_listed" "_law_listed" (defArgs s__law_listed) (defBody s__law_listed) (defScope s__law_listed) .none kV4 dc4 pm4 an4 cd4 ct4), sl4⟩)
    (c4 : PySem.W.codeIn K cd4 "_law_listed" = true)
    (k4 : PySem.W.keepIn K (.ref f4) = true)
    (a5 : PySem.W.nsIn K mainGlobals "one_higher" = some (some (.ref f5)))
    (l5 : K.lookup f5 = some ⟨oc5, od5, .func (PySem.W.fnOf "one_higher" "one_higher" (defArgs s_one_higher) (defBody s_one_higher) (defScope s_one_higher) .none kV5 dc5 pm5 an5 cd5 ct5), sl5⟩)
    (c5 : PySem.W.codeIn K cd5 "one_higher" = true)
    (k5 : PySem.W.keepIn K (.ref f5) = true)
    (a6 : PySem.W.nsIn K mainGlobals "count_low" = some (some (.ref f6)))
    (l6 : K.lookup f6 = some ⟨oc6, od6, .func (PySem.W.fnOf "count_low" "count_low" (defArgs s_count_low) (defBody s_count_low) (defScope s_count_low) .none kV6 dc6 pm6 an6 cd6 ct6), sl6⟩)
    (c6 : PySem.W.codeIn K cd6 "count_low" = true)
    (k6 : PySem.W.keepIn K (.ref f6) = true)
    (a7 : PySem.W.nsIn K mainGlobals "count_by_leaves" = some (some (.ref f7)))
    (l7 : K.lookup f7 = some ⟨oc7, od7, .func (PySem.W.fnOf "count_by_leaves" "count_by_leaves" (defArgs s_count_by_leaves) (defBody s_count_by_leaves) (defScope s_count_by_leaves) .none kV7 dc7 pm7 an7 cd7 ct7), sl7⟩)
    (c7 : PySem.W.codeIn K cd7 "count_by_leaves" = true)
    (k7 : PySem.W.keepIn K (.ref f7) = true)
    (a8 : PySem.W.nsIn K mainGlobals "power" = some (some (.ref f8)))
    (l8 : K.lookup f8 = some ⟨oc8, od8, .func (PySem.W.fnOf "power" "power" (defArgs s_power) (defBody s_power) (defScope s_power) .none kV8 dc8 pm8 an8 cd8 ct8), sl8⟩)
    (c8 : PySem.W.codeIn K cd8 "power" = true)
    (k8 : PySem.W.keepIn K (.ref f8) = true)
    (a9 : PySem.W.nsIn K mainGlobals "count_by_roots" = some (some (.ref f9)))
    (l9 : K.lookup f9 = some ⟨oc9, od9, .func (PySem.W.fnOf "count_by_roots" "count_by_roots" (defArgs s_count_by_roots) (defBody s_count_by_roots) (defScope s_count_by_roots) .none kV9 dc9 pm9 an9 cd9 ct9), sl9⟩)
    (c9 : PySem.W.codeIn K cd9 "count_by_roots" = true)
    (k9 : PySem.W.keepIn K (.ref f9) = true)
    (a10 : PySem.W.nsIn K mainGlobals "count_forests" = some (some (.ref f10)))
    (l10 : K.lookup f10 = some ⟨oc10, od10, .func (PySem.W.fnOf "count_forests" "count_forests" (defArgs s_count_forests) (defBody s_count_forests) (defScope s_count_forests) .none kV10 dc10 pm10 an10 cd10 ct10), sl10⟩)
    (c10 : PySem.W.codeIn K cd10 "count_forests" = true)
    (k10 : PySem.W.keepIn K (.ref f10) = true)
    (a11 : PySem.W.nsIn K mainGlobals "count_shapes" = some (some (.ref f11)))
    (l11 : K.lookup f11 = some ⟨oc11, od11, .func (PySem.W.fnOf "count_shapes" "count_shapes" (defArgs s_count_shapes) (defBody s_count_shapes) (defScope s_count_shapes) .none kV11 dc11 pm11 an11 cd11 ct11), sl11⟩)
    (c11 : PySem.W.codeIn K cd11 "count_shapes" = true)
    (k11 : PySem.W.keepIn K (.ref f11) = true)
    (a12 : PySem.W.nsIn K mainGlobals "count_fair" = some (some (.ref f12)))
    (l12 : K.lookup f12 = some ⟨oc12, od12, .func (PySem.W.fnOf "count_fair" "count_fair" (defArgs s_count_fair) (defBody s_count_fair) (defScope s_count_fair) .none kV12 dc12 pm12 an12 cd12 ct12), sl12⟩)
    (c12 : PySem.W.codeIn K cd12 "count_fair" = true)
    (k12 : PySem.W.keepIn K (.ref f12) = true)
    (a13 : PySem.W.nsIn K mainGlobals "_law_agree" = some (some (.ref f13)))
    (l13 : K.lookup f13 = some ⟨oc13, od13, .func (PySem.W.fnOf "_law_agree" "_law_agree" (defArgs s__law_agree) (defBody s__law_agree) (defScope s__law_agree) .none kV13 dc13 pm13 an13 cd13 ct13), sl13⟩)
    (c13 : PySem.W.codeIn K cd13 "_law_agree" = true)
    (k13 : PySem.W.keepIn K (.ref f13) = true)
    (a14 : PySem.W.nsIn K mainGlobals "_law_words" = some (some (.ref f14)))
    (l14 : K.lookup f14 = some ⟨oc14, od14, .func (PySem.W.fnOf "_law_words" "_law_words" (defArgs s__law_words) (defBody s__law_words) (defScope s__law_words) .none kV14 dc14 pm14 an14 cd14 ct14), sl14⟩)
    (c14 : PySem.W.codeIn K cd14 "_law_words" = true)
    (k14 : PySem.W.keepIn K (.ref f14) = true)
    (a15 : PySem.W.nsIn K mainGlobals "_law_choices" = some (some (.ref f15)))
    (l15 : K.lookup f15 = some ⟨oc15, od15, .func (PySem.W.fnOf "_law_choices" "_law_choices" (defArgs s__law_choices) (defBody s__law_choices) (defScope s__law_choices) .none kV15 dc15 pm15 an15 cd15 ct15), sl15⟩)
    (c15 : PySem.W.codeIn K cd15 "_law_choices" = true)
    (k15 : PySem.W.keepIn K (.ref f15) = true)
    (a16 : PySem.W.nsIn K mainGlobals "_law_layers" = some (some (.ref f16)))
    (l16 : K.lookup f16 = some ⟨oc16, od16, .func (PySem.W.fnOf "_law_layers" "_law_layers" (defArgs s__law_layers) (defBody s__law_layers) (defScope s__law_layers) .none kV16 dc16 pm16 an16 cd16 ct16), sl16⟩)
    (c16 : PySem.W.codeIn K cd16 "_law_layers" = true)
    (k16 : PySem.W.keepIn K (.ref f16) = true)
    (a17 : PySem.W.nsIn K mainGlobals "_law_reckoned" = some (some (.ref f17)))
    (l17 : K.lookup f17 = some ⟨oc17, od17, .func (PySem.W.fnOf "_law_reckoned" "_law_reckoned" (defArgs s__law_reckoned) (defBody s__law_reckoned) (defScope s__law_reckoned) .none kV17 dc17 pm17 an17 cd17 ct17), sl17⟩)
    (c17 : PySem.W.codeIn K cd17 "_law_reckoned" = true)
    (k17 : PySem.W.keepIn K (.ref f17) = true)
    (a18 : PySem.W.nsIn K mainGlobals "law" = some (some (.ref f18)))
    (l18 : K.lookup f18 = some ⟨oc18, od18, .func (PySem.W.fnOf "law" "law" (defArgs s_law) (defBody s_law) (defScope s_law) .none kV18 dc18 pm18 an18 cd18 ct18), sl18⟩)
    (c18 : PySem.W.codeIn K cd18 "law" = true)
    (k18 : PySem.W.keepIn K (.ref f18) = true)
    (z_abs : PySem.W.nsIn K mainGlobals "abs" = some none)
    (z_int : PySem.W.nsIn K mainGlobals "int" = some none)
    (z_len : PySem.W.nsIn K mainGlobals "len" = some none)
    (z_list : PySem.W.nsIn K mainGlobals "list" = some none)
    (z_max : PySem.W.nsIn K mainGlobals "max" = some none)
    (z_min : PySem.W.nsIn K mainGlobals "min" = some none)
    (z_range : PySem.W.nsIn K mainGlobals "range" = some none)
    (z_repr : PySem.W.nsIn K mainGlobals "repr" = some none)
    (z_sum : PySem.W.nsIn K mainGlobals "sum" = some none)
    (m_comb : PySem.W.nsIn K mainGlobals "comb" = some (some (.builtin "math.comb")))
    : ∃ fd : FuncData, (∀ (s : Shared) (v : Value), BindsTo s fd ⟨[v], []⟩ [("_law_script", v)]) ∧ ∀ base : Heap, K.In base → base.Ns mainGlobals mg → My.FnG l.prog w K mg base (L2N.CX l.prog w) 5 fa fd ["_law_script"] (spLaw K) := by
  obtain ⟨T, hK, hTP, hTw⟩ : ∃ T : Tb, T.K = K ∧ T.P = l.prog ∧ T.w = w := ⟨⟨K, l.prog, w, fun c => 0, fun c => []⟩, rfl, rfl, rfl⟩
  subst hK
  have e := hfa.symm.trans (PySem.W.mg_of X G a18)
  cases e
  have Q1 := fun_mk (st := s__law_tape) l1 c1 k1
  have F__law_tape : My.Df T.K mg "_law_tape" s__law_tape P__law_tape := ⟨_, _, Q1, Q1.binds (ps := P__law_tape) fun _ _ _ _ _ _ us hl => lenE2 hl (fun _ _ => rfl), PySem.W.mg_of X G a1⟩
  have Q2 := fun_mk (st := s__law_take) l2 c2 k2
  have F__law_take : My.Df T.K mg "_law_take" s__law_take P__law_take := ⟨_, _, Q2, Q2.binds (ps := P__law_take) fun _ _ _ _ _ _ us hl => lenE2 hl (fun _ _ => rfl), PySem.W.mg_of X G a2⟩
  have Q3 := fun_mk (st := s__law_depth) l3 c3 k3
  have F__law_depth : My.Df T.K mg "_law_depth" s__law_depth P__law_depth := ⟨_, _, Q3, Q3.binds (ps := P__law_depth) fun _ _ _ _ _ _ us hl => lenE2 hl (fun _ _ => rfl), PySem.W.mg_of X G a3⟩
  have Q4 := fun_mk (st := s__law_listed) l4 c4 k4
  have F__law_listed : My.Df T.K mg "_law_listed" s__law_listed P__law_listed := ⟨_, _, Q4, Q4.binds (ps := P__law_listed) fun _ _ _ _ _ _ us hl => lenE1 hl (fun _ => rfl), PySem.W.mg_of X G a4⟩
  have Q5 := fun_mk (st := s_one_higher) l5 c5 k5
  have F_one_higher : My.Df T.K mg "one_higher" s_one_higher P_one_higher := ⟨_, _, Q5, Q5.binds (ps := P_one_higher) fun _ _ _ _ _ _ us hl => lenE1 hl (fun _ => rfl), PySem.W.mg_of X G a5⟩
  have Q6 := fun_mk (st := s_count_low) l6 c6 k6
  have F_count_low : My.Df T.K mg "count_low" s_count_low P_count_low := ⟨_, _, Q6, Q6.binds (ps := P_count_low) fun _ _ _ _ _ _ us hl => lenE2 hl (fun _ _ => rfl), PySem.W.mg_of X G a6⟩
  have Q7 := fun_mk (st := s_count_by_leaves) l7 c7 k7
  have F_count_by_leaves : My.Df T.K mg "count_by_leaves" s_count_by_leaves P_count_by_leaves := ⟨_, _, Q7, Q7.binds (ps := P_count_by_leaves) fun _ _ _ _ _ _ us hl => lenE2 hl (fun _ _ => rfl), PySem.W.mg_of X G a7⟩
  have Q8 := fun_mk (st := s_power) l8 c8 k8
  have F_power : My.Df T.K mg "power" s_power P_power := ⟨_, _, Q8, Q8.binds (ps := P_power) fun _ _ _ _ _ _ us hl => lenE2 hl (fun _ _ => rfl), PySem.W.mg_of X G a8⟩
  have Q9 := fun_mk (st := s_count_by_roots) l9 c9 k9
  have F_count_by_roots : My.Df T.K mg "count_by_roots" s_count_by_roots P_count_by_roots := ⟨_, _, Q9, Q9.binds (ps := P_count_by_roots) fun _ _ _ _ _ _ us hl => lenE2 hl (fun _ _ => rfl), PySem.W.mg_of X G a9⟩
  have Q10 := fun_mk (st := s_count_forests) l10 c10 k10
  have F_count_forests : My.Df T.K mg "count_forests" s_count_forests P_count_forests := ⟨_, _, Q10, Q10.binds (ps := P_count_forests) fun _ _ _ _ _ _ us hl => lenE1 hl (fun _ => rfl), PySem.W.mg_of X G a10⟩
  have Q11 := fun_mk (st := s_count_shapes) l11 c11 k11
  have F_count_shapes : My.Df T.K mg "count_shapes" s_count_shapes P_count_shapes := ⟨_, _, Q11, Q11.binds (ps := P_count_shapes) fun _ _ _ _ _ _ us hl => lenE1 hl (fun _ => rfl), PySem.W.mg_of X G a11⟩
  have Q12 := fun_mk (st := s_count_fair) l12 c12 k12
  have F_count_fair : My.Df T.K mg "count_fair" s_count_fair P_count_fair := ⟨_, _, Q12, Q12.binds (ps := P_count_fair) fun _ _ _ _ _ _ us hl => lenE1 hl (fun _ => rfl), PySem.W.mg_of X G a12⟩
  have Q13 := fun_mk (st := s__law_agree) l13 c13 k13
  have F__law_agree : My.Df T.K mg "_law_agree" s__law_agree P__law_agree := ⟨_, _, Q13, Q13.binds (ps := P__law_agree) fun _ _ _ _ _ _ us hl => lenE3 hl (fun _ _ _ => rfl), PySem.W.mg_of X G a13⟩
  have Q14 := fun_mk (st := s__law_words) l14 c14 k14
  have F__law_words : My.Df T.K mg "_law_words" s__law_words P__law_words := ⟨_, _, Q14, Q14.binds (ps := P__law_words) fun _ _ _ _ _ _ us hl => lenE1 hl (fun _ => rfl), PySem.W.mg_of X G a14⟩
  have Q15 := fun_mk (st := s__law_choices) l15 c15 k15
  have F__law_choices : My.Df T.K mg "_law_choices" s__law_choices P__law_choices := ⟨_, _, Q15, Q15.binds (ps := P__law_choices) fun _ _ _ _ _ _ us hl => lenE1 hl (fun _ => rfl), PySem.W.mg_of X G a15⟩
  have Q16 := fun_mk (st := s__law_layers) l16 c16 k16
  have F__law_layers : My.Df T.K mg "_law_layers" s__law_layers P__law_layers := ⟨_, _, Q16, Q16.binds (ps := P__law_layers) fun _ _ _ _ _ _ us hl => lenE1 hl (fun _ => rfl), PySem.W.mg_of X G a16⟩
  have Q17 := fun_mk (st := s__law_reckoned) l17 c17 k17
  have F__law_reckoned : My.Df T.K mg "_law_reckoned" s__law_reckoned P__law_reckoned := ⟨_, _, Q17, Q17.binds (ps := P__law_reckoned) fun _ _ _ _ _ _ us hl => lenE1 hl (fun _ => rfl), PySem.W.mg_of X G a17⟩
  have Q18 := fun_mk (st := s_law) l18 c18 k18
  refine ⟨PySem.W.fnOf "law" "law" (defArgs s_law) (defBody s_law) (defScope s_law) .none kV18 dc18 pm18 an18 cd18 ct18, fun s v => .of_eq rfl, fun base _ _ => ?_⟩
  have B : Bts mg := ⟨PySem.W.mg_none_of X G z_abs, PySem.W.mg_none_of X G z_int, PySem.W.mg_none_of X G z_len, PySem.W.mg_none_of X G z_list, PySem.W.mg_none_of X G z_max, PySem.W.mg_none_of X G z_min, PySem.W.mg_none_of X G z_range, PySem.W.mg_none_of X G z_repr, PySem.W.mg_none_of X G z_sum⟩
  have Gc : Gcs T w mg := ⟨trivial⟩
  have Mb : Mbs mg := ⟨PySem.W.mg_of X G m_comb⟩
  have U : Env l.prog w mg base T := ⟨B, ⟨hTP.symm, hTw.symm⟩, Gc, Mb⟩
  have D__law_tape := d__law_tape U  F__law_tape
  have D__law_take := d__law_take U  F__law_take
  have D__law_depth := d__law_depth U  F__law_depth
  have D__law_listed := d__law_listed U D__law_depth F__law_listed
  have D_one_higher := d_one_higher U  F_one_higher
  have D_count_low := d_count_low U D_one_higher F_count_low
  have D_count_by_leaves := d_count_by_leaves U  F_count_by_leaves
  have D_power := d_power U  F_power
  have D_count_by_roots := d_count_by_roots U D_power F_count_by_roots
  have D_count_forests := d_count_forests U D_count_by_leaves F_count_forests
  have D_count_shapes := d_count_shapes U D_power F_count_shapes
  have D_count_fair := d_count_fair U D_count_shapes F_count_fair
  have D__law_agree := d__law_agree U D_count_low D_count_by_leaves D_count_by_roots D_count_forests D_count_fair D_count_shapes F__law_agree
  have D__law_words := d__law_words U  F__law_words
  have D__law_choices := d__law_choices U  F__law_choices
  have D__law_layers := d__law_layers U D__law_choices F__law_layers
  have D__law_reckoned := d__law_reckoned U D__law_words D__law_layers F__law_reckoned
  exact d_law U D__law_tape D__law_take D__law_listed D__law_agree D__law_reckoned Q18 LAW
end Law
open PySem PySem.W PyProof.Rows
set_option maxRecDepth 100000 in
set_option maxHeartbeats 0 in
theorem PySem.Challenge.cw_fieldrides_k10_counts_of_shapes_holds : PySem.Challenge.rw_fieldrides_k10_counts_of_shapes.Holds := by
  w_on; o_law; k_head; (case hw => w_witness2)
  k_fill
  refine VL.walkV (l := PySem.Challenge.rw_fieldrides_k10_counts_of_shapes) (k := 5) rfl rfl ⟨⟨rfl, by decide, by decide⟩, rfl⟩ (fun w h Y => PySem.W.kIn_of Y) ?F
  case F =>
    intro w mg fa h KX G hmg
    refine' Law.all_mk KX G hmg ?a1 ?l1 ?c1 ?k1 ?a2 ?l2 ?c2 ?k2 ?a3 ?l3 ?c3 ?k3 ?a4 ?l4 ?c4 ?k4 ?a5 ?l5 ?c5 ?k5 ?a6 ?l6 ?c6 ?k6 ?a7 ?l7 ?c7 ?k7 ?a8 ?l8 ?c8 ?k8 ?a9 ?l9 ?c9 ?k9 ?a10 ?l10 ?c10 ?k10 ?a11 ?l11 ?c11 ?k11 ?a12 ?l12 ?c12 ?k12 ?a13 ?l13 ?c13 ?k13 ?a14 ?l14 ?c14 ?k14 ?a15 ?l15 ?c15 ?k15 ?a16 ?l16 ?c16 ?k16 ?a17 ?l17 ?c17 ?k17 ?a18 ?l18 ?c18 ?k18 ?z_abs ?z_int ?z_len ?z_list ?z_max ?z_min ?z_range ?z_repr ?z_sum ?m_comb
    (case a1 => k_is)
    (case l1 => k_is)
    (case c1 => k_is)
    (case k1 => k_is)
    (case a2 => k_is)
    (case l2 => k_is)
    (case c2 => k_is)
    (case k2 => k_is)
    (case a3 => k_is)
    (case l3 => k_is)
    (case c3 => k_is)
    (case k3 => k_is)
    (case a4 => k_is)
    (case l4 => k_is)
    (case c4 => k_is)
    (case k4 => k_is)
    (case a5 => k_is)
    (case l5 => k_is)
    (case c5 => k_is)
    (case k5 => k_is)
    (case a6 => k_is)
    (case l6 => k_is)
    (case c6 => k_is)
    (case k6 => k_is)
    (case a7 => k_is)
    (case l7 => k_is)
    (case c7 => k_is)
    (case k7 => k_is)
    (case a8 => k_is)
    (case l8 => k_is)
    (case c8 => k_is)
    (case k8 => k_is)
    (case a9 => k_is)
    (case l9 => k_is)
    (case c9 => k_is)
    (case k9 => k_is)
    (case a10 => k_is)
    (case l10 => k_is)
    (case c10 => k_is)
    (case k10 => k_is)
    (case a11 => k_is)
    (case l11 => k_is)
    (case c11 => k_is)
    (case k11 => k_is)
    (case a12 => k_is)
    (case l12 => k_is)
    (case c12 => k_is)
    (case k12 => k_is)
    (case a13 => k_is)
    (case l13 => k_is)
    (case c13 => k_is)
    (case k13 => k_is)
    (case a14 => k_is)
    (case l14 => k_is)
    (case c14 => k_is)
    (case k14 => k_is)
    (case a15 => k_is)
    (case l15 => k_is)
    (case c15 => k_is)
    (case k15 => k_is)
    (case a16 => k_is)
    (case l16 => k_is)
    (case c16 => k_is)
    (case k16 => k_is)
    (case a17 => k_is)
    (case l17 => k_is)
    (case c17 => k_is)
    (case k17 => k_is)
    (case a18 => k_is)
    (case l18 => k_is)
    (case c18 => k_is)
    (case k18 => k_is)
    (case z_abs => k_is)
    (case z_int => k_is)
    (case z_len => k_is)
    (case z_list => k_is)
    (case z_max => k_is)
    (case z_min => k_is)
    (case z_range => k_is)
    (case z_repr => k_is)
    (case z_sum => k_is)
    (case m_comb => k_is)
