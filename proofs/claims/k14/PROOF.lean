import PyProof.Rows.All
import Wide.All
import OpenK.AllK
import Wide.FinOn
import Lean
import PyProof.EqAt
import PyProof.EqKinds
import PyProof.TupleCall
import PyProof.CompFree
import PyProof.ZipIter
import PyProof.ListNew
import PyProof.ListRange
import PyProof.CollectIter
import KE.KRevIter
import PyProof.Rows.SortRev
import PyProof.Rows.SetFrom
import PyProof.SetRoads
import PyProof.ExcArgsOwn
import PyProof.ExcBaseAll.ValueError
import PyProof.NsDelKeeps
import PyProof.RulesAs
import PyProof.StrCalls2
import PyProof.StrLaws
import PyProof.Rows.StrItems
import PyProof.StrLawsChain
import PyProof.StrLawsTight
import PyProof.Rows.StrSplitJoin
import PyProof.Rows.StrSplitAre
import PySem.Challenge.RW_sharings_k14_each_refusal_its_own

set_option Elab.async false
set_option linter.all false
set_option maxRecDepth 100000
namespace L2
open PySem PySem.Spec PyProof.Rows

abbrev Key := Sum Int Str
def keyIs : Key → Value → Bool
  | .inl k, v => Value.isInt k v
  | .inr x, v => Value.isStrOf x v
def keyH (w : World) : Key → Int
  | .inl k => hashInt k
  | .inr x => hashStr w x
theorem keyIs_shape : ∀ {k : Key} {v : Value}, keyIs k v = true → (∃ i t, k = Sum.inl i ∧ v = Value.int i t) ∨ (∃ x t, k = Sum.inr x ∧ v = Value.str x t)
  | .inl i, v, h => by
    obtain ⟨t, e⟩ := Value.isInt_shape (k := i) (v := v) h
    exact .inl ⟨i, t, rfl, e⟩
  | .inr x, v, h => by
    obtain ⟨t, e⟩ := Value.isStrOf_shape (x := x) (v := v) h
    exact .inr ⟨x, t, rfl, e⟩
theorem keyIs_int (i : Int) (t : Tok) : keyIs (.inl i) (.int i t) = true := by simp [keyIs, Value.isInt]
theorem keyIs_str (x : Str) (t : Tok) : keyIs (.inr x) (.str x t) = true := by simp [keyIs, Value.isStrOf]
theorem key_ll (a b : Int) : decide ((Sum.inl a : Key) = Sum.inl b) = (a == b) := by
  by_cases e : a = b
  · subst e; simp
  · have h : ¬ (Sum.inl a : Key) = Sum.inl b := fun q => e (Sum.inl.inj q)
    rw [decide_eq_false h]
    exact (beq_eq_false_iff_ne.mpr e).symm
theorem key_rr (a b : Str) : decide ((Sum.inr a : Key) = Sum.inr b) = decide (a = b) := by
  by_cases e : a = b
  · subst e; simp
  · have h : ¬ (Sum.inr a : Key) = Sum.inr b := fun q => e (Sum.inr.inj q)
    rw [decide_eq_false h, decide_eq_false e]
theorem key_lr (a : Int) (b : Str) : decide ((Sum.inl a : Key) = Sum.inr b) = false := decide_eq_false (fun q => nomatch q)
theorem key_rl (a : Str) (b : Int) : decide ((Sum.inr a : Key) = Sum.inl b) = false := decide_eq_false (fun q => nomatch q)

def mixKind (prog : Program) (w : World) : PySem.KeyKind prog w Key where
  is := keyIs
  hash := keyH w
  inj := fun v a b ha hb => by
    rcases keyIs_shape ha with ⟨i, t, rfl, rfl⟩ | ⟨x, t, rfl, rfl⟩
    · rcases keyIs_shape hb with ⟨j, u, rfl, e⟩ | ⟨y, u, rfl, e⟩
      · injection e with e1 _; rw [e1]
      · exact nomatch e
    · rcases keyIs_shape hb with ⟨j, u, rfl, e⟩ | ⟨y, u, rfl, e⟩
      · exact nomatch e
      · injection e with e1 _; rw [e1]
  byValue := fun k v h => by
    rcases keyIs_shape h with ⟨i, t, rfl, rfl⟩ | ⟨x, t, rfl, rfl⟩ <;> rfl
  pyHash := fun hv h => by
    rcases keyIs_shape hv with ⟨i, t, rfl, rfl⟩ | ⟨x, t, rfl, rfl⟩
    · exact wpAny_pyHash_int h
    · exact wpAny_pyHash_str h
  eqBool := fun hu hv h => by
    rcases keyIs_shape hu with ⟨i, t, rfl, rfl⟩ | ⟨x, t, rfl, rfl⟩
    · rcases keyIs_shape hv with ⟨j, u, rfl, rfl⟩ | ⟨y, u, rfl, rfl⟩
      · rw [key_ll] at h; exact wpAny_eqBool_int h
      · rw [key_lr] at h; exact SeqAt.EqAt.int_str i t y u _ _ _ _ h
    · rcases keyIs_shape hv with ⟨j, u, rfl, rfl⟩ | ⟨y, u, rfl, rfl⟩
      · rw [key_rl] at h; exact SeqAt.EqAt.str_int x t j u _ _ _ _ h
      · rw [key_rr] at h; exact wpAny_eqBool_str h
  «strs» := fun k x t v h => by
    rcases keyIs_shape h with ⟨i, u, rfl, e⟩ | ⟨y, u, rfl, e⟩
    · exact nomatch e
    · injection e with e1 _
      subst e1
      cases v <;> rfl

theorem mixKind_int (prog : Program) (w : World) (i : Int) (t : Tok) : (mixKind prog w).is (.inl i) (.int i t) = true := keyIs_int i t
theorem mixKind_str (prog : Program) (w : World) (x : Str) (t : Tok) : (mixKind prog w).is (.inr x) (.str x t) = true := keyIs_str x t
end L2

namespace L2
open PySem PySem.Spec PyProof.Rows

inductive V where
  | non | bl (b : Bool) | int (i : Int) | str (x : Str) | byt (b : Array UInt8) | flt (b : UInt64) | ref (a : Addr) | ty (n : String)
  deriving DecidableEq

def RelV : V → Value → Prop
  | .non, u => u = Value.none
  | .bl b, u => u = Value.bool b
  | .int i, u => ∃ t, u = Value.int i t
  | .str x, u => ∃ t, u = Value.str x t
  | .byt b, u => ∃ t, u = Value.bytes b t
  | .flt b, u => ∃ t, u = Value.float b t
  | .ref a, u => u = Value.ref a
  | .ty n, u => u = Value.type n

abbrev Vals : List V → List Value → Prop := Paired RelV
theorem Vals.length {xs : List V} {us : List Value} (r : Vals xs us) : xs.length = us.length := Paired.length r
theorem Vals.get : ∀ {xs : List V} {us : List Value} {i : Nat} {x : V}, Vals xs us → xs[i]? = some x → ∃ u, us[i]? = some u ∧ RelV x u
  | _, _, _, _, .nil, e => by simp at e
  | _, _, 0, _, .cons r _, e => by simp at e; subst e; exact ⟨_, rfl, r⟩
  | _, _, i + 1, x, .cons _ t, e => by
    obtain ⟨u, h1, h2⟩ := Vals.get (i := i) (x := x) t (by simpa using e)
    exact ⟨u, by simpa using h1, h2⟩
theorem Vals.set {x : V} {u : Value} (r : RelV x u) : ∀ {xs : List V} {us : List Value} (i : Nat), Vals xs us → Vals (xs.set i x) (us.set i u)
  | _, _, _, .nil => .nil
  | _, _, 0, .cons _ t => .cons r t
  | _, _, i + 1, .cons q t => .cons q (Vals.set r i t)
theorem Vals.append : ∀ {xs ys : List V} {us ws : List Value}, Vals xs us → Vals ys ws → Vals (xs ++ ys) (us ++ ws)
  | _, _, _, _, .nil, s => s
  | _, _, _, _, .cons r t, s => .cons r (Vals.append t s)
theorem Vals.take : ∀ {xs : List V} {us : List Value} (n : Nat), Vals xs us → Vals (xs.take n) (us.take n)
  | _, _, 0, _ => .nil
  | _, _, _ + 1, .nil => .nil
  | _, _, n + 1, .cons r t => .cons r (Vals.take n t)
theorem Vals.drop : ∀ {xs : List V} {us : List Value} (n : Nat), Vals xs us → Vals (xs.drop n) (us.drop n)
  | _, _, 0, r => r
  | _, _, _ + 1, .nil => .nil
  | _, _, n + 1, .cons _ t => Vals.drop n t
theorem Vals.none_of : ∀ {xs : List V} {us : List Value} {i : Nat}, Vals xs us → xs[i]? = none → us[i]? = none := fun {xs us i} r e => by
  have h1 := r.length
  have h2 : xs.length ≤ i := List.getElem?_eq_none_iff.mp e
  exact List.getElem?_eq_none_iff.mpr (by omega)

def RelO : Option V → Option Value → Prop
  | some v, some u => RelV v u
  | none, none => True
  | _, _ => False
def KV {κ : Type} : List (κ × V) → List (κ × Value) → Prop := Paired fun (p : κ × V) (q : κ × Value) => p.1 = q.1 ∧ RelV p.2 q.2

def kV : Key → V
  | .inl i => .int i
  | .inr x => .str x

inductive HO where
  /-- a list -/
  | lst (xs : List V)
  /-- a tuple (never changes) -/
  | tup (xs : List V)
  /-- a dict whose keys are ints and texts; one whose keys are tuples of ints and texts (the empty one is both) -/
  | dK (kvs : List (Key × V)) | dT (kvs : List (List Key × V))
  /-- a set of ints: its members, its size -/
  | set (S : Int → Bool) (n : Nat)
  /-- an instance of the class at C, its dict at dx, its attributes -/
  | ins (C dx : Addr) (fs : List (Str × V))
  /-- the dict of the instance at x -/
  | own (x : Addr)
  /-- the dict of an exception -/
  | xd (fs : List (Str × V))
  /-- a bound method, f of x -/
  | met (f x : Addr)
  /-- a range object lo, lo + 1, .. below hi -/
  | rng (lo hi : Int)
  /-- a thing that is known to the object (the script; a dict while a loop walks it): read, never written while it is so -/
  | frz (o : Obj) (u : HO)
  /-- a code object's table -/
  | tbl (ps : Array Value)
  /-- any other thing, by what is true of its one object (a def of one's own: SetO a S n := HO.ext fun h => ..) -/
  | ext (φ : Heap → Prop)

abbrev Hp := Addr → Option HO
def upd (H : Hp) (a : Addr) (o : HO) : Hp := fun b => if b = a then some o else H b
theorem upd_same {H : Hp} {a : Addr} {o : HO} : upd H a o a = some o := by unfold upd; rw [if_pos rfl]
theorem upd_ne {H : Hp} {a b : Addr} {o : HO} (h : b ≠ a) : upd H a o b = H b := by unfold upd; rw [if_neg h]
theorem ne_of {H : Hp} {a b : Addr} {o u : HO} (h : H a = some o) (h' : H b = some u) (d : o ≠ u) : a ≠ b := by
  intro e; subst e; rw [h] at h'; exact d (Option.some.inj h')
theorem ne_of_none {H : Hp} {a b : Addr} {o : HO} (h : H a = some o) (h' : H b = none) : a ≠ b := by
  intro e; subst e; rw [h] at h'; cases h'

section
variable (P : Program) (w : World)
def ObjOk (H : Hp) (h : Heap) (a : Addr) : HO → Prop
  | .lst xs => xs.length ≤ sizeLine ∧ ∃ (its : List Value) (n : Nat), Vals xs its ∧ h.get? a = some { cls := .type "list", data := .seq its.toArray n }
  | .tup xs => xs.length ≤ sizeLine ∧ ∃ its : List Value, Vals xs its ∧ IsTup h a its.toArray
  | .dK kvs => kvs.length ≤ sizeLine ∧ (a == sysModules) = false ∧ ∃ vs, KV kvs vs ∧ h.DictOf (mixKind P w) a vs
  | .dT kvs => kvs.length ≤ sizeLine ∧ (a == sysModules) = false ∧ ∃ xs : List (List Key × Addr × Value),
      Paired (fun (p : List Key × V) (q : List Key × Addr × Value) => p.1 = q.1 ∧ H q.2.1 = some (.tup (p.1.map kV)) ∧ RelV p.2 q.2.2) kvs xs ∧
      ∃ o es ep, h.get? a = some o ∧ o.ExactDict ∧ o.data = .dict es ep ∧ es.toList = xs.map (entryOfKey (tupleKind (mixKind P w))) ∧ (xs.map (·.1)).Nodup
  | .set S n => h.SetOf (intKind P w) a S n
  | .ins C dx fs => H dx = some (.own a) ∧ fs.length ≤ 1000 ∧ dx ≠ a ∧ h.get? a = some (PySem.W.instObj C dx) ∧
      ∃ mA, h.Ns1 dx mA ∧ (∀ f, RelO (fs.lookup f) (mA f)) ∧ PySem.Within mA (fs.map (·.1))
  | .own _ => ∃ o, h.get? a = some o
  | .xd fs => ∃ mA, h.Ns1 a mA ∧ ∀ f, RelO (fs.lookup f) (mA f)
  | .rng lo hi => ∃ t u v, h.get? a = some { cls := .type "range", data := .fields #[.int lo t, .int hi u, .int 1 v] }
  | .frz o u => h.get? a = some o ∧ ObjOk H h a u
  | .tbl ps => h.get? a = some { cls := .none, data := .fields ps }
  | .met f x => h.get? a = some (PySem.W.methodObj (.ref f) (.ref x))
  | .ext φ => φ h ∧ (∃ o, h.get? a = some o) ∧ ∀ h1 h2 : Heap, φ h1 → (∀ o, h1.get? a = some o → h2.get? a = some o) → φ h2
def HOk (H : Hp) (h : Heap) : Prop := ∀ a o, H a = some o → ObjOk P w H h a o
end

section
variable {P : Program} {w : World} {H H' : Hp} {h h' : Heap} {a : Addr} {o : HO}
theorem ObjOk.lt (x : ObjOk P w H h a o) : a < h.objs.size := by
  cases o with
  | lst xs => obtain ⟨_, _, _, _, e⟩ := x; exact Heap.lt_size e
  | tup xs => obtain ⟨_, _, _, p⟩ := x; exact p.lt
  | dK kvs => obtain ⟨_, _, _, _, o, _, _, e, _⟩ := x; exact Heap.lt_size e
  | dT kvs => obtain ⟨_, _, _, _, o, _, _, e, _⟩ := x; exact Heap.lt_size e
  | set S n => obtain ⟨o, _, _, _, e, _⟩ := x; exact Heap.lt_size e
  | ins C dx fs => obtain ⟨_, _, _, e, _⟩ := x; exact Heap.lt_size e
  | own y => obtain ⟨_, e⟩ := x; exact Heap.lt_size e
  | xd fs => obtain ⟨_, ⟨_, _, _, e, _⟩, _⟩ := x; exact Heap.lt_size e
  | rng lo hi => obtain ⟨_, _, _, e⟩ := x; exact Heap.lt_size e
  | frz ob u => obtain ⟨e, _⟩ := x; exact Heap.lt_size e
  | tbl ps => exact Heap.lt_size (show h.get? a = some _ from x)
  | met f y => exact Heap.lt_size (show h.get? a = some _ from x)
  | ext φ => obtain ⟨_, ⟨_, e⟩, _⟩ := x; exact Heap.lt_size e
theorem Paired.mapP {α β : Type} {F G : α → β → Prop} : ∀ {l₁ : List α} {l₂ : List β}, Paired F l₁ l₂ → (∀ a b, F a b → G a b) → Paired G l₁ l₂
  | _, _, .nil, _ => .nil
  | _, _, .cons r t, f => .cons (f _ _ r) (Paired.mapP t f)
theorem ObjOk.stay (x : ObjOk P w H h a o) (k : ∀ b u, (b = a ∨ H b = some (.own a)) → h.get? b = some u → h'.get? b = some u)
    (ho : ∀ b, H b = some (.own a) → H' b = some (.own a)) (ht : ∀ b xs, H b = some (.tup xs) → H' b = some (.tup xs)) : ObjOk P w H' h' a o := by
  induction o with
  | lst xs => obtain ⟨z, its, n, r, e⟩ := x; exact ⟨z, its, n, r, k _ _ (.inl rfl) e⟩
  | tup xs => obtain ⟨z, its, r, ob, e, c⟩ := x; exact ⟨z, its, r, ob, k _ _ (.inl rfl) e, c⟩
  | dK kvs => obtain ⟨z, y, vs, r, ob, es, ep, e, c⟩ := x; exact ⟨z, y, vs, r, ob, es, ep, k _ _ (.inl rfl) e, c⟩
  | dT kvs =>
    obtain ⟨z, y, xs, r, ob, es, ep, e, c⟩ := x
    exact ⟨z, y, xs, Paired.mapP r fun p q z => ⟨z.1, ht _ _ z.2.1, z.2.2⟩, ob, es, ep, k _ _ (.inl rfl) e, c⟩
  | set S n => obtain ⟨ob, es, ep, t, e, c⟩ := x; exact ⟨ob, es, ep, t, k _ _ (.inl rfl) e, c⟩
  | ins C dx fs =>
    obtain ⟨d, z, ne, e, mA, ⟨od, es, ep, e2, c⟩, r⟩ := x
    exact ⟨ho _ d, z, ne, k _ _ (.inl rfl) e, mA, ⟨od, es, ep, k _ _ (.inr d) e2, c⟩, r⟩
  | own y => obtain ⟨ob, e⟩ := x; exact ⟨ob, k _ _ (.inl rfl) e⟩
  | xd fs => obtain ⟨mA, ⟨od, es, ep, e, c⟩, r⟩ := x; exact ⟨mA, ⟨od, es, ep, k _ _ (.inl rfl) e, c⟩, r⟩
  | rng lo hi => obtain ⟨t, u, v, e⟩ := x; exact ⟨t, u, v, k _ _ (.inl rfl) e⟩
  | frz ob u ih => obtain ⟨e, q⟩ := x; exact ⟨k _ _ (.inl rfl) e, ih q⟩
  | tbl ps =>
    have e : h.get? a = some { cls := .none, data := .fields ps } := x
    show h'.get? a = some { cls := .none, data := .fields ps }
    exact k a _ (.inl rfl) e
  | met f y =>
    have e : h.get? a = some (PySem.W.methodObj (.ref f) (.ref y)) := x
    show h'.get? a = some (PySem.W.methodObj (.ref f) (.ref y))
    exact k a _ (.inl rfl) e
  | ext φ => obtain ⟨p, ⟨o, e⟩, st⟩ := x; exact ⟨st _ _ p fun o q => k _ _ (.inl rfl) q, ⟨o, k _ _ (.inl rfl) e⟩, st⟩
theorem HOk.lt (x : HOk P w H h) (e : H a = some o) : a < h.objs.size := (x a o e).lt
theorem HOk.fresh (x : HOk P w H h) (e : h.objs.size ≤ a) : H a = none := by
  cases q : H a with
  | none => rfl
  | some u => exact absurd (Nat.lt_of_lt_of_le (x.lt q) e) (Nat.lt_irrefl _)
theorem HOk.kept (x : HOk P w H h) (k : ∀ b u, h.get? b = some u → h'.get? b = some u) : HOk P w H h' := fun a o e =>
  (x a o e).stay (fun b u _ q => k b u q) (fun _ q => q) fun _ _ q => q
theorem HOk.laid (x : HOk P w H h) (k : ∀ b u, h.get? b = some u → h'.get? b = some u) (hp : h.objs.size ≤ a) (new : ObjOk P w (upd H a o) h' a o) : HOk P w (upd H a o) h' := fun b u e => by
  have hn := x.fresh hp
  by_cases hb : b = a
  · subst hb; rw [upd_same] at e; cases e; exact new
  · rw [upd_ne hb] at e
    exact (x b u e).stay (fun c v _ q => k c v q) (fun c q => by rw [upd_ne (ne_of_none q hn)]; exact q) fun c xs q => by rw [upd_ne (ne_of_none q hn)]; exact q
end

def Rd (H : Hp) (a : Addr) (u : HO) : Prop := H a = some u ∨ ∃ o, H a = some (.frz o u)
theorem Rd.of {H : Hp} {a : Addr} {u : HO} (h : H a = some u) : Rd H a u := .inl h
theorem Rd.ok {P : Program} {w : World} {H : Hp} {h : Heap} {a : Addr} {u : HO} (r : Rd H a u) (x : HOk P w H h) : ObjOk P w H h a u := by
  rcases r with r | ⟨o, r⟩
  · exact x a u r
  · obtain ⟨_, q⟩ := x a _ r
    exact q
def Mut : Option HO → Prop
  | some (.lst _) => True
  | some (.dK _) => True
  | some (.dT _) => True
  | some (.set _ _) => True
  | some (.ins _ _ _) => True
  | some (.ext _) => True
  | _ => False
section
variable {P : Program} {w : World} {H : Hp} {h h' : Heap} {x e : Addr} {o' : HO}
theorem HOk.write (ok : HOk P w H h) (mu : Mut (H x)) (he : e = x ∨ H e = some (.own x)) (k : ∀ b u, b ≠ e → h.get? b = some u → h'.get? b = some u) (heo : ∃ u, h'.get? e = some u)
    (new : ObjOk P w (upd H x o') h' x o') : HOk P w (upd H x o') h' := fun b u q => by
  have nown : ∀ c y, H c = some (.own y) → c ≠ x := fun c y r z => by subst z; rw [r] at mu; exact mu
  have ntup : ∀ c xs, H c = some (.tup xs) → c ≠ x := fun c xs r z => by subst z; rw [r] at mu; exact mu
  by_cases hb : b = x
  · subst hb; rw [upd_same] at q; cases q; exact new
  · rw [upd_ne hb] at q
    by_cases hbe : b = e
    · have q' : H b = some (.own x) := by
        rcases he with z | z
        · exact absurd (hbe.trans z) hb
        · rw [hbe]; exact z
      rw [q] at q'; cases q'
      obtain ⟨v, hv⟩ := heo
      exact ⟨v, by rw [hbe]; exact hv⟩
    · refine (ok b u q).stay (fun c v hc r => k c v ?_ r) (fun c r => by rw [upd_ne (nown c b r)]; exact r) fun c xs r => by rw [upd_ne (ntup c xs r)]; exact r
      rcases hc with rfl | hc
      · exact hbe
      · rintro rfl
        rcases he with z | z
        · exact nown c b hc z
        · rw [hc] at z; cases z; exact hb rfl
end

structure Un (fs ex : List Addr) (H H' : Hp) (h h' : Heap) : Prop where
  keep : ∀ b o, h.get? b = some o → H b = none → b ∉ fs → b ∉ ex → h'.get? b = some o
  slot : ∀ b o, h.get? b = some o → H b = none → b ∈ fs → b ∉ ex → ∃ sl, h'.get? b = some { o with slots := sl }
  free : ∀ b o, h.get? b = some o → H b = none → b ∉ ex → H' b = none
  there : ∀ b o, h.get? b = some o → b ∉ ex → ∃ o', h'.get? b = some o'
  tups : ∀ b xs, H b = some (.tup xs) → H' b = some (.tup xs)
  frzs : ∀ b o u, H b = some (.frz o u) → H' b = some (.frz o u)
  tbls : ∀ b ps, H b = some (.tbl ps) → ∃ more, H' b = some (.tbl (ps ++ more))
section
variable {fs fs' ex ex' : List Addr} {H H1 H2 : Hp} {h h1 h2 h' : Heap} {a x e : Addr} {o : HO}
theorem Un.any (u : Un fs ex H H1 h h1) {b : Addr} {ob : Obj} (q : h.get? b = some ob) (n : H b = none) (hx : b ∉ ex) : ∃ sl, h1.get? b = some { ob with slots := sl } := by
  by_cases hb : b ∈ fs
  · exact u.slot b ob q n hb hx
  · exact ⟨ob.slots, u.keep b ob q n hb hx⟩
theorem Un.trans (a : Un fs ex H H1 h h1) (b : Un fs ex H1 H2 h1 h2) : Un fs ex H H2 h h2 where
  keep := fun c ob q n hc hx => b.keep c ob (a.keep c ob q n hc hx) (a.free c ob q n hx) hc hx
  slot := fun c ob q n hc hx => by
    obtain ⟨sl, e1⟩ := a.slot c ob q n hc hx
    obtain ⟨sl', e2⟩ := b.slot c _ e1 (a.free c ob q n hx) hc hx
    exact ⟨sl', e2⟩
  free := fun c ob q n hx => by
    obtain ⟨o', e1⟩ := a.there c ob q hx
    exact b.free c o' e1 (a.free c ob q n hx) hx
  there := fun c ob q hx => by
    obtain ⟨o', e1⟩ := a.there c ob q hx
    exact b.there c o' e1 hx
  tups := fun c xs q => b.tups c xs (a.tups c xs q)
  frzs := fun c ob xs q => b.frzs c ob xs (a.frzs c ob xs q)
  tbls := fun c ps q => by
    obtain ⟨m1, e1⟩ := a.tbls c ps q
    obtain ⟨m2, e2⟩ := b.tbls c _ e1
    exact ⟨m1 ++ m2, by rw [e2, Array.append_assoc]⟩
theorem Un.kept (k : ∀ b u, h.get? b = some u → h'.get? b = some u) : Un fs ex H H h h' :=
  ⟨fun b ob q _ _ _ => k b ob q, fun b ob q _ _ _ => ⟨ob.slots, k b ob q⟩, fun _ _ _ n _ => n, fun b ob q _ => ⟨ob, k b ob q⟩, fun _ _ q => q, fun _ _ _ q => q, fun _ ps q => ⟨#[], by rw [q]; simp⟩⟩
theorem Un.refl : Un fs ex H H h h := Un.kept fun _ _ q => q
theorem Un.laid (k : ∀ b u, h.get? b = some u → h'.get? b = some u) (hp : h.objs.size ≤ a) (hn : H a = none) : Un fs ex H (upd H a o) h h' where
  keep := fun b u q _ _ _ => k b u q
  slot := fun b u q _ _ _ => ⟨u.slots, k b u q⟩
  free := fun b u q n _ => by rw [upd_ne (Nat.ne_of_lt (Nat.lt_of_lt_of_le (Heap.lt_size q) hp))]; exact n
  there := fun b u q _ => ⟨u, k b u q⟩
  tups := fun b xs q => by rw [upd_ne (ne_of_none q hn)]; exact q
  frzs := fun b u xs q => by rw [upd_ne (ne_of_none q hn)]; exact q
  tbls := fun b ps q => ⟨#[], by rw [upd_ne (ne_of_none q hn), q]; simp⟩
theorem Un.write (mu : Mut (H x)) (he : e = x ∨ H e = some (.own x)) (k : ∀ b u, b ≠ e → h.get? b = some u → h'.get? b = some u) (heo : ∃ u, h'.get? e = some u) : Un fs ex H (upd H x o) h h' := by
  have hx : ∀ b, H b = none → b ≠ x := fun b n z => by subst z; rw [n] at mu; exact mu
  have hb : ∀ b, H b = none → b ≠ e := fun b n z => by
    subst z
    rcases he with r | r
    · exact hx b n r
    · rw [n] at r; cases r
  have hm : ∀ b u, H b = some u → ¬ Mut (some u) → b ≠ x := fun b u q nm z => by subst z; rw [q] at mu; exact nm mu
  refine ⟨fun b u q n _ _ => k b u (hb b n) q, fun b u q n _ _ => ⟨u.slots, k b u (hb b n) q⟩, fun b u q n _ => by rw [upd_ne (hx b n)]; exact n, fun b u q _ => ?_,
    fun b xs q => by rw [upd_ne (hm b _ q fun z => z)]; exact q, fun b u xs q => by rw [upd_ne (hm b _ q fun z => z)]; exact q, fun b ps q => ⟨#[], by rw [upd_ne (hm b _ q fun z => z), q]; simp⟩⟩
  by_cases hbe : b = e
  · subst hbe; exact heo
  · exact ⟨u, k b u hbe q⟩
theorem Un.mono (u : Un fs ex H H1 h h1) (hs : ∀ b ∈ fs, b ∈ fs') (hx : ∀ b ∈ ex, b ∈ ex') : Un fs' ex' H H1 h h1 :=
  ⟨fun b ob q n hb he => u.keep b ob q n (fun z => hb (hs b z)) fun z => he (hx b z), fun _ _ q n _ he => u.any q n fun z => he (hx _ z), fun b ob q n he => u.free b ob q n fun z => he (hx b z), fun b ob q he => u.there b ob q fun z => he (hx b z), u.tups, u.frzs, u.tbls⟩
end

def trk (h : Heap) (H : Hp) : List Addr := (List.range h.objs.size).filter fun a => (H a).isSome
def hidT (h : Heap) (H : Hp) : Heap := PySem.W.hideAll h (trk h H)
theorem hidT_size (h : Heap) (H : Hp) : (hidT h H).objs.size = h.objs.size := PySem.W.hideAll_size _ _
theorem hidT_get {h : Heap} {H : Hp} {b : Addr} {o : Obj} (e : h.get? b = some o) (n : H b = none) : (hidT h H).get? b = some o :=
  PySem.W.hideAll_get _ e fun hm => by
    have q : (H b).isSome = true := (List.mem_filter.mp hm).2
    rw [n] at q; simp at q
theorem of_hidT {h : Heap} {H : Hp} {b : Addr} {o : Obj} (e : (hidT h H).get? b = some o) : h.get? b = some o ∧ H b = none := by
  have e' : h.get? b = some o := PySem.W.of_hideAll (trk h H) e
  refine ⟨e', ?_⟩
  cases q : H b with
  | none => rfl
  | some x =>
    have hm : b ∈ trk h H := List.mem_filter.mpr ⟨List.mem_range.mpr (Heap.lt_size e'), by simp [q]⟩
    have z : (hidT h H).get? b = none := PySem.W.hideAll_none (trk h H) hm
    rw [z] at e; cases e

def allNews (g h : Heap) (L : Addr) : List (Addr × Obj) := (List.range h.objs.size).filterMap fun a => if a = L ∨ (g.get? a).isSome = true then none else (h.get? a).map fun o => (a, o)
def rest (g h : Heap) (L d : Addr) : List (Addr × Obj) := (allNews g h L).filter fun p => decide (p.1 ≠ d)
end L2

namespace L2
open PySem PySem.Spec PyProof.Rows

structure Mod (K : PySem.W.Frag) (mg : Str → Option Value) (base : Heap) : Prop where
  kin : K.In base
  glob : base.Ns mainGlobals mg
  blt : ∃ mb, base.Ns builtinsNs mb ∧ ∀ x : Str, x ≠ "__name__" → mb x = bootBuiltins x
  nolimit : base.NoLimit

structure Cx where
  prog : Program
  w : World
  K : PySem.W.Frag
  mg : Str → Option Value
  base : Heap
  A : Around
  N : List Str
  s₀ : Shared
  H₀ : Hp
  env : Env
  outer : List Env
  stack : List Env
  ex : List Addr
  fn : Str → Bool
  calm : Bool
  pn : List (Addr × Obj)
  xe : Value → Shared → Prop
def frs (l : List Env) : List Addr := l.filterMap (·.frame)
abbrev Cx.fs (X : Cx) : List Addr := frs X.outer

def Vis (sc : Scope) (x : Str) : Prop := sc.names.lookup x = some .local ∨ sc.names.lookup x = some .cell ∨ sc.names.lookup x = some .free
def Loc (sc : Scope) (x : Str) : Prop := sc.names.lookup x = some .local ∨ sc.names.lookup x = some .cell
def Look (env : Env) (h : Heap) (m : Str → Option Value) (x : Str) (u : Value) : Prop :=
  (env.kindOf x = some .local ∧ m x = some u) ∨ ((env.kindOf x = some .cell ∨ env.kindOf x = some .free) ∧ ∃ c, env.cells.lookup x = some c ∧ h.IsCell c (some u))

structure Cx.Ok (X : Cx) : Prop where
  mod : Mod X.K X.mg X.base
  kind : X.env.scope.kind = .function
  glob : X.env.globals = mainGlobals
  blt : X.env.builtins = builtinsNs
  above : X.s₀.heap.objs.size ≤ X.env.locals
  inj : ∀ x y c, X.env.cells.lookup x = some c → X.env.cells.lookup y = some c → x = y
  has : ∀ x, (X.env.kindOf x = some .cell ∨ X.env.kindOf x = some .free) → ∃ c, X.env.cells.lookup x = some c
  cab : ∀ x c, X.fn x = true → X.env.cells.lookup x = some c → X.s₀.heap.objs.size ≤ c
  hd : X.calm = true → X.A.handled = none
  frames : X.A.frames = some X.stack
  stk : X.stack = X.outer ∨ (X.stack = X.env :: X.outer ∧ X.env.frame = some X.env.locals)
  exf : ∀ b ∈ X.ex, b ≠ X.env.locals ∧ ∀ x c, X.env.cells.lookup x = some c → c ≠ b
  bs : ∀ b o, X.base.get? b = some o → X.s₀.heap.get? b = some o ∧ X.H₀ b = none
  bsz : X.base.objs.size ≤ X.s₀.heap.objs.size
  noex : ∀ b o, X.base.get? b = some o → b ∉ X.ex
  exfs : ∀ b ∈ X.ex, b ∉ X.fs
  funs : X.s₀.heap.FunFrames X.base X.outer
  frf : ∀ b ∈ X.fs, X.H₀ b = none

structure Inv (X : Cx) (pins : List (Addr × Obj)) (σ : List (Option V)) (H : Hp) (s : Shared) : Prop where
  ok : X.Ok
  os : s.os = X.s₀.os
  bare : AllBare s.gens
  base : Un X.fs X.ex X.H₀ H X.s₀.heap s.heap
  loc : ∃ m, s.heap.Ns X.env.locals m ∧ ∀ (i : Nat) (x : Str) (v : V), X.N[i]? = some x → σ[i]? = some (some v) → Vis X.env.scope x → ∃ u, RelV v u ∧ Look X.env s.heap m x u
  cell : ∀ x c, X.env.cells.lookup x = some c → ∃ v, s.heap.IsCell c v
  free : H X.env.locals = none
  freeC : ∀ x c, X.env.cells.lookup x = some c → H c = none
  pin : ∀ p ∈ X.pn ++ pins, s.heap.get? p.1 = some p.2 ∧ H p.1 = none ∧ p.1 ≠ X.env.locals ∧ p.1 ∉ X.fs ∧ ∀ v, p.2.data ≠ .cell v
  hok : HOk X.prog X.w H s.heap
  len : σ.length = X.N.length

section
variable {X : Cx} {pins : List (Addr × Obj)} {σ : List (Option V)} {H H' : Hp} {s : Shared} {h' : Heap}

theorem Cx.Ok.nofr (ok : X.Ok) {b : Addr} {o : Obj} (e : X.base.get? b = some o) : b ∉ X.fs := fun hb => by
  have := (ok.funs.mem hb).1
  rw [e] at this; cases this
theorem Inv.bs (I : Inv X pins σ H s) : ∀ b o, X.base.get? b = some o → s.heap.get? b = some o ∧ H b = none := fun b o e =>
  ⟨I.base.keep b o (I.ok.bs b o e).1 (I.ok.bs b o e).2 (I.ok.nofr e) (I.ok.noex b o e), I.base.free b o (I.ok.bs b o e).1 (I.ok.bs b o e).2 (I.ok.noex b o e)⟩
theorem Inv.bk (I : Inv X pins σ H s) : ∀ b o, X.base.get? b = some o → s.heap.get? b = some o := fun b o e => (I.bs b o e).1
theorem Inv.mod (I : Inv X pins σ H s) : Mod X.K X.mg X.base := I.ok.mod
theorem Inv.kIn (I : Inv X pins σ H s) : X.K.In s.heap := I.ok.mod.kin.keeps I.bk
theorem Inv.nolimit (I : Inv X pins σ H s) : s.heap.NoLimit := I.ok.mod.nolimit.keeps I.bk
theorem Inv.fr (I : Inv X pins σ H s) : ∃ m, Fr X.base X.env.locals s.heap m :=
  let ⟨m, hn, _⟩ := I.loc
  ⟨m, hn, I.bk, Nat.le_trans I.ok.bsz I.ok.above⟩
theorem Inv.lt (I : Inv X pins σ H s) : X.env.locals < s.heap.objs.size := let ⟨_, hn, _⟩ := I.loc; hn.lt
theorem Inv.sz (I : Inv X pins σ H s) : X.s₀.heap.objs.size ≤ s.heap.objs.size := Nat.le_trans I.ok.above (Nat.le_of_lt I.lt)
theorem Inv.nofs (I : Inv X pins σ H s) {a : Addr} (h : s.heap.objs.size ≤ a) : a ∉ X.fs := fun hb => by
  obtain ⟨_, o, ho, _⟩ := I.ok.funs.mem hb
  exact absurd (Nat.lt_of_lt_of_le (Heap.lt_size ho) (Nat.le_trans I.sz h)) (Nat.lt_irrefl _)
theorem Inv.cne (I : Inv X pins σ H s) : ∀ x c, X.env.cells.lookup x = some c → c ≠ X.env.locals := fun x c e z => by
  obtain ⟨v, o, ho, hd⟩ := I.cell x c e
  obtain ⟨m, ⟨o', es, ep, ho', hd', _⟩, _⟩ := I.loc
  rw [z, ho'] at ho; cases ho; rw [hd'] at hd; cases hd
theorem Inv.funs (I : Inv X pins σ H s) : s.heap.FunFrames X.base X.outer := by
  have all : ∀ (l : List Env), (∀ b ∈ frs l, b ∈ X.fs) → X.s₀.heap.FunFrames X.base l → s.heap.FunFrames X.base l := by
    intro l
    induction l with
    | nil => intro _ _; trivial
    | cons env r ih =>
      intro hs hl
      obtain ⟨hk, ⟨L, o, hf, hn, ho, hd⟩, hr⟩ := hl
      have hL : L ∈ X.fs := hs L (by unfold frs; rw [List.filterMap_cons, hf]; exact List.mem_cons_self)
      obtain ⟨sl, e⟩ := I.base.slot L o ho (I.ok.frf L hL) hL fun z => I.ok.exfs L z hL
      exact ⟨hk, ⟨L, _, hf, hn, e, hd⟩, ih (fun b hb => hs b (by unfold frs; rw [List.filterMap_cons, hf]; exact List.mem_cons_of_mem _ hb)) hr⟩
  exact all X.outer (fun _ hb => hb) I.ok.funs

theorem Inv.stack (I : Inv X pins σ H s) : s.heap.FunFrames X.base X.stack := by
  rcases I.ok.stk with e | ⟨e, hf⟩
  · rw [e]; exact I.funs
  · rw [e]
    obtain ⟨m, hn, _⟩ := I.loc
    refine .cons (by rw [I.ok.kind]; decide) hf hn ?_ I.funs
    exact Heap.get?_none_of_le (Nat.le_trans I.ok.bsz I.ok.above)
theorem Inv.stkSub (I : Inv X pins σ H s) : ∀ b ∈ frs X.stack, b ∈ X.env.locals :: X.fs := fun b hb => by
  rcases I.ok.stk with e | ⟨e, hf⟩
  · rw [e] at hb; exact List.mem_cons_of_mem _ hb
  · rw [e] at hb
    unfold frs at hb
    rw [List.filterMap_cons, hf] at hb
    exact hb
theorem Inv.stkFree (I : Inv X pins σ H s) : ∀ b ∈ frs X.stack, H b = none := fun b hb => by
  rcases List.mem_cons.mp (I.stkSub b hb) with e | hb
  · rw [e]; exact I.free
  · obtain ⟨_, o, ho, _⟩ := I.ok.funs.mem hb
    exact I.base.free b o ho (I.ok.frf b hb) fun z => I.ok.exfs b z hb

theorem Inv.step {g' : Array GenState} {t' : Nat} {d' : Drawn} {ch : List Addr} (I : Inv X pins σ H s)
    (hch : ∀ b ∈ ch, (b ∈ X.ex ∨ X.s₀.heap.objs.size ≤ b) ∧ b ≠ X.env.locals ∧ (∀ x c, X.env.cells.lookup x = some c → c ≠ b) ∧ ∀ p ∈ X.pn ++ pins, p.1 ≠ b)
    (keep : ∀ b o, b ≠ X.env.locals → b ∉ X.fs → b ∉ ch → s.heap.get? b = some o → H b = none → h'.get? b = some o)
    (slot : ∀ b o, b ≠ X.env.locals → b ∈ X.fs → b ∉ ch → s.heap.get? b = some o → H b = none → ∃ sl, h'.get? b = some { o with slots := sl }) (free : ∀ b o, b ∉ ch → s.heap.get? b = some o → H b = none → H' b = none)
    (there : ∀ b o, b ∉ ch → s.heap.get? b = some o → ∃ o', h'.get? b = some o')
    (tups : ∀ b xs, H b = some (.tup xs) → H' b = some (.tup xs)) (frzs : ∀ b o u, H b = some (.frz o u) → H' b = some (.frz o u)) (tbls : ∀ b ps, H b = some (.tbl ps) → ∃ more, H' b = some (.tbl (ps ++ more)))
    (ns : ∀ m, s.heap.Ns X.env.locals m → h'.Ns X.env.locals m) (hok : HOk X.prog X.w H' h') (hg : AllBare g') :
    Inv X pins σ H' { s with heap := h', gens := g', drawn := d', toks := t' } := by
  have neL : ∀ b o, X.s₀.heap.get? b = some o → b ≠ X.env.locals := fun b o e => Nat.ne_of_lt (Nat.lt_of_lt_of_le (Heap.lt_size e) I.ok.above)
  have neC : ∀ b o, X.s₀.heap.get? b = some o → b ∉ X.ex → b ∉ ch := fun b o e hx hb => by
    rcases (hch b hb).1 with z | z
    · exact hx z
    · exact absurd (Nat.lt_of_lt_of_le (Heap.lt_size e) z) (Nat.lt_irrefl _)
  have cellK : ∀ x c, X.env.cells.lookup x = some c → ∀ v, s.heap.IsCell c v → h'.IsCell c v := fun x c e v ⟨o, ho, hd⟩ => by
    have nch : c ∉ ch := fun z => (hch c z).2.2.1 x c e rfl
    by_cases hc : c ∈ X.fs
    · obtain ⟨sl, q⟩ := slot c o (I.cne x c e) hc nch ho (I.freeC x c e)
      exact ⟨_, q, hd⟩
    · exact ⟨o, keep c o (I.cne x c e) hc nch ho (I.freeC x c e), hd⟩
  refine ⟨I.ok, I.os, hg, ⟨fun b o e n hb hx => ?_, fun b o e n hb hx => ?_, fun b o e n hx => ?_, fun b o e hx => ?_, fun b xs e => tups b xs (I.base.tups b xs e), fun b o xs e => frzs b o xs (I.base.frzs b o xs e), fun b ps e => ?_⟩, ?_, fun x c e => ?_, ?_, fun x c e => ?_, fun p hp => ?_, hok, I.len⟩
  · exact keep b o (neL b o e) hb (neC b o e hx) (I.base.keep b o e n hb hx) (I.base.free b o e n hx)
  · obtain ⟨sl, e1⟩ := I.base.slot b o e n hb hx
    obtain ⟨sl', e2⟩ := slot b _ (neL b o e) hb (neC b o e hx) e1 (I.base.free b o e n hx)
    exact ⟨sl', e2⟩
  · obtain ⟨o', e1⟩ := I.base.there b o e hx
    exact free b o' (neC b o e hx) e1 (I.base.free b o e n hx)
  · obtain ⟨o', e1⟩ := I.base.there b o e hx
    exact there b o' (neC b o e hx) e1
  · obtain ⟨m1, e1⟩ := I.base.tbls b ps e
    obtain ⟨m2, e2⟩ := tbls b _ e1
    exact ⟨m1 ++ m2, by rw [e2, Array.append_assoc]⟩
  · obtain ⟨m, hn, hl⟩ := I.loc
    refine ⟨m, ns m hn, fun i x v e1 e2 e3 => ?_⟩
    obtain ⟨u, r, l⟩ := hl i x v e1 e2 e3
    refine ⟨u, r, ?_⟩
    rcases l with l | ⟨k, c, e, z⟩
    · exact .inl l
    · exact .inr ⟨k, c, e, cellK x c e _ z⟩
  · obtain ⟨v, z⟩ := I.cell x c e
    exact ⟨v, cellK x c e v z⟩
  · obtain ⟨m, ⟨o, _, _, ho, _⟩, _⟩ := I.loc
    exact free _ o (fun z => (hch _ z).2.1 rfl) ho I.free
  · obtain ⟨v, o, ho, hd⟩ := I.cell x c e
    exact free c o (fun z => (hch c z).2.2.1 x c e rfl) ho (I.freeC x c e)
  · obtain ⟨e, n, ne, nf, d⟩ := I.pin p hp
    have nch : p.1 ∉ ch := fun z => (hch p.1 z).2.2.2 p hp rfl
    exact ⟨keep p.1 p.2 ne nf nch e n, free p.1 p.2 nch e n, ne, nf, d⟩
theorem Inv.un {t' : Nat} (I : Inv X pins σ H s) (u : Un X.fs [] H H' s.heap h') (hok : HOk X.prog X.w H' h') : Inv X pins σ H' { s with heap := h', toks := t' } := by
  obtain ⟨m, ⟨o, es, ep, ho, r⟩, _⟩ := id I.loc
  obtain ⟨sl, hL⟩ := u.any ho I.free (by simp)
  exact I.step (g' := s.gens) (d' := s.drawn) (ch := []) (fun _ z => nomatch z) (fun b o _ hb _ e n => u.keep b o e n hb (by simp)) (fun b o _ hb _ e n => u.slot b o e n hb (by simp)) (fun b o _ e n => u.free b o e n (by simp)) (fun b o _ e => u.there b o e (by simp)) u.tups u.frzs u.tbls (fun m' hm => by
    obtain ⟨o', es', ep', ho', r'⟩ := hm
    rw [ho] at ho'; cases ho'
    exact ⟨_, es', ep', hL, r'⟩) hok I.bare
theorem Inv.call {g' : Array GenState} {t' : Nat} {d' : Drawn} {ch : List Addr} (I : Inv X pins σ H s) (u : Un (frs X.stack) ch H H' s.heap h') (hok : HOk X.prog X.w H' h') (hg : AllBare g')
    (hch : ∀ b ∈ ch, (b ∈ X.ex ∨ X.s₀.heap.objs.size ≤ b) ∧ b ≠ X.env.locals ∧ (∀ x c, X.env.cells.lookup x = some c → c ≠ b) ∧ ∀ p ∈ X.pn ++ pins, p.1 ≠ b) :
    Inv X pins σ H' { s with heap := h', gens := g', drawn := d', toks := t' } := by
  obtain ⟨m, ⟨o, es, ep, ho, r⟩, _⟩ := id I.loc
  obtain ⟨sl, hL⟩ := u.any ho I.free fun z => (hch _ z).2.1 rfl
  exact I.step (ch := ch) hch (fun b o hL hb hc e n => u.keep b o e n (fun z => (List.mem_cons.mp (I.stkSub b z)).elim hL hb) hc) (fun b o _ _ hc e n => u.any e n hc) (fun b o hc e n => u.free b o e n hc) (fun b o hc e => u.there b o e hc) u.tups u.frzs u.tbls (fun m' hm => by
    obtain ⟨o', es', ep', ho', r'⟩ := hm
    rw [ho] at ho'; cases ho'
    exact ⟨_, es', ep', hL, r'⟩) hok hg
theorem Inv.turned {t' : Nat} {it : Addr} (I : Inv X pins σ H s) (k : ∀ b o, b ≠ it → s.heap.get? b = some o → h'.get? b = some o) (hn : H it = none) (hL : it ≠ X.env.locals)
    (h1 : it ∈ X.ex ∨ X.s₀.heap.objs.size ≤ it) (h2 : ∀ x c, X.env.cells.lookup x = some c → c ≠ it) (h3 : ∀ p ∈ X.pn ++ pins, p.1 ≠ it) : Inv X pins σ H { s with heap := h', toks := t' } := by
  have nit : ∀ b u, H b = some u → b ≠ it := fun b u e z => by rw [z, hn] at e; cases e
  refine I.step (g' := s.gens) (d' := s.drawn) (ch := [it]) (fun b hb => ?_) (fun b o _ _ hc e _ => k b o (fun z => hc (by simp [z])) e) (fun b o _ _ hc e _ => ⟨o.slots, k b o (fun z => hc (by simp [z])) e⟩) (fun _ _ _ _ n => n)
    (fun b o hc e => ⟨o, k b o (fun z => hc (by simp [z])) e⟩) (fun _ _ e => e) (fun _ _ _ e => e) (fun b ps e => ⟨#[], by rw [e]; simp⟩) (fun m hm => ?_) (fun b u e => ?_) I.bare
  · have e : b = it := by simpa using hb
    subst e
    exact ⟨h1, hL, h2, h3⟩
  · obtain ⟨o, es, ep, ho, r⟩ := hm
    exact ⟨o, es, ep, k _ o (Ne.symm hL) ho, r⟩
  · refine (I.hok b u e).stay (fun c v hc q => k c v ?_ q) (fun _ q => q) fun _ _ q => q
    rcases hc with z | z
    · rw [z]; exact nit b u e
    · exact nit c _ z
theorem Inv.tok (I : Inv X pins σ H s) (t : Nat) : Inv X pins σ H { s with toks := t } := I.un (h' := s.heap) (t' := t) Un.refl I.hok
theorem Inv.kept {t' : Nat} (I : Inv X pins σ H s) (k : ∀ b u, s.heap.get? b = some u → h'.get? b = some u) : Inv X pins σ H { s with heap := h', toks := t' } := I.un (Un.kept k) (I.hok.kept k)
theorem Inv.laid {a : Addr} {o : HO} {t' : Nat} (I : Inv X pins σ H s) (k : ∀ b u, s.heap.get? b = some u → h'.get? b = some u) (hp : s.heap.objs.size ≤ a) (new : ObjOk X.prog X.w (upd H a o) h' a o) :
    Inv X pins σ (upd H a o) { s with heap := h', toks := t' } := I.un (Un.laid k hp (I.hok.fresh hp)) (I.hok.laid k hp new)
theorem Inv.write {x e : Addr} {o : HO} {t' : Nat} (I : Inv X pins σ H s) (mu : Mut (H x)) (he : e = x ∨ H e = some (.own x)) (k : ∀ b u, b ≠ e → s.heap.get? b = some u → h'.get? b = some u) (heo : ∃ u, h'.get? e = some u)
    (new : ObjOk X.prog X.w (upd H x o) h' x o) : Inv X pins σ (upd H x o) { s with heap := h', toks := t' } := I.un (Un.write mu he k heo) (I.hok.write mu he k heo new)
theorem Inv.pins_of {pins' : List (Addr × Obj)} (I : Inv X pins σ H s) (h : ∀ p ∈ pins', s.heap.get? p.1 = some p.2 ∧ H p.1 = none ∧ p.1 ≠ X.env.locals ∧ p.1 ∉ X.fs ∧ ∀ v, p.2.data ≠ .cell v) : Inv X pins' σ H s :=
  ⟨I.ok, I.os, I.bare, I.base, I.loc, I.cell, I.free, I.freeC, fun p hp => (List.mem_append.mp hp).elim (fun z => I.pin p (List.mem_append_left _ z)) (h p), I.hok, I.len⟩

theorem nodup_ix {N : List Str} (hN : N.Nodup) {i j : Nat} {x : Str} (a : N[i]? = some x) (b : N[j]? = some x) : i = j := by
  obtain ⟨h1, e1⟩ := List.getElem?_eq_some_iff.mp a
  obtain ⟨h2, e2⟩ := List.getElem?_eq_some_iff.mp b
  exact (List.getElem_inj hN).mp (e1.trans e2.symm)

theorem store_ok2 {M : Model} {A : Around} {E : Value → Shared → Prop} {i : Nat} {x : Str} {v : V} {u : Value} {Q : Unit → Shared → Prop} (I : Inv X pins σ H s) (hN : X.N.Nodup) (hi : X.N[i]? = some x) (hx : Loc X.env.scope x) (r : RelV v u)
    (h : ∀ s', Inv X pins (σ.set i (some v)) H s' → (∃ a, Heap.SameBut a s.heap s'.heap ∧ (a = X.env.locals ∨ X.env.cells.lookup x = some a)) → Q () s') (hf : X.fn x = true ∨ X.env.scope.names.lookup x = some .local := by first | exact .inl rfl | exact .inr rfl | assumption) : wpAny M A (storeName X.env x u) Q E s := by
  obtain ⟨m, hn, hl⟩ := id I.loc
  have hcls : (X.env.scope.kind == .class || (X.env.scope.kind == .module && X.env.locals != X.env.globals)) = false := by rw [I.ok.kind]; rfl
  have hiσ : i < σ.length := by rw [I.len]; exact (List.getElem?_eq_some_iff.mp hi).1
  have cne := I.cne
  have tracked : ∀ {a : Addr} {h' : Heap}, (∃ o, s.heap.get? a = some o ∧ H a = none) → Heap.SameBut a s.heap h' → HOk X.prog X.w H h' := fun {a h'} ha hs b ob e => by
    obtain ⟨_, _, hfree⟩ := ha
    refine (I.hok b ob e).stay (fun c w' hc q => (hs.2 c ?_).trans q) (fun _ q => q) fun _ _ q => q
    rintro rfl
    rcases hc with rfl | hc
    · rw [hfree] at e; cases e
    · rw [hfree] at hc; cases hc
  rcases hx with hk | hk
  · refine wpAny_storeName_local hk hn (fun h' hn' hs => ?_) hcls
    obtain ⟨oL, _, _, hoL, _⟩ := id hn
    refine h _ ⟨I.ok, I.os, I.bare, ⟨fun b o e n hb hx => ?_, fun b o e n hb hx => ?_, I.base.free, fun b o e hx => ?_, I.base.tups, I.base.frzs, I.base.tbls⟩, ⟨_, hn', fun j y v' e1 e2 e3 => ?_⟩, fun y c e => ?_, I.free, I.freeC, fun p hp => ?_, tracked ⟨oL, hoL, I.free⟩ hs, by simpa using I.len⟩ ⟨_, hs, .inl rfl⟩
    · exact (hs.2 b (Nat.ne_of_lt (Nat.lt_of_lt_of_le (Heap.lt_size e) I.ok.above))).trans (I.base.keep b o e n hb hx)
    · obtain ⟨sl, e1⟩ := I.base.slot b o e n hb hx
      exact ⟨sl, (hs.2 b (Nat.ne_of_lt (Nat.lt_of_lt_of_le (Heap.lt_size e) I.ok.above))).trans e1⟩
    · obtain ⟨o', e1⟩ := I.base.there b o e hx
      exact ⟨o', (hs.2 b (Nat.ne_of_lt (Nat.lt_of_lt_of_le (Heap.lt_size e) I.ok.above))).trans e1⟩
    · by_cases hj : j = i
      · subst hj
        rw [hi] at e1; cases e1
        rw [List.getElem?_set_self hiσ] at e2
        cases e2
        exact ⟨u, r, .inl ⟨hk, by simp⟩⟩
      · rw [List.getElem?_set_ne (Ne.symm hj)] at e2
        obtain ⟨u', r', q⟩ := hl j y v' e1 e2 e3
        refine ⟨u', r', ?_⟩
        rcases q with ⟨k, e⟩ | ⟨k, c, e, z⟩
        · refine .inl ⟨k, ?_⟩
          have : y ≠ x := fun e => hj (nodup_ix hN e1 (e ▸ hi))
          simp [this, e]
        · exact .inr ⟨k, c, e, z.sameBut hs (cne y c e)⟩
    · obtain ⟨w', z⟩ := I.cell y c e
      exact ⟨w', z.sameBut hs (cne y c e)⟩
    · obtain ⟨e, n, ne, nf, d⟩ := I.pin p hp
      exact ⟨(hs.2 p.1 ne).trans e, n, ne, nf, d⟩
  · have hfn : X.fn x = true := by
      rcases hf with z | z
      · exact z
      · rw [z] at hk; cases hk
    obtain ⟨c, hc⟩ := I.ok.has x (.inl hk)
    obtain ⟨w', z⟩ := I.cell x c hc
    refine wpAny_storeName_cell I.ok.kind hk hc z (fun h' hc' hs => ?_)
    obtain ⟨oc, hoc, hocd⟩ := id z
    refine h { s with heap := h' } ⟨I.ok, I.os, I.bare, ⟨fun b o e n hb hx => ?_, fun b o e n hb hx => ?_, I.base.free, fun b o e hx => ?_, I.base.tups, I.base.frzs, I.base.tbls⟩, ⟨m, hn.sameBut hs (Ne.symm (cne x c hc)), fun j y v' e1 e2 e3 => ?_⟩, fun y c' e => ?_, I.free, I.freeC, fun p hp => ?_, tracked ⟨oc, hoc, I.freeC x c hc⟩ hs, by simpa using I.len⟩ ⟨c, hs, .inr hc⟩
    · exact (hs.2 b (Nat.ne_of_lt (Nat.lt_of_lt_of_le (Heap.lt_size e) (I.ok.cab x c hfn hc)))).trans (I.base.keep b o e n hb hx)
    · obtain ⟨sl, e1⟩ := I.base.slot b o e n hb hx
      exact ⟨sl, (hs.2 b (Nat.ne_of_lt (Nat.lt_of_lt_of_le (Heap.lt_size e) (I.ok.cab x c hfn hc)))).trans e1⟩
    · obtain ⟨o', e1⟩ := I.base.there b o e hx
      exact ⟨o', (hs.2 b (Nat.ne_of_lt (Nat.lt_of_lt_of_le (Heap.lt_size e) (I.ok.cab x c hfn hc)))).trans e1⟩
    · by_cases hj : j = i
      · subst hj
        rw [hi] at e1; cases e1
        rw [List.getElem?_set_self hiσ] at e2
        cases e2
        exact ⟨u, r, .inr ⟨.inl hk, c, hc, hc'⟩⟩
      · rw [List.getElem?_set_ne (Ne.symm hj)] at e2
        obtain ⟨u', r', q⟩ := hl j y v' e1 e2 e3
        refine ⟨u', r', ?_⟩
        rcases q with q | ⟨k, c', e, z'⟩
        · exact .inl q
        · refine .inr ⟨k, c', e, z'.sameBut hs ?_⟩
          rintro rfl
          exact hj (nodup_ix hN e1 (I.ok.inj _ _ _ e hc ▸ hi))
    · by_cases hcc : c' = c
      · subst hcc; exact ⟨_, hc'⟩
      · obtain ⟨w2, z2⟩ := I.cell y c' e
        exact ⟨w2, z2.sameBut hs hcc⟩
    · obtain ⟨e, n, ne, nf, d⟩ := I.pin p hp
      refine ⟨(hs.2 p.1 ?_).trans e, n, ne, nf, d⟩
      intro q
      rw [q, hoc] at e
      have q' : oc = p.2 := Option.some.inj e
      exact d w' (by rw [← q']; exact hocd)
theorem store_ok {M : Model} {A : Around} {E : Value → Shared → Prop} {i : Nat} {x : Str} {v : V} {u : Value} {Q : Unit → Shared → Prop} (I : Inv X pins σ H s) (hN : X.N.Nodup) (hi : X.N[i]? = some x) (hx : Loc X.env.scope x) (r : RelV v u)
    (h : ∀ s', Inv X pins (σ.set i (some v)) H s' → Q () s') (hf : X.fn x = true ∨ X.env.scope.names.lookup x = some .local := by first | exact .inl rfl | exact .inr rfl | assumption) : wpAny M A (storeName X.env x u) Q E s :=
  store_ok2 I hN hi hx r (fun s' I' _ => h s' I') hf
theorem Inv.call' {s' : Shared} {ch : List Addr} (I : Inv X pins σ H s) (ho : s'.os = s.os) (u : Un (frs X.stack) ch H H' s.heap s'.heap) (hok : HOk X.prog X.w H' s'.heap) (hg : AllBare s'.gens)
    (hch : ∀ b ∈ ch, (b ∈ X.ex ∨ X.s₀.heap.objs.size ≤ b) ∧ b ≠ X.env.locals ∧ (∀ x c, X.env.cells.lookup x = some c → c ≠ b) ∧ ∀ p ∈ X.pn ++ pins, p.1 ≠ b) : Inv X pins σ H' s' := by
  obtain ⟨h', g', d', t', o'⟩ := s'
  have e : o' = s.os := ho
  subst e
  exact I.call (g' := g') (t' := t') (d' := d') u hok hg hch
end

abbrev XK := Value → Option Addr → Hp → Prop
abbrev St := List (Option V)
abbrev VK := V → Hp → Prop
abbrev TE := St → Hp → VK → Prop
abbrev TT := St → Hp → (Bool → Hp → Prop) → Prop
abbrev TA := St → Hp → (List V → Hp → Prop) → Prop
structure Ends where
  nx : St → Hp → Prop
  rt : VK
  bk : St → Hp → Prop := fun _ _ => False
  ct : St → Hp → Prop := fun _ _ => False
abbrev TS := Ends → St → Hp → Prop

def EP (X : Cx) (pins : List (Addr × Obj)) (σ : St) (Q : VK) (u : Value) (s' : Shared) : Prop := ∃ v H', Inv X pins σ H' s' ∧ RelV v u ∧ Q v H'
def TP (X : Cx) (pins : List (Addr × Obj)) (σ : St) (Q : Bool → Hp → Prop) (b : Bool) (s' : Shared) : Prop := ∃ H', Inv X pins σ H' s' ∧ Q b H'
def AP (X : Cx) (pins : List (Addr × Obj)) (σ : St) (Q : List V → Hp → Prop) (us : List Value) (s' : Shared) : Prop := ∃ vs H', Inv X pins σ H' s' ∧ Vals vs us ∧ Q vs H'
def SP (X : Cx) (pins : List (Addr × Obj)) (D : Ends) (f : Flow) (s' : Shared) : Prop :=
  match f with
  | .next => ∃ σ' H', Inv X pins σ' H' s' ∧ D.nx σ' H'
  | .brk => ∃ σ' H', Inv X pins σ' H' s' ∧ D.bk σ' H'
  | .cont => ∃ σ' H', Inv X pins σ' H' s' ∧ D.ct σ' H'
  | .ret u => ∃ v σ' H', Inv X pins σ' H' s' ∧ RelV v u ∧ D.rt v H'

def PE (X : Cx) (e : Expr) (t : TE) : Prop :=
  ∀ (pins : List (Addr × Obj)) (s : Shared) (σ : St) (H : Hp) (Q : VK), Inv X pins σ H s → t σ H Q → wpAny (model X.prog X.w) X.A (eval e X.env) (EP X pins σ Q) X.xe s
def PT (X : Cx) (e : Expr) (t : TT) : Prop :=
  ∀ (pins : List (Addr × Obj)) (s : Shared) (σ : St) (H : Hp) (Q : Bool → Hp → Prop), Inv X pins σ H s → t σ H Q → wpAny (model X.prog X.w) X.A (isTrue e X.env (eval e X.env)) (TP X pins σ Q) X.xe s
def PW (X : Cx) (e : Expr) (t : TT) : Prop :=
  ∀ (whole : Sem Value) (pins : List (Addr × Obj)) (s : Shared) (σ : St) (H : Hp) (Q : Bool → Hp → Prop), Inv X pins σ H s → t σ H Q → wpAny (model X.prog X.w) X.A (isTrue e X.env whole) (TP X pins σ Q) X.xe s
theorem PW.pt {X : Cx} {e : Expr} {t : TT} (h : PW X e t) : PT X e t := h _
def PA (X : Cx) (es : List Expr) (t : TA) : Prop :=
  ∀ (pos : Pos) (pins : List (Addr × Obj)) (s : Shared) (σ : St) (H : Hp) (Q : List V → Hp → Prop), Inv X pins σ H s → t σ H Q → wpAny (model X.prog X.w) X.A (spliced (backTo pos (starEach es X.env))) (AP X pins σ Q) X.xe s
def PS (X : Cx) (st : Stmt) (t : TS) : Prop :=
  ∀ (pins : List (Addr × Obj)) (s : Shared) (σ : St) (H : Hp) (D : Ends), Inv X pins σ H s → t D σ H → wpAny (model X.prog X.w) X.A (exec st X.env) (SP X pins D) X.xe s
def PSs (X : Cx) (st : List Stmt) (t : TS) : Prop :=
  ∀ (pins : List (Addr × Obj)) (s : Shared) (σ : St) (H : Hp) (D : Ends), Inv X pins σ H s → t D σ H → wpAny (model X.prog X.w) X.A (execs st X.env) (SP X pins D) X.xe s
theorem thn {α : Type} {t : Sem α} {Q Q' : α → Shared → Prop} {M : Model} {A : Around} {E : Value → Shared → Prop} {s : Shared} (h : wpAny M A t Q E s) (hQ : ∀ a s, Q a s → Q' a s) : wpAny M A t Q' E s := wpAny_mono h hQ fun _ _ x => x
end L2

namespace L2
open PySem PySem.Spec PyProof.Rows
section
variable {X : Cx}

theorem bin {a b : Expr} {ta tb : TE} (ha : PE X a ta) (hb : PE X b tb) {pins : List (Addr × Obj)} {s : Shared} {σ : St} {H : Hp} {R : V → V → Hp → Prop} (I : Inv X pins σ H s) (h : ta σ H fun x H1 => tb σ H1 fun y H2 => R x y H2)
    {α : Type} {Q : α → Shared → Prop} {f : Value → Value → Sem α}
    (hf : ∀ v u s2 x y H2, Inv X pins σ H2 s2 → RelV x v → RelV y u → R x y H2 → wpAny (model X.prog X.w) X.A (f v u) Q X.xe s2) :
    wpAny (model X.prog X.w) X.A (eval a X.env) (fun v s₁ => wpAny (model X.prog X.w) X.A (eval b X.env) (fun u s₂ => wpAny (model X.prog X.w) X.A (f v u) Q X.xe s₂) X.xe s₁) X.xe s := by
  refine thn (ha pins s σ H _ I h) fun v s1 ⟨x, H1, I1, r1, q1⟩ => ?_
  refine thn (hb pins s1 σ H1 _ I1 q1) fun u s2 ⟨y, H2, I2, r2, q2⟩ => ?_
  exact hf v u s2 x y H2 I2 r1 r2 q2

def tVar (i : Nat) : TE := fun σ H Q => ∃ v, σ[i]? = some (some v) ∧ Q v H
def tC (v : V) : TE := fun _ H Q => Q v H
theorem pe_var {i : Nat} {x : Str} {pos : Pos} (hN : X.N[i]? = some x) (hv : Vis X.env.scope x) (hd : (x == ("__debug__" : Str)) = false := by decide) (hcd : (x == ("__classdict__" : Str)) = false := by decide) : PE X (.Name x pos) (tVar i) := by
  intro pins s σ H Q I h
  obtain ⟨v, e, h⟩ := h
  obtain ⟨m, hn, hl⟩ := I.loc
  obtain ⟨u, r, l⟩ := hl i x v hN e hv
  have fin : EP X pins σ Q u s := ⟨v, H, I, r, h⟩
  rcases l with ⟨hk, hm⟩ | ⟨hk, c, hc, hcell⟩
  · exact wpAny_Name (wpAny_loadName_local I.ok.kind hk hn hm fin) hd
  · rcases hk with hk | hk
    · exact wpAny_Name (wpAny_loadName_cell I.ok.kind hk hc hcell fin) hd
    · exact wpAny_Name (wpAny_loadName_free I.ok.kind hk hc hcell fin hcd) hd
theorem pe_int {i j pos} : PE X (.Constant (.int i) j pos) (tC (.int i)) := fun _ _ _ H _ I h => wpAny_Constant_int ⟨.int i, H, I.tok _, ⟨_, rfl⟩, h⟩
theorem pe_bl {b j pos} : PE X (.Constant (.bool b) j pos) (tC (.bl b)) := fun _ _ _ H _ I h => Constant_bool ⟨.bl b, H, I, rfl, h⟩
theorem pe_str {x j pos} : PE X (.Constant (.str x) j pos) (tC (.str x)) := fun _ _ _ H _ I h => Calls.Constant_str ⟨.str x, H, I.tok _, ⟨_, rfl⟩, h⟩

def Gl (X : Cx) (x : Str) : Prop := X.env.kindOf x = some .globalImplicit
theorem ld_glob {E : Value → Shared → Prop} {pins : List (Addr × Obj)} {s : Shared} {σ : St} {H : Hp} {x : Str} {u : Value} {pos : Pos} {Q : Value → Shared → Prop} (I : Inv X pins σ H s) (hg : Gl X x) (hm : X.mg x = some u) (h : Q u s)
    (hd : (x == ("__debug__" : Str)) = false := by decide) : wpAny (model X.prog X.w) X.A (eval (.Name x pos) X.env) Q E s :=
  Calls.Name_function_global I.ok.kind hg (Calls.loadGlobal_global (by rw [I.ok.glob]; exact I.mod.glob.keeps I.bk) hm h) hd
theorem ld_blt {E : Value → Shared → Prop} {pins : List (Addr × Obj)} {s : Shared} {σ : St} {H : Hp} {x : Str} {u : Value} {pos : Pos} {Q : Value → Shared → Prop} (I : Inv X pins σ H s) (hg : Gl X x) (hm : X.mg x = none) (hv : bootBuiltins x = some u) (h : Q u s)
    (hn : x ≠ "__name__" := by decide) (hd : (x == ("__debug__" : Str)) = false := by decide) : wpAny (model X.prog X.w) X.A (eval (.Name x pos) X.env) Q E s := by
  obtain ⟨mb, h1, h2⟩ := I.mod.blt
  exact Calls.Name_function_global I.ok.kind hg (Calls.loadGlobal_builtin (by rw [I.ok.glob]; exact I.mod.glob.keeps I.bk) hm (by rw [I.ok.blt]; exact h1.keeps I.bk) ((h2 x hn).trans hv) h) hd
theorem pe_glob {x : Str} {v : V} {u : Value} {pos : Pos} (hg : Gl X x) (hm : X.mg x = some u) (r : RelV v u) (hd : (x == ("__debug__" : Str)) = false := by decide) : PE X (.Name x pos) (tC v) :=
  fun _ _ _ H _ I h => ld_glob I hg hm ⟨v, H, I, r, h⟩ hd
theorem pe_bltn {x : Str} {v : V} {u : Value} {pos : Pos} (hg : Gl X x) (hm : X.mg x = none) (hv : bootBuiltins x = some u) (r : RelV v u) (hn : x ≠ "__name__" := by decide) (hd : (x == ("__debug__" : Str)) = false := by decide) : PE X (.Name x pos) (tC v) :=
  fun _ _ _ H _ I h => ld_blt I hg hm hv ⟨v, H, I, r, h⟩ hn hd

variable {a b : Expr} {ta tb : TE} {pos : Pos}
def PC (X : Cx) (op : CmpOp) (a b : Expr) (t : TE) : Prop :=
  ∀ (pins : List (Addr × Obj)) (s : Shared) (σ : St) (H : Hp) (Q : VK), Inv X pins σ H s → t σ H Q →
    wpAny (model X.prog X.w) X.A (eval a X.env) (fun v s₁ => wpAny (model X.prog X.w) X.A (eval b X.env) (fun u s₂ => wpAny (model X.prog X.w) X.A (compareOp op v u) (EP X pins σ Q) X.xe s₂) X.xe s₁) X.xe s
theorem nobehind (b : Expr) {op : CmpOp} (h : op ≠ .In) (h2 : op ≠ .NotIn) : behindInMarks op b = false := by
  have e1 : (op == CmpOp.In) = false := by cases op <;> first | rfl | exact absurd rfl h
  have e2 : (op == CmpOp.NotIn) = false := by cases op <;> first | rfl | exact absurd rfl h2
  cases b <;> simp [behindInMarks, e1, e2]
def tB (t : TE) : TT := fun σ H Q => t σ H fun x H1 => ∃ c, x = .bl c ∧ Q c H1
theorem pt_cmp {op : CmpOp} {t : TE} (h : PC X op a b t) (h1 : behindInMarks op b = false := by first | exact nobehind _ (by decide) (by decide) | rfl) : PT X (.Compare a [op] [b] pos) (tB t) := by
  intro pins s σ H Q I hw
  refine wpAny_isTrue_Compare1 (thn (h pins s σ H _ I hw) fun v s1 h1 => thn h1 fun u s2 h2 => thn h2 fun c s3 ⟨x, H1, I1, r1, q1⟩ => ?_) h1
  obtain ⟨d, rfl, q⟩ := q1
  cases r1
  exact wpAny_truthy_bool ⟨H1, I1, q⟩
theorem pt_val {e : Expr} {t : TE} (h : PE X e t) (he : ∀ whole, isTrue e X.env whole = (do let v ← whole; standAt e.pos; holding [v] (truthy v)) := by intro _; rfl) : PT X e (tB t) := by
  intro pins s σ H Q I hw
  refine isTrue_plain (thn (h pins s σ H _ I hw) fun v s1 ⟨x, H1, I1, r1, q1⟩ => ?_) (he _)
  obtain ⟨d, rfl, q⟩ := q1
  cases r1
  exact wpAny_truthy_bool ⟨H1, I1, q⟩

variable {tA tB' : TT} {rest : List Expr}
def tAnd (t u : TT) : TT := fun σ H Q => t σ H fun c H1 => if c = true then u σ H1 Q else Q false H1
def tOr (t u : TT) : TT := fun σ H Q => t σ H fun c H1 => if c = true then Q true H1 else u σ H1 Q
def tNot (t : TT) : TT := fun σ H Q => t σ H fun c H1 => Q (!c) H1
theorem pw_and1 (ha : PT X a tA) : PW X (.BoolOp .And [a] pos) tA := by
  intro wh pins s σ H Q I h
  refine isTrue_and (thn (ha pins s σ H Q I h) fun c s1 e => ?_)
  cases c with
  | true => exact isTrue_and_nil e
  | false => exact e
theorem pw_or1 (ha : PT X a tA) : PW X (.BoolOp .Or [a] pos) tA := by
  intro wh pins s σ H Q I h
  refine isTrue_or (thn (ha pins s σ H Q I h) fun c s1 e => ?_)
  cases c with
  | false => exact isTrue_or_nil e
  | true => exact e
theorem pw_and (ha : PT X a tA) (hb : PW X (.BoolOp .And (b :: rest) pos) tB') : PW X (.BoolOp .And (a :: b :: rest) pos) (tAnd tA tB') := by
  intro wh pins s σ H Q I h
  refine isTrue_and (thn (ha pins s σ H _ I h) fun c s1 ⟨H1, I1, q1⟩ => ?_)
  cases c with
  | true => exact hb wh pins s1 σ H1 Q I1 q1
  | false => exact ⟨H1, I1, q1⟩
theorem pw_or (ha : PT X a tA) (hb : PW X (.BoolOp .Or (b :: rest) pos) tB') : PW X (.BoolOp .Or (a :: b :: rest) pos) (tOr tA tB') := by
  intro wh pins s σ H Q I h
  refine isTrue_or (thn (ha pins s σ H _ I h) fun c s1 ⟨H1, I1, q1⟩ => ?_)
  cases c with
  | true => exact ⟨H1, I1, q1⟩
  | false => exact hb wh pins s1 σ H1 Q I1 q1
theorem pt_not (ha : PT X a tA) : PT X (.UnaryOp .Not a pos) (tNot tA) := by
  intro pins s σ H Q I h
  exact isTrue_not (ha pins s σ H (fun c H1 => Q (!c) H1) I h)
def tAndV (ta tb : TE) : TE := fun σ H Q => ta σ H fun x H1 => ∃ c, x = .bl c ∧ if c = true then tb σ H1 Q else Q (.bl false) H1
def tOrV (ta tb : TE) : TE := fun σ H Q => ta σ H fun x H1 => ∃ c, x = .bl c ∧ if c = true then Q (.bl true) H1 else tb σ H1 Q
theorem pe_one {op} {t : TE} (h : PE X a t) : PE X (.BoolOp op [a] pos) t := fun pins s σ H Q I hw => BoolOp_one (h pins s σ H Q I hw)
theorem pe_and (ha : PE X a ta) (hb : PE X (.BoolOp .And (b :: rest) pos) tb) : PE X (.BoolOp .And (a :: b :: rest) pos) (tAndV ta tb) := by
  intro pins s σ H Q I h
  refine BoolOp_and (thn (ha pins s σ H _ I h) fun v s1 ⟨x, H1, I1, r1, q1⟩ => ?_)
  obtain ⟨c, rfl, q1⟩ := q1
  cases r1
  refine wpAny_truthy_bool ?_
  cases c with
  | true => exact hb pins s1 σ H1 Q I1 q1
  | false => exact ⟨.bl false, H1, I1, rfl, q1⟩
theorem pe_or (ha : PE X a ta) (hb : PE X (.BoolOp .Or (b :: rest) pos) tb) : PE X (.BoolOp .Or (a :: b :: rest) pos) (tOrV ta tb) := by
  intro pins s σ H Q I h
  refine BoolOp_or (thn (ha pins s σ H _ I h) fun v s1 ⟨x, H1, I1, r1, q1⟩ => ?_)
  obtain ⟨c, rfl, q1⟩ := q1
  cases r1
  refine wpAny_truthy_bool ?_
  cases c with
  | false => exact hb pins s1 σ H1 Q I1 q1
  | true => exact ⟨.bl true, H1, I1, rfl, q1⟩
def tIf (t : TT) (ta tb : TE) : TE := fun σ H Q => t σ H fun c H1 => if c = true then ta σ H1 Q else tb σ H1 Q
theorem pe_ifExp {c : Expr} (hc : PT X c tA) (ha : PE X a ta) (hb : PE X b tb) : PE X (.IfExp c a b pos) (tIf tA ta tb) := by
  intro pins s σ H Q I h
  refine wpAny_IfExp (thn (hc pins s σ H _ I h) fun d s1 ⟨H1, I1, q1⟩ => ?_)
  cases d with
  | true => exact ha pins s1 σ H1 Q I1 q1
  | false => exact hb pins s1 σ H1 Q I1 q1
end
end L2

namespace L2
open PySem PySem.Spec PyProof.Rows

def SqL (K : PySem.W.Frag) (H : Hp) (a : Addr) (xs : List V) : Prop :=
  Rd H a (.lst xs) ∨
    ∃ (o : Obj) (its : Array Value) (n : Nat), K.lookup a = some o ∧ o.cls = .type "list" ∧ o.dict = none ∧ o.data = .seq its n ∧ its.size ≤ sizeLine ∧ Vals xs its.toList
def SqT (K : PySem.W.Frag) (H : Hp) (a : Addr) (xs : List V) : Prop :=
  Rd H a (.tup xs) ∨
    ∃ (o : Obj) (its : Array Value) (n : Nat), K.lookup a = some o ∧ o.cls = .type "tuple" ∧ o.data = .seq its n ∧ its.size ≤ sizeLine ∧ Vals xs its.toList
def absV : Value → Option V
  | .none => some .non
  | .bool b => some (.bl b)
  | .int i _ => some (.int i)
  | .str x _ => some (.str x)
  | .bytes b _ => some (.byt b)
  | .float b _ => some (.flt b)
  | .ref a => some (.ref a)
  | .type n => some (.ty n)
  | _ => none
theorem RelV.abs {x : V} {u : Value} (r : RelV x u) : absV u = some x := by
  cases x with
  | non => cases r; rfl
  | bl _ => cases r; rfl
  | int _ => obtain ⟨t, rfl⟩ := r; rfl
  | str _ => obtain ⟨t, rfl⟩ := r; rfl
  | byt _ => obtain ⟨t, rfl⟩ := r; rfl
  | flt _ => obtain ⟨t, rfl⟩ := r; rfl
  | ref _ => cases r; rfl
  | ty _ => cases r; rfl
theorem RelV.inj {x y : V} {u : Value} (r : RelV x u) (q : RelV y u) : x = y := Option.some.inj (r.abs.symm.trans q.abs)
theorem Vals.inj : ∀ {xs ys : List V} {us : List Value}, Vals xs us → Vals ys us → xs = ys
  | _, _, _, .nil, .nil => rfl
  | _, _, _, .cons r t, .cons r' t' => by rw [r.inj r', Vals.inj t t']
section
variable {X : Cx} {pins : List (Addr × Obj)} {σ : St} {H : Hp} {s : Shared} {a : Addr} {xs ys : List V}
theorem SqL.of {K : PySem.W.Frag} (h : H a = some (.lst xs)) : SqL K H a xs := .inl (.inl h)
theorem SqT.of {K : PySem.W.Frag} (h : H a = some (.tup xs)) : SqT K H a xs := .inl (.inl h)
theorem Inv.list (I : Inv X pins σ H s) (h : SqL X.K H a xs) : ∃ its : List Value, Vals xs its ∧ PlainL s.heap a its.toArray ∧ xs.length ≤ sizeLine := by
  rcases h with h | ⟨o, its, n, hk, hc, hd, hs, hz, r⟩
  · obtain ⟨z, its, n, r, e⟩ := h.ok I.hok
    exact ⟨its, r, ⟨_, n, e, rfl, rfl, rfl⟩, z⟩
  · refine ⟨its.toList, r, ⟨o, n, I.kIn a o hk, hc, hd, by simpa using hs⟩, ?_⟩
    have e := r.length
    simp only [Array.length_toList] at e
    omega
theorem Inv.tuple (I : Inv X pins σ H s) (h : SqT X.K H a xs) : ∃ its : List Value, Vals xs its ∧ IsTup s.heap a its.toArray ∧ xs.length ≤ sizeLine := by
  rcases h with h | ⟨o, its, n, hk, hc, hs, hz, r⟩
  · obtain ⟨z, its, r, p⟩ := h.ok I.hok
    exact ⟨its, r, p, z⟩
  · refine ⟨its.toList, r, ⟨o, I.kIn a o hk, hc, n, by simpa using hs⟩, ?_⟩
    have e := r.length
    simp only [Array.length_toList] at e
    omega
theorem Inv.list_inj (I : Inv X pins σ H s) (h : SqL X.K H a xs) (h' : SqL X.K H a ys) : xs = ys := by
  obtain ⟨its, r, ⟨o, n, e, _, _, d⟩, _⟩ := I.list h
  obtain ⟨its', r', ⟨o', n', e', _, _, d'⟩, _⟩ := I.list h'
  rw [e] at e'; cases e'
  rw [d] at d'
  injection d' with d1 _
  have : its = its' := by simpa using congrArg Array.toList d1
  subst this
  exact r.inj r'
end

abbrev Cx.wish (X : Cx) (E : Value → Shared → Prop) : Cx := { X with xe := E }
abbrev Cx.nox (X : Cx) : Cx := X.wish fun _ _ => False
theorem Cx.Ok.wish {X : Cx} (ok : X.Ok) (E : Value → Shared → Prop) : (X.wish E).Ok :=
  ⟨ok.mod, ok.kind, ok.glob, ok.blt, ok.above, ok.inj, ok.has, ok.cab, ok.hd, ok.frames, ok.stk, ok.exf, ok.bs, ok.bsz, ok.noex, ok.exfs, ok.funs, ok.frf⟩
theorem Cx.Ok.unwish {X : Cx} {E : Value → Shared → Prop} (ok : (X.wish E).Ok) : X.Ok :=
  ⟨ok.mod, ok.kind, ok.glob, ok.blt, ok.above, ok.inj, ok.has, ok.cab, ok.hd, ok.frames, ok.stk, ok.exf, ok.bs, ok.bsz, ok.noex, ok.exfs, ok.funs, ok.frf⟩
section
variable {X : Cx} {pins : List (Addr × Obj)} {σ : St} {H : Hp} {s : Shared} {E : Value → Shared → Prop}
theorem Inv.wish (I : Inv X pins σ H s) (E : Value → Shared → Prop) : Inv (X.wish E) pins σ H s := ⟨I.ok.wish E, I.os, I.bare, I.base, I.loc, I.cell, I.free, I.freeC, I.pin, I.hok, I.len⟩
theorem Inv.unwish (I : Inv (X.wish E) pins σ H s) : Inv X pins σ H s := ⟨I.ok.unwish, I.os, I.bare, I.base, I.loc, I.cell, I.free, I.freeC, I.pin, I.hok, I.len⟩
theorem SP.unwish {D : Ends} {f : Flow} {s' : Shared} (h : SP (X.wish E) pins D f s') : SP X pins D f s' := by
  cases f with
  | next => obtain ⟨σ', H', I, q⟩ := h; exact ⟨σ', H', I.unwish, q⟩
  | brk => obtain ⟨σ', H', I, q⟩ := h; exact ⟨σ', H', I.unwish, q⟩
  | cont => obtain ⟨σ', H', I, q⟩ := h; exact ⟨σ', H', I.unwish, q⟩
  | ret u => obtain ⟨v, σ', H', I, r, q⟩ := h; exact ⟨v, σ', H', I.unwish, r, q⟩
theorem PE.nox {e : Expr} {t : TE} (h : PE X.nox e t) : PE X e t := fun pins s σ H Q I hw =>
  wpAny_mono (h pins s σ H Q (I.wish _) hw) (fun _ _ ⟨v, H', I', r, q⟩ => ⟨v, H', I'.unwish, r, q⟩) fun _ _ z => False.elim z
theorem PT.nox {e : Expr} {t : TT} (h : PT X.nox e t) : PT X e t := fun pins s σ H Q I hw =>
  wpAny_mono (h pins s σ H Q (I.wish _) hw) (fun _ _ ⟨H', I', q⟩ => ⟨H', I'.unwish, q⟩) fun _ _ z => False.elim z
theorem PSs.nox {st : List Stmt} {t : TS} (h : PSs X.nox st t) : PSs X st t := fun pins s σ H D I hw =>
  wpAny_mono (h pins s σ H D (I.wish _) hw) (fun _ _ q => q.unwish) fun _ _ z => False.elim z
end

section
variable {X : Cx} {st : Stmt} {rest : List Stmt} {t u : TS} {e : Expr} {te : TE} {pos : Pos}
def tNext : TS := fun D σ H => D.nx σ H
def tSeq (t u : TS) : TS := fun D σ H => t { D with nx := u D } σ H
theorem pss_nil : PSs X [] tNext := fun _ _ σ H _ I h => wpAny_execs_nil ⟨σ, H, I, h⟩
theorem pss_cons (h1 : PS X st t) (h2 : PSs X rest u) : PSs X (st :: rest) (tSeq t u) := by
  intro pins s σ H D I h
  refine wpAny_execs_cons (thn (h1 pins s σ H { D with nx := u D } I h) fun f s1 q => ?_)
  cases f with
  | next =>
    obtain ⟨σ', H', I', q⟩ := q
    exact h2 pins s1 σ' H' D I' q
  | ret v => exact q
  | brk => exact q
  | cont => exact q
theorem pss_one (h1 : PS X st t) : PSs X [st] t := by
  intro pins s σ H D I h
  refine wpAny_execs_cons (thn (h1 pins s σ H D I h) fun f s1 q => ?_)
  cases f with
  | next => exact wpAny_execs_nil q
  | ret v => exact q
  | brk => exact q
  | cont => exact q
theorem Inv.quiet {pins : List (Addr × Obj)} {σ : St} {H : Hp} {s : Shared} (I : Inv X pins σ H s) : interactive X.env = false := by simp [interactive, I.ok.kind]
def tDrop (te : TE) : TS := fun D σ H => te σ H fun _ H1 => D.nx σ H1
theorem ps_expr (he : PE X e te) (hs : swapsWith e none pos.line X.env = pure false := by rfl) : PS X (.Expr e pos) (tDrop te) := by
  intro pins s σ H D I h
  exact wpAny_Expr_any (thn (he pins s σ H _ I h) fun v s1 ⟨x, H1, I1, r1, q1⟩ => ⟨σ, H1, I1, q1⟩) I.quiet hs
def tRet (te : TE) : TS := fun D σ H => te σ H D.rt
theorem ps_ret (he : PE X e te) : PS X (.Return (some e) pos) (tRet te) := by
  intro pins s σ H D I h
  exact wpAny_Return_some (thn (he pins s σ H _ I h) fun v s1 ⟨x, H1, I1, r1, q1⟩ => ⟨x, σ, H1, I1, r1, q1⟩)
def tIfS (c : TT) (t u : TS) : TS := fun D σ H => c σ H fun b H1 => if b = true then t D σ H1 else u D σ H1
theorem ps_if {c : Expr} {a b : List Stmt} {tc : TT} (hc : PT X c tc) (ha : PSs X a t) (hb : PSs X b u) : PS X (.If c a b pos) (tIfS tc t u) := by
  intro pins s σ H D I h
  refine wpAny_If (thn (hc pins s σ H _ I h) fun d s1 ⟨H1, I1, q1⟩ => ?_)
  cases d with
  | true => exact ha pins s1 σ H1 D I1 q1
  | false => exact hb pins s1 σ H1 D I1 q1
def tNever : TS := fun _ _ _ => False
theorem pss_never {sts : List Stmt} : PSs X sts tNever := fun _ _ _ _ _ _ h => h.elim
end

abbrev TG := V → St → Hp → (St → Hp → Prop) → Prop
abbrev TGs := List V → St → Hp → (St → Hp → Prop) → Prop
def PG (X : Cx) (target : Expr) (t : TG) : Prop :=
  ∀ (pins : List (Addr × Obj)) (s : Shared) (σ : St) (H : Hp) (v : V) (u : Value) (Q : St → Hp → Prop), Inv X pins σ H s → RelV v u → t v σ H Q →
    wpAny (model X.prog X.w) X.A (assign target X.env u) (fun _ s' => ∃ σ' H', Inv X pins σ' H' s' ∧ Q σ' H') X.xe s
def PGs (X : Cx) (ts : List Expr) (t : TGs) : Prop :=
  ∀ (pins : List (Addr × Obj)) (s : Shared) (σ : St) (H : Hp) (vs : List V) (us : List Value) (Q : St → Hp → Prop), Inv X pins σ H s → Vals vs us → t vs σ H Q →
    wpAny (model X.prog X.w) X.A (assignInOrder ((assignEach ts X.env).map (·.2)) us) (fun _ s' => ∃ σ' H', Inv X pins σ' H' s' ∧ Q σ' H') X.xe s
abbrev TIp := V → V → Hp → VK → Prop
def PIp (X : Cx) (op : Operator) (t : TIp) : Prop :=
  ∀ (pins : List (Addr × Obj)) (s : Shared) (σ : St) (H : Hp) (x y : V) (v u : Value) (Q : VK), Inv X pins σ H s → RelV x v → RelV y u → t x y H Q →
    wpAny (model X.prog X.w) X.A (inplaceOp op v u) (EP X pins σ Q) X.xe s
section
variable {X : Cx} {pos : Pos}
def gName (i : Nat) : TG := fun v σ H Q => Q (σ.set i (some v)) H
theorem pg_name {i : Nat} {x : Str} (hN : X.N.Nodup) (hi : X.N[i]? = some x) (hx : Loc X.env.scope x) (hf : X.fn x = true ∨ X.env.scope.names.lookup x = some .local := by first | exact .inl rfl | exact .inr rfl | assumption) : PG X (.Name x pos) (gName i) := by
  intro pins s σ H v u Q I r h
  exact wpAny_assign_Name (store_ok I hN hi hx r (fun s' I' => ⟨_, H, I', h⟩) hf)
def gNil : TGs := fun vs σ H Q => vs = [] ∧ Q σ H
def gCons (t : TG) (u : TGs) : TGs := fun vs σ H Q => ∃ v r, vs = v :: r ∧ t v σ H fun σ' H' => u r σ' H' Q
theorem pgs_nil : PGs X [] gNil := by
  intro pins s σ H vs us Q I r h
  obtain ⟨e, h⟩ := h
  subst e
  cases r
  exact assignInOrder_nil ⟨σ, H, I, h⟩
theorem pgs_cons {e : Expr} {es : List Expr} {t : TG} {u : TGs} (h1 : PG X e t) (h2 : PGs X es u)
    (hs : (assignEach (e :: es) X.env).map (·.2) = assign e X.env :: (assignEach es X.env).map (·.2) := by rfl) : PGs X (e :: es) (gCons t u) := by
  intro pins s σ H vs us Q I r h
  obtain ⟨v, vr, e1, h⟩ := h
  subst e1
  cases r with
  | cons r rr =>
    rw [hs]
    refine assignInOrder_cons (thn (h1 pins s σ H _ _ _ I r h) fun _ s1 ⟨σ1, H1, I1, q1⟩ => ?_)
    exact h2 pins s1 σ1 H1 _ _ Q I1 rr q1
def gTup (K : PySem.W.Frag) (n : Nat) (t : TGs) : TG := fun v σ H Q => ∃ a xs, v = .ref a ∧ SqT K H a xs ∧ xs.length = n ∧ t xs σ H Q
theorem pg_tup {es : List Expr} {k : Nat} {t : TGs} {n : Nat} (hc : X.calm = true) (h : PGs X es t)
    (hn : (assignEach es X.env).length = n := by rfl) (hst : (assignEach es X.env).findIdx? (·.1) = none := by rfl) : PG X (.Tuple es k pos) (gTup X.K n t) := by
  intro pins s σ H v u Q I r hw
  obtain ⟨a, xs, e1, hq, hl, hw⟩ := hw
  subst e1
  cases r
  obtain ⟨its, rv, ht, hz⟩ := I.tuple hq
  refine assign_Tuple_tuple (I.ok.hd hc) ht (by simp [hn, ← hl, rv.length]) hst fun h' hx => ?_
  have I1 : Inv X pins σ H { s with heap := h' } := I.kept (t' := s.toks) fun b o e => hx b o (Nat.ne_of_lt (Heap.lt_size e)) e
  exact h pins _ σ H xs _ Q I1 (by simpa using rv) hw
def tAsg (te : TE) (g : TG) : TS := fun D σ H => te σ H fun x H1 => g x σ H1 D.nx
theorem ps_set {i : Nat} {x : Str} {e : Expr} {te : TE} {pos' : Pos} (hN : X.N.Nodup) (hi : X.N[i]? = some x) (hx : Loc X.env.scope x) (he : PE X e te) (hs : swapsWith e (some (.Name x pos')) pos.line X.env = pure false := by rfl) (hf : X.fn x = true ∨ X.env.scope.names.lookup x = some .local := by first | exact .inl rfl | exact .inr rfl | assumption) :
    PS X (.Assign [.Name x pos'] e pos) (tAsg te (gName i)) := by
  intro pins s σ H D I h
  refine wpAny_Assign_Name (thn (he pins s σ H _ I h) fun v s1 ⟨y, H1, I1, r1, q1⟩ => ?_) hs
  exact store_ok I1 hN hi hx r1 (fun s2 I2 => ⟨_, H1, I2, q1⟩) hf
def tAug (i : Nat) (te : TE) (ti : TIp) : TS := fun D σ H => ∃ x, σ[i]? = some (some x) ∧ te σ H fun y H1 => ti x y H1 fun z H2 => D.nx (σ.set i (some z)) H2
theorem ps_aug {i : Nat} {x : Str} {e : Expr} {te : TE} {op : Operator} {ti : TIp} {pos' : Pos} (hN : X.N.Nodup) (hi : X.N[i]? = some x) (hx : Loc X.env.scope x) (he : PE X e te) (ho : PIp X op ti) (hf : X.fn x = true ∨ X.env.scope.names.lookup x = some .local := by first | exact .inl rfl | exact .inr rfl | assumption) :
    PS X (.AugAssign (.Name x pos') op e pos) (tAug i te ti) := by
  intro pins s σ H D I h
  obtain ⟨v, e1, h⟩ := h
  obtain ⟨m, hn, hl⟩ := I.loc
  have vis : Vis X.env.scope x := by rcases hx with k | k; exact .inl k; exact .inr (.inl k)
  obtain ⟨u, r, l⟩ := hl i x v hi e1 vis
  refine wpAny_AugAssign_Name ?_
  have go : wpAny (model X.prog X.w) X.A (eval e X.env) (fun w s₂ => wpAny (model X.prog X.w) X.A (inplaceOp op u w) (fun r s₃ => wpAny (model X.prog X.w) X.A (storeName X.env x r) (fun _ => SP X pins D .next) X.xe s₃) X.xe s₂) X.xe s := by
    refine thn (he pins s σ H _ I h) fun w s1 ⟨y, H1, I1, r1, q1⟩ => ?_
    refine thn (ho pins s1 σ H1 v y u w _ I1 r r1 q1) fun z s2 ⟨zv, H2, I2, r2, q2⟩ => ?_
    exact store_ok I2 hN hi hx r2 (fun s3 I3 => ⟨_, H2, I3, q2⟩) hf
  rcases l with ⟨hk, hm⟩ | ⟨hk, c, hc, hcell⟩
  · exact wpAny_loadName_local I.ok.kind hk hn hm go
  · rcases hk with hk | hk
    · exact wpAny_loadName_cell I.ok.kind hk hc hcell go
    · rcases hx with k | k
      · have : X.env.scope.names.lookup x = some .free := hk
        rw [k] at this; cases this
      · have : X.env.scope.names.lookup x = some .free := hk
        rw [k] at this; cases this
def ipI (f : Int → Int → Int) : TIp := fun x y H Q => ∃ i j, x = .int i ∧ y = .int j ∧ Q (.int (f i j)) H
theorem ip_add : PIp X .Add (ipI fun i j => i + j) := by
  intro pins s σ H x y v u Q I r1 r2 h
  obtain ⟨i, j, e1, e2, q⟩ := h
  subst e1; subst e2
  obtain ⟨t, rfl⟩ := r1
  obtain ⟨t', rfl⟩ := r2
  exact iadd_int ⟨.int _, H, I.tok _, ⟨_, rfl⟩, q⟩
end

section
variable {X : Cx} {pos : Pos}
def tWhile (c : TT) (tb : TS) : TS := fun D σ H => ∃ W : Nat → St → Hp → Prop, (∃ m, W m σ H) ∧ ∀ m σ H, W m σ H →
  c σ H fun b H1 => if b = true then ∃ N : St → Hp → Prop, (∀ σ' H', N σ' H' → ∃ m', m' < m ∧ W m' σ' H') ∧ tb { D with nx := N, ct := N, bk := D.nx } σ H1 else D.nx σ H1
theorem ps_while {c : Expr} {body : List Stmt} {tc : TT} {tb : TS} (hp : PassesOwn (model X.prog X.w) X.A X.env X.xe) (hc : PT X c tc) (hb : PSs X body tb) : PS X (.While c body [] pos) (tWhile tc tb) := by
  intro pins s σ H D I h
  obtain ⟨W, ⟨m0, w0⟩, turn⟩ := h
  refine wpAny_While (codeAny_whileLoop (fun n s' => ∃ σ' H', Inv X pins σ' H' s' ∧ W n σ' H') ?_ m0 ⟨σ, H, I, w0⟩)
  rintro n s1 ⟨σ1, H1, I1, w1⟩
  refine wpAny_passesOwn hp (thn (hc pins s1 σ1 H1 _ I1 (turn n σ1 H1 w1)) fun b s2 ⟨H2, I2, q2⟩ => ?_)
  cases b with
  | true =>
    obtain ⟨N, hN, q2⟩ := q2
    rw [if_pos rfl]
    refine wpAny_passesOwn hp (thn (hb pins s2 σ1 H2 _ I2 q2) fun f s3 q3 => ?_)
    cases f with
    | next =>
      obtain ⟨σ3, H3, I3, n3⟩ := q3
      obtain ⟨m', hm, w3⟩ := hN σ3 H3 n3
      exact ⟨m', hm, σ3, H3, I3, w3⟩
    | cont =>
      obtain ⟨σ3, H3, I3, n3⟩ := q3
      obtain ⟨m', hm, w3⟩ := hN σ3 H3 n3
      exact ⟨m', hm, σ3, H3, I3, w3⟩
    | brk => exact q3
    | ret v => exact q3
  | false =>
    rw [if_neg Bool.false_ne_true]
    exact wpAny_execs_nil ⟨σ1, H2, I2, q2⟩
end

structure It where
  go : Nat → Hp → Prop
  yld : Nat → Hp → V → Hp → Prop
  stop : Nat → Hp → Prop
def FpOk (X : Cx) (pins : List (Addr × Obj)) (H : Hp) (b : Addr) : Prop :=
  H b = none ∧ b ≠ X.env.locals ∧ b ∉ X.fs ∧ (b ∈ X.ex ∨ X.s₀.heap.objs.size ≤ b) ∧ (∀ x c, X.env.cells.lookup x = some c → c ≠ b) ∧ ∀ p ∈ X.pn ++ pins, p.1 ≠ b
theorem Inv.fpOk {X : Cx} {pins : List (Addr × Obj)} {σ : St} {H H' : Hp} {s : Shared} {b : Addr} (I : Inv X pins σ H s) (hb : s.heap.objs.size ≤ b) (hn : H' b = none) : FpOk X pins H' b := by
  refine ⟨hn, Nat.ne_of_gt (Nat.lt_of_lt_of_le I.lt hb), I.nofs hb, .inr (Nat.le_trans I.sz hb), fun x c e z => ?_, fun p hp z => ?_⟩
  · obtain ⟨v, q⟩ := I.cell x c e
    exact absurd (Nat.lt_of_lt_of_le q.lt (by rw [z]; exact hb)) (Nat.lt_irrefl _)
  · exact absurd (Nat.lt_of_lt_of_le (Heap.lt_size (I.pin p hp).1) (by rw [z]; exact hb)) (Nat.lt_irrefl _)
structure Turn (P : Program) (w : World) (K : PySem.W.Frag) (tg : Expr) (J : It) (fp : List Addr) (it : Addr) (tn : Nat → Heap → Prop) : Prop where
  mem : it ∈ fp
  obj : ∀ i h, tn i h → ∀ b ∈ fp, ∃ o, h.get? b = some o ∧ ∀ v, o.data ≠ .cell v
  keep : ∀ i h h', tn i h → (∀ b ∈ fp, ∀ o, h.get? b = some o → h'.get? b = some o) → tn i h'
  item : ∀ (X : Cx), X.prog = P → X.w = w → X.K = K → X.calm = true → ∀ (i : Nat) (pins : List (Addr × Obj)) (s : Shared) (σ : St) (H : Hp) (E : Value → Shared → Prop), Inv X pins σ H s → (∀ b ∈ fp, FpOk X pins H b) → tn i s.heap → J.go i H →
    wpAny (model P w) X.A (pyNext (.ref it)) (fun r s1 => ∃ u, r = some u ∧
      wpAny (model P w) X.A (letOwnedTupleGo tg (.ref it) u) (fun _ s2 => ∃ x H', Inv X pins σ H' s2 ∧ RelV x u ∧ J.yld i H x H' ∧ tn (i + 1) s2.heap ∧ ∀ b ∈ fp, H' b = none) E s1) E s
  done : ∀ (X : Cx), X.prog = P → X.w = w → X.K = K → X.calm = true → ∀ (i : Nat) (pins : List (Addr × Obj)) (s : Shared) (σ : St) (H : Hp) (E : Value → Shared → Prop), Inv X pins σ H s → (∀ b ∈ fp, FpOk X pins H b) → tn i s.heap → J.stop i H →
    wpAny (model P w) X.A (pyNext (.ref it)) (fun r s1 => r = none ∧ Inv X pins σ H s1) E s
  self : ∀ (A : Around) (i : Nat) (s : Shared) (Q : Value → Shared → Prop) (E : Value → Shared → Prop), tn i s.heap → Q (.ref it) s → wpAny (model P w) A (pyIter (.ref it)) Q E s
abbrev TI := St → Hp → (It → Hp → Prop) → Prop
def PIE (X : Cx) (pins : List (Addr × Obj)) (σ : St) (tg : Expr) (R : It → Hp → Prop) (itv : Value) (s2 : Shared) : Prop :=
  ∃ (it : Addr) (fp : List Addr) (tn : Nat → Heap → Prop) (J : It) (H' : Hp), itv = .ref it ∧ Inv X pins σ H' s2 ∧ Turn X.prog X.w X.K tg J fp it tn ∧ tn 0 s2.heap ∧ (∀ b ∈ fp, FpOk X pins H' b) ∧ R J H'
def PI (X : Cx) (tg iter : Expr) (wi : TI) : Prop :=
  ∀ (pins : List (Addr × Obj)) (s : Shared) (σ : St) (H : Hp) (R : It → Hp → Prop), Inv X pins σ H s → wi σ H R →
    wpAny (model X.prog X.w) X.A (eval iter X.env) (fun v s1 => wpAny (model X.prog X.w) X.A (pyIter v) (PIE X pins σ tg R) X.xe s1) X.xe s

theorem go_of {M : Model} {A : Around} {E : Value → Shared → Prop} {s : Shared} {tg : Expr} {it : Addr} {u : Value} {o : Obj} {n : String} {vs : Array Value} {Q : Unit → Shared → Prop} (ho : s.heap.get? it = some o) (hc : o.cls = .type n) (hd : o.data = .fields vs)
    (hn : ["enumerate", "zip", "dict_itemiterator", "dict_reverseitemiterator", "odict_iterator", "itertools.zip_longest", "itertools.pairwise"].contains n = false) (hQ : Q () s) : wpAny M A (letOwnedTupleGo tg (.ref it) u) Q E s := by
  unfold letOwnedTupleGo
  cases tg <;> first
    | exact wpAny_pure hQ
    | (cases u <;> first
        | exact wpAny_pure hQ
        | (refine wpAny_bind (wpAny_load ho ?_)
           rw [hc, hd]
           show wpAny M A (if (["enumerate", "zip", "dict_itemiterator", "dict_reverseitemiterator", "odict_iterator", "itertools.zip_longest", "itertools.pairwise"].contains n && vs[0]? == some (rawInt _)) = true then _ else _) Q E s
           rw [if_neg (by intro h; rw [hn, Bool.false_and] at h; cases h)]
           exact wpAny_pure hQ))

def Itl (K : PySem.W.Frag) (a : Addr) : It :=
  ⟨fun i H => ∃ xs x, SqL K H a xs ∧ xs[i]? = some x, fun i H x H' => H' = H ∧ ∀ xs, SqL K H a xs → xs[i]? = some x, fun i H => ∃ xs, SqL K H a xs ∧ xs.length ≤ i⟩
def Itr (lo : Int) (n : Nat) : It := ⟨fun i _ => i < n, fun i H x H' => H' = H ∧ x = .int (lo + i), fun i _ => n ≤ i⟩
theorem turn_list {P : Program} {w : World} {K : PySem.W.Frag} {tg : Expr} (a it : Addr) : Turn P w K tg (Itl K a) [it] it (fun i h => h.IsListIter it a i) where
  mem := by simp
  obj := fun i h st b hb => by
    have e : b = it := by simpa using hb
    subst e
    obtain ⟨o, e, c, d⟩ := st
    exact ⟨o, e, fun v z => by rw [d] at z; cases z⟩
  keep := fun i h h' st k => st.at fun o e => k it (by simp) o e
  item := by
    intro X hP hw hK hc i pins s σ H E I hf st hg
    subst hP hw hK
    obtain ⟨xs, x, hq, hx⟩ := hg
    obtain ⟨its, rv, p, hz⟩ := I.list hq
    obtain ⟨u, hu, ru⟩ := rv.get hx
    obtain ⟨f0, f1, f2, f3, f4, f5⟩ := hf it (by simp)
    refine wpAny_pyNext_list_item st p.isList (x := u) (by simpa using hu) fun h' st' sb => ?_
    have I1 : Inv X pins σ H { s with heap := h' } := I.turned (t' := s.toks) (fun b o hb e => (sb.2 b hb).trans e) f0 f1 f3 f4 f5
    obtain ⟨o, e, c, d⟩ := id st'
    exact ⟨u, rfl, go_of (s := { s with heap := h' }) e c d (by decide) ⟨x, H, I1, ru, ⟨rfl, fun ys hy => by rw [I.list_inj hy hq]; exact hx⟩, st', fun b hb => (hf b hb).1⟩⟩
  done := by
    intro X hP hw hK hc i pins s σ H E I hf st hg
    subst hP hw hK
    obtain ⟨xs, hq, hx⟩ := hg
    obtain ⟨its, rv, p, hz⟩ := I.list hq
    obtain ⟨f0, f1, f2, f3, f4, f5⟩ := hf it (by simp)
    have hl := rv.length
    exact wpAny_pyNext_list_end (I.ok.hd hc) st p.isList (by simp; omega) fun h' eb => ⟨rfl, I.turned (t' := s.toks) (fun b o hb e => eb b o hb e) f0 f1 f3 f4 f5⟩
  self := fun _ _ _ _ _ st h => wpAny_pyIter_listiter st h
theorem turn_range {P : Program} {w : World} {K : PySem.W.Frag} {tg : Expr} (it : Addr) (lo : Int) (n : Nat) : Turn P w K tg (Itr lo n) [it] it (fun i h => IsRangeIter h it (lo + (i : Nat) * 1) ((n : Int) - (i : Nat)) 1) where
  mem := by simp
  obj := fun i h st b hb => by
    have e : b = it := by simpa using hb
    subst e
    exact ⟨_, st, fun v z => by
      have z' : Data.fields _ = Data.cell v := z
      cases z'⟩
  keep := fun i h h' st k => k it (by simp) _ st
  item := by
    intro X hP hw hK hc i pins s σ H E I hf st hg
    subst hP hw hK
    obtain ⟨f0, f1, f2, f3, f4, f5⟩ := hf it (by simp)
    have W := Walks.range (prog := X.prog) (w := X.w) (I.ok.hd hc) it lo 1 n
    refine W.item i s _ _ hg st fun v h' tk hv st' kk => ?_
    obtain ⟨t, rfl⟩ := hv
    have I1 : Inv X pins σ H { s with heap := h', toks := tk } := I.turned (fun b o hb e => kk b o (by simpa using hb) e) f0 f1 f3 f4 f5
    refine ⟨_, rfl, go_of (s := { s with heap := h', toks := tk }) (n := "range_iterator") st' rfl rfl (by decide) ⟨.int (lo + i), H, I1, ⟨t, ?_⟩, ⟨rfl, rfl⟩, st', fun b hb => (hf b hb).1⟩⟩
    rw [Int.mul_one]
  done := by
    intro X hP hw hK hc i pins s σ H E I hf st hg
    subst hP hw hK
    obtain ⟨f0, f1, f2, f3, f4, f5⟩ := hf it (by simp)
    exact wpAny_pyNext_range_end (I.ok.hd hc) st (by have : n ≤ i := hg; omega) fun h' eb => ⟨rfl, I.turned (t' := s.toks) (fun b o hb e => eb b o hb e) f0 f1 f3 f4 f5⟩
  self := fun _ _ _ _ _ st h => wpAny_pyIter_rangeiter st h
end L2

namespace L2
open PySem PySem.Spec PyProof.Rows
section
variable {X : Cx} {tg : Expr}
def iList (K : PySem.W.Frag) (tl : TE) : TI := fun σ H R => tl σ H fun x H1 => ∃ a, x = .ref a ∧ (∃ xs, SqL K H1 a xs) ∧ R (Itl K a) H1
theorem pi_list {l : Expr} {tl : TE} (hl : PE X l tl) : PI X tg l (iList X.K tl) := by
  intro pins s σ H R I h
  refine thn (hl pins s σ H _ I h) fun v s1 ⟨x, H1, I1, r1, q1⟩ => ?_
  obtain ⟨a, e, ⟨xs, hq⟩, q⟩ := q1
  subst e
  cases r1
  obtain ⟨its, rv, p, hz⟩ := I1.list hq
  refine wpAny_pyIter_list p.isList ?_
  refine ⟨s1.heap.objs.size, [s1.heap.objs.size], _, _, H1, rfl, I1.kept (t' := s1.toks) fun b o e => Heap.get?_push_of_some _ e, turn_list a _, ⟨_, Heap.get?_push_size _ rfl, rfl, rfl⟩, fun b hb => ?_, q⟩
  have e : b = s1.heap.objs.size := by simpa using hb
  subst e
  exact I1.fpOk (Nat.le_refl _) (I1.hok.fresh (Nat.le_refl _))
theorem range_it {pins : List (Addr × Obj)} {σ : St} {H : Hp} {s : Shared} {R : It → Hp → Prop} {E : Value → Shared → Prop} {lo hi : Int} {t u v : Tok} {tk : Nat} (I : Inv X pins σ H s) (h1 : -(2 ^ 62) ≤ lo) (h2 : lo < 2 ^ 62) (h3 : -(2 ^ 62) ≤ hi) (h4 : hi < 2 ^ 62)
    (q : R (Itr lo (hi - lo).toNat) H) : wpAny (model X.prog X.w) X.A (pyIter (.ref s.heap.objs.size)) (PIE X pins σ tg R) E { s with heap := s.heap.push { cls := .type "range", data := .fields #[.int lo t, .int hi u, .int 1 v] }, toks := tk } := by
  refine wpAny_pyIter_range (IsRange.new ..) (small_one h1 h2 h3 h4) ?_
  have I1 : Inv X pins σ H { s with heap := s.heap.push { cls := .type "range", data := .fields #[.int lo t, .int hi u, .int 1 v] }, toks := tk } := I.kept fun b o e => Heap.get?_push_of_some _ e
  refine ⟨(s.heap.push { cls := .type "range", data := .fields #[.int lo t, .int hi u, .int 1 v] }).objs.size, [(s.heap.push { cls := .type "range", data := .fields #[.int lo t, .int hi u, .int 1 v] }).objs.size], _, _, H, rfl,
    I1.kept (t' := tk) fun b o e => Heap.get?_push_of_some _ e, turn_range _ lo (hi - lo).toNat, ?_, fun b hb => ?_, q⟩
  · have e1 : lo + ((0 : Nat) : Int) * 1 = lo := by simp
    have e2 : (((hi - lo).toNat : Nat) : Int) - ((0 : Nat) : Int) = Builtin.Range.rangeSize lo hi 1 := by rw [rangeSize_one]; split <;> omega
    show IsRangeIter _ _ (lo + ((0 : Nat) : Int) * 1) ((((hi - lo).toNat : Nat) : Int) - ((0 : Nat) : Int)) 1
    rw [e1, e2]
    exact Heap.get?_push_size _ rfl
  · have e : b = (s.heap.push { cls := .type "range", data := .fields #[.int lo t, .int hi u, .int 1 v] }).objs.size := by simpa using hb
    subst e
    exact I1.fpOk (Nat.le_refl _) (I1.hok.fresh (Nat.le_refl _))
def iRng1 (ta : TA) : TI := fun σ H R => ta σ H fun vs H1 => ∃ j : Int, vs = [.int j] ∧ -(2 ^ 62) ≤ j ∧ j < 2 ^ 62 ∧ R (Itr 0 j.toNat) H1
theorem pi_range1 {a : Expr} {ta : TA} {p pos : Pos} (hg : Gl X "range") (hm : X.mg "range" = none) (ha : PA X [a] ta) (hs : starEach [a] X.env = [(false, eval a X.env)] := by rfl) : PI X tg (.Call (.Name "range" p) [a] [] pos) (iRng1 ta) := by
  intro pins s σ H R I h
  refine Call_ (ld_blt I hg hm boot_range (PyProof.Rows.callWith_type1 (thn (ha pos pins s σ H _ I h) fun us s1 ⟨vs, H1, I1, r1, q1⟩ => ?_) hs rfl))
  obtain ⟨j, e, q1, q2, q⟩ := q1
  subst e
  cases r1 with
  | cons r rr =>
    cases rr
    obtain ⟨t, rfl⟩ := r
    exact call_range_1 (range_it I1 (by omega) (by omega) q1 q2 (by simpa using q))
def tFor (wi : TI) (g : TG) (tb : TS) : TS := fun D σ H => wi σ H fun J H1 => ∃ W : Nat → Nat → St → Hp → Prop, (∃ m, W 0 m σ H1) ∧ ∀ i m σ H, W i m σ H →
  (J.stop i H ∧ D.nx σ H) ∨ (J.go i H ∧ ∃ N : St → Hp → Prop, (∀ σ' H', N σ' H' → ∃ m', m' < m ∧ W (i + 1) m' σ' H') ∧ ∀ x H', J.yld i H x H' → g x σ H' fun σ2 H2 => tb { D with nx := N, ct := N, bk := D.nx } σ2 H2)
def pinsAt (fp : List Addr) (h : Heap) : List (Addr × Obj) := fp.filterMap fun b => (h.get? b).map fun o => (b, o)
theorem mem_pinsAt {fp : List Addr} {h : Heap} {b : Addr} {o : Obj} (hb : b ∈ fp) (e : h.get? b = some o) : (b, o) ∈ pinsAt fp h := List.mem_filterMap.mpr ⟨b, hb, by rw [e]; rfl⟩
theorem of_pinsAt {fp : List Addr} {h : Heap} {p : Addr × Obj} (hp : p ∈ pinsAt fp h) : p.1 ∈ fp ∧ h.get? p.1 = some p.2 := by
  obtain ⟨b, hb, e⟩ := List.mem_filterMap.mp hp
  cases q : h.get? b with
  | none => rw [q] at e; cases e
  | some o =>
    rw [q] at e
    have e' : (b, o) = p := Option.some.inj e
    subst e'
    exact ⟨hb, q⟩
theorem Inv.pinned {pins : List (Addr × Obj)} {σ : St} {H : Hp} {s : Shared} {fp : List Addr} (I : Inv X pins σ H s) (hf : ∀ b ∈ fp, FpOk X pins H b) (ho : ∀ b ∈ fp, ∃ o, s.heap.get? b = some o ∧ ∀ v, o.data ≠ .cell v) : Inv X (pins ++ pinsAt fp s.heap) σ H s :=
  I.pins_of fun p hp => (List.mem_append.mp hp).elim (fun z => I.pin p (List.mem_append_right _ z)) fun z => by
    obtain ⟨hb, e⟩ := of_pinsAt z
    obtain ⟨f0, f1, f2, _⟩ := hf p.1 hb
    obtain ⟨o, e', d⟩ := ho p.1 hb
    rw [e] at e'; cases e'
    exact ⟨e, f0, f1, f2, d⟩
theorem Inv.unpinned {pins pl : List (Addr × Obj)} {σ : St} {H : Hp} {s : Shared} (I : Inv X (pins ++ pl) σ H s) : Inv X pins σ H s := I.pins_of fun p hp => I.pin p (List.mem_append_right _ (List.mem_append_left _ hp))
theorem ps_for {iter : Expr} {body : List Stmt} {wi : TI} {g : TG} {tb : TS} {pos : Pos} (hp : PassesOwn (model X.prog X.w) X.A X.env X.xe) (hc : X.calm = true) (hi : PI X tg iter wi) (hg : PG X tg g) (hb : PSs X body tb)
    (hs : ∀ x, foldedSetIterable iter X.env x = pure x := by intro _; rfl) : PS X (.For tg iter body [] pos) (tFor wi g tb) := by
  intro pins s σ H D I h
  refine wpAny_For (thn (hi pins s σ H _ I h) fun v s1 h1 => thn h1 fun itv s2 h2 => ?_) hs
  obtain ⟨it, fp, tn, J, H2, e, I2, T, st2, f2, W, ⟨m0, w0⟩, turn⟩ := h2
  subst e
  -- what stays true of the iterator's objects through the loop
  have stat : ∀ {H' : Hp}, (∀ b ∈ fp, H' b = none) → ∀ b ∈ fp, FpOk X pins H' b := fun hn b hb => ⟨hn b hb, (f2 b hb).2⟩
  refine codeAny_forLoop_any (fun n s' => ∃ i σ' H', Inv X pins σ' H' s' ∧ tn i s'.heap ∧ (∀ b ∈ fp, H' b = none) ∧ W i n σ' H') ?_ m0 ⟨0, σ, H2, I2, st2, fun b hb => (f2 b hb).1, w0⟩
  rintro n s3 ⟨i, σ3, H3, I3, st3, fr3, w3⟩
  rcases turn i n σ3 H3 w3 with ⟨stop, qn⟩ | ⟨go, N, hN, step⟩
  · refine wpAny_passesOwn hp (thn (T.done X rfl rfl rfl hc i pins s3 σ3 H3 X.xe I3 (stat fr3) st3 stop) fun r s4 ⟨hr, I4⟩ => ?_)
    subst hr
    exact wpAny_execs_nil ⟨σ3, H3, I4, qn⟩
  · refine wpAny_passesOwn hp (thn (T.item X rfl rfl rfl hc i pins s3 σ3 H3 X.xe I3 (stat fr3) st3 go) fun r s4 ⟨u, hr, h4⟩ => ?_)
    subst hr
    refine wpAny_passesOwn hp (thn h4 fun _ s5 ⟨x, H5, I5, r5, y5, st5, fr5⟩ => ?_)
    have I5' := I5.pinned (stat fr5) (T.obj _ _ st5)
    refine wpAny_passesOwn hp (thn (hg _ s5 σ3 H5 x u _ I5' r5 (step x H5 y5)) fun _ s6 ⟨σ6, H6, I6, q6⟩ => ?_)
    refine wpAny_passesOwn hp (thn (hb _ s6 σ6 H6 _ I6 q6) fun f s7 q7 => ?_)
    have again : ∀ {σ7 : St} {H7 : Hp}, Inv X (pins ++ pinsAt fp s5.heap) σ7 H7 s7 → N σ7 H7 → ∃ m, m < n ∧ ∃ i σ' H', Inv X pins σ' H' s7 ∧ tn i s7.heap ∧ (∀ b ∈ fp, H' b = none) ∧ W i m σ' H' := fun {σ7 H7} I7 n7 => by
      obtain ⟨m', hm, w7⟩ := hN σ7 H7 n7
      refine ⟨m', hm, i + 1, σ7, H7, I7.unpinned, T.keep _ _ _ st5 fun b hb o e => (I7.pin (b, o) (List.mem_append_right _ (List.mem_append_right _ (mem_pinsAt hb e)))).1, fun b hb => ?_, w7⟩
      obtain ⟨o, e, d⟩ := T.obj _ _ st5 b hb
      exact (I7.pin (b, o) (List.mem_append_right _ (List.mem_append_right _ (mem_pinsAt hb e)))).2.1
    cases f with
    | next => obtain ⟨σ7, H7, I7, n7⟩ := q7; exact again I7 n7
    | cont => obtain ⟨σ7, H7, I7, n7⟩ := q7; exact again I7 n7
    | brk => obtain ⟨σ7, H7, I7, q7⟩ := q7; exact ⟨σ7, H7, I7.unpinned, q7⟩
    | ret v => obtain ⟨x7, σ7, H7, I7, r7, q7⟩ := q7; exact ⟨x7, σ7, H7, I7.unpinned, r7, q7⟩
end

theorem for_list {K : PySem.W.Frag} {a : Addr} {xs : List V} {g : TG} {tb : TS} {D : Ends} {σ : St} {H : Hp} (Pv : Nat → St → Hp → Prop) (h0 : Pv 0 σ H) (hl : ∀ i σ H, i ≤ xs.length → Pv i σ H → SqL K H a xs)
    (hs : ∀ i x σ H, xs[i]? = some x → Pv i σ H → g x σ H fun σ2 H2 => tb { D with nx := Pv (i + 1), ct := Pv (i + 1), bk := D.nx } σ2 H2) (hd : ∀ σ H, Pv xs.length σ H → D.nx σ H) :
    ∃ W : Nat → Nat → St → Hp → Prop, (∃ m, W 0 m σ H) ∧ ∀ i m σ H, W i m σ H →
      ((Itl K a).stop i H ∧ D.nx σ H) ∨ ((Itl K a).go i H ∧ ∃ N : St → Hp → Prop, (∀ σ' H', N σ' H' → ∃ m', m' < m ∧ W (i + 1) m' σ' H') ∧ ∀ x H', (Itl K a).yld i H x H' → g x σ H' fun σ2 H2 => tb { D with nx := N, ct := N, bk := D.nx } σ2 H2) := by
  refine ⟨fun i m σ H => m = xs.length - i ∧ i ≤ xs.length ∧ Pv i σ H, ⟨xs.length, by simp, Nat.zero_le _, h0⟩, ?_⟩
  rintro i m σ H ⟨rfl, hi, p⟩
  have q := hl i σ H hi p
  by_cases hlt : i < xs.length
  · refine .inr ⟨⟨xs, xs[i], q, by simp [hlt]⟩, Pv (i + 1), fun σ' H' p' => ⟨xs.length - (i + 1), by omega, rfl, hlt, p'⟩, fun x H' y => ?_⟩
    obtain ⟨e, y⟩ := y
    subst e
    exact hs i x σ _ (y xs q) p
  · have e : i = xs.length := by omega
    subst e
    exact .inl ⟨⟨xs, q, Nat.le_refl _⟩, hd σ H p⟩
theorem for_range {lo : Int} {n : Nat} {g : TG} {tb : TS} {D : Ends} {σ : St} {H : Hp} (Pv : Nat → St → Hp → Prop) (h0 : Pv 0 σ H)
    (hs : ∀ i σ H, i < n → Pv i σ H → g (.int (lo + i)) σ H fun σ2 H2 => tb { D with nx := Pv (i + 1), ct := Pv (i + 1), bk := D.nx } σ2 H2) (hd : ∀ σ H, Pv n σ H → D.nx σ H) :
    ∃ W : Nat → Nat → St → Hp → Prop, (∃ m, W 0 m σ H) ∧ ∀ i m σ H, W i m σ H →
      ((Itr lo n).stop i H ∧ D.nx σ H) ∨ ((Itr lo n).go i H ∧ ∃ N : St → Hp → Prop, (∀ σ' H', N σ' H' → ∃ m', m' < m ∧ W (i + 1) m' σ' H') ∧ ∀ x H', (Itr lo n).yld i H x H' → g x σ H' fun σ2 H2 => tb { D with nx := N, ct := N, bk := D.nx } σ2 H2) := by
  refine ⟨fun i m σ H => m = n - i ∧ i ≤ n ∧ Pv i σ H, ⟨n, by simp, Nat.zero_le _, h0⟩, ?_⟩
  rintro i m σ H ⟨rfl, hi, p⟩
  by_cases hlt : i < n
  · refine .inr ⟨hlt, Pv (i + 1), fun σ' H' p' => ⟨n - (i + 1), by omega, rfl, hlt, p'⟩, fun x H' y => ?_⟩
    obtain ⟨e, y⟩ := y
    subst e y
    exact hs i σ _ hlt p
  · have e : i = n := by omega
    subst e
    exact .inl ⟨Nat.le_refl _, hd σ H p⟩
end L2

namespace L2
open PySem PySem.Spec PyProof.Rows

abbrev R2 := V → V → Hp → VK → Prop
def OpR (X : Cx) (f : Value → Value → Sem Value) (r : R2) : Prop :=
  ∀ (pins : List (Addr × Obj)) (s : Shared) (σ : St) (H : Hp) (x y : V) (v u : Value) (Q : VK), Inv X pins σ H s → RelV x v → RelV y u → r x y H Q →
    wpAny (model X.prog X.w) X.A (f v u) (EP X pins σ Q) X.xe s
def UnR (X : Cx) (f : Value → Sem Value) (r : V → Hp → VK → Prop) : Prop :=
  ∀ (pins : List (Addr × Obj)) (s : Shared) (σ : St) (H : Hp) (x : V) (v : Value) (Q : VK), Inv X pins σ H s → RelV x v → r x H Q →
    wpAny (model X.prog X.w) X.A (f v) (EP X pins σ Q) X.xe s
def CallR (X : Cx) (f : Value) (r : List V → Hp → VK → Prop) : Prop :=
  ∀ (pins : List (Addr × Obj)) (s : Shared) (σ : St) (H : Hp) (xs : List V) (us : List Value) (Q : VK), Inv X pins σ H s → Vals xs us → r xs H Q →
    wpAny (model X.prog X.w) X.A (call f us) (EP X pins σ Q) X.xe s
def tOp (r : R2) (ta tb : TE) : TE := fun σ H Q => ta σ H fun x H1 => tb σ H1 fun y H2 => r x y H2 Q
def tUn (r : V → Hp → VK → Prop) (ta : TE) : TE := fun σ H Q => ta σ H fun x H1 => r x H1 Q
def rI (C : Int → Int → Prop) (g : Int → Int → V) : R2 := fun x y H Q => ∃ i j, x = .int i ∧ y = .int j ∧ C i j ∧ Q (g i j) H
def rI0 (g : Int → Int → V) : R2 := fun x y H Q => ∃ i j, x = .int i ∧ y = .int j ∧ Q (g i j) H
def rU (g : Int → V) : V → Hp → VK → Prop := fun x H Q => ∃ i, x = .int i ∧ Q (g i) H

section
variable {X : Cx} {a b c : Expr} {ta tb tc : TE} {pos : Pos}

theorem binT (ha : PE X a ta) (hb : PE X b tb) {pins : List (Addr × Obj)} {s : Shared} {σ : St} {H : Hp} {R : V → V → Hp → Prop} (I : Inv X pins σ H s)
    (h : ta σ H fun x H1 => tb σ H1 fun y H2 => R x y H2) {Q : Value → Shared → Prop} {f : Value → Value → Sem Value}
    (hf : ∀ v u s2 x y H2, Inv X pins σ H2 s2 → RelV x v → RelV y u → R x y H2 → wpAny (model X.prog X.w) X.A (f v u) Q X.xe s2) :
    wpAny (model X.prog X.w) X.A (eval a X.env) (fun v s₁ => wpAny (model X.prog X.w) X.A (eval b X.env) (fun u s₂ => wpAny (model X.prog X.w) X.A (f v u) Q X.xe s₂) X.xe s₁) X.xe s := by
  refine thn (ha pins s σ H _ I h) fun v s1 ⟨x, H1, I1, r1, q1⟩ => ?_
  refine thn (hb pins s1 σ H1 _ I1 q1) fun u s2 ⟨y, H2, I2, r2, q2⟩ => ?_
  exact hf v u s2 x y H2 I2 r1 r2 q2

theorem pe_op {op : Operator} {r : R2} (ho : OpR X (binaryOp op) r) (ha : PE X a ta) (hb : PE X b tb) : PE X (.BinOp a op b pos) (tOp r ta tb) := by
  intro pins s σ H Q I h
  exact wpAny_BinOp (binT ha hb I h fun v u s2 x y H2 I2 rx ry q => ho pins s2 σ H2 x y v u Q I2 rx ry q)
theorem pe_un {op : UnaryOp} {r : V → Hp → VK → Prop} (ho : UnR X (unaryOp op) r) (ha : PE X a ta) : PE X (.UnaryOp op a pos) (tUn r ta) := by
  intro pins s σ H Q I h
  exact UnaryOp_ (thn (ha pins s σ H _ I h) fun v s1 ⟨x, H1, I1, r1, q1⟩ => ho pins s1 σ H1 x v Q I1 r1 q1)
theorem opI {f : Value → Value → Sem Value} {C : Int → Int → Prop} {g : Int → Int → Int}
    (rule : ∀ (i j : Int) (t u : Tok) (s : Shared) (Q : Value → Shared → Prop) (E : Value → Shared → Prop), C i j → Q (.int (g i j) s.toks) { s with toks := s.toks + 1 } → wpAny (model X.prog X.w) X.A (f (.int i t) (.int j u)) Q E s) :
    OpR X f (rI C fun i j => .int (g i j)) := by
  intro pins s σ H x y v u Q I rx ry h
  obtain ⟨i, j, rfl, rfl, hc, q⟩ := h
  obtain ⟨t, rfl⟩ := rx
  obtain ⟨t', rfl⟩ := ry
  exact rule i j t t' s _ _ hc ⟨.int (g i j), H, I.tok _, ⟨_, rfl⟩, q⟩
theorem opI0 {f : Value → Value → Sem Value} {g : Int → Int → Int}
    (rule : ∀ (i j : Int) (t u : Tok) (s : Shared) (Q : Value → Shared → Prop) (E : Value → Shared → Prop), Q (.int (g i j) s.toks) { s with toks := s.toks + 1 } → wpAny (model X.prog X.w) X.A (f (.int i t) (.int j u)) Q E s) :
    OpR X f (rI0 fun i j => .int (g i j)) := by
  intro pins s σ H x y v u Q I rx ry h
  obtain ⟨i, j, rfl, rfl, q⟩ := h
  obtain ⟨t, rfl⟩ := rx
  obtain ⟨t', rfl⟩ := ry
  exact rule i j t t' s _ _ ⟨.int (g i j), H, I.tok _, ⟨_, rfl⟩, q⟩
theorem opB0 {f : Value → Value → Sem Value} {g : Int → Int → Bool}
    (rule : ∀ (i j : Int) (t u : Tok) (s : Shared) (Q : Value → Shared → Prop) (E : Value → Shared → Prop), Q (.bool (g i j)) s → wpAny (model X.prog X.w) X.A (f (.int i t) (.int j u)) Q E s) :
    OpR X f (rI0 fun i j => .bl (g i j)) := by
  intro pins s σ H x y v u Q I rx ry h
  obtain ⟨i, j, rfl, rfl, q⟩ := h
  obtain ⟨t, rfl⟩ := rx
  obtain ⟨t', rfl⟩ := ry
  exact rule i j t t' s _ _ ⟨.bl (g i j), H, I, rfl, q⟩

def CDiv (i j : Int) : Prop := 0 < j ∧ j < 1073741824
def CPow (i j : Int) : Prop := 0 ≤ j ∧ j ≤ 1000000 ∧ i.natAbs < 2 ^ 64
def CMul (i j : Int) : Prop := (-(2 ^ 64) < i ∧ i < 2 ^ 64) ∨ (-(2 ^ 64) < j ∧ j < 2 ^ 64)
theorem CMul.ok {i j : Int} (h : CMul i j) : IntMulOk i j := by
  rcases h with ⟨h1, h2⟩ | ⟨h1, h2⟩
  · exact .of_left (intBits_le_64 h1 h2)
  · exact .of_right (intBits_le_64 h1 h2)
theorem op_add : OpR X (binaryOp .Add) (rI0 fun i j => .int (i + j)) := opI0 fun _ _ _ _ _ _ _ q => add_int q
theorem op_sub : OpR X (binaryOp .Sub) (rI0 fun i j => .int (i - j)) := opI0 fun _ _ _ _ _ _ _ q => sub_int q
theorem op_mul : OpR X (binaryOp .Mult) (rI CMul fun i j => .int (i * j)) := opI fun _ _ _ _ _ _ _ hc q => mul_int q hc.ok
theorem op_fdiv : OpR X (binaryOp .FloorDiv) (rI CDiv fun i j => .int (i / j)) := opI fun i j _ _ _ _ _ hc q => by
  have h1 : (0 : Int) < j := hc.1
  have h2 : j < 1073741824 := hc.2
  exact floordiv_int (by omega) (by rw [Int.fdiv_eq_ediv_of_nonneg i (by omega)]; exact q) (.inl (PyProof.noPylong_small (by omega)))
theorem op_mod : OpR X (binaryOp .Mod) (rI (fun _ j => 0 < j) fun i j => .int (i % j)) := opI fun i j _ _ _ _ _ hc q => by
  have h1 : (0 : Int) < j := hc
  exact mod_int' (by omega) (by rw [Int.fmod_eq_emod_of_nonneg i (by omega)]; exact q)
theorem op_pow : OpR X (binaryOp .Pow) (rI CPow fun i j => .int (i ^ j.toNat)) := opI fun _ _ _ _ _ _ _ hc q => pow_int_small hc.1 hc.2.1 hc.2.2 q
theorem unI {f : Value → Sem Value} {g : Int → Int}
    (rule : ∀ (i : Int) (t : Tok) (s : Shared) (Q : Value → Shared → Prop) (E : Value → Shared → Prop), Q (.int (g i) s.toks) { s with toks := s.toks + 1 } → wpAny (model X.prog X.w) X.A (f (.int i t)) Q E s) :
    UnR X f (rU fun i => .int (g i)) := by
  intro pins s σ H x v Q I rx h
  obtain ⟨i, rfl, q⟩ := h
  obtain ⟨t, rfl⟩ := rx
  exact rule i t s _ _ ⟨.int (g i), H, I.tok _, ⟨_, rfl⟩, q⟩
theorem un_neg : UnR X (unaryOp .USub) (rU fun i => .int (-i)) := unI fun _ _ _ _ _ q => neg_int q
end

def scal : V → V → Bool
  | .non, .non => true | .non, .int _ => true | .int _, .non => true | .non, .bl _ => true | .bl _, .non => true | .non, .str _ => true | .str _, .non => true
  | .int _, .int _ => true | .bl _, .bl _ => true | .str _, .str _ => true | .byt _, .byt _ => true
  | .int _, .str _ => true | .str _, .int _ => true | .bl _, .str _ => true | .str _, .bl _ => true
  | _, _ => false
def rEq : R2 := fun x y H Q => scal x y = true ∧ Q (.bl (decide (x = y))) H
def rNe : R2 := fun x y H Q => scal x y = true ∧ Q (.bl (!decide (x = y))) H

theorem dec_int {i j : Int} : decide (V.int i = V.int j) = (i == j) := by
  rw [Bool.eq_iff_iff]
  simp
theorem dec_bl {i j : Bool} : decide (V.bl i = V.bl j) = (i == j) := by
  rw [Bool.eq_iff_iff]
  simp
theorem dec_str {i j : Str} : decide (V.str i = V.str j) = (i == j) := by
  rw [Bool.eq_iff_iff]
  simp
theorem dec_byt {i j : Array UInt8} : decide (V.byt i = V.byt j) = (i.toList == j.toList) := by
  rw [Bool.eq_iff_iff]
  cases i
  cases j
  simp

section
variable {X : Cx} {a b c : Expr} {ta tb tc : TE} {pos : Pos}
theorem fin_bl {pins : List (Addr × Obj)} {σ : St} {H : Hp} {s : Shared} {Q : VK} {k k' : Bool} (I : Inv X pins σ H s) (q : Q (.bl k) H) (e : k = k') : EP X pins σ Q (.bool k') s := by
  subst e
  exact ⟨.bl k, H, I, rfl, q⟩
theorem op_eq : OpR X (compareOp .Eq) rEq := by
  intro pins s σ H x y v u Q I rx ry h
  obtain ⟨hs, q⟩ := h
  cases x with
  | non =>
    cases rx
    cases y with
    | non => cases ry; exact PySem.EqNone.eq_none_none (fin_bl I q (by simp))
    | bl j => cases ry; exact PySem.EqNone.eq_none_bool (fin_bl I q (by simp))
    | int j => obtain ⟨t', rfl⟩ := ry; exact PySem.EqNone.eq_none_int (fin_bl I q (by simp))
    | str j => obtain ⟨t', rfl⟩ := ry; exact PySem.EqNone.eq_none_str (fin_bl I q (by simp))
    | _ => exact absurd (show false = true from hs) Bool.false_ne_true
  | bl i =>
    cases rx
    cases y with
    | non => cases ry; exact PySem.EqNone.eq_bool_none (fin_bl I q (by simp))
    | bl j => cases ry; exact eq_bool (fin_bl I q dec_bl)
    | str j => obtain ⟨t', rfl⟩ := ry; exact PySem.EqMixed.eq_bool_str (fin_bl I q (by simp))
    | _ => exact absurd (show false = true from hs) Bool.false_ne_true
  | int i =>
    obtain ⟨t, rfl⟩ := rx
    cases y with
    | non => cases ry; exact PySem.EqNone.eq_int_none (fin_bl I q (by simp))
    | int j => obtain ⟨t', rfl⟩ := ry; exact eq_int (fin_bl I q dec_int)
    | str j => obtain ⟨t', rfl⟩ := ry; exact PySem.EqMixed.eq_int_str (fin_bl I q (by simp))
    | _ => exact absurd (show false = true from hs) Bool.false_ne_true
  | str i =>
    obtain ⟨t, rfl⟩ := rx
    cases y with
    | non => cases ry; exact PySem.EqNone.eq_str_none (fin_bl I q (by simp))
    | bl j => cases ry; exact PySem.EqMixed.eq_str_bool (fin_bl I q (by simp))
    | int j => obtain ⟨t', rfl⟩ := ry; exact PySem.EqMixed.eq_str_int (fin_bl I q (by simp))
    | str j => obtain ⟨t', rfl⟩ := ry; exact eq_str (fin_bl I q dec_str)
    | _ => exact absurd (show false = true from hs) Bool.false_ne_true
  | byt i =>
    obtain ⟨t, rfl⟩ := rx
    cases y with
    | byt j => obtain ⟨t', rfl⟩ := ry; exact PySem.W.eq_bytes (fin_bl I q dec_byt)
    | _ => exact absurd (show false = true from hs) Bool.false_ne_true
  | _ => cases y <;> exact absurd (show false = true from hs) Bool.false_ne_true
theorem op_ne : OpR X (compareOp .NotEq) rNe := by
  intro pins s σ H x y v u Q I rx ry h
  obtain ⟨hs, q⟩ := h
  cases x with
  | non =>
    cases rx
    cases y with
    | non => cases ry; exact PySem.EqNone.ne_none_none (fin_bl I q (by simp))
    | bl j => cases ry; exact PySem.EqNone.ne_none_bool (fin_bl I q (by simp))
    | int j => obtain ⟨t', rfl⟩ := ry; exact PySem.EqNone.ne_none_int (fin_bl I q (by simp))
    | str j => obtain ⟨t', rfl⟩ := ry; exact PySem.EqNone.ne_none_str (fin_bl I q (by simp))
    | _ => exact absurd (show false = true from hs) Bool.false_ne_true
  | bl i =>
    cases rx
    cases y with
    | non => cases ry; exact PySem.EqNone.ne_bool_none (fin_bl I q (by simp))
    | bl j => cases ry; exact ne_bool (fin_bl I q (congrArg not dec_bl))
    | str j => obtain ⟨t', rfl⟩ := ry; exact PySem.EqMixed.ne_bool_str (fin_bl I q (by simp))
    | _ => exact absurd (show false = true from hs) Bool.false_ne_true
  | int i =>
    obtain ⟨t, rfl⟩ := rx
    cases y with
    | non => cases ry; exact PySem.EqNone.ne_int_none (fin_bl I q (by simp))
    | int j => obtain ⟨t', rfl⟩ := ry; exact ne_int (fin_bl I q (congrArg not dec_int))
    | str j => obtain ⟨t', rfl⟩ := ry; exact PySem.EqMixed.ne_int_str (fin_bl I q (by simp))
    | _ => exact absurd (show false = true from hs) Bool.false_ne_true
  | str i =>
    obtain ⟨t, rfl⟩ := rx
    cases y with
    | non => cases ry; exact PySem.EqNone.ne_str_none (fin_bl I q (by simp))
    | bl j => cases ry; exact PySem.EqMixed.ne_str_bool (fin_bl I q (by simp))
    | int j => obtain ⟨t', rfl⟩ := ry; exact PySem.EqMixed.ne_str_int (fin_bl I q (by simp))
    | str j => obtain ⟨t', rfl⟩ := ry; exact ne_str (fin_bl I q (congrArg not dec_str))
    | _ => exact absurd (show false = true from hs) Bool.false_ne_true
  | byt i =>
    obtain ⟨t, rfl⟩ := rx
    cases y with
    | byt j => obtain ⟨t', rfl⟩ := ry; exact PySem.W.ne_bytes (fin_bl I q (congrArg not dec_byt))
    | _ => exact absurd (show false = true from hs) Bool.false_ne_true
  | _ => cases y <;> exact absurd (show false = true from hs) Bool.false_ne_true

theorem op_lt : OpR X (compareOp .Lt) (rI0 fun i j => .bl (decide (i < j))) := opB0 fun _ _ _ _ _ _ _ q => lt_int q
theorem op_le : OpR X (compareOp .LtE) (rI0 fun i j => .bl (decide (i ≤ j))) := opB0 fun _ _ _ _ _ _ _ q => le_int q
theorem op_gt : OpR X (compareOp .Gt) (rI0 fun i j => .bl (decide (j < i))) := opB0 fun _ _ _ _ _ _ _ q => gt_int q
theorem op_ge : OpR X (compareOp .GtE) (rI0 fun i j => .bl (decide (j ≤ i))) := opB0 fun _ _ _ _ _ _ _ q => ge_int q
theorem nomark (b : Expr) {op : CmpOp} (h : op ≠ .In := by decide) (h2 : op ≠ .NotIn := by decide) : behindInMarks op b = false := by
  have e1 : (op == CmpOp.In) = false := by cases op <;> first | rfl | exact absurd rfl h
  have e2 : (op == CmpOp.NotIn) = false := by cases op <;> first | rfl | exact absurd rfl h2
  cases b <;> simp [behindInMarks, e1, e2]
theorem pe_cmpR {op : CmpOp} {r : R2} (ho : OpR X (compareOp op) r) (ha : PE X a ta) (hb : PE X b tb) (hm : behindInMarks op b = false) : PE X (.Compare a [op] [b] pos) (tOp r ta tb) := by
  intro pins s σ H Q I h
  exact wpAny_Compare1 (binT ha hb I h fun v u s2 x y H2 I2 rx ry q => ho pins s2 σ H2 x y v u Q I2 rx ry q) hm
def tTest (t : TE) : TT := fun σ H Q => t σ H fun x H' => ∃ k, x = .bl k ∧ Q k H'
theorem pt_cmpR {op : CmpOp} {r : R2} (ho : OpR X (compareOp op) r) (ha : PE X a ta) (hb : PE X b tb) (hm : behindInMarks op b = false) : PT X (.Compare a [op] [b] pos) (tTest (tOp r ta tb)) := by
  intro pins s σ H Q I h
  refine wpAny_isTrue_Compare1 (thn (ha pins s σ H _ I h) fun v s1 ⟨x, H1, I1, r1, q1⟩ => thn (hb pins s1 σ H1 _ I1 q1) fun u s2 ⟨y, H2, I2, r2, q2⟩ =>
    thn (ho pins s2 σ H2 x y v u _ I2 r1 r2 q2) fun c s3 ⟨z, H3, I3, r3, k, e, q3⟩ => ?_) hm
  subst e
  cases r3
  exact wpAny_truthy_bool ⟨H3, I3, q3⟩
theorem line63 : (sizeLine : Nat) < 2 ^ 63 := by rw [sizeLine_eq]; decide
theorem vals1 {x : V} {us : List Value} (r : Vals [x] us) : ∃ u, us = [u] ∧ RelV x u := by
  cases r with
  | cons r1 r2 => cases r2; exact ⟨_, rfl, r1⟩
theorem call_str_int : CallR X (.type "str") (fun xs H Q => ∃ i, xs = [.int i] ∧ i.natAbs.log2 < 1920 ∧ Q (.str (toString i)) H) := by
  intro pins s σ H xs us Q I r h
  obtain ⟨i, rfl, hz, q⟩ := h
  obtain ⟨u, rfl, t, rfl⟩ := vals1 r
  exact PySem.P.str_of_int hz ⟨.str _, H, I.tok _, ⟨_, rfl⟩, q⟩
end
end L2

namespace L2
open PySem PySem.Spec PyProof.Rows

section
variable {prog : Program} {w : World} {A : Around} {E : Value → Shared → Prop} {s : Shared} {K : PySem.W.Frag} {x dx C f : Addr} {mA : Str → Option Value} {name : Str} {v : Value}

end

theorem RelO.some_of {v : V} {o : Option Value} (r : RelO (some v) o) : ∃ u, o = some u ∧ RelV v u := by
  cases o with
  | none => exact (show False from r).elim
  | some u => exact ⟨u, rfl, r⟩
theorem RelO.none_of {o : Option Value} (r : RelO none o) : o = none := by
  cases o with
  | none => rfl
  | some u => exact (show False from r).elim
section
variable {P : Program} {w : World} {H H' : Hp} {h h' : Heap} {a C dx : Addr} {fs fs' : List (Str × V)}
end

structure Cls (K : PySem.W.Frag) (C : Addr) : Prop where
  pg : PySem.W.plainGet K C Str.empty = true
  hd : PySem.W.hasDictIn K C = true
  po : PySem.W.plainOver K C = true
  sa : PySem.W.findIn K (.ref C) "__setattr__" = some (some (.builtin "object.__setattr__"))
theorem Cls.get {K : PySem.W.Frag} {C : Addr} (c : Cls K C) (f : Str) : PySem.W.plainGet K C f = true := c.pg
section
variable {X : Cx} {pins : List (Addr × Obj)} {σ : St} {H : Hp} {s : Shared} {a C dx : Addr} {fs : List (Str × V)} {f : Str} {v : V} {A : Around} {E : Value → Shared → Prop}

end

section
variable {X : Cx} {o e value : Expr} {f : Str} {pos pos' tpos : Pos} {ta tv : TE}
end

section
variable {X : Cx} {pins : List (Addr × Obj)} {σ : St} {H : Hp} {s : Shared} {A : Around} {E : Value → Shared → Prop} {Q : Value → Shared → Prop} {c : Value} {b : Bool}
end
end L2

namespace L2
open PySem PySem.Spec PyProof.Rows

structure Room (k : Nat) (A : Around) : Prop where
  hd : A.handled = none
  dp : A.depth + 3 * k + 5 < recursionLimit
  un : A.units + 16 * k + 200 < cLine
theorem Room.mono {j k : Nat} {A : Around} (r : Room k A) (h : j ≤ k) : Room j A := ⟨r.hd, by have := r.dp; omega, by have := r.un; omega⟩
theorem Room.deeper {k : Nat} {A : Around} (r : Room (k + 1) A) (env : Env) : Room k (A.deeper env) :=
  ⟨r.hd, by have := r.dp; show A.depth + 1 + 3 * k + 5 < _; omega, by have := r.un; show A.units + 3 + 16 * k + 200 < _; omega⟩
theorem Room.in1 {k : Nat} {A : Around} (r : Room (k + 1) A) : Room k A.in1 :=
  ⟨r.hd, by have := r.dp; show A.depth + 3 * k + 5 < _; omega, by have := r.un; show A.units + 1 + 16 * k + 200 < _; omega⟩
theorem Room.depth {k : Nat} {A : Around} (r : Room k A) : A.depth < recursionLimit := by have := r.dp; omega
theorem Room.units {k : Nat} {A : Around} (r : Room k A) : A.units + 64 < cLine := by have := r.un; omega
def tNil : TA := fun _ H Q => Q [] H
def tCons (ta : TE) (tr : TA) : TA := fun σ H Q => ta σ H fun x H1 => tr σ H1 fun xs H2 => Q (x :: xs) H2
section
variable {X : Cx} {e : Expr} {es : List Expr} {te : TE} {t : TA} {pos : Pos}
theorem pa_nil : PA X [] tNil := fun _ _ _ _ H Q I h => Calls.spliced_nil ⟨[], H, I, .nil, h⟩
theorem pa_cons (ha : PE X e te) (hr : PA X es t) (hs : starEach (e :: es) X.env = (false, eval e X.env) :: starEach es X.env := by rfl) : PA X (e :: es) (tCons te t) := by
  intro pos pins s σ H Q I h
  rw [hs]
  show wpAny _ _ (spliced ((false, eval e X.env) :: backTo pos (starEach es X.env))) _ _ s
  refine Calls.spliced_cons (thn (ha pins s σ H _ I h) fun u s1 ⟨x, H1, I1, r1, q1⟩ => ?_)
  exact thn (hr pos pins s1 σ H1 _ I1 q1) fun us s2 ⟨xs, H2, I2, r2, q2⟩ => ⟨x :: xs, H2, I2, .cons r1 r2, q2⟩

def tTup (t : TA) : TE := fun σ H Q => t σ H fun xs H1 => xs.length ≤ sizeLine ∧ ∀ p, H1 p = none → Q (.ref p) (upd H1 p (.tup xs))
def tLst (t : TA) : TE := fun σ H Q => t σ H fun xs H1 => xs.length ≤ sizeLine ∧ ∀ p, H1 p = none → Q (.ref p) (upd H1 p (.lst xs))
theorem pe_tup {x1} (h : PA X es t) : PE X (.Tuple es x1 pos) (tTup t) := by
  intro pins s σ H Q I hq
  refine wpAny_Tuple_spliced (thn (h pos pins s σ H _ I hq) fun us s1 ⟨xs, H1, I1, r, z, q⟩ => ⟨by rw [← r.length]; exact z, ?_⟩)
  have hf : H1 s1.heap.objs.size = none := I1.hok.fresh (Nat.le_refl _)
  refine ⟨.ref s1.heap.objs.size, upd H1 s1.heap.objs.size (.tup xs), I1.laid (t' := s1.toks) (fun b u e => Heap.get?_push_of_some _ e) (Nat.le_refl _) ?_, rfl, q _ hf⟩
  exact ⟨z, us, r, ⟨_, Heap.get?_push_size _ rfl, rfl, _, rfl⟩⟩
theorem pe_lst (h : PA X es t) : PE X (.List es pos) (tLst t) := by
  intro pins s σ H Q I hq
  refine wpAny_List_spliced (thn (h pos pins s σ H _ I hq) fun us s1 ⟨xs, H1, I1, r, z, q⟩ => ⟨by rw [← r.length]; exact z, ?_⟩)
  have hf : H1 s1.heap.objs.size = none := I1.hok.fresh (Nat.le_refl _)
  refine ⟨.ref s1.heap.objs.size, upd H1 s1.heap.objs.size (.lst xs), I1.laid (t' := s1.toks) (fun b u e => Heap.get?_push_of_some _ e) (Nat.le_refl _) ?_, rfl, q _ hf⟩
  exact ⟨z, us, 0, r, Heap.get?_push_size _ rfl⟩
end

abbrev Sp := List V → Hp → VK → XK → Prop
abbrev CXT := List Env → Hp → Shared → XK → Value → Shared → Prop

structure Env0 (P : Program) (w : World) (K : PySem.W.Frag) (mg : Str → Option Value) (base : Heap) (A : Around) (outer : List Env) (s : Shared) (H : Hp) : Prop where
  frames : A.frames = some outer
  mod : Mod K mg base
  bs : ∀ b o, base.get? b = some o → s.heap.get? b = some o ∧ H b = none
  bsz : base.objs.size ≤ s.heap.objs.size
  funs : s.heap.FunFrames base outer
  frf : ∀ b ∈ frs outer, H b = none
  hok : HOk P w H s.heap
  bare : AllBare s.gens
def CE (outer : List Env) (P : Program) (w : World) (H : Hp) (s : Shared) (Q : VK) (u : Value) (s' : Shared) : Prop :=
  ∃ v H', s'.os = s.os ∧ AllBare s'.gens ∧ Un (frs outer) [] H H' s.heap s'.heap ∧ HOk P w H' s'.heap ∧ RelV v u ∧ Q v H'
def CR (CX : CXT) (outer : List Env) (P : Program) (w : World) (H : Hp) (s : Shared) (Q : VK) (E : XK) (r : Result) (s' : Shared) : Prop :=
  match r with
  | .ok (.ret u) => CE outer P w H s Q u s'
  | .ok _ => False
  | .error e => CX outer H s E e s'
structure FnOk (P : Program) (w : World) (K : PySem.W.Frag) (mg : Str → Option Value) (base : Heap) (CX : CXT) (k : Nat) (f : Addr) (fd : FuncData) (ps : List Str) (sp : Sp) : Prop where
  len : ∀ vs H Q E, sp vs H Q E → vs.length = ps.length
  run : ∀ (A : Around) (outer : List Env) (s : Shared) (H : Hp) (args : Args) (us : List Value) (vs : List V) (Q : VK) (E : XK), Room k A → Env0 P w K mg base A outer s H → BindsTo s fd args (ps.zip us) → Vals vs us → sp vs H Q E →
    codeAny (model P w) A (.call (.ref f) args) (CR CX outer P w H s Q E) s
theorem FnOk.mono {P : Program} {w : World} {K : PySem.W.Frag} {mg : Str → Option Value} {base : Heap} {CX : CXT} {j k : Nat} {f : Addr} {fd : FuncData} {ps : List Str} {sp : Sp} (F : FnOk P w K mg base CX j f fd ps sp) (h : j ≤ k) :
    FnOk P w K mg base CX k f fd ps sp := ⟨F.len, fun A outer s H args us vs Q E hr => F.run A outer s H args us vs Q E (hr.mono h)⟩
theorem FnOk.imp {P : Program} {w : World} {K : PySem.W.Frag} {mg : Str → Option Value} {base : Heap} {CX : CXT} {k : Nat} {f : Addr} {fd : FuncData} {ps : List Str} {sp sp' : Sp} (F : FnOk P w K mg base CX k f fd ps sp)
    (h : ∀ vs H Q E, sp' vs H Q E → sp vs H Q E) : FnOk P w K mg base CX k f fd ps sp' :=
  ⟨fun vs H Q E q => F.len vs H Q E (h _ _ _ _ q), fun A outer s H args us vs Q E hr he hb hv hs => F.run A outer s H args us vs Q E hr he hb hv (h _ _ _ _ hs)⟩

theorem Env0.in1 {P : Program} {w : World} {K : PySem.W.Frag} {mg : Str → Option Value} {base : Heap} {A : Around} {outer : List Env} {s : Shared} {H : Hp} (e : Env0 P w K mg base A outer s H) :
    Env0 P w K mg base A.in1 outer s H := ⟨e.frames, e.mod, e.bs, e.bsz, e.funs, e.frf, e.hok, e.bare⟩

section
variable {X : Cx} {pins : List (Addr × Obj)} {σ : St} {H : Hp} {s s' : Shared}
theorem Inv.env0 (I : Inv X pins σ H s) : Env0 X.prog X.w X.K X.mg X.base X.A X.stack s H :=
  ⟨I.ok.frames, I.ok.mod, I.bs, Nat.le_trans I.ok.bsz I.sz, I.stack, I.stkFree, I.hok, I.bare⟩
theorem Inv.after {Q : VK} {u : Value} (I : Inv X pins σ H s) (h : CE X.stack X.prog X.w H s Q u s') : EP X pins σ Q u s' := by
  obtain ⟨v, H', os, bare, un, hok, r, q⟩ := h
  obtain ⟨hh, g, d, t, os'⟩ := s'
  obtain rfl : os' = s.os := os
  exact ⟨v, H', I.call (h' := hh) (g' := g) (d' := d) (t' := t) (ch := []) un hok bare (fun b z => absurd z (by simp)), r, q⟩
end

def tCall (sp : Sp) (dvs : List V) (E : XK) (t : TA) : TE := fun σ H Q => t σ H fun vs H1 => sp (vs ++ dvs) H1 Q E
def Binds (K : PySem.W.Frag) (fd : FuncData) (ps : List Str) (ds : List Value) : Prop :=
  ∀ (s : Shared) (us : List Value), K.In s.heap → (us ++ ds).length = ps.length → BindsTo s fd ⟨us, []⟩ (ps.zip (us ++ ds))
theorem Binds.all {K : PySem.W.Frag} {fd : FuncData} {ps : List Str} (h : ∀ us : List Value, us.length = ps.length → bindArgs fd ⟨us, []⟩ = pure (ps.zip us)) : Binds K fd ps [] := fun s us _ hl => by
  rw [List.append_nil] at hl ⊢
  exact .of_eq (h us hl)

def Passes (CX : CXT) (X : Cx) (E : XK) : Prop := ∀ (pins : List (Addr × Obj)) (σ : St) (H : Hp) (s : Shared) (e : Value) (s' : Shared), Inv X pins σ H s → CX X.stack H s E e s' → X.xe e s'

section
variable {X : Cx} {CX : CXT} {k : Nat} {f C : Addr} {fd : FuncData} {ps : List Str} {sp : Sp} {dvs : List V} {ds : List Value} {E : XK} {x m : Str} {p pos apos : Pos} {e o : Expr} {es : List Expr} {ta : TE} {t : TA}

theorem run_fn {pins : List (Addr × Obj)} {σ : St} {H : Hp} {s : Shared} {Q : VK} {us : List Value} {vs : List V} (F : FnOk X.prog X.w X.K X.mg X.base CX k f fd ps sp) (hr : Room k X.A) (hb : Binds X.K fd ps ds) (hd : Vals dvs ds) (hx : Passes CX X E)
    (I : Inv X pins σ H s) (r : Vals vs us) (h : sp (vs ++ dvs) H Q E) : wpAny (model X.prog X.w) X.A (call (.ref f) us) (EP X pins σ Q) X.xe s := by
  have r2 : Vals (vs ++ dvs) (us ++ ds) := r.append hd
  have hl : (us ++ ds).length = ps.length := by rw [← r2.length]; exact F.len _ _ _ _ h
  refine wpAny_call (codeAny_mono (F.run X.A X.stack s H ⟨us, []⟩ (us ++ ds) (vs ++ dvs) Q E hr I.env0 (hb s us I.kIn hl) r2 h) fun r s' hq => ?_)
  cases r with
  | error e => exact hx pins σ H s e s' I hq
  | ok fl =>
    cases fl with
    | ret u => exact I.after hq
    | next => exact False.elim hq
    | brk => exact False.elim hq
    | cont => exact False.elim hq

theorem pe_call (F : FnOk X.prog X.w X.K X.mg X.base CX k f fd ps sp) (hr : Room k X.A) (hg : Gl X x) (hm : X.mg x = some (.ref f)) (hk : PySem.W.keepIn X.K (.ref f) = true) (hb : Binds X.K fd ps ds) (hd : Vals dvs ds) (hx : Passes CX X E)
    (ha : PA X (e :: es) t) (hdb : (x == ("__debug__" : Str)) = false := by decide) (he : starEach (e :: es) X.env = (false, eval e X.env) :: starEach es X.env := by rfl) (hpl : (backTo pos (starEach es X.env)).any (·.1) = false := by rfl) :
    PE X (.Call (.Name x p) (e :: es) [] pos) (tCall sp dvs E t) := by
  intro pins s σ H Q I h
  refine wpAny_Call_Name_kw (ld_glob I hg hm ?_ hdb)
  refine PySem.W.callWith_K (h₀ := X.base) I.ok.mod.kin hk (thn (ha pos pins s σ H _ I h) fun us s1 ⟨vs, H1, I1, r, q⟩ => ⟨I1.kIn, ?_⟩) he hpl
  exact run_fn F hr hb hd hx I1 r q
end

section
variable {X : Cx} {CX : CXT} {k : Nat} {f C : Addr} {fd : FuncData} {ps ks : List Str} {sp : Sp} {E : XK} {x m : Str} {p pos apos kpos : Pos} {e o : Expr} {es : List Expr} {kws : List Keyword} {te ta : TE} {t tk : TA} {nm : Option Str}
variable {g : List Value → List Value → List Value} {gV : List V → List V → List V}
end

structure FnScope (N P : List Str) (sc : Scope) : Prop where
  kind : sc.kind = .function
  co : sc.isCoroutine = false
  gen : sc.isGenerator = false
  nd : N.Nodup
  pre : N.take P.length = P
  par : ∀ x ∈ P, sc.names.lookup x = some .local ∨ sc.names.lookup x = some .cell
  nofree : ∀ y ∈ sc.names, y.2 ≠ .free

theorem bindL_out {kindOf : Str → Option NameKind} {x : Str} : ∀ {binds : List (Str × Value)} {m : Str → Option Value}, (∀ v, (x, v) ∉ binds) → bindL kindOf binds m x = m x
  | [], _, _ => rfl
  | (n, v) :: r, m, h => by
    unfold bindL
    rw [bindL_out fun w hw => h w (List.mem_cons_of_mem _ hw)]
    split
    · have : x ≠ n := by rintro rfl; exact h v List.mem_cons_self
      simp [this]
    · rfl
theorem bindC_out {kindOf : Str → Option NameKind} {x : Str} : ∀ {binds : List (Str × Value)} {m : Str → Option Value}, (∀ v, (x, v) ∉ binds) → bindC kindOf binds m x = m x
  | [], _, _ => rfl
  | (n, v) :: r, m, h => by
    unfold bindC
    rw [bindC_out fun w hw => h w (List.mem_cons_of_mem _ hw)]
    split
    · rfl
    · have : x ≠ n := by rintro rfl; exact h v List.mem_cons_self
      simp [this]
theorem bindL_get {kindOf : Str → Option NameKind} {x : Str} {v : Value} : ∀ {P : List Str} {vs : List Value} {i : Nat} {m : Str → Option Value}, P.Nodup → P[i]? = some x → vs[i]? = some v → kindOf x = some .local →
    bindL kindOf (P.zip vs) m x = some v
  | [], _, _, _, _, h, _, _ => by simp at h
  | _ :: _, [], _, _, _, _, h, _ => by simp at h
  | p :: P, w :: vs, 0, m, nd, h1, h2, hk => by
    simp at h1 h2; subst h1; subst h2
    show bindL kindOf ((p, w) :: P.zip vs) m p = _
    unfold bindL
    rw [bindL_out fun v hv => (List.nodup_cons.mp nd).1 (List.of_mem_zip hv).1, if_pos hk]
    simp
  | p :: P, w :: vs, i + 1, m, nd, h1, h2, hk => by
    show bindL kindOf ((p, w) :: P.zip vs) m x = _
    unfold bindL
    exact bindL_get (i := i) (List.nodup_cons.mp nd).2 (by simpa using h1) (by simpa using h2) hk
theorem bindC_get {kindOf : Str → Option NameKind} {x : Str} {v : Value} : ∀ {P : List Str} {vs : List Value} {i : Nat} {m : Str → Option Value}, P.Nodup → P[i]? = some x → vs[i]? = some v → kindOf x ≠ some .local →
    bindC kindOf (P.zip vs) m x = some v
  | [], _, _, _, _, h, _, _ => by simp at h
  | _ :: _, [], _, _, _, _, h, _ => by simp at h
  | p :: P, w :: vs, 0, m, nd, h1, h2, hk => by
    simp at h1 h2; subst h1; subst h2
    show bindC kindOf ((p, w) :: P.zip vs) m p = _
    unfold bindC
    rw [bindC_out fun v hv => (List.nodup_cons.mp nd).1 (List.of_mem_zip hv).1, if_neg hk]
    simp
  | p :: P, w :: vs, i + 1, m, nd, h1, h2, hk => by
    show bindC kindOf ((p, w) :: P.zip vs) m x = _
    unfold bindC
    exact bindC_get (i := i) (List.nodup_cons.mp nd).2 (by simpa using h1) (by simpa using h2) hk

def start (N : List Str) (vs : List V) : St := vs.map some ++ List.replicate (N.length - vs.length) none

def cxOf (CX : CXT) (P : Program) (w : World) (K : PySem.W.Frag) (mg : Str → Option Value) (base : Heap) (N : List Str) (qual : Str) (scope : Scope) (f : Addr) (cd : Value) (A : Around) (outer : List Env) (s : Shared) (H : Hp) (E : XK) : Cx where
  prog := P
  w := w
  K := K
  mg := mg
  base := base
  A := A.deeper (envOfC qual scope s.heap.objs.size f cd)
  N := N
  s₀ := s
  H₀ := H
  env := envOfC qual scope s.heap.objs.size f cd
  outer := outer
  stack := envOfC qual scope s.heap.objs.size f cd :: outer
  ex := []
  calm := true
  fn := fun _ => true
  pn := []
  xe := fun e s' => wpAny (model P w) (A.deeper (envOfC qual scope s.heap.objs.size f cd)) (leaving (envOfC qual scope s.heap.objs.size f cd) e) (fun _ s'' => CX outer H s E e s'') (fun e' s'' => CX outer H s E e' s'') s'

theorem cell_has {sc : Scope} {n : Nat} {x : Str} (h : sc.names.lookup x = some .cell) : ∃ c, (cellsFrom n sc.names []).lookup x = some c := by
  have q := PySem.W.cellsFrom_some sc.names n [] (.inl h)
  exact Option.isSome_iff_exists.mp q

theorem inv_start {CX : CXT} {P : Program} {w : World} {K : PySem.W.Frag} {mg : Str → Option Value} {base : Heap} {N ps : List Str} {qual : Str} {scope : Scope} {f : Addr} {cd : Value} {A : Around} {outer : List Env} {s s1 : Shared} {H : Hp} {E : XK} {us : List Value} {vs : List V}
    (S : FnScope N ps scope) (hd : A.handled = none) (e0 : Env0 P w K mg base A outer s H) (hl : vs.length = ps.length) (r : Vals vs us)
    (x : InCallC s s.heap.objs.size (bindL (envOfC qual scope s.heap.objs.size f cd).kindOf (ps.zip us) fun _ => none) (cellsFrom (s.heap.objs.size + 1) scope.names []) (bindC (envOfC qual scope s.heap.objs.size f cd).kindOf (ps.zip us) fun _ => none) s1) :
    Inv (cxOf CX P w K mg base N qual scope f cd A outer s H E) [] (start N vs) H s1 := by
  have hpl : ps.length ≤ N.length := by have := congrArg List.length S.pre; rw [List.length_take] at this; omega
  obtain ⟨h1, tk, rfl, hk⟩ := x.done
  have noA : ∀ b : Addr, b ∉ (cxOf CX P w K mg base N qual scope f cd A outer s H E).ex := fun b z => absurd (show b ∈ ([] : List Addr) from z) (by simp)
  refine ⟨⟨e0.mod, S.kind, rfl, rfl, Nat.le_refl _, fun y z c h1 h2 => ?_, fun y hy => ?_, fun y c _ h => ?_, fun _ => hd, Around.frames_deeper e0.frames, .inr ⟨rfl, rfl⟩, fun b z => absurd z (noA b), e0.bs, e0.bsz, fun b _ _ => noA b, fun b z => absurd z (noA b), e0.funs, e0.frf⟩,
    rfl, e0.bare, Un.kept hk, ⟨_, x.toInCall.ns, fun i y v h1 h2 h3 => ?_⟩, fun y c h => ⟨_, x.cell y c h⟩, e0.hok.fresh (Nat.le_refl _), fun y c h => ?_, fun p hp => absurd (show p ∈ ([] : List (Addr × Obj)) from hp) (by simp), e0.hok.kept hk, ?_⟩
  · exact name_of_addr x.apart (PySem.mem_of_lookup h1) (PySem.mem_of_lookup h2)
  · have hy : scope.names.lookup y = some .cell ∨ scope.names.lookup y = some .free := hy
    rcases hy with hy | hy
    · exact cell_has hy
    · exact absurd rfl (S.nofree _ (PySem.mem_of_lookup hy))
  · exact Nat.le_of_lt (x.above y c (PySem.mem_of_lookup h))
  · have hi : i < vs.length := by
      unfold start at h2
      by_cases hi : i < vs.length
      · exact hi
      · rw [List.getElem?_append_right (by simpa using hi)] at h2
        rw [List.getElem?_replicate] at h2
        split at h2 <;> cases h2
    have ha : vs[i]? = some v := by
      unfold start at h2
      rw [List.getElem?_append_left (by simpa using hi), List.getElem?_map] at h2
      cases e : vs[i]? with
      | none => rw [e] at h2; cases h2
      | some a => rw [e] at h2; cases h2; rfl
    obtain ⟨u, hu, rv⟩ := r.get ha
    have hp : ps[i]? = some y := by
      rw [← S.pre, List.getElem?_take_of_lt (by omega)]; exact h1
    have ndP : ps.Nodup := by rw [← S.pre]; exact S.nd.sublist (List.take_sublist _ _)
    refine ⟨u, rv, ?_⟩
    rcases S.par y (List.mem_of_getElem? hp) with k | k
    · exact .inl ⟨k, bindL_get ndP hp hu k⟩
    · obtain ⟨c, e⟩ := cell_has (n := s.heap.objs.size + 1) k
      refine .inr ⟨.inl k, c, e, ?_⟩
      have q := x.cell y c e
      rw [bindC_get ndP hp hu (by show scope.names.lookup y ≠ _; rw [k]; decide)] at q
      exact q
  · exact e0.hok.fresh (Nat.le_of_lt (x.above y c (PySem.mem_of_lookup h)))
  · unfold start
    show _ = N.length
    rw [List.length_append, List.length_map, List.length_replicate]
    omega

theorem fn_of {CX : CXT} {P : Program} {w : World} {K : PySem.W.Frag} {mg : Str → Option Value} {base : Heap} {k : Nat} {f : Addr} {name qual : Str} {params : Arguments} {body : List Stmt} {scope : Scope} {dV kV doc pm cdv ct oc : Value} {an od : Option Addr}
    {osl : Array (Option Value)} {N ps : List Str} {sp : Sp} (lk : K.lookup f = some ⟨oc, od, .func (PySem.W.fnOf name qual params body scope dV kV doc pm an cdv ct), osl⟩) (hcd : PySem.W.codeIn K cdv qual = true) (S : FnScope N ps scope)
    (len : ∀ vs H Q E, sp vs H Q E → vs.length = ps.length)
    (hbody : ∀ (A : Around) (outer : List Env) (s : Shared) (H : Hp) (vs : List V) (Q : VK) (E : XK), Room k (A.deeper (envOfC qual scope s.heap.objs.size f cdv)) → sp vs H Q E →
      ∃ t, PSs (cxOf CX P w K mg base N qual scope f cdv A outer s H E) body t ∧ t { nx := fun _ H' => Q .non H', rt := Q } (start N vs) H) :
    FnOk P w K mg base CX (k + 1) f (PySem.W.fnOf name qual params body scope dV kV doc pm an cdv ct) ps sp := by
  refine ⟨len, fun A outer s H args us vs Q E hr e0 hb r hsp => ?_⟩
  have hl := len _ _ _ _ hsp
  have KX : K.In s.heap := e0.mod.kin.keeps fun b o e => (e0.bs b o e).1
  have lim : s.heap.NoLimit := e0.mod.nolimit.keeps fun b o e => (e0.bs b o e).1
  have hkind : ∀ y ∈ ps.zip us, scope.names.lookup y.1 = some .local ∨ (scope.names.lookup y.1 = some .cell ∧ ((cellsFrom (s.heap.objs.size + 1) scope.names []).lookup y.1).isSome = true) := fun ⟨n, v⟩ hy => by
    rcases S.par n (List.of_mem_zip hy).1 with q | q
    · exact .inl q
    · exact .inr ⟨q, PySem.W.cellsFrom_some _ _ _ (.inl q)⟩
  refine codeAny_call_function hr.depth (KX _ _ lk) rfl S.co S.gen rfl (PySem.W.codeRec_of KX hcd) (hb _ _ _ _ ?_)
  refine wpAny_newFunctionEnv_cells S.kind hkind fun env he s1 x => ?_
  subst he
  refine ⟨lim.keeps x.toInCall.keep, codeAny_func ?_⟩
  obtain ⟨t, ht, hq⟩ := hbody A outer s H vs Q E (hr.deeper _) hsp
  have I : Inv (cxOf CX P w K mg base N qual scope f cdv A outer s H E) [] (start N vs) H s1 := inv_start S hr.hd e0 hl r x
  refine wpAny_mono (ht [] s1 (start N vs) H _ I hq) (fun fl s' hs => ?_) fun e s' hs => hs
  have fin : ∀ {σ' : St} {H' : Hp} {v : V} {u : Value}, Inv (cxOf CX P w K mg base N qual scope f cdv A outer s H E) [] σ' H' s' → RelV v u → Q v H' → CE outer P w H s Q u s' :=
    fun {σ' H' v u} J rv q => ⟨v, H', J.os, J.bare, J.base, J.hok, rv, q⟩
  cases fl with
  | ret u =>
    obtain ⟨v, σ', H', J, rv, q⟩ := hs
    exact fin J rv q
  | next =>
    obtain ⟨σ', H', J, q⟩ := hs
    exact fin (v := V.non) (u := Value.none) J rfl q
  | brk =>
    obtain ⟨_, _, _, q⟩ := hs
    exact False.elim q
  | cont =>
    obtain ⟨_, _, _, q⟩ := hs
    exact False.elim q
end L2

namespace L2
open PySem PySem.Spec PyProof.Rows
section
variable {X : Cx} {x : Str} {p pos : Pos} {e : Expr} {es : List Expr} {t : TA} {id T : String} {r : List V → Hp → VK → Prop}

def tCB (r : List V → Hp → VK → Prop) (t : TA) : TE := fun σ H Q => t σ H fun vs H1 => r vs H1 Q
theorem pe_callB (hc : CallR X (.builtin id) r) (hg : Gl X x) (hm : X.mg x = none) (hv : bootBuiltins x = some (.builtin id)) (ha : PA X (e :: es) t) (hn : x ≠ "__name__" := by decide) (hdb : (x == ("__debug__" : Str)) = false := by decide)
    (he : starEach (e :: es) X.env = (false, eval e X.env) :: starEach es X.env := by rfl) (hpl : (backTo pos (starEach es X.env)).any (·.1) = false := by rfl) : PE X (.Call (.Name x p) (e :: es) [] pos) (tCB r t) := by
  intro pins s σ H Q I h
  refine wpAny_Call_Name_kw (ld_blt I hg hm hv ?_ hn hdb)
  exact PyProof.Rows.callWith_builtin1 (thn (ha pos pins s σ H _ I h) fun us s1 ⟨vs, H1, I1, r1, q1⟩ => hc pins s1 σ H1 vs us Q I1 r1 q1) he hpl
theorem pe_callTy (hc : CallR X (.type T) r) (hg : Gl X x) (hm : X.mg x = none) (hv : bootBuiltins x = some (.type T)) (ha : PA X (e :: es) t) (hn : x ≠ "__name__" := by decide) (hdb : (x == ("__debug__" : Str)) = false := by decide)
    (he : starEach (e :: es) X.env = (false, eval e X.env) :: starEach es X.env := by rfl) (hpl : (backTo pos (starEach es X.env)).any (·.1) = false := by rfl) : PE X (.Call (.Name x p) (e :: es) [] pos) (tCB r t) := by
  intro pins s σ H Q I h
  refine wpAny_Call_Name_kw (ld_blt I hg hm hv ?_ hn hdb)
  exact PyProof.Rows.callWith_type1 (thn (ha pos pins s σ H _ I h) fun us s1 ⟨vs, H1, I1, r1, q1⟩ => hc pins s1 σ H1 vs us Q I1 r1 q1) he hpl
end
end L2

namespace HT
open PySem PyProof.Rows

section
open PySem.SeqAt
open PySem.AutoSeq1 (wpAny_loadPart')
open PySem.MeetsSeq PySem.MeetsSeq2 PySem.MeetsSeq3

end

section
variable {prog : Program} {w : World} {A : Around} {E : Value → Shared → Prop} {s : Shared}

end
end HT

namespace L2
open PySem PySem.Spec PyProof.Rows

abbrev TO := St → Hp → (Option Int → Hp → Prop) → Prop
theorem intsAre_of {ns : List Int} : ∀ {us : List Value}, Vals (ns.map V.int) us → IntsAre us ns := by
  induction ns with
  | nil => intro us r; rw [List.map_nil] at r; cases r; exact .nil
  | cons n ns ih =>
    intro us r
    rw [List.map_cons] at r
    cases r with
    | cons r1 r2 =>
      obtain ⟨t, e⟩ := r1
      subst e
      exact .cons n t (ih r2)

section
variable {X : Cx} {e : Expr} {te : TE} {lo hi : Option Expr} {tl th : TO} {pos p2 : Pos}

end
end L2

namespace L2
open PySem PySem.Spec PyProof.Rows

def ixN (n : Nat) (i : Int) : Option Nat := if 0 ≤ i then (if i < n then some i.toNat else none) else if -(n : Int) ≤ i then some (i + n).toNat else none
def atI {α : Type} (xs : List α) (i : Int) : Option α := (ixN xs.length i).bind fun j => xs[j]?
theorem ixN_seq {n : Nat} {i : Int} {j : Nat} (h : ixN n i = some j) : seqIndex? i n = some j ∧ j < n ∧ -(n : Int) ≤ i ∧ i < n := by
  unfold ixN at h
  by_cases h0 : 0 ≤ i
  · rw [if_pos h0] at h
    by_cases h1 : i < n
    · rw [if_pos h1] at h
      have e : i.toNat = j := Option.some.inj h
      exact ⟨by rw [seqIndex_of h0 h1, e], by omega, by omega, h1⟩
    · rw [if_neg h1] at h; cases h
  · rw [if_neg h0] at h
    by_cases h1 : -(n : Int) ≤ i
    · rw [if_pos h1] at h
      have e : (i + n).toNat = j := Option.some.inj h
      exact ⟨by rw [seqIndex_neg (by omega) h1, e], by omega, h1, by omega⟩
    · rw [if_neg h1] at h; cases h
theorem atI_get {α : Type} {xs : List α} {i : Int} {v : α} (h : atI xs i = some v) : ∃ j, seqIndex? i xs.length = some j ∧ xs[j]? = some v ∧ j < xs.length ∧ -(xs.length : Int) ≤ i ∧ i < xs.length := by
  unfold atI at h
  cases e : ixN xs.length i with
  | none => rw [e] at h; cases h
  | some j =>
    rw [e] at h
    obtain ⟨h1, h2, h3, h4⟩ := ixN_seq e
    exact ⟨j, h1, h, h2, h3, h4⟩
theorem atI_nat {α : Type} {xs : List α} {j : Nat} {v : α} (h : xs[j]? = some v) : atI xs (j : Int) = some v := by
  have hj : j < xs.length := (List.getElem?_eq_some_iff.mp h).1
  have e : ixN xs.length (j : Int) = some j := by
    unfold ixN
    rw [if_pos (by omega), if_pos (by omega)]; simp
  unfold atI; rw [e]; exact h
def PlainIx (b : Expr) : Prop := ∀ o i, subscripted b false o i = operate [o, i] (getItem o i)
def IxR (X : Cx) (r : R2) : Prop :=
  ∀ (value slice : Expr) (pins : List (Addr × Obj)) (s : Shared) (σ : St) (H : Hp) (x y : V) (v u : Value) (Q : VK), Inv X pins σ H s → RelV x v → RelV y u → r x y H Q →
    subscripted slice false v u = operate [v, u] (getItem v u) → wpAny (model X.prog X.w) X.A (subscriptTail value slice v u) (EP X pins σ Q) X.xe s
def MtR (X : Cx) (id : String) (r : V → List V → Hp → VK → Prop) : Prop :=
  ∀ (pins : List (Addr × Obj)) (s : Shared) (σ : St) (H : Hp) (x : V) (xs : List V) (v : Value) (us : List Value) (Q : VK), Inv X pins σ H s → RelV x v → Vals xs us → r x xs H Q →
    wpAny (model X.prog X.w) X.A (call (.builtin id) (v :: us)) (EP X pins σ Q) X.xe s
section
variable {X : Cx} {a b : Expr} {ta tb : TE} {pos : Pos}
theorem pe_ix {r : R2} (hr : IxR X r) (ha : PE X a ta) (hb : PE X b tb) (hs : PlainIx b) : PE X (.Subscript a b pos) (tOp r ta tb) := by
  intro pins s σ H Q I h
  exact Subscript_ (binT ha hb I h fun v u s2 x y H2 I2 rx ry q => hr a b pins s2 σ H2 x y v u Q I2 rx ry q (hs _ _))

def rIxL (K : PySem.W.Frag) : R2 := fun x y H Q => ∃ p xs i v, x = .ref p ∧ y = .int i ∧ SqL K H p xs ∧ atI xs i = some v ∧ Q v H
def rIxT (K : PySem.W.Frag) : R2 := fun x y H Q => ∃ p xs i v, x = .ref p ∧ y = .int i ∧ SqT K H p xs ∧ atI xs i = some v ∧ Q v H
theorem ix_list : IxR X (rIxL X.K) := by
  intro value slice pins s σ H x y v u Q I rx ry h hs
  obtain ⟨p, xs, i, z, rfl, rfl, hq, he, q⟩ := h
  cases rx
  obtain ⟨t, rfl⟩ := ry
  obtain ⟨its, r, pl, hz⟩ := I.list hq
  obtain ⟨j, h1, h2, h3, h4, h5⟩ := atI_get he
  obtain ⟨w, ew, rw'⟩ := r.get h2
  have hl := r.length
  have hn := line63
  have fin : EP X pins σ Q w s := ⟨z, H, I, rw', q⟩
  by_cases h0 : 0 ≤ i
  · have hj : i.toNat = j := by
      rw [seqIndex_of h0 h5] at h1
      exact Option.some.inj h1
    exact item_listR pl.isList h0 (by omega) (by rw [hj]; simpa using ew) fin hs
  · have hj : (i + (its.toArray.size : Int)).toNat = j := by
      rw [seqIndex_neg (by omega) h4] at h1
      rw [List.size_toArray, ← hl]
      exact Option.some.inj h1
    exact subscriptTail_builtinR (x := w) pl.isList.typeIs slot_list_getitem.lookup
      (wpAny_getItem_list_neg (Q := fun r s' => r = w ∧ EP X pins σ Q r s') pl.isList (by omega) (by rw [List.size_toArray] <;> omega) (by omega) (by rw [hj]; simpa using ew) ⟨rfl, fin⟩) hs
theorem ix_tup : IxR X (rIxT X.K) := by
  intro value slice pins s σ H x y v u Q I rx ry h hs
  obtain ⟨p, xs, i, z, rfl, rfl, hq, he, q⟩ := h
  cases rx
  obtain ⟨t, rfl⟩ := ry
  obtain ⟨its, r, pl, hz⟩ := I.tuple hq
  obtain ⟨j, h1, h2, h3, h4, h5⟩ := atI_get he
  obtain ⟨w, ew, rw'⟩ := r.get h2
  have hl := r.length
  have hn := line63
  have fin : EP X pins σ Q w s := ⟨z, H, I, rw', q⟩
  exact subscriptTail_builtinR (x := w) pl.typeIs slot_tuple_getitem.lookup
    (getItem_tuple (j := j) (Q := fun r s' => r = w ∧ EP X pins σ Q r s') pl (by omega) (by omega) (by rw [List.size_toArray, ← hl]; exact h1) (by simpa using ew) ⟨rfl, fin⟩) hs
theorem Inv.lst {pins : List (Addr × Obj)} {σ : St} {H : Hp} {s : Shared} {p : Addr} {xs : List V} (I : Inv X pins σ H s) (h : H p = some (.lst xs)) :
    ∃ (its : List Value) (n : Nat), Vals xs its ∧ s.heap.get? p = some { cls := .type "list", data := .seq its.toArray n } ∧ xs.length ≤ sizeLine := by
  obtain ⟨z, its, n, r, e⟩ := I.hok p _ h
  exact ⟨its, n, r, e, z⟩
def flatV : V → Bool
  | .non => true
  | .bl _ => true
  | .int _ => true
  | .str _ => true
  | _ => false
def eqV : V → V → Bool
  | .non, .non => true
  | .bl a, .bl b => a == b
  | .bl a, .int b => (if a then 1 else 0) == b
  | .int a, .bl b => a == (if b then 1 else 0)
  | .int a, .int b => a == b
  | .str a, .str b => a == b
  | _, _ => false
theorem eqAt_V {A : Around} {s : Shared} {y x : V} {u v : Value} (ry : RelV y u) (rx : RelV x v) (fy : flatV y = true) (fx : flatV x = true) : SeqAt.EqAt A s u v (eqV y x) := by
  cases y with
  | non =>
    cases ry
    cases x with
    | non => cases rx; exact SeqAt.EqAt.same _
    | bl b => cases rx; exact SeqAt.EqAt.none_bool b
    | int b => obtain ⟨t, rfl⟩ := rx; exact SeqAt.EqAt.none_int b t
    | str b => obtain ⟨t, rfl⟩ := rx; exact SeqAt.EqAt.none_str b t
    | _ => exact absurd (show false = true from fx) Bool.false_ne_true
  | bl a =>
    cases ry
    cases x with
    | non => cases rx; exact SeqAt.EqAt.bool_none a
    | bl b => cases rx; exact SeqAt.EqAt.bool_bool a b
    | int b => obtain ⟨t, rfl⟩ := rx; exact SeqAt.EqAt.bool_int a b t
    | str b => obtain ⟨t, rfl⟩ := rx; exact SeqAt.EqAt.bool_str a b t
    | _ => exact absurd (show false = true from fx) Bool.false_ne_true
  | int a =>
    obtain ⟨t', rfl⟩ := ry
    cases x with
    | non => cases rx; exact SeqAt.EqAt.int_none a t'
    | bl b => cases rx; exact SeqAt.EqAt.int_bool a t' b
    | int b => obtain ⟨t, rfl⟩ := rx; exact SeqAt.EqAt.int_int a t' b t
    | str b => obtain ⟨t, rfl⟩ := rx; exact SeqAt.EqAt.int_str a t' b t
    | _ => exact absurd (show false = true from fx) Bool.false_ne_true
  | str a =>
    obtain ⟨t', rfl⟩ := ry
    cases x with
    | non => cases rx; exact SeqAt.EqAt.str_none a t'
    | bl b => cases rx; exact SeqAt.EqAt.str_bool a t' b
    | int b => obtain ⟨t, rfl⟩ := rx; exact SeqAt.EqAt.str_int a t' b t
    | str b => obtain ⟨t, rfl⟩ := rx; exact SeqAt.EqAt.str_str a t' b t
    | _ => exact absurd (show false = true from fx) Bool.false_ne_true
  | _ => exact absurd (show false = true from fy) Bool.false_ne_true
def eqU (x : V) (u : Value) : Bool := match u with
  | .none => eqV .non x
  | .bool b => eqV (.bl b) x
  | .int i _ => eqV (.int i) x
  | .str z _ => eqV (.str z) x
  | _ => false
theorem eqU_of {x y : V} {u : Value} (r : RelV y u) (f : flatV y = true) : eqU x u = eqV y x := by
  cases y with
  | non => cases r; rfl
  | bl b => cases r; rfl
  | int i => obtain ⟨t, rfl⟩ := r; rfl
  | str z => obtain ⟨t, rfl⟩ := r; rfl
  | _ => exact absurd (show false = true from f) Bool.false_ne_true
theorem any_eqU {x : V} : ∀ {xs : List V} {us : List Value}, Vals xs us → xs.all flatV = true → us.any (eqU x) = xs.any fun y => eqV y x
  | _, _, .nil, _ => rfl
  | y :: xs, u :: us, .cons r t, f => by
    rw [List.all_cons, Bool.and_eq_true] at f
    rw [List.any_cons, List.any_cons, eqU_of r f.1, any_eqU t f.2]
theorem mem_eqAt {A : Around} {s : Shared} {x : V} {v : Value} (rx : RelV x v) (fx : flatV x = true) : ∀ {xs : List V} {us : List Value}, Vals xs us → xs.all flatV = true → ∀ u ∈ us, SeqAt.EqAt A s u v (eqU x u)
  | _, _, .nil, _ => fun u hu => by cases hu
  | y :: xs, u :: us, .cons r t, f => fun u' hu => by
    rw [List.all_cons, Bool.and_eq_true] at f
    rcases List.mem_cons.mp hu with rfl | hu
    · rw [eqU_of r f.1]; exact eqAt_V r rx f.1 fx
    · exact mem_eqAt rx fx t f.2 u' hu
def inV (x : V) (xs : List V) : Bool := xs.any fun y => eqV y x
def rIn (K : PySem.W.Frag) (neg : Bool) : R2 := fun x y H Q => ∃ p xs, y = .ref p ∧ (SqL K H p xs ∨ SqT K H p xs) ∧ flatV x = true ∧ xs.all flatV = true ∧ Q (.bl (if neg then !inV x xs else inV x xs)) H
theorem op_notIn_seq : OpR X (compareOp .NotIn) (rIn X.K true) := by
  intro pins s σ H x y v u Q I rx ry h
  obtain ⟨p, xs, rfl, hq, fx, fs, q⟩ := h
  cases ry
  rcases hq with hq | hq
  · obtain ⟨its, r, pl, hz⟩ := I.list hq
    refine SeqAt.notIn_listAt (eqU x) pl.isList (fun w hw => mem_eqAt rx fx r fs w (by simpa using hw)) ⟨.bl _, H, I, rfl, ?_⟩
    rw [show its.toArray.any (eqU x) = its.any (eqU x) by simp, any_eqU r fs]
    exact q
  · obtain ⟨its, r, pl, hz⟩ := I.tuple hq
    refine SeqAt.notIn_tupleAt (eqU x) pl (fun w hw => mem_eqAt rx fx r fs w (by simpa using hw)) ⟨.bl _, H, I, rfl, ?_⟩
    rw [show its.toArray.any (eqU x) = its.any (eqU x) by simp, any_eqU r fs]
    exact q
theorem call_len_seq : CallR X (.builtin "len") (fun xs H Q => ∃ p ys, xs = [.ref p] ∧ (SqL X.K H p ys ∨ SqT X.K H p ys) ∧ Q (.int ys.length) H) := by
  intro pins s σ H xs us Q I r h
  obtain ⟨p, ys, rfl, hq, q⟩ := h
  obtain ⟨u, rfl, rx⟩ := vals1 r
  cases rx
  have hn := line63
  rcases hq with hq | hq
  · obtain ⟨its, r', pl, hz⟩ := I.list hq
    have hlen := r'.length
    exact Calls.call_len_list pl.isList (by simp only [List.size_toArray] <;> omega) ⟨.int ys.length, H, I.tok _, ⟨s.toks + 1, by rw [List.size_toArray, hlen]⟩, q⟩
  · obtain ⟨its, r', pl, hz⟩ := I.tuple hq
    have hlen := r'.length
    exact len_tuple pl (by simp only [List.size_toArray] <;> omega) ⟨.int ys.length, H, I.tok _, ⟨s.toks + 1, by rw [List.size_toArray, hlen]⟩, q⟩
def tyV (K : PySem.W.Frag) (T : String) (x : V) (H : Hp) : Prop := match x with
  | .str _ => T = "str"
  | .int _ => T = "int"
  | .ref p => (T = "list" ∧ ∃ xs, SqL K H p xs) ∨ (T = "tuple" ∧ ∃ o, K.lookup p = some o ∧ o.cls = .type "tuple" ∧ o.dict = none) ∨
      (T = "dict" ∧ ((∃ kvs, H p = some (.dK kvs)) ∨ ∃ kvs, H p = some (.dT kvs))) ∨ (T = "set" ∧ ∃ S n, H p = some (.set S n))
  | _ => False
theorem tyV_is {pins : List (Addr × Obj)} {σ : St} {H : Hp} {s : Shared} {T : String} {x : V} {v : Value} (I : Inv X pins σ H s) (r : RelV x v) (ty : tyV X.K T x H) :
    s.TypeIs v T ∧ ∀ a, v = .ref a → ∃ ob, s.heap.get? a = some ob ∧ ob.dict = none := by
  cases x with
  | str z =>
    obtain ⟨t, rfl⟩ := r
    cases (show T = "str" from ty)
    exact ⟨typeIs_str s z t, fun _ e => nomatch e⟩
  | int i =>
    obtain ⟨t, rfl⟩ := r
    cases (show T = "int" from ty)
    exact ⟨typeIs_int s i t, fun _ e => nomatch e⟩
  | ref p =>
    cases r
    rcases ty with ⟨rfl, xs, hq⟩ | ⟨rfl, o, hk, hc, hd⟩ | ⟨rfl, hk⟩ | ⟨rfl, S, n, hk⟩
    · obtain ⟨its, _, pl, _⟩ := I.list hq
      refine ⟨pl.isList.typeIs, fun a e => ?_⟩
      cases e
      obtain ⟨o, n, e, c, hd, _⟩ := pl
      exact ⟨o, e, hd⟩
    · refine ⟨⟨o, I.kIn p o hk, hc⟩, fun a e => ?_⟩
      cases e
      exact ⟨o, I.kIn _ o hk, hd⟩
    · have z : ∃ o, s.heap.get? p = some o ∧ o.ExactDict := by
        rcases hk with ⟨kvs, hk⟩ | ⟨kvs, hk⟩
        · obtain ⟨_, _, _, _, o, _, _, e, ex, _⟩ := I.hok p _ hk
          exact ⟨o, e, ex⟩
        · obtain ⟨_, _, _, _, o, _, _, e, ex, _⟩ := I.hok p _ hk
          exact ⟨o, e, ex⟩
      obtain ⟨o, e, ex⟩ := z
      refine ⟨⟨o, e, ex.1⟩, fun a e2 => ?_⟩
      cases e2
      exact ⟨o, e, ex.2.1⟩
    · obtain ⟨o, _, _, _, e, ex, _⟩ := I.hok p _ hk
      refine ⟨⟨o, e, ex.1⟩, fun a e2 => ?_⟩
      cases e2
      exact ⟨o, e, ex.2.1⟩
  | _ => exact False.elim ty
def tBM (K : PySem.W.Frag) (T : String) (r : V → List V → Hp → VK → Prop) (to : TE) (t : TA) : TE := fun σ H Q => to σ H fun x H1 => tyV K T x H1 ∧ t σ H1 fun xs H2 => r x xs H2 Q
variable {o e : Expr} {es : List Expr} {to : TE} {t : TA} {name : Str} {apos cpos : Pos} {T id : String} {r : V → List V → Hp → VK → Prop}
theorem pe_bm (pa : PlainAttrs T) (slot : Slot T name id) (hty : typeOf (.builtin id) = pure (.type "method_descriptor")) (hm : MtR X id r) (ho : PE X o to) (ha : PA X (e :: es) t)
    (hbase : attributeBase o name X.env (eval o X.env) = eval o X.env := by rfl)
    (hfew : ((backTo cpos (starEach (e :: es) X.env)).all (fun x => !x.1) && (backToKw cpos (keywordEach [] X.env)).all (fun x => x.1.isSome)
      && decide ((e :: es).length + ([] : List Keyword).length + (if ([] : List Keyword).isEmpty then 0 else 1) < 30)) = true := by rfl)
    (hline : (apos.endLine == cpos.line) = true := by rfl) (hs : starEach (e :: es) X.env = (false, eval e X.env) :: starEach es X.env := by rfl) (hplain : (backTo cpos (starEach es X.env)).any (·.1) = false := by rfl) :
    PE X (.Call (.Attribute o name apos) (e :: es) [] cpos) (tBM X.K T r to t) := by
  intro pins s σ H Q I h
  refine wpAny_Call_method_late hbase hfew hline rfl (thn (ho pins s σ H _ I h) fun v s1 ⟨x, H1, I1, r1, ty, q1⟩ => ?_)
  obtain ⟨h1, h2⟩ := tyV_is I1 r1 ty
  refine ⟨T, id, pa, slot, hty, h1, h2, ?_⟩
  have hA := ha cpos pins s1 σ H1 _ I1 q1
  rw [hs] at hA ⊢
  refine Calls.callWith_builtin (by show (false || (backTo cpos (starEach es X.env)).any (·.1)) = false; rw [hplain] <;> rfl) (Calls.evalArgs_plain ?_)
  exact thn hA fun us s2 ⟨vs, H2, I2, r2, q2⟩ => hm pins s2 σ H2 x vs v us Q I2 r1 r2 q2
/- xs.append(e), list.index on a module's tuple .. are MtR facts of 06m -/
end
end L2

namespace L2
open PySem PySem.Spec PyProof.Rows

def MtM (X : Cx) (id : String) (r : V → List V → Hp → VK → Prop) : Prop :=
  ∀ (pins : List (Addr × Obj)) (s : Shared) (σ : St) (H : Hp) (x : V) (xs : List V) (v : Value) (us : List Value) (Q : VK), Inv X pins σ H s → RelV x v → Vals xs us → r x xs H Q →
    wpAny (model X.prog X.w) X.A (call (.builtin id) (v :: us)) (EP X pins σ Q) X.xe s

theorem Vals.one : ∀ {x : V} {us : List Value}, Vals [x] us → ∃ u, us = [u] ∧ RelV x u
  | _, _, .cons r .nil => ⟨_, rfl, r⟩
theorem Vals.two : ∀ {x y : V} {us : List Value}, Vals [x, y] us → ∃ u v, us = [u, v] ∧ RelV x u ∧ RelV y v
  | _, _, _, .cons r (.cons q .nil) => ⟨_, _, rfl, r, q⟩
theorem Vals.zero : ∀ {us : List Value}, Vals [] us → us = []
  | _, .nil => rfl
theorem Vals.dropLast {xs : List V} {us : List Value} (h : Vals xs us) : Vals xs.dropLast us.dropLast := by
  induction h with
  | nil => exact .nil
  | cons r t ih =>
    cases t with
    | nil => exact .nil
    | cons q t' => exact .cons r ih
theorem Vals.reverse {xs : List V} {us : List Value} (h : Vals xs us) : Vals xs.reverse us.reverse := by
  induction h with
  | nil => exact .nil
  | cons r t ih => rw [List.reverse_cons, List.reverse_cons]; exact Vals.append ih (.cons r .nil)
theorem Vals.rep {xs : List V} {us : List Value} (h : Vals xs us) : ∀ k : Nat, Vals (List.replicate k xs).flatten (List.replicate k us).flatten
  | 0 => .nil
  | k + 1 => by
    rw [List.replicate_succ, List.replicate_succ, List.flatten_cons, List.flatten_cons]
    exact Vals.append h (Vals.rep h k)
theorem foldl_rep (its : List Value) : ∀ (k : Nat) (acc : List Value),
    List.foldl (fun x1 x2 => x1 ++ x2) acc.toArray (List.replicate k its.toArray) = (acc ++ (List.replicate k its).flatten).toArray
  | 0, acc => by simp
  | k + 1, acc => by
    have e : acc.toArray ++ its.toArray = (acc ++ its).toArray := by simp
    have e2 : (acc ++ its) ++ (List.replicate k its).flatten = acc ++ (List.replicate (k + 1) its).flatten := by
      rw [List.replicate_succ, List.flatten_cons, List.append_assoc]
    rw [← e2, ← foldl_rep its k (acc ++ its), ← e, List.replicate_succ, List.foldl_cons]

section
variable {X : Cx} {pins : List (Addr × Obj)} {σ : St} {H : Hp} {s : Shared} {l b : Addr} {xs ys zs : List V}

theorem Inv.lset {its its' : List Value} {n : Nat} {f : Array Value → Array Value} {t' : Nat} (I : Inv X pins σ H s) (hH : H l = some (.lst xs))
    (e : s.heap.get? l = some { cls := .type "list", data := .seq its.toArray n }) (hf : f its.toArray = its'.toArray) (hv : Vals ys its') (hz : ys.length ≤ sizeLine) :
    Inv X pins σ (upd H l (.lst ys)) { s with heap := s.heap.update l (Obj.mapSeq f), toks := t' } := by
  have q := PySem.IsL.update e f
  rw [hf] at q
  refine I.write (x := l) (e := l) (by rw [hH]; exact trivial) (.inl rfl) (fun b' u hb hu => (Heap.get?_update_other s.heap (Obj.mapSeq f) (Ne.symm hb)).trans hu) ⟨_, q⟩ ?_
  exact ⟨hz, its', _, hv, q⟩
theorem Inv.lnew {its : List Value} {t' : Nat} (I : Inv X pins σ H s) (hv : Vals ys its) (hz : ys.length ≤ sizeLine) :
    Inv X pins σ (upd H s.heap.objs.size (.lst ys)) { s with heap := s.heap.push { cls := .type "list", data := .seq its.toArray }, toks := t' } :=
  I.laid (fun _ _ q => Heap.get?_push_of_some _ q) (Nat.le_refl _) ⟨hz, its, 0, hv, Heap.get?_push_size _ rfl⟩
theorem Inv.fresh (I : Inv X pins σ H s) : H s.heap.objs.size = none := I.hok.fresh (Nat.le_refl _)
theorem Inv.lstM (I : Inv X pins σ H s) (hH : H l = some (.lst xs)) : xs.length ≤ sizeLine ∧ ∃ (its : List Value) (n : Nat), Vals xs its ∧ xs.length = its.length ∧ s.heap.get? l = some { cls := .type "list", data := .seq its.toArray n } := by
  obtain ⟨z, its, n, r, e⟩ := I.hok l _ hH
  exact ⟨z, its, n, r, r.length, e⟩

theorem notLongL {n : Nat} (h : n ≤ sizeLine) : Builtin.List.listTooLong n = false := by
  unfold Builtin.List.listTooLong
  exact decide_eq_false (by omega)
end

section
variable {X : Cx}

def rAppend : V → List V → Hp → VK → Prop := fun x vs H Q => ∃ l xs y, x = .ref l ∧ vs = [y] ∧ H l = some (.lst xs) ∧ xs.length < sizeLine ∧ Q .non (upd H l (.lst (xs ++ [y])))
theorem mt_append : MtM X "list.append" rAppend := by
  intro pins s σ H x vs v us Q I rx rv h
  obtain ⟨l, xs, y, rfl, rfl, hH, hz, q⟩ := h
  cases rx
  obtain ⟨u, rfl, ru⟩ := rv.one
  obtain ⟨z, its, n, r, hl, e⟩ := I.lstM hH
  refine call_meets F.slot_list_append ⟨_, e, rfl⟩ F.entry_list_append (F.args_list_append_2 _ _) (PySem.list_append l its.toArray n u (by rw [List.size_toArray]; omega)) ⟨e, ?_⟩
  refine ⟨.non, _, I.lset (its' := its ++ [u]) hH e (by simp) (r.append (.cons ru .nil)) ?_, rfl, q⟩
  rw [List.length_append, List.length_singleton]
  omega

def rExtend : V → List V → Hp → VK → Prop := fun x vs H Q => ∃ l b xs zs, x = .ref l ∧ vs = [.ref b] ∧ H l = some (.lst xs) ∧ H b = some (.lst zs) ∧ xs.length + zs.length ≤ sizeLine ∧ Q .non (upd H l (.lst (xs ++ zs)))
theorem mt_extend : MtM X "list.extend" rExtend := by
  intro pins s σ H x vs v us Q I rx rv h
  obtain ⟨l, b, xs, zs, rfl, rfl, hH, hB, hz, q⟩ := h
  cases rx
  obtain ⟨u, rfl, ru⟩ := rv.one
  cases ru
  obtain ⟨z, its, n, r, hl, e⟩ := I.lstM hH
  obtain ⟨z2, its2, n2, r2, hl2, e2⟩ := I.lstM hB
  have hsz : its.toArray.size + its2.toArray.size ≤ sizeLine := by rw [List.size_toArray, List.size_toArray]; omega
  have hlong : ¬ (!its.toArray.isEmpty && Builtin.List.listTooLong (its.toArray.size + its2.toArray.size)) = true := by
    rw [notLongL hsz, Bool.and_false]
    exact Bool.false_ne_true
  refine call_meets F.slot_list_extend ⟨_, e, rfl⟩ F.entry_list_extend (F.args_list_extend_2 _ _)
    (AutoSeq1.list_extend_list_list_0 l its.toArray n b its2.toArray n2 hlong (by rw [List.size_toArray]; omega) (by omega)) ⟨e, e2, ?_⟩
  refine ⟨.non, _, I.lset (its' := its ++ its2) hH e (by simp) (r.append r2) ?_, rfl, q⟩
  rw [List.length_append]
  omega

def rCat : R2 := fun x y H Q => ∃ l b xs zs, x = .ref l ∧ y = .ref b ∧ H l = some (.lst xs) ∧ H b = some (.lst zs) ∧ xs.length + zs.length ≤ sizeLine ∧ ∀ p, H p = none → Q (.ref p) (upd H p (.lst (xs ++ zs)))
theorem op_cat : OpR X (binaryOp .Add) rCat := by
  intro pins s σ H x y v u Q I rx ry h
  obtain ⟨l, b, xs, zs, rfl, rfl, hH, hB, hz, q⟩ := h
  cases rx
  cases ry
  obtain ⟨z, its, n, r, hl, e⟩ := I.lstM hH
  obtain ⟨z2, its2, n2, r2, hl2, e2⟩ := I.lstM hB
  refine PySem.P.add_list e e2 ?_ (by rw [List.size_toArray, List.size_toArray]; omega)
  have ea : its.toArray ++ its2.toArray = (its ++ its2).toArray := by simp
  rw [ea]
  exact ⟨.ref _, _, I.lnew (t' := s.toks) (r.append r2) (by rw [List.length_append]; omega), rfl, q _ I.fresh⟩
def rRep : R2 := fun x y H Q => ∃ l k xs, x = .ref l ∧ y = .int k ∧ H l = some (.lst xs) ∧ -(2 ^ 63) ≤ k ∧ k < 2 ^ 63 ∧ xs.length * k.toNat ≤ sizeLine ∧
  ∀ p, H p = none → Q (.ref p) (upd H p (.lst (List.replicate k.toNat xs).flatten))
theorem len_rep {α : Type} (xs : List α) (k : Nat) : (List.replicate k xs).flatten.length = k * xs.length := by
  induction k with
  | zero => simp
  | succ k ih => rw [List.replicate_succ, List.flatten_cons, List.length_append, ih, Nat.succ_mul, Nat.add_comm]
theorem op_rep : OpR X (binaryOp .Mult) rRep := by
  intro pins s σ H x y v u Q I rx ry h
  obtain ⟨l, k, xs, rfl, rfl, hH, h1, h2, hz, q⟩ := h
  cases rx
  obtain ⟨t, rfl⟩ := ry
  obtain ⟨z, its, n, r, hl, e⟩ := I.lstM hH
  have hlen : its.toArray.size * k.toNat ≤ sizeLine := by rw [List.size_toArray, ← hl]; exact hz
  have hcap : ¬ its.toArray.size * k.toNat > (2 ^ 63 - 1) / 8 := by
    have : (sizeLine : Nat) ≤ (2 ^ 63 - 1) / 8 := by decide
    omega
  have hfit : ¬ (!Builtin.List.listFitsIndex k) = true := by
    rw [fitsIndex_both h1 h2]
    exact Bool.false_ne_true
  have hlong : ¬ Builtin.List.listTooLong (its.toArray.size * k.toNat) = true := by
    rw [notLongL hlen]
    exact Bool.false_ne_true
  have hnew : List.foldl (fun x1 x2 => x1 ++ x2) #[] (List.replicate (if its.toArray.isEmpty = true then 0 else k.toNat) its.toArray) = (List.replicate k.toNat its).flatten.toArray := by
    have f0 : ∀ m : Nat, List.foldl (fun x1 x2 => x1 ++ x2) #[] (List.replicate m its.toArray) = (List.replicate m its).flatten.toArray := fun m => by
      have := foldl_rep its m []
      rw [List.nil_append] at this
      exact this
    rw [f0]
    cases its with
    | nil => simp
    | cons a r' => rw [if_neg (by simp)]
  refine wpAny_binaryOp_repeat_ref (T := "list") (U := "int") (by decide) ⟨_, e, rfl⟩ (fun s' => typeIs_int s' k t) noFill_list_mul F.fills_int_mul F.slot_int_rmul repeat_list F.slot_int_index.lookup
    (call_meets F.slot_int_rmul (typeIs_int s k t) F.entry_int_rmul (F.args_int_rmul_2 _ _) (int___rmul___int_list k t l its.toArray n)
      ⟨e, rfl, ⟨_, e, rfl⟩, call_meets F.slot_list_mul ⟨_, e, rfl⟩ F.entry_list_mul (F.args_list_mul_2 _ _) (AutoListH.list___mul___list_int_3 l its.toArray n k t hfit hcap hlong) ⟨e, ?_⟩⟩)
  rw [hnew]
  exact ⟨.ref _, _, I.lnew (t' := s.toks) (r.rep k.toNat) (by rw [len_rep, Nat.mul_comm]; exact hz), rfl, q _ I.fresh⟩

end

section
variable {prog : Program} {w : World} {A : Around} {E : Value → Shared → Prop} {s : Shared}
set_option maxRecDepth 100000 in
end

section
variable {X : Cx}
end
end L2

namespace L2
open PySem PySem.Spec PyProof.Rows

section
variable {κ : Type} [DecidableEq κ]
def valV (kvs : List (κ × V)) (k : κ) : Option V := (kvs.find? fun kv => decide (kv.1 = k)).map (·.2)
def putK (kvs : List (κ × V)) (k : κ) (v : V) : List (κ × V) :=
  if (kvs.any fun kv => decide (kv.1 = k)) = true then kvs.map (fun kv => if kv.1 = k then (kv.1, v) else kv) else kvs ++ [(k, v)]
def dropK (kvs : List (κ × V)) (k : κ) : List (κ × V) := kvs.filter fun kv => decide (kv.1 ≠ k)

theorem valV_pos {p : κ × V} {r : List (κ × V)} {k : κ} (e : p.1 = k) : valV (p :: r) k = some p.2 := by simp [valV, List.find?_cons, e]
theorem valV_neg {p : κ × V} {r : List (κ × V)} {k : κ} (e : ¬ p.1 = k) : valV (p :: r) k = valV r k := by simp [valV, List.find?_cons, e]
theorem valV_any (k : κ) : ∀ kvs : List (κ × V), (kvs.any fun kv => decide (kv.1 = k)) = (valV kvs k).isSome
  | [] => rfl
  | p :: r => by
    rw [List.any_cons]
    by_cases e : p.1 = k
    · simp only [valV_pos e, decide_eq_true e, Bool.true_or, Option.isSome_some]
    · rw [valV_neg e, decide_eq_false e, Bool.false_or]; exact valV_any k r
theorem valV_map (k j : κ) (y : V) : ∀ kvs : List (κ × V), valV (kvs.map fun kv => if kv.1 = k then (kv.1, y) else kv) j = (valV kvs j).map fun x => if j = k then y else x
  | [] => rfl
  | p :: r => by
    have ih := valV_map k j y r
    rw [List.map_cons]
    by_cases h : p.1 = k
    · rw [if_pos h]
      by_cases e : p.1 = j
      · rw [valV_pos (p := (p.1, y)) e, valV_pos e, Option.map_some, if_pos (e.symm.trans h)]
      · rw [valV_neg (p := (p.1, y)) e, valV_neg e, ih]
    · rw [if_neg h]
      by_cases e : p.1 = j
      · rw [valV_pos (p := p) e, valV_pos e, Option.map_some, if_neg (fun z => h (e.trans z))]
      · rw [valV_neg (p := p) e, valV_neg e, ih]
theorem valV_snoc (k j : κ) (y : V) : ∀ kvs : List (κ × V), valV kvs k = none → valV (kvs ++ [(k, y)]) j = if j = k then some y else valV kvs j
  | [], _ => by
    by_cases e : k = j
    · rw [if_pos e.symm]; exact valV_pos (p := (k, y)) e
    · rw [if_neg (fun z => e z.symm)]; exact valV_neg (p := (k, y)) e
  | p :: r, hn => by
    rw [List.cons_append]
    have hk : ¬ p.1 = k := fun z => by rw [valV_pos z] at hn; cases hn
    rw [valV_neg hk] at hn
    have ih := valV_snoc k j y r hn
    by_cases e : p.1 = j
    · rw [valV_pos e, valV_pos e, if_neg (fun z => hk (e.trans z))]
    · rw [valV_neg e, valV_neg e, ih]
theorem valV_put (kvs : List (κ × V)) (k j : κ) (y : V) : valV (putK kvs k y) j = if j = k then some y else valV kvs j := by
  unfold putK
  by_cases a : (kvs.any fun kv => decide (kv.1 = k)) = true
  · rw [if_pos a, valV_map]
    rw [valV_any] at a
    by_cases e : j = k
    · obtain ⟨x, hx⟩ := Option.isSome_iff_exists.mp a
      rw [if_pos e, e, hx, Option.map_some, if_pos rfl]
    · rw [if_neg e]
      cases valV kvs j with
      | none => rfl
      | some x => rw [Option.map_some, if_neg e]
  · rw [if_neg a]
    refine valV_snoc k j y kvs ?_
    rw [valV_any] at a
    cases q : valV kvs k with
    | none => rfl
    | some x => rw [q] at a; exact (a rfl).elim
theorem length_putK (kvs : List (κ × V)) (k : κ) (v : V) : (putK kvs k v).length ≤ kvs.length + 1 := by
  unfold putK
  split
  · rw [List.length_map]; omega
  · rw [List.length_append, List.length_cons, List.length_nil]; omega
theorem putK_new {kvs : List (κ × V)} {k : κ} (v : V) (h : valV kvs k = none) : putK kvs k v = kvs ++ [(k, v)] := by
  unfold putK
  rw [valV_any, h]
  exact if_neg (by decide)

theorem RelO.isSome_eq {o : Option V} {u : Option Value} (r : RelO o u) : o.isSome = u.isSome := by
  cases o with
  | none => cases u with
    | none => rfl
    | some _ => exact (show False from r).elim
  | some _ => cases u with
    | none => exact (show False from r).elim
    | some _ => rfl
theorem RelO.getD {o : Option V} {u : Option Value} {d : V} {d' : Value} (r : RelO o u) (rd : RelV d d') : RelV (o.getD d) (u.getD d') := by
  cases o with
  | none => cases u with
    | none => exact rd
    | some _ => exact (show False from r).elim
  | some _ => cases u with
    | none => exact (show False from r).elim
    | some _ => exact r

theorem KV.val {kvs : List (κ × V)} {vs : List (κ × Value)} (r : KV kvs vs) (k : κ) : RelO (valV kvs k) (valueAt vs k) := by
  unfold KV at r
  induction r with
  | nil => exact True.intro
  | @cons p q ps qs h t ih =>
    obtain ⟨h1, h2⟩ := h
    by_cases e : p.1 = k
    · have e' : q.1 = k := h1.symm.trans e
      have b : valueAt (q :: qs) k = some q.2 := by simp [valueAt, List.find?_cons, e']
      rw [valV_pos e, b]; exact h2
    · have e' : ¬ q.1 = k := fun z => e (h1.trans z)
      have b : valueAt (q :: qs) k = valueAt qs k := by simp [valueAt, List.find?_cons, e']
      rw [valV_neg e, b]; exact ih
theorem KV.any {kvs : List (κ × V)} {vs : List (κ × Value)} (r : KV kvs vs) (k : κ) : (kvs.any fun kv => decide (kv.1 = k)) = vs.any fun kv => decide (kv.1 = k) := by
  unfold KV at r
  induction r with
  | nil => rfl
  | cons h t ih => rw [List.any_cons, List.any_cons, ih, h.1]
theorem KV.repl {kvs : List (κ × V)} {vs : List (κ × Value)} (r : KV kvs vs) (k : κ) {y : V} {u : Value} (ry : RelV y u) :
    KV (kvs.map fun kv => if kv.1 = k then (kv.1, y) else kv) (vs.map fun kv => if kv.1 = k then (kv.1, u) else kv) := by
  unfold KV at r ⊢
  induction r with
  | nil => exact .nil
  | @cons p q ps qs h t ih =>
    rw [List.map_cons, List.map_cons]
    refine .cons ?_ ih
    obtain ⟨h1, h2⟩ := h
    by_cases e : p.1 = k
    · rw [if_pos e, if_pos (h1.symm.trans e)]; exact ⟨h1, ry⟩
    · rw [if_neg e, if_neg (fun z => e (h1.trans z))]; exact ⟨h1, h2⟩
theorem KV.put {kvs : List (κ × V)} {vs : List (κ × Value)} (r : KV kvs vs) (k : κ) {y : V} {u : Value} (ry : RelV y u) : KV (putK kvs k y) (stored vs k u) := by
  unfold putK stored
  rw [r.any k]
  by_cases e : (vs.any fun kv => decide (kv.1 = k)) = true
  · rw [if_pos e, if_pos e]; exact r.repl k ry
  · rw [if_neg e, if_neg e]; exact Paired.snoc r ⟨rfl, ry⟩
theorem KV.drop {kvs : List (κ × V)} {vs : List (κ × Value)} (r : KV kvs vs) (k : κ) : KV (dropK kvs k) (without vs k) := by
  unfold KV at r ⊢
  unfold dropK without
  induction r with
  | nil => exact .nil
  | @cons p q ps qs h t ih =>
    obtain ⟨h1, h2⟩ := h
    rw [List.filter_cons, List.filter_cons]
    by_cases e : p.1 = k
    · have a : ¬ decide (p.1 ≠ k) = true := by simp [e]
      have b : ¬ decide (q.1 ≠ k) = true := by simp [h1.symm.trans e]
      rw [if_neg a, if_neg b]; exact ih
    · have e' : ¬ q.1 = k := fun z => e (h1.trans z)
      have a : decide (p.1 ≠ k) = true := by simp [e]
      have b : decide (q.1 ≠ k) = true := by simp [e']
      rw [if_pos a, if_pos b]; exact .cons ⟨h1, h2⟩ ih
theorem KV.keys {kvs : List (κ × V)} {vs : List (κ × Value)} (r : KV kvs vs) : kvs.map (·.1) = vs.map (·.1) := by
  unfold KV at r
  induction r with
  | nil => rfl
  | cons h t ih => rw [List.map_cons, List.map_cons, ih, h.1]
theorem KV.length {kvs : List (κ × V)} {vs : List (κ × Value)} (r : KV kvs vs) : kvs.length = vs.length := Paired.length r
end


theorem kV_is {P : Program} {w : World} {k : Key} {u : Value} (r : RelV (kV k) u) : (mixKind P w).is k u = true := by
  cases k with
  | inl i => obtain ⟨t, e⟩ := (show ∃ t, u = Value.int i t from r); subst e; exact mixKind_int P w i t
  | inr x => obtain ⟨t, e⟩ := (show ∃ t, u = Value.str x t from r); subst e; exact mixKind_str P w x t
theorem items_are {P : Program} {w : World} : ∀ {ks : List Key} {us : List Value}, Vals (ks.map kV) us → ItemsAre (mixKind P w) ks us
  | [], _, r => by rw [List.map_nil] at r; cases r; exact .nil
  | k :: ks, _, r => by
    rw [List.map_cons] at r
    cases r with
    | cons h t => exact .cons (kV_is h) (items_are t)

abbrev KT (H : Hp) : List (List Key × V) → List (List Key × Addr × Value) → Prop := Paired fun p q => p.1 = q.1 ∧ H q.2.1 = some (.tup (p.1.map kV)) ∧ RelV p.2 q.2.2
theorem KT.val {H : Hp} {kvs : List (List Key × V)} {xs : List (List Key × Addr × Value)} (r : KT H kvs xs) (k : List Key) : RelO (valV kvs k) ((atKey xs k).map (·.2)) := by
  induction r with
  | nil => exact True.intro
  | @cons p q ps qs h t ih =>
    obtain ⟨h1, _, h2⟩ := h
    by_cases e : p.1 = k
    · have e' : q.1 = k := h1.symm.trans e
      have b : atKey (q :: qs) k = some q.2 := by simp [atKey, List.find?_cons, e']
      rw [valV_pos e, b]; exact h2
    · have e' : ¬ q.1 = k := fun z => e (h1.trans z)
      have b : atKey (q :: qs) k = atKey qs k := by simp [atKey, List.find?_cons, e']
      rw [valV_neg e, b]; exact ih
theorem KT.repl {H : Hp} {kvs : List (List Key × V)} {xs : List (List Key × Addr × Value)} (r : KT H kvs xs) (k : List Key) {y : V} {u : Value} (ry : RelV y u) :
    KT H (kvs.map fun kv => if kv.1 = k then (kv.1, y) else kv) (xs.map (putAt k u)) := by
  induction r with
  | nil => exact .nil
  | @cons p q ps qs h t ih =>
    rw [List.map_cons, List.map_cons]
    refine .cons ?_ ih
    obtain ⟨h1, h2, h3⟩ := h
    unfold putAt
    by_cases e : p.1 = k
    · rw [if_pos e, if_pos (h1.symm.trans e)]; exact ⟨h1, h2, ry⟩
    · rw [if_neg e, if_neg (fun z => e (h1.trans z))]; exact ⟨h1, h2, h3⟩
theorem KT.put {H : Hp} {kvs : List (List Key × V)} {xs : List (List Key × Addr × Value)} (r : KT H kvs xs) (k : List Key) {b : Addr} {y : V} {u : Value} (hb : H b = some (.tup (k.map kV))) (ry : RelV y u) :
    KT H (putK kvs k y) (storedH xs k b u) := by
  have e : (kvs.any fun kv => decide (kv.1 = k)) = (atKey xs k).isSome := by
    rw [valV_any, (r.val k).isSome_eq, Option.isSome_map]
  unfold putK storedH
  rw [e]
  by_cases q : (atKey xs k).isSome = true
  · rw [if_pos q, if_pos q]; exact r.repl k ry
  · rw [if_neg q, if_neg q]; exact Paired.snoc r ⟨rfl, hb, ry⟩
theorem KT.keeps {H H' : Hp} {kvs : List (List Key × V)} {xs : List (List Key × Addr × Value)} (r : KT H kvs xs) (ht : ∀ b ys, H b = some (.tup ys) → H' b = some (.tup ys)) : KT H' kvs xs :=
  Paired.mapP r fun _ _ z => ⟨z.1, ht _ _ z.2.1, z.2.2⟩

section
variable {P : Program} {w : World} {H : Hp} {h : Heap} {a : Addr}
theorem rd_of {u : HO} (ok : HOk P w H h) (e : Rd H a u) : ObjOk P w H h a u := e.ok ok
theorem dk_rd {kvs : List (Key × V)} (ok : HOk P w H h) (e : Rd H a (.dK kvs)) : kvs.length ≤ sizeLine ∧ (a == sysModules) = false ∧ ∃ vs, KV kvs vs ∧ h.DictOf (mixKind P w) a vs :=
  show ObjOk P w H h a (.dK kvs) from rd_of ok e
theorem dk_of {kvs : List (Key × V)} (ok : HOk P w H h) (e : H a = some (.dK kvs)) : kvs.length ≤ sizeLine ∧ (a == sysModules) = false ∧ ∃ vs, KV kvs vs ∧ h.DictOf (mixKind P w) a vs := dk_rd ok (.inl e)
theorem key_of {ks : List Key} (ok : HOk P w H h) (e : H a = some (.tup (ks.map kV))) : (tupleKind (mixKind P w)).is h ks a := by
  obtain ⟨_, its, r, o, h1, h2, n, h3⟩ := (show ObjOk P w H h a (.tup (ks.map kV)) from ok a _ e)
  exact ⟨o, its.toArray, n, h1, h2, h3, by simpa using items_are r⟩
theorem dt_rd {kvs : List (List Key × V)} (ok : HOk P w H h) (e : Rd H a (.dT kvs)) : kvs.length ≤ sizeLine ∧ (a == sysModules) = false ∧
    ∃ xs, KT H kvs xs ∧ h.DictOfH (tupleKind (mixKind P w)) a xs := by
  obtain ⟨z, y, xs, r, o, es, ep, h1, h2, h3, h4, h5⟩ := (show ObjOk P w H h a (.dT kvs) from rd_of ok e)
  refine ⟨z, y, xs, r, o, es, ep, h1, h2, h3, h4, fun x hx => ?_, h5⟩
  have all : ∀ {l : List (List Key × V)} {m : List (List Key × Addr × Value)}, KT H l m → ∀ x ∈ m, (tupleKind (mixKind P w)).is h x.1 x.2.1 := by
    intro l m q
    induction q with
    | nil => intro x hx; exact nomatch hx
    | @cons p q ps qs hq t ih =>
      intro x hx
      rcases List.mem_cons.mp hx with e | hx
      · subst e
        exact key_of ok (by rw [← hq.1]; exact hq.2.1)
      · exact ih x hx
  exact all r x hx
theorem dt_of {kvs : List (List Key × V)} (ok : HOk P w H h) (e : H a = some (.dT kvs)) : kvs.length ≤ sizeLine ∧ (a == sysModules) = false ∧
    ∃ xs, KT H kvs xs ∧ h.DictOfH (tupleKind (mixKind P w)) a xs := dt_rd ok (.inl e)
end

def DGet (H : Hp) (a : Addr) (y : V) (r : Option V) : Prop :=
  (∃ kvs k, Rd H a (.dK kvs) ∧ y = kV k ∧ r = valV kvs k) ∨ ∃ kvs k b, Rd H a (.dT kvs) ∧ y = .ref b ∧ H b = some (.tup (k.map kV)) ∧ r = valV kvs k
def DPut (H : Hp) (a : Addr) (y v : V) (H' : Hp) : Prop :=
  (∃ kvs k, H a = some (.dK kvs) ∧ y = kV k ∧ kvs.length < sizeLine ∧ H' = upd H a (.dK (putK kvs k v))) ∨
  ∃ kvs k b, H a = some (.dT kvs) ∧ y = .ref b ∧ H b = some (.tup (k.map kV)) ∧ kvs.length < sizeLine ∧ H' = upd H a (.dT (putK kvs k v))
theorem DGet.k {H : Hp} {a : Addr} {kvs : List (Key × V)} {k : Key} (e : H a = some (.dK kvs)) : DGet H a (kV k) (valV kvs k) := .inl ⟨kvs, k, .inl e, rfl, rfl⟩
theorem DGet.t {H : Hp} {a b : Addr} {kvs : List (List Key × V)} {k : List Key} (e : H a = some (.dT kvs)) (eb : H b = some (.tup (k.map kV))) : DGet H a (.ref b) (valV kvs k) := .inr ⟨kvs, k, b, .inl e, rfl, eb, rfl⟩
theorem DPut.k {H : Hp} {a : Addr} {kvs : List (Key × V)} {k : Key} {v : V} (e : H a = some (.dK kvs)) (hl : kvs.length < sizeLine) : DPut H a (kV k) v (upd H a (.dK (putK kvs k v))) := .inl ⟨kvs, k, e, rfl, hl, rfl⟩
theorem DPut.t {H : Hp} {a b : Addr} {kvs : List (List Key × V)} {k : List Key} {v : V} (e : H a = some (.dT kvs)) (eb : H b = some (.tup (k.map kV))) (hl : kvs.length < sizeLine) :
    DPut H a (.ref b) v (upd H a (.dT (putK kvs k v))) := .inr ⟨kvs, k, b, e, rfl, eb, hl, rfl⟩


section
variable {X : Cx} {pins : List (Addr × Obj)} {σ : St} {H : Hp} {s : Shared} {a : Addr} {y v : V} {u r : Value} {o : Option V} {A : Around} {E : Value → Shared → Prop}

theorem Inv.big (I : Inv X pins σ H s) : sysModules < s.heap.objs.size := by
  have h : mainGlobals < s.heap.objs.size := (I.mod.glob.keeps I.bk).lt
  exact Nat.lt_trans (by decide) h

theorem d_getItem {Q : Value → Shared → Prop} (hu : A.units + 1 < cLine) (I : Inv X pins σ H s) (g : DGet H a y (some v)) (ry : RelV y u) (h : ∀ w' s', Inv X pins σ H s' → RelV v w' → Q w' s') :
    wpAny (model X.prog X.w) A (getItem (.ref a) u) Q E s := by
  rcases g with ⟨kvs, k, e, ey, l⟩ | ⟨kvs, k, b, e, ey, eb, l⟩
  · subst ey
    obtain ⟨z, hd, vs, rel, dd⟩ := dk_rd I.hok e
    obtain ⟨w', hw, rw'⟩ := RelO.some_of (v := v) (o := valueAt vs k) (by rw [l]; exact rel.val k)
    exact wpAny_getItem_of (kV_is ry) dd.mapOf hw (h w' _ (I.tok _) rw')
  · subst ey
    cases (show u = Value.ref b from ry)
    obtain ⟨z, hd, xs, rel, dd⟩ := dt_rd I.hok e
    obtain ⟨w', hw, rw'⟩ := RelO.some_of (v := v) (o := (atKey xs k).map (·.2)) (by rw [l]; exact rel.val k)
    obtain ⟨p, hp, hp2⟩ := Option.map_eq_some_iff.mp hw
    refine wpAny_getItem_heap (tupleKind_room_in1 hu) (key_of I.hok eb) dd hp ?_
    rw [hp2]
    exact h w' _ (I.tok _) rw'
theorem d_in {Q : Value → Shared → Prop} (hu : A.units + 1 < cLine) (I : Inv X pins σ H s) (g : DGet H a y o) (ry : RelV y u) (h : ∀ s', Inv X pins σ H s' → Q (.bool o.isSome) s') :
    wpAny (model X.prog X.w) A (compareOp .In u (.ref a)) Q E s := by
  rcases g with ⟨kvs, k, e, ey, l⟩ | ⟨kvs, k, b, e, ey, eb, l⟩
  · subst ey
    obtain ⟨z, hd, vs, rel, dd⟩ := dk_rd I.hok e
    refine wpAny_in_of (kV_is ry) hd dd.mapOf ?_
    rw [← (rel.val k).isSome_eq, ← l]
    exact h _ (I.tok _)
  · subst ey
    cases (show u = Value.ref b from ry)
    obtain ⟨z, hd, xs, rel, dd⟩ := dt_rd I.hok e
    refine wpAny_in_heap (tupleKind_room_in1 hu) (key_of I.hok eb) hd dd ?_
    have q := (rel.val k).isSome_eq
    rw [Option.isSome_map] at q
    rw [← q, ← l]
    exact h _ (I.tok _)
theorem d_notIn {Q : Value → Shared → Prop} (hu : A.units + 1 < cLine) (I : Inv X pins σ H s) (g : DGet H a y o) (ry : RelV y u) (h : ∀ s', Inv X pins σ H s' → Q (.bool (!o.isSome)) s') :
    wpAny (model X.prog X.w) A (compareOp .NotIn u (.ref a)) Q E s := by
  rcases g with ⟨kvs, k, e, ey, l⟩ | ⟨kvs, k, b, e, ey, eb, l⟩
  · subst ey
    obtain ⟨z, hd, vs, rel, dd⟩ := dk_rd I.hok e
    refine wpAny_notIn_of (kV_is ry) hd dd.mapOf ?_
    rw [← (rel.val k).isSome_eq, ← l]
    exact h _ (I.tok _)
  · subst ey
    cases (show u = Value.ref b from ry)
    obtain ⟨z, hd, xs, rel, dd⟩ := dt_rd I.hok e
    refine wpAny_notIn_heap (tupleKind_room_in1 hu) (key_of I.hok eb) hd dd ?_
    have q := (rel.val k).isSome_eq
    rw [Option.isSome_map] at q
    rw [← q, ← l]
    exact h _ (I.tok _)
theorem d_write {h' : Heap} {t' : Nat} {ob : HO} (I : Inv X pins σ H s) (mu : Mut (H a)) (hs : Heap.SameBut a s.heap h') (he : ∃ q, h'.get? a = some q) (new : ObjOk X.prog X.w (upd H a ob) h' a ob) :
    Inv X pins σ (upd H a ob) { s with heap := h', toks := t' } :=
  I.write (x := a) (e := a) mu (.inl rfl) (fun b q hb z => (hs.2 b hb).trans z) he new
theorem dk_new {P : Program} {w : World} {H' : Hp} {h' : Heap} {kvs : List (Key × V)} {vs : List (Key × Value)} (z : kvs.length ≤ sizeLine) (hd : (a == sysModules) = false) (rel : KV kvs vs) (dd : h'.DictOf (mixKind P w) a vs) :
    ObjOk P w H' h' a (.dK kvs) := ⟨z, hd, vs, rel, dd⟩
theorem d_setItem {H' : Hp} {Q : Unit → Shared → Prop} (hu : A.units + 1 < cLine) (I : Inv X pins σ H s) (g : DPut H a y v H') (ry : RelV y u) (rv : RelV v r) (h : ∀ s', Inv X pins σ H' s' → Q () s') :
    wpAny (model X.prog X.w) A (setItem (.ref a) u r) Q E s := by
  rcases g with ⟨kvs, k, e, ey, l, eH⟩ | ⟨kvs, k, b, e, ey, eb, l, eH⟩
  · subst ey eH
    obtain ⟨z, hd, vs, rel, dd⟩ := dk_of I.hok e
    have hz : vs.length ≤ sizeLine := by rw [← rel.length]; exact z
    have hl : (putK kvs k v).length ≤ sizeLine := by have := length_putK kvs k v; omega
    refine wpAny_setItem_pairs (hsz := hz) (kV_is ry) dd fun h' dd' hs => h _ ?_
    have he : ∃ q, h'.get? a = some q := let ⟨q, _, _, hq, _⟩ := dd'; ⟨q, hq⟩
    exact d_write I (by rw [e]; exact True.intro) hs he (dk_new hl hd (rel.put k rv) dd')
  · subst ey eH
    cases (show u = Value.ref b from ry)
    obtain ⟨z, hd, xs, rel, dd⟩ := dt_of I.hok e
    have hz : xs.length ≤ sizeLine := by rw [← Paired.length rel]; exact z
    have hl : (putK kvs k v).length ≤ sizeLine := by have := length_putK kvs k v; omega
    refine wpAny_setItem_heap (hsz := hz) (tupleKind_room_in1 hu) (key_of I.hok eb) dd fun h' dd' hs => h _ ?_
    obtain ⟨q, es, ep, hq, h2, h3, h4, _, h5⟩ := dd'
    refine d_write I (by rw [e]; exact True.intro) hs ⟨q, hq⟩ ⟨hl, hd, _, (rel.put k eb rv).keeps fun c ys ec => ?_, q, es, ep, hq, h2, h3, h4, h5⟩
    rw [upd_ne (ne_of ec e (fun z => nomatch z))]
    exact ec
end

section
variable {X : Cx} {pins : List (Addr × Obj)} {σ : St} {H : Hp} {s : Shared} {a : Addr} {kvs : List (Key × V)} {k : Key} {u : Value} {A : Around} {E : Value → Shared → Prop}
theorem d_len {Q : Value → Shared → Prop} (I : Inv X pins σ H s) (e : Rd H a (.dK kvs)) (h : ∀ t s', Inv X pins σ H s' → Q (.int kvs.length t) s') : wpAny (model X.prog X.w) A (call (.builtin "len") [.ref a]) Q E s := by
  obtain ⟨z, hd, vs, rel, dd⟩ := dk_rd I.hok e
  refine call_len_dict hd dd (by rw [← rel.length]; rw [sizeLine_eq] at z; omega) ?_
  rw [← rel.length]
  exact h _ _ (I.tok _)
end


def NoSl (i : Expr) : Prop := ∀ ov iv, subscripted i false ov iv = operate [ov, iv] (getItem ov iv)
theorem subD_of {prog : Program} {w : World} {A : Around} {E : Value → Shared → Prop} {s : Shared} {env : Env} {value slice : Expr} {pos : Pos} {T id : String} {Q : Value → Shared → Prop}
    (hl : typeLookup (.type T) "__getitem__" = pure (some (.builtin id))) (hs : NoSl slice)
    (h : wpAny (model prog w) A (eval value env) (fun o s₁ => wpAny (model prog w) A (eval slice env) (fun i s₂ => s₂.TypeIs o T ∧ wpAny (model prog w) A (getItem o i) Q E s₂) E s₁) E s) :
    wpAny (model prog w) A (eval (.Subscript value slice pos) env) Q E s := by
  refine Subscript_ (wpAny_mono h (fun o s₁ h₁ => wpAny_mono h₁ (fun i s₂ h₂ => ?_) fun _ _ x => x) fun _ _ x => x)
  obtain ⟨hT, h₂⟩ := h₂
  unfold subscriptTail
  refine wpAny_bind ?_
  rw [getitemInPython_of_ne hT.not_modules]
  refine wpAny_bind (wpAny_specialOf hT hl ?_)
  have fin : wpAny (model prog w) A (subscripted slice false o i) (fun r s₃ => wpAny (model prog w) A (letTemporaryGo value o r >>= fun _ => pure r) Q E s₃) E s₂ := by
    rw [hs o i]
    exact wpAny_operating (wpAny_mono h₂ (fun r s₃ h₃ => wpAny_bind (wpAny_letTemporaryGo (wpAny_pure h₃))) fun _ _ x => x)
  first
    | exact wpAny_pure (wpAny_bind fin)
    | exact wpAny_bind (wpAny_pure (wpAny_bind fin))
    | exact wpAny_bind fin

theorem dict_typeIs {X : Cx} {pins : List (Addr × Obj)} {σ : St} {H : Hp} {s : Shared} {a : Addr} {y : V} {o : Option V} (I : Inv X pins σ H s) (g : DGet H a y o) : s.TypeIs (.ref a) "dict" := by
  rcases g with ⟨kvs, k, e, _, _⟩ | ⟨kvs, k, b, e, _, _, _⟩
  · obtain ⟨_, _, vs, _, dd⟩ := dk_rd I.hok e
    exact dd.typeIs
  · obtain ⟨_, _, xs, _, dd⟩ := dt_rd I.hok e
    exact dd.typeIs
def tDGet (td ty : TE) : TE := fun σ H Q => td σ H fun x H1 => ty σ H1 fun y H2 => ∃ a v, x = .ref a ∧ DGet H2 a y (some v) ∧ Q v H2
def tDIn (ty td : TE) : TE := fun σ H Q => ty σ H fun y H1 => td σ H1 fun x H2 => ∃ a o, x = .ref a ∧ DGet H2 a y o ∧ Q (.bl o.isSome) H2
def tDNotIn (ty td : TE) : TE := fun σ H Q => ty σ H fun y H1 => td σ H1 fun x H2 => ∃ a o, x = .ref a ∧ DGet H2 a y o ∧ Q (.bl (!o.isSome)) H2
def sDPut (td ty tv : TE) : TS := fun D σ H => tv σ H fun v H1 => td σ H1 fun x H2 => ty σ H2 fun y H3 => ∃ a H4, x = .ref a ∧ DPut H3 a y v H4 ∧ D.nx σ H4
section
variable {X : Cx} {o i e value : Expr} {pos pos' tpos : Pos} {td ty tv : TE}
theorem pe_dget (hu : X.A.units + 1 < cLine) (ho : PE X o td) (hi : PE X i ty) (hs : NoSl i) : PE X (.Subscript o i pos) (tDGet td ty) := by
  intro pins s σ H Q I h
  refine subD_of PySem.F.slot_dict_getitem.lookup hs (thn (ho pins s σ H _ I h) fun u s1 ⟨x, H1, I1, rx, q1⟩ => thn (hi pins s1 σ H1 _ I1 q1) fun iv s2 ⟨y, H2, I2, ry, a, v, ex, g, q2⟩ => ?_)
  subst ex
  obtain rfl : u = Value.ref a := rx
  exact ⟨dict_typeIs I2 g, d_getItem hu I2 g ry fun w' s3 I3 rw' => ⟨v, H2, I3, rw', q2⟩⟩
theorem pc_din (hu : X.A.units + 1 < cLine) (hi : PE X i ty) (ho : PE X o td) : PC X .In i o (tDIn ty td) := by
  intro pins s σ H Q I h
  refine thn (hi pins s σ H _ I h) fun iv s1 ⟨y, H1, I1, ry, q1⟩ => thn (ho pins s1 σ H1 _ I1 q1) fun u s2 ⟨x, H2, I2, rx, a, ov, ex, g, q2⟩ => ?_
  subst ex
  obtain rfl : u = Value.ref a := rx
  exact d_in hu I2 g ry fun s3 I3 => ⟨.bl ov.isSome, H2, I3, rfl, q2⟩
theorem pc_dnotin (hu : X.A.units + 1 < cLine) (hi : PE X i ty) (ho : PE X o td) : PC X .NotIn i o (tDNotIn ty td) := by
  intro pins s σ H Q I h
  refine thn (hi pins s σ H _ I h) fun iv s1 ⟨y, H1, I1, ry, q1⟩ => thn (ho pins s1 σ H1 _ I1 q1) fun u s2 ⟨x, H2, I2, rx, a, ov, ex, g, q2⟩ => ?_
  subst ex
  obtain rfl : u = Value.ref a := rx
  exact d_notIn hu I2 g ry fun s3 I3 => ⟨.bl (!ov.isSome), H2, I3, rfl, q2⟩
theorem ps_dput (hu : X.A.units + 1 < cLine) (ho : PE X o td) (hi : PE X i ty) (hv : PE X value tv) (hs : swapsWith value (some (.Subscript o i pos')) pos.line X.env = pure false) :
    PS X (.Assign [.Subscript o i pos'] value pos) (sDPut td ty tv) := by
  intro pins s σ H D I h
  refine wpAny_Assign_Subscript (thn (hv pins s σ H _ I h) fun r s1 ⟨v, H1, I1, rv, q1⟩ => thn (ho pins s1 σ H1 _ I1 q1) fun u s2 ⟨x, H2, I2, rx, q2⟩ => thn (hi pins s2 σ H2 _ I2 q2) fun iv s3 ⟨y, H3, I3, ry, a, H4, ex, g, q3⟩ => ?_) hs
  subst ex
  obtain rfl : u = Value.ref a := rx
  exact d_setItem hu I3 g ry rv fun s4 I4 => ⟨σ, H4, I4, q3⟩
end


theorem dk_empty {P : Program} {w : World} {H : Hp} (h : Heap) (hb : sysModules < h.objs.size) : ObjOk P w H (h.push { cls := .type "dict", data := .dict #[] }) h.objs.size (.dK []) :=
  ⟨Nat.zero_le _, beq_eq_false_iff_ne.mpr (Ne.symm (Nat.ne_of_lt hb)), [], .nil, Heap.DictOf.new h⟩
theorem dt_empty {P : Program} {w : World} {H : Hp} (h : Heap) (hb : sysModules < h.objs.size) : ObjOk P w H (h.push { cls := .type "dict", data := .dict #[] }) h.objs.size (.dT []) :=
  ⟨Nat.zero_le _, beq_eq_false_iff_ne.mpr (Ne.symm (Nat.ne_of_lt hb)), [], .nil, _, #[], 0, Heap.get?_push_size _ rfl, ⟨rfl, rfl, rfl⟩, rfl, rfl, List.nodup_nil⟩
def tDNewK : TE := fun _ H Q => ∀ p, H p = none → Q (.ref p) (upd H p (.dK []))
def tDNewT : TE := fun _ H Q => ∀ p, H p = none → Q (.ref p) (upd H p (.dT []))
section
variable {X : Cx} {pos : Pos}
theorem pe_dnewK : PE X (.Dict [] [] pos) tDNewK := fun pins s σ H Q I h =>
  wpAny_Dict_empty ⟨.ref s.heap.objs.size, _, I.laid (a := s.heap.objs.size) (o := .dK []) (t' := s.toks) (fun _ _ q => Heap.get?_push_of_some _ q) (Nat.le_refl _) (dk_empty s.heap I.big), rfl, h _ (I.hok.fresh (Nat.le_refl _))⟩
theorem pe_dnewT : PE X (.Dict [] [] pos) tDNewT := fun pins s σ H Q I h =>
  wpAny_Dict_empty ⟨.ref s.heap.objs.size, _, I.laid (a := s.heap.objs.size) (o := .dT []) (t' := s.toks) (fun _ _ q => Heap.get?_push_of_some _ q) (Nat.le_refl _) (dt_empty s.heap I.big), rfl, h _ (I.hok.fresh (Nat.le_refl _))⟩
end

def tPairs : List (TE × TE) → St → Hp → (List (V × V) → Hp → Prop) → Prop
  | [], _, H, Q => Q [] H
  | (tk, tv) :: r, σ, H, Q => tk σ H fun x H1 => tv σ H1 fun y H2 => tPairs r σ H2 fun ps H3 => Q ((x, y) :: ps) H3
abbrev VV : List (V × V) → List (Value × Value) → Prop := Paired fun p q => RelV p.1 q.1 ∧ RelV p.2 q.2
def PPs (X : Cx) (pos : Pos) (keys : List (Option Expr)) (values : List Expr) (trs : List (TE × TE)) : Prop :=
  ∀ (pins : List (Addr × Obj)) (s : Shared) (σ : St) (H : Hp) (Q : List (V × V) → Hp → Prop), Inv X pins σ H s → tPairs trs σ H Q →
    wpAny (model X.prog X.w) X.A (evalPairs (pairTrees keys values X.env pos)) (fun vs s' => ∃ ps H', Inv X pins σ H' s' ∧ VV ps vs ∧ Q ps H') X.xe s
theorem pps_nil {X : Cx} {pos : Pos} : PPs X pos [] [] [] := fun pins s σ H Q I h => pairTrees_nil_walk ⟨[], H, I, .nil, h⟩
theorem pps_cons {X : Cx} {pos : Pos} {k v : Expr} {ks : List (Option Expr)} {vs : List Expr} {tk tv : TE} {trs : List (TE × TE)} (hk : PE X k tk) (hv : PE X v tv) (hr : PPs X pos ks vs trs) :
    PPs X pos (some k :: ks) (v :: vs) ((tk, tv) :: trs) := fun pins s σ H Q I h =>
  pairTrees_cons_walk (thn (hk pins s σ H _ I h) fun u s1 ⟨x, H1, I1, rx, q1⟩ => thn (hv pins s1 σ H1 _ I1 q1) fun w2 s2 ⟨y, H2, I2, ry, q2⟩ =>
    thn (hr pins s2 σ H2 _ I2 q2) fun ws s3 ⟨ps, H3, I3, rel, q3⟩ => ⟨(x, y) :: ps, H3, I3, .cons ⟨rx, ry⟩ rel, q3⟩)

def mergeK (kvs more : List (Key × V)) : List (Key × V) := more.foldl (fun acc kv => putK acc kv.1 kv.2) kvs
theorem KV.merge : ∀ {more : List (Key × V)} {rs : List (Key × Value)} {kvs : List (Key × V)} {vs : List (Key × Value)}, KV more rs → KV kvs vs → KV (mergeK kvs more) (merged vs rs) := by
  intro more rs kvs vs r
  unfold KV at r
  induction r generalizing kvs vs with
  | nil => intro q; exact q
  | @cons p q ps qs h t ih =>
    intro r0
    have e : KV (putK kvs p.1 p.2) (stored vs q.1 q.2) := by
      have := r0.put p.1 h.2
      rw [← h.1]; exact this
    exact ih e
theorem length_mergeK : ∀ (more kvs : List (Key × V)), (mergeK kvs more).length ≤ kvs.length + more.length
  | [], kvs => by show kvs.length ≤ kvs.length + 0; omega
  | p :: r, kvs => by
    have h1 := length_mergeK r (putK kvs p.1 p.2)
    have h2 := length_putK kvs p.1 p.2
    show (mergeK (putK kvs p.1 p.2) r).length ≤ _
    rw [List.length_cons]; omega
theorem carries_of {P : Program} {w : World} : ∀ {kvs : List (Key × V)} {ws : List (Value × Value)}, VV (kvs.map fun kv => (kV kv.1, kv.2)) ws → ∃ rs, Carries (mixKind P w) ws rs ∧ KV kvs rs
  | [], _, r => by rw [List.map_nil] at r; cases r; exact ⟨[], True.intro, .nil⟩
  | p :: kvs, _, r => by
    rw [List.map_cons] at r
    cases r with
    | @cons a b as bs h t =>
      obtain ⟨rs, c, q⟩ := carries_of (P := P) (w := w) t
      obtain ⟨b1, b2⟩ := b
      exact ⟨(p.1, b2) :: rs, ⟨kV_is h.1, rfl, c⟩, .cons ⟨rfl, h.2⟩ q⟩
def tDisp (trs : List (TE × TE)) : TE := fun σ H Q => ∀ p, H p = none → tPairs trs σ (upd H p (.dK [])) fun ps H2 => H2 p = some (.dK []) ∧ ∃ kvs : List (Key × V), ps = kvs.map (fun kv => (kV kv.1, kv.2)) ∧ kvs.length ≤ 15 ∧ Q (.ref p) (upd H2 p (.dK (mergeK [] kvs)))
theorem pe_disp {X : Cx} {pos : Pos} {keys : List (Option Expr)} {values : List Expr} {trs : List (TE × TE)} (h : PPs X pos keys values trs) (hall : keys.all (·.isSome) = true) (hl : keys.length = values.length) (h0 : keys ≠ [])
    (h15 : keys.length ≤ 15) : PE X (.Dict keys values pos) (tDisp trs) := by
  intro pins s σ H Q I q
  have hn := I.hok.fresh (Nat.le_refl s.heap.objs.size)
  have I1 := I.laid (a := s.heap.objs.size) (o := .dK []) (h' := s.heap.push { cls := .type "dict", data := .dict #[] }) (t' := s.toks) (fun _ _ q => Heap.get?_push_of_some _ q) (Nat.le_refl _) (dk_empty s.heap I.big)
  refine wpAny_Dict_walk (knd := mixKind X.prog X.w) hall hl h0 h15 (thn (h pins _ σ _ _ I1 (q _ hn)) fun ws s2 ⟨ps, H2, I2, rel, e, kvs, ep, lk, q2⟩ => ?_)
  subst ep
  obtain ⟨rs, c, rk⟩ := carries_of (P := X.prog) (w := X.w) rel
  obtain ⟨z, hd, vs0, r0, dd⟩ := dk_of I2.hok e
  cases r0
  refine ⟨rs, c, dd, fun h' dd' hs => ⟨.ref s.heap.objs.size, _, ?_, rfl, q2⟩⟩
  have hz : (mergeK [] kvs).length ≤ sizeLine := by
    have h1 := length_mergeK kvs []
    rw [List.length_nil] at h1
    rw [sizeLine_eq]; omega
  have he : ∃ q, h'.get? s.heap.objs.size = some q := let ⟨q, _, _, hq, _⟩ := dd'; ⟨q, hq⟩
  exact d_write I2 (by rw [e]; exact True.intro) hs he (dk_new hz hd (rk.merge .nil) dd')


section
variable {X : Cx} {pins : List (Addr × Obj)} {σ : St} {H : Hp} {s : Shared} {a : Addr} {y d : V} {u r : Value} {o : Option V} {A : Around} {E : Value → Shared → Prop}
end

section
variable {X : Cx} {o e f : Expr} {apos cpos : Pos} {td ty tx : TE}
end

section
variable {X : Cx} {pins : List (Addr × Obj)} {σ : St} {H : Hp} {s : Shared} {a : Addr} {kvs : List (Key × V)} {A : Around} {E : Value → Shared → Prop}
end


section
variable {X : Cx} {pins : List (Addr × Obj)} {σ : St} {H : Hp} {s : Shared} {a : Addr} {y : V} {u : Value} {A : Around} {E : Value → Shared → Prop}
end
end L2

namespace Att
open PySem PySem.W PySem.Calls PyProof.Rows

theorem ints_of_wellAll {P : Params} {h : Heap} : ∀ (ns : List Int) (vs : List Value), WellAll P h vs (ns.map WData.int) → IntsAre vs ns := by
  intro ns
  induction ns with
  | nil =>
    intro vs w
    rw [List.map_nil] at w
    cases w
    exact .nil
  | cons n ns ih =>
    intro vs w
    rw [List.map_cons] at w
    cases w with
    | cons a b =>
      cases a
      exact .cons _ _ (ih _ b)

theorem script_of {l : OpenLaw} {n : Nat} (hn : l.most = some n) {P : Params} {h : Heap} {args : List WData} {vals : List Value}
    (hpre : l.row.toRowW.claim.pre args = true) (hwl : WellAll P h vals args) :
    ∃ a vs ns, vals = [Value.ref a] ∧ args = [WData.list (ns.map WData.int)] ∧ h.get? a = some { cls := .type "list", data := .seq vs.toArray } ∧ IntsAre vs ns ∧ ns.length ≤ n := by
  have hsh : WShape.hasAll [] args [.list .int] = true := (pre_splitW hpre).1
  have hc : l.pre.holds [] { args := args } = true := (pre_splitW hpre).2
  obtain ⟨d, r, rfl, h1, h2⟩ := hasAllW_cons hsh
  obtain rfl := hasAllW_nil h2
  obtain ⟨xs, rfl, h3⟩ := hasW_list h1
  obtain ⟨ns, rfl⟩ := items_int h3
  have hlen : ns.length ≤ n := by
    unfold OpenLaw.pre at hc
    have h4 : (WTm.not (.lt (.lit (.int (n : Int))) (.len (.arg 0)))).holds [] { args := [.list (ns.map .int)] } = true := by
      have h4 := (holds_andW hc).1
      rw [hn] at h4
      exact h4
    have h5 := condW_of h4 (w_not (w_lt w_lit (w_len_list (w_arg rfl))))
    rw [List.length_map] at h5
    refine Nat.le_of_not_lt fun q => ?_
    have q' : (n : Int) < ((ns.length : Nat) : Int) := by omega
    first
      | (rw [decide_eq_true q'] at h5; exact absurd h5 (by decide))
      | (simp at h5; omega)
  cases hwl with
  | cons w1 w2 =>
    cases w2
    cases w1 with
    | list ho hall => exact ⟨_, _, ns, rfl, rfl, ho, ints_of_wellAll ns _ hall, hlen⟩

theorem post_true (l : OpenLaw) (args : List WData) : l.row.toRowW.claim.post args (.bool true) args = true :=
  postW_of (r := l.row.toRowW) (X := (true == true))
    (show WShape.has [] (.bool true) .bool = true by first | rfl | decide | simp [WShape.has, WShape.arms, WShape.armsAll])
    (show (WTm.eq .res (.lit (.bool true))).value [] { args := args, res := some (.bool true), after := args } = some (.bool (true == true)) from w_eq_bool (w_res rfl) w_lit) rfl

theorem attach_call {l : OpenLaw} {n : Nat} {q : Program} {loose : List Str} {XP : (Str → Option Value) → Heap → Prop} {YP : World → Heap → Prop} {d : DefRec}
    (hn : l.most = some n) (hdf : d.params.defaults = [])
    (call : ∀ (w : World) (s₀ s₁ : Shared) (mg mb : Str → Option Value) (fa : Addr) (o : Obj) (pm cd doc : Value) (a : Addr) (vs : List Value) (ns : List Int),
      Ground q loose [] XP w s₀ mg mb s₁.heap → YP w s₁.heap →
      s₁.heap.get? fa = some o → o.data = .func (docDef d.name d.params d.body d.scope pm cd doc) → s₁.heap.CodeRec cd d.name → mg d.name = some (.ref fa) →
      s₁.heap.get? a = some { cls := .type "list", data := .seq vs.toArray } → IntsAre vs ns → ns.length ≤ n → s₁.gens = #[] →
      codeAny (model l.prog w) callerA (.call (.ref fa) ⟨[.ref a], []⟩) (fun r s' => r = .ok (.ret (.bool true)) ∧ OldK s₁.heap s'.heap ∧ s'.os = s₁.os ∧ AllBare s'.gens) s₁) :
    WalkO q loose XP YP l.row.toRowW d [] (fun f vs => PySem.call f vs) := by
  intro w s₀ s₁ mg mb G Y fa o pm cd doc dV kV ho hd hcd hD hmg hg args vals as hpre hlay hrd hwl hlo
  obtain rfl : dV = .none := Dflts.none hD hdf
  obtain rfl : kV = .none := Dflts.noKw hD
  obtain ⟨a, vs, ns, rfl, rfl, hobj, hints, hlen⟩ := script_of hn hpre hwl
  refine enter_call (codeAny_mono (call w s₀ s₁ mg mb fa o pm cd doc a vs ns G Y ho (fd_plain hd) hcd hmg hobj hints hlen hg) fun r s' hq => ?_)
  obtain ⟨rfl, h2, h3, h4⟩ := hq
  exact ⟨.inl ⟨.bool true, .bool true, [], rfl, fun _ => rfl, .bool true, post_true l _, fun _ => ⟨List.Pairwise.nil, fun _ hm => (nomatch hm)⟩⟩, h2, h3, h4⟩

section
variable {prog : Program} {w : World} {A : Around} {E : Value → Shared → Prop} {s : Shared} {K : Frag}

end
end Att

namespace L2
open PySem PySem.Spec PyProof.Rows

theorem vals_ints : ∀ {vs : List Value} {ns : List Int}, IntsAre vs ns → Vals (ns.map V.int) vs
  | _, _, .nil => .nil
  | _, _, .cons n t h => .cons ⟨t, rfl⟩ (vals_ints h)

def Only (H : Hp) : Prop := ∀ b, H b = none ∨ ∃ o xs, H b = some (.frz o (.lst xs))

theorem law_call {P : Program} {w : World} {K : PySem.W.Frag} {mg mb : Str → Option Value} {CX : CXT} {k : Nat} {fa a : Addr} {fd : FuncData} {x : Str} {sp : Sp} {s₁ : Shared} {vs : List Value} {ns : List Int}
    (KX : K.In s₁.heap) (hns : s₁.heap.Ns mainGlobals mg) (hb : s₁.heap.Ns builtinsNs mb) (hbb : ∀ x : Str, x ≠ "__name__" → mb x = bootBuiltins x) (hlim : s₁.heap.NoLimit) (hg : s₁.gens = #[])
    (ha : s₁.heap.get? a = some { cls := .type "list", data := .seq vs.toArray }) (hi : IntsAre vs ns) (hl : ns.length ≤ sizeLine) (hr : Room k callerA)
    (F : ∀ base : Heap, K.In base → base.Ns mainGlobals mg → FnOk P w K mg base CX k fa fd [x] sp) (hbind : ∀ (s : Shared) (u : Value), BindsTo s fd ⟨[u], []⟩ [(x, u)])
    (hsp : ∀ H : Hp, Only H → SqL K H a (ns.map V.int) → sp [.ref a] H (fun v _ => v = .bl true) fun _ _ _ => False)
    (hCX : ∀ H e s', CX [] H s₁ (fun _ _ _ => False) e s' → False) :
    codeAny (model P w) callerA (.call (.ref fa) ⟨[.ref a], []⟩) (fun r s' => r = .ok (.ret (.bool true)) ∧ OldK s₁.heap s'.heap ∧ s'.os = s₁.os ∧ AllBare s'.gens) s₁ := by
  have rv := vals_ints hi
  have lenV := hi.length
  -- from an abstract heap in which nothing but the script may be tracked
  have core : ∀ H : Hp, Only H → SqL K H a (ns.map V.int) → HOk P w H s₁.heap → (∀ b, H b ≠ none → b = a) → (H a ≠ none → K.lookup a = none) →
      codeAny (model P w) callerA (.call (.ref fa) ⟨[.ref a], []⟩) (fun r s' => r = .ok (.ret (.bool true)) ∧ OldK s₁.heap s'.heap ∧ s'.os = s₁.os ∧ AllBare s'.gens) s₁ := by
    intro H hO hS hok hA hK
    have base_of : ∀ {b : Addr} {o : Obj}, s₁.heap.get? b = some o → H b = none → (hidT s₁.heap H).get? b = some o := fun e n => hidT_get e n
    have noA : ∀ {b : Addr} {o : Obj} {es : Array DictEntry} {ep : Nat}, s₁.heap.get? b = some o → o.data = .dict es ep → H b = none := fun {b o es ep} e d => by
      cases q : H b with
      | none => rfl
      | some u =>
        have e' : b = a := hA b (by rw [q]; simp)
        subst e'
        rw [ha] at e; cases e
        have d' : Data.seq vs.toArray _ = Data.dict es ep := d
        cases d'
    have nsK : ∀ {b : Addr} {m : Str → Option Value}, s₁.heap.Ns b m → (hidT s₁.heap H).Ns b m := fun {b m} ⟨o, es, ep, e, d, r⟩ => ⟨o, es, ep, base_of e (noA e d), d, r⟩
    have hKb : K.In (hidT s₁.heap H) := fun b o e => base_of (KX b o e) (by
      cases q : H b with
      | none => rfl
      | some u =>
        have e' : b = a := hA b (by rw [q]; simp)
        subst e'
        rw [hK (by rw [q]; simp)] at e; cases e)
    have hM : Mod K mg (hidT s₁.heap H) := ⟨hKb, nsK hns, ⟨mb, nsK hb, hbb⟩, let ⟨mc, h1, h2⟩ := hlim; ⟨mc, nsK h1, h2⟩⟩
    have e0 : Env0 P w K mg (hidT s₁.heap H) callerA [] s₁ H := ⟨rfl, hM, fun b o e => of_hidT e, Nat.le_of_eq (hidT_size _ _), trivial, fun b hb => absurd (show b ∈ ([] : List Addr) from hb) (by simp), hok, .of_eq hg⟩
    refine codeAny_mono ((F _ hKb (nsK hns)).run callerA [] s₁ H ⟨[.ref a], []⟩ [.ref a] [.ref a] _ _ hr e0 (hbind s₁ (.ref a)) (.cons rfl .nil) (hsp H hO hS)) fun r s' h => ?_
    cases r with
    | error e => exact (hCX H e s' h).elim
    | ok fl =>
      cases fl with
      | next => exact False.elim h
      | brk => exact False.elim h
      | cont => exact False.elim h
      | ret u =>
        obtain ⟨v, H', os, bare, un, hok', r', q⟩ := h
        have q' : v = .bl true := q
        subst q'
        obtain rfl : u = Value.bool true := r'
        refine ⟨rfl, OldK.of_keep fun b o e => ?_, os, bare⟩
        cases q : H b with
        | none => exact un.keep b o e q (by intro z; exact absurd (show b ∈ ([] : List Addr) from z) (by simp)) (by simp)
        | some u =>
          rcases hO b with z | ⟨ob, xs, z⟩
          · rw [q] at z; cases z
          · have z2 := un.frzs b ob _ z
            obtain ⟨e1, _⟩ := hok b _ z
            obtain ⟨e2, _⟩ := hok' b _ z2
            rw [e] at e1; cases e1
            exact e2
  cases hk : K.lookup a with
  | some o =>
    -- the script is one of the module's own objects
    have e := KX a o hk
    rw [ha] at e
    cases e
    refine core (fun _ => none) (fun _ => .inl rfl) (.inr ⟨_, vs.toArray, _, hk, rfl, rfl, rfl, by rw [List.size_toArray, lenV]; exact hl, by simpa using rv⟩) (fun b u z => by have z' : (none : Option HO) = some u := z; cases z') (fun b z => absurd rfl z) fun z => absurd rfl z
  | none =>
    refine core (fun b => if b = a then some (.frz { cls := .type "list", data := .seq vs.toArray } (.lst (ns.map V.int))) else none) (fun b => ?_) (.inl (.inr ⟨{ cls := .type "list", data := .seq vs.toArray }, if_pos rfl⟩)) (fun b u z => ?_) (fun b z => ?_) fun _ => hk
    · by_cases hb : b = a
      · exact .inr ⟨_, _, if_pos hb⟩
      · exact .inl (if_neg hb)
    · by_cases hb : b = a
      · have z' := (if_pos hb).symm.trans z
        cases z'
        subst hb
        exact ⟨ha, by rw [List.length_map]; exact hl, vs, _, rv, ha⟩
      · have z' := (if_neg hb).symm.trans z
        cases z'
    · by_cases hb : b = a
      · exact hb
      · exact absurd (if_neg hb) z
end L2

namespace L2
open PySem PySem.Spec PyProof.Rows

abbrev KOf {K : PySem.W.Frag} {h : Heap} (_ : K.In h) : PySem.W.Frag := K

theorem walk_of {l : PySem.W.OpenLaw} {n k : Nat} {q : Program} {loose : List Str} {XP : (Str → Option Value) → Heap → Prop} {YP : World → Heap → Prop} {d : DefRec} {K : Params → PySem.W.Frag} {CX : World → CXT} {sp : World → Sp} {x : Str}
    (hn : l.most = some n) (hn2 : n ≤ sizeLine) (hdf : d.params.defaults = []) (hr : Room k callerA)
    (hY : ∀ (w : World) (h : Heap), YP w h → (K w.params).In h)
    (F : ∀ (w : World) (mg : Str → Option Value) (fa : Addr) (h : Heap), (K w.params).In h → h.Ns mainGlobals mg → mg d.name = some (.ref fa) →
      ∃ fd : FuncData, (∀ (s : Shared) (u : Value), BindsTo s fd ⟨[u], []⟩ [(x, u)]) ∧
        ∀ base : Heap, (K w.params).In base → base.Ns mainGlobals mg → FnOk l.prog w (K w.params) mg base (CX w) k fa fd [x] (sp w))
    (hsp : ∀ (w : World) (H : Hp) (a : Addr) (ns : List Int), ns.length ≤ n → Only H → SqL (K w.params) H a (ns.map V.int) → sp w [.ref a] H (fun v _ => v = .bl true) fun _ _ _ => False)
    (hCX : ∀ (w : World) (H : Hp) (s : Shared) (e : Value) (s' : Shared), CX w [] H s (fun _ _ _ => False) e s' → False) :
    PySem.W.WalkO q loose XP YP l.row.toRowW d [] (fun f vs => PySem.call f vs) := by
  refine Att.attach_call hn hdf fun w s₀ s₁ mg mb fa o pm cd doc a vs ns G Y ho hd hcd hmg hobj hints hlen hg => ?_
  have KX := hY w _ Y
  obtain ⟨fd, hb, hF⟩ := F w mg fa _ KX G.T.g hmg
  exact law_call KX G.T.g G.T.b G.T.builtins G.T.nolimit hg hobj hints (Nat.le_trans hlen hn2) hr hF hb (fun H hO hS => hsp w H a ns hlen hO hS) fun H e s' => hCX w H s₁ e s'
end L2

/- THE LAST THEOREM (shape; LID, My.* are yours):
   My.Adr: a structure of the addresses that your layer names (classes, functions); My.Txt K t: a structure (Prop) of the equations over K;
   My.txt_mk : {K} {implicit addresses ..} (e1 : nsIn K mainGlobals "law" = some (some (.ref f))) (e2 : K.lookup f = some ⟨oc, od, .func (fnOf "law" "law" params body scope dV kV doc pm an cdv ct), sl⟩) (e3 : codeIn K cdv "law" = true) .. : ∃ t, My.Txt K t

set_option maxRecDepth 100000 in
set_option maxHeartbeats 0 in
theorem PySem.Challenge.cw_LID_holds : PySem.Challenge.rw_LID.Holds := by
  w_on; o_law; k_head; (case hw => w_witness2)
  k_fill
  refine L2.walk_of (l := PySem.Challenge.rw_LID) (n := 63) (k := 40) (x := "script") (CX := fun w => ..) (sp := fun _ => My.sp_law) rfl (by decide) rfl ⟨rfl, by decide, by decide⟩ (fun w h Y => PySem.W.kIn_of Y) ?F ?S ?C
  case F =>
    intro w mg fa h KX G hmg
    have T : ∃ t, My.Txt (L2.KOf KX) t := by
      dsimp only [L2.KOf]                          -- K must stand as «<heap const> w.params» for k_is
      refine' My.txt_mk ?e1 ?e2 ?e3 ..
      (case e1 => PySem.W.k_is)                    -- in the order: a name -> its address -> its object -> its parts
      (case e2 => PySem.W.k_is)
      ..
    obtain ⟨t, T⟩ := T
    have e0 := hmg.symm.trans (PySem.W.mg_of KX G T.law)
    cases e0                                       -- fa is the law's own address
    exact ⟨_, fun s u => .of_eq rfl, fun base kb nb => My.law_fn T kb nb⟩     -- if «.of_eq rfl» comes too early: refine' ⟨_, ?b, fun base kb nb => My.law_fn T kb nb⟩; exact fun s u => .of_eq rfl
  case S => exact fun w H a ns hl hO hS => ..
  case C => exact ..
(the tactic k_is has no namespace: write k_is) -/

namespace L2
open PySem PySem.Spec PyProof.Rows

def defArgs (s : Stmt) : Arguments := match s with
  | .FunctionDef _ a _ _ _ _ _ _ _ _ => a
  | _ => { posonlyargs := [], args := [], vararg := none, kwonlyargs := [], kw_defaults := [], kwarg := none, defaults := [] }
def defBody (s : Stmt) : List Stmt := match s with
  | .FunctionDef _ _ b _ _ _ _ _ _ _ => b
  | _ => []
def defScope (s : Stmt) : Scope := match s with
  | .FunctionDef _ _ _ _ _ _ sc _ _ _ => sc
  | _ => { kind := .function, names := [], isGenerator := false, isCoroutine := false }

abbrev CX0 : CXT := fun _ _ _ _ _ _ => False
abbrev E0 : XK := fun _ _ _ => False
theorem pass0 {X : Cx} : Passes CX0 X E0 := fun _ _ _ _ _ _ _ h => h.elim

structure Fun (K : PySem.W.Frag) (x qual : Str) (st : Stmt) (f : Addr) (fd : FuncData) : Prop where
  ex : ∃ (oc : Value) (od : Option Addr) (kV doc pm : Value) (an : Option Addr) (cdv ct : Value) (osl : Array (Option Value)),
    fd = PySem.W.fnOf x qual (defArgs st) (defBody st) (defScope st) .none kV doc pm an cdv ct ∧ K.lookup f = some ⟨oc, od, .func fd, osl⟩ ∧ PySem.W.codeIn K cdv qual = true
  kp : PySem.W.keepIn K (.ref f) = true
section
variable {P : Program} {w : World} {K : PySem.W.Frag} {mg : Str → Option Value} {base : Heap}
theorem Fun.ok {x qual : Str} {st : Stmt} {f : Addr} {fd : FuncData} {N ps : List Str} {k : Nat} {sp : Sp} (F : Fun K x qual st f fd) (S : FnScope N ps (defScope st)) (len : ∀ vs H Q E, sp vs H Q E → vs.length = ps.length)
    (hbody : ∀ (cdv : Value) (A : Around) (outer : List Env) (s : Shared) (H : Hp) (vs : List V) (Q : VK) (E : XK), Room k (A.deeper (envOfC qual (defScope st) s.heap.objs.size f cdv)) → sp vs H Q E →
      ∃ t, PSs (cxOf CX0 P w K mg base N qual (defScope st) f cdv A outer s H E).nox (defBody st) t ∧ t { nx := fun _ H' => Q .non H', rt := Q } (start N vs) H) : FnOk P w K mg base CX0 (k + 1) f fd ps sp := by
  obtain ⟨oc, od, kV, doc, pm, an, cdv, ct, osl, rfl, lk, hcd⟩ := F.ex
  refine fn_of lk hcd S len fun A outer s H vs Q E hr hsp => ?_
  obtain ⟨t, h, q⟩ := hbody cdv A outer s H vs Q E hr hsp
  exact ⟨t, h.nox, q⟩
theorem Fun.binds {x qual : Str} {st : Stmt} {f : Addr} {fd : FuncData} {ps : List Str} (F : Fun K x qual st f fd)
    (h : ∀ (kV doc pm : Value) (an : Option Addr) (cdv ct : Value) (us : List Value), us.length = ps.length → bindArgs (PySem.W.fnOf x qual (defArgs st) (defBody st) (defScope st) .none kV doc pm an cdv ct) ⟨us, []⟩ = pure (ps.zip us)) : Binds K fd ps [] := by
  obtain ⟨oc, od, kV, doc, pm, an, cdv, ct, osl, rfl, lk, hcd⟩ := F.ex
  exact .all (h kV doc pm an cdv ct)
theorem fun_mk {x qual : Str} {st : Stmt} {f : Addr} {oc : Value} {od an : Option Addr} {osl : Array (Option Value)} {kV doc pm cdv ct : Value} (l : K.lookup f = some ⟨oc, od, .func (PySem.W.fnOf x qual (defArgs st) (defBody st) (defScope st) .none kV doc pm an cdv ct), osl⟩)
    (c : PySem.W.codeIn K cdv qual = true) (k : PySem.W.keepIn K (.ref f) = true) : Fun K x qual st f (PySem.W.fnOf x qual (defArgs st) (defBody st) (defScope st) .none kV doc pm an cdv ct) := ⟨⟨oc, od, kV, doc, pm, an, cdv, ct, osl, rfl, l, c⟩, k⟩
end
theorem hu_of {A : Around} {k : Nat} (hr : Room k A) : A.units + 1 < cLine := Nat.lt_of_le_of_lt (Nat.add_le_add_left (by decide : 1 ≤ 64) _) hr.units
theorem small1000 {n : Nat} (h : n ≤ 1000) : n < sizeLine := Nat.lt_of_le_of_lt h (by decide)

section
variable {X : Cx}
theorem pv (i : Nat) {x : Str} {pos : Pos} (hN : X.N[i]? = some x := by rfl) (hv : Vis X.env.scope x := by first | exact Or.inl rfl | exact Or.inr (Or.inl rfl) | exact Or.inr (Or.inr rfl)) (hd : (x == ("__debug__" : Str)) = false := by decide)
    (hcd : (x == ("__classdict__" : Str)) = false := by decide) : PE X (.Name x pos) (tVar i) := pe_var hN hv hd hcd
theorem call_lenD : CallR X (.builtin "len") (fun xs H Q => ∃ a kvs, xs = [V.ref a] ∧ H a = some (.dK kvs) ∧ Q (.int kvs.length) H) := by
  intro pins s σ H xs us Q I r h
  obtain ⟨a, kvs, rfl, ha, q⟩ := h
  obtain ⟨u, rfl, ru⟩ := vals1 r
  cases ru
  exact d_len I (.inl ha) fun t s' I' => ⟨.int kvs.length, H, I', ⟨t, rfl⟩, q⟩
end

theorem iteF {A B : Prop} (h : B) : if false = true then A else B := by
  rw [if_neg Bool.false_ne_true]
  exact h
theorem iteT {A B : Prop} (h : A) : if true = true then A else B := by
  rw [if_pos rfl]
  exact h
theorem ite2 {c A B : Prop} [Decidable c] (h1 : c → A) (h2 : ¬ c → B) : if c then A else B := by
  by_cases h : c
  · rw [if_pos h]
    exact h1 h
  · rw [if_neg h]
    exact h2 h
theorem iteNS {c A B : Prop} [Decidable c] (hc : c) (h : B) : if (!decide c) = true then A else B := by
  rw [decide_eq_true hc]
  exact iteF h

def Same (H H' : Hp) : Prop := ∀ b o, H b = some o → H' b = some o
theorem Same.refl (H : Hp) : Same H H := fun _ _ h => h
theorem Same.trans {H H1 H2 : Hp} (a : Same H H1) (b : Same H1 H2) : Same H H2 := fun c o h => b c o (a c o h)
theorem Same.free {H H' : Hp} (e : Same H H') {l : Addr} (h : H' l = Option.none) : H l = Option.none := by
  cases q : H l with
  | none => rfl
  | some o =>
    rw [e l o q] at h
    cases h
theorem Same.seq {K : PySem.W.Frag} {H H' : Hp} {a : Addr} {xs : List V} (e : Same H H') (h : SqL K H a xs) : SqL K H' a xs := by
  rcases h with (h | ⟨o, h⟩) | h
  · exact .inl (.inl (e _ _ h))
  · exact .inl (.inr ⟨o, e _ _ h⟩)
  · exact .inr h

section
variable {κ : Type} [DecidableEq κ]
end
end L2

set_option maxHeartbeats 4000000

namespace Sh
section
variable {α β : Type} [DecidableEq α] [DecidableEq β]
def dd (l : List α) : List α := l.foldl (fun s x => if x ∈ s then s else s ++ [x]) []
def nm (l : List α) : List Nat := l.map fun x => (dd l).idxOf x
theorem dd_nil : dd ([] : List α) = [] := rfl
theorem dd_snoc (l : List α) (x : α) : dd (l ++ [x]) = if x ∈ dd l then dd l else dd l ++ [x] := by
  unfold dd
  rw [List.foldl_append]
  rfl
theorem snoc_ind {γ : Type} {P : List γ → Prop} (h0 : P []) (h1 : ∀ l x, P l → P (l ++ [x])) (l : List γ) : P l := by
  have : ∀ r : List γ, P r.reverse := by
    intro r
    induction r with
    | nil => exact h0
    | cons a r ih => rw [List.reverse_cons]; exact h1 _ _ ih
  have h := this l.reverse
  rw [List.reverse_reverse] at h
  exact h
theorem mem_dd {l : List α} {x : α} : x ∈ dd l ↔ x ∈ l := by
  induction l using snoc_ind with
  | h0 => simp [dd_nil]
  | h1 l y ih =>
    rw [dd_snoc]
    split
    · rename_i h
      rw [ih, List.mem_append, List.mem_singleton]
      constructor
      · exact Or.inl
      · rintro (h' | rfl)
        · exact h'
        · exact ih.mp h
    · rw [List.mem_append, List.mem_append, ih]
theorem nodup_dd (l : List α) : (dd l).Nodup := by
  induction l using snoc_ind with
  | h0 => simp [dd_nil]
  | h1 l y ih =>
    rw [dd_snoc]
    split
    · exact ih
    · rename_i h
      rw [List.nodup_append]
      refine ⟨ih, by simp, ?_⟩
      intro a ha b hb
      rw [List.mem_singleton] at hb
      subst hb
      intro e
      subst e
      exact h ha
theorem idx_snoc_mem {l : List α} {x y : α} (h : y ∈ l) : (l ++ [x]).idxOf y = l.idxOf y := by
  rw [List.idxOf_append, if_pos h]
theorem idx_snoc_new {l : List α} {x : α} (h : ¬ x ∈ l) : (l ++ [x]).idxOf x = l.length := by
  rw [List.idxOf_append, if_neg h]
  simp
theorem nm_snoc (l : List α) (x : α) : nm (l ++ [x]) = nm l ++ [if x ∈ dd l then (dd l).idxOf x else (dd l).length] := by
  unfold nm
  rw [List.map_append, dd_snoc]
  by_cases h : x ∈ dd l
  · simp only [if_pos h]
    rfl
  · simp only [if_neg h]
    congr 1
    · apply List.map_congr_left
      intro y hy
      exact idx_snoc_mem (mem_dd.mpr hy)
    · show [(dd l ++ [x]).idxOf x] = _
      rw [idx_snoc_new h]
theorem length_nm (l : List α) : (nm l).length = l.length := by simp [nm]
theorem nm_get {l : List α} {i : Nat} (h : i < l.length) : (nm l)[i]? = some ((dd l).idxOf l[i]) := by
  unfold nm
  rw [List.getElem?_map, List.getElem?_eq_getElem h]
  rfl
theorem idx_inj {l : List α} {x y : α} (hx : x ∈ l) (e : l.idxOf x = l.idxOf y) (hy : y ∈ l) : x = y := by
  have h1 := List.idxOf_lt_length_of_mem hx
  have h2 := List.idxOf_lt_length_of_mem hy
  have e1 : l[l.idxOf x]'h1 = x := List.getElem_idxOf h1
  have e2 : l[l.idxOf y]'h2 = y := List.getElem_idxOf h2
  rw [← e1, ← e2]
  simp only [e]
theorem nm_alike {l : List α} {i j : Nat} (hi : i < l.length) (hj : j < l.length) : (nm l)[i]? = (nm l)[j]? ↔ l[i] = l[j] := by
  rw [nm_get hi, nm_get hj, Option.some.injEq]
  constructor
  · intro e
    exact idx_inj (mem_dd.mpr (List.getElem_mem hi)) e (mem_dd.mpr (List.getElem_mem hj))
  · intro e
    rw [e]
def Alike (l : List α) (m : List β) : Prop := l.length = m.length ∧ ∀ i j : Nat, i < l.length → j < l.length → (l[i]? = l[j]? ↔ m[i]? = m[j]?)
theorem Alike.init {l : List α} {m : List β} {x : α} {y : β} (h : Alike (l ++ [x]) (m ++ [y])) : Alike l m := by
  obtain ⟨hl, h⟩ := h
  have hl' : l.length = m.length := by simpa using hl
  refine ⟨hl', fun i j hi hj => ?_⟩
  have q := h i j (by simp; omega) (by simp; omega)
  rwa [List.getElem?_append_left hi, List.getElem?_append_left hj, List.getElem?_append_left (by omega), List.getElem?_append_left (by omega)] at q
theorem mem_ix {γ : Type} {l : List γ} {x : γ} (h : x ∈ l) : ∃ i, i < l.length ∧ l[i]? = some x := by
  obtain ⟨i, hi, e⟩ := List.getElem_of_mem h
  exact ⟨i, hi, by rw [List.getElem?_eq_getElem hi, e]⟩
theorem Alike.symm {l : List α} {m : List β} (h : Alike l m) : Alike m l :=
  ⟨h.1.symm, fun i j hi hj => (h.2 i j (by rw [h.1]; exact hi) (by rw [h.1]; exact hj)).symm⟩
theorem Alike.last {l : List α} {m : List β} {x : α} {y : β} (h : Alike (l ++ [x]) (m ++ [y])) {i : Nat} (hi : i < l.length) (e : l[i]? = some x) : m[i]? = some y := by
  obtain ⟨hl, h⟩ := h
  have hl' : l.length = m.length := by simpa using hl
  have q := h i l.length (by simp; omega) (by simp)
  rw [List.getElem?_append_left hi, List.getElem?_append_right (Nat.le_refl _), List.getElem?_append_left (by omega), hl', List.getElem?_append_right (Nat.le_refl _)] at q
  simp only [Nat.sub_self, List.getElem?_cons_zero] at q
  exact q.mp e
theorem alike_nm_dd {l : List α} : ∀ {m : List β}, Alike l m → nm l = nm m ∧ (dd l).length = (dd m).length := by
  induction l using snoc_ind with
  | h0 =>
    intro m h
    have : m = [] := List.eq_nil_of_length_eq_zero h.1.symm
    subst this
    exact ⟨rfl, rfl⟩
  | h1 l x ih =>
    intro m h
    have hm : m ≠ [] := by
      intro e
      have := h.1
      simp [e] at this
    obtain ⟨m', y, rfl⟩ : ∃ m' y, m = m' ++ [y] := ⟨m.dropLast, m.getLast hm, (List.dropLast_concat_getLast hm).symm⟩
    obtain ⟨h1, h2⟩ := ih h.init
    have hl := h.init.1
    rw [nm_snoc, nm_snoc, dd_snoc, dd_snoc, h1]
    by_cases hx : x ∈ dd l
    · obtain ⟨i, hi, e⟩ := mem_ix (mem_dd.mp hx)
      have e2 := h.last hi e
      have hy : y ∈ dd m' := mem_dd.mpr (List.mem_of_getElem? e2)
      rw [if_pos hx, if_pos hy, if_pos hx, if_pos hy]
      refine ⟨?_, h2⟩
      have q : (nm l)[i]? = (nm m')[i]? := by rw [h1]
      rw [nm_get hi, nm_get (by omega)] at q
      have a1 : l[i] = x := by rw [List.getElem?_eq_getElem hi] at e; exact Option.some.inj e
      have a2 : m'[i]'(by omega) = y := by rw [List.getElem?_eq_getElem (by omega)] at e2; exact Option.some.inj e2
      rw [a1, a2] at q
      rw [Option.some.inj q]
    · have hy : ¬ y ∈ dd m' := fun hy => by
        obtain ⟨i, hi, e⟩ := mem_ix (mem_dd.mp hy)
        have e2 := h.symm.last hi e
        exact hx (mem_dd.mpr (List.mem_of_getElem? e2))
      rw [if_neg hx, if_neg hy, if_neg hx, if_neg hy, h2]
      refine ⟨rfl, ?_⟩
      simp [h2]
theorem nm_eq_iff {l : List α} {m : List β} : nm l = nm m ↔ Alike l m := by
  constructor
  · intro e
    have hl : l.length = m.length := by rw [← length_nm l, e, length_nm]
    refine ⟨hl, fun i j hi hj => ?_⟩
    rw [List.getElem?_eq_getElem hi, List.getElem?_eq_getElem hj, List.getElem?_eq_getElem (by omega : i < m.length), List.getElem?_eq_getElem (by omega : j < m.length)]
    rw [Option.some.injEq, Option.some.injEq, ← nm_alike hi hj, ← nm_alike (by omega) (by omega), e]
  · intro h
    exact (alike_nm_dd h).1
end
def fr (l : List Int) : Int := l.foldl (fun f m => max f (m + 1)) 0
theorem fr_snoc (l : List Int) (x : Int) : fr (l ++ [x]) = max (fr l) (x + 1) := by
  unfold fr
  rw [List.foldl_append]
  rfl
theorem fr_nonneg (l : List Int) : 0 ≤ fr l := by
  induction l using snoc_ind with
  | h0 => exact Int.le_refl 0
  | h1 l x ih => rw [fr_snoc]; omega
def Can (l : List Int) : Prop := ∀ i x, l[i]? = some x → 0 ≤ x ∧ x ≤ fr (l.take i)
theorem can_nil : Can [] := fun i x h => by simp at h
theorem can_snoc {l : List Int} {x : Int} : Can (l ++ [x]) ↔ Can l ∧ 0 ≤ x ∧ x ≤ fr l := by
  constructor
  · intro h
    refine ⟨fun i y e => ?_, ?_⟩
    · have hi : i < l.length := (List.getElem?_eq_some_iff.mp e).1
      have q := h i y (by rw [List.getElem?_append_left hi]; exact e)
      rwa [List.take_append_of_le_length (by omega)] at q
    · have q := h l.length x (by simp)
      rwa [List.take_append_of_le_length (Nat.le_refl _), List.take_length] at q
  · rintro ⟨h, h1, h2⟩ i y e
    by_cases hi : i < l.length
    · rw [List.getElem?_append_left hi] at e
      rw [List.take_append_of_le_length (by omega)]
      exact h i y e
    · have hl : i < (l ++ [x]).length := (List.getElem?_eq_some_iff.mp e).1
      have : i = l.length := by simp at hl; omega
      subst this
      have : y = x := by simpa using e.symm
      subst this
      rw [List.take_append_of_le_length (Nat.le_refl _), List.take_length]
      exact ⟨h1, h2⟩
def upto (n : Nat) : List Int := (List.range n).map Int.ofNat
theorem mem_upto {n : Nat} {x : Int} : x ∈ upto n ↔ 0 ≤ x ∧ x < n := by
  unfold upto
  rw [List.mem_map]
  constructor
  · rintro ⟨k, hk, rfl⟩
    have := List.mem_range.mp hk
    exact ⟨Int.natCast_nonneg _, by show ((k : Nat) : Int) < n; omega⟩
  · rintro ⟨h0, h1⟩
    exact ⟨x.toNat, List.mem_range.mpr (by omega), by show ((x.toNat : Nat) : Int) = x; omega⟩
theorem upto_succ (n : Nat) : upto (n + 1) = upto n ++ [(n : Int)] := by
  unfold upto
  rw [List.range_succ, List.map_append]
  rfl
theorem length_upto (n : Nat) : (upto n).length = n := by simp [upto]
theorem idx_upto {n : Nat} {x : Int} (h0 : 0 ≤ x) (h1 : x < n) : (((upto n).idxOf x : Nat) : Int) = x := by
  induction n with
  | zero => omega
  | succ n ih =>
    rw [upto_succ]
    by_cases h : x < n
    · rw [List.idxOf_append, if_pos (mem_upto.mpr ⟨h0, h⟩)]
      exact ih h
    · have e : x = n := by omega
      subst e
      rw [List.idxOf_append, if_neg (fun q => by have := (mem_upto.mp q).2; omega), length_upto]
      simp
theorem can_dd {l : List Int} (h : Can l) : dd l = upto (fr l).toNat := by
  induction l using snoc_ind with
  | h0 => rfl
  | h1 l x ih =>
    obtain ⟨h, h1, h2⟩ := can_snoc.mp h
    have q := ih h
    have z := fr_nonneg l
    rw [dd_snoc, fr_snoc, q]
    by_cases hx : x < fr l
    · rw [if_pos (mem_upto.mpr ⟨h1, by omega⟩)]
      congr 1
      omega
    · rw [if_neg (fun e => by have := (mem_upto.mp e).2; omega)]
      have e : x = fr l := by omega
      have e2 : (max (fr l) (x + 1)).toNat = (fr l).toNat + 1 := by omega
      rw [e2, upto_succ]
      congr 2
      omega
theorem can_nm {l : List Int} (h : Can l) : (nm l).map Int.ofNat = l := by
  induction l using snoc_ind with
  | h0 => rfl
  | h1 l x ih =>
    obtain ⟨h, h1, h2⟩ := can_snoc.mp h
    rw [nm_snoc, List.map_append, ih h, can_dd h]
    have z := fr_nonneg l
    congr 1
    by_cases hx : x < fr l
    · rw [if_pos (mem_upto.mpr ⟨h1, by omega⟩)]
      show [(((upto (fr l).toNat).idxOf x : Nat) : Int)] = _
      rw [idx_upto h1 (by omega)]
    · rw [if_neg (fun e => by have := (mem_upto.mp e).2; omega), length_upto]
      show [(((fr l).toNat : Nat) : Int)] = _
      congr 1
      omega
def mk {α : Type} [DecidableEq α] (l : List α) : List Int := (nm l).map Int.ofNat
theorem fr_mk {α : Type} [DecidableEq α] (l : List α) : fr (mk l) = (dd l).length ∧ Can (mk l) := by
  induction l using snoc_ind with
  | h0 => exact ⟨rfl, can_nil⟩
  | h1 l x ih =>
    obtain ⟨h1, h2⟩ := ih
    unfold mk at h1 h2 ⊢
    rw [nm_snoc, List.map_append, dd_snoc]
    have e : List.map Int.ofNat [if x ∈ dd l then (dd l).idxOf x else (dd l).length] = [((if x ∈ dd l then (dd l).idxOf x else (dd l).length : Nat) : Int)] := rfl
    rw [e, fr_snoc, can_snoc, h1]
    by_cases hx : x ∈ dd l
    · have q := List.idxOf_lt_length_of_mem hx
      simp only [if_pos hx]
      refine ⟨by omega, h2, by omega, by omega⟩
    · simp only [if_neg hx, List.length_append, List.length_singleton]
      refine ⟨by omega, h2, by omega, by omega⟩
theorem can_mk {α : Type} [DecidableEq α] (l : List α) : Can (mk l) := (fr_mk l).2
theorem length_mk {α : Type} [DecidableEq α] (l : List α) : (mk l).length = l.length := by simp [mk, length_nm]
theorem mk_can {l : List Int} (h : Can l) : mk l = l := can_nm h
theorem ofNat_map_inj : ∀ {a b : List Nat}, a.map Int.ofNat = b.map Int.ofNat → a = b
  | [], [], _ => rfl
  | [], _ :: _, e => by simp at e
  | _ :: _, [], e => by simp at e
  | x :: a, y :: b, e => by
    rw [List.map_cons, List.map_cons, List.cons.injEq] at e
    rw [ofNat_map_inj e.2]
    congr 1
    exact Int.ofNat.inj e.1
theorem mk_eq_iff {α β : Type} [DecidableEq α] [DecidableEq β] {l : List α} {m : List β} : mk l = mk m ↔ Alike l m := by
  rw [← nm_eq_iff]
  exact ⟨ofNat_map_inj, fun e => by unfold mk; rw [e]⟩
def Fin (a b : List Int) : Prop := ∀ i j : Nat, i < a.length → j < a.length → a[i]? = a[j]? → b[i]? = b[j]?
end Sh

namespace Sh
def goodB : Int → List Int → Bool
  | _, [] => true
  | f, m :: r => if m < 0 ∨ f < m then false else goodB (if m = f then f + 1 else f) r
theorem goodB_cons (f m : Int) (r : List Int) : goodB f (m :: r) = if m < 0 ∨ f < m then false else goodB (if m = f then f + 1 else f) r := rfl
def isSh (ns : List Int) : Bool := decide (1 ≤ ns.length ∧ ns.length ≤ 12) && goodB 0 ns
theorem goodB_iff (f : Int) (l p : List Int) (hp : Can p) (hf : f = fr p) : goodB f l = true ↔ Can (p ++ l) := by
  induction l generalizing f p with
  | nil => simp [goodB, hp]
  | cons m r ih =>
    unfold goodB
    by_cases c : m < 0 ∨ f < m
    · rw [if_pos c]
      simp only [Bool.false_eq_true, false_iff]
      intro h
      have q := h p.length m (by simp)
      rw [List.take_append_of_le_length (Nat.le_refl _), List.take_length] at q
      omega
    · rw [if_neg c]
      have hp' : Can (p ++ [m]) := can_snoc.mpr ⟨hp, by omega, by omega⟩
      have hf' : (if m = f then f + 1 else f) = fr (p ++ [m]) := by
        rw [fr_snoc]
        split <;> omega
      rw [ih _ (p ++ [m]) hp' hf', List.append_assoc]
      rfl
theorem goodB_can (l : List Int) : goodB 0 l = true ↔ Can l := goodB_iff 0 l [] can_nil rfl
theorem isSh_of {ns : List Int} (h : Can ns) (h1 : 1 ≤ ns.length) (h2 : ns.length ≤ 12) : isSh ns = true := by
  unfold isSh
  rw [(goodB_can ns).mpr h, decide_eq_true ⟨h1, h2⟩]
  rfl
theorem isSh_can {ns : List Int} (h : isSh ns = true) : Can ns ∧ 1 ≤ ns.length ∧ ns.length ≤ 12 := by
  unfold isSh at h
  rw [Bool.and_eq_true] at h
  exact ⟨(goodB_can ns).mp h.2, of_decide_eq_true h.1⟩
def cell (ns : List Int) (k : Int) : Int := ns.getD k.toNat 0
theorem length_dd_le {α : Type} [DecidableEq α] (l : List α) : (dd l).length ≤ l.length := by
  induction l using snoc_ind with
  | h0 => exact Nat.le_refl _
  | h1 l x ih =>
    rw [dd_snoc]
    split
    · rw [List.length_append]; omega
    · rw [List.length_append, List.length_append]; simpa using ih
end Sh

namespace Sh
def Rel (c : List Int) (i j : Nat) : Prop := c[i]? = c[j]?
theorem Rel.symm {c : List Int} {i j : Nat} (h : Rel c i j) : Rel c j i := Eq.symm h
theorem Rel.trans {c : List Int} {i j k : Nat} (h : Rel c i j) (h' : Rel c j k) : Rel c i k := Eq.trans h h'
inductive Conn (a b : List Int) : Nat → Nat → Prop
  | refl (i : Nat) : Conn a b i i
  | one {i j : Nat} : i < a.length → j < a.length → Rel a i j → Conn a b i j
  | two {i j : Nat} : i < a.length → j < a.length → Rel b i j → Conn a b i j
  | trans {i j k : Nat} : Conn a b i j → Conn a b j k → Conn a b i k
theorem Conn.symm {a b : List Int} {i j : Nat} (h : Conn a b i j) : Conn a b j i := by
  induction h with
  | refl i => exact .refl i
  | one h1 h2 h => exact .one h2 h1 h.symm
  | two h1 h2 h => exact .two h2 h1 h.symm
  | trans _ _ ih1 ih2 => exact .trans ih2 ih1
theorem conn_le {a b c : List Int} {i j : Nat} (h1 : ∀ i j, i < a.length → j < a.length → Rel a i j → Rel c i j) (h2 : ∀ i j, i < a.length → j < a.length → Rel b i j → Rel c i j) (h : Conn a b i j) : Rel c i j := by
  induction h with
  | refl i => rfl
  | one x y z => exact h1 _ _ x y z
  | two x y z => exact h2 _ _ x y z
  | trans _ _ ih1 ih2 => exact ih1.trans ih2
theorem mk_alike {α : Type} [DecidableEq α] (l : List α) : Alike l (mk l) := by
  rw [← mk_eq_iff]
  exact (mk_can (can_mk l)).symm
theorem rel_mk {α : Type} [DecidableEq α] (l : List α) {i j : Nat} (hi : i < l.length) (hj : j < l.length) : Rel (mk l) i j ↔ l[i]? = l[j]? := ((mk_alike l).2 i j hi hj).symm
def sub (p q m : Int) : Int := if m = q then p else m
def stp (c : List Int) (p q : Int) : List Int := mk (c.map (sub p q))
theorem length_stp (c : List Int) (p q : Int) : (stp c p q).length = c.length := by unfold stp; rw [length_mk, List.length_map]
theorem can_stp (c : List Int) (p q : Int) : Can (stp c p q) := can_mk _
theorem rel_stp {c : List Int} {p q : Int} {i j : Nat} (hi : i < c.length) (hj : j < c.length) : Rel (stp c p q) i j ↔ sub p q c[i] = sub p q c[j] := by
  unfold stp
  rw [rel_mk _ (by rw [List.length_map]; exact hi) (by rw [List.length_map]; exact hj), List.getElem?_map, List.getElem?_map, List.getElem?_eq_getElem hi, List.getElem?_eq_getElem hj]
  simp
theorem rel_get {c : List Int} {i j : Nat} (hi : i < c.length) (hj : j < c.length) : Rel c i j ↔ c[i] = c[j] := by
  unfold Rel
  rw [List.getElem?_eq_getElem hi, List.getElem?_eq_getElem hj, Option.some.injEq]
theorem stp_mono {c : List Int} {p q : Int} {i j : Nat} (hi : i < c.length) (hj : j < c.length) (h : Rel c i j) : Rel (stp c p q) i j := by
  rw [rel_stp hi hj, (rel_get hi hj).mp h]
def Stp (c d : List Int) : Prop := ∃ p q, p ∈ c ∧ q ∈ c ∧ p ≠ q ∧ d = stp c p q
structure Clm (a b : List Int) (cs : List (List Int)) : Prop where
  hd : cs[0]? = some a
  st : ∀ k c d, cs[k]? = some c → cs[k + 1]? = some d → Stp c d
  all : ∀ c, c ∈ cs → Can c ∧ c.length = a.length ∧ (∀ i j, i < a.length → j < a.length → Rel a i j → Rel c i j) ∧ (∀ i j, i < a.length → j < a.length → Rel c i j → Conn a b i j)
theorem Clm.start {a b : List Int} (h : Can a) : Clm a b [a] :=
  ⟨rfl, fun k c d _ h => by simp at h, fun c hc => by
    rw [List.mem_singleton] at hc
    subst hc
    exact ⟨h, rfl, fun _ _ _ _ q => q, fun i j hi hj q => .one hi hj q⟩⟩
theorem Clm.step {a b z : List Int} {cs : List (List Int)} {s t : Nat} (h : Clm a b cs) (hz : cs[cs.length - 1]? = some z) (hs : s < a.length) (ht : t < a.length) (hb : Rel b t s) {x y : Int} (hx : z[s]? = some x) (hy : z[t]? = some y) (hne : y ≠ x) :
    Clm a b (cs ++ [stp z x y]) := by
  have hm : z ∈ cs := List.mem_of_getElem? hz
  obtain ⟨z1, z2, z3, z4⟩ := h.all z hm
  have hlen : 0 < cs.length := by
    cases cs with
    | nil => simp at hm
    | cons _ _ => simp
  refine ⟨by rw [List.getElem?_append_left hlen]; exact h.hd, fun k c d h1 h2 => ?_, fun c hc => ?_⟩
  · by_cases hk : k + 1 < cs.length
    · rw [List.getElem?_append_left (by omega)] at h1
      rw [List.getElem?_append_left hk] at h2
      exact h.st k c d h1 h2
    · have hk2 : k + 1 < (cs ++ [stp z x y]).length := (List.getElem?_eq_some_iff.mp h2).1
      have ek : k + 1 = cs.length := by rw [List.length_append, List.length_singleton] at hk2; omega
      rw [List.getElem?_append_left (by omega)] at h1
      rw [ek, List.getElem?_append_right (Nat.le_refl _), Nat.sub_self] at h2
      have ed : stp z x y = d := by simpa using h2
      have ec : z = c := by
        have : k = cs.length - 1 := by omega
        rw [this, hz] at h1
        exact Option.some.inj h1
      subst ed ec
      exact ⟨x, y, List.mem_of_getElem? hx, List.mem_of_getElem? hy, fun e => hne e.symm, rfl⟩
  · rcases List.mem_append.mp hc with hc | hc
    · exact h.all c hc
    · rw [List.mem_singleton] at hc
      subst hc
      refine ⟨can_stp _ _ _, by rw [length_stp, z2], fun i j hi hj q => stp_mono (by omega) (by omega) (z3 i j hi hj q), fun i j hi hj q => ?_⟩
      rw [rel_stp (by omega) (by omega)] at q
      have rs : ∀ i, i < a.length → z[i]? = some x → Conn a b i s := fun i hi e => z4 i s hi hs (by unfold Rel; rw [e, hx])
      have rt : ∀ i, i < a.length → z[i]? = some y → Conn a b i s := fun i hi e => .trans (z4 i t hi ht (by unfold Rel; rw [e, hy])) (.two ht hs hb)
      have gi := List.getElem?_eq_getElem (show i < z.length by omega)
      have gj := List.getElem?_eq_getElem (show j < z.length by omega)
      unfold sub at q
      split at q
      · rename_i c1
        split at q
        · rename_i c2
          exact .trans (rt i hi (by rw [gi, c1])) (rt j hj (by rw [gj, c2])).symm
        · exact .trans (rt i hi (by rw [gi, c1])) (rs j hj (by rw [gj, q])).symm
      · split at q
        · rename_i c2
          exact .trans (rs i hi (by rw [gi, q])) (rt j hj (by rw [gj, c2])).symm
        · exact z4 i j hi hj (by unfold Rel; rw [gi, gj, q])
theorem stp_joins {z : List Int} {s t : Nat} {x y : Int} (hx : z[s]? = some x) (hy : z[t]? = some y) : Rel (stp z x y) t s := by
  obtain ⟨hs, es⟩ := List.getElem?_eq_some_iff.mp hx
  obtain ⟨ht, et⟩ := List.getElem?_eq_some_iff.mp hy
  rw [rel_stp ht hs, es, et]
  unfold sub
  rw [if_pos rfl]
  split <;> rfl
structure Join (a b r : List Int) : Prop where
  can : Can r
  len : r.length = a.length
  rel : ∀ i j, i < a.length → j < a.length → (Rel r i j ↔ Conn a b i j)
theorem Clm.join {a b z : List Int} {cs : List (List Int)} (h : Clm a b cs) (hz : cs[cs.length - 1]? = some z) (hb : ∀ i j, i < a.length → j < a.length → Rel b i j → Rel z i j) : Join a b z := by
  obtain ⟨z1, z2, z3, z4⟩ := h.all z (List.mem_of_getElem? hz)
  exact ⟨z1, z2, fun i j hi hj => ⟨z4 i j hi hj, fun q => conn_le z3 hb q⟩⟩
def sh1 (ms : List Int) (i : Nat) (k : Int) : List Int := ((List.range i).filter fun t => decide (ms[t]? = some k)).map Int.ofNat
def shs (ms : List Int) : List (List Int) := (List.range (fr ms).toNat).map fun k => sh1 ms ms.length ((k : Nat) : Int)
theorem mem_sh1 {ms : List Int} {i : Nat} {k x : Int} : x ∈ sh1 ms i k ↔ ∃ t : Nat, x = (t : Int) ∧ t < i ∧ ms[t]? = some k := by
  unfold sh1
  rw [List.mem_map]
  constructor
  · rintro ⟨t, ht, rfl⟩
    rw [List.mem_filter, List.mem_range] at ht
    exact ⟨t, rfl, ht.1, of_decide_eq_true ht.2⟩
  · rintro ⟨t, rfl, ht, e⟩
    exact ⟨t, by rw [List.mem_filter, List.mem_range]; exact ⟨ht, decide_eq_true e⟩, rfl⟩
theorem sh1_succ (ms : List Int) (i : Nat) (k : Int) : sh1 ms (i + 1) k = sh1 ms i k ++ (if ms[i]? = some k then [(i : Int)] else []) := by
  unfold sh1
  rw [List.range_succ, List.filter_append, List.map_append]
  congr 1
  by_cases h : ms[i]? = some k
  · simp [h]
  · simp [h]
theorem shs_len (ms : List Int) : (shs ms).length = (fr ms).toNat := by simp [shs]
theorem shs_get {ms : List Int} {k : Nat} (h : k < (fr ms).toNat) : (shs ms)[k]? = some (sh1 ms ms.length (k : Int)) := by
  unfold shs
  rw [List.getElem?_map, List.getElem?_range h]
  rfl
theorem lt_fr {l : List Int} : ∀ x ∈ l, x < fr l := by
  induction l using snoc_ind with
  | h0 => intro x hx; simp at hx
  | h1 l y ih =>
    intro x hx
    rw [fr_snoc]
    rcases List.mem_append.mp hx with h | h
    · have := ih x h; omega
    · rw [List.mem_singleton] at h; omega
theorem fr_le {l : List Int} {m : Int} (h0 : 0 ≤ m) (h : ∀ x ∈ l, x < m) : fr l ≤ m := by
  induction l using snoc_ind with
  | h0 => exact h0
  | h1 l y ih =>
    rw [fr_snoc]
    have h1 := ih fun x hx => h x (List.mem_append_left _ hx)
    have h2 := h y (by simp)
    omega
theorem fr_max {l : List Int} {M : Int} (hM : M ∈ l) (h : ∀ b, b ∈ l → b ≤ M) (h0 : 0 ≤ M) : fr l = M + 1 := by
  have h1 := lt_fr M hM
  have h2 := fr_le (l := l) (m := M + 1) (by omega) (fun x hx => by have := h x hx; omega)
  omega
theorem can_nonneg {l : List Int} (h : Can l) : ∀ x ∈ l, 0 ≤ x := fun x hx => by
  obtain ⟨i, hi, e⟩ := mem_ix hx
  exact (h i x e).1
theorem nodup_sub {α : Type} [DecidableEq α] : ∀ {l m : List α}, l.Nodup → (∀ x, x ∈ l → x ∈ m) → l.length ≤ m.length
  | [], _, _, _ => Nat.zero_le _
  | x :: l, m, h, s => by
    rw [List.nodup_cons] at h
    have hx := s x (by simp)
    have q := nodup_sub (l := l) (m := m.erase x) h.2 fun y hy => (List.mem_erase_of_ne (fun (e : y = x) => h.1 (by rw [← e]; exact hy))).mpr (s y (by simp [hy]))
    have z := List.length_erase_of_mem hx
    have : 0 < m.length := List.length_pos_of_mem hx
    rw [List.length_cons]
    omega
theorem nodup_len {α : Type} [DecidableEq α] {l m : List α} (h1 : l.Nodup) (h2 : m.Nodup) (s : ∀ x, x ∈ l ↔ x ∈ m) : l.length = m.length :=
  Nat.le_antisymm (nodup_sub h1 fun x => (s x).mp) (nodup_sub h2 fun x => (s x).mpr)
theorem stp_dd {c : List Int} {p q : Int} (hp : p ∈ c) (hq : q ∈ c) (hne : p ≠ q) : (dd (c.map (sub p q))).length + 1 = (dd c).length := by
  have hq' : q ∈ dd c := mem_dd.mpr hq
  have e : (dd (c.map (sub p q))).length = ((dd c).erase q).length := by
    refine nodup_len (nodup_dd _) ((nodup_dd c).erase q) fun x => ?_
    rw [mem_dd, List.mem_map, List.Nodup.mem_erase_iff (nodup_dd c), mem_dd]
    constructor
    · rintro ⟨y, hy, rfl⟩
      unfold sub
      split
      · exact ⟨hne, hp⟩
      · rename_i h
        exact ⟨h, hy⟩
    · rintro ⟨h1, h2⟩
      exact ⟨x, h2, if_neg h1⟩
  have z := List.length_erase_of_mem hq'
  have : 0 < (dd c).length := List.length_pos_of_mem hq'
  omega
theorem dd_mk {α : Type} [DecidableEq α] (l : List α) : (dd (mk l)).length = (dd l).length := by
  rw [can_dd (can_mk l), length_upto, (fr_mk l).1]
  omega
theorem Stp.dd {c d : List Int} (h : Stp c d) : (dd d).length + 1 = (dd c).length := by
  obtain ⟨p, q, hp, hq, hne, rfl⟩ := h
  unfold stp
  rw [dd_mk]
  exact stp_dd hp hq hne
theorem Clm.dd {a b : List Int} {cs : List (List Int)} (h : Clm a b cs) : ∀ (k : Nat) (c : List Int), cs[k]? = some c → (dd c).length + k = (dd a).length
  | 0, c, e => by
    have := h.hd
    rw [this] at e
    cases e
    rfl
  | k + 1, d, e => by
    have hk : k + 1 < cs.length := (List.getElem?_eq_some_iff.mp e).1
    have e0 := List.getElem?_eq_getElem (show k < cs.length by omega)
    have q := h.dd k _ e0
    have s := (h.st k _ d e0 e).dd
    omega
theorem Clm.bound {a b : List Int} {cs : List (List Int)} (h : Clm a b cs) : cs.length ≤ a.length + 1 := by
  by_cases hl : cs.length = 0
  · omega
  · have e0 := List.getElem?_eq_getElem (show cs.length - 1 < cs.length by omega)
    have q := h.dd _ _ e0
    have := length_dd_le a
    omega
end Sh

namespace Sh
theorem Fin.trans {a b c : List Int} (hl : a.length = b.length) (h1 : Fin a b) (h2 : Fin b c) : Fin a c := fun i j hi hj e => h2 i j (by omega) (by omega) (h1 i j hi hj e)
theorem Fin.refl (a : List Int) : Fin a a := fun _ _ _ _ e => e
theorem Join.left {a b r : List Int} (h : Join a b r) : Fin a r := fun i j hi hj e => (h.rel i j hi hj).mpr (.one hi hj e)
theorem Join.right {a b r : List Int} (hl : a.length = b.length) (h : Join a b r) : Fin b r := fun i j hi hj e => (h.rel i j (by omega) (by omega)).mpr (.two (by omega) (by omega) e)
structure Nm (a b : List Int) (ns : List Int) : Prop where
  len : ns.length = a.length
  ok : ∀ (i : Nat) (x : Int), ns[i]? = some x → 0 ≤ x ∧ x < (a.length : Int) ∧ Conn a b i x.toNat
def Both (a b : List Int) (i j : Nat) : Prop := Rel a i j ∨ Rel b i j
theorem Nm.set {a b ns : List Int} (h : Nm a b ns) {i j : Nat} {x : Int} (hi : i < a.length) (hj : j < a.length) (hx : ns[i]? = some x) (hb : Both a b i j) : Nm a b (ns.set j x) := by
  refine ⟨by rw [List.length_set]; exact h.len, fun k y e => ?_⟩
  rw [List.getElem?_set] at e
  split at e
  · rename_i ek
    subst ek
    rw [if_pos (by rw [h.len]; exact hj)] at e
    cases e
    obtain ⟨h1, h2, h3⟩ := h.ok i x hx
    refine ⟨h1, h2, .trans (Conn.symm ?_) h3⟩
    rcases hb with z | z
    · exact .one hi hj z
    · exact .two hi hj z
  · exact h.ok k y e
end Sh

namespace Sh
def Shs (css : List (List Int)) : Prop := (∀ c ∈ css, c ≠ []) ∧ 1 ≤ css.flatten.length ∧ css.flatten.length ≤ 12 ∧ css.flatten.Perm (upto css.flatten.length)
theorem upto_nodup (n : Nat) : (upto n).Nodup := by
  unfold upto List.Nodup
  exact List.Pairwise.map _ (fun a b h e => h (Int.ofNat.inj e)) List.nodup_range
theorem upto_sorted (n : Nat) : (upto n).Pairwise (· ≤ ·) := by
  unfold upto
  exact List.Pairwise.map _ (fun a b h => Int.ofNat_le.mpr h) List.pairwise_le_range
theorem sorted_upto {ms l : List Int} {n : Nat} (h : ms.Perm l) (hs : ms.Pairwise (· ≤ ·)) : ms = upto n ↔ l.Perm (upto n) := by
  constructor
  · intro e
    rw [← e]
    exact h.symm
  · intro q
    exact List.Perm.eq_of_pairwise (le := (· ≤ ·)) (fun a b _ _ h1 h2 => Int.le_antisymm h1 h2) hs (upto_sorted n) (h.trans q)
theorem sh1_nodup (ms : List Int) (i : Nat) (k : Int) : (sh1 ms i k).Nodup := by
  unfold sh1 List.Nodup
  exact List.Pairwise.map _ (fun a b h e => h (Int.ofNat.inj e)) (List.Pairwise.filter _ List.nodup_range)
theorem mem_shs {ns c : List Int} : c ∈ shs ns ↔ ∃ k : Nat, k < (fr ns).toNat ∧ c = sh1 ns ns.length (k : Int) := by
  unfold shs
  rw [List.mem_map]
  constructor
  · rintro ⟨k, hk, rfl⟩
    exact ⟨k, List.mem_range.mp hk, rfl⟩
  · rintro ⟨k, hk, rfl⟩
    exact ⟨k, List.mem_range.mpr hk, rfl⟩
theorem shs_nodup (ns : List Int) : (shs ns).flatten.Nodup := by
  unfold List.Nodup
  rw [List.pairwise_flatten]
  constructor
  · intro c hc
    obtain ⟨k, hk, rfl⟩ := mem_shs.mp hc
    exact sh1_nodup _ _ _
  · unfold shs
    rw [List.pairwise_map]
    refine List.Pairwise.imp (fun {a b} hab x hx y hy e => ?_) (List.nodup_range (n := (fr ns).toNat))
    subst e
    obtain ⟨t, e1, h1, h2⟩ := mem_sh1.mp hx
    obtain ⟨t', e1', h1', h2'⟩ := mem_sh1.mp hy
    have : t = t' := by omega
    subst this
    rw [h2] at h2'
    have := Option.some.inj h2'
    exact hab (by omega)
theorem mem_flat {ns : List Int} (h : Can ns) {x : Int} : x ∈ (shs ns).flatten ↔ x ∈ upto ns.length := by
  rw [List.mem_flatten, mem_upto]
  constructor
  · rintro ⟨c, hc, hx⟩
    obtain ⟨k, hk, rfl⟩ := mem_shs.mp hc
    obtain ⟨t, e1, h1, h2⟩ := mem_sh1.mp hx
    omega
  · rintro ⟨h0, h1⟩
    have ht : x.toNat < ns.length := by omega
    have e := List.getElem?_eq_getElem ht
    have z0 := can_nonneg h _ (List.getElem_mem ht)
    have z1 := lt_fr _ (List.getElem_mem ht)
    refine ⟨_, mem_shs.mpr ⟨(ns[x.toNat]).toNat, by omega, rfl⟩, mem_sh1.mpr ⟨x.toNat, by omega, ht, ?_⟩⟩
    rw [e]
    congr 1
    omega
theorem shs_flat {ns : List Int} (h : Can ns) : (shs ns).flatten.Perm (upto ns.length) :=
  (List.perm_ext_iff_of_nodup (shs_nodup ns) (upto_nodup _)).mpr fun x => mem_flat h
def Labs (css : List (List Int)) (labs : List Int) : Prop := labs.length = css.flatten.length ∧ ∀ (t k : Nat) (c : List Int), css[k]? = some c → (t : Int) ∈ c → labs[t]? = some (k : Int)
end Sh

namespace Sh
def gS : Nat → Int
  | 0 => 1
  | 1 => 1
  | m + 2 => gS (m + 1) * (-((m + 1 : Nat) : Int))
def prodI : List Int → Int
  | [] => 1
  | x :: r => x * prodI r
def mu (row : List Int) : Int := prodI ((List.range (fr row).toNat).map fun (k : Nat) => gS (row.count (k : Int)))
end Sh

namespace Sh
end Sh

namespace Sh
def W : Nat → Int → Int
  | 0, _ => 1
  | f + 1, s => s * W f s + W f (s + 1)
theorem W_succ (f : Nat) (s : Int) : W (f + 1) s = s * W f s + W f (s + 1) := rfl
def num : Int → List Int → Int
  | _, [] => 0
  | s, m :: r => m * W r.length s + num (max s (m + 1)) r
end Sh

namespace Sh
inductive PC (ps : List (Nat × Nat)) : Nat → Nat → Prop
  | refl (i : Nat) : PC ps i i
  | pair {p : Nat × Nat} : p ∈ ps → PC ps p.1 p.2
  | symm {i j : Nat} : PC ps i j → PC ps j i
  | trans {i j k : Nat} : PC ps i j → PC ps j k → PC ps i k
theorem PC.le {ps : List (Nat × Nat)} {R : Nat → Nat → Prop} (h1 : ∀ i, R i i) (h2 : ∀ i j, R i j → R j i) (h3 : ∀ i j k, R i j → R j k → R i k) (h : ∀ p ∈ ps, R p.1 p.2) {i j : Nat} (q : PC ps i j) : R i j := by
  induction q with
  | refl i => exact h1 i
  | pair hp => exact h _ hp
  | symm _ ih => exact h2 _ _ ih
  | trans _ _ a b => exact h3 _ _ _ a b
theorem PC.mono {ps qs : List (Nat × Nat)} (h : ∀ p ∈ ps, p ∈ qs) {i j : Nat} (q : PC ps i j) : PC qs i j :=
  PC.le (R := PC qs) .refl (fun _ _ => .symm) (fun _ _ _ => .trans) (fun p hp => .pair (h p hp)) q
structure ShP (n : Nat) (ps : List (Nat × Nat)) (r : List Int) : Prop where
  can : Can r
  len : r.length = n
  rel : ∀ i j, i < n → j < n → (Rel r i j ↔ PC ps i j)
theorem upto_get {n i : Nat} (h : i < n) : (upto n)[i]? = some (i : Int) := by
  unfold upto
  rw [List.getElem?_map, List.getElem?_range h]
  rfl
theorem can_uptoN (n : Nat) : Can (upto n) := by
  induction n with
  | zero => exact can_nil
  | succ n ih =>
    rw [upto_succ, can_snoc]
    refine ⟨ih, by omega, ?_⟩
    have : ∀ n : Nat, fr (upto n) = n := by
      intro n
      induction n with
      | zero => rfl
      | succ n ih => rw [upto_succ, fr_snoc, ih]; omega
    rw [this]
    exact Int.le_refl _
theorem ShP.start (n : Nat) : ShP n [] (upto n) := by
  refine ⟨can_uptoN n, length_upto n, fun i j hi hj => ?_⟩
  unfold Rel
  rw [upto_get hi, upto_get hj]
  constructor
  · intro e
    have : i = j := by have := Option.some.inj e; omega
    rw [this]
    exact .refl j
  · intro q
    have := PC.le (R := fun i j => i = j) (fun _ => rfl) (fun _ _ => Eq.symm) (fun _ _ _ => Eq.trans) (fun p hp => by simp at hp) q
    rw [this]
theorem ShP.step {n : Nat} {ps : List (Nat × Nat)} {r : List Int} {p : Nat × Nat} {x y : Int} (h : ShP n ps r) (hb : ∀ q ∈ ps, q.1 < n ∧ q.2 < n) (h1 : p.1 < n) (h2 : p.2 < n) (hx : r[p.1]? = some x) (hy : r[p.2]? = some y) : ShP n (ps ++ [p]) (stp r x y) := by
  have hl := h.len
  refine ⟨can_stp _ _ _, by rw [length_stp, hl], fun i j hi hj => ?_⟩
  have mo : ∀ {i j : Nat}, PC ps i j → PC (ps ++ [p]) i j := fun q => q.mono fun a ha => List.mem_append_left _ ha
  have pp : PC (ps ++ [p]) p.1 p.2 := .pair (by simp)
  have rx : ∀ i, i < n → r[i]? = some x → PC (ps ++ [p]) i p.1 := fun i hi e => mo ((h.rel i p.1 hi h1).mp (by unfold Rel; rw [e, hx]))
  have ry : ∀ i, i < n → r[i]? = some y → PC (ps ++ [p]) i p.1 := fun i hi e => (mo ((h.rel i p.2 hi h2).mp (by unfold Rel; rw [e, hy]))).trans pp.symm
  constructor
  · intro q
    rw [rel_stp (by omega) (by omega)] at q
    have gi := List.getElem?_eq_getElem (show i < r.length by omega)
    have gj := List.getElem?_eq_getElem (show j < r.length by omega)
    unfold sub at q
    split at q
    · rename_i c1
      split at q
      · rename_i c2
        exact (ry i hi (by rw [gi, c1])).trans (ry j hj (by rw [gj, c2])).symm
      · exact (ry i hi (by rw [gi, c1])).trans (rx j hj (by rw [gj, q])).symm
    · split at q
      · rename_i c2
        exact (rx i hi (by rw [gi, q])).trans (ry j hj (by rw [gj, c2])).symm
      · exact mo ((h.rel i j hi hj).mp (by unfold Rel; rw [gi, gj, q]))
  · intro q
    refine PC.le (R := Rel (stp r x y)) (fun _ => rfl) (fun _ _ => Rel.symm) (fun _ _ _ => Rel.trans) (fun a ha => ?_) q
    rcases List.mem_append.mp ha with ha | ha
    · obtain ⟨b1, b2⟩ := hb a ha
      exact stp_mono (by omega) (by omega) ((h.rel _ _ b1 b2).mpr (.pair ha))
    · rw [List.mem_singleton] at ha
      subst ha
      exact (stp_joins hx hy).symm
structure NmP (n : Nat) (ps : List (Nat × Nat)) (ns : List Int) : Prop where
  len : ns.length = n
  ok : ∀ (i : Nat) (c : Int), ns[i]? = some c → 0 ≤ c ∧ c < n ∧ PC ps i c.toNat
theorem NmP.start (n : Nat) (ps : List (Nat × Nat)) : NmP n ps (upto n) := by
  refine ⟨length_upto n, fun i c e => ?_⟩
  have hi : i < n := by
    have := (List.getElem?_eq_some_iff.mp e).1
    rw [length_upto] at this
    exact this
  rw [upto_get hi] at e
  have := Option.some.inj e
  subst this
  exact ⟨by omega, by omega, by rw [Int.toNat_natCast]; exact .refl i⟩
theorem NmP.set {n : Nat} {ps : List (Nat × Nat)} {ns : List Int} {t : Nat} {c : Int} (h : NmP n ps ns) (h0 : 0 ≤ c) (h1 : c < n) (hp : PC ps t c.toNat) : NmP n ps (ns.set t c) := by
  refine ⟨by rw [List.length_set, h.len], fun i d e => ?_⟩
  rw [List.getElem?_set] at e
  split at e
  · rename_i et
    subst et
    split at e
    · cases e
      exact ⟨h0, h1, hp⟩
    · cases e
  · exact h.ok i d e
theorem NmP.done {n : Nat} {ps : List (Nat × Nat)} {ns : List Int} (h : NmP n ps ns) (hb : ∀ p ∈ ps, ns[p.1]? = ns[p.2]?) : ShP n ps (Sh.mk ns) := by
  refine ⟨can_mk _, by rw [length_mk, h.len], fun i j hi hj => ?_⟩
  rw [rel_mk ns (by rw [h.len]; exact hi) (by rw [h.len]; exact hj)]
  constructor
  · intro e
    have hi' : i < ns.length := by rw [h.len]; exact hi
    have hj' : j < ns.length := by rw [h.len]; exact hj
    have gi := List.getElem?_eq_getElem hi'
    have gj := List.getElem?_eq_getElem hj'
    have e' : ns[i] = ns[j] := by rw [gi, gj] at e; exact Option.some.inj e
    have a := (h.ok i _ gi).2.2
    have b := (h.ok j _ gj).2.2
    rw [e'] at a
    exact a.trans b.symm
  · exact PC.le (R := fun i j => ns[i]? = ns[j]?) (fun _ => rfl) (fun _ _ => Eq.symm) (fun _ _ _ => Eq.trans) hb
def walk (ps : List (Nat × Nat)) : Nat → List Nat → Option Nat
  | t, [] => some t
  | t, k :: w => match ps[k]? with
    | none => none
    | some p => if p.1 = t then walk ps p.2 w else if p.2 = t then walk ps p.1 w else none
theorem walk_cons (ps : List (Nat × Nat)) (t k : Nat) (w : List Nat) : walk ps t (k :: w) = match ps[k]? with
    | none => none
    | some p => if p.1 = t then walk ps p.2 w else if p.2 = t then walk ps p.1 w else none := rfl
theorem walk_snoc {ps : List (Nat × Nat)} {k : Nat} : ∀ {w : List Nat} {a b : Nat}, walk ps a w = some b → walk ps a (w ++ [k]) = walk ps b [k]
  | [], a, b, h => by
    have : a = b := Option.some.inj h
    rw [this]
    rfl
  | j :: w, a, b, h => by
    rw [List.cons_append, walk_cons]
    rw [walk_cons] at h
    cases e : ps[j]? with
    | none => rw [e] at h; cases h
    | some p =>
      rw [e] at h
      simp only at h ⊢
      by_cases c1 : p.1 = a
      · rw [if_pos c1] at h ⊢
        exact walk_snoc h
      · rw [if_neg c1] at h ⊢
        by_cases c2 : p.2 = a
        · rw [if_pos c2] at h ⊢
          exact walk_snoc h
        · rw [if_neg c2] at h
          cases h
theorem walk_pc {ps : List (Nat × Nat)} : ∀ {w : List Nat} {a b : Nat}, walk ps a w = some b → PC ps a b
  | [], a, b, h => by
    have : a = b := Option.some.inj h
    rw [this]
    exact .refl b
  | j :: w, a, b, h => by
    rw [walk_cons] at h
    cases e : ps[j]? with
    | none => rw [e] at h; cases h
    | some p =>
      rw [e] at h
      have hm : p ∈ ps := List.mem_of_getElem? e
      simp only at h
      split at h
      · rename_i c
        exact (c ▸ PC.pair hm).trans (walk_pc h)
      · split at h
        · rename_i c
          exact (c ▸ (PC.pair hm).symm).trans (walk_pc h)
        · cases h
theorem walk_there {ps : List (Nat × Nat)} {k : Nat} {p : Nat × Nat} {w : List Nat} {a : Nat} (e : ps[k]? = some p) (h : walk ps a w = some p.1) : walk ps a (w ++ [k]) = some p.2 := by
  rw [walk_snoc h, walk_cons, e]
  show (if p.1 = p.1 then walk ps p.2 [] else _) = _
  rw [if_pos rfl]
  rfl
theorem walk_back {ps : List (Nat × Nat)} {k : Nat} {p : Nat × Nat} {w : List Nat} {a : Nat} (e : ps[k]? = some p) (h : walk ps a w = some p.2) (hne : p.1 ≠ p.2) : walk ps a (w ++ [k]) = some p.1 := by
  rw [walk_snoc h, walk_cons, e]
  show (if p.1 = p.2 then _ else if p.2 = p.2 then walk ps p.1 [] else none) = _
  rw [if_neg hne, if_pos rfl]
  rfl
theorem nodup_small : ∀ (n : Nat) (ks : List Nat), ks.Nodup → (∀ x ∈ ks, x < n) → ks.length ≤ n
  | 0, ks, _, h => by
    cases ks with
    | nil => simp
    | cons x r => exact absurd (h x (List.mem_cons_self ..)) (Nat.not_lt_zero _)
  | n + 1, ks, nd, h => by
    have := nodup_small n (ks.erase n) (nd.erase n) (fun x hx => by
      have h1 := h x (List.mem_of_mem_erase hx)
      have h2 : x ≠ n := fun e => by subst e; exact (List.Nodup.not_mem_erase nd) hx
      omega)
    by_cases c : n ∈ ks
    · rw [List.length_erase_of_mem c] at this
      omega
    · rw [List.erase_of_not_mem c] at this
      omega
theorem all_in {n : Nat} {ks : List Nat} (nd : ks.Nodup) (h : ∀ x ∈ ks, x < n) (hl : n ≤ ks.length) : ∀ i, i < n → i ∈ ks := fun i hi => by
  apply Classical.byContradiction
  intro c
  have := nodup_small n (i :: ks) (List.nodup_cons.mpr ⟨c, nd⟩) (fun x hx => by
    rcases List.mem_cons.mp hx with e | e
    · omega
    · exact h x e)
  rw [List.length_cons] at this
  omega
def Bal (ks : List Nat) (p : Nat × Nat) : Prop := p.1 ∈ ks ↔ p.2 ∈ ks
theorem bal_pc {ps : List (Nat × Nat)} {ks : List Nat} (h : ∀ p ∈ ps, Bal ks p) {i j : Nat} (q : PC ps i j) : i ∈ ks ↔ j ∈ ks :=
  PC.le (R := fun i j => i ∈ ks ↔ j ∈ ks) (fun _ => Iff.rfl) (fun _ _ => Iff.symm) (fun _ _ _ => Iff.trans) h q
end Sh

namespace L2
open PySem
def capt (cells : List (Str × Addr)) : List (Str × NameKind) → List (Str × Addr) → List (Str × Addr)
  | [], acc => acc
  | y :: r, acc => capt cells r (if (y.2 == NameKind.free) = true then (y.1, (cells.lookup y.1).getD 0) :: acc else acc)
theorem capt_closure {scope : Scope} {env : Env} (h : ∀ y ∈ scope.names, y.2 = .free → ∃ c, env.cells.lookup y.1 = some c) : closureFor scope env = pure (capt env.cells scope.names []) := by
  unfold closureFor
  simp only []
  have key : ∀ (names : List (Str × NameKind)) (acc : List (Str × Addr)), (∀ y ∈ names, y.2 = .free → ∃ c, env.cells.lookup y.1 = some c) →
      (forIn names acc fun (x : Str × NameKind) (r : List (Str × Addr)) => if (x.snd == NameKind.free) = true then do
              let a ← cellOf env x.fst
              pure (ForInStep.yield ((x.fst, a) :: r))
            else (pure (ForInStep.yield r) : Sem _)) = pure (capt env.cells names acc) := by
    intro names
    induction names with
    | nil => intro acc _; rfl
    | cons y r ih =>
      intro acc hy
      rw [List.forIn_cons]
      have ihr := fun acc' => ih acc' fun z hz => hy z (List.mem_cons_of_mem _ hz)
      by_cases e : (y.2 == NameKind.free) = true
      · have e' : y.2 = .free := by simpa using e
        obtain ⟨c, hc⟩ := hy y List.mem_cons_self e'
        have hcell : cellOf env y.1 = pure c := by unfold cellOf; rw [hc]
        rw [if_pos e, hcell]
        show (forIn r ((y.1, c) :: acc) _ : Sem _) = _
        rw [ihr]
        show pure (capt env.cells r ((y.1, c) :: acc)) = pure (capt env.cells r (if (y.2 == NameKind.free) = true then (y.1, (env.cells.lookup y.1).getD 0) :: acc else acc))
        rw [if_pos e, hc]
        rfl
      · rw [if_neg e]
        show (forIn r acc _ : Sem _) = _
        rw [ihr]
        show pure (capt env.cells r acc) = pure (capt env.cells r (if (y.2 == NameKind.free) = true then (y.1, (env.cells.lookup y.1).getD 0) :: acc else acc))
        rw [if_neg e]
  rw [key scope.names [] h]
  rfl
theorem capt_has (cells : List (Str × Addr)) : ∀ (names : List (Str × NameKind)) (acc : List (Str × Addr)) (x : Str), ((x, NameKind.free) ∈ names ∨ ∃ c, acc.lookup x = some c) → ∃ c, (capt cells names acc).lookup x = some c
  | [], acc, x, h => by
    rcases h with h | h
    · simp at h
    · exact h
  | y :: r, acc, x, h => by
    unfold capt
    refine capt_has cells r _ x ?_
    rcases h with h | ⟨c, h⟩
    · rcases List.mem_cons.mp h with e | h
      · subst e
        exact .inr ⟨(cells.lookup x).getD 0, by simp⟩
      · exact .inl h
    · right
      split
      · by_cases e : x == y.1
        · exact ⟨(cells.lookup y.1).getD 0, by rw [List.lookup_cons, e]⟩
        · exact ⟨c, by rw [List.lookup_cons]; simp [e, h]⟩
      · exact ⟨c, h⟩
theorem capt_eq (cells : List (Str × Addr)) : ∀ (names : List (Str × NameKind)) (acc : List (Str × Addr)), (∀ y c, acc.lookup y = some c → c = (cells.lookup y).getD 0) → ∀ y c, (capt cells names acc).lookup y = some c → c = (cells.lookup y).getD 0
  | [], acc, h, y, c, e => h y c e
  | z :: r, acc, h, y, c, e => by
    unfold capt at e
    refine capt_eq cells r _ (fun y' c' e' => ?_) y c e
    split at e'
    · rw [List.lookup_cons] at e'
      split at e'
      · rename_i q
        have q' : y' = z.1 := by simpa using q
        rw [q']
        exact (Option.some.inj e').symm
      · exact h y' c' e'
    · exact h y' c' e'
theorem capt_from (cells : List (Str × Addr)) : ∀ (names : List (Str × NameKind)) (acc : List (Str × Addr)) (y : Str) (c : Addr), (capt cells names acc).lookup y = some c → (∃ c', acc.lookup y = some c') ∨ (y, NameKind.free) ∈ names
  | [], acc, y, c, e => .inl ⟨c, e⟩
  | z :: r, acc, y, c, e => by
    unfold capt at e
    rcases capt_from cells r _ y c e with ⟨c', h⟩ | h
    · split at h
      · rename_i hz
        rw [List.lookup_cons] at h
        split at h
        · rename_i q
          right
          have q' : y = z.1 := by simpa using q
          have hz' : z.2 = .free := by simpa using hz
          rw [q', ← hz']
          exact List.mem_cons_self
        · exact .inl ⟨c', h⟩
      · exact .inl ⟨c', h⟩
    · exact .inr (List.mem_cons_of_mem _ h)
theorem relabel_free {env : Env} : ∀ {names : List (Str × NameKind)} {x : Str}, names.lookup x = some .free →
    (names.map fun (n, k) => if (k == NameKind.free && env.scope.kind == .function && env.kindOf n == some .cell) then (n, NameKind.cell) else (n, k)).lookup x = some .cell ∨
    (names.map fun (n, k) => if (k == NameKind.free && env.scope.kind == .function && env.kindOf n == some .cell) then (n, NameKind.cell) else (n, k)).lookup x = some .free
  | [], _, h => by simp at h
  | (n, k) :: r, x, h => by
    have ih := @relabel_free env r x
    show List.lookup x ((if (k == NameKind.free && env.scope.kind == .function && env.kindOf n == some .cell) = true then (n, NameKind.cell) else (n, k)) :: _) = _ ∨ List.lookup x ((if (k == NameKind.free && env.scope.kind == .function && env.kindOf n == some .cell) = true then (n, NameKind.cell) else (n, k)) :: _) = _
    cases hx : x == n with
    | true =>
      simp only [List.lookup_cons, hx] at h
      cases h
      split
      · left; simp [List.lookup_cons, hx]
      · right; simp [List.lookup_cons, hx]
    | false =>
      simp only [List.lookup_cons, hx] at h
      by_cases hc : (k == NameKind.free && env.scope.kind == .function && env.kindOf n == some .cell) = true
      · rw [if_pos hc]; simp only [List.lookup_cons, hx]; exact ih h
      · rw [if_neg hc]; simp only [List.lookup_cons, hx]; exact ih h
theorem of_relabel {env : Env} : ∀ {names : List (Str × NameKind)} {x : Str} {k : NameKind}, (∀ y ∈ names, y.2 ≠ .cell) → (k = .cell ∨ k = .free) →
    (names.map fun (n, k) => if (k == NameKind.free && env.scope.kind == .function && env.kindOf n == some .cell) then (n, NameKind.cell) else (n, k)).lookup x = some k → (x, NameKind.free) ∈ names
  | [], _, _, _, _, h => by simp at h
  | (n, k') :: r, x, k, hn, hk, h => by
    have ih := @of_relabel env r x k (fun y hy => hn y (List.mem_cons_of_mem _ hy)) hk
    have h' : List.lookup x ((if (k' == NameKind.free && env.scope.kind == .function && env.kindOf n == some .cell) = true then (n, NameKind.cell) else (n, k')) :: (r.map fun (n, k) => if (k == NameKind.free && env.scope.kind == .function && env.kindOf n == some .cell) then (n, NameKind.cell) else (n, k))) = some k := h
    cases hx : x == n with
    | true =>
      have e : x = n := by simpa using hx
      subst e
      by_cases hc : (k' == NameKind.free && env.scope.kind == .function && env.kindOf x == some .cell) = true
      · have : k' = .free := by
          simp only [Bool.and_eq_true] at hc
          simpa using hc.1.1
        subst this
        exact List.mem_cons_self
      · rw [if_neg hc] at h'
        simp only [List.lookup_cons, hx] at h'
        have e2 : k' = k := Option.some.inj h'
        subst e2
        rcases hk with hk | hk
        · exact absurd hk (hn (x, k') List.mem_cons_self)
        · subst hk; exact List.mem_cons_self
    | false =>
      refine List.mem_cons_of_mem _ (ih ?_)
      by_cases hc : (k' == NameKind.free && env.scope.kind == .function && env.kindOf n == some .cell) = true
      · rw [if_pos hc] at h'; simp only [List.lookup_cons, hx] at h'; exact h'
      · rw [if_neg hc] at h'; simp only [List.lookup_cons, hx] at h'; exact h'
def compOk (sc out : Scope) (N N' : List Str) (ix : List (Option Nat)) : Bool :=
  decide (sc.kind = .function) && sc.names.all (fun y => decide (y.2 ≠ .cell)) && sc.names.all (fun y => decide (y.2 = .local → sc.names.lookup y.1 = some .local))
    && sc.names.all (fun y => decide (y.2 = .free → out.names.lookup y.1 = some .cell ∨ out.names.lookup y.1 = some .free))
    && decide (ix.length = N'.length) && (ix.zip N').all fun p => match p.1 with
      | none => true
      | some i => decide (N[i]? = some p.2 ∧ sc.names.lookup p.2 = some .free)
structure CompOk (sc out : Scope) (N N' : List Str) (ix : List (Option Nat)) : Prop where
  kind : sc.kind = .function
  nocell : ∀ y ∈ sc.names, y.2 ≠ .cell
  names : ∀ y ∈ sc.names, y.2 = .local → sc.names.lookup y.1 = some .local
  out : ∀ y ∈ sc.names, y.2 = .free → out.names.lookup y.1 = some .cell ∨ out.names.lookup y.1 = some .free
  len : ix.length = N'.length
  cap : ∀ (j i : Nat) (x : Str), ix[j]? = some (some i) → N'[j]? = some x → N[i]? = some x ∧ sc.names.lookup x = some .free
theorem compOk_of {sc out : Scope} {N N' : List Str} {ix : List (Option Nat)} (h : compOk sc out N N' ix = true) : CompOk sc out N N' ix := by
  unfold compOk at h
  simp only [Bool.and_eq_true, List.all_eq_true, decide_eq_true_eq] at h
  obtain ⟨⟨⟨⟨⟨h1, h2⟩, h3⟩, h4⟩, h5⟩, h6⟩ := h
  refine ⟨h1, h2, h3, h4, h5, fun j i x e1 e2 => ?_⟩
  have q : (some i, x) ∈ ix.zip N' := by
    have : (ix.zip N')[j]? = some (some i, x) := by
      rw [List.getElem?_zip_eq_some]
      exact ⟨e1, e2⟩
    exact List.mem_of_getElem? this
  have := h6 _ q
  simpa using this
end L2

namespace ZL
open PySem
open Sem (wp)
section
variable {prog : Program} {w : World} {A : Around} {E : Value → Shared → Prop} {s : Shared}
theorem wpAny_loadIfAlive {M : Model} {a : Addr} {Q : Option Obj → Shared → Prop} (h : Q (s.heap.get? a) s) : wpAny M A (loadIfAlive a) Q E s := fun Γ p _ => by
  unfold loadIfAlive
  rw [Sem.wp_loadIfAlive]
  exact h
abbrev IsZipO (h : Heap) (z TI TO : Addr) (f0 : Value) (b : Bool) : Prop :=
  h.get? z = some { cls := .type "zip", dict := none, data := .fields #[f0, .bool b, .bool false, .ref TI, .ref TO], slots := #[] }
theorem owned_kept {z TI TO T : Addr} {bb : Bool} {oT : Obj} {K : Bool → Shared → Prop} (hz : IsZipO s.heap z TI TO (rawInt T) bb) (hT : s.heap.get? T = some oT)
    (h : ∀ h₁, IsZipO h₁ z TI TO (rawInt T) true → Heap.SameBut z s.heap h₁ → K false { s with heap := h₁ }) : wpAny (model prog w) A (Builtin.SmallTypes.ownedTupleIsFree (.ref z)) K E s := by
  unfold Builtin.SmallTypes.ownedTupleIsFree
  refine wpAny_bind (wpAny_field hz rfl (x := rawInt T) rfl ?_)
  show wpAny _ _ (loadIfAlive (Int.ofNat T).toNat >>= _) _ _ _
  refine wpAny_bind (wpAny_loadIfAlive ?_)
  rw [show (Int.ofNat T).toNat = T from rfl, hT, if_neg (by simp)]
  refine wpAny_bind (wpAny_field hz rfl (x := .bool bb) rfl ?_)
  cases bb with
  | true =>
    show wpAny _ _ (pure false) _ _ _
    exact wpAny_pure (h s.heap hz (.refl ..))
  | false =>
    show wpAny _ _ (setField (.ref z) 1 (.bool true) >>= fun _ => pure false) _ _ _
    refine wpAny_bind (wpAny_setField_rec hz (by simp) fun h₁ hz₁ hs₁ => wpAny_pure ?_)
    exact h h₁ hz₁ hs₁
theorem zip_next_kept {z TI TO i1 i2 l1 l2 T : Addr} {bb : Bool} {k1 k2 : Nat} {xs ys : Array Value} {x y : Value} {oT : Obj} {Q : Value → Shared → Prop} (D : ZipApart z TI TO i1 i2 l1 l2)
    (hz : IsZipO s.heap z TI TO (rawInt T) bb) (hT : s.heap.get? T = some oT) (hTI : IsPair s.heap TI (.ref i1) (.ref i2))
    (h1 : s.heap.IsListIter i1 l1 k1) (h2 : s.heap.IsListIter i2 l2 k2) (hl1 : s.heap.IsList l1 xs) (hl2 : s.heap.IsList l2 ys) (hx : xs[k1]? = some x) (hy : ys[k2]? = some y)
    (hQ : ∀ h', IsZipO h' z TI TO (rawInt T) true → h'.IsListIter i1 l1 (k1 + 1) → h'.IsListIter i2 l2 (k2 + 1) → IsPair h' s.heap.objs.size x y → h'.objs.size = s.heap.objs.size + 1 →
      (∀ c o, c ≠ z → c ≠ i1 → c ≠ i2 → s.heap.get? c = some o → h'.get? c = some o) → Q (.ref s.heap.objs.size) { s with heap := h' }) :
    wpAny (model prog w) A (Builtin.«zip.__next__» ⟨[.ref z], []⟩) (fun fin s' => ∃ v, fin = .done (.ret v) ∧ Q v s') E s := by
  show wpAny _ _ (field (.ref z) 2 >>= _) _ _ _
  refine wpAny_bind (wpAny_field hz rfl (x := .bool false) rfl ?_)
  show wpAny _ _ (field (.ref z) 3 >>= _) _ _ _
  refine wpAny_bind (wpAny_field hz rfl (x := .ref TI) rfl ?_)
  refine wpAny_bind (wpAny_seqItems hTI rfl ?_)
  show wpAny _ _ (Builtin.SmallTypes.ownedTupleIsFree (.ref z) >>= _) _ _ _
  refine wpAny_bind (owned_kept hz hT fun h₁ hz₁ hs₁ => ?_)
  rw [if_neg (by decide)]
  simp only [List.forIn_toArray, List.forIn_cons, List.forIn_nil, bind_assoc, pure_bind]
  refine wpAny_bind (wpAny_holding ?_)
  show wpAny _ _ (Builtin.SmallTypes.nextOf (.ref i1) >>= _) _ _ _
  refine wpAny_bind (wpAny_nextOf_list_item (h1.extBut hs₁.extBut D.i1z) (hl1.extBut hs₁.extBut D.l1z) hx fun h₂ h1₂ hs₂ => wpAny_pure ?_)
  refine wpAny_bind (wpAny_pure ?_)
  refine wpAny_bind (wpAny_bind (wpAny_holding ?_))
  show wpAny _ _ (Builtin.SmallTypes.nextOf (.ref i2) >>= _) _ _ _
  refine wpAny_bind (wpAny_nextOf_list_item ((h2.extBut hs₁.extBut D.i2z).extBut hs₂.extBut D.i12.symm) ((hl2.extBut hs₁.extBut D.l2z).extBut hs₂.extBut D.l2i1) hy fun h₃ h2₃ hs₃ => wpAny_pure ?_)
  refine wpAny_bind (wpAny_pure (wpAny_pure ?_))
  refine wpAny_bind (wpAny_newTuple ?_ (by show 2 ≤ sizeLine; decide))
  have hsz : h₃.objs.size = s.heap.objs.size := by rw [hs₃.1, hs₂.1, hs₁.1]
  have hz₃ : IsZipO h₃ z TI TO (rawInt T) true := hs₃.extBut _ _ D.i2z.symm (hs₂.extBut _ _ D.i1z.symm hz₁)
  have hk₃ : ∀ c o, c ≠ z → c ≠ i1 → c ≠ i2 → s.heap.get? c = some o → h₃.get? c = some o := fun c o c1 c3 c4 e =>
    hs₃.extBut _ _ c4 (hs₂.extBut _ _ c3 (hs₁.extBut _ _ c1 e))
  have h1₃ : h₃.IsListIter i1 l1 (k1 + 1) := h1₂.extBut hs₃.extBut D.i12
  refine wpAny_pure ⟨_, rfl, ?_⟩
  show Q (.ref h₃.objs.size) _
  rw [hsz]
  refine hQ _ (Heap.get?_push_of_some _ hz₃) (h1₃.at fun o e => Heap.get?_push_of_some _ e) (h2₃.at fun o e => Heap.get?_push_of_some _ e) ?_ (by rw [Heap.size_push, hsz]) fun c o c1 c3 c4 e => Heap.get?_push_of_some _ (hk₃ c o c1 c3 c4 e)
  show Heap.get? _ s.heap.objs.size = _
  rw [← hsz]
  exact Heap.get?_push_size _ rfl

theorem zip_next_kept_end {z TI TO i1 i2 l1 l2 T : Addr} {bb : Bool} {k1 k2 : Nat} {xs ys : Array Value} {oT : Obj} {Q : Fin → Shared → Prop} (hh : A.handled = none) (D : ZipApart z TI TO i1 i2 l1 l2)
    (hz : IsZipO s.heap z TI TO (rawInt T) bb) (hT : s.heap.get? T = some oT) (hTI : IsPair s.heap TI (.ref i1) (.ref i2))
    (h1 : s.heap.IsListIter i1 l1 k1) (h2 : s.heap.IsListIter i2 l2 k2) (hl1 : s.heap.IsList l1 xs) (hl2 : s.heap.IsList l2 ys) (hend : xs[k1]? = none ∨ ys[k2]? = none)
    (hE : ∀ h' e, (∀ c o, c ≠ z → c ≠ i1 → c ≠ i2 → s.heap.get? c = some o → h'.get? c = some o) → (∃ o, h'.get? e = some o ∧ o.cls = .type "StopIteration") → E (.ref e) { s with heap := h' }) :
    wpAny (model prog w) A (Builtin.«zip.__next__» ⟨[.ref z], []⟩) Q E s := by
  show wpAny _ _ (field (.ref z) 2 >>= _) _ _ _
  refine wpAny_bind (wpAny_field hz rfl (x := .bool false) rfl ?_)
  show wpAny _ _ (field (.ref z) 3 >>= _) _ _ _
  refine wpAny_bind (wpAny_field hz rfl (x := .ref TI) rfl ?_)
  refine wpAny_bind (wpAny_seqItems hTI rfl ?_)
  show wpAny _ _ (Builtin.SmallTypes.ownedTupleIsFree (.ref z) >>= _) _ _ _
  refine wpAny_bind (owned_kept hz hT fun h₁ hz₁ hs₁ => ?_)
  rw [if_neg (by decide)]
  simp only [List.forIn_toArray, List.forIn_cons, List.forIn_nil, bind_assoc, pure_bind]
  refine wpAny_bind (wpAny_holding ?_)
  show wpAny _ _ (Builtin.SmallTypes.nextOf (.ref i1) >>= _) _ _ _
  cases hx : xs[k1]? with
  | none =>
    refine wpAny_bind (wpAny_nextOf_list_end hh (h1.extBut hs₁.extBut D.i1z) (hl1.extBut hs₁.extBut D.l1z) hx fun h₂ e hs₂ he => ?_)
    exact hE h₂ e (fun c o c1 c3 _ x => hs₂ _ _ c3 (hs₁.extBut _ _ c1 x)) he
  | some x =>
    have hy : ys[k2]? = none := by rcases hend with h | h; rw [hx] at h; cases h; exact h
    refine wpAny_bind (wpAny_nextOf_list_item (h1.extBut hs₁.extBut D.i1z) (hl1.extBut hs₁.extBut D.l1z) hx fun h₂ h1₂ hs₂ => wpAny_pure ?_)
    refine wpAny_bind (wpAny_pure ?_)
    refine wpAny_bind (wpAny_bind (wpAny_holding ?_))
    show wpAny _ _ (Builtin.SmallTypes.nextOf (.ref i2) >>= _) _ _ _
    refine wpAny_bind (wpAny_nextOf_list_end hh ((h2.extBut hs₁.extBut D.i2z).extBut hs₂.extBut D.i12.symm) ((hl2.extBut hs₁.extBut D.l2z).extBut hs₂.extBut D.l2i1) hy fun h₃ e hs₃ he => ?_)
    exact hE h₃ e (fun c o c1 c3 c4 x => hs₃ _ _ c4 (hs₂.extBut _ _ c3 (hs₁.extBut _ _ c1 x))) he

def ZSt (z TI TO i1 i2 l1 l2 : Addr) (xs ys : Array Value) (i : Nat) (h : Heap) : Prop :=
  ((IsZip h z TI TO .none ∧ i = 0) ∨ ∃ (T : Addr) (oT : Obj) (b : Bool), IsZipO h z TI TO (rawInt T) b ∧ h.get? T = some oT ∧ T ≠ z ∧ T ≠ i1 ∧ T ≠ i2) ∧ IsPair h TI (.ref i1) (.ref i2) ∧ (∃ a b, IsPair h TO a b) ∧
    h.IsListIter i1 l1 i ∧ h.IsListIter i2 l2 i ∧ h.IsList l1 xs ∧ h.IsList l2 ys
theorem ZSt.type {z TI TO i1 i2 l1 l2 : Addr} {xs ys : Array Value} {i : Nat} (h : ZSt z TI TO i1 i2 l1 l2 xs ys i s.heap) : s.TypeIs (.ref z) "zip" := by
  rcases h.1 with ⟨hz, _⟩ | ⟨T, oT, b, hz, _⟩
  · exact ⟨_, hz, rfl⟩
  · exact ⟨_, hz, rfl⟩
theorem ZSt.keeps {z TI TO i1 i2 l1 l2 : Addr} {xs ys : Array Value} {i : Nat} {h h' : Heap} (st : ZSt z TI TO i1 i2 l1 l2 xs ys i h) (S : Addr) (hS : S ≠ z ∧ S ≠ TI ∧ S ≠ TO ∧ S ≠ i1 ∧ S ≠ i2 ∧ S ≠ l1 ∧ S ≠ l2)
    (hT : ∀ (T : Addr) (oT : Obj) (b : Bool), IsZipO h z TI TO (rawInt T) b → h.get? T = some oT → ∃ o', h'.get? T = some o')
    (k : ∀ b o, b ≠ S → h.get? b = some o → h'.get? b = some o) : ZSt z TI TO i1 i2 l1 l2 xs ys i h' := by
  obtain ⟨hz, hTI, ⟨a, b, hTO⟩, h1, h2, hl1, hl2⟩ := st
  obtain ⟨n1, n2, n3, n4, n5, n6, n7⟩ := hS
  refine ⟨?_, k _ _ n2.symm hTI, ⟨a, b, k _ _ n3.symm hTO⟩, h1.at fun o e => k _ o n4.symm e, h2.at fun o e => k _ o n5.symm e, hl1.at fun o e => k _ o n6.symm e, hl2.at fun o e => k _ o n7.symm e⟩
  rcases hz with ⟨hz, e⟩ | ⟨T, oT, bb, hz, hT', t1, t2, t3⟩
  · exact .inl ⟨k _ _ n1.symm hz, e⟩
  · obtain ⟨o', ho'⟩ := hT T oT bb hz hT'
    exact .inr ⟨T, o', bb, k _ _ n1.symm hz, ho', t1, t2, t3⟩
theorem zip_item {z TI TO i1 i2 l1 l2 : Addr} {xs ys : Array Value} {i : Nat} {x y : Value} {Q : Option Value → Shared → Prop} (D : ZipApart z TI TO i1 i2 l1 l2) (st : ZSt z TI TO i1 i2 l1 l2 xs ys i s.heap)
    (hx : xs[i]? = some x) (hy : ys[i]? = some y)
    (hQ : ∀ h', ZSt z TI TO i1 i2 l1 l2 xs ys (i + 1) h' → IsPair h' s.heap.objs.size x y → h'.objs.size = s.heap.objs.size + 1 → (∀ c o, c ≠ z → c ≠ TO → c ≠ i1 → c ≠ i2 → s.heap.get? c = some o → h'.get? c = some o) →
      Q (some (.ref s.heap.objs.size)) { s with heap := h' }) : wpAny (model prog w) A (pyNext (.ref z)) Q E s := by
  have ty := st.type
  obtain ⟨hz, hTI, ⟨a, b, hTO⟩, h1, h2, hl1, hl2⟩ := st
  have lt : ∀ {c o}, s.heap.get? c = some o → s.heap.objs.size ≠ c := fun e => Nat.ne_of_gt (Heap.lt_size e)
  have n1 : s.heap.objs.size ≠ i1 := by obtain ⟨_, e, _⟩ := h1; exact lt e
  have n2 : s.heap.objs.size ≠ i2 := by obtain ⟨_, e, _⟩ := h2; exact lt e
  rcases hz with ⟨hz, rfl⟩ | ⟨T, oT, bb, hz, hT, t1, t2, t3⟩
  · refine wpAny_pyNext_zip_item D hz hTI hTO h1 h2 hl1 hl2 hx hy fun h' a1 a2 a3 a4 a5 a6 hk => hQ h' ?_ a5 a6 hk
    exact ⟨.inr ⟨_, _, false, a1, a5, lt hz, n1, n2⟩, hk _ _ D.TIz D.TITO D.TIi1 D.TIi2 hTI, ⟨_, _, a2⟩, a3, a4, hl1.at fun o e => hk _ o D.l1z D.l1TO D.l1i1 D.l1i2 e, hl2.at fun o e => hk _ o D.l2z D.l2TO D.l2i1 D.l2i2 e⟩
  · unfold pyNext
    refine wpAny_bind (wpAny_attempt (wpAny_callSpecial?_slot (name := Str.ofString "__next__") ty F.slot_zip_next
      (wpAny_call_entry F.slot_zip_next ty F.entry_zip_next
        (zip_next_kept D hz hT hTI h1 h2 hl1 hl2 hx hy fun h' a1 a3 a4 a5 a6 hk => wpAny_pure (hQ h' ?_ a5 a6 fun c o c1 _ c3 c4 e => hk c o c1 c3 c4 e)) (F.args_zip_next_1 _))))
    exact ⟨.inr ⟨T, oT, true, a1, hk _ _ t1 t2 t3 hT, t1, t2, t3⟩, hk _ _ D.TIz D.TIi1 D.TIi2 hTI, ⟨_, _, hk _ _ D.TOz D.TOi1 D.TOi2 hTO⟩, a3, a4, hl1.at fun o e => hk _ o D.l1z D.l1i1 D.l1i2 e, hl2.at fun o e => hk _ o D.l2z D.l2i1 D.l2i2 e⟩
theorem zip_done {z TI TO i1 i2 l1 l2 : Addr} {xs ys : Array Value} {i : Nat} {Q : Option Value → Shared → Prop} (hh : A.handled = none) (D : ZipApart z TI TO i1 i2 l1 l2) (st : ZSt z TI TO i1 i2 l1 l2 xs ys i s.heap)
    (hend : xs[i]? = none ∨ ys[i]? = none)
    (hQ : ∀ h', (∀ c o, c ≠ z → c ≠ TO → c ≠ i1 → c ≠ i2 → s.heap.get? c = some o → h'.get? c = some o) → Q none { s with heap := h' }) : wpAny (model prog w) A (pyNext (.ref z)) Q E s := by
  have ty := st.type
  obtain ⟨hz, hTI, ⟨a, b, hTO⟩, h1, h2, hl1, hl2⟩ := st
  rcases hz with ⟨hz, rfl⟩ | ⟨T, oT, bb, hz, hT, t1, t2, t3⟩
  · exact wpAny_pyNext_zip_end hh D hz hTI hTO h1 h2 hl1 hl2 hend hQ
  · unfold pyNext
    refine wpAny_bind (wpAny_attempt (wpAny_callSpecial?_slot (name := Str.ofString "__next__") ty F.slot_zip_next
      (wpAny_call_entry F.slot_zip_next ty F.entry_zip_next (zip_next_kept_end (A := A.in1) hh D hz hT hTI h1 h2 hl1 hl2 hend fun h' e hk he => ?_) (F.args_zip_next_1 _))))
    obtain ⟨o, ho, hc⟩ := he
    refine wpAny_bind (wpAny_isInstance (T := "StopIteration") (b := true) ⟨o, ho, hc⟩ isSubtype_stop ?_)
    exact wpAny_pure (hQ _ fun c o c1 _ c3 c4 e => hk c o c1 c3 c4 e)

def Got (xs ys : Array Value) (lo : Nat) (S : Addr) (h : Heap) (i : Nat) (Ts : List Addr) : Prop :=
  Ts.length = i ∧ Ts.Nodup ∧ ∀ (j : Nat) (T : Addr), Ts[j]? = some T → lo ≤ T ∧ T < h.objs.size ∧ T ≠ S ∧ ∃ x y, xs[j]? = some x ∧ ys[j]? = some y ∧ IsPair h T x y
theorem Got.keeps {xs ys : Array Value} {lo : Nat} {S : Addr} {h h' : Heap} {i : Nat} {Ts : List Addr} (g : Got xs ys lo S h i Ts) (k : ∀ (T : Addr) o, T ∈ Ts → h.get? T = some o → h'.get? T = some o) (hs : h.objs.size ≤ h'.objs.size) : Got xs ys lo S h' i Ts := by
  obtain ⟨g1, g2, g3⟩ := g
  refine ⟨g1, g2, fun j T e => ?_⟩
  obtain ⟨a1, a2, a3, x, y, b1, b2, b3⟩ := g3 j T e
  exact ⟨a1, Nat.lt_of_lt_of_le a2 hs, a3, x, y, b1, b2, k T _ (List.mem_of_getElem? e) b3⟩
theorem extend_zip {R : Result → Shared → Prop} {z TI TO i1 i2 l1 l2 S : Addr} {xs ys : Array Value} {lo : Nat} (hh : A.handled = none) (D : ZipApart z TI TO i1 i2 l1 l2) (hS : S ≠ z ∧ S ≠ TI ∧ S ≠ TO ∧ S ≠ i1 ∧ S ≠ i2 ∧ S ≠ l1 ∧ S ≠ l2)
    (hlo : z < lo ∧ TO < lo ∧ i1 < lo ∧ i2 < lo) (hn : min xs.size ys.size ≤ sizeLine) (res : Value) :
    ∀ (k i : Nat) (s : Shared) (Ts : List Addr) (c : Nat), min xs.size ys.size - i = k → i ≤ min xs.size ys.size → lo ≤ s.heap.objs.size → ZSt z TI TO i1 i2 l1 l2 xs ys i s.heap →
    s.heap.get? S = some { cls := .type "list", dict := none, data := .seq (Ts.map Value.ref).toArray c, slots := #[] } → Got xs ys lo S s.heap i Ts →
    (∀ h' Ts' c', (∀ b o, b ≠ S → b ≠ z → b ≠ TO → b ≠ i1 → b ≠ i2 → s.heap.get? b = some o → h'.get? b = some o) → h'.get? S = some { cls := .type "list", dict := none, data := .seq (Ts'.map Value.ref).toArray c', slots := #[] } →
      Got xs ys lo S h' (min xs.size ys.size) Ts' → R (.ok (.ret res)) { s with heap := h' }) →
    codeAny (model prog w) A (.builtin "list.extend.loop" ⟨[.ref S, .ref z, res], []⟩) R s := by
  intro k
  induction k with
  | zero =>
    intro i s Ts c hk hi hlo' hst hSo hg hR
    have hin : i = min xs.size ys.size := by omega
    subst hin
    refine codeAny_builtin F.entry_extend_loop ?_
    rw [Around.under_plainId F.plain_extend_loop _]
    show wpAny _ A.in1 (pyNext (.ref z) >>= _) _ _ s
    have hend : xs[min xs.size ys.size]? = none ∨ ys[min xs.size ys.size]? = none := by
      rcases Nat.le_total xs.size ys.size with h | h
      · exact .inl (by rw [Nat.min_eq_left h]; exact Array.getElem?_eq_none (Nat.le_refl _))
      · exact .inr (by rw [Nat.min_eq_right h]; exact Array.getElem?_eq_none (Nat.le_refl _))
    refine wpAny_bind (zip_done (A := A.in1) hh D hst hend fun h' hk' => ?_)
    have hgl := hg.2.2
    -- the heap has not shrunk where the pairs are
    refine wpAny_pure (hR h' Ts c (fun b o _ c1 c2 c3 c4 e => hk' b o c1 c2 c3 c4 e) (hk' S _ hS.1 hS.2.2.1 hS.2.2.2.1 hS.2.2.2.2.1 hSo) ?_)
    refine ⟨hg.1, hg.2.1, fun j T e => ?_⟩
    obtain ⟨a1, a2, a3, x, y, b1, b2, b3⟩ := hgl j T e
    have b3' : IsPair h' T x y := hk' T _ (Nat.ne_of_gt (Nat.lt_of_lt_of_le hlo.1 a1)) (Nat.ne_of_gt (Nat.lt_of_lt_of_le hlo.2.1 a1)) (Nat.ne_of_gt (Nat.lt_of_lt_of_le hlo.2.2.1 a1)) (Nat.ne_of_gt (Nat.lt_of_lt_of_le hlo.2.2.2 a1)) b3
    exact ⟨a1, Heap.lt_size b3', a3, x, y, b1, b2, b3'⟩
  | succ k ih =>
    intro i s Ts c hk hi hlo' hst hSo hg hR
    have hlt : i < min xs.size ys.size := by omega
    have hix : i < xs.size := Nat.lt_of_lt_of_le hlt (Nat.min_le_left ..)
    have hiy : i < ys.size := Nat.lt_of_lt_of_le hlt (Nat.min_le_right ..)
    refine codeAny_builtin F.entry_extend_loop ?_
    rw [Around.under_plainId F.plain_extend_loop _]
    show wpAny _ A.in1 (pyNext (.ref z) >>= _) _ _ s
    refine wpAny_bind (zip_item D hst (Array.getElem?_eq_getElem hix) (Array.getElem?_eq_getElem hiy) fun h' hst' hp hsz hk' => ?_)
    have hS' := hk' S _ hS.1 hS.2.2.1 hS.2.2.2.1 hS.2.2.2.2.1 hSo
    have hSlt : S < s.heap.objs.size := Heap.lt_size hSo
    have hlen : (Ts.map Value.ref).toArray.size = i := by simp [hg.1]
    show wpAny _ A.in1 (updateSeq S (·.push (.ref s.heap.objs.size)) >>= _) _ _ _
    refine wpAny_bind ?_
    have up := Heap.get?_update_self (Obj.mapSeq (·.push (Value.ref s.heap.objs.size))) hS' rfl
    have oth : ∀ b o, b ≠ S → h'.get? b = some o → (h'.update S (Obj.mapSeq (·.push (Value.ref s.heap.objs.size)))).get? b = some o := fun b o hb e => (Heap.get?_update_other _ _ (Ne.symm hb)).trans e
    have szu : (h'.update S (Obj.mapSeq (·.push (Value.ref s.heap.objs.size)))).objs.size = h'.objs.size := (Heap.SameBut.update ..).1
    refine wpAny_updateSeq hS' rfl (wpAny_pure ⟨plainId_quiet F.plain_extend_loop _, ih (i + 1) _ (Ts ++ [s.heap.objs.size]) _ (by omega) hlt (by show lo ≤ Array.size _; rw [szu, hsz]; exact Nat.le_succ_of_le hlo') ?_ (up.trans (by rw [List.map_append]; simp [Obj.mapSeq] <;> rfl)) ?_ fun h'' Ts' c' hk'' hS'' hg'' => ?_⟩)
      (by rw [hlen]; omega) (by show (Array.push _ _).size ≤ sizeLine + 1; rw [Array.size_push, hlen]; omega)
    · refine hst'.keeps S hS (fun T oT b hz hT => ?_) oth
      by_cases e : T = S
      · subst e; exact ⟨_, up⟩
      · exact ⟨oT, oth T oT e hT⟩
    · obtain ⟨g1, g2, g3⟩ := hg
      refine ⟨by simp [g1], ?_, fun j T e => ?_⟩
      · rw [List.nodup_append]
        refine ⟨g2, by simp, fun a ha b hb => ?_⟩
        rw [List.mem_singleton] at hb
        subst hb
        obtain ⟨j, hj⟩ := List.getElem?_of_mem ha
        exact Nat.ne_of_lt (g3 j a hj).2.1
      · by_cases hj : j < Ts.length
        · rw [List.getElem?_append_left hj] at e
          obtain ⟨a1, a2, a3, x, y, b1, b2, b3⟩ := g3 j T e
          have b3' := hk' T _ (Nat.ne_of_gt (Nat.lt_of_lt_of_le hlo.1 a1)) (Nat.ne_of_gt (Nat.lt_of_lt_of_le hlo.2.1 a1)) (Nat.ne_of_gt (Nat.lt_of_lt_of_le hlo.2.2.1 a1)) (Nat.ne_of_gt (Nat.lt_of_lt_of_le hlo.2.2.2 a1)) b3
          exact ⟨a1, by rw [szu, hsz]; exact Nat.lt_succ_of_lt a2, a3, x, y, b1, b2, oth T _ a3 b3'⟩
        · have hjl : j < (Ts ++ [s.heap.objs.size]).length := (List.getElem?_eq_some_iff.mp e).1
          have ej : j = Ts.length := by simp at hjl; omega
          subst ej
          have eT : T = s.heap.objs.size := by simpa using e.symm
          subst eT
          refine ⟨hlo', by rw [szu, hsz]; exact Nat.lt_succ_self _, Nat.ne_of_gt hSlt, _, _, ?_, ?_, oth _ _ (Nat.ne_of_gt hSlt) hp⟩
          · rw [g1]; exact Array.getElem?_eq_getElem hix
          · rw [g1]; exact Array.getElem?_eq_getElem hiy
    · refine hR h'' Ts' c' (fun b o c0 c1 c2 c3 c4 e => hk'' b o c0 c1 c2 c3 c4 (oth b o c0 (hk' b o c1 c2 c3 c4 e))) hS'' hg''

theorem zip_no_len : typeLookup (.type "zip") "__len__" = pure none := by rw [typeLookup_type, builtinLookup_eq_fast]; kernel_rfl
theorem zip_no_hint : typeLookup (.type "zip") "__length_hint__" = pure none := by rw [typeLookup_type, builtinLookup_eq_fast]; kernel_rfl
theorem ZSt.self {z TI TO i1 i2 l1 l2 : Addr} {xs ys : Array Value} {i : Nat} {Q : Value → Shared → Prop} (st : ZSt z TI TO i1 i2 l1 l2 xs ys i s.heap) (h : Q (.ref z) s) : wpAny (model prog w) A (pyIter (.ref z)) Q E s := by
  have hT := st.type
  refine wpAny_pyIter_slot hT F.slot_zip_iter (wpAny_call_entry F.slot_zip_iter hT F.entry_zip_iter ?_ (F.args_zip_iter_1 _))
  show wpAny _ _ (ret (.ref z)) _ _ s
  exact wpAny_pure ⟨_, rfl, "zip", _, hT, F.slot_zip_next.lookup, h⟩
theorem extend_with_zip {R : Result → Shared → Prop} {z TI TO i1 i2 l1 l2 S : Addr} {xs ys : Array Value} {lo c₀ : Nat} (hh : A.handled = none) (D : ZipApart z TI TO i1 i2 l1 l2) (hS : S ≠ z ∧ S ≠ TI ∧ S ≠ TO ∧ S ≠ i1 ∧ S ≠ i2 ∧ S ≠ l1 ∧ S ≠ l2)
    (hlo : z < lo ∧ TO < lo ∧ i1 < lo ∧ i2 < lo) (hn : min xs.size ys.size ≤ sizeLine) (res : Value) (hlo' : lo ≤ s.heap.objs.size) (hst : ZSt z TI TO i1 i2 l1 l2 xs ys 0 s.heap)
    (hSo : s.heap.get? S = some { cls := .type "list", data := .seq #[] c₀ })
    (hR : ∀ h' Ts' c', (∀ b o, b ≠ S → b ≠ z → b ≠ TO → b ≠ i1 → b ≠ i2 → s.heap.get? b = some o → h'.get? b = some o) → h'.get? S = some { cls := .type "list", dict := none, data := .seq (Ts'.map Value.ref).toArray c', slots := #[] } →
      Got xs ys lo S h' (min xs.size ys.size) Ts' → R (.ok (.ret res)) { s with heap := h' }) :
    wpAny (model prog w) A.in1 (Builtin.List.listExtendWith (.ref S) (.ref z) res)
      (fun fin s' => match fin with | .done f => R (.ok f) s' | .again c' => c'.quiet = true ∧ codeAny (model prog w) A c' R s') (fun e s' => R (.error e) s') s := by
  unfold Builtin.List.listExtendWith
  refine wpAny_bind (wpAny_typeOf hst.type ?_)
  have h1 : Builtin.List.listSameRef (.ref S) (.ref z) = false := by simp [Builtin.List.listSameRef, hS.1]
  have h2 : (Value.type "zip" == Value.type "list") = false := by decide
  have h3 : (Value.type "zip" == Value.type "tuple") = false := by decide
  simp only [h1, h2, h3, Bool.or_false, Bool.false_eq_true, if_false]
  refine wpAny_bind (hst.self ?_)
  refine wpAny_bind (wpAny_holding ?_)
  unfold Builtin.List.listLengthHint
  refine wpAny_bind (wpAny_specialOf hst.type zip_no_len ?_)
  show wpAny _ A.in1 (specialOf (Value.ref z) (Str.ofString "__length_hint__") >>= _) _ _ _
  refine wpAny_bind (wpAny_specialOf hst.type zip_no_hint ?_)
  refine wpAny_pure ?_
  show wpAny _ A.in1 (rule "list.extend.makes-room" >>= fun _ => Builtin.List.listTouch (.ref S) >>= fun _ =>
    again (.builtin "list.extend.loop" ⟨[.ref S, .ref z, res], []⟩)) _ _ _
  refine wpAny_bind (wpAny_rule ?_)
  refine wpAny_bind ?_
  show wpAny _ A.in1 (updateSeq S (·.push .none) >>= fun _ => updateSeq S (·.pop)) _ _ _
  refine wpAny_bind (wpAny_updateSeq hSo rfl ?_)
  have hS₂ := Heap.get?_update_self (Obj.mapSeq (·.push Value.none)) hSo rfl
  refine wpAny_updateSeq (hz := by seq_fits) hS₂ rfl ?_
  have hS₃ := Heap.get?_update_self (Obj.mapSeq (·.pop)) hS₂ rfl
  have oth : ∀ b o, b ≠ S → s.heap.get? b = some o → ((s.heap.update S (Obj.mapSeq (·.push Value.none))).update S (Obj.mapSeq (·.pop))).get? b = some o :=
    fun b o hb e => (Heap.get?_update_other _ _ (Ne.symm hb)).trans ((Heap.get?_update_other _ _ (Ne.symm hb)).trans e)
  have szu : ((s.heap.update S (Obj.mapSeq (·.push Value.none))).update S (Obj.mapSeq (·.pop))).objs.size = s.heap.objs.size := ((Heap.SameBut.update ..).1).trans (Heap.SameBut.update ..).1
  refine wpAny_pure ⟨plainId_quiet F.plain_extend_loop _, extend_zip hh D hS hlo hn res (min xs.size ys.size) 0 _ [] _ rfl (Nat.zero_le _) (by show lo ≤ Array.size _; rw [szu]; exact hlo') ?_ hS₃ ⟨rfl, List.nodup_nil, fun j T e => by simp at e⟩ fun h'' Ts' c' hk'' hS'' hg'' => ?_⟩
  · refine hst.keeps S hS (fun T oT b hz hT => ?_) oth
    by_cases e : T = S
    · subst e; exact ⟨_, hS₃⟩
    · exact ⟨oT, oth T oT e hT⟩
  · exact hR h'' Ts' c' (fun b o c0 c1 c2 c3 c4 e => hk'' b o c0 c1 c2 c3 c4 (oth b o c0 e)) hS'' hg''
theorem call_list_zipped {z TI TO i1 i2 l1 l2 : Addr} {xs ys : Array Value} {Q : Value → Shared → Prop} (hh : A.handled = none) (D : ZipApart z TI TO i1 i2 l1 l2) (hst : ZSt z TI TO i1 i2 l1 l2 xs ys 0 s.heap)
    (hlt : z < s.heap.objs.size ∧ TI < s.heap.objs.size ∧ TO < s.heap.objs.size ∧ i1 < s.heap.objs.size ∧ i2 < s.heap.objs.size ∧ l1 < s.heap.objs.size ∧ l2 < s.heap.objs.size) (hn : min xs.size ys.size ≤ sizeLine)
    (hQ : ∀ h' Ts c, (∀ b o, b ≠ z → b ≠ TO → b ≠ i1 → b ≠ i2 → s.heap.get? b = some o → h'.get? b = some o) → h'.get? s.heap.objs.size = some { cls := .type "list", dict := none, data := .seq (Ts.map Value.ref).toArray c, slots := #[] } →
      Got xs ys s.heap.objs.size s.heap.objs.size h' (min xs.size ys.size) Ts → Q (.ref s.heap.objs.size) { s with heap := h' }) :
    wpAny (model prog w) A (call (.type "list") [.ref z]) Q E s := by
  obtain ⟨q1, q2, q3, q4, q5, q6, q7⟩ := hlt
  have hS : s.heap.objs.size ≠ z ∧ s.heap.objs.size ≠ TI ∧ s.heap.objs.size ≠ TO ∧ s.heap.objs.size ≠ i1 ∧ s.heap.objs.size ≠ i2 ∧ s.heap.objs.size ≠ l1 ∧ s.heap.objs.size ≠ l2 :=
    ⟨Nat.ne_of_gt q1, Nat.ne_of_gt q2, Nat.ne_of_gt q3, Nat.ne_of_gt q4, Nat.ne_of_gt q5, Nat.ne_of_gt q6, Nat.ne_of_gt q7⟩
  refine callType_codes (Q₁ := fun obj s₁ => obj = .ref s.heap.objs.size ∧ s₁ = { s with heap := s.heap.push { cls := .type "list", data := .seq #[] } }) F.called_list (F.typeCall_list_1 _) F.entry_list_init
    (code_list_new _ ⟨rfl, rfl⟩) fun obj s₁ h₁ => ?_
  obtain ⟨rfl, rfl⟩ := h₁
  have hSo : (s.heap.push { cls := .type "list", data := .seq #[] }).get? s.heap.objs.size = some { cls := .type "list", data := .seq #[] } := Heap.get?_push_size _ rfl
  refine ⟨⟨_, hSo, rfl⟩, F.args_list_init_2 _ _, ?_⟩
  show wpAny _ A.in1.in1 (do let old ← Builtin.List.listItems (.ref s.heap.objs.size); Builtin.List.listUpdate (.ref s.heap.objs.size) (fun _ => #[]); letGo old.toList.reverse; Builtin.List.listExtendWith (.ref s.heap.objs.size) (.ref z) .none) _ _ _
  refine wpAny_bind ?_
  unfold Builtin.List.listItems
  refine wpAny_bind (wpAny_seqItems hSo rfl (wpAny_pure ?_))
  show wpAny _ A.in1.in1 (updateSeq s.heap.objs.size (fun _ => #[]) >>= fun _ => letGo (#[] : Array Value).toList.reverse >>= fun _ => Builtin.List.listExtendWith (.ref s.heap.objs.size) (.ref z) .none) _ _ _
  refine wpAny_bind (wpAny_updateSeq hSo rfl ?_)
  have hS₂ := Heap.get?_update_self (Obj.mapSeq (fun _ => (#[] : Array Value))) hSo rfl
  have oth : ∀ b o, b ≠ s.heap.objs.size → s.heap.get? b = some o → ((s.heap.push { cls := .type "list", data := .seq #[] }).update s.heap.objs.size (Obj.mapSeq (fun _ => (#[] : Array Value)))).get? b = some o :=
    fun b o hb e => (Heap.get?_update_other _ _ (Ne.symm hb)).trans (Heap.get?_push_of_some _ e)
  have szu : ((s.heap.push { cls := .type "list", data := .seq #[] }).update s.heap.objs.size (Obj.mapSeq (fun _ => (#[] : Array Value)))).objs.size = s.heap.objs.size + 1 := ((Heap.SameBut.update ..).1).trans (Heap.size_push ..)
  refine wpAny_bind (wpAny_letGo ?_)
  refine extend_with_zip (A := A.in1) (lo := s.heap.objs.size) hh D hS ⟨q1, q3, q4, q5⟩ hn .none (by show _ ≤ Array.size _; rw [szu]; exact Nat.le_succ _) ?_ hS₂ fun h' Ts c hk hS' hg => ?_
  · refine hst.keeps s.heap.objs.size hS (fun T oT b hz hT => ⟨oT, oth T oT (Nat.ne_of_lt (Heap.lt_size hT)) hT⟩) oth
  · exact ⟨rfl, hQ h' Ts c (fun b o c1 c2 c3 c4 e => hk b o (Nat.ne_of_lt (Heap.lt_size e)) c1 c2 c3 c4 (oth b o (Nat.ne_of_lt (Heap.lt_size e)) e)) hS' hg⟩
theorem call_zip_list {l1 l2 : Addr} {xs ys : Array Value} {Q : Value → Shared → Prop} (hh : A.handled = none) (hl1 : s.heap.IsList l1 xs) (hl2 : s.heap.IsList l2 ys) (hn : min xs.size ys.size ≤ sizeLine)
    (hQ : ∀ h' Ts c, (∀ b o, s.heap.get? b = some o → h'.get? b = some o) → h'.get? (s.heap.objs.size + 5) = some { cls := .type "list", dict := none, data := .seq (Ts.map Value.ref).toArray c, slots := #[] } →
      Got xs ys (s.heap.objs.size + 5) (s.heap.objs.size + 5) h' (min xs.size ys.size) Ts → Q (.ref (s.heap.objs.size + 5)) { s with heap := h' }) :
    wpAny (model prog w) A (call (.type "zip") [.ref l1, .ref l2]) (fun zv s₁ => wpAny (model prog w) A (call (.type "list") [zv]) Q E s₁) E s := by
  have hlt1 : l1 < s.heap.objs.size := by obtain ⟨_, e, _⟩ := hl1; exact Heap.lt_size e
  have hlt2 : l2 < s.heap.objs.size := by obtain ⟨_, e, _⟩ := hl2; exact Heap.lt_size e
  refine call_zip_2 hl1 hl2 fun h' hz hTI hTO hi1 hi2 hsz hk => ?_
  have up : ∀ k b, b < s.heap.objs.size → b < s.heap.objs.size + k := fun k b hb => Nat.lt_of_lt_of_le hb (Nat.le_add_right _ _)
  have ne : ∀ (k : Nat) (b : Addr), b < s.heap.objs.size → b ≠ s.heap.objs.size + k := fun k b hb => Nat.ne_of_lt (up k b hb)
  have D : ZipApart (s.heap.objs.size + 4) (s.heap.objs.size + 2) (s.heap.objs.size + 3) s.heap.objs.size (s.heap.objs.size + 1) l1 l2 := by
    refine ⟨?_, ?_, ?_, ?_, ?_, ?_, ?_, ?_, ?_, ?_, ne 4 _ hlt1, ne 3 _ hlt1, Nat.ne_of_lt hlt1, ne 1 _ hlt1, ne 4 _ hlt2, ne 3 _ hlt2, Nat.ne_of_lt hlt2, ne 1 _ hlt2⟩ <;>
      (generalize s.heap.objs.size = n; intro e; have e' : (_ : Nat) = _ := e; omega)
  refine call_list_zipped (s := { s with heap := h' }) hh D ⟨.inl ⟨hz, rfl⟩, hTI, ⟨_, _, hTO⟩, hi1, hi2, hl1.at fun o e => hk _ o e, hl2.at fun o e => hk _ o e⟩ ?_ hn fun h'' Ts c hk' hS' hg => ?_
  · show s.heap.objs.size + 4 < h'.objs.size ∧ _
    rw [hsz]
    refine ⟨?_, ?_, ?_, ?_, ?_, up 5 _ hlt1, up 5 _ hlt2⟩ <;> (generalize s.heap.objs.size = n; show (_ : Nat) < _; omega)
  · have e : ({ s with heap := h' } : Shared).heap.objs.size = s.heap.objs.size + 5 := hsz
    rw [e] at hS' hg ⊢
    refine hQ h'' Ts c (fun b o q => ?_) hS' hg
    have hb := Heap.lt_size q
    exact hk' b o (ne 4 b hb) (ne 3 b hb) (Nat.ne_of_lt hb) (ne 1 b hb) (hk b o q)
end
end ZL

namespace ZR
open PySem
open Sem (wp)
section
variable {prog : Program} {w : World} {A : Around} {E : Value → Shared → Prop} {s : Shared}
end
end ZR

namespace DL
open PySem
section
variable {prog : Program} {w : World} {K : Type} [DecidableEq K] {knd : HeapKind prog w K} {A : Around} {E : Value → Shared → Prop} {s : Shared}
theorem dictSetDefault_heap {d a : Addr} {xs : List (K × Addr × Value)} {k : K} {v : Value} {Q : Value → Shared → Prop} (hu : knd.room A) (hkey : knd.is s.heap k a) (hm : s.heap.DictOfH knd d xs)
    (h1 : ∀ p, atKey xs k = some p → Q p.2 { s with toks := s.toks + knd.draws k })
    (h2 : atKey xs k = none → ∀ h', h'.DictOfH knd d (storedH xs k a v) → Heap.SameBut d s.heap h' → Q v { s with heap := h', toks := s.toks + knd.draws k })
    (hsz : xs.length ≤ sizeLine) :
    wpAny (model prog w) A (dictSetDefault d (.ref a) v) Q E s := by
  obtain ⟨o, es, ep, ho, hc, hd, he, his, hn⟩ := hm
  unfold dictSetDefault
  try with_reducible refine wpAny_holding ?_
  refine wpAny_bind (knd.pyHash hu hkey ?_)
  refine wpAny_bind (wpAny_dictFind_heap (s := { s with toks := s.toks + knd.draws k }) hu hkey ho hd he his hn ?_ ?_)
  · intro hno
    have hnot : k ∉ xs.map (·.1) := not_mem_keys_of_get hno
    refine wpAny_bind (wpAny_rule (wpAny_bind (wpAny_updateDictKeys (hz := by have e := size_of_entries he; omega) (s := { s with toks := s.toks + knd.draws k }) ho hd (wpAny_pure (h2 (atKey_none_of_get hno) _ ⟨_, _, ep + 1, Heap.get?_update_self _ ho (Obj.isFreed_of_dict (Obj.data_mapDictKeys hd _)),
      hc.mapDictKeys _, Obj.data_mapDictKeys hd _, ?_, ?_, ?_⟩ (Heap.SameBut.update ..))))))
    · rw [storedH_new (atKey_none_of_get hno)]
      simp [he, entryOfKey]
    · rw [storedH_new (atKey_none_of_get hno)]
      intro x hx
      rcases List.mem_append.mp hx with hx | hx
      · exact knd.keeps (his x hx) ho hd (Heap.SameBut.update ..)
      · simp only [List.mem_singleton] at hx
        subst hx
        exact knd.keeps hkey ho hd (Heap.SameBut.update ..)
    · rw [storedH_new (atKey_none_of_get hno)]
      rw [List.map_append, List.nodup_append]
      refine ⟨hn, by simp, ?_⟩
      intro x hx y hy
      simp only [List.map_cons, List.map_nil, List.mem_singleton] at hy
      subst hy
      exact fun e => hnot (e ▸ hx)
  · intro j p hj
    refine wpAny_bind (wpAny_dictEntries (s := { s with toks := s.toks + knd.draws k }) ho hd ?_)
    rw [entry_at he j, hj]
    exact wpAny_bind (wpAny_rule (wpAny_pure (h1 p (atKey_of_get hn hj))))
theorem meetsH_setdefault (knd : HeapKind prog w K) (d a : Addr) (hd : (d == sysModules) = false) (dflt : Value) :
    MeetsIn prog w (Builtin.«dict.setdefault» ⟨[.ref d, .ref a, dflt], []⟩) (fun A R s => knd.room A.in1 ∧ ∃ k xs, knd.is s.heap k a ∧ s.heap.DictOfH knd d xs ∧ xs.length ≤ sizeLine ∧
      (∀ p, atKey xs k = some p → R (.ok (.ret p.2)) { s with toks := s.toks + knd.draws k }) ∧
      (atKey xs k = none → ∀ h', h'.DictOfH knd d (storedH xs k a dflt) → Heap.SameBut d s.heap h' → R (.ok (.ret dflt)) { s with heap := h', toks := s.toks + knd.draws k })) :=
  .of_wp fun A R s ⟨hu, k, xs, hkey, hm, hz, h1, h2⟩ => by
    unfold Builtin.«dict.setdefault»
    refine wpAny_bind ?_
    unfold Builtin.Dict.keyAndDefault
    refine wpAny_bind (wpAny_notOrdered_dict hm.typeIs ?_)
    show wpAny _ _ (pure (d, Value.ref a, some dflt)) _ _ s
    refine wpAny_pure ?_
    show wpAny _ _ (if (d == sysModules) = true then _ else (dictSetDefault d (.ref a) dflt >>= _)) _ _ s
    rw [if_neg (by rw [hd]; exact Bool.false_ne_true)]
    exact wpAny_bind (dictSetDefault_heap hu hkey hm (fun p hp => wpAny_pure ⟨p.2, rfl, h1 p hp⟩) (fun hn h' hm' hs' => wpAny_pure ⟨dflt, rfl, h2 hn h' hm' hs'⟩) hz)
end
end DL

namespace DL
open PySem
section
variable {prog : Program} {w : World} {K : Type} [DecidableEq K] {knd : HeapKind prog w K} {A : Around} {E : Value → Shared → Prop} {s : Shared}
theorem meetsH_len (knd : HeapKind prog w K) (d : Addr) (hd : (d == sysModules) = false) :
    MeetsIn prog w (Builtin.«dict.__len__» ⟨[.ref d], []⟩) (fun _ R s => ∃ xs, s.heap.DictOfH knd d xs ∧ R (.ok (.ret (.int xs.length s.toks))) { s with toks := s.toks + 1 }) :=
  .of_wp fun A R s ⟨xs, hm, h⟩ => by
    obtain ⟨o, es, ep, ho, hc, hdd, he, _⟩ := id hm
    have hsz : es.size = xs.length := size_of_entries he
    show wpAny _ _ (dictSize d >>= _) _ _ s
    unfold dictSize
    refine wpAny_bind (wpAny_bind (wpAny_dictEntries ho hdd (wpAny_pure ?_)))
    show wpAny _ _ (Builtin.Dict.pendingCount d >>= _) _ _ s
    refine wpAny_bind (wpAny_pendingCount_other hd ?_)
    refine wpAny_ret_mkInt ?_
    rw [Nat.add_zero, hsz]; exact h
theorem call_len_heap {d : Addr} {xs : List (K × Addr × Value)} {Q : Value → Shared → Prop} (hd : (d == sysModules) = false) (hm : s.heap.DictOfH knd d xs) (hfit : (xs.length : Int) < 2 ^ 63)
    (h : Q (.int xs.length (s.toks + 1)) { s with toks := s.toks + 1 + 1 }) : wpAny (model prog w) A (call (.builtin "len") [.ref d]) Q E s := by
  refine Calls.call_function_entry kind_len plain_len entry_len (args_len1 _) ?_
  unfold Builtin.«len»
  refine wpAny_bind (m := oneArg "len" _) (wpAny_pure ?_)
  refine wpAny_bind (m := callSpecial? (.ref d) (Str.ofString "__len__")) (wpAny_callSpecial?_slot (name := Str.ofString "__len__") hm.typeIs F.slot_dict_len
    (call_meetsIn F.slot_dict_len hm.typeIs F.entry_dict_len (F.args_dict_len_1 _) (meetsH_len knd d hd) ⟨xs, hm, ?_⟩))
  show wpAny _ _ _ _ _ { s with toks := s.toks + 1 }
  refine wpAny_bind (wpAny_holding (wpAny_pure ?_))
  refine wpAny_bind (wpAny_letGo ?_)
  show wpAny _ _ (if ((xs.length : Nat) : Int) < 0 then _ else _) _ _ _
  rw [if_neg (by omega)]
  show wpAny _ _ (if ((xs.length : Nat) : Int) ≥ 2 ^ 63 then _ else _) _ _ _
  rw [if_neg (by omega)]
  exact wpAny_bind (wpAny_mkInt (wpAny_pure ⟨_, rfl, h⟩))
end
end DL

set_option Elab.async false
namespace XC
open PySem PySem.W PySem.Calls PyProof.Rows PySem.Builtin PySem.Builtin.ObjectAttr PySem.Builtin.Getset_descriptor
def ExcAt (h : Heap) (x D : Addr) : Prop := ∃ ox vs, h.get? x = some ox ∧ ox.cls = .ref D ∧ ox.data = .fields vs
theorem ExcAt.type {M : Model} {h : Heap} {x D : Addr} (p : ExcAt h x D) : Looks M h (typeOf (.ref x)) (.ref D) := by
  obtain ⟨o, _, h1, h2, _⟩ := p
  exact h2 ▸ (Looks.ld h1).andThen .now
section
variable {prog : Program} {w : World} {A : Around} {E : Value → Shared → Prop} {s : Shared} {K : Frag} {x D : Addr}
theorem check_ga {nameV : Value} {Q : Unit → Shared → Prop} (X : K.In s.heap) (I : ExcAt s.heap x D) (hb : mroIn K D (.type "BaseException") = some true) (h : Q () s) :
    wpAny (model prog w) A (checkBuiltinCall "BaseException.__getattribute__" ⟨[.ref x, nameV], []⟩) Q E s := by
  obtain ⟨hh, g, dr, t, os⟩ := s
  have L0 := I.type (M := model prog w)
  have L1 := looks_mroIn (M := model prog w) X hb
  have hk : builtinKind "BaseException.__getattribute__" = some .slot := by decide +kernel
  have hsplit : splitId "BaseException.__getattribute__" = some ("BaseException", "__getattribute__") := by decide +kernel
  have ha := F.args_bexc_ga (.ref x) nameV
  simp only [checkBuiltinCall, hk, hsplit]
  unfold isInstance
  repeat lk
  exact h
theorem slot_bga : Slot "BaseException" "__getattribute__" "BaseException.__getattribute__" :=
  .of (owner := "BaseException") (n := "__getattribute__") (by rw [typeLookup_type, builtinLookup_eq_fast]; kernel_rfl) (by decide +kernel) (by decide +kernel) (by decide +kernel)
    (by first | exact .inl (by decide +kernel) | exact .inr (by decide +kernel)) (by rw [isSubtype_type]; kernel_rfl)
theorem cls_get {R : Result → Shared → Prop} {tp : Value} (X : K.In s.heap) (I : ExcAt s.heap x D) (hm : mroIn K D (.type "object") = some true)
    (h : R (.ok (.ret (.ref D))) s) : codeAny (model prog w) A (.call (.builtin "getset_descriptor.__get__") ⟨[.builtin "object.__class__", .ref x, tp], []⟩) R s := by
  obtain ⟨hh, g, dr, t, os⟩ := s
  have L0 := I.type (M := model prog w)
  have L1 := looks_mroIn (M := model prog w) X hm
  refine codeAny_call_builtin KF.slot_gs.plain KF.entry_gs (KF.slot_gs.check _ _ _ _ _ _ _ _ KF.type_class (KF.args_gs _ _ _) ?_)
  unfold Builtin.«getset_descriptor.__get__» descrGet
  rw [dga_obj]
  refine wpAny_bind (wpAny_pure ?_)
  unfold descrGetter descrCheckInstance descrNameAndClass isInstance
  simp only [KF.owner_class]
  repeat lk
  refine ⟨Code.quiet_builtin _ (by decide +kernel), codeAny_builtin KF.entry_class ?_⟩
  unfold Builtin.«object.__class__» shownTypeOf
  repeat lk
  exact h
structure ExcCls (K : Frag) (D : Addr) : Prop where
  cls : (clsIn K D).isSome = true
  ga : findIn K (.ref D) "__getattribute__" = some (some (.builtin "BaseException.__getattribute__"))
  gn : findIn K (.ref D) "__getattr__" = some none
  bb : mroIn K D (.type "BaseException") = some true
  ob : mroIn K D (.type "object") = some true
  ca : findIn K (.ref D) "__class__" = some (some (.builtin "object.__class__"))
  cg : specialIn K (.builtin "object.__class__") "__get__" = some (some (.builtin "getset_descriptor.__get__"))
  ct : takesIn K (.builtin "object.__class__") = some true
theorem looks_class {M : Model} {h : Heap} (X : K.In h) (C : ExcCls K D) : Looks M h (Builtin.ObjectAttr.find (.ref x) (.ref D) "__class__") (.bind (.builtin "getset_descriptor.__get__") (.builtin "object.__class__")) := by
  have L1 := looks_findIn (M := M) X C.ca
  have L2 : Looks M h (Builtin.ObjectAttr.getOf (some (.builtin "object.__class__"))) (some (.builtin "getset_descriptor.__get__")) := looks_specialIn X C.cg
  have L3 := looks_takesIn (M := M) X C.ct
  exact L1.andThen (L2.andThen ((show Looks M h (Builtin.ObjectAttr.dataDescriptor? (some (.builtin "object.__class__")) (some (.builtin "getset_descriptor.__get__"))) (some (.builtin "getset_descriptor.__get__", .builtin "object.__class__")) from L3.andThen .now).andThen (Looks.tag .now)))
theorem exc_class {Q : Option Value → Shared → Prop} (X : K.In s.heap) (I : ExcAt s.heap x D) (C : ExcCls K D)
    (h : Q (some (.ref D)) { s with toks := s.toks + 1 }) : wpAny (model prog w) A (getAttr? (.ref x) "__class__") Q E s := by
  obtain ⟨hh, g, d, t, os⟩ := s
  have L0 := I.type (M := model prog w)
  have L1 := looks_findIn (M := model prog w) X C.ga
  have L2 := looks_findIn (M := model prog w) X C.gn
  have L3 := looks_class (M := model prog w) (x := x) X C
  have f3 := slot_bga.bind (.ref x)
  unfold getAttr? getAttrBy? getAttrBy
  refine wpAny_bind (wpAny_mkText (wpAny_bind (wpAny_attempt (wpAny_holding (wpAny_bind (L0.at (wpAny_bind (L1.at ?_))))))))
  show wpAny _ _ (getAttrByItsOwn _ _ _ _ _ _) _ _ _
  unfold getAttrByItsOwn hookBefore
  refine wpAny_bind (L2.at ?_)
  refine wpAny_bind (wpAny_attempt (wpAny_holding ?_))
  show wpAny _ _ (boundAndCalled (.builtin "BaseException.__getattribute__") (.ref x) (.str "__class__" t)) _ _ _
  unfold boundAndCalled
  refine wpAny_bind ?_
  refine wpAny_of_eq f3 ?_
  show wpAny _ _ (call (.builtin "BaseException.__getattribute__") [.ref x, .str "__class__" t]) _ _ _
  refine wpAny_call (codeAny_call_builtin slot_bga.plain F.entry_bexc_ga (check_ga (s := ⟨hh, g, d, t + 1, os⟩) X I C.bb ?_))
  unfold Builtin.«object.__getattribute__»
  repeat ((fail_if_success (with_reducible show wpAny _ _ (call _ _) _ _ _)); lk)
  refine wpAny_call (cls_get (s := ⟨hh, g, d, t + 1, os⟩) X I C.ob ?_)
  repeat lk
  exact h
theorem kitx_exc (C : ExcCls K D) : KitX K (.ref x) (.ref D) (fun h => ExcAt h x D) where
  ty := fun _ _ _ I => I.type
  it := fun _ _ X _ => by
    obtain ⟨cdD, hcD⟩ := Option.isSome_iff_exists.mp C.cls
    unfold clsIn at hcD
    split at hcD
    · rename_i c' d' cd' sl' ho
      intro A' Q' E' s' k q
      unfold isType loadHead
      exact wpAny_bind (wpAny_loadPart (k _ _ (X _ _ ho)) (wpAny_pure q))
    · cases hcD
  ne := fun h tp dd its n sl X htp => by
    obtain ⟨cdD, hcD⟩ := Option.isSome_iff_exists.mp C.cls
    refine Bool.eq_false_iff.mpr fun q => ?_
    have e : D = tp := Value.ref.inj (beq_iff_eq.mp q)
    subst e
    unfold clsIn at hcD
    split at hcD
    · rename_i c' d' cd' sl' ho
      have z := (X _ _ ho).symm.trans htp
      cases z
    · cases hcD
  ca := fun X I k => exc_class X I C k
theorem exc_matches {e : Addr} {c : Value} {b : Bool} {Q : Bool → Shared → Prop} (X : K.In s.heap) (I : ExcAt s.heap e D) (hc : kitCls K (.ref D) c = some b) (hs : kitCls K c (.type "BaseException") = some true) (h : Q b s) :
    wpAny (model prog w) A (excMatches (.ref e) c) Q E s := by
  obtain ⟨hh, g, d, t, os⟩ := s
  have L0 := I.type (M := model prog w)
  obtain ⟨L1, L2, L3⟩ := kit_cls (M := model prog w) X hc
  obtain ⟨_, _, L4⟩ := kit_cls (M := model prog w) X hs
  have L5 : Looks (model prog w) hh (isSubtype (.type "type") (.type "tuple")) false := Looks.of_pure tc_notTuple
  unfold excMatches isInstance isExcClass
  repeat ((fail_if_success (with_reducible show Q _ _)); lk)
  cases b with
  | true => rw [if_pos rfl]; repeat ((fail_if_success (with_reducible show Q _ _)); lk)
            exact h
  | false => rw [if_neg Bool.false_ne_true]; repeat ((fail_if_success (with_reducible show Q _ _)); lk)
             exact h
end
end XC

namespace L2
open PySem PySem.Spec PyProof.Rows
def Cx.comp (X : Cx) (scope : Scope) (N' : List Str) (C : Addr) (fp : List Addr) (s : Shared) (H : Hp) : Cx :=
  { X with env := compEnvC scope (capt X.env.cells scope.names []) C X.env, N := N', s₀ := s, H₀ := H, outer := X.stack, stack := X.stack, ex := fp, fn := fun _ => false, pn := [], xe := fun _ _ => False }
def capSt (ix : List (Option Nat)) (σ : St) : St := ix.map fun o => match o with
  | none => none
  | some i => (σ[i]?).getD none
section
variable {X : Cx} {scope : Scope} {N' : List Str} {ix : List (Option Nat)} {fp : List Addr} {pins : List (Addr × Obj)} {σ : St} {H : Hp} {s : Shared} {C : Addr}
theorem comp_cells (I : Inv X pins σ H s) (hk : CompOk scope X.env.scope X.N N' ix) : ∀ y c, (capt X.env.cells scope.names []).lookup y = some c → X.env.cells.lookup y = some c := fun y c e => by
  rcases capt_from _ _ _ y c e with ⟨c', q⟩ | q
  · simp at q
  · have h1 := capt_eq X.env.cells scope.names [] (fun _ _ z => by simp at z) y c e
    obtain ⟨c2, h2⟩ := I.ok.has y (hk.out (y, .free) q rfl)
    rw [h2] at h1 ⊢
    exact congrArg some h1.symm
theorem inv_comp {h₁ : Heap} {m : Str → Option Value} {tk : Nat} (hk : CompOk scope X.env.scope X.N N' ix) (I : Inv X pins σ H s) (f2 : ∀ b ∈ fp, FpOk X pins H b) (f3 : ∀ b ∈ fp, b < s.heap.objs.size)
    (hC : s.heap.objs.size ≤ C) (hn : h₁.Ns C m) (old : ∀ b o, s.heap.get? b = some o → h₁.get? b = some o) :
    Inv (X.comp scope N' C fp s H) [] (capSt ix σ) H { s with heap := h₁, toks := tk } := by
  have cells := comp_cells I hk
  refine ⟨⟨I.ok.mod, hk.kind, I.ok.glob, I.ok.blt, hC, fun x y c h1 h2 => I.ok.inj x y c (cells x c h1) (cells y c h2), fun x hx => ?_, fun x c hf => absurd (show false = true from hf) (by decide), I.ok.hd, I.ok.frames, .inl rfl, fun b hb => ⟨?_, fun x c e => (f2 b hb).2.2.2.2.1 x c (cells x c e)⟩, I.bs, Nat.le_trans I.ok.bsz I.sz, fun b o e hb => ?_, fun b hb hz => ?_, I.stack, I.stkFree⟩,
    rfl, I.bare, Un.kept old, ⟨m, hn, fun j x v e1 e2 e3 => ?_⟩, fun x c e => ?_, I.hok.fresh hC, fun x c e => I.freeC x c (cells x c e), fun p hp => absurd (show p ∈ ([] : List (Addr × Obj)) from hp) (by simp), I.hok.kept old, ?_⟩
  · refine capt_has _ _ _ _ (.inl ?_)
    rcases hx with hx | hx
    · exact of_relabel (env := X.env) hk.nocell (.inl rfl) hx
    · exact of_relabel (env := X.env) hk.nocell (.inr rfl) hx
  · exact Nat.ne_of_lt (Nat.lt_of_lt_of_le (f3 b hb) hC)
  · rcases (f2 b hb).2.2.2.1 with z | z
    · exact I.ok.noex b o e z
    · exact absurd (Nat.lt_of_lt_of_le (Heap.lt_size (I.ok.bs b o e).1) z) (Nat.lt_irrefl _)
  · rcases List.mem_cons.mp (I.stkSub b hz) with e | e
    · exact (f2 b hb).2.1 e
    · exact (f2 b hb).2.2.1 e
  · have e2' : (ix.map fun o => match o with
        | none => none
        | some i => (σ[i]?).getD none)[j]? = some (some v) := e2
    rw [List.getElem?_map] at e2'
    cases q : ix[j]? with
    | none => rw [q] at e2'; cases e2'
    | some o =>
      rw [q] at e2'
      cases o with
      | none => exact nomatch (show some none = some (some v) from e2')
      | some i =>
        have e4 : some ((σ[i]?).getD none) = some (some v) := e2'
        have e5 : σ[i]? = some (some v) := by
          cases r : σ[i]? with
          | none => rw [r] at e4; exact nomatch (show some none = some (some v) from e4)
          | some z => rw [r] at e4; rw [show z = some v from Option.some.inj e4]
        obtain ⟨hN, hf⟩ := hk.cap j i x q e1
        have hm := PySem.mem_of_lookup hf
        have ho := hk.out (x, .free) hm rfl
        obtain ⟨m0, hn0, hl0⟩ := I.loc
        obtain ⟨u, r, l⟩ := hl0 i x v hN e5 (by rcases ho with z | z; exact .inr (.inl z); exact .inr (.inr z))
        refine ⟨u, r, .inr ⟨relabel_free (env := X.env) hf, ?_⟩⟩
        rcases l with ⟨hl, _⟩ | ⟨_, c, e, o, ho', hd⟩
        · have hl' : X.env.scope.names.lookup x = some .local := hl
          rcases ho with z | z
          · rw [hl'] at z; cases z
          · rw [hl'] at z; cases z
        · obtain ⟨c', hc'⟩ := capt_has X.env.cells scope.names [] x (.inl hm)
          have hc := cells x c' hc'
          rw [e] at hc
          cases hc
          exact ⟨c, hc', o, old c o ho', hd⟩
  · obtain ⟨v, o, ho, hd⟩ := I.cell x c (cells x c e)
    exact ⟨v, o, old c o ho, hd⟩
  · show (ix.map _).length = N'.length
    rw [List.length_map]
    exact hk.len
theorem Inv.adopt {a : Addr} {o : HO} (I : Inv X pins σ H s) (f : FpOk X pins H a) (hx : X.s₀.heap.objs.size ≤ a) (new : ObjOk X.prog X.w (upd H a o) s.heap a o) : Inv X pins σ (upd H a o) s := by
  obtain ⟨hn, hL, hf, _, hc, hp⟩ := f
  have lt : ∀ b ob, X.s₀.heap.get? b = some ob → b ≠ a := fun b ob e => Nat.ne_of_lt (Nat.lt_of_lt_of_le (Heap.lt_size e) hx)
  refine ⟨I.ok, I.os, I.bare, ⟨I.base.keep, I.base.slot, fun b ob e n hx => ?_, I.base.there, fun b xs e => ?_, fun b ob u e => ?_, fun b ps e => ?_⟩, I.loc, I.cell, ?_, fun x c e => ?_, fun p hp' => ?_, fun b u e => ?_, I.len⟩
  · rw [upd_ne (lt b ob e)]; exact I.base.free b ob e n hx
  · have q := I.base.tups b xs e
    rw [upd_ne (ne_of_none q hn)]; exact q
  · have q := I.base.frzs b ob u e
    rw [upd_ne (ne_of_none q hn)]; exact q
  · obtain ⟨more, q⟩ := I.base.tbls b ps e
    exact ⟨more, by rw [upd_ne (ne_of_none q hn)]; exact q⟩
  · rw [upd_ne hL.symm]; exact I.free
  · rw [upd_ne (hc x c e)]; exact I.freeC x c e
  · obtain ⟨q1, q2, q3⟩ := I.pin p hp'
    exact ⟨q1, by rw [upd_ne (hp p hp')]; exact q2, q3⟩
  · by_cases hb : b = a
    · subst hb; rw [upd_same] at e; cases e; exact new
    · rw [upd_ne hb] at e
      exact (I.hok b u e).stay (fun _ _ _ q => q) (fun c q => by rw [upd_ne (ne_of_none q hn)]; exact q) fun c xs q => by rw [upd_ne (ne_of_none q hn)]; exact q
end
section
variable {prog : Program} {w : World} {A : Around} {R : Result → Shared → Prop} {s : Shared}
theorem compLoop_go {elt target iter : Expr} {ifs : List Expr} {scope : Scope} {pos : Pos} {it acc : Value} {env : Env} (I : Nat → Shared → Prop)
    (turn : ∀ n s, I n s → wpAny (model prog w) A (pyNext it) (fun r s₁ => match r with
      | none => R (.ok .next) s₁
      | some v => wpAny (model prog w) A (letOwnedTupleGo target it v) (fun _ s1' => wpAny (model prog w) A (assign target env v) (fun _ s₂ =>
          wpAny (model prog w) A (forIn ifs true fun c r => if r = true then do let ok ← isTrue c env (eval c env); pure (ForInStep.yield ok) else pure (ForInStep.yield r)) (fun ok s₃ =>
            if ok = true then wpAny (model prog w) A (eval elt env) (fun x s₄ => wpAny (model prog w) A (call (.builtin "list.append") [acc, x]) (fun _ s₅ => ∃ m, m < n ∧ I m s₅) (fun _ _ => False) s₄) (fun _ _ => False) s₃
            else ∃ m, m < n ∧ I m s₃) (fun _ _ => False) s₂) (fun _ _ => False) s1') (fun _ _ => False) s₁) (fun _ _ => False) s)
    (n : Nat) (h : I n s) : codeAny (model prog w) A (.compLoop (.ListComp elt [⟨target, iter, ifs, 0⟩] scope pos) 0 it acc env) R s := by
  refine codeAny_loop rfl I (fun n s hI => ?_) n h
  show wpAny _ A ((compTurn (.ListComp elt [⟨target, iter, ifs, 0⟩] scope pos) 0 it acc env).onRaise (fun x => do noteFrame x env; theTreesLotGoes x)) _ _ s
  refine wpAny_noted (wpAny_mono (E := fun _ _ => False) ?_ (fun _ _ q => q) fun _ _ f => f.elim)
  rw [compTurn_list]
  refine wpAny_bind (wpAny_standAt (wpAny_bind (thn (turn n s hI) fun r s₁ h₁ => ?_)))
  cases r with
  | none => exact wpAny_pure h₁
  | some v =>
    refine wpAny_bind (thn h₁ fun _ s1' h1' => wpAny_bind (thn h1' fun _ s₂ h₂ => wpAny_bind (thn h₂ fun ok s₃ h₃ => ?_)))
    cases ok with
    | false => exact wpAny_pure ⟨rfl, h₃⟩
    | true => exact wpAny_bind (wpAny_bind (thn h₃ fun x s₄ h₄ => wpAny_bind (thn h₄ fun _ s₅ h₅ => wpAny_pure (wpAny_pure ⟨rfl, h₅⟩))))
end
def PTs (X : Cx) (ifs : List Expr) (t : TT) : Prop :=
  ∀ (pins : List (Addr × Obj)) (s : Shared) (σ : St) (H : Hp) (Q : Bool → Hp → Prop), Inv X pins σ H s → t σ H Q →
    wpAny (model X.prog X.w) X.A (forIn ifs true fun c r => if r = true then do let ok ← isTrue c X.env (eval c X.env); pure (ForInStep.yield ok) else pure (ForInStep.yield r)) (TP X pins σ Q) X.xe s
def tTrue : TT := fun _ H Q => Q true H
theorem pts_nil {X : Cx} : PTs X [] tTrue := fun _ _ _ H _ I h => wpAny_tests_nil ⟨H, I, h⟩
section
variable {X : Cx} {tg elt iter : Expr} {ifs : List Expr} {scope : Scope} {pos : Pos} {N' : List Str} {ix : List (Option Nat)} {g : TG} {tc : TT} {te : TE} {pins : List (Addr × Obj)} {σ : St} {H : Hp} {s : Shared}
theorem comp_core {E : Value → Shared → Prop} (hk : CompOk scope X.env.scope X.N N' ix) (hc : X.calm = true) (hg : ∀ C fp s H, PG (X.comp scope N' C fp s H) tg g) (ht : ∀ C fp s H, PTs (X.comp scope N' C fp s H) ifs tc)
    (he : ∀ C fp s H, PE (X.comp scope N' C fp s H) elt te) {it : Addr} {fp : List Addr} {tn : Nat → Heap → Prop} {J : It} (I2 : Inv X pins σ H s) (T : Turn X.prog X.w X.K tg J fp it tn) (st : tn 0 s.heap) (f2 : ∀ b ∈ fp, FpOk X pins H b)
    {Qe : List V → Hp → Prop} {W : Nat → Nat → List V → St → Hp → Prop} {m0 : Nat} (w0 : W 0 m0 [] (capSt ix σ) H)
    (turn : ∀ i m ys τ H, W i m ys τ H → (J.stop i H ∧ Qe ys H) ∨ (J.go i H ∧ ys.length < sizeLine ∧ ∃ N : List V → St → Hp → Prop, (∀ zs τ' H', N zs τ' H' → ∃ m', m' < m ∧ W (i + 1) m' zs τ' H') ∧ ∀ x H', J.yld i H x H' → g x τ H' fun τ1 H1 => tc τ1 H1 fun b H2 =>
      if b = true then te τ1 H2 fun y H3 => N (ys ++ [y]) τ1 H3 else N ys τ1 H2))
    {RR : Value → Addr → Result → Shared → Prop}
    (fin : ∀ (D C : Addr) (ys : List V) (its : List Value) (n : Nat) (H' : Hp) (s' : Shared) (m : Str → Option Value), s.heap.objs.size ≤ D → s.heap.objs.size ≤ C → D ≠ C → s'.heap.Ns C m → H' D = none → H' C = none → ys.length ≤ sizeLine →
      Vals ys its → s'.heap.get? D = some { cls := .type "list", data := .seq its.toArray n } → Inv X pins σ H' s' → Qe ys H' → RR (.ref D) C (.ok .next) s') :
    wpAny (model X.prog X.w) X.A (newList []) (fun acc s₃ => wpAny (model X.prog X.w) X.A (newFunctionEnv scope X.env.globals (capt X.env.cells scope.names []) [] X.env.qual none .none (some X.env)) (fun cenv s₄ =>
      codeAny (model X.prog X.w) X.A (.compStart (.ListComp elt [⟨tg, iter, ifs, 0⟩] scope pos) 0 (.ref it) acc { cenv with scope := relabel scope X.env }) (RR acc cenv.locals) s₄) E s₃) E s := by
  have f3 : ∀ b ∈ fp, b < s.heap.objs.size := fun b hb => let ⟨o, e, _⟩ := T.obj 0 _ st b hb; Heap.lt_size e
  refine wpAny_newObj_type (wpAny_newFunctionEnv hk.nocell (by intro y hy; simp at hy) (fun h₁ hns₁ hsb₁ => ?_) hk.kind)
  dsimp only at hns₁ hsb₁ ⊢
  generalize hH2 : s.heap.push { cls := .type "list", dict := none, data := .seq ([] : List Value).toArray } = G2 at hns₁ hsb₁ ⊢
  have hCs : G2.objs.size = s.heap.objs.size + 1 := by rw [← hH2, Heap.size_push]
  generalize hCC : G2.objs.size = C at hns₁ hsb₁ hCs ⊢
  generalize hDD : s.heap.objs.size = D at hCs ⊢
  have hDC : D ≠ C := by rw [hCs]; exact Nat.ne_of_lt (Nat.lt_succ_self _)
  have hsC : s.heap.objs.size ≤ C := by rw [hCs, hDD]; exact Nat.le_succ _
  have hsD : s.heap.objs.size ≤ D := Nat.le_of_eq hDD
  have old : ∀ b o, s.heap.get? b = some o → h₁.get? b = some o := fun b o e => hsb₁.extBut b o (Nat.ne_of_lt (Nat.lt_of_lt_of_le (Heap.lt_size e) hsC)) (Heap.get?_push_of_some _ (hH2 ▸ Heap.get?_push_of_some _ e))
  have hacc : h₁.get? D = some { cls := .type "list", data := .seq ([] : List Value).toArray } := hsb₁.extBut _ _ hDC (Heap.get?_push_of_some _ (hH2 ▸ hDD ▸ Heap.get?_push_size _ rfl))
  have frD : H D = none := I2.hok.fresh hsD
  have nD : ∀ b, b < s.heap.objs.size → b ≠ D := fun b hb => Nat.ne_of_lt (Nat.lt_of_lt_of_le hb hsD)
  have dfs : D ∉ frs X.stack := fun hb => by
    rcases List.mem_cons.mp (I2.stkSub D hb) with e | e
    · exact absurd I2.lt (by rw [← e]; exact Nat.not_lt.mpr hsD)
    · exact I2.nofs hsD e
  have cellD : ∀ x c, (capt X.env.cells scope.names []).lookup x = some c → c ≠ D := fun x c e => by
    obtain ⟨v, q⟩ := I2.cell x c (comp_cells I2 hk x c e)
    exact nD c q.lt
  have pinD : ∀ {τ : St} {H' : Hp} {s' : Shared} {o : Obj}, Inv (X.comp scope N' C fp s H) [] τ H' s' → s'.heap.get? D = some o → H' D = none → (∀ v, o.data ≠ .cell v) → Inv (X.comp scope N' C fp s H) [(D, o)] τ H' s' := fun I e n d =>
    I.pins_of fun p hp => by
      rw [List.mem_singleton] at hp
      subst hp
      exact ⟨e, n, hDC, dfs, d⟩
  have stat : ∀ {H' : Hp} {o : Obj}, (∀ b ∈ fp, H' b = none) → ∀ b ∈ fp, FpOk (X.comp scope N' C fp s H) [(D, o)] H' b := fun {H' o} hn b hb => by
    obtain ⟨_, q1, q2, _, q4, _⟩ := f2 b hb
    refine ⟨hn b hb, Nat.ne_of_lt (Nat.lt_of_lt_of_le (f3 b hb) hsC), fun z => ?_, .inl hb, fun x c e => q4 x c (comp_cells I2 hk x c e), fun p hp => ?_⟩
    · rcases List.mem_cons.mp (I2.stkSub b z) with e | e
      · exact q1 e
      · exact q2 e
    · have hp' : p ∈ [(D, o)] := hp
      rw [List.mem_singleton] at hp'
      subst hp'
      exact (nD b (f3 b hb)).symm
  have loop : ∀ s₃ : Shared, s₃ = { s with heap := h₁, toks := s.toks + ([] : List (Str × Value)).length } →
      codeAny (model X.prog X.w) X.A (.compLoop (.ListComp elt [⟨tg, iter, ifs, 0⟩] scope pos) 0 (.ref it) (.ref D) (compEnvC scope (capt X.env.cells scope.names []) C X.env)) (RR (.ref D) C) s₃ := by
    rintro s₃ rfl
    refine compLoop_go (fun n s' => ∃ i ys its no τ H', Inv (X.comp scope N' C fp s H) [] τ H' s' ∧ tn i s'.heap ∧ (∀ b ∈ fp, H' b = none) ∧ H' D = none ∧ ys.length ≤ sizeLine ∧ Vals ys its ∧
      s'.heap.get? D = some { cls := .type "list", data := .seq its.toArray no } ∧ W i n ys τ H') ?_ m0
      ⟨0, [], [], 0, capSt ix σ, H, inv_comp hk I2 f2 f3 hsC hns₁ old, T.keep _ _ _ st fun b _ o e => old b o e, fun b hb => (f2 b hb).1, frD, Nat.zero_le _, .nil, hacc, w0⟩
    rintro n s3 ⟨i, ys, its, no, τ, H3, I3, st3, fr3, hD3, hz, rv, hd, w3⟩
    have I3' := pinD I3 hd hD3 (fun v z => by
      have z' : Data.seq _ _ = Data.cell v := z
      cases z')
    rcases turn i n ys τ H3 w3 with ⟨stop, qe⟩ | ⟨go, hlt, N, hN, step⟩
    · refine thn (T.done (X.comp scope N' C fp s H) rfl rfl rfl hc i _ s3 τ H3 _ I3' (stat fr3) st3 stop) fun r s4 ⟨hr, I4⟩ => ?_
      subst hr
      obtain ⟨m, hm, _⟩ := I4.loc
      obtain ⟨p1, p2, _⟩ := I4.pin (D, _) (List.mem_singleton.mpr rfl)
      refine fin D C ys its no H3 s4 m hsD hsC hDC hm p2 I4.free hz rv p1 ?_ qe
      exact I2.call' (ch := fp) I4.os I4.base I4.hok I4.bare fun b hb => let ⟨_, q1, _, q3, q4, q5⟩ := f2 b hb; ⟨q3, q1, q4, q5⟩
    · refine thn (T.item (X.comp scope N' C fp s H) rfl rfl rfl hc i _ s3 τ H3 _ I3' (stat fr3) st3 go) fun r s4 ⟨u, hr, h4⟩ => ?_
      subst hr
      refine thn h4 fun _ s5 ⟨x, H5, I5, r5, y5, st5, fr5⟩ => ?_
      have I5' := I5.pinned (fp := fp) (stat fr5) (T.obj _ _ st5)
      refine thn (hg C fp s H _ s5 τ H5 x u _ I5' r5 (step x H5 y5)) fun _ s6 ⟨τ6, H6, I6, q6⟩ => ?_
      refine thn (ht C fp s H _ s6 τ6 H6 _ I6 q6) fun b s7 ⟨H7, I7, q7⟩ => ?_
      have back : ∀ {τ' : St} {H' : Hp} {s' : Shared}, Inv (X.comp scope N' C fp s H) ([(D, { cls := .type "list", data := .seq its.toArray no })] ++ pinsAt fp s5.heap) τ' H' s' →
          tn (i + 1) s'.heap ∧ (∀ b ∈ fp, H' b = none) ∧ H' D = none ∧ s'.heap.get? D = some { cls := .type "list", data := .seq its.toArray no } ∧ Inv (X.comp scope N' C fp s H) [] τ' H' s' := fun {τ' H' s'} I' => by
        have pD := I'.pin (D, { cls := .type "list", data := .seq its.toArray no }) (List.mem_append_right _ (List.mem_append_left _ (List.mem_singleton.mpr rfl)))
        refine ⟨T.keep _ _ _ st5 fun b hb o e => (I'.pin (b, o) (List.mem_append_right _ (List.mem_append_right _ (mem_pinsAt hb e)))).1, fun b hb => ?_, pD.2.1, pD.1, I'.pins_of fun p hp => by simp at hp⟩
        obtain ⟨o, e, d⟩ := T.obj _ _ st5 b hb
        exact (I'.pin (b, o) (List.mem_append_right _ (List.mem_append_right _ (mem_pinsAt hb e)))).2.1
      cases b with
      | false =>
        obtain ⟨m', hm, w7⟩ := hN _ _ _ q7
        obtain ⟨a1, a2, a3, a4, a5⟩ := back I7
        exact ⟨m', hm, i + 1, ys, its, no, τ6, H7, a5, a1, a2, a3, hz, rv, a4, w7⟩
      | true =>
        refine thn (he C fp s H _ s7 τ6 H7 _ I7 q7) fun v s8 ⟨y, H8, I8, r8, q8⟩ => ?_
        obtain ⟨m', hm, w8⟩ := hN _ _ _ q8
        obtain ⟨a1, a2, a3, a4, a5⟩ := back I8
        have hl := rv.length
        refine call_meets F.slot_list_append ⟨_, a4, rfl⟩ F.entry_list_append (F.args_list_append_2 _ _) (PySem.list_append D its.toArray no v (by rw [List.size_toArray]; omega)) ⟨a4, ?_⟩
        have e9 := PySem.IsL.update a4 (·.push v)
        have e10 : its.toArray.push v = (its ++ [v]).toArray := by simp
        rw [e10] at e9
        refine ⟨m', hm, i + 1, ys ++ [y], its ++ [v], _, τ6, H8, a5.turned (it := D) (fun b o hb e => (Heap.get?_update_other s8.heap _ (Ne.symm hb)).trans e) a3 hDC (.inr hsD) cellD (fun p hp => absurd (show p ∈ ([] : List (Addr × Obj)) from hp) (by simp)),
          T.keep _ _ _ a1 fun b hb o e => (Heap.get?_update_other s8.heap _ (Ne.symm (nD b (f3 b hb)))).trans e, a2, a3, ?_, rv.append (.cons r8 .nil), e9, w8⟩
        rw [List.length_append, List.length_singleton]
        omega
  exact codeAny_compStart_list (loop _ rfl) (T.self _ _ _ _ _ (T.keep _ _ _ st fun b _ o e => old b o e) (loop _ rfl))

def CompEnd (J : It) (g : TG) (tc : TT) (te : TE) (Q : VK) (τ0 : St) (H : Hp) : Prop := ∃ W : Nat → Nat → List V → St → Hp → Prop, (∃ m, W 0 m [] τ0 H) ∧ ∀ i m ys τ H, W i m ys τ H →
  (J.stop i H ∧ ∀ D, H D = none → Q (.ref D) (upd H D (.lst ys))) ∨ (J.go i H ∧ ys.length < sizeLine ∧ ∃ N : List V → St → Hp → Prop, (∀ zs τ' H', N zs τ' H' → ∃ m', m' < m ∧ W (i + 1) m' zs τ' H') ∧ ∀ x H', J.yld i H x H' → g x τ H' fun τ1 H1 => tc τ1 H1 fun b H2 =>
    if b = true then te τ1 H2 fun y H3 => N (ys ++ [y]) τ1 H3 else N ys τ1 H2)
def tComp (ix : List (Option Nat)) (wi : TI) (g : TG) (tc : TT) (te : TE) : TE := fun σ H Q => wi σ H fun J H1 => CompEnd J g tc te Q (capSt ix σ) H1
variable {wi : TI}
theorem pe_comp (N' : List Str) (ix : List (Option Nat)) (hk : compOk scope X.env.scope X.N N' ix = true) (hc : X.calm = true) (hi : PI X tg iter wi) (hg : ∀ C fp s H, PG (X.comp scope N' C fp s H) tg g)
    (ht : ∀ C fp s H, PTs (X.comp scope N' C fp s H) ifs tc) (he : ∀ C fp s H, PE (X.comp scope N' C fp s H) elt te) (hs : ∀ x, foldedSetIterable iter X.env x = pure x := by intro _; rfl) :
    PE X (.ListComp elt [⟨tg, iter, ifs, 0⟩] scope pos) (tComp ix wi g tc te) := by
  intro pins s σ H Q I h
  have hk := compOk_of hk
  rw [eval_ListComp]
  refine wpAny_comprehension_free (use := none) rfl hs (capt_closure fun y hy hf => I.ok.has y.1 (hk.out y hy hf)) hk.kind hk.names (thn (hi pins s σ H _ I h) fun v s1 h1 => thn h1 fun itv s2 h2 => ?_)
  obtain ⟨it, fp, tn, J, H2, e, I2, T, st2, f2, W, ⟨m0, w0⟩, turn⟩ := h2
  subst e
  refine comp_core (RR := fun acc C => compPost (model X.prog X.w) X.A X.xe none (EP X pins σ Q) acc C) hk hc hg ht he I2 T st2 f2 w0 turn fun D C ys its n H' s' m hD hC hDC hn hHD hHC hz rv hd I' q => ?_
  refine ⟨m, hn, fun h' hs' => ?_⟩
  obtain ⟨_, c1, c2, c3, c4, c5⟩ := I2.fpOk hC hHC
  have I3 : Inv X pins σ H' { s' with heap := h' } := I'.turned (it := C) (t' := s'.toks) (fun b o hb e => (hs'.2 b hb).trans e) hHC c1 c3 c4 c5
  refine ⟨.ref D, _, I3.adopt (o := .lst ys) (I2.fpOk hD hHD) (Nat.le_trans I2.sz hD) ⟨hz, its, n, rv, (hs'.2 D hDC).trans hd⟩, rfl, q D hHD⟩
theorem ps_comp {k : Nat} {y : Str} {py spos : Pos} (N' : List Str) (ix : List (Option Nat)) (hk : compOk scope X.env.scope X.N N' ix = true) (hc : X.calm = true) (hN : X.N.Nodup) (hky : X.N[k]? = some y) (hx : Loc X.env.scope y) (hi : PI X tg iter wi)
    (hg : ∀ C fp s H, PG (X.comp scope N' C fp s H) tg g) (ht : ∀ C fp s H, PTs (X.comp scope N' C fp s H) ifs tc) (he : ∀ C fp s H, PE (X.comp scope N' C fp s H) elt te)
    (hsw : swapsWith (.ListComp elt [⟨tg, iter, ifs, 0⟩] scope pos) (some (.Name y py)) spos.line X.env = pure true := by rfl) (hs : ∀ x, foldedSetIterable iter X.env x = pure x := by intro _; rfl)
    (hf : X.fn y = true ∨ X.env.scope.names.lookup y = some .local := by first | exact .inl rfl | exact .inr rfl | assumption) :
    PS X (.Assign [.Name y py] (.ListComp elt [⟨tg, iter, ifs, 0⟩] scope pos) spos) (tAsg (tComp ix wi g tc te) (gName k)) := by
  intro pins s σ H D' I h
  have hk := compOk_of hk
  rw [exec_Assign_Name_used _ _ _ _ hsw]
  refine wpAny_bind (wpAny_standAt (wpAny_bind ?_))
  show wpAny _ X.A (do let _ ← comprehension (.ListComp elt [⟨tg, iter, ifs, 0⟩] scope pos) scope X.env _ (newList []) false (eval iter X.env) (some (assign (.Name y py) X.env))) _ _ s
  refine wpAny_bind (thn (wpAny_comprehension_free (use := some (assign (.Name y py) X.env)) (Q := fun _ s' => SP X pins D' .next s') rfl hs (capt_closure fun y hy hf => I.ok.has y.1 (hk.out y hy hf)) hk.kind hk.names
    (thn (hi pins s σ H _ I h) fun v s1 h1 => thn h1 fun itv s2 h2 => ?_)) fun _ s' hq => wpAny_pure (wpAny_pure hq))
  obtain ⟨it, fp, tn, J, H2, e, I2, T, st2, f2, W, ⟨m0, w0⟩, turn⟩ := h2
  subst e
  refine comp_core (RR := fun acc C => compPost (model X.prog X.w) X.A X.xe (some (assign (.Name y py) X.env)) (fun _ s' => SP X pins D' .next s') acc C) hk hc hg ht he I2 T st2 f2 w0 turn fun D C ys its n H' s' m hD hC hDC hn hHD hHC hz rv hd I' q => ?_
  have I3 := I'.adopt (o := .lst ys) (I2.fpOk hD hHD) (Nat.le_trans I2.sz hD) ⟨hz, its, n, rv, hd⟩
  refine wpAny_assign_Name (store_ok2 I3 hN hky hx (v := .ref D) rfl (fun s'' I4 ⟨a, hsb, ha⟩ => ?_) hf)
  obtain ⟨_, c1, c2, c3, c4, c5⟩ := I2.fpOk hC hHC
  have hCa : C ≠ a := by
    rcases ha with e | e
    · rw [e]; exact c1
    · exact (c4 _ _ e).symm
  refine ⟨m, hn.sameBut hsb hCa, fun h' hs' => ⟨_, _, I4.turned (it := C) (t' := s''.toks) (fun b o hb e => (hs'.2 b hb).trans e) (by rw [upd_ne hDC.symm]; exact hHC) c1 c3 c4 c5, q D hHD⟩⟩
end
theorem comp_list {K : PySem.W.Frag} {a : Addr} {xs : List V} {g : TG} {tc : TT} {te : TE} {Q : VK} {τ0 : St} {H : Hp} (Pv : Nat → List V → St → Hp → Prop) (h0 : Pv 0 [] τ0 H) (hl : ∀ i ys τ H, i ≤ xs.length → Pv i ys τ H → SqL K H a xs ∧ ys.length < sizeLine)
    (hs : ∀ i x ys τ H, xs[i]? = some x → Pv i ys τ H → g x τ H fun τ1 H1 => tc τ1 H1 fun b H2 => if b = true then te τ1 H2 fun y H3 => Pv (i + 1) (ys ++ [y]) τ1 H3 else Pv (i + 1) ys τ1 H2)
    (hd : ∀ ys τ H, Pv xs.length ys τ H → ∀ D, H D = none → Q (.ref D) (upd H D (.lst ys))) : CompEnd (Itl K a) g tc te Q τ0 H := by
  refine ⟨fun i m ys τ H => m = xs.length - i ∧ i ≤ xs.length ∧ Pv i ys τ H, ⟨xs.length, by simp, Nat.zero_le _, h0⟩, ?_⟩
  rintro i m ys τ H ⟨rfl, hi, p⟩
  obtain ⟨q, z⟩ := hl i ys τ H hi p
  by_cases hlt : i < xs.length
  · refine .inr ⟨⟨xs, xs[i], q, by simp [hlt]⟩, z, Pv (i + 1), fun zs τ' H' p' => ⟨xs.length - (i + 1), by omega, rfl, hlt, p'⟩, fun x H' y => ?_⟩
    obtain ⟨e, y⟩ := y
    subst e
    exact hs i x ys τ _ (y xs q) p
  · have e : i = xs.length := by omega
    subst e
    exact .inl ⟨⟨xs, q, Nat.le_refl _⟩, hd ys τ H p⟩
theorem comp_range {lo : Int} {n : Nat} {g : TG} {tc : TT} {te : TE} {Q : VK} {τ0 : St} {H : Hp} (Pv : Nat → List V → St → Hp → Prop) (h0 : Pv 0 [] τ0 H) (hl : ∀ i ys τ H, i ≤ n → Pv i ys τ H → ys.length < sizeLine)
    (hs : ∀ i ys τ H, i < n → Pv i ys τ H → g (.int (lo + i)) τ H fun τ1 H1 => tc τ1 H1 fun b H2 => if b = true then te τ1 H2 fun y H3 => Pv (i + 1) (ys ++ [y]) τ1 H3 else Pv (i + 1) ys τ1 H2)
    (hd : ∀ ys τ H, Pv n ys τ H → ∀ D, H D = none → Q (.ref D) (upd H D (.lst ys))) : CompEnd (Itr lo n) g tc te Q τ0 H := by
  refine ⟨fun i m ys τ H => m = n - i ∧ i ≤ n ∧ Pv i ys τ H, ⟨n, by simp, Nat.zero_le _, h0⟩, ?_⟩
  rintro i m ys τ H ⟨rfl, hi, p⟩
  have z := hl i ys τ H hi p
  by_cases hlt : i < n
  · refine .inr ⟨hlt, z, Pv (i + 1), fun zs τ' H' p' => ⟨n - (i + 1), by omega, rfl, hlt, p'⟩, fun x H' y => ?_⟩
    obtain ⟨e, y⟩ := y
    subst e y
    exact hs i ys τ _ hlt p
  · have e : i = n := by omega
    subst e
    exact .inl ⟨Nat.le_refl _, hd ys τ H p⟩
def tCut (R : St → Hp → Prop) (t u : TS) : TS := fun D σ H => (∀ σ' H', R σ' H' → u D σ' H') ∧ t { D with nx := R } σ H
theorem pss_cut {X : Cx} {st : Stmt} {rest : List Stmt} {t u : TS} (R : St → Hp → Prop) (h1 : PS X st t) (h2 : PSs X rest u) : PSs X (st :: rest) (tCut R t u) := by
  intro pins s σ H D I h
  refine wpAny_execs_cons (thn (h1 pins s σ H { D with nx := R } I h.2) fun f s1 q => ?_)
  cases f with
  | next =>
    obtain ⟨σ', H', I', q⟩ := q
    exact h2 pins s1 σ' H' D I' (h.1 σ' H' q)
  | ret v => exact q
  | brk => exact q
  | cont => exact q
end L2

namespace L2
open PySem PySem.Spec PyProof.Rows
def updT (H : Hp) : List (Addr × List V) → Hp
  | [] => H
  | p :: r => updT (upd H p.1 (.tup p.2)) r
theorem updT_out : ∀ (l : List (Addr × List V)) (H : Hp) (b : Addr), b ∉ l.map (·.1) → updT H l b = H b
  | [], _, _, _ => rfl
  | p :: r, H, b, h => by
    unfold updT
    rw [updT_out r _ b (fun z => h (List.mem_cons_of_mem _ z)), upd_ne (fun z => h (by rw [z]; exact List.mem_cons_self))]
theorem updT_in : ∀ (l : List (Addr × List V)) (H : Hp) (p : Addr × List V), (l.map (·.1)).Nodup → p ∈ l → updT H l p.1 = some (.tup p.2)
  | [], _, _, _, h => by simp at h
  | q :: r, H, p, nd, h => by
    have nd' : (q.1 :: r.map (·.1)).Nodup := nd
    obtain ⟨h1, h2⟩ := List.nodup_cons.mp nd'
    unfold updT
    rcases List.mem_cons.mp h with e | h
    · subst e
      rw [updT_out r _ _ h1, upd_same]
    · exact updT_in r _ p h2 h
section
variable {X : Cx} {pins : List (Addr × Obj)} {σ : St} {s : Shared}
theorem Inv.adopts : ∀ {l : List (Addr × List V)} {H : Hp}, Inv X pins σ H s → (l.map (·.1)).Nodup →
    (∀ p ∈ l, FpOk X pins H p.1 ∧ X.s₀.heap.objs.size ≤ p.1 ∧ p.2.length ≤ sizeLine ∧ ∃ its : List Value, Vals p.2 its ∧ IsTup s.heap p.1 its.toArray) → Inv X pins σ (updT H l) s
  | [], _, I, _, _ => I
  | p :: r, H, I, nd, h => by
    have nd' : (p.1 :: r.map (·.1)).Nodup := nd
    obtain ⟨h1, h2⟩ := List.nodup_cons.mp nd'
    obtain ⟨f, hx, hz, its, rv, ht⟩ := h p List.mem_cons_self
    show Inv X pins σ (updT (upd H p.1 (.tup p.2)) r) s
    refine Inv.adopts (l := r) (H := upd H p.1 (.tup p.2)) (I.adopt (o := .tup p.2) f hx ⟨hz, its, rv, ht⟩) h2 fun q hq => ?_
    obtain ⟨f', hx', r'⟩ := h q (List.mem_cons_of_mem _ hq)
    refine ⟨⟨?_, f'.2⟩, hx', r'⟩
    rw [upd_ne (fun e => h1 (by rw [← e]; exact List.mem_map_of_mem hq))]
    exact f'.1
end
theorem same_upd {H : Hp} {p : Addr} (h : H p = none) (o : HO) : Same H (upd H p o) := fun b u q => by rw [upd_ne (ne_of_none q h)]; exact q
theorem same_updT {l : List (Addr × List V)} {H : Hp} (h : ∀ p ∈ l, H p.1 = none) : Same H (updT H l) := fun b u q => by
  rw [updT_out]
  · exact q
  · intro z
    obtain ⟨p, hp, e⟩ := List.mem_map.mp z
    have := h p hp
    rw [e, q] at this
    cases this
def tLZ (K : PySem.W.Frag) (ta : TA) : TE := fun σ H Q => ta σ H fun vs H1 => ∃ a b xs ys, vs = [.ref a, .ref b] ∧ SqL K H1 a xs ∧ SqL K H1 b ys ∧
  ∀ (D : Addr) (Ts : List Addr) (H2 : Hp), H1 D = none → Same H1 H2 → H2 D = some (.lst (Ts.map V.ref)) → Ts.length = min xs.length ys.length →
    (∀ (j : Nat) (T : Addr), Ts[j]? = some T → H1 T = none ∧ ∃ x y, xs[j]? = some x ∧ ys[j]? = some y ∧ H2 T = some (.tup [x, y])) → Q (.ref D) H2
section
variable {X : Cx} {a b : Expr} {ta : TA} {p p1 pos pos1 : Pos}
theorem pe_listzip (hc : X.calm = true) (hgL : Gl X "list") (hmL : X.mg "list" = none) (hgZ : Gl X "zip") (hmZ : X.mg "zip" = none) (ha : PA X [a, b] ta)
    (he : starEach [.Call (.Name "zip" p1) [a, b] [] pos1] X.env = [(false, eval (.Call (.Name "zip" p1) [a, b] [] pos1) X.env)] := by rfl)
    (hs : starEach [a, b] X.env = [(false, eval a X.env), (false, eval b X.env)] := by rfl) (hs2 : starEach [b] X.env = [(false, eval b X.env)] := by rfl) :
    PE X (.Call (.Name "list" p) [.Call (.Name "zip" p1) [a, b] [] pos1] [] pos) (tLZ X.K ta) := by
  intro pins s σ H Q I h
  refine wpAny_Call_Name_kw (ld_blt I hgL hmL boot_list ?_)
  refine PyProof.Rows.callWith_type1 ?_ he rfl
  rw [he]
  show wpAny _ _ (spliced ((false, eval (.Call (.Name "zip" p1) [a, b] [] pos1) X.env) :: [])) _ _ s
  refine Calls.spliced_cons ?_
  refine wpAny_Call_Name_kw (ld_blt I hgZ hmZ boot_zip ?_)
  refine PyProof.Rows.callWith_type1 (thn (ha pos1 pins s σ H _ I h) fun us s1 ⟨vs, H1, I1, r1, q1⟩ => ?_) (by rw [hs, hs2]) (by rw [hs2]; rfl)
  obtain ⟨la, lb, xs, ys, rfl, hA, hB, q⟩ := q1
  obtain ⟨u, v, rfl, ru, rv⟩ := r1.two
  cases ru
  cases rv
  obtain ⟨its, rx, px, zx⟩ := I1.list hA
  obtain ⟨its2, ry, py, zy⟩ := I1.list hB
  have hlx := rx.length
  have hly := ry.length
  refine thn (ZL.call_zip_list (s := s1) (Q := fun w' s2 => EP X pins σ Q w' s2) (I1.ok.hd hc) px.isList py.isList (by simp only [List.size_toArray]; omega) fun h' Ts c hk hD hg => ?_) fun zv s2 h2 => Calls.spliced_nil h2
  obtain ⟨g1, g2, g3⟩ := hg
  have hmin : min its.toArray.size its2.toArray.size = min xs.length ys.length := by simp only [List.size_toArray]; omega
  have I2 : Inv X pins σ H1 { s1 with heap := h' } := I1.kept (t' := s1.toks) hk
  have hlo : s1.heap.objs.size ≤ s1.heap.objs.size + 5 := Nat.le_add_right _ _
  -- the pairs, as tracked
  have pair : ∀ (j : Nat) (T : Addr), Ts[j]? = some T → ∃ x y, xs[j]? = some x ∧ ys[j]? = some y ∧ ∃ us : List Value, Vals [x, y] us ∧ IsTup h' T us.toArray := fun j T e => by
    obtain ⟨_, _, _, u, v, e1, e2, e3⟩ := g3 j T e
    have hj : j < Ts.length := (List.getElem?_eq_some_iff.mp e).1
    have hjx : j < xs.length := by omega
    have hjy : j < ys.length := by omega
    obtain ⟨u', hu', ru'⟩ := rx.get (List.getElem?_eq_getElem hjx)
    obtain ⟨v', hv', rv'⟩ := ry.get (List.getElem?_eq_getElem hjy)
    have eu : u' = u := by
      have : its.toArray[j]? = some u' := by simpa using hu'
      rw [this] at e1; exact Option.some.inj e1
    have ev : v' = v := by
      have : its2.toArray[j]? = some v' := by simpa using hv'
      rw [this] at e2; exact Option.some.inj e2
    subst eu ev
    exact ⟨xs[j], ys[j], List.getElem?_eq_getElem hjx, List.getElem?_eq_getElem hjy, [u', v'], .cons ru' (.cons rv' .nil), ⟨_, e3, rfl, _, rfl⟩⟩
  let dat : Nat → Addr × List V := fun j => ((Ts[j]?).getD 0, [(xs[j]?).getD .non, (ys[j]?).getD .non])
  let l : List (Addr × List V) := (List.range Ts.length).map dat
  have hl1 : l.map (·.1) = Ts := by
    apply List.ext_getElem?
    intro j
    simp only [l, dat, List.map_map, List.getElem?_map]
    by_cases hj : j < Ts.length
    · rw [List.getElem?_range hj, List.getElem?_eq_getElem hj]
      simp [hj]
    · rw [List.getElem?_eq_none (by simpa using hj), List.getElem?_eq_none (by simpa using hj)]
      rfl
  have mem : ∀ (j : Nat) (T : Addr) (x y : V), Ts[j]? = some T → xs[j]? = some x → ys[j]? = some y → (T, [x, y]) ∈ l := fun j T x y e1 e2 e3 => by
    refine List.mem_map.mpr ⟨j, List.mem_range.mpr (List.getElem?_eq_some_iff.mp e1).1, ?_⟩
    simp only [dat, e1, e2, e3, Option.getD_some]
  have fromL : ∀ q ∈ l, ∃ (j : Nat) (T : Addr) (x y : V), Ts[j]? = some T ∧ xs[j]? = some x ∧ ys[j]? = some y ∧ q = (T, [x, y]) := fun q hq => by
    obtain ⟨j, hj, e⟩ := List.mem_map.mp hq
    have hj' := List.mem_range.mp hj
    obtain ⟨x, y, e2, e3, _⟩ := pair j _ (List.getElem?_eq_getElem hj')
    refine ⟨j, _, x, y, List.getElem?_eq_getElem hj', e2, e3, ?_⟩
    rw [← e]
    simp only [dat, List.getElem?_eq_getElem hj', e2, e3, Option.getD_some]
  have far : ∀ (T : Addr), s1.heap.objs.size + 5 ≤ T → FpOk X pins H1 T ∧ X.s₀.heap.objs.size ≤ T := fun T hT =>
    ⟨I1.fpOk (Nat.le_trans hlo hT) (I1.hok.fresh (Nat.le_trans hlo hT)), Nat.le_trans I1.sz (Nat.le_trans hlo hT)⟩
  have farL : ∀ q ∈ l, s1.heap.objs.size + 5 ≤ q.1 ∧ q.1 ≠ s1.heap.objs.size + 5 := fun q hq => by
    obtain ⟨j, T, x, y, e1, e2, e3, rfl⟩ := fromL q hq
    exact ⟨(g3 j T e1).1, (g3 j T e1).2.2.1⟩
  have I3 : Inv X pins σ (updT H1 l) { s1 with heap := h' } := by
    refine I2.adopts (by rw [hl1]; exact g2) fun q hq => ?_
    obtain ⟨f1, f2⟩ := far q.1 (farL q hq).1
    obtain ⟨j, T, x, y, e1, e2, e3, rfl⟩ := fromL q hq
    obtain ⟨x', y', d1, d2, us, d3, d4⟩ := pair j T e1
    rw [e2] at d1
    rw [e3] at d2
    cases d1
    cases d2
    exact ⟨f1, f2, by show 2 ≤ sizeLine; decide, us, d3, d4⟩
  have hDn : H1 (s1.heap.objs.size + 5) = none := I1.hok.fresh hlo
  have hDo : updT H1 l (s1.heap.objs.size + 5) = none := by
    rw [updT_out]
    · exact hDn
    · intro z
      obtain ⟨q, hq, e⟩ := List.mem_map.mp z
      exact (farL q hq).2 e
  obtain ⟨⟨_, f1⟩, f2⟩ := far _ (Nat.le_refl _)
  have vT : Vals (Ts.map V.ref) (Ts.map Value.ref) := by
    clear mem hl1 fromL farL I3 hDo dat l pair hD g1 g2 g3 q
    induction Ts with
    | nil => exact .nil
    | cons t r ih => exact .cons rfl ih
  have lenT : (Ts.map V.ref).length ≤ sizeLine := by rw [List.length_map]; omega
  have I4 : Inv X pins σ (upd (updT H1 l) (s1.heap.objs.size + 5) (.lst (Ts.map V.ref))) { s1 with heap := h' } := I3.adopt (o := .lst (Ts.map V.ref)) ⟨hDo, f1⟩ f2 ⟨lenT, Ts.map Value.ref, c, vT, hD⟩
  have sm1 : Same H1 (updT H1 l) := same_updT fun q hq => (far q.1 (farL q hq).1).1.1
  refine ⟨.ref (s1.heap.objs.size + 5), _, I4, rfl, q _ Ts _ hDn (sm1.trans (same_upd hDo _)) upd_same (by omega) fun j T e => ?_⟩
  obtain ⟨x, y, e2, e3, _⟩ := pair j T e
  have hm := mem j T x y e e2 e3
  refine ⟨(far T (farL _ hm).1).1.1, x, y, e2, e3, ?_⟩
  rw [upd_ne (farL _ hm).2]
  exact updT_in l H1 (T, [x, y]) (by rw [hl1]; exact g2) hm
end
end L2

namespace L2
open PySem PySem.Spec PyProof.Rows
theorem vals_int {ns : List Int} {its : List Value} (r : Vals (ns.map V.int) its) {j : Nat} {n : Int} (e : ns[j]? = some n) : ∃ t, its[j]? = some (.int n t) := by
  obtain ⟨u, hu, t, rfl⟩ := r.get (i := j) (x := .int n) (by rw [List.getElem?_map, e]; rfl)
  exact ⟨t, hu⟩
theorem all_range {α : Type} [DecidableEq α] {ns ms : List α} (h : ns.length = ms.length) {e : Nat → Bool} (he : ∀ j (h1 : j < ns.length) (h2 : j < ms.length), e j = decide (ns[j] = ms[j])) : (List.range ns.length).all e = decide (ns = ms) := by
  rw [Bool.eq_iff_iff, List.all_eq_true, decide_eq_true_iff]
  constructor
  · intro q
    apply List.ext_getElem h
    intro j h1 h2
    have := q j (List.mem_range.mpr h1)
    rw [he j h1 h2] at this
    exact of_decide_eq_true this
  · rintro rfl j hj
    have hj' := List.mem_range.mp hj
    rw [he j hj' hj']
    simp
section
variable {X : Cx} {pins : List (Addr × Obj)} {σ : St} {H : Hp} {s : Shared} {A : Around}
theorem items_int (I : Inv X pins σ H s) {a : Addr} {ns : List Int} (h : SqL X.K H a (ns.map V.int)) : ∃ its : Array Value, s.heap.IsList a its ∧ its.size = ns.length ∧ ∀ j (h1 : j < its.size) (h2 : j < ns.length), ∃ t, its[j] = .int ns[j] t := by
  obtain ⟨its, r, p, _⟩ := I.list h
  have hl := r.length
  rw [List.length_map] at hl
  refine ⟨its.toArray, p.isList, by rw [List.size_toArray]; exact hl.symm, fun j h1 h2 => ?_⟩
  obtain ⟨t, e⟩ := vals_int r (List.getElem?_eq_getElem h2)
  rw [List.size_toArray] at h1
  rw [List.getElem?_eq_getElem h1] at e
  exact ⟨t, by simpa using Option.some.inj e⟩
theorem rc_ints (I : Inv X pins σ H s) {a b : Addr} {ns ms : List Int} (ha : SqL X.K H a (ns.map V.int)) (hb : SqL X.K H b (ms.map V.int)) (hu : A.units < cLine) :
    SeqAt.RcAt A s (.ref a) (.ref b) (decide (ns = ms)) ∧ SeqAt.RcNeAt A s (.ref a) (.ref b) (!decide (ns = ms)) := by
  obtain ⟨i1, l1, z1, g1⟩ := items_int I ha
  obtain ⟨i2, l2, z2, g2⟩ := items_int I hb
  by_cases hl : ns.length = ms.length
  · have he : ∀ j (h1 : j < i1.size) (h2 : j < i2.size), SeqAt.EqAt A.in1 s i1[j] i2[j] (decide (ns.getD j 0 = ms.getD j 0)) := fun j h1 h2 => by
      obtain ⟨t, e1⟩ := g1 j h1 (by omega)
      obtain ⟨u, e2⟩ := g2 j h2 (by omega)
      rw [e1, e2]
      have := SeqAt.EqAt.int_int (A := A.in1) (s := s) (ns[j]'(by omega)) t (ms[j]'(by omega)) u
      have q : decide (ns.getD j 0 = ms.getD j 0) = ((ns[j]'(by omega)) == (ms[j]'(by omega))) := by
        rw [List.getD_eq_getElem?_getD, List.getD_eq_getElem?_getD, List.getElem?_eq_getElem (by omega : j < ns.length), List.getElem?_eq_getElem (by omega : j < ms.length)]
        rfl
      rw [q]
      exact this
    have al : (List.range i1.size).all (fun j => decide (ns.getD j 0 = ms.getD j 0)) = decide (ns = ms) := by
      rw [z1]
      refine all_range hl fun j h1 h2 => ?_
      rw [List.getD_eq_getElem?_getD, List.getD_eq_getElem?_getD, List.getElem?_eq_getElem h1, List.getElem?_eq_getElem h2]
      rfl
    have q1 := SeqAt.RcAt.lists l1 l2 (by omega) hu he
    have q2 := SeqAt.RcNeAt.lists l1 l2 (by omega) hu he
    rw [al] at q1 q2
    exact ⟨q1, q2⟩
  · have hd : decide (ns = ms) = false := decide_eq_false fun e => hl (by rw [e])
    rw [hd]
    have hne : (i1.size != i2.size) = true := by
      rw [z1, z2]
      simpa using hl
    exact ⟨SeqAt.RcAt.lists_lengths l1 l2 hne hu, SeqAt.RcNeAt.lists_lengths l1 l2 hne hu⟩
end
def rEqLI (K : PySem.W.Frag) (neg : Bool) : R2 := fun x y H Q => ∃ (a b : Addr) (ns ms : List Int), x = .ref a ∧ y = .ref b ∧ SqL K H a (ns.map V.int) ∧ SqL K H b (ms.map V.int) ∧ Q (.bl (if neg then !decide (ns = ms) else decide (ns = ms))) H
section
variable {X : Cx}
theorem op_eqLI (hu : X.A.units < cLine) : OpR X (compareOp .Eq) (rEqLI X.K false) := by
  intro pins s σ H x y v u Q I rx ry h
  obtain ⟨a, b, ns, ms, rfl, rfl, ha, hb, q⟩ := h
  cases rx
  cases ry
  exact (rc_ints I ha hb hu).1 _ _ _ _ ⟨.bl _, H, I, rfl, q⟩
end
structure Lab (K : PySem.W.Frag) (α : Type) [DecidableEq α] where
  rel : Hp → V → α → Prop
  mono : ∀ {H H' : Hp} {x : V} {a : α}, Same H H' → rel H x a → rel H' x a
  fn : ∀ {H : Hp} {x : V} {a b : α}, rel H x a → rel H x b → a = b
  eqAt : ∀ {X : Cx} {pins : List (Addr × Obj)} {σ : St} {H : Hp} {s : Shared} {A : Around} {x y : V} {u v : Value} {a b : α}, X.K = K → Inv X pins σ H s → RelV x u → RelV y v → rel H x a → rel H y b → A.units < cLine → SeqAt.EqAt A s u v (decide (a = b))
def labInt (K : PySem.W.Frag) : Lab K Int where
  rel := fun _ x a => x = .int a
  mono := fun _ h => h
  fn := fun h1 h2 => by
    rw [h1] at h2
    injection h2
  eqAt := fun {X pins σ H s A x y u v a b} _ _ rx ry hx hy _ => by
    subst hx hy
    obtain ⟨t, rfl⟩ := rx
    obtain ⟨t', rfl⟩ := ry
    have q : decide (a = b) = (a == b) := rfl
    rw [q]
    exact SeqAt.EqAt.int_int a t b t'
def labPair (K : PySem.W.Frag) : Lab K (Int × Int) where
  rel := fun H x a => ∃ p, x = .ref p ∧ H p = some (.tup [.int a.1, .int a.2])
  mono := fun h ⟨p, e, q⟩ => ⟨p, e, h _ _ q⟩
  fn := fun {H x a b} ⟨p, e, hp⟩ ⟨q, e', hq⟩ => by
    rw [e] at e'
    injection e' with e'
    subst e'
    rw [hp] at hq
    have z : HO.tup [V.int a.1, V.int a.2] = HO.tup [V.int b.1, V.int b.2] := Option.some.inj hq
    injection z with z
    rw [List.cons.injEq, List.cons.injEq] at z
    obtain ⟨z1, z2, _⟩ := z
    injection z1 with z1
    injection z2 with z2
    exact Prod.ext z1 z2
  eqAt := fun {X pins σ H s A x y u v a b} _ I rx ry hx hy hu => by
    obtain ⟨p, rfl, hp⟩ := hx
    obtain ⟨q, rfl, hq⟩ := hy
    cases rx
    cases ry
    by_cases e : p = q
    · subst e
      rw [hp] at hq
      have e1 : V.int a.1 = V.int b.1 ∧ V.int a.2 = V.int b.2 := by
        have z : HO.tup [V.int a.1, V.int a.2] = HO.tup [V.int b.1, V.int b.2] := Option.some.inj hq
        injection z with z
        rw [List.cons.injEq, List.cons.injEq] at z
        exact ⟨z.1, z.2.1⟩
      have e2 : a = b := by
        obtain ⟨z1, z2⟩ := e1
        injection z1 with z1
        injection z2 with z2
        exact Prod.ext z1 z2
      rw [decide_eq_true e2]
      exact SeqAt.EqAt.same _
    · obtain ⟨its, r1, t1, _⟩ := I.tuple (SqT.of hp)
      obtain ⟨its2, r2, t2, _⟩ := I.tuple (SqT.of hq)
      obtain ⟨u1, u2, rfl, ⟨k1, rfl⟩, ⟨k2, rfl⟩⟩ := r1.two
      obtain ⟨v1, v2, rfl, ⟨k3, rfl⟩, ⟨k4, rfl⟩⟩ := r2.two
      refine SeqAt.EqAt.of_refs e ?_
      have z := SeqAt.RcAt.tuples (A := A) (s := s) (e := fun j => if j = 0 then a.1 == b.1 else a.2 == b.2) t1 t2 hu (fun j h1 h2 => by
        have h1' : j < 2 := h1
        match j, h1' with
        | 0, _ => exact SeqAt.EqAt.int_int a.1 k1 b.1 k3
        | 1, _ => exact SeqAt.EqAt.int_int a.2 k2 b.2 k4)
      have w : decide (a = b) = ((List.range (min [Value.int a.1 k1, Value.int a.2 k2].toArray.size [Value.int b.1 k3, Value.int b.2 k4].toArray.size)).all (fun j => if j = 0 then a.1 == b.1 else a.2 == b.2) && [Value.int a.1 k1, Value.int a.2 k2].toArray.size == [Value.int b.1 k3, Value.int b.2 k4].toArray.size) := by
        show decide (a = b) = ((a.1 == b.1) && ((a.2 == b.2) && true) && true)
        rw [Bool.and_true, Bool.and_true, Bool.eq_iff_iff, decide_eq_true_iff, Bool.and_eq_true, beq_iff_eq, beq_iff_eq]
        exact ⟨fun q => by rw [q]; exact ⟨rfl, rfl⟩, fun q => Prod.ext q.1 q.2⟩
      rw [w]
      exact z
def LabsAt {K : PySem.W.Frag} {α : Type} [DecidableEq α] (L : Lab K α) (H : Hp) (xs : List V) (as : List α) : Prop := xs.length = as.length ∧ ∀ (j : Nat) (x : V) (a : α), xs[j]? = some x → as[j]? = some a → L.rel H x a
theorem LabsAt.mono {K : PySem.W.Frag} {α : Type} [DecidableEq α] {L : Lab K α} {H H' : Hp} {xs : List V} {as : List α} (h : LabsAt L H xs as) (q : Same H H') : LabsAt L H' xs as := ⟨h.1, fun j x a e1 e2 => L.mono q (h.2 j x a e1 e2)⟩
theorem labs_int {K : PySem.W.Frag} {H : Hp} (ns : List Int) : LabsAt (labInt K) H (ns.map V.int) ns := ⟨List.length_map _, fun j x a e1 e2 => by
  rw [List.getElem?_map, e2] at e1
  exact (Option.some.inj e1).symm⟩
theorem LabsAt.snoc {K : PySem.W.Frag} {α : Type} [DecidableEq α] {L : Lab K α} {H : Hp} {xs : List V} {as : List α} {x : V} {a : α} (h : LabsAt L H xs as) (q : L.rel H x a) : LabsAt L H (xs ++ [x]) (as ++ [a]) := by
  refine ⟨by rw [List.length_append, List.length_append, h.1]; rfl, fun j y b e1 e2 => ?_⟩
  by_cases hj : j < xs.length
  · rw [List.getElem?_append_left hj] at e1
    rw [List.getElem?_append_left (by rw [← h.1]; exact hj)] at e2
    exact h.2 j y b e1 e2
  · have hj' : j < (xs ++ [x]).length := (List.getElem?_eq_some_iff.mp e1).1
    have ej : j = xs.length := by rw [List.length_append, List.length_singleton] at hj'; omega
    subst ej
    rw [List.getElem?_append_right (Nat.le_refl _), Nat.sub_self] at e1
    rw [h.1, List.getElem?_append_right (Nat.le_refl _), Nat.sub_self] at e2
    have e1' : x = y := by simpa using e1
    have e2' : a = b := by simpa using e2
    subst e1' e2'
    exact q
section
variable {X : Cx} {K : PySem.W.Frag} {α : Type} [DecidableEq α]
noncomputable def labE (L : Lab K α) (H : Hp) (a : α) (u : Value) : Bool := @decide (∃ x, RelV x u ∧ L.rel H x a) (Classical.propDecidable _)
theorem labE_eq {L : Lab K α} {H : Hp} {x : V} {u : Value} {a b : α} (r : RelV x u) (h : L.rel H x b) : labE L H a u = decide (b = a) := by
  unfold labE
  by_cases e : b = a
  · subst e
    rw [decide_eq_true rfl]
    exact @decide_eq_true _ (Classical.propDecidable _) ⟨x, r, h⟩
  · rw [decide_eq_false e]
    refine @decide_eq_false _ (Classical.propDecidable _) ?_
    rintro ⟨y, ry, hy⟩
    have : y = x := ry.inj r
    subst this
    exact e (L.fn h hy)
theorem items_lab {L : Lab K α} {H : Hp} {xs : List V} {its : List Value} {as : List α} (r : Vals xs its) (h : LabsAt L H xs as) : its.length = as.length ∧ ∀ (j : Nat) (h1 : j < its.length) (h2 : j < as.length), ∃ x, RelV x its[j] ∧ L.rel H x as[j] := by
  have hl := r.length
  refine ⟨by rw [← hl, h.1], fun j h1 h2 => ?_⟩
  have hx : j < xs.length := by omega
  obtain ⟨u, hu, ru⟩ := r.get (List.getElem?_eq_getElem hx)
  rw [List.getElem?_eq_getElem h1] at hu
  cases hu
  exact ⟨_, ru, h.2 j _ _ (List.getElem?_eq_getElem hx) (List.getElem?_eq_getElem h2)⟩
theorem eqAt_lab {L : Lab K α} {pins : List (Addr × Obj)} {σ : St} {H : Hp} {s : Shared} {A : Around} {xs : List V} {its : List Value} {as : List α} {x : V} {a : α} {v : Value} (hK : X.K = K) (I : Inv X pins σ H s) (r : Vals xs its) (h : LabsAt L H xs as) (rx : RelV x v) (hx : L.rel H x a) (hu : A.units < cLine) :
    (∀ y, y ∈ its.toArray → SeqAt.EqAt A s y v (labE L H a y)) ∧ its.toArray.any (labE L H a) = decide (a ∈ as) := by
  obtain ⟨hl, hi⟩ := items_lab r h
  constructor
  · intro y hy
    obtain ⟨j, hj, e⟩ := List.getElem_of_mem (by simpa using hy : y ∈ its)
    obtain ⟨z, rz, hz⟩ := hi j hj (by omega)
    rw [e] at rz
    rw [labE_eq rz hz]
    exact L.eqAt hK I rz rx hz hx hu
  · rw [Bool.eq_iff_iff, decide_eq_true_iff, Array.any_eq_true]
    constructor
    · rintro ⟨j, hj, e⟩
      have hj' : j < its.length := by simpa using hj
      obtain ⟨z, rz, hz⟩ := hi j hj' (by omega)
      have e' : labE L H a its[j] = true := by simpa using e
      rw [labE_eq rz hz] at e'
      have := of_decide_eq_true e'
      rw [← this]
      exact List.getElem_mem _
    · intro ha
      obtain ⟨j, hj, e⟩ := List.getElem_of_mem ha
      obtain ⟨z, rz, hz⟩ := hi j (by omega) hj
      refine ⟨j, by simpa using (by omega : j < its.length), ?_⟩
      have : labE L H a (its[j]'(by omega)) = true := by
        rw [labE_eq rz hz, e]
        exact decide_eq_true rfl
      simpa using this
def rIndex (L : Lab K α) : V → List V → Hp → VK → Prop := fun x vs H Q => ∃ p xs as a y, x = .ref p ∧ vs = [y] ∧ SqL K H p xs ∧ LabsAt L H xs as ∧ L.rel H y a ∧ a ∈ as ∧ Q (.int ((as.idxOf a : Nat) : Int)) H
theorem mt_index (L : Lab K α) (hu : X.A.units + 1 < cLine) (hK : X.K = K := by rfl) : MtM X "list.index" (rIndex L) := by
  intro pins s σ H x vs v us Q I rx rv h
  obtain ⟨p, xs, as, a, y, rfl, rfl, hs, hl, hy, ha, q⟩ := h
  cases rx
  obtain ⟨u, rfl, ru⟩ := rv.one
  obtain ⟨its, r, ⟨o, n, ho, hc, hd, hs'⟩, hz⟩ := I.list (hK ▸ hs)
  obtain ⟨h1, _⟩ := eqAt_lab (A := X.A.in1) hK I r hl ru hy hu
  obtain ⟨hlen, hi⟩ := items_lab r hl
  have hlx := r.length
  have hj : as.idxOf a < as.length := List.idxOf_lt_length_of_mem ha
  have hit : as[as.idxOf a] = a := List.getElem_idxOf hj
  have hlt63 : (as.idxOf a : Int) < 2 ^ 63 - 1 := by
    have := line63
    omega
  obtain ⟨cls, dd, data, sl⟩ := o
  simp only at hc hd hs'
  subst hc hs'
  refine call_meets F.slot_list_index ⟨_, ho, rfl⟩ F.entry_list_index (F.args_list_index_2 _ _)
    (SeqAt.list_indexAt p its.toArray n dd sl u (labE L H a) (as.idxOf a) (by rw [List.size_toArray]; omega) hlt63 ?_ ?_) ⟨ho, h1, ?_⟩
  · obtain ⟨z, rz, hz'⟩ := hi (as.idxOf a) (by omega) hj
    have := labE_eq (a := a) rz hz'
    rw [hit, decide_eq_true rfl] at this
    simpa using this
  · intro m hm hmj
    have hm' : m < its.length := by simpa using hm
    obtain ⟨z, rz, hz'⟩ := hi m hm' (by omega)
    have := labE_eq (a := a) rz hz'
    have ne : ¬ as[m]'(by omega) = a := by
      have := List.not_of_lt_findIdx (p := (· == a)) (xs := as) hmj
      simpa using this
    rw [decide_eq_false ne] at this
    simpa using this
  · exact ⟨.int _, H, I.tok _, ⟨_, rfl⟩, q⟩
end
def rSetD : V → List V → Hp → VK → Prop := fun x vs H Q => ∃ a y z, x = .ref a ∧ vs = [y, z] ∧
  ((∃ kvs k, H a = some (.dK kvs) ∧ y = kV k ∧ kvs.length < sizeLine ∧ (∀ v, valV kvs k = some v → Q v H) ∧ (valV kvs k = none → Q z (upd H a (.dK (kvs ++ [(k, z)]))))) ∨
   ∃ kvs k b, H a = some (.dT kvs) ∧ y = .ref b ∧ H b = some (.tup (k.map kV)) ∧ kvs.length < sizeLine ∧ (∀ v, valV kvs k = some v → Q v H) ∧ (valV kvs k = none → Q z (upd H a (.dT (kvs ++ [(k, z)])))))
section
variable {X : Cx}
theorem mt_setdefault (hu : X.A.units + 1 < cLine) : MtM X "dict.setdefault" rSetD := by
  intro pins s σ H x vs v us Q I rx rv h
  obtain ⟨a, y, z, rfl, rfl, h⟩ := h
  cases rx
  obtain ⟨u, r, rfl, ry, rz⟩ := rv.two
  rcases h with ⟨kvs, k, e, rfl, hl, q1, q2⟩ | ⟨kvs, k, b, e, rfl, eb, hl, q1, q2⟩
  · obtain ⟨zz, hd, ws, rel, dd⟩ := dk_of I.hok e
    have hz : ws.length ≤ sizeLine := by rw [← rel.length]; exact zz
    refine call_meetsIn PySem.F.slot_dict_setdefault dd.typeIs PySem.F.entry_dict_setdefault (PySem.F.args_dict_setdefault_3 _ _ _) (kt_meets_setdefault (mixKind X.prog X.w) a (kV_is ry) hd r) ⟨ws, dd, hz, fun w' hw => ?_, fun hn h' dd' hs => ?_⟩
    · have q := rel.val k
      rw [hw] at q
      cases ev : valV kvs k with
      | none => rw [ev] at q; exact (show False from q).elim
      | some v' =>
        rw [ev] at q
        exact ⟨v', H, I.tok _, q, q1 v' ev⟩
    · have q := rel.val k
      rw [hn] at q
      have ev : valV kvs k = none := by
        cases ev : valV kvs k with
        | none => rfl
        | some v' => rw [ev] at q; exact (show False from q).elim
      have hp : KV (kvs ++ [(k, z)]) (stored ws k r) := by
        have := rel.put k rz
        rwa [putK_new z ev] at this
      have he : ∃ q, h'.get? a = some q := let ⟨q, _, _, hq, _⟩ := dd'; ⟨q, hq⟩
      have hl' : (kvs ++ [(k, z)]).length ≤ sizeLine := by rw [List.length_append, List.length_singleton]; omega
      exact ⟨z, _, d_write I (by rw [e]; exact True.intro) hs he (dk_new hl' hd hp dd'), rz, q2 ev⟩
  · cases (show u = Value.ref b from ry)
    obtain ⟨zz, hd, ws, rel, dd⟩ := dt_of I.hok e
    have hz : ws.length ≤ sizeLine := by rw [← Paired.length rel]; exact zz
    refine call_meetsIn PySem.F.slot_dict_setdefault dd.typeIs PySem.F.entry_dict_setdefault (PySem.F.args_dict_setdefault_3 _ _ _) (DL.meetsH_setdefault (tupleKind (mixKind X.prog X.w)) a b hd r)
      ⟨tupleKind_room_in1 hu, k, ws, key_of I.hok eb, dd, hz, fun w' hw => ?_, fun hn h' dd' hs => ?_⟩
    · have q := rel.val k
      rw [hw] at q
      cases ev : valV kvs k with
      | none => rw [ev] at q; exact (show False from q).elim
      | some v' =>
        rw [ev] at q
        exact ⟨v', H, I.tok _, q, q1 v' ev⟩
    · have q := rel.val k
      rw [hn] at q
      have ev : valV kvs k = none := by
        cases ev : valV kvs k with
        | none => rfl
        | some v' => rw [ev] at q; exact (show False from q).elim
      have hp : KT H (kvs ++ [(k, z)]) (storedH ws k b r) := by
        have := rel.put k eb rz
        rwa [putK_new z ev] at this
      obtain ⟨qo, es, ep, hq, h2, h3, h4, _, h5⟩ := dd'
      have hl' : (kvs ++ [(k, z)]).length ≤ sizeLine := by rw [List.length_append, List.length_singleton]; omega
      refine ⟨z, _, d_write (ob := .dT (kvs ++ [(k, z)])) I (by rw [e]; exact True.intro) hs ⟨qo, hq⟩ ⟨hl', hd, _, hp.keeps fun c ys ec => ?_, qo, es, ep, hq, h2, h3, h4, h5⟩, rz, q2 ev⟩
      rw [upd_ne (ne_of ec e (fun z => nomatch z))]
      exact ec
theorem call_lenDD : CallR X (.builtin "len") (fun xs H Q => ∃ a n, xs = [V.ref a] ∧ ((∃ kvs, H a = some (.dK kvs) ∧ kvs.length = n) ∨ ∃ kvs, H a = some (.dT kvs) ∧ kvs.length = n) ∧ Q (.int (n : Nat)) H) := by
  intro pins s σ H xs us Q I r h
  obtain ⟨a, n, rfl, h, q⟩ := h
  obtain ⟨u, rfl, ru⟩ := vals1 r
  cases ru
  rcases h with ⟨kvs, e, rfl⟩ | ⟨kvs, e, rfl⟩
  · exact d_len I (.inl e) fun t s' I' => ⟨.int kvs.length, H, I', ⟨t, rfl⟩, q⟩
  · obtain ⟨z, hd, ws, rel, dd⟩ := dt_of I.hok e
    refine DL.call_len_heap hd dd (by rw [← Paired.length rel]; rw [sizeLine_eq] at z; omega) ?_
    rw [← Paired.length rel]
    exact ⟨.int _, H, I.tok _, ⟨_, rfl⟩, q⟩
end
end L2

namespace L2
open PySem PySem.Spec PyProof.Rows
def Fn (P : Program) (w : World) (K : PySem.W.Frag) (mg : Str → Option Value) (base : Heap) (x : Str) (ps : List Str) (k : Nat) (sp : Sp) : Prop :=
  ∃ (f : Addr) (fd : FuncData), mg x = some (.ref f) ∧ PySem.W.keepIn K (.ref f) = true ∧ Binds K fd ps [] ∧ FnOk P w K mg base CX0 k f fd ps sp
section
variable {X : Cx} {x : Str} {ps : List Str} {k : Nat} {sp : Sp} {p pos : Pos} {e : Expr} {es : List Expr} {t : TA}
theorem pe_fn (G : Fn X.prog X.w X.K X.mg X.base x ps k sp) (hr : Room k X.A) (ha : PA X (e :: es) t) (hg : Gl X x := by rfl) (hdb : (x == ("__debug__" : Str)) = false := by decide)
    (he : starEach (e :: es) X.env = (false, eval e X.env) :: starEach es X.env := by rfl) (hpl : (backTo pos (starEach es X.env)).any (·.1) = false := by rfl) : PE X (.Call (.Name x p) (e :: es) [] pos) (tCall sp [] E0 t) := by
  obtain ⟨f, fd, m, kp, b, F⟩ := G
  exact pe_call F hr hg m kp b .nil pass0 ha hdb he hpl
end
section
variable {X : Cx} {K : PySem.W.Frag}
theorem ix_listK (hK : X.K = K := by rfl) : IxR X (rIxL K) := by subst hK; exact ix_list
variable {o e : Expr} {es : List Expr} {to : TE} {t : TA} {name : Str} {apos cpos : Pos} {T id : String} {r : V → List V → Hp → VK → Prop}
end
theorem Same.upd2 {H H' : Hp} {l : Addr} {o : HO} (h : Same H H') (hl : H l = none) : Same H (upd H' l o) := fun b u q => by
  rw [upd_ne (ne_of_none q hl)]
  exact h b u q
theorem ints_get {ns : List Int} {i : Nat} {x : V} (h : (ns.map V.int)[i]? = some x) : ∃ z, ns[i]? = some z ∧ x = .int z := by
  rw [List.getElem?_map] at h
  cases e : ns[i]? with
  | none => rw [e] at h; cases h
  | some z => rw [e] at h; exact ⟨z, rfl, (Option.some.inj h).symm⟩
theorem small {n : Nat} (h : n ≤ 1000) : n ≤ sizeLine := Nat.le_of_lt (small1000 h)
def kvOf {α κ : Type} (key : α → κ) (as : List α) : List (κ × V) := as.mapIdx fun i a => (key a, V.int ((i : Nat) : Int))
theorem kvOf_snoc {α κ : Type} (key : α → κ) (as : List α) (a : α) : kvOf key (as ++ [a]) = kvOf key as ++ [(key a, V.int ((as.length : Nat) : Int))] := by
  unfold kvOf
  rw [List.mapIdx_concat]
theorem kvOf_len {α κ : Type} (key : α → κ) (as : List α) : (kvOf key as).length = as.length := by simp [kvOf]
theorem kvOf_val {α κ : Type} [DecidableEq α] [DecidableEq κ] (key : α → κ) (hk : ∀ a b, key a = key b → a = b) (as : List α) (nd : as.Nodup) (a : α) :
    valV (kvOf key as) (key a) = if a ∈ as then some (V.int ((as.idxOf a : Nat) : Int)) else none := by
  induction as using Sh.snoc_ind with
  | h0 => rfl
  | h1 l x ih =>
    rw [List.nodup_append] at nd
    obtain ⟨nd1, _, nd2⟩ := nd
    have hx : ¬ x ∈ l := fun q => nd2 x q x (by simp) rfl
    have none_x : valV (kvOf key l) (key x) = none := by
      have : ∀ l : List α, ¬ x ∈ l → valV (kvOf key l) (key x) = none := by
        intro l
        induction l using Sh.snoc_ind with
        | h0 => intro _; rfl
        | h1 l y ih' =>
          intro hxl
          rw [kvOf_snoc]
          have h1 : ¬ x ∈ l := fun q => hxl (List.mem_append_left _ q)
          have h2 : ¬ key y = key x := fun q => hxl (by rw [hk _ _ q]; simp)
          have e := ih' h1
          -- valV of a snoc whose key is another one
          have gen : ∀ (kvs : List (κ × V)) (k j : κ) (v : V), ¬ k = j → valV (kvs ++ [(k, v)]) j = valV kvs j := by
            intro kvs k j v hkj
            induction kvs with
            | nil => exact valV_neg (p := (k, v)) hkj
            | cons p r ihr =>
              rw [List.cons_append]
              by_cases c : p.1 = j
              · rw [valV_pos c, valV_pos c]
              · rw [valV_neg c, valV_neg c, ihr]
          rw [gen _ _ _ _ h2]
          exact e
      exact this l hx
    rw [kvOf_snoc, valV_snoc _ _ _ _ none_x]
    by_cases c : a = x
    · subst c
      rw [if_pos rfl, if_pos (by simp), Sh.idx_snoc_new hx]
    · rw [if_neg (fun q => c (hk _ _ q)), ih nd1]
      by_cases ha : a ∈ l
      · rw [if_pos ha, if_pos (List.mem_append_left _ ha), Sh.idx_snoc_mem ha]
      · rw [if_neg ha, if_neg]
        intro q
        rcases List.mem_append.mp q with q | q
        · exact ha q
        · exact c (List.mem_singleton.mp q)
structure DLab (K : PySem.W.Frag) (α : Type) [DecidableEq α] where
  L : Lab K α
  dOf : List α → HO
  setd : ∀ {H : Hp} {d : Addr} {y : V} {as : List α} {a : α} {Q : VK}, H d = some (dOf as) → L.rel H y a → as.Nodup → as.length < sizeLine → (a ∈ as → Q (.int ((as.idxOf a : Nat) : Int)) H) →
    (¬ a ∈ as → Q (.int ((as.length : Nat) : Int)) (upd H d (dOf (as ++ [a])))) → rSetD (.ref d) [y, .int ((as.length : Nat) : Int)] H Q
  lenD : ∀ {H : Hp} {d : Addr} {as : List α}, H d = some (dOf as) → (∃ kvs, H d = some (.dK kvs) ∧ kvs.length = as.length) ∨ ∃ kvs, H d = some (.dT kvs) ∧ kvs.length = as.length
  newD : ∀ {X : Cx} {pos : Pos}, PE X (.Dict [] [] pos) (fun _ H Q => ∀ p, H p = none → Q (.ref p) (upd H p (dOf [])))
def dlInt (K : PySem.W.Frag) : DLab K Int where
  L := labInt K
  dOf := fun as => .dK (kvOf (fun a => (Sum.inl a : Key)) as)
  setd := fun {H d y as a Q} hd hr nd hl h1 h2 => by
    have hr' : y = .int a := hr
    subst hr'
    have hv := kvOf_val (fun a => (Sum.inl a : Key)) (fun a b e => Sum.inl.inj e) as nd a
    refine ⟨d, _, _, rfl, rfl, .inl ⟨_, Sum.inl a, hd, rfl, by rw [kvOf_len]; exact hl, fun v e => ?_, fun e => ?_⟩⟩
    · rw [hv] at e
      split at e
      · rename_i c
        rw [← Option.some.inj e]
        exact h1 c
      · cases e
    · rw [hv] at e
      split at e
      · cases e
      · rename_i c
        have := h2 c
        rw [kvOf_snoc] at this
        exact this
  lenD := fun h => .inl ⟨_, h, kvOf_len _ _⟩
  newD := pe_dnewK
def dlPair (K : PySem.W.Frag) : DLab K (Int × Int) where
  L := labPair K
  dOf := fun as => .dT (kvOf (fun a : Int × Int => ([Sum.inl a.1, Sum.inl a.2] : List Key)) as)
  setd := fun {H d y as a Q} hd hr nd hl h1 h2 => by
    obtain ⟨p, rfl, hp⟩ := hr
    have hv := kvOf_val (fun a : Int × Int => ([Sum.inl a.1, Sum.inl a.2] : List Key)) (fun a b e => by
      rw [List.cons.injEq, List.cons.injEq] at e
      exact Prod.ext (Sum.inl.inj e.1) (Sum.inl.inj e.2.1)) as nd a
    refine ⟨d, _, _, rfl, rfl, .inr ⟨_, [Sum.inl a.1, Sum.inl a.2], p, hd, rfl, hp, by rw [kvOf_len]; exact hl, fun v e => ?_, fun e => ?_⟩⟩
    · rw [hv] at e
      split at e
      · rename_i c
        rw [← Option.some.inj e]
        exact h1 c
      · cases e
    · rw [hv] at e
      split at e
      · cases e
      · rename_i c
        have := h2 c
        rw [kvOf_snoc] at this
        exact this
  lenD := fun h => .inr ⟨_, h, kvOf_len _ _⟩
  newD := pe_dnewT
end L2

namespace L2
open PySem PySem.Spec PyProof.Rows
section
variable {X : Cx} {pins : List (Addr × Obj)} {σ : St} {H : Hp} {s : Shared}
theorem Inv.turnedL {t' : Nat} {fp : List Addr} {h' : Heap} (I : Inv X pins σ H s) (k : ∀ b o, b ∉ fp → s.heap.get? b = some o → h'.get? b = some o) (hf : ∀ b ∈ fp, FpOk X pins H b) : Inv X pins σ H { s with heap := h', toks := t' } := by
  have nit : ∀ b u, H b = some u → b ∉ fp := fun b u e z => by rw [(hf b z).1] at e; cases e
  refine I.step (g' := s.gens) (d' := s.drawn) (ch := fp) (fun b hb => let ⟨_, q1, _, q3, q4, q5⟩ := hf b hb; ⟨q3, q1, q4, q5⟩) (fun b o _ _ hc e _ => k b o hc e) (fun b o _ _ hc e _ => ⟨o.slots, k b o hc e⟩) (fun _ _ _ _ n => n)
    (fun b o hc e => ⟨o, k b o hc e⟩) (fun _ _ e => e) (fun _ _ _ e => e) (fun b ps e => ⟨#[], by rw [e]; simp⟩) (fun m hm => ?_) (fun b u e => ?_) I.bare
  · obtain ⟨o, es, ep, ho, r⟩ := hm
    exact ⟨o, es, ep, k _ o (fun z => (hf _ z).2.1 rfl) ho, r⟩
  · refine (I.hok b u e).stay (fun c v hc q => k c v ?_ q) (fun _ q => q) fun _ _ q => q
    rcases hc with z | z
    · rw [z]; exact nit b u e
    · exact nit c _ z
end
def Ite (K : PySem.W.Frag) (a : Addr) : It :=
  ⟨fun i H => ∃ xs x, SqL K H a xs ∧ xs[i]? = some x, fun i H v H' => ∃ p x, v = .ref p ∧ H p = none ∧ H' = upd H p (.tup [.int ((i : Nat) : Int), x]) ∧ ∀ xs, SqL K H a xs → xs[i]? = some x, fun i H => ∃ xs, SqL K H a xs ∧ xs.length ≤ i⟩
theorem turn_enum {P : Program} {w : World} {K : PySem.W.Frag} {elts : List Expr} {k : Nat} {pos : Pos} (a it e : Addr) (hne : e ≠ it) :
    Turn P w K (.Tuple elts k pos) (Ite K a) [e, it] e (fun i h => (∃ old, IsEnum h e it ((i : Nat) : Int) old) ∧ h.IsListIter it a i) where
  mem := by simp
  obj := fun i h st b hb => by
    obtain ⟨⟨old, he⟩, hi⟩ := st
    rcases List.mem_cons.mp hb with rfl | hb
    · exact ⟨_, he, fun v z => by
        have z' : Data.fields _ = Data.cell v := z
        cases z'⟩
    · rw [List.mem_singleton.mp hb]
      obtain ⟨o, e, c, d⟩ := hi
      exact ⟨o, e, fun v z => by rw [d] at z; cases z⟩
  keep := fun i h h' st k => ⟨let ⟨old, he⟩ := st.1; ⟨old, k e (by simp) _ he⟩, st.2.at fun o q => k it (by simp) o q⟩
  item := by
    intro X hP hw hK hc i pins s σ H E I hf st hg
    subst hP hw hK
    obtain ⟨xs, x, hq, hx⟩ := hg
    obtain ⟨its, rv, p, hz⟩ := I.list hq
    obtain ⟨u, hu, ru⟩ := rv.get hx
    obtain ⟨⟨old, he⟩, hi⟩ := st
    refine wpAny_pyNext_enum_item he hi p.isList (x := u) (by simpa using hu) hne fun h' a1 a2 a3 a4 a5 => ?_
    have I1 : Inv X pins σ H { s with heap := h', toks := s.toks + 1 } := I.turnedL (fp := [e, it]) (fun b o hb q => a5 b o (fun z => hb (by simp [z])) (fun z => hb (by simp [z])) q) hf
    refine ⟨_, rfl, wpAny_letOwnedTupleGo_enum a1 fun h'' b1 b2 => ?_⟩
    have I2 : Inv X pins σ H { s with heap := h'', toks := s.toks + 1 } := I1.turnedL (fp := [e]) (t' := s.toks + 1) (fun b o hb q => (b2.2 b (fun z => hb (by simp [z]))).trans q) (fun b hb => hf b (by rw [List.mem_singleton.mp hb]; simp))
    have hnew : H s.heap.objs.size = none := I.hok.fresh (Nat.le_refl _)
    have elt : e < s.heap.objs.size := Heap.lt_size he
    have ilt : it < s.heap.objs.size := by obtain ⟨_, q, _⟩ := hi; exact Heap.lt_size q
    have tup := (b2.2 s.heap.objs.size (Nat.ne_of_gt elt)).trans a3
    have I3 := I2.adopt (o := .tup [.int ((i : Nat) : Int), x]) (I.fpOk (Nat.le_refl _) hnew) I.sz ⟨(by show 2 ≤ sizeLine; decide), [.int ((i : Nat) : Int) s.toks, u], .cons ⟨_, rfl⟩ (.cons ru .nil), ⟨_, tup, rfl, _, rfl⟩⟩
    refine ⟨.ref s.heap.objs.size, _, I3, rfl, ⟨_, x, rfl, hnew, rfl, fun ys hy => by rw [I.list_inj hy hq]; exact hx⟩, ⟨⟨u, by simpa using b1⟩, a2.at fun o q => (b2.2 it hne.symm).trans q⟩, fun b hb => ?_⟩
    have hb' : b < s.heap.objs.size := by
      rcases List.mem_cons.mp hb with rfl | hb
      · exact elt
      · rw [List.mem_singleton.mp hb]; exact ilt
    rw [upd_ne (Nat.ne_of_lt hb')]
    exact (hf b hb).1
  done := by
    intro X hP hw hK hc i pins s σ H E I hf st hg
    subst hP hw hK
    obtain ⟨xs, hq, hx⟩ := hg
    obtain ⟨its, rv, p, hz⟩ := I.list hq
    obtain ⟨⟨old, he⟩, hi⟩ := st
    have hl := rv.length
    exact wpAny_pyNext_enum_end (I.ok.hd hc) he hi p.isList (by simp; omega) fun h' eb => ⟨rfl, I.turnedL (fp := [e, it]) (t' := s.toks) (fun b o hb q => eb b o (fun z => hb (by simp [z])) q) hf⟩
  self := fun _ _ _ _ _ st h => let ⟨_, he⟩ := st.1; wpAny_pyIter_enum he h
section
variable {X : Cx}
def iEnum (K : PySem.W.Frag) (ta : TA) : TI := fun σ H R => ta σ H fun vs H1 => ∃ a, vs = [.ref a] ∧ (∃ xs, SqL K H1 a xs) ∧ R (Ite K a) H1
theorem pi_enum {a : Expr} {elts : List Expr} {k : Nat} {tpos : Pos} {ta : TA} {p pos : Pos} (hg : Gl X "enumerate") (hm : X.mg "enumerate" = none) (ha : PA X [a] ta) (hs : starEach [a] X.env = [(false, eval a X.env)] := by rfl) :
    PI X (.Tuple elts k tpos) (.Call (.Name "enumerate" p) [a] [] pos) (iEnum X.K ta) := by
  intro pins s σ H R I h
  refine Call_ (ld_blt I hg hm boot_enumerate (PyProof.Rows.callWith_type1 (thn (ha pos pins s σ H _ I h) fun us s1 ⟨vs, H1, I1, r1, q1⟩ => ?_) hs rfl))
  obtain ⟨l, rfl, ⟨xs, hq⟩, q⟩ := q1
  obtain ⟨u, rfl, ru⟩ := r1.one
  cases ru
  obtain ⟨its, rv, pl, hz⟩ := I1.list hq
  refine call_enumerate_list pl.isList fun h' hE hI hsz hk => wpAny_pyIter_enum hE ?_
  have n1 : s1.heap.objs.size ≤ s1.heap.objs.size + 1 := Nat.le_succ _
  refine ⟨s1.heap.objs.size + 1, [s1.heap.objs.size + 1, s1.heap.objs.size], _, _, H1, rfl, I1.kept (t' := s1.toks) hk, turn_enum l _ _ (Nat.succ_ne_self _), ⟨⟨.none, hE⟩, hI⟩, fun b hb => ?_, q⟩
  rcases List.mem_cons.mp hb with rfl | hb
  · exact I1.fpOk n1 (I1.hok.fresh n1)
  · rw [List.mem_singleton.mp hb]
    exact I1.fpOk (Nat.le_refl _) (I1.hok.fresh (Nat.le_refl _))
theorem for_enum {K : PySem.W.Frag} {a : Addr} {xs : List V} {g : TG} {tb : TS} {D : Ends} {σ : St} {H : Hp} (Pv : Nat → St → Hp → Prop) (h0 : Pv 0 σ H) (hl : ∀ i σ H, i ≤ xs.length → Pv i σ H → SqL K H a xs)
    (hs : ∀ i x σ H p, xs[i]? = some x → H p = none → Pv i σ H → g (.ref p) σ (upd H p (.tup [.int ((i : Nat) : Int), x])) fun σ2 H2 => tb { D with nx := Pv (i + 1), ct := Pv (i + 1), bk := D.nx } σ2 H2) (hd : ∀ σ H, Pv xs.length σ H → D.nx σ H) :
    ∃ W : Nat → Nat → St → Hp → Prop, (∃ m, W 0 m σ H) ∧ ∀ i m σ H, W i m σ H →
      ((Ite K a).stop i H ∧ D.nx σ H) ∨ ((Ite K a).go i H ∧ ∃ N : St → Hp → Prop, (∀ σ' H', N σ' H' → ∃ m', m' < m ∧ W (i + 1) m' σ' H') ∧ ∀ x H', (Ite K a).yld i H x H' → g x σ H' fun σ2 H2 => tb { D with nx := N, ct := N, bk := D.nx } σ2 H2) := by
  refine ⟨fun i m σ H => m = xs.length - i ∧ i ≤ xs.length ∧ Pv i σ H, ⟨xs.length, by simp, Nat.zero_le _, h0⟩, ?_⟩
  rintro i m σ H ⟨rfl, hi, p⟩
  have q := hl i σ H hi p
  by_cases hlt : i < xs.length
  · refine .inr ⟨⟨xs, xs[i], q, by simp [hlt]⟩, Pv (i + 1), fun σ' H' p' => ⟨xs.length - (i + 1), by omega, rfl, hlt, p'⟩, fun v H' y => ?_⟩
    obtain ⟨pp, x, rfl, hn, rfl, y⟩ := y
    exact hs i x σ H pp (y xs q) hn p
  · have e : i = xs.length := by omega
    subst e
    exact .inl ⟨⟨xs, q, Nat.le_refl _⟩, hd σ H p⟩
theorem ints_are {ns : List Int} {its : List Value} (r : Vals (ns.map V.int) its) : IntsAre its ns := intsAre_of r
theorem call_maxL (hc : X.calm = true) : CallR X (.builtin "max") (fun xs H Q => ∃ (a : Addr) (ns : List Int), xs = [.ref a] ∧ SqL X.K H a (ns.map V.int) ∧ ns ≠ [] ∧ ∀ M : Int, M ∈ ns → (∀ b, b ∈ ns → b ≤ M) → Q (.int M) H) := by
  intro pins s σ H xs us Q I r h
  obtain ⟨a, ns, rfl, hS, hne, q⟩ := h
  obtain ⟨u, rfl, ru⟩ := r.one
  cases ru
  obtain ⟨its, rv, pl, hz⟩ := I.list hS
  have hi := ints_are rv
  obtain ⟨ys, e⟩ := hi.allInts.items
  have hns : ns = ys.toList.map (·.1) := by rw [← hi.numsOf, ← nums_intItems, ← e]
  have hsz : 0 < ys.size := by
    have h3 := List.length_pos_iff.mpr hne
    rw [hns, List.length_map, Array.length_toList] at h3
    exact h3
  have hl := pl.isList
  rw [e] at hl
  refine max_intList (I.ok.hd hc) hl hsz fun v h' tk hv hk => ?_
  obtain ⟨t, rfl⟩ := intItems_at hv
  obtain ⟨h1, h2⟩ := argBest_gt (numAt ys) (ys.size - 1)
  refine ⟨.int _, H, I.kept hk, ⟨t, rfl⟩, q _ ?_ fun b hb => ?_⟩
  · rw [hns, numAt_eq]; exact getD_mem (by rw [List.length_map, Array.length_toList]; omega)
  · rw [hns] at hb
    obtain ⟨j, hj, rfl⟩ := mem_getD hb
    rw [List.length_map, Array.length_toList] at hj
    rw [← numAt_eq]; exact h2 j (by omega)
theorem vals_of_ints : ∀ {vs : List Value} {ns : List Int}, IntsAre vs ns → Vals (ns.map V.int) vs := vals_ints
theorem call_sortedL : CallR X (.builtin "sorted") (fun xs H Q => ∃ (a : Addr) (ns : List Int), xs = [.ref a] ∧ SqL X.K H a (ns.map V.int) ∧ ns.length < 64 ∧ ∀ (p : Addr) (ms : List Int), H p = none → ms.Perm ns → ms.Pairwise (· ≤ ·) → Q (.ref p) (upd H p (.lst (ms.map V.int)))) := by
  intro pins s σ H xs us Q I r h
  obtain ⟨a, ns, rfl, hS, hlen, q⟩ := h
  obtain ⟨u, rfl, ru⟩ := r.one
  cases ru
  obtain ⟨its, rv, pl, hz⟩ := I.list hS
  have hl := rv.length
  rw [List.length_map] at hl
  refine sorted_ints pl.isList (ints_are rv) (by omega) fun out ns' a1 a2 a3 => ?_
  obtain ⟨e, he⟩ := sortedAll_at s.heap its out
  have hn : H (s.heap.objs.size + 1) = none := I.hok.fresh (Nat.le_succ _)
  refine ⟨.ref (s.heap.objs.size + 1), _, I.laid (a := s.heap.objs.size + 1) (o := .lst (ns'.map V.int)) (t' := s.toks) (fun _ _ z => sortedAll_old z) (Nat.le_succ _) ⟨?_, out.toList, e, vals_of_ints a1, by simpa using he⟩, rfl, q _ ns' hn a2 a3⟩
  rw [List.length_map, a2.length_eq]
  exact small (by omega)
end
end L2

namespace L2
open PySem PyProof.Rows
def tLR (ta : TA) : TE := fun σ H Q => ta σ H fun vs H1 => ∃ n : Nat, vs = [.int (n : Int)] ∧ n ≤ 1000 ∧ ∀ D : Addr, H1 D = none → Q (.ref D) (upd H1 D (.lst ((Sh.upto n).map V.int)))
theorem vals_upto : ∀ (us : List Value) (lo : Nat), (∀ (i : Nat) (v : Value), us[i]? = some v → ∃ t, v = .int ((lo + i : Nat) : Int) t) → Vals (((List.range us.length).map fun i => Int.ofNat (lo + i)).map V.int) us
  | [], lo, h => .nil
  | u :: us, lo, h => by
    rw [List.length_cons, List.range_succ_eq_map, List.map_cons, List.map_cons, List.map_map (g := fun i => Int.ofNat (lo + i))]
    refine .cons (h 0 u rfl) ?_
    have q := vals_upto us (lo + 1) fun i v e => by
      obtain ⟨t, e⟩ := h (i + 1) v e
      exact ⟨t, by rw [e]; congr 2; omega⟩
    have e : ((List.range us.length).map ((fun i => Int.ofNat (lo + i)) ∘ Nat.succ)) = (List.range us.length).map fun i => Int.ofNat (lo + 1 + i) := by
      apply List.map_congr_left
      intro i _
      show Int.ofNat (lo + (i + 1)) = Int.ofNat (lo + 1 + i)
      congr 1
      omega
    rw [e]
    exact q
section
variable {X : Cx} {a : Expr} {ta : TA} {p p1 pos pos1 : Pos}
theorem pe_listrange (hc : X.calm = true) (hgL : Gl X "list") (hmL : X.mg "list" = none) (hgR : Gl X "range") (hmR : X.mg "range" = none) (ha : PA X [a] ta)
    (he : starEach [.Call (.Name "range" p1) [a] [] pos1] X.env = [(false, eval (.Call (.Name "range" p1) [a] [] pos1) X.env)] := by rfl)
    (hs : starEach [a] X.env = [(false, eval a X.env)] := by rfl) :
    PE X (.Call (.Name "list" p) [.Call (.Name "range" p1) [a] [] pos1] [] pos) (tLR ta) := by
  intro pins s σ H Q I h
  refine wpAny_Call_Name_kw (ld_blt I hgL hmL boot_list ?_)
  refine PyProof.Rows.callWith_type1 ?_ he rfl
  rw [he]
  show wpAny _ _ (spliced ((false, eval (.Call (.Name "range" p1) [a] [] pos1) X.env) :: [])) _ _ s
  refine Calls.spliced_cons ?_
  refine wpAny_Call_Name_kw (ld_blt I hgR hmR boot_range ?_)
  refine PyProof.Rows.callWith_type1 (thn (ha pos1 pins s σ H _ I h) fun us s1 ⟨vs, H1, I1, r1, q1⟩ => ?_) hs rfl
  obtain ⟨n, rfl, hn, q⟩ := q1
  cases r1 with
  | cons r rr =>
    cases rr
    obtain ⟨t, rfl⟩ := r
    refine call_range_1 ?_
    refine Calls.spliced_nil ?_
    have hsz : Builtin.Range.rangeSize 0 (n : Int) 1 = (n : Int) := by rw [rangeSize_one]; split <;> omega
    refine call_list_range (n := n) (I1.ok.hd hc) (IsRange.new ..) (small_one (by omega) (by omega) (by omega) (by omega)) hsz (by omega) fun h' tk acc c hk hD hI => ?_
    have hle : ∀ o : Obj, s1.heap.objs.size ≤ (s1.heap.push o).objs.size := fun o => by
      show s1.heap.objs.size ≤ (s1.heap.objs.push _).size
      rw [Array.size_push]
      exact Nat.le_succ _
    refine ⟨.ref _, _, I1.laid (o := .lst ((Sh.upto n).map V.int)) (t' := tk) (fun b o e => hk b o (Heap.get?_push_of_some _ e)) (hle _) ⟨?_, acc.toList, c, ?_, by simpa using hD⟩, rfl, q _ (I1.hok.fresh (hle _))⟩
    · rw [List.length_map, Sh.length_upto]
      exact small hn
    · have z := vals_upto acc.toList 0 fun i v e => by
        obtain ⟨t, e⟩ := hI.2 i v (by rw [← e, Array.getElem?_toList])
        exact ⟨t, by rw [e]; congr 1; omega⟩
      have e : acc.toList.length = n := by rw [Array.length_toList]; exact hI.1
      rw [e] at z
      have e2 : Sh.upto n = (List.range n).map fun i => Int.ofNat (0 + i) := by
        unfold Sh.upto
        apply List.map_congr_left
        intro i _
        rw [Nat.zero_add]
      rw [e2]
      exact z
end
end L2

namespace L2
open PySem PyProof.Rows
section
variable {X : Cx} {a : Expr} {ta : TA} {p p1 pos pos1 : Pos} {K : PySem.W.Frag}
def tSortR (K : PySem.W.Frag) (ta : TA) : TE := fun σ H Q => ta σ H fun vs H1 => ∃ (a : Addr) (ns : List Int), vs = [.ref a] ∧ SqL K H1 a (ns.map V.int) ∧ ns.length < 64 ∧ ∀ (p : Addr) (ms : List Int), H1 p = none → ms.Perm ns → ms.Pairwise (· ≥ ·) → Q (.ref p) (upd H1 p (.lst (ms.map V.int)))
theorem pe_sortedR {kp vp : Pos} {j : Nat} (hg : Gl X "sorted") (hm : X.mg "sorted" = none) (ha : PA X [a] ta)
    (hs : starEach [a] X.env = [(false, eval a X.env)] := by rfl) :
    PE X (.Call (.Name "sorted" p) [a] [⟨some "reverse", .Constant (.bool true) j vp, kp⟩] pos) (tSortR X.K ta) := by
  intro pins s σ H Q I h
  refine wpAny_Call_Name_kw (ld_blt I hg hm boot_sorted ?_)
  refine callWith_kw (thn (ha pos pins s σ H _ I h) fun us s1 ⟨vs, H1, I1, r1, q1⟩ => ?_) (by rw [hs]; rfl) (by rw [hs]; rfl)
  obtain ⟨l, ns, rfl, hS, hlen, q⟩ := q1
  obtain ⟨u, rfl, ru⟩ := r1.one
  cases ru
  obtain ⟨its, rv, pl, hz⟩ := I1.list hS
  have hl := rv.length
  rw [List.length_map] at hl
  show wpAny _ _ (evalAll ((do let v ← eval (.Constant (.bool true) j vp) X.env; standAt pos; pure v) :: [])) _ _ s1
  refine wpAny_evalAll_cons (wpAny_bind (Constant_bool (wpAny_bind (wpAny_standAt (wpAny_pure (wpAny_evalAll_nil ?_))))))
  refine sorted_ints_rev (b := true) pl.isList (ints_are rv) (by omega) fun out ns' a1 a2 a3 => ?_
  obtain ⟨e, he⟩ := sortedAll_at s1.heap its out
  have hn : H1 (s1.heap.objs.size + 1) = none := I1.hok.fresh (Nat.le_succ _)
  refine ⟨.ref (s1.heap.objs.size + 1), _, I1.laid (a := s1.heap.objs.size + 1) (o := .lst (ns'.map V.int)) (t' := s1.toks) (fun _ _ z => sortedAll_old z) (Nat.le_succ _) ⟨?_, out.toList, e, vals_of_ints a1, by simpa using he⟩, rfl, q _ ns' hn a2 a3⟩
  rw [List.length_map, a2.length_eq]
  exact small (by omega)
end
end L2

namespace L2
open PySem PyProof.Rows
section
variable {X : Cx} {a : Expr} {ta : TA} {p p1 pos pos1 : Pos}
end
end L2

namespace L2
open PySem PyProof.Rows
section
variable {X : Cx}
end
section
variable {X : Cx} {a b : Expr} {ta : TA} {p p1 pos pos1 : Pos}
end
end L2

namespace L2
open PySem PyProof.Rows
theorem vals_bl : ∀ {bs : List Bool} {us : List Value}, Vals (bs.map V.bl) us → us = bs.map Value.bool
  | [], _, .nil => rfl
  | b :: bs, _, .cons r t => by
    cases r
    rw [vals_bl t]
    rfl
section
variable {X : Cx}
end
end L2

namespace L2
open PySem PySem.Spec PyProof.Rows PySem.W
theorem ObjOk.isThere {P : Program} {w : World} {H : Hp} {h : Heap} {a : Addr} {o : HO} (x : ObjOk P w H h a o) : ∃ ob, h.get? a = some ob := by
  cases o with
  | lst xs => obtain ⟨_, _, _, _, e⟩ := x; exact ⟨_, e⟩
  | tup xs => obtain ⟨_, _, _, o, e, _⟩ := x; exact ⟨_, e⟩
  | dK kvs => obtain ⟨_, _, _, _, o, _, _, e, _⟩ := x; exact ⟨_, e⟩
  | dT kvs => obtain ⟨_, _, _, _, o, _, _, e, _⟩ := x; exact ⟨_, e⟩
  | set S n => obtain ⟨o, _, _, _, e, _⟩ := x; exact ⟨_, e⟩
  | ins C dx fs => obtain ⟨_, _, _, e, _⟩ := x; exact ⟨_, e⟩
  | own y => obtain ⟨_, e⟩ := x; exact ⟨_, e⟩
  | xd fs => obtain ⟨_, ⟨_, _, _, e, _⟩, _⟩ := x; exact ⟨_, e⟩
  | rng lo hi => obtain ⟨_, _, _, e⟩ := x; exact ⟨_, e⟩
  | frz ob u => obtain ⟨e, _⟩ := x; exact ⟨_, e⟩
  | tbl ps => exact ⟨_, (show h.get? a = some _ from x)⟩
  | met f y => exact ⟨_, (show h.get? a = some _ from x)⟩
  | ext φ => obtain ⟨_, ⟨_, e⟩, _⟩ := x; exact ⟨_, e⟩
structure Fly (P : Program) (w : World) (outer : List Env) (H : Hp) (s : Shared) (ea D : Addr) (H' : Hp) (s' : Shared) : Prop where
  os : s'.os = s.os
  bare : AllBare s'.gens
  un : Un (frs outer) [] H H' s.heap s'.heap
  hok : HOk P w H' s'.heap
  fly : ∃ (B : Heap) (a0 : Value), Heap.FlyingW B outer ea (.ref D) a0 s'.heap ∧ (∀ b o, s.heap.get? b = some o → b ∉ frs outer → ∃ o', B.get? b = some o') ∧ ∀ b u, H' b = some u → ∃ o, B.get? b = some o
def CX1 (P : Program) (w : World) : CXT := fun outer H s E e s' => ∃ (ea D : Addr) (H' : Hp), e = .ref ea ∧ Fly P w outer H s ea D H' s' ∧ E (.ref D) none H'
section
variable {P : Program} {w : World} {K : PySem.W.Frag} {mg : Str → Option Value} {base : Heap} {N : List Str} {qual : Str} {scope : Scope} {f : Addr} {cd : Value} {A : Around} {outer : List Env} {s s1 : Shared} {H H1 : Hp} {E : XK} {pins : List (Addr × Obj)} {σ : St}
theorem xe_made {h' : Heap} {e D : Addr} {vs : List Value} (I : Inv (cxOf (CX1 P w) P w K mg base N qual scope f cd A outer s H E) pins σ H1 s1) (hx : Heap.MadeExcOf s1.heap h' e (.ref D) vs) (he : E (.ref D) none H1) :
    (cxOf (CX1 P w) P w K mg base N qual scope f cd A outer s H E).xe (.ref e) { s1 with heap := h' } := by
  have fr : frs (envOfC qual scope s.heap.objs.size f cd :: outer) = s.heap.objs.size :: frs outer := rfl
  have stk := I.stack
  have nst : ∀ b u, H1 b = some u → b ∉ frs (envOfC qual scope s.heap.objs.size f cd :: outer) := fun b u q hb => by rw [I.stkFree b hb] at q; cases q
  have old : ∀ b o, s.heap.get? b = some o → b ∉ frs outer → b ∉ frs (envOfC qual scope s.heap.objs.size f cd :: outer) := fun b o q hb z => by
    rw [fr] at z
    rcases List.mem_cons.mp z with z | z
    · exact absurd (Heap.lt_size q) (by rw [z]; exact Nat.lt_irrefl _)
    · exact hb z
  refine wpAny_leaves_madeW (base := hideAll s1.heap (frs (envOfC qual scope s.heap.objs.size f cd :: outer))) (h := s1.heap) I.ok.frames rfl (fun b o q => of_hideAll _ q) (funFrames_hide stk fun env he a hf => List.mem_filterMap.mpr ⟨env, he, hf⟩) hx fun h'' t x1 x2 x3 x4 => ?_
  have inB : ∀ b o, s1.heap.get? b = some o → b ∉ frs (envOfC qual scope s.heap.objs.size f cd :: outer) → h''.get? b = some o := fun b o q hb => x1.1 b o (hideAll_get _ q hb)
  have slot : ∀ b o, s1.heap.get? b = some o → b ∈ frs (envOfC qual scope s.heap.objs.size f cd :: outer) → ∃ sl, h''.get? b = some { o with slots := sl } := fun b o q hb => by
    obtain ⟨_, o', q', nf⟩ := stk.mem hb
    rw [q] at q'
    cases q'
    exact x4 b o (hx.keeps b o q) nf
  refine ⟨e, D, H1, rfl, ⟨I.os, I.bare, ⟨fun b o q n hb hz => ?_, fun b o q n hb hz => ?_, I.base.free, fun b o q hz => ?_, I.base.tups, I.base.frzs, I.base.tbls⟩, fun a u ea => ?_, _, _, x1, fun b o q hb => ?_, fun b u q => ?_⟩, he⟩
  · exact inB b o (I.base.keep b o q n hb hz) (old b o q hb)
  · obtain ⟨sl, q1⟩ := I.base.slot b o q n hb hz
    obtain ⟨sl', q2⟩ := slot b _ q1 (by rw [fr]; exact List.mem_cons_of_mem _ hb)
    exact ⟨sl', q2⟩
  · obtain ⟨o', q1⟩ := I.base.there b o q hz
    by_cases hb : b ∈ frs (envOfC qual scope s.heap.objs.size f cd :: outer)
    · obtain ⟨sl, q2⟩ := slot b _ q1 hb
      exact ⟨_, q2⟩
    · exact ⟨o', inB b o' q1 hb⟩
  · refine (I.hok a u ea).stay (fun b v hb q => inB b v q ?_) (fun _ q => q) fun _ _ q => q
    rcases hb with z | z
    · rw [z]; exact nst a u ea
    · exact nst b _ z
  · obtain ⟨o', q1⟩ := I.base.there b o q (show b ∉ ([] : List Addr) from List.not_mem_nil)
    exact ⟨o', hideAll_get _ q1 (old b o q hb)⟩
  · obtain ⟨ob, q1⟩ := (I.hok b u q).isThere
    exact ⟨ob, hideAll_get _ q1 (nst b u q)⟩
theorem pass1 : Passes (CX1 P w) (cxOf (CX1 P w) P w K mg base N qual scope f cd A outer s H E) E := by
  rintro pins σ H1 s1 e s' I ⟨ea, D, H', rfl, F, he⟩
  have fr : frs (envOfC qual scope s.heap.objs.size f cd :: outer) = s.heap.objs.size :: frs outer := rfl
  obtain ⟨os, bare, un, hok, B, a0, fly, in2, in1⟩ := F
  have old : ∀ b o, s.heap.get? b = some o → b ∉ frs outer → b ∉ frs (envOfC qual scope s.heap.objs.size f cd :: outer) := fun b o q hb z => by
    rw [fr] at z
    rcases List.mem_cons.mp z with z | z
    · exact absurd (Heap.lt_size q) (by rw [z]; exact Nat.lt_irrefl _)
    · exact hb z
  refine wpAny_leaves_onW (base := B) I.ok.frames rfl fly fun h'' y1 y2 => ?_
  have toH : ∀ b o, s'.heap.get? b = some o → (∃ o', B.get? b = some o') → h''.get? b = some o := fun b o q ⟨o', q'⟩ => by
    have := fly.1 b o' q'
    rw [q] at this
    cases this
    exact y1.1 b o q'
  have slot : ∀ b o, s1.heap.get? b = some o → H1 b = none → b ∈ frs (envOfC qual scope s.heap.objs.size f cd :: outer) → ∃ sl, h''.get? b = some { o with slots := sl } := fun b o q n hb => by
    obtain ⟨sl, q1⟩ := un.slot b o q n hb (by simp)
    obtain ⟨_, o', q', nf⟩ := fly.2.2.1.mem hb
    rw [q1] at q'
    cases q'
    obtain ⟨sl', q2⟩ := y2 b _ q1 nf
    exact ⟨sl', q2⟩
  refine ⟨ea, D, H', rfl, ⟨os.trans I.os, bare, ⟨fun b o q n hb hz => ?_, fun b o q n hb hz => ?_, fun b o q n hz => ?_, fun b o q hz => ?_, fun b xs q => un.tups b xs (I.base.tups b xs q), fun b o u q => un.frzs b o u (I.base.frzs b o u q), fun b ps q => ?_⟩, fun a u ea => ?_, B, a0, y1, fun b o q hb => ?_, in1⟩, he⟩
  · have q1 := I.base.keep b o q n hb hz
    have n1 := I.base.free b o q n hz
    exact toH b o (un.keep b o q1 n1 (old b o q hb) hz) (in2 b o q1 (old b o q hb))
  · obtain ⟨sl, q1⟩ := I.base.slot b o q n hb hz
    obtain ⟨sl', q2⟩ := slot b _ q1 (I.base.free b o q n hz) (by rw [fr]; exact List.mem_cons_of_mem _ hb)
    exact ⟨sl', q2⟩
  · obtain ⟨o', q1⟩ := I.base.there b o q hz
    exact un.free b o' q1 (I.base.free b o q n hz) hz
  · obtain ⟨o', q1⟩ := I.base.there b o q hz
    by_cases hb : b ∈ frs (envOfC qual scope s.heap.objs.size f cd :: outer)
    · obtain ⟨sl, q2⟩ := slot b _ q1 (I.stkFree b hb) hb
      exact ⟨_, q2⟩
    · obtain ⟨o2, q2⟩ := un.there b o' q1 hz
      exact ⟨o2, toH b o2 q2 (in2 b o' q1 hb)⟩
  · obtain ⟨m1, e1⟩ := I.base.tbls b ps q
    obtain ⟨m2, e2⟩ := un.tbls b _ e1
    exact ⟨m1 ++ m2, by rw [e2, Array.append_assoc]⟩
  · refine (hok a u ea).stay (fun b v hb q => toH b v q ?_) (fun _ q => q) fun _ _ q => q
    rcases hb with z | z
    · rw [z]; exact in1 a u ea
    · exact in1 b _ z
  · obtain ⟨o', q1⟩ := I.base.there b o q (show b ∉ ([] : List Addr) from List.not_mem_nil)
    exact in2 b o' q1 (old b o q hb)
end
end L2

namespace L2
open PySem PySem.Spec PyProof.Rows PySem.W
abbrev bmVE : List Value := [.type "ValueError", .type "Exception", .type "BaseException", .type "object"]
theorem exc_obj {K : Frag} {h : Heap} {C : Addr} (X : K.In h) (q : excIn K C bmVE "ValueError.__new__" = true) :
    ∃ bm N nm qn bs hdct sn sub ab col dd k0 k1 k2 k3 k5 mN, h.get? C = some (excClassObj nm qn C N bs bm hdct sn sub ab col dd k0 k1 k2 k3 k5 "ValueError.__new__") ∧ h.Ns N mN ∧ mN "__init__" = none ∧ OwnTail h bmVE bm := by
  unfold excIn at q
  cases hl : K.lookup C with
  | none => rw [hl] at q; cases q
  | some o =>
    obtain ⟨oc, od, dat, sl⟩ := o
    rw [hl] at q
    split at q
    · rename_i dd cd sl' ho
      cases ho
      split at q
      · rename_i C' bm k0 k1 k2 k3 n k5 hm hs
        simp only [Bool.and_eq_true, beq_iff_eq, Bool.not_eq_true'] at q
        obtain ⟨⟨⟨⟨⟨q1, q2⟩, q3⟩, q4⟩, q5⟩, q6⟩ := q
        subst q1 q2
        obtain ⟨nm, bs, mro, ns, qn, hd, sn, sub, ab, col, del⟩ := cd
        have hsl : sl = #[k0, k1, k2, k3, some (.builtin "ValueError.__new__"), k5] := by
          rw [← hs]
        cases hm
        cases q3
        subst hsl
        exact ⟨bm, ns, nm, qn, bs, hd, sn, sub, ab, col, od, k0, k1, k2, k3, k5, _, X _ _ hl, .of_isNs (isNs_of_in X q5), nsMap_none_of_in X q5 q6, tail_of_in X q4⟩
      · cases q
    · cases q
section
variable {P : Program} {w : World} {K : PySem.W.Frag} {mg : Str → Option Value} {base : Heap} {N : List Str} {qual : Str} {scope : Scope} {f : Addr} {cd : Value} {A : Around} {outer : List Env} {s : Shared} {H : Hp} {E : XK} {C : Addr} {x : Str} {np cpos pos : Pos} {e₀ : Expr} {t : TA}
def tRaise (C : Addr) (E : XK) (t : TA) : TS := fun _ σ H => t σ H fun vs H1 => vs.length ≤ sizeLine ∧ E (.ref C) none H1
theorem ps_raise (hq : excIn K C bmVE "ValueError.__new__" = true) (hg : Gl (cxOf (CX1 P w) P w K mg base N qual scope f cd A outer s H E) x) (hm : mg x = some (.ref C)) (ha : PA (cxOf (CX1 P w) P w K mg base N qual scope f cd A outer s H E) [e₀] t)
    (hs : starEach [e₀] (cxOf (CX1 P w) P w K mg base N qual scope f cd A outer s H E).env = [(false, eval e₀ (cxOf (CX1 P w) P w K mg base N qual scope f cd A outer s H E).env)] := by rfl) (hd : (x == ("__debug__" : Str)) = false := by decide) :
    PS (cxOf (CX1 P w) P w K mg base N qual scope f cd A outer s H E) (.Raise (some (.Call (.Name x np) [e₀] [] cpos)) none pos) (tRaise C E t) := by
  intro pins s1 σ H1 D I h
  obtain ⟨bm, Ns, nm, qn, bs, hdct, sn, sub, ab, col, dd, k0, k1, k2, k3, k5, mN, hC, hN, hni, T⟩ := exc_obj I.ok.mod.kin hq
  refine wpAny_Raise_call_subT (C := C) (nm := nm) (q := qn) (N := Ns) (bs := bs) (bm := bm) (hdct := hdct) (sn := sn) (sub := sub) (ab := ab) (col := col) (dd := dd) (k0 := k0) (k1 := k1) (k2 := k2) (k3 := k3) (k5 := k5)
    F.excBase_ValueError (mN := mN) (T.hasType (by decide +kernel)) (I.ok.hd rfl) (by rw [hs]; rfl) hni (ld_glob I hg hm ⟨rfl, ?_⟩ hd)
  have hA := ha cpos pins s1 σ H1 _ I h
  rw [hs] at hA ⊢
  refine Calls.evalArgs_plain (wpAny_mono hA (fun us s2 h2 => ?_) fun _ _ y => y)
  obtain ⟨vs, H2, I2, r2, hl, q2⟩ := h2
  refine ⟨rfl, ?_, I2.bk _ _ hC, hN.keeps I2.bk, T.keeps I2.bk, fun h' e hx => xe_made I2 hx q2⟩
  rw [← r2.length]
  exact hl
end
end L2

namespace L2
open PySem PySem.Spec PyProof.Rows PySem.W
abbrev Cx.suite (X : Cx) (ea : Addr) (E : Value → Shared → Prop) : Cx := { X with A := X.A.mark (some (.ref ea)), calm := false, xe := E }
section
variable {X : Cx} {pins : List (Addr × Obj)} {σ : St} {H : Hp} {s : Shared} {ea : Addr} {E : Value → Shared → Prop}
theorem Inv.suite (I : Inv X pins σ H s) (ea : Addr) (E : Value → Shared → Prop) : Inv (X.suite ea E) pins σ H s :=
  ⟨⟨I.ok.mod, I.ok.kind, I.ok.glob, I.ok.blt, I.ok.above, I.ok.inj, I.ok.has, I.ok.cab, fun z => (nomatch z), I.ok.frames, I.ok.stk, I.ok.exf, I.ok.bs, I.ok.bsz, I.ok.noex, I.ok.exfs, I.ok.funs, I.ok.frf⟩, I.os, I.bare, I.base, I.loc, I.cell, I.free, I.freeC, I.pin, I.hok, I.len⟩
theorem Inv.unsuite (ok : X.Ok) (I : Inv (X.suite ea E) pins σ H s) : Inv X pins σ H s := ⟨ok, I.os, I.bare, I.base, I.loc, I.cell, I.free, I.freeC, I.pin, I.hok, I.len⟩
theorem name_goes {M : Model} {A : Around} {E' : Value → Shared → Prop} {i : Nat} {x : Str} {pos : Pos} {Q : Unit → Shared → Prop} (I : Inv X pins σ H s) (hN : X.N.Nodup) (hi : X.N[i]? = some x) (hk : X.env.scope.names.lookup x = some .local)
    (h : ∀ s', Inv X pins (σ.set i none) H s' → Q () s') : wpAny M A (do bindName X.env x .none; unbindBehindTheSuite X.env x pos) Q E' s := by
  obtain ⟨m, hn, hl⟩ := id I.loc
  have hcls : (X.env.scope.kind == .class || (X.env.scope.kind == .module && X.env.locals != X.env.globals)) = false := by rw [I.ok.kind]; rfl
  have hiσ : i < σ.length := by rw [I.len]; exact (List.getElem?_eq_some_iff.mp hi).1
  refine wpAny_nameGoes_keeps hk hn hcls fun h' v hn' hs => h _ ?_
  have lo : ∀ b o, X.s₀.heap.get? b = some o → b ≠ X.env.locals := fun b o e => Nat.ne_of_lt (Nat.lt_of_lt_of_le (Heap.lt_size e) I.ok.above)
  refine ⟨I.ok, I.os, I.bare, ⟨fun b o e n hb hx => (hs.2 b (lo b o e)).trans (I.base.keep b o e n hb hx), fun b o e n hb hx => ?_, I.base.free, fun b o e hx => ?_, I.base.tups, I.base.frzs, I.base.tbls⟩, ⟨_, hn', fun j y v' e1 e2 e3 => ?_⟩, fun y c e => ?_, I.free, I.freeC, fun p hp => ?_, fun b ob e => ?_, by rw [List.length_set]; exact I.len⟩
  · obtain ⟨sl, e1⟩ := I.base.slot b o e n hb hx
    exact ⟨sl, (hs.2 b (lo b o e)).trans e1⟩
  · obtain ⟨o', e1⟩ := I.base.there b o e hx
    exact ⟨o', (hs.2 b (lo b o e)).trans e1⟩
  · by_cases hj : j = i
    · subst hj
      rw [List.getElem?_set_self hiσ] at e2
      cases e2
    · rw [List.getElem?_set_ne (Ne.symm hj)] at e2
      obtain ⟨u', r', q⟩ := hl j y v' e1 e2 e3
      refine ⟨u', r', ?_⟩
      rcases q with ⟨k, e⟩ | ⟨k, c, e, z⟩
      · have ne : y ≠ x := fun e => hj (nodup_ix hN e1 (by rw [e]; exact hi))
        exact .inl ⟨k, by simp [ne, e]⟩
      · exact .inr ⟨k, c, e, z.sameBut hs (I.cne y c e)⟩
  · obtain ⟨w', z⟩ := I.cell y c e
    exact ⟨w', z.sameBut hs (I.cne y c e)⟩
  · obtain ⟨e, n, ne, nf, d⟩ := I.pin p hp
    exact ⟨(hs.2 p.1 ne).trans e, n, ne, nf, d⟩
  · refine (I.hok b ob e).stay (fun c w' hc q => (hs.2 c ?_).trans q) (fun _ q => q) fun _ _ q => q
    rintro rfl
    rcases hc with z | z
    · rw [← z, I.free] at e; cases e
    · rw [I.free] at z; cases z
theorem Inv.adoptX {a : Addr} {o : HO} (I : Inv X pins σ H s) (hn : H a = none) (hL : a ≠ X.env.locals) (hc : ∀ x c, X.env.cells.lookup x = some c → c ≠ a) (hp : ∀ p ∈ X.pn ++ pins, p.1 ≠ a) (hx : X.s₀.heap.get? a = none) (new : ObjOk X.prog X.w (upd H a o) s.heap a o) : Inv X pins σ (upd H a o) s := by
  have lt : ∀ b ob, X.s₀.heap.get? b = some ob → b ≠ a := fun b ob e z => by rw [z, hx] at e; cases e
  refine ⟨I.ok, I.os, I.bare, ⟨I.base.keep, I.base.slot, fun b ob e n hz => ?_, I.base.there, fun b xs e => ?_, fun b ob u e => ?_, fun b ps e => ?_⟩, I.loc, I.cell, ?_, fun x c e => ?_, fun p hp' => ?_, fun b u e => ?_, I.len⟩
  · rw [upd_ne (lt b ob e)]; exact I.base.free b ob e n hz
  · have q := I.base.tups b xs e
    rw [upd_ne (ne_of_none q hn)]; exact q
  · have q := I.base.frzs b ob u e
    rw [upd_ne (ne_of_none q hn)]; exact q
  · obtain ⟨more, q⟩ := I.base.tbls b ps e
    exact ⟨more, by rw [upd_ne (ne_of_none q hn)]; exact q⟩
  · rw [upd_ne hL.symm]; exact I.free
  · rw [upd_ne (hc x c e)]; exact I.freeC x c e
  · obtain ⟨q1, q2, q3⟩ := I.pin p hp'
    exact ⟨q1, by rw [upd_ne (hp p hp')]; exact q2, q3⟩
  · by_cases hb : b = a
    · subst hb; rw [upd_same] at e; cases e; exact new
    · rw [upd_ne hb] at e
      exact (I.hok b u e).stay (fun _ _ _ q => q) (fun c q => by rw [upd_ne (ne_of_none q hn)]; exact q) fun c xs q => by rw [upd_ne (ne_of_none q hn)]; exact q
end
theorem Fly.land {P : Program} {w : World} {outer : List Env} {H H' : Hp} {s s' : Shared} {ea D : Addr} (os : s'.os = s.os) (un : Un (frs outer) [] H H' s.heap s'.heap) (hok : HOk P w H' s'.heap) {B : Heap} {a0 : Value} (fly : Heap.FlyingW B outer ea (.ref D) a0 s'.heap)
    (in2 : ∀ b o, s.heap.get? b = some o → b ∉ frs outer → ∃ o', B.get? b = some o') (in1 : ∀ b u, H' b = some u → ∃ o, B.get? b = some o) {h5 : Heap} (stay : B.StaysIn h5) (sm : s'.heap.UpToSlots h5) :
    Un (frs outer) [] H H' s.heap h5 ∧ HOk P w H' h5 := by
  have toH : ∀ b o, s'.heap.get? b = some o → (∃ o', B.get? b = some o') → h5.get? b = some o := fun b o q ⟨o', q'⟩ => by
    have := fly.1 b o' q'
    rw [q] at this
    cases this
    exact stay b o q'
  have fr : ∀ b o, s'.heap.get? b = some o → b ∈ frs outer → ∃ sl, h5.get? b = some { o with slots := sl } := fun b o q hb => by
    obtain ⟨_, o', q', nf⟩ := fly.2.2.1.mem hb
    rw [q] at q'
    cases q'
    exact sm b o q nf
  refine ⟨⟨fun b o q n hb hz => toH b o (un.keep b o q n hb hz) (in2 b o q hb), fun b o q n hb hz => ?_, un.free, fun b o q hz => ?_, un.tups, un.frzs, un.tbls⟩, fun a u e => ?_⟩
  · obtain ⟨sl, q1⟩ := un.slot b o q n hb hz
    obtain ⟨sl', q2⟩ := fr b _ q1 hb
    exact ⟨sl', q2⟩
  · obtain ⟨o', q1⟩ := un.there b o q hz
    by_cases hb : b ∈ frs outer
    · obtain ⟨sl, q2⟩ := fr b _ q1 hb
      exact ⟨_, q2⟩
    · exact ⟨o', toH b o' q1 (in2 b o q hb)⟩
  · refine (hok a u e).stay (fun b v hb q => toH b v q ?_) (fun _ q => q) fun _ _ q => q
    rcases hb with z | z
    · rw [z]; exact in1 a u e
    · exact in1 b _ z
end L2

namespace L2
open PySem PySem.Spec PyProof.Rows PySem.W
def endsBut (D : Ends) (i : Nat) : Ends := { nx := fun σ H => D.nx (σ.set i none) H, rt := D.rt, bk := fun σ H => D.bk (σ.set i none) H, ct := fun σ H => D.ct (σ.set i none) H }
section
variable {X : Cx} {pins : List (Addr × Obj)} {σ : St} {H H' : Hp} {s s' : Shared} {ea D C : Addr} {x n : Str} {np hpos : Pos} {ni : Nat} {b₀ : Stmt} {suite : List Stmt} {ts : TS} {Ds : Ends}
theorem exc_at {B h : Heap} {l : List Env} {a0 : Value} (f : Heap.FlyingW B l ea (.ref D) a0 h) : XC.ExcAt h ea D := by
  obtain ⟨_, _, _, oe, vs, _, _, _, h1, h2, h3, _⟩ := f
  exact ⟨oe, vs, h1, h2.1, h3⟩
theorem caught (I : Inv X pins σ H s) (hst : X.stack = X.env :: X.outer) (hfr : X.env.frame = some X.env.locals) (hex : X.ex = []) (F : Fly X.prog X.w X.stack H s ea D H' s') (hg : Gl X x) (hm : X.mg x = some (.ref C)) (hc : kitCls X.K (.ref D) (.ref C) = some true) (hs : kitCls X.K (.ref C) (.type "BaseException") = some true)
    (hN : X.N.Nodup) (hi : X.N[ni]? = some n) (hk : X.env.scope.names.lookup n = some .local) (hsuite : ∀ ea E, PSs (X.suite ea E) (b₀ :: suite) ts) (hd : (x == ("__debug__" : Str)) = false)
    (q : H' ea = none → ts (endsBut Ds ni) (σ.set ni (some (.ref ea))) (upd H' ea (.ext fun h => XC.ExcAt h ea D))) :
    wpAny (model X.prog X.w) X.A (noteFrame (.ref ea) X.env) (fun _ s₂ => wpAny (model X.prog X.w) X.A (setFlight (.ref ea) none) (fun _ s₃ =>
      wpAny (model X.prog X.w) X.A (handleBy (.ref ea) X.env [.ExceptHandler (some (.Name x np)) (some n) (b₀ :: suite) hpos]) (SP X pins Ds) X.xe s₃) X.xe s₂) X.xe s' := by
  obtain ⟨os, bare, un, hok, B, a0, fly, in2, in1⟩ := F
  have fly' := fly
  rw [hst] at fly'
  have frm := I.ok.frames
  rw [hst] at frm
  have hne : s.heap.get? ea = none := by
    cases z : s.heap.get? ea with
    | none => rfl
    | some o =>
      by_cases hb : ea ∈ frs X.stack
      · obtain ⟨_, o', e1, nf⟩ := fly.2.2.1.mem hb
        obtain ⟨oe, vs, e2, _, e3⟩ := exc_at fly
        rw [e1] at e2
        cases e2
        exact absurd e3 (nf vs)
      · obtain ⟨o', e1⟩ := in2 ea o z hb
        rw [fly.2.1] at e1
        cases e1
  have hn : H' ea = none := by
    cases z : H' ea with
    | none => rfl
    | some u =>
      obtain ⟨o, e1⟩ := in1 ea u z
      rw [fly.2.1] at e1
      cases e1
  refine wpAny_looks_onW frm hfr fly' fun h4 held sm4 => ?_
  refine wpAny_landsW held fun h5 fly5 sm5 => ?_
  obtain ⟨un5, hok5⟩ := Fly.land os un hok fly in2 in1 fly5.1 (sm4.trans sm5)
  have I5 : Inv X pins σ H' { s' with heap := h5 } := I.call' (ch := []) os un5 hok5 bare fun b z => absurd z List.not_mem_nil
  refine wpAny_handleBy_cons (codeAny_handlers_test (ld_glob (X := X.suite ea fun _ _ => False) (I5.suite ea _) hg hm ?_ hd)) (by intro q; cases q)
  refine XC.exc_matches (K := X.K) I5.kIn (exc_at fly5) hc hs ?_
  refine codeAny_handlers_suite_as ?_
  refine lands_againW fly5 fun h6 fly6 sm6 => ?_
  obtain ⟨un6, hok6⟩ := Fly.land os un hok fly in2 in1 fly6.1 ((sm4.trans sm5).trans sm6)
  have I6 : Inv X pins σ H' { s' with heap := h6 } := I.call' (ch := []) os un6 hok6 bare fun b z => absurd z List.not_mem_nil
  have ex6 := exc_at fly6
  have I7 : Inv X pins σ (upd H' ea (.ext fun h => XC.ExcAt h ea D)) { s' with heap := h6 } := by
    refine I6.adoptX hn (fun z => ?_) (fun y c e z => ?_) (fun p hp z => ?_) ?_ ⟨ex6, ?_, fun h1 h2 z k => ?_⟩
    · obtain ⟨m, ⟨o, _, _, ho, _⟩, _⟩ := I.loc
      rw [← z, hne] at ho
      cases ho
    · obtain ⟨w', o, ho, _⟩ := I.cell y c e
      rw [z, hne] at ho
      cases ho
    · have := (I.pin p hp).1
      rw [z, hne] at this
      cases this
    · cases z : X.s₀.heap.get? ea with
      | none => rfl
      | some o =>
        obtain ⟨o', e1⟩ := I.base.there ea o z (by rw [hex]; exact List.not_mem_nil)
        rw [hne] at e1
        cases e1
    · obtain ⟨oe, vs, e1, _⟩ := ex6
      exact ⟨oe, e1⟩
    · obtain ⟨oe, vs, e1, e2⟩ := z
      exact ⟨oe, vs, k _ e1, e2⟩
  refine store_ok (v := .ref ea) I7 hN hi (.inl hk) rfl (fun s8 I8 => ?_) (.inr hk)
  refine wpAny_mono (hsuite ea _ pins s8 _ _ (endsBut Ds ni) (I8.suite ea _) (q hn)) (fun f s9 h9 => ?_) (fun e s9 z => z)
  cases f with
  | next =>
    obtain ⟨σ', H9, I9, q9⟩ := h9
    exact name_goes (I9.unsuite I.ok) hN hi hk fun s10 I10 => ⟨_, _, I10, q9⟩
  | brk =>
    obtain ⟨σ', H9, I9, q9⟩ := h9
    exact name_goes (I9.unsuite I.ok) hN hi hk fun s10 I10 => ⟨_, _, I10, q9⟩
  | cont =>
    obtain ⟨σ', H9, I9, q9⟩ := h9
    exact name_goes (I9.unsuite I.ok) hN hi hk fun s10 I10 => ⟨_, _, I10, q9⟩
  | ret u =>
    obtain ⟨v, σ', H9, I9, r9, q9⟩ := h9
    exact name_goes (I9.unsuite I.ok) hN hi hk fun s10 I10 => ⟨v, _, _, I10, r9, q9⟩
variable {CX : CXT} {k : Nat} {f : Addr} {fd : FuncData} {ps : List Str} {sp : Sp} {y fx : Str} {yi : Nat} {py p cpos apos pos : Pos} {e : Expr} {es : List Expr} {t : TA}
def Fn1 (P : Program) (w : World) (K : PySem.W.Frag) (mg : Str → Option Value) (base : Heap) (x : Str) (ps : List Str) (k : Nat) (sp : Sp) : Prop :=
  ∃ (f : Addr) (fd : FuncData), mg x = some (.ref f) ∧ PySem.W.keepIn K (.ref f) = true ∧ Binds K fd ps [] ∧ FnOk P w K mg base (CX1 P w) k f fd ps sp
end
end L2

namespace L2
open PySem PySem.Spec PyProof.Rows PySem.W
theorem PS.nox {X : Cx} {st : Stmt} {t : TS} (h : PS X.nox st t) : PS X st t := fun pins s σ H D I hw =>
  wpAny_mono (h pins s σ H D (I.wish _) hw) (fun _ _ q => SP.unwish q) fun _ _ z => False.elim z
section
variable {P : Program} {w : World} {K : PySem.W.Frag} {mg : Str → Option Value} {base : Heap}
theorem Fun.ok1 {x qual : Str} {st : Stmt} {f : Addr} {fd : FuncData} {N ps : List Str} {k : Nat} {sp : Sp} (F : Fun K x qual st f fd) (S : FnScope N ps (defScope st)) (len : ∀ vs H Q E, sp vs H Q E → vs.length = ps.length)
    (hbody : ∀ (cdv : Value) (A : Around) (outer : List Env) (s : Shared) (H : Hp) (vs : List V) (Q : VK) (E : XK), Room k (A.deeper (envOfC qual (defScope st) s.heap.objs.size f cdv)) → sp vs H Q E →
      ∃ t, PSs (cxOf (CX1 P w) P w K mg base N qual (defScope st) f cdv A outer s H E) (defBody st) t ∧ t { nx := fun _ H' => Q .non H', rt := Q } (start N vs) H) : FnOk P w K mg base (CX1 P w) (k + 1) f fd ps sp := by
  obtain ⟨oc, od, kV, doc, pm, an, cdv, ct, osl, rfl, lk, hcd⟩ := F.ex
  exact fn_of lk hcd S len fun A outer s H vs Q E hr hsp => hbody cdv A outer s H vs Q E hr hsp
end
section
variable {P : Program} {w : World} {K : PySem.W.Frag} {mg : Str → Option Value} {base : Heap} {N : List Str} {qual : Str} {scope : Scope} {f : Addr} {cd : Value} {A : Around} {outer : List Env} {s : Shared} {H : Hp} {E : XK} {x : Str} {ps : List Str} {k : Nat} {sp : Sp} {e : Expr} {es : List Expr} {t : TA} {p pos : Pos}
theorem pe_fn1 (G : Fn1 P w K mg base x ps k sp) (hr : Room k (cxOf (CX1 P w) P w K mg base N qual scope f cd A outer s H E).A) (ha : PA (cxOf (CX1 P w) P w K mg base N qual scope f cd A outer s H E) (e :: es) t) (hg : Gl (cxOf (CX1 P w) P w K mg base N qual scope f cd A outer s H E) x := by rfl) (hdb : (x == ("__debug__" : Str)) = false := by decide)
    (he : starEach (e :: es) (cxOf (CX1 P w) P w K mg base N qual scope f cd A outer s H E).env = (false, eval e (cxOf (CX1 P w) P w K mg base N qual scope f cd A outer s H E).env) :: starEach es (cxOf (CX1 P w) P w K mg base N qual scope f cd A outer s H E).env := by rfl) (hpl : (backTo pos (starEach es (cxOf (CX1 P w) P w K mg base N qual scope f cd A outer s H E).env)).any (·.1) = false := by rfl) :
    PE (cxOf (CX1 P w) P w K mg base N qual scope f cd A outer s H E) (.Call (.Name x p) (e :: es) [] pos) (tCall sp [] E t) := by
  obtain ⟨g, fd, hm, hk, hb, F⟩ := G
  exact pe_call F hr hg hm hk hb .nil pass1 ha hdb he hpl
end
section
variable {X : Cx} {K : PySem.W.Frag}
inductive ClsV : V → Value → Prop
  | own (C : Addr) : ClsV (.ref C) (.ref C)
  | ty (T : String) : ClsV (.ty T) (.type T)
theorem call_isinstE (hK : X.K = K := by rfl) : CallR X (.builtin "isinstance") (fun xs H Q => ∃ (ea D : Addr) (c : V) (cv : Value) (b : Bool), xs = [.ref ea, c] ∧ ClsV c cv ∧ H ea = some (.ext fun h => XC.ExcAt h ea D) ∧ XC.ExcCls K D ∧ kitOne K (.ref D) cv = some b ∧ Q (.bl b) H) := by
  subst hK
  intro pins s σ H xs us Q I r h
  obtain ⟨ea, D, c, cv, b, rfl, hc, he, C, hk, q⟩ := h
  cases r with
  | cons r1 rr =>
    cases rr with
    | cons r2 rr =>
      cases rr
      cases r1
      have ex : XC.ExcAt s.heap ea D := (I.hok ea _ he).1
      cases hc with
      | own C' => cases r2; exact PySem.W.kia_one (XC.kitx_exc C) I.kIn ex hk (fun z => nomatch z) fun tk => ⟨.bl b, H, I.tok _, rfl, q⟩
      | ty T => cases r2; exact PySem.W.kia_one (XC.kitx_exc C) I.kIn ex hk (fun z => nomatch z) fun tk => ⟨.bl b, H, I.tok _, rfl, q⟩
end
end L2

namespace L2
open PySem PySem.Spec PyProof.Rows PySem.W
section
variable {M : Model} {A : Around} {E : Value → Shared → Prop} {s : Shared}
theorem leaves_any {B : Heap} {env : Env} {outer : List Env} {L e : Addr} {cls a0 fl : Value} {Q : Unit → Shared → Prop} (hfr : A.frames = some (env :: outer)) (hf : env.frame = some L) (st : B.StaysIn s.heap) (en : B.get? e = none) (ff : s.heap.FunFrames B (env :: outer))
    (tr : s.heap.TracedAtW B e cls a0 fl) (hfl : fl = .none ∨ ∃ L' : Addr, fl = rawInt L') (hQ : ∀ h', Heap.FlyingW B outer e cls a0 h' → s.heap.UpToSlots h' → Q () { s with heap := h' }) : wpAny M A (leaving env (.ref e)) Q E s := by
  rcases hfl with rfl | ⟨L', rfl⟩
  · exact wpAny_leaves_onW hfr hf ⟨st, en, ff, tr⟩ hQ
  · by_cases eL : L' = L
    · subst eL
      unfold leaving
      refine wpAny_bind (wpAny_noteFrame_againW hf tr ?_)
      refine wpAny_landsW ⟨st, en, ff, tr⟩ fun h' hfl up => ?_
      obtain ⟨k1, k2, ⟨_, _, k3⟩, k4⟩ := hfl
      exact hQ h' ⟨k1, k2, k3, k4⟩ up
    · obtain ⟨oE, ws, U, oU, us, gE, ⟨hc, w0⟩, dE, w1, nU, neU, gU, dU, u3⟩ := tr
      subst hc
      unfold leaving noteFrame
      simp only [hf]
      refine wpAny_bind (wpAny_bind (wpAny_field gE dE w1 ?_))
      rw [if_pos (show (Value.ref U != Value.none) = true by simp)]
      refine wpAny_bind (wpAny_field gU dU u3 ?_)
      rw [if_neg (show ¬ ((rawInt (L' : Int) == rawInt (L : Int)) = true) by simp [rawInt]; exact fun z => eL (by exact_mod_cast z))]
      have lt3 : 3 < us.size := (Array.getElem?_eq_some_iff.mp u3).1
      refine wpAny_bind (wpAny_setField gU dU lt3 ?_)
      have oth : ∀ b, b ≠ U → (s.heap.update U (Obj.mapFields (·.setIfInBounds 3 Value.none))).get? b = s.heap.get? b := fun b hb => Heap.get?_update_other _ _ (Ne.symm hb)
      have neR : ∀ b o, s.heap.get? b = some o → (∀ vs, o.data ≠ .fields vs) → b ≠ U := fun b o hb hnf q => by
        subst q
        rw [gU] at hb
        cases hb
        exact hnf us dU
      refine wpAny_entryW (base := B) hfr (ff.of_keeps fun b o hb hnf => ⟨o, (oth b (neR b o hb hnf)).trans hb, rfl⟩) hf ((oth e (Ne.symm neU)).trans gE)
        (fun b o hb => (oth b fun q => by subst q; rw [nU] at hb; cases hb).trans (st b o hb)) en dE (Array.getElem?_eq_some_iff.mp w1).1 w0 fun h1 ⟨x1, x2, x3, x4⟩ => ?_
      refine wpAny_landsW (base := B) (L := L) ⟨x1, en, x2, x3⟩ fun h' hfl up => ?_
      obtain ⟨k1, k2, ⟨_, _, k3⟩, k4⟩ := hfl
      refine hQ h' ⟨k1, k2, k3, k4⟩ fun b o hb hnf => ?_
      obtain ⟨sl, q⟩ := x4 b o ((oth b (neR b o hb hnf)).trans hb) hnf
      obtain ⟨sl', q'⟩ := up b _ q hnf
      exact ⟨sl', q'⟩
end
section
variable {P : Program} {w : World} {K : PySem.W.Frag} {mg : Str → Option Value} {base : Heap} {N : List Str} {qual : Str} {scope : Scope} {f : Addr} {cd : Value} {A : Around} {outer : List Env} {s s1 : Shared} {H H1 : Hp} {E : XK} {pins : List (Addr × Obj)} {σ : St}
theorem pass1g {fl a0 : Value} {ea D C : Addr} {H' : Hp} {s3 : Shared} {B : Heap} (I : Inv (cxOf (CX1 P w) P w K mg base N qual scope f cd A outer s H E) pins σ H1 s1) (os : s3.os = s1.os) (bare : AllBare s3.gens) (un : Un (frs (envOfC qual scope s.heap.objs.size f cd :: outer)) [C] H1 H' s1.heap s3.heap) (hok : HOk P w H' s3.heap)
    (hC : s.heap.get? C = none) (st : B.StaysIn s3.heap) (en : B.get? ea = none) (ff : s3.heap.FunFrames B (envOfC qual scope s.heap.objs.size f cd :: outer)) (tr : s3.heap.TracedAtW B ea (.ref D) a0 fl) (hfl : fl = .none ∨ ∃ L' : Addr, fl = rawInt L')
    (in2 : ∀ b o, s1.heap.get? b = some o → b ∉ frs (envOfC qual scope s.heap.objs.size f cd :: outer) → b ≠ C → ∃ o', B.get? b = some o') (in1 : ∀ b u, H' b = some u → ∃ o, B.get? b = some o) (he : E (.ref D) none H') :
    (cxOf (CX1 P w) P w K mg base N qual scope f cd A outer s H E).xe (.ref ea) s3 := by
  have fr : frs (envOfC qual scope s.heap.objs.size f cd :: outer) = s.heap.objs.size :: frs outer := rfl
  have old : ∀ b o, s.heap.get? b = some o → b ∉ frs outer → b ∉ frs (envOfC qual scope s.heap.objs.size f cd :: outer) := fun b o q hb z => by
    rw [fr] at z
    rcases List.mem_cons.mp z with z | z
    · exact absurd (Heap.lt_size q) (by rw [z]; exact Nat.lt_irrefl _)
    · exact hb z
  have neC : ∀ b o, s.heap.get? b = some o → b ≠ C := fun b o q e => by subst e; rw [hC] at q; cases q
  have noC : ∀ b o, s.heap.get? b = some o → b ∉ [C] := fun b o q e => neC b o q (List.mem_singleton.mp e)
  refine leaves_any (B := B) I.ok.frames rfl st en ff tr hfl fun h'' y1 y2 => ?_
  have toH : ∀ b o, s3.heap.get? b = some o → (∃ o', B.get? b = some o') → h''.get? b = some o := fun b o q ⟨o', q'⟩ => by
    have := st b o' q'
    rw [q] at this
    cases this
    exact y1.1 b o q'
  have slot : ∀ b o, s1.heap.get? b = some o → H1 b = none → b ∈ frs (envOfC qual scope s.heap.objs.size f cd :: outer) → b ∉ [C] → ∃ sl, h''.get? b = some { o with slots := sl } := fun b o q n hb hc => by
    obtain ⟨sl, q1⟩ := un.slot b o q n hb hc
    obtain ⟨_, o', q', nf⟩ := ff.mem hb
    rw [q1] at q'
    cases q'
    obtain ⟨sl', q2⟩ := y2 b _ q1 nf
    exact ⟨sl', q2⟩
  refine ⟨ea, D, H', rfl, ⟨os.trans I.os, bare, ⟨fun b o q n hb hz => ?_, fun b o q n hb hz => ?_, fun b o q n hz => ?_, fun b o q hz => ?_, fun b xs q => un.tups b xs (I.base.tups b xs q), fun b o u q => un.frzs b o u (I.base.frzs b o u q), fun b ps q => ?_⟩, fun a u ea => ?_, B, a0, y1, fun b o q hb => ?_, in1⟩, he⟩
  · have q1 := I.base.keep b o q n hb hz
    have n1 := I.base.free b o q n hz
    exact toH b o (un.keep b o q1 n1 (old b o q hb) (noC b o q)) (in2 b o q1 (old b o q hb) (neC b o q))
  · obtain ⟨sl, q1⟩ := I.base.slot b o q n hb hz
    obtain ⟨sl', q2⟩ := slot b _ q1 (I.base.free b o q n hz) (by rw [fr]; exact List.mem_cons_of_mem _ hb) (noC b o q)
    exact ⟨sl', q2⟩
  · obtain ⟨o', q1⟩ := I.base.there b o q hz
    exact un.free b o' q1 (I.base.free b o q n hz) (noC b o q)
  · obtain ⟨o', q1⟩ := I.base.there b o q hz
    by_cases hb : b ∈ frs (envOfC qual scope s.heap.objs.size f cd :: outer)
    · obtain ⟨sl, q2⟩ := slot b _ q1 (I.stkFree b hb) hb (noC b o q)
      exact ⟨_, q2⟩
    · obtain ⟨o2, q2⟩ := un.there b o' q1 (noC b o q)
      exact ⟨o2, toH b o2 q2 (in2 b o' q1 hb (neC b o q))⟩
  · obtain ⟨m1, e1⟩ := I.base.tbls b ps q
    obtain ⟨m2, e2⟩ := un.tbls b _ e1
    exact ⟨m1 ++ m2, by rw [e2, Array.append_assoc]⟩
  · refine (hok a u ea).stay (fun b v hb q => toH b v q ?_) (fun _ q => q) fun _ _ q => q
    rcases hb with z | z
    · rw [z]; exact in1 a u ea
    · exact in1 b _ z
  · obtain ⟨o', q1⟩ := I.base.there b o q (show b ∉ ([] : List Addr) from List.not_mem_nil)
    exact in2 b o' q1 (old b o q hb) (neC b o q)
end
end L2

namespace L2
open PySem PySem.Spec PyProof.Rows PySem.W
def Cx.comp1 (X : Cx) (scope : Scope) (N' : List Str) (C : Addr) (fp : List Addr) (s : Shared) (H : Hp) (EX : XK) : Cx :=
  (X.comp scope N' C fp s H).wish fun e s' => ∃ (pins' : List (Addr × Obj)) (τ : St) (Hc : Hp) (sc : Shared), Inv (X.comp scope N' C fp s H) pins' τ Hc sc ∧ CX1 X.prog X.w X.stack Hc sc EX e s'
section
variable {prog : Program} {w : World} {A : Around} {R : Result → Shared → Prop} {s : Shared}
theorem compLoop_go1 {elt target iter : Expr} {ifs : List Expr} {scope : Scope} {pos : Pos} {it acc : Value} {env : Env} (xc : Value → Shared → Prop) (I : Nat → Shared → Prop)
    (turn : ∀ n s, I n s → wpAny (model prog w) A (pyNext it) (fun r s₁ => match r with
      | none => R (.ok .next) s₁
      | some v => wpAny (model prog w) A (letOwnedTupleGo target it v) (fun _ s1' => wpAny (model prog w) A (assign target env v) (fun _ s₂ =>
          wpAny (model prog w) A (forIn ifs true fun c r => if r = true then do let ok ← isTrue c env (eval c env); pure (ForInStep.yield ok) else pure (ForInStep.yield r)) (fun ok s₃ =>
            if ok = true then wpAny (model prog w) A (eval elt env) (fun x s₄ => wpAny (model prog w) A (call (.builtin "list.append") [acc, x]) (fun _ s₅ => ∃ m, m < n ∧ I m s₅) (fun _ _ => False) s₄) xc s₃
            else ∃ m, m < n ∧ I m s₃) (fun _ _ => False) s₂) (fun _ _ => False) s1') (fun _ _ => False) s₁) (fun _ _ => False) s)
    (n : Nat) (h : I n s) (err : ∀ e s', xc e s' → wpAny (model prog w) A (noteFrame e env) (fun _ s'' => R (.error e) s'') (fun e' s'' => R (.error e') s'') s') : codeAny (model prog w) A (.compLoop (.ListComp elt [⟨target, iter, ifs, 0⟩] scope pos) 0 it acc env) R s := by
  refine codeAny_loop rfl I (fun n s hI => ?_) n h
  show wpAny _ A ((compTurn (.ListComp elt [⟨target, iter, ifs, 0⟩] scope pos) 0 it acc env).onRaise (fun x => do noteFrame x env; theTreesLotGoes x)) _ _ s
  refine wpAny_noted (wpAny_mono (E := xc) ?_ (fun _ _ q => q) fun e s' q => err e s' q)
  rw [compTurn_list]
  refine wpAny_bind (wpAny_standAt (wpAny_bind (wpAny_mono (turn n s hI) (fun r s₁ h₁ => ?_) fun _ _ z => z.elim)))
  cases r with
  | none => exact wpAny_pure h₁
  | some v =>
    refine wpAny_bind (wpAny_mono h₁ (fun _ s1' h1' => wpAny_bind (wpAny_mono h1' (fun _ s₂ h₂ => wpAny_bind (wpAny_mono h₂ (fun ok s₃ h₃ => ?_) fun _ _ z => z.elim)) fun _ _ z => z.elim)) fun _ _ z => z.elim)
    cases ok with
    | false => exact wpAny_pure ⟨rfl, h₃⟩
    | true => exact wpAny_bind (wpAny_bind (thn h₃ fun x s₄ h₄ => wpAny_bind (wpAny_mono h₄ (fun _ s₅ h₅ => wpAny_pure (wpAny_pure ⟨rfl, h₅⟩)) fun _ _ z => z.elim)))
end
section
variable {X : Cx} {tg elt iter : Expr} {ifs : List Expr} {scope : Scope} {pos : Pos} {N' : List Str} {ix : List (Option Nat)} {g : TG} {tc : TT} {te : TE} {pins : List (Addr × Obj)} {σ : St} {H : Hp} {s : Shared}
theorem comp_core1 {E : Value → Shared → Prop} {EX : XK} (hk : CompOk scope X.env.scope X.N N' ix) (hc : X.calm = true) (hg : ∀ C fp s H, PG (X.comp scope N' C fp s H) tg g) (ht : ∀ C fp s H, PTs (X.comp scope N' C fp s H) ifs tc)
    (he : ∀ C fp s H, PE (X.comp1 scope N' C fp s H EX) elt te) {it : Addr} {fp : List Addr} {tn : Nat → Heap → Prop} {J : It} (I2 : Inv X pins σ H s) (T : Turn X.prog X.w X.K tg J fp it tn) (st : tn 0 s.heap) (f2 : ∀ b ∈ fp, FpOk X pins H b)
    {Qe : List V → Hp → Prop} {W : Nat → Nat → List V → St → Hp → Prop} {m0 : Nat} (w0 : W 0 m0 [] (capSt ix σ) H)
    (turn : ∀ i m ys τ H, W i m ys τ H → (J.stop i H ∧ Qe ys H) ∨ (J.go i H ∧ ys.length < sizeLine ∧ ∃ N : List V → St → Hp → Prop, (∀ zs τ' H', N zs τ' H' → ∃ m', m' < m ∧ W (i + 1) m' zs τ' H') ∧ ∀ x H', J.yld i H x H' → g x τ H' fun τ1 H1 => tc τ1 H1 fun b H2 =>
      if b = true then te τ1 H2 fun y H3 => N (ys ++ [y]) τ1 H3 else N ys τ1 H2))
    {RR : Value → Addr → Result → Shared → Prop}
    (fin : ∀ (D C : Addr) (ys : List V) (its : List Value) (n : Nat) (H' : Hp) (s' : Shared) (m : Str → Option Value), s.heap.objs.size ≤ D → s.heap.objs.size ≤ C → D ≠ C → s'.heap.Ns C m → H' D = none → H' C = none → ys.length ≤ sizeLine →
      Vals ys its → s'.heap.get? D = some { cls := .type "list", data := .seq its.toArray n } → Inv X pins σ H' s' → Qe ys H' → RR (.ref D) C (.ok .next) s')
    (err : ∀ (D C : Addr), s.heap.objs.size ≤ D → s.heap.objs.size ≤ C → D ≠ C → ∀ e s', (X.comp1 scope N' C fp s H EX).xe e s' → wpAny (model X.prog X.w) X.A (noteFrame e (compEnvC scope (capt X.env.cells scope.names []) C X.env)) (fun _ s'' => RR (.ref D) C (.error e) s'') (fun e' s'' => RR (.ref D) C (.error e') s'') s') :
    wpAny (model X.prog X.w) X.A (newList []) (fun acc s₃ => wpAny (model X.prog X.w) X.A (newFunctionEnv scope X.env.globals (capt X.env.cells scope.names []) [] X.env.qual none .none (some X.env)) (fun cenv s₄ =>
      codeAny (model X.prog X.w) X.A (.compStart (.ListComp elt [⟨tg, iter, ifs, 0⟩] scope pos) 0 (.ref it) acc { cenv with scope := relabel scope X.env }) (RR acc cenv.locals) s₄) E s₃) E s := by
  have f3 : ∀ b ∈ fp, b < s.heap.objs.size := fun b hb => let ⟨o, e, _⟩ := T.obj 0 _ st b hb; Heap.lt_size e
  refine wpAny_newObj_type (wpAny_newFunctionEnv hk.nocell (by intro y hy; simp at hy) (fun h₁ hns₁ hsb₁ => ?_) hk.kind)
  dsimp only at hns₁ hsb₁ ⊢
  generalize hH2 : s.heap.push { cls := .type "list", dict := none, data := .seq ([] : List Value).toArray } = G2 at hns₁ hsb₁ ⊢
  have hCs : G2.objs.size = s.heap.objs.size + 1 := by rw [← hH2, Heap.size_push]
  generalize hCC : G2.objs.size = C at hns₁ hsb₁ hCs ⊢
  generalize hDD : s.heap.objs.size = D at hCs ⊢
  have hDC : D ≠ C := by rw [hCs]; exact Nat.ne_of_lt (Nat.lt_succ_self _)
  have hsC : s.heap.objs.size ≤ C := by rw [hCs, hDD]; exact Nat.le_succ _
  have hsD : s.heap.objs.size ≤ D := Nat.le_of_eq hDD
  have old : ∀ b o, s.heap.get? b = some o → h₁.get? b = some o := fun b o e => hsb₁.extBut b o (Nat.ne_of_lt (Nat.lt_of_lt_of_le (Heap.lt_size e) hsC)) (Heap.get?_push_of_some _ (hH2 ▸ Heap.get?_push_of_some _ e))
  have hacc : h₁.get? D = some { cls := .type "list", data := .seq ([] : List Value).toArray } := hsb₁.extBut _ _ hDC (Heap.get?_push_of_some _ (hH2 ▸ hDD ▸ Heap.get?_push_size _ rfl))
  have frD : H D = none := I2.hok.fresh hsD
  have nD : ∀ b, b < s.heap.objs.size → b ≠ D := fun b hb => Nat.ne_of_lt (Nat.lt_of_lt_of_le hb hsD)
  have dfs : D ∉ frs X.stack := fun hb => by
    rcases List.mem_cons.mp (I2.stkSub D hb) with e | e
    · exact absurd I2.lt (by rw [← e]; exact Nat.not_lt.mpr hsD)
    · exact I2.nofs hsD e
  have cellD : ∀ x c, (capt X.env.cells scope.names []).lookup x = some c → c ≠ D := fun x c e => by
    obtain ⟨v, q⟩ := I2.cell x c (comp_cells I2 hk x c e)
    exact nD c q.lt
  have pinD : ∀ {τ : St} {H' : Hp} {s' : Shared} {o : Obj}, Inv (X.comp scope N' C fp s H) [] τ H' s' → s'.heap.get? D = some o → H' D = none → (∀ v, o.data ≠ .cell v) → Inv (X.comp scope N' C fp s H) [(D, o)] τ H' s' := fun I e n d =>
    I.pins_of fun p hp => by
      rw [List.mem_singleton] at hp
      subst hp
      exact ⟨e, n, hDC, dfs, d⟩
  have stat : ∀ {H' : Hp} {o : Obj}, (∀ b ∈ fp, H' b = none) → ∀ b ∈ fp, FpOk (X.comp scope N' C fp s H) [(D, o)] H' b := fun {H' o} hn b hb => by
    obtain ⟨_, q1, q2, _, q4, _⟩ := f2 b hb
    refine ⟨hn b hb, Nat.ne_of_lt (Nat.lt_of_lt_of_le (f3 b hb) hsC), fun z => ?_, .inl hb, fun x c e => q4 x c (comp_cells I2 hk x c e), fun p hp => ?_⟩
    · rcases List.mem_cons.mp (I2.stkSub b z) with e | e
      · exact q1 e
      · exact q2 e
    · have hp' : p ∈ [(D, o)] := hp
      rw [List.mem_singleton] at hp'
      subst hp'
      exact (nD b (f3 b hb)).symm
  have loop : ∀ s₃ : Shared, s₃ = { s with heap := h₁, toks := s.toks + ([] : List (Str × Value)).length } →
      codeAny (model X.prog X.w) X.A (.compLoop (.ListComp elt [⟨tg, iter, ifs, 0⟩] scope pos) 0 (.ref it) (.ref D) (compEnvC scope (capt X.env.cells scope.names []) C X.env)) (RR (.ref D) C) s₃ := by
    rintro s₃ rfl
    refine compLoop_go1 (X.comp1 scope N' C fp s H EX).xe (fun n s' => ∃ i ys its no τ H', Inv (X.comp scope N' C fp s H) [] τ H' s' ∧ tn i s'.heap ∧ (∀ b ∈ fp, H' b = none) ∧ H' D = none ∧ ys.length ≤ sizeLine ∧ Vals ys its ∧
      s'.heap.get? D = some { cls := .type "list", data := .seq its.toArray no } ∧ W i n ys τ H') ?_ m0
      ⟨0, [], [], 0, capSt ix σ, H, inv_comp hk I2 f2 f3 hsC hns₁ old, T.keep _ _ _ st fun b _ o e => old b o e, fun b hb => (f2 b hb).1, frD, Nat.zero_le _, .nil, hacc, w0⟩ (err D C hsD hsC hDC)
    rintro n s3 ⟨i, ys, its, no, τ, H3, I3, st3, fr3, hD3, hz, rv, hd, w3⟩
    have I3' := pinD I3 hd hD3 (fun v z => by
      have z' : Data.seq _ _ = Data.cell v := z
      cases z')
    rcases turn i n ys τ H3 w3 with ⟨stop, qe⟩ | ⟨go, hlt, N, hN, step⟩
    · refine thn (T.done (X.comp scope N' C fp s H) rfl rfl rfl hc i _ s3 τ H3 _ I3' (stat fr3) st3 stop) fun r s4 ⟨hr, I4⟩ => ?_
      subst hr
      obtain ⟨m, hm, _⟩ := I4.loc
      obtain ⟨p1, p2, _⟩ := I4.pin (D, _) (List.mem_singleton.mpr rfl)
      refine fin D C ys its no H3 s4 m hsD hsC hDC hm p2 I4.free hz rv p1 ?_ qe
      exact I2.call' (ch := fp) I4.os I4.base I4.hok I4.bare fun b hb => let ⟨_, q1, _, q3, q4, q5⟩ := f2 b hb; ⟨q3, q1, q4, q5⟩
    · refine thn (T.item (X.comp scope N' C fp s H) rfl rfl rfl hc i _ s3 τ H3 _ I3' (stat fr3) st3 go) fun r s4 ⟨u, hr, h4⟩ => ?_
      subst hr
      refine thn h4 fun _ s5 ⟨x, H5, I5, r5, y5, st5, fr5⟩ => ?_
      have I5' := I5.pinned (fp := fp) (stat fr5) (T.obj _ _ st5)
      refine thn (hg C fp s H _ s5 τ H5 x u _ I5' r5 (step x H5 y5)) fun _ s6 ⟨τ6, H6, I6, q6⟩ => ?_
      refine thn (ht C fp s H _ s6 τ6 H6 _ I6 q6) fun b s7 ⟨H7, I7, q7⟩ => ?_
      have back : ∀ {τ' : St} {H' : Hp} {s' : Shared}, Inv (X.comp scope N' C fp s H) ([(D, { cls := .type "list", data := .seq its.toArray no })] ++ pinsAt fp s5.heap) τ' H' s' →
          tn (i + 1) s'.heap ∧ (∀ b ∈ fp, H' b = none) ∧ H' D = none ∧ s'.heap.get? D = some { cls := .type "list", data := .seq its.toArray no } ∧ Inv (X.comp scope N' C fp s H) [] τ' H' s' := fun {τ' H' s'} I' => by
        have pD := I'.pin (D, { cls := .type "list", data := .seq its.toArray no }) (List.mem_append_right _ (List.mem_append_left _ (List.mem_singleton.mpr rfl)))
        refine ⟨T.keep _ _ _ st5 fun b hb o e => (I'.pin (b, o) (List.mem_append_right _ (List.mem_append_right _ (mem_pinsAt hb e)))).1, fun b hb => ?_, pD.2.1, pD.1, I'.pins_of fun p hp => by simp at hp⟩
        obtain ⟨o, e, d⟩ := T.obj _ _ st5 b hb
        exact (I'.pin (b, o) (List.mem_append_right _ (List.mem_append_right _ (mem_pinsAt hb e)))).2.1
      cases b with
      | false =>
        obtain ⟨m', hm, w7⟩ := hN _ _ _ q7
        obtain ⟨a1, a2, a3, a4, a5⟩ := back I7
        exact ⟨m', hm, i + 1, ys, its, no, τ6, H7, a5, a1, a2, a3, hz, rv, a4, w7⟩
      | true =>
        refine thn (he C fp s H _ s7 τ6 H7 _ (I7.wish _) q7) fun v s8 ⟨y, H8, I8w, r8, q8⟩ => ?_
        have I8 := I8w.unwish
        obtain ⟨m', hm, w8⟩ := hN _ _ _ q8
        obtain ⟨a1, a2, a3, a4, a5⟩ := back I8
        have hl := rv.length
        refine call_meets F.slot_list_append ⟨_, a4, rfl⟩ F.entry_list_append (F.args_list_append_2 _ _) (PySem.list_append D its.toArray no v (by rw [List.size_toArray]; omega)) ⟨a4, ?_⟩
        have e9 := PySem.IsL.update a4 (·.push v)
        have e10 : its.toArray.push v = (its ++ [v]).toArray := by simp
        rw [e10] at e9
        refine ⟨m', hm, i + 1, ys ++ [y], its ++ [v], _, τ6, H8, a5.turned (it := D) (fun b o hb e => (Heap.get?_update_other s8.heap _ (Ne.symm hb)).trans e) a3 hDC (.inr hsD) cellD (fun p hp => absurd (show p ∈ ([] : List (Addr × Obj)) from hp) (by simp)),
          T.keep _ _ _ a1 fun b hb o e => (Heap.get?_update_other s8.heap _ (Ne.symm (nD b (f3 b hb)))).trans e, a2, a3, ?_, rv.append (.cons r8 .nil), e9, w8⟩
        rw [List.length_append, List.length_singleton]
        omega
  exact codeAny_compStart_list (loop _ rfl) (T.self _ _ _ _ _ (T.keep _ _ _ st fun b _ o e => old b o e) (loop _ rfl))

end
section
variable {X : Cx} {x : Str} {ps : List Str} {k : Nat} {sp : Sp} {p pos : Pos} {e : Expr} {es : List Expr} {t : TA} {scope : Scope} {N' : List Str} {C : Addr} {fp : List Addr} {s : Shared} {H : Hp} {EX : XK}
theorem passC : Passes (CX1 X.prog X.w) (X.comp1 scope N' C fp s H EX) EX := fun pins σ H s e s' I h => ⟨pins, σ, H, s, I.unwish, h⟩
theorem pe_fn1c {P : Program} {w : World} {K : PySem.W.Frag} {mg : Str → Option Value} {base : Heap} (G : Fn1 P w K mg base x ps k sp) (hr : Room k X.A) (ha : PA (X.comp1 scope N' C fp s H EX) (e :: es) t) (hP : X.prog = P := by rfl) (hw : X.w = w := by rfl) (hK : X.K = K := by rfl) (hm' : X.mg = mg := by rfl) (hb' : X.base = base := by rfl) (hg : Gl (X.comp1 scope N' C fp s H EX) x := by rfl) (hdb : (x == ("__debug__" : Str)) = false := by decide)
    (he : starEach (e :: es) (X.comp1 scope N' C fp s H EX).env = (false, eval e (X.comp1 scope N' C fp s H EX).env) :: starEach es (X.comp1 scope N' C fp s H EX).env := by rfl) (hpl : (backTo pos (starEach es (X.comp1 scope N' C fp s H EX).env)).any (·.1) = false := by rfl) :
    PE (X.comp1 scope N' C fp s H EX) (.Call (.Name x p) (e :: es) [] pos) (tCall sp [] EX t) := by
  subst hP hw hK hm' hb'
  obtain ⟨g, fd, hm, hk, hb, F⟩ := G
  exact pe_call F hr hg hm hk hb .nil passC ha hdb he hpl
end
end L2

namespace L2
open PySem PySem.Spec PyProof.Rows PySem.W
section
variable {P : Program} {w : World} {K : PySem.W.Frag} {mg : Str → Option Value} {base : Heap} {N : List Str} {qual : Str} {scope0 : Scope} {f : Addr} {cd : Value} {A : Around} {outer : List Env} {s0 : Shared} {H0 : Hp} {E : XK}
variable {tg elt iter : Expr} {ifs : List Expr} {scope : Scope} {pos : Pos} {N' : List Str} {ix : List (Option Nat)} {g : TG} {tc : TT} {te : TE} {wi : TI}
theorem ff_but {h h' B : Heap} : ∀ {l : List Env}, h.FunFrames B l → (∀ b ∈ frs l, ∀ o, h.get? b = some o → (∀ vs, o.data ≠ .fields vs) → ∃ o', h'.get? b = some o' ∧ o'.data = o.data) → h'.FunFrames B l
  | [], _, _ => True.intro
  | env :: rest, ⟨a1, ⟨L, o, e1, e2, e3, e4⟩, a3⟩, k => by
    have hm : ∀ b, b ∈ frs rest → b ∈ frs (env :: rest) := fun b hb => by
      unfold frs at hb ⊢
      rw [List.filterMap_cons, e1]
      exact List.mem_cons_of_mem _ hb
    obtain ⟨o', q1, q2⟩ := k L (by unfold frs; rw [List.filterMap_cons, e1]; exact List.mem_cons_self ..) o e3 e4
    exact ⟨a1, ⟨L, o', e1, e2, q1, fun vs z => e4 vs (by rw [← q2]; exact z)⟩, ff_but a3 fun b hb => k b (hm b hb)⟩
theorem comp_err {pins : List (Addr × Obj)} {σ : St} {H2 : Hp} {s2 : Shared} {fp : List Addr} {C : Addr} {e : Value} {s' : Shared} {use : Option (Value → Sem Unit)} {Q : Value → Shared → Prop} {acc : Value} (I2 : Inv (cxOf (CX1 P w) P w K mg base N qual scope0 f cd A outer s0 H0 E) pins σ H2 s2) (f2 : ∀ b ∈ fp, FpOk (cxOf (CX1 P w) P w K mg base N qual scope0 f cd A outer s0 H0 E) pins H2 b) (hC : s2.heap.objs.size ≤ C)
    (hx : ((cxOf (CX1 P w) P w K mg base N qual scope0 f cd A outer s0 H0 E).comp1 scope N' C fp s2 H2 E).xe e s') :
    wpAny (model P w) (cxOf (CX1 P w) P w K mg base N qual scope0 f cd A outer s0 H0 E).A (noteFrame e (compEnvC scope (capt (cxOf (CX1 P w) P w K mg base N qual scope0 f cd A outer s0 H0 E).env.cells scope.names []) C (cxOf (CX1 P w) P w K mg base N qual scope0 f cd A outer s0 H0 E).env))
      (fun _ s'' => compPost (model P w) (cxOf (CX1 P w) P w K mg base N qual scope0 f cd A outer s0 H0 E).A (cxOf (CX1 P w) P w K mg base N qual scope0 f cd A outer s0 H0 E).xe use Q acc C (.error e) s'')
      (fun e' s'' => compPost (model P w) (cxOf (CX1 P w) P w K mg base N qual scope0 f cd A outer s0 H0 E).A (cxOf (CX1 P w) P w K mg base N qual scope0 f cd A outer s0 H0 E).xe use Q acc C (.error e') s'') s' := by
  obtain ⟨pins', τ, Hc, sc, Ic, ea, D, H', rfl, F, hE⟩ := hx
  have IX := I2.call' (ch := fp) Ic.os Ic.base Ic.hok Ic.bare fun b hb => let ⟨_, q1, _, q3, q4, q5⟩ := f2 b hb; ⟨q3, q1, q4, q5⟩
  obtain ⟨os, bare, un, hok, B, a0, fly, in2, in1⟩ := F
  obtain ⟨m, hm, _⟩ := Ic.loc
  have freeC : Hc C = none := Ic.free
  have nfr : C ∉ frs (envOfC qual scope0 s0.heap.objs.size f cd :: outer) := fun hb => by
    rcases List.mem_cons.mp (I2.stkSub C hb) with e | e
    · exact absurd I2.lt (by rw [← e]; exact Nat.not_lt.mpr hC)
    · exact I2.nofs hC e
  obtain ⟨oC, es, ep, gC, dC, rC⟩ := hm
  have gC' : s'.heap.get? C = some oC := un.keep C oC gC freeC nfr (by simp)
  have sub : (hideAll B [C]).StaysIn B := fun b o h => of_hideAll [C] h
  have none_of : ∀ b, B.get? b = none → (hideAll B [C]).get? b = none := fun b h => by
    cases q : (hideAll B [C]).get? b with
    | none => rfl
    | some o => rw [sub b o q] at h; cases h
  have hidC : (hideAll B [C]).get? C = none := hideAll_none [C] (by simp)
  have fly' : Heap.FlyingW (hideAll B [C]) (envOfC qual scope0 s0.heap.objs.size f cd :: outer) ea (.ref D) a0 s'.heap := by
    obtain ⟨f1, f2', f3, oE, ws, U, oU, us, gE, hc, dE, w1, nU, neU, gU, dU, u3⟩ := fly
    exact ⟨fun b o h => f1 b o (sub b o h), none_of _ f2', funFrames_base sub f3, oE, ws, U, oU, us, gE, hc, dE, w1, none_of _ nU, neU, gU, dU, u3⟩
  show wpAny _ _ (noteFrame (.ref ea) (envOfC qual scope0 s0.heap.objs.size f cd)) _ _ s'
  refine wpAny_looks_onW (base := hideAll B [C]) I2.ok.frames rfl fly' fun h1 hh up => ?_
  have nsC : h1.Ns C m := up.ns ⟨oC, es, ep, gC', dC, rC⟩
  refine ⟨m, nsC, fun h2 hs2 cenv hcv => ?_⟩
  obtain ⟨oC1, es1, ep1, gC1, dC1, _⟩ := nsC
  obtain ⟨k1, k2, k3, oE, ws, U, oU, us, gE, hc, dE, w1, nU, neU, gU, dU, u3⟩ := hh
  have neE : ea ≠ C := fun e => by subst e; rw [gE] at gC1; cases gC1; rw [dE] at dC1; cases dC1
  have neU' : U ≠ C := fun e => by subst e; rw [gU] at gC1; cases gC1; rw [dU] at dC1; cases dC1
  have g2 : ∀ b o, b ≠ C → h1.get? b = some o → h2.get? b = some o := fun b o hb q => (hs2.2 b hb).trans q
  have gE2 := g2 ea oE neE gE
  have gU2 := g2 U oU neU' gU
  have lt3 : 3 < us.size := (Array.getElem?_eq_some_iff.mp u3).1
  have inB : ∀ b, (∃ o, B.get? b = some o) → b ≠ C → ∃ o, (hideAll B [C]).get? b = some o := fun b ⟨o, q⟩ hb => ⟨o, hideAll_get [C] q (fun z => hb (List.mem_singleton.mp z))⟩
  have freeC' : H' C = none := un.free C oC gC freeC (by simp)
  have neH : ∀ b u, H' b = some u → b ≠ C := fun b u q e => by subst e; rw [freeC'] at q; cases q
  unfold PySem.passOn
  refine wpAny_bind (wpAny_field gE2 dE w1 ?_)
  dsimp only
  rw [if_neg (show ¬ ((Value.ref U == Value.none) = true) by simp)]
  unfold setFlight
  refine wpAny_bind (wpAny_bind (wpAny_field gE2 dE w1 ?_))
  rw [if_pos (show (Value.ref U != Value.none) = true by simp)]
  refine wpAny_setField gU2 dU lt3 ?_
  refine wpAny_throw ?_
  generalize hfl : (cenv.frame.elim Value.none fun f => rawInt f) = fl
  have hfl' : fl = .none ∨ ∃ L' : Addr, fl = rawInt L' := by
    rw [← hfl]
    cases cenv.frame with
    | none => exact .inl rfl
    | some L' => exact .inr ⟨L', rfl⟩
  have oth : ∀ b, b ≠ U → (h2.update U (Obj.mapFields (·.setIfInBounds 3 fl))).get? b = h2.get? b := fun b hb => Heap.get?_update_other _ _ (Ne.symm hb)
  have gU3 : (h2.update U (Obj.mapFields (·.setIfInBounds 3 fl))).get? U = some (Obj.mapFields (·.setIfInBounds 3 fl) oU) := Heap.get?_update_self _ gU2 (Obj.isFreed_of_fields (Obj.data_mapFields dU _))
  generalize h2.update U (Obj.mapFields (·.setIfInBounds 3 fl)) = h3 at oth gU3 ⊢
  have st3 : (hideAll B [C]).StaysIn h3 := fun b o q => by
    have b1 : b ≠ C := fun e => by subst e; rw [hidC] at q; cases q
    have b2 : b ≠ U := fun e => by subst e; rw [nU] at q; cases q
    rw [oth b b2]
    exact g2 b o b1 (k1 b o q)
  have toH : ∀ b o, s'.heap.get? b = some o → (∃ o', (hideAll B [C]).get? b = some o') → h3.get? b = some o := fun b o q ⟨o', q'⟩ => by
    have := fly'.1 b o' q'
    rw [q] at this
    cases this
    exact st3 b o q'
  have slot1 : ∀ b o, h1.get? b = some o → (∀ vs, o.data ≠ .fields vs) → b ≠ C → h3.get? b = some o := fun b o q nf hb => by
    have b2 : b ≠ U := fun e => by subst e; rw [gU] at q; cases q; exact nf us dU
    rw [oth b b2]
    exact g2 b o hb q
  have nfrC : ∀ b, b ∈ frs (envOfC qual scope0 s0.heap.objs.size f cd :: outer) → b ≠ C := fun b hb e => nfr (e ▸ hb)
  have slot : ∀ b o, sc.heap.get? b = some o → Hc b = none → b ∈ frs (envOfC qual scope0 s0.heap.objs.size f cd :: outer) → ∃ sl, h3.get? b = some { o with slots := sl } := fun b o q n hb => by
    obtain ⟨sl, q1⟩ := un.slot b o q n hb (by simp)
    obtain ⟨_, o', q', nf⟩ := fly'.2.2.1.mem hb
    rw [q1] at q'
    cases q'
    obtain ⟨sl', q2⟩ := up b _ q1 nf
    exact ⟨sl', slot1 b _ q2 nf (nfrC b hb)⟩
  refine pass1g (fl := fl) (C := C) (B := hideAll B [C]) (a0 := a0) IX os bare ⟨fun b o q n hb hz => ?_, fun b o q n hb _ => slot b o q n hb, fun b o q n _ => un.free b o q n (by simp), fun b o q hz => ?_, un.tups, un.frzs, un.tbls⟩ (fun a u ha => ?_) ?_ st3 k2 (ff_but k3 fun b hb o q nf => ⟨o, slot1 b o q nf (nfrC b hb), rfl⟩) ?_ hfl' (fun b o q hb hc => inB b (in2 b o q hb) hc) (fun b u q => inB b (in1 b u q) (neH b u q)) hE
  · have bC : b ≠ C := fun e => hz (by rw [e]; simp)
    exact toH b o (un.keep b o q n hb (by simp)) (inB b (in2 b o q hb) bC)
  · have bC : b ≠ C := fun e => hz (by rw [e]; simp)
    by_cases hb : b ∈ frs (envOfC qual scope0 s0.heap.objs.size f cd :: outer)
    · obtain ⟨sl, q2⟩ := slot b o q (IX.stkFree b hb) hb
      exact ⟨_, q2⟩
    · obtain ⟨o2, q2⟩ := un.there b o q (by simp)
      exact ⟨o2, toH b o2 q2 (inB b (in2 b o q hb) bC)⟩
  · refine (hok a u ha).stay (fun b v hb q => toH b v q ?_) (fun _ q => q) fun _ _ q => q
    rcases hb with z | z
    · rw [z]; exact inB a (in1 a u ha) (neH a u ha)
    · exact inB b (in1 b _ z) (neH b _ z)
  · cases q : s0.heap.get? C with
    | none => rfl
    | some o => exact absurd (Heap.lt_size q) (Nat.not_lt.mpr (Nat.le_trans I2.sz hC))
  · exact ⟨oE, ws, U, _, _, (oth ea (Ne.symm neU)).trans gE2, hc, dE, w1, nU, neU, gU3, Obj.data_mapFields dU _, by simp [lt3]⟩
end
end L2

namespace L2
open PySem PySem.Spec PyProof.Rows PySem.Builtin PySem.Builtin.Str
theorem vals_strs : ∀ (l : List (Str × Tok)), Vals ((l.map (·.1)).map V.str) (strValues l)
  | [] => .nil
  | p :: l => .cons ⟨p.2, rfl⟩ (vals_strs l)
theorem strs_of_vals : ∀ {ts : List Str} {us : List Value}, Vals (ts.map V.str) us → ∃ l : List (Str × Tok), us = strValues l ∧ l.map (·.1) = ts
  | [], us, r => by cases r; exact ⟨[], rfl, rfl⟩
  | t :: ts, us, r => by
    rw [List.map_cons] at r
    cases r with
    | cons h tl =>
      obtain ⟨k, rfl⟩ := h
      obtain ⟨l, rfl, e⟩ := strs_of_vals tl
      exact ⟨(t, k) :: l, rfl, by rw [List.map_cons, e]⟩
section
variable {X : Cx}
def rSplit : V → List V → Hp → VK → Prop := fun x vs H Q => ∃ (a b : Str), x = .str a ∧ vs = [.str b] ∧ b.length ≠ 0 ∧ a.length ≤ 900 ∧ ∀ D, H D = none → Q (.ref D) (upd H D (.lst ((Txt.split a b).map V.str)))
theorem mt_split : MtM X "str.split" rSplit := by
  intro pins s σ H x vs v us Q I rx rv h
  obtain ⟨a, b, rfl, rfl, hb, ha, q⟩ := h
  obtain ⟨t, rfl⟩ := rx
  obtain ⟨u', rfl, ru⟩ := rv.one
  obtain ⟨u, rfl⟩ := ru
  have hy : (b.length == 0) = false := by simpa using hb
  have hx : a.length ≤ sizeLine := small (by omega)
  have hn : (partsBetween a (occurrences a b 0 a.length (a.length + 1)) b.length).length ≤ sizeLine := by
    rw [len_partsBetween]
    have := StrLaws.occ_length_le a b 0 a.length (a.length + 1)
    exact small (by omega)
  have fin : ∀ (l : List (Str × Tok)) (k : Nat), l.map (·.1) = Txt.split a b → l.length ≤ sizeLine → EP X pins σ Q (.ref s.heap.objs.size) { s with heap := s.heap.push { cls := .type "list", data := .seq (strValues l).toArray }, toks := k } := fun l k e hl =>
    ⟨.ref s.heap.objs.size, _, I.lnew (t' := k) (vals_strs l) (by rw [List.length_map, List.length_map]; exact hl), rfl, by rw [e]; exact q _ I.fresh⟩
  cases h1 : (decide (a.length < b.length) || decide (strKind a < strKind b)) with
  | false =>
    cases hf : (occurrences a b 0 a.length (a.length + 1)).isEmpty with
    | false =>
      refine call_meets F.slot_str_split (typeIs_str _ _ _) F.entry_str_split (F.args_str_split_2 _ _) (meets_str_split_sep a b t u h1 hy hf hx hn) ?_
      rw [strsFrom_eq]
      have e : Txt.split a b = partsBetween a (occurrences a b 0 a.length (a.length + 1)) b.length := (if_neg (ne_true_of_eq_false h1)).trans (if_neg (ne_true_of_eq_false hf))
      exact fin _ _ ((numbered_texts _ _).trans e.symm) (by have := congrArg List.length (numbered_texts s.toks (partsBetween a (occurrences a b 0 a.length (a.length + 1)) b.length)); rw [List.length_map] at this; omega)
    | true =>
      refine call_meets F.slot_str_split (typeIs_str _ _ _) F.entry_str_split (F.args_str_split_2 _ _) (meets_str_split_not_found a b t u h1 hy hf) ?_
      exact fin [(a, t)] s.toks ((if_neg (ne_true_of_eq_false h1)).trans (if_pos hf)).symm (by show 1 ≤ sizeLine; decide)
  | true =>
    refine call_meets F.slot_str_split (typeIs_str _ _ _) F.entry_str_split (F.args_str_split_2 _ _) (meets_str_split_cannot_occur a b t u h1) ?_
    exact fin [(a, t)] s.toks (if_pos h1).symm (by show 1 ≤ sizeLine; decide)
theorem fold_len (sep : Str) : ∀ (ts : List Str) (k : Nat), ts.foldl (· + ·.length + sep.length) k = k + (ts.map (·.length)).sum + ts.length * sep.length
  | [], k => by simp
  | t :: ts, k => by
    rw [List.foldl_cons, fold_len sep ts, List.map_cons, List.sum_cons, List.length_cons, Nat.succ_mul]
    omega
def rJoin (K : PySem.W.Frag) : V → List V → Hp → VK → Prop := fun x vs H Q => ∃ (sep : Str) (l : Addr) (ts : List Str), x = .str sep ∧ vs = [.ref l] ∧ SqL K H l (ts.map V.str) ∧ (ts.map (·.length)).sum + ts.length * sep.length ≤ 1000 ∧ Q (.str (Str.join sep ts)) H
theorem mt_join : MtM X "str.join" (rJoin X.K) := by
  intro pins s σ H x vs v us Q I rx rv h
  obtain ⟨sep, l, ts, rfl, rfl, hS, hz, q⟩ := h
  obtain ⟨t, rfl⟩ := rx
  obtain ⟨u', rfl, ru⟩ := rv.one
  cases ru
  obtain ⟨its, r, pl, _⟩ := I.list hS
  obtain ⟨ps, rfl, e⟩ := strs_of_vals r
  refine SC.join pl.isList e ?_ fun t' k => ?_
  · unfold JoinOk tooLong
    rw [List.foldl_toArray, fold_len]
    have : (0 + (ts.map (·.length)).sum + ts.length * sep.length) ≤ sizeLine := small (by omega)
    simp only [Bool.not_eq_true', decide_eq_false_iff_not, Nat.not_lt, gt_iff_lt]
    exact this
  · rw [show Txt.join sep ts = Str.join sep ts from StrLaws.glued_eq_join sep ts]
    exact ⟨.str _, H, I.tok _, ⟨_, rfl⟩, q⟩
def labStr (K : PySem.W.Frag) : Lab K Str where
  rel := fun _ x a => x = .str a
  mono := fun _ h => h
  fn := fun h1 h2 => by
    rw [h1] at h2
    injection h2
  eqAt := fun {X pins σ H s A x y u v a b} _ _ rx ry hx hy _ => by
    subst hx hy
    obtain ⟨t, rfl⟩ := rx
    obtain ⟨t', rfl⟩ := ry
    have q : decide (a = b) = (a == b) := by
      by_cases c : a = b
      · rw [decide_eq_true c, c]; simp
      · rw [decide_eq_false c]; simp [c]
    rw [q]
    exact SeqAt.EqAt.str_str a t b t'
theorem labs_str {K : PySem.W.Frag} {H : Hp} (ts : List Str) : LabsAt (labStr K) H (ts.map V.str) ts := ⟨by rw [List.length_map], fun i x a e1 e2 => by
  rw [List.getElem?_map, e2] at e1
  exact (Option.some.inj e1).symm⟩
theorem pe_never {e : Expr} : PE X e (fun _ _ _ => False) := fun _ _ _ _ _ _ h => h.elim
end
end L2

namespace L2
open PySem PySem.Spec PyProof.Rows PySem.W
section
variable {X : Cx} {pins : List (Addr × Obj)} {σ : St} {H H' : Hp} {s s' : Shared} {ea D C : Addr} {x n : Str} {np hpos : Pos} {ni : Nat} {b₀ : Stmt} {suite : List Stmt} {ts : TS} {Ds : Ends}
variable {CX : CXT} {k : Nat} {f : Addr} {fd : FuncData} {ps : List Str} {sp : Sp} {y fx : Str} {yi : Nat} {py p cpos apos pos : Pos} {e : Expr} {es : List Expr} {t : TA}
def tTryE (K : PySem.W.Frag) (C : Addr) (ni : Nat) (sp : Sp) (t : TA) (ts : TS) : TS := fun D σ H => t σ H fun vs H1 => sp vs H1 (fun _ H2 => D.nx σ H2)
  fun Dv _ H2 => ∃ Da : Addr, Dv = .ref Da ∧ kitCls K (.ref Da) (.ref C) = some true ∧ ∀ ea, H2 ea = none → ts (endsBut D ni) (σ.set ni (some (.ref ea))) (upd H2 ea (.ext fun h => XC.ExcAt h ea Da))
theorem ps_tryexpr (G : Fn1 X.prog X.w X.K X.mg X.base fx ps k sp) (hr : Room k X.A) (hst : X.stack = X.env :: X.outer) (hfr : X.env.frame = some X.env.locals) (hex : X.ex = []) (hg : Gl X x) (hm : X.mg x = some (.ref C)) (hs : kitCls X.K (.ref C) (.type "BaseException") = some true)
    (hN : X.N.Nodup) (hi : X.N[ni]? = some n) (hk : X.env.scope.names.lookup n = some .local) (ha : PA X.nox (e :: es) t) (hsuite : ∀ ea E, PSs (X.suite ea E) (b₀ :: suite) ts) (hgf : Gl X fx := by rfl)
    (hd : (x == ("__debug__" : Str)) = false := by decide) (hdf : (fx == ("__debug__" : Str)) = false := by decide) (he : starEach (e :: es) X.env = (false, eval e X.env) :: starEach es X.env := by rfl) (hpl : (backTo cpos (starEach es X.env)).any (·.1) = false := by rfl)
    (hsw : swapsWith (.Call (.Name fx p) (e :: es) [] cpos) none apos.line X.env = pure false := by rfl) :
    PS X (.Try [.Expr (.Call (.Name fx p) (e :: es) [] cpos) apos] [.ExceptHandler (some (.Name x np)) (some n) (b₀ :: suite) hpos] [] [] pos) (tTryE X.K C ni sp t ts) := by
  intro pins s σ H D I h
  obtain ⟨f, fd, hmf, hkf, hb, F⟩ := G
  refine wpAny_Try_except (wpAny_execs_cons ?_)
  refine wpAny_Expr_any ?_ I.quiet hsw
  refine wpAny_Call_Name_kw (ld_glob I hgf hmf ?_ hdf)
  refine PySem.W.callWith_K (h₀ := X.base) I.ok.mod.kin hkf (wpAny_mono (ha cpos pins s σ H _ (I.wish _) h) (fun us s1 h1 => ?_) fun _ _ z => False.elim z) he hpl
  obtain ⟨vs, H1, I1, r, q⟩ := h1
  have I1 := I1.unwish
  refine ⟨I1.kIn, ?_⟩
  have hl : us.length = ps.length := by rw [← r.length]; exact F.len _ _ _ _ q
  have r2 : Vals vs (us ++ []) := by rw [List.append_nil]; exact r
  refine wpAny_call (codeAny_mono (F.run X.A X.stack s1 H1 ⟨us, []⟩ (us ++ []) vs _ _ hr I1.env0 (hb s1 us I1.kIn (by rw [List.append_nil]; exact hl)) r2 q) fun r s' hq => ?_)
  cases r with
  | error e' =>
    obtain ⟨ea, Da, H', rfl, fl, Da', ed, hc, q'⟩ := hq
    cases ed
    exact caught I1 hst hfr hex fl hg hm hc hs hN hi hk hsuite hd fun z => q' ea z
  | ok fl =>
    cases fl with
    | ret u =>
      obtain ⟨v, H', I', rv, q'⟩ := I1.after hq
      refine wpAny_execs_nil ?_
      exact wpAny_execs_nil ⟨_, _, I', q'⟩
    | next => exact False.elim hq
    | brk => exact False.elim hq
    | cont => exact False.elim hq
end
section
variable {X : Cx}
def rEqLB (K : PySem.W.Frag) : R2 := fun x y H Q => ∃ (a b : Addr) (bs : List Bool), x = .ref a ∧ y = .ref b ∧ SqL K H a (bs.map V.bl) ∧ SqL K H b (bs.map V.bl) ∧ Q (.bl true) H
theorem op_eqLB (hu : X.A.units < cLine) : OpR X (compareOp .Eq) (rEqLB X.K) := by
  intro pins s σ H x y v u Q I rx ry h
  obtain ⟨a, b, bs, rfl, rfl, ha, hb, q⟩ := h
  cases rx
  cases ry
  obtain ⟨i1, r1, t1, _⟩ := I.list ha
  obtain ⟨i2, r2, t2, _⟩ := I.list hb
  have e1 := vals_bl r1
  have e2 := vals_bl r2
  subst e1 e2
  have z := SeqAt.RcAt.lists (A := X.A) (s := s) (e := fun _ => true) t1.isList t2.isList rfl hu (fun j h1 h2 => SeqAt.EqAt.same _)
  rw [show (List.range (bs.map Value.bool).toArray.size).all (fun _ => true) = true by simp] at z
  exact z _ _ _ _ ⟨.bl true, H, I, rfl, q⟩
end
end L2

namespace L2
open PySem PySem.Spec PyProof.Rows PySem.W
section
variable {P : Program} {w : World} {K : PySem.W.Frag} {mg : Str → Option Value} {base : Heap} {N : List Str} {qual : Str} {scope0 : Scope} {f : Addr} {cd : Value} {A : Around} {outer : List Env} {s0 : Shared} {H0 : Hp} {E : XK}
variable {tg elt iter : Expr} {ifs : List Expr} {scope : Scope} {pos : Pos} {N' : List Str} {ix : List (Option Nat)} {g : TG} {tc : TT} {te : TE} {wi : TI}
theorem ps_comp1 {k : Nat} {y : Str} {py spos : Pos} (N' : List Str) (ix : List (Option Nat)) (hk : compOk scope (cxOf (CX1 P w) P w K mg base N qual scope0 f cd A outer s0 H0 E).env.scope (cxOf (CX1 P w) P w K mg base N qual scope0 f cd A outer s0 H0 E).N N' ix = true) (hN : (cxOf (CX1 P w) P w K mg base N qual scope0 f cd A outer s0 H0 E).N.Nodup) (hky : (cxOf (CX1 P w) P w K mg base N qual scope0 f cd A outer s0 H0 E).N[k]? = some y) (hx : Loc (cxOf (CX1 P w) P w K mg base N qual scope0 f cd A outer s0 H0 E).env.scope y) (hi : PI (cxOf (CX1 P w) P w K mg base N qual scope0 f cd A outer s0 H0 E) tg iter wi)
    (hg : ∀ C fp s H, PG ((cxOf (CX1 P w) P w K mg base N qual scope0 f cd A outer s0 H0 E).comp scope N' C fp s H) tg g) (ht : ∀ C fp s H, PTs ((cxOf (CX1 P w) P w K mg base N qual scope0 f cd A outer s0 H0 E).comp scope N' C fp s H) ifs tc) (he : ∀ C fp s H, PE ((cxOf (CX1 P w) P w K mg base N qual scope0 f cd A outer s0 H0 E).comp1 scope N' C fp s H E) elt te)
    (hsw : swapsWith (.ListComp elt [⟨tg, iter, ifs, 0⟩] scope pos) (some (.Name y py)) spos.line (cxOf (CX1 P w) P w K mg base N qual scope0 f cd A outer s0 H0 E).env = pure true := by rfl) (hs : ∀ x, foldedSetIterable iter (cxOf (CX1 P w) P w K mg base N qual scope0 f cd A outer s0 H0 E).env x = pure x := by intro _; rfl)
    (hf : (cxOf (CX1 P w) P w K mg base N qual scope0 f cd A outer s0 H0 E).fn y = true ∨ (cxOf (CX1 P w) P w K mg base N qual scope0 f cd A outer s0 H0 E).env.scope.names.lookup y = some .local := by first | exact .inl rfl | exact .inr rfl | assumption) :
    PS (cxOf (CX1 P w) P w K mg base N qual scope0 f cd A outer s0 H0 E) (.Assign [.Name y py] (.ListComp elt [⟨tg, iter, ifs, 0⟩] scope pos) spos) (tAsg (tComp ix wi g tc te) (gName k)) := by
  intro pins s σ H D' I h
  have hk := compOk_of hk
  rw [exec_Assign_Name_used _ _ _ _ hsw]
  refine wpAny_bind (wpAny_standAt (wpAny_bind ?_))
  show wpAny _ (cxOf (CX1 P w) P w K mg base N qual scope0 f cd A outer s0 H0 E).A (do let _ ← comprehension (.ListComp elt [⟨tg, iter, ifs, 0⟩] scope pos) scope (cxOf (CX1 P w) P w K mg base N qual scope0 f cd A outer s0 H0 E).env _ (newList []) false (eval iter (cxOf (CX1 P w) P w K mg base N qual scope0 f cd A outer s0 H0 E).env) (some (assign (.Name y py) (cxOf (CX1 P w) P w K mg base N qual scope0 f cd A outer s0 H0 E).env))) _ _ s
  refine wpAny_bind (thn (wpAny_comprehension_free (use := some (assign (.Name y py) (cxOf (CX1 P w) P w K mg base N qual scope0 f cd A outer s0 H0 E).env)) (Q := fun _ s' => SP (cxOf (CX1 P w) P w K mg base N qual scope0 f cd A outer s0 H0 E) pins D' .next s') rfl hs (capt_closure fun y hy hf => I.ok.has y.1 (hk.out y hy hf)) hk.kind hk.names
    (thn (hi pins s σ H _ I h) fun v s1 h1 => thn h1 fun itv s2 h2 => ?_)) fun _ s' hq => wpAny_pure (wpAny_pure hq))
  obtain ⟨it, fp, tn, J, H2, e, I2, T, st2, f2, W, ⟨m0, w0⟩, turn⟩ := h2
  subst e
  refine comp_core1 (RR := fun acc C => compPost (model (cxOf (CX1 P w) P w K mg base N qual scope0 f cd A outer s0 H0 E).prog (cxOf (CX1 P w) P w K mg base N qual scope0 f cd A outer s0 H0 E).w) (cxOf (CX1 P w) P w K mg base N qual scope0 f cd A outer s0 H0 E).A (cxOf (CX1 P w) P w K mg base N qual scope0 f cd A outer s0 H0 E).xe (some (assign (.Name y py) (cxOf (CX1 P w) P w K mg base N qual scope0 f cd A outer s0 H0 E).env)) (fun _ s' => SP (cxOf (CX1 P w) P w K mg base N qual scope0 f cd A outer s0 H0 E) pins D' .next s') acc C) hk rfl hg ht he I2 T st2 f2 w0 turn (fun D C ys its n H' s' m hD hC hDC hn hHD hHC hz rv hd I' q => ?_) (fun D C hD hC hDC e s' hx => comp_err I2 f2 hC hx)
  have I3 := I'.adopt (o := .lst ys) (I2.fpOk hD hHD) (Nat.le_trans I2.sz hD) ⟨hz, its, n, rv, hd⟩
  refine wpAny_assign_Name (store_ok2 I3 hN hky hx (v := .ref D) rfl (fun s'' I4 ⟨a, hsb, ha⟩ => ?_) hf)
  obtain ⟨_, c1, c2, c3, c4, c5⟩ := I2.fpOk hC hHC
  have hCa : C ≠ a := by
    rcases ha with e | e
    · rw [e]; exact c1
    · exact (c4 _ _ e).symm
  refine ⟨m, hn.sameBut hsb hCa, fun h' hs' => ⟨_, _, I4.turned (it := C) (t' := s''.toks) (fun b o hb e => (hs'.2 b hb).trans e) (by rw [upd_ne hDC.symm]; exact hHC) c1 c3 c4 c5, q D hHD⟩⟩
end
end L2

namespace L2
open PySem PySem.Spec PyProof.Rows PySem.W
structure RoomH (k : Nat) (A : Around) : Prop where
  dp : A.depth + 3 * k + 5 < recursionLimit
  un : A.units + 16 * k + 200 < cLine
theorem RoomH.deeper {k : Nat} {A : Around} (r : RoomH (k + 1) A) (env : Env) : RoomH k (A.deeper env) :=
  ⟨by have := r.dp; show A.depth + 1 + 3 * k + 5 < _; omega, by have := r.un; show A.units + 3 + 16 * k + 200 < _; omega⟩
theorem Room.toH {k : Nat} {A : Around} (r : Room k A) : RoomH k A := ⟨r.dp, r.un⟩
theorem Room.marked {k : Nat} {A : Around} (r : Room k A) (v : Option Value) : RoomH k (A.mark v) := ⟨r.dp, r.un⟩
structure FnOkH (P : Program) (w : World) (K : PySem.W.Frag) (mg : Str → Option Value) (base : Heap) (k : Nat) (f : Addr) (fd : FuncData) (ps : List Str) (sp : Sp) : Prop where
  len : ∀ vs H Q E, sp vs H Q E → vs.length = ps.length
  run : ∀ (A : Around) (outer : List Env) (s : Shared) (H : Hp) (args : Args) (us : List Value) (vs : List V) (Q : VK) (E : XK), RoomH k A → Env0 P w K mg base A outer s H → BindsTo s fd args (ps.zip us) → Vals vs us → sp vs H Q E →
    codeAny (model P w) A (.call (.ref f) args) (CR CX0 outer P w H s Q E) s
abbrev cxH (P : Program) (w : World) (K : PySem.W.Frag) (mg : Str → Option Value) (base : Heap) (N : List Str) (qual : Str) (scope : Scope) (f : Addr) (cd : Value) (A : Around) (outer : List Env) (s : Shared) (H : Hp) (E : XK) : Cx :=
  { cxOf CX0 P w K mg base N qual scope f cd A outer s H E with calm := false, xe := fun _ _ => False }
section
variable {P : Program} {w : World} {K : PySem.W.Frag} {mg : Str → Option Value} {base : Heap}
theorem Fun.okH {x qual : Str} {st : Stmt} {f : Addr} {fd : FuncData} {N ps : List Str} {k : Nat} {sp : Sp} (F : Fun K x qual st f fd) (S : FnScope N ps (defScope st)) (len : ∀ vs H Q E, sp vs H Q E → vs.length = ps.length)
    (hbody : ∀ (cdv : Value) (A : Around) (outer : List Env) (s : Shared) (H : Hp) (vs : List V) (Q : VK) (E : XK), RoomH k (A.deeper (envOfC qual (defScope st) s.heap.objs.size f cdv)) → sp vs H Q E →
      ∃ t, PSs (cxH P w K mg base N qual (defScope st) f cdv A outer s H E) (defBody st) t ∧ t { nx := fun _ H' => Q .non H', rt := Q } (start N vs) H) : FnOkH P w K mg base (k + 1) f fd ps sp := by
  obtain ⟨oc, od, kV, doc, pm, an, cdv, ct, osl, rfl, lk, hcd⟩ := F.ex
  refine ⟨len, fun A outer s H args us vs Q E hr e0 hb r hsp => ?_⟩
  have hl := len _ _ _ _ hsp
  have KX : K.In s.heap := e0.mod.kin.keeps fun b o e => (e0.bs b o e).1
  have lim : s.heap.NoLimit := e0.mod.nolimit.keeps fun b o e => (e0.bs b o e).1
  have hkind : ∀ y ∈ ps.zip us, (defScope st).names.lookup y.1 = some .local ∨ ((defScope st).names.lookup y.1 = some .cell ∧ ((cellsFrom (s.heap.objs.size + 1) (defScope st).names []).lookup y.1).isSome = true) := fun ⟨n, v⟩ hy => by
    rcases S.par n (List.of_mem_zip hy).1 with q | q
    · exact .inl q
    · exact .inr ⟨q, PySem.W.cellsFrom_some _ _ _ (.inl q)⟩
  refine codeAny_call_function (by have := hr.dp; omega) (KX _ _ lk) rfl S.co S.gen rfl (PySem.W.codeRec_of KX hcd) (hb _ _ _ _ ?_)
  refine wpAny_newFunctionEnv_cells S.kind hkind fun env he s1 x => ?_
  subst he
  refine ⟨lim.keeps x.toInCall.keep, codeAny_func ?_⟩
  obtain ⟨t, ht, hq⟩ := hbody cdv A outer s H vs Q E (hr.deeper _) hsp
  have e1 : Env0 P w K mg base { A with handled := none } outer s H := ⟨e0.frames, e0.mod, e0.bs, e0.bsz, e0.funs, e0.frf, e0.hok, e0.bare⟩
  have I0 : Inv (cxOf CX0 P w K mg base N qual (defScope st) f cdv { A with handled := none } outer s H E) [] (start N vs) H s1 := inv_start S rfl e1 hl r x
  have I : Inv (cxH P w K mg base N qual (defScope st) f cdv A outer s H E) [] (start N vs) H s1 :=
    ⟨⟨I0.ok.mod, I0.ok.kind, I0.ok.glob, I0.ok.blt, I0.ok.above, I0.ok.inj, I0.ok.has, I0.ok.cab, fun z => (nomatch z), Around.frames_deeper e0.frames, I0.ok.stk, I0.ok.exf, I0.ok.bs, I0.ok.bsz, I0.ok.noex, I0.ok.exfs, I0.ok.funs, I0.ok.frf⟩, I0.os, I0.bare, I0.base, I0.loc, I0.cell, I0.free, I0.freeC, I0.pin, I0.hok, I0.len⟩
  refine wpAny_mono (ht [] s1 (start N vs) H _ I hq) (fun fl s' hs => ?_) fun e s' hs => hs.elim
  have fin : ∀ {σ' : St} {H' : Hp} {v : V} {u : Value}, Inv (cxH P w K mg base N qual (defScope st) f cdv A outer s H E) [] σ' H' s' → RelV v u → Q v H' → CE outer P w H s Q u s' :=
    fun {σ' H' v u} J rv q => ⟨v, H', J.os, J.bare, J.base, J.hok, rv, q⟩
  cases fl with
  | ret u =>
    obtain ⟨v, σ', H', J, rv, q⟩ := hs
    exact fin J rv q
  | next =>
    obtain ⟨σ', H', J, q⟩ := hs
    exact fin (v := V.non) (u := Value.none) J rfl q
  | brk =>
    obtain ⟨_, _, _, q⟩ := hs
    exact False.elim q
  | cont =>
    obtain ⟨_, _, _, q⟩ := hs
    exact False.elim q
def FnH (P : Program) (w : World) (K : PySem.W.Frag) (mg : Str → Option Value) (base : Heap) (x : Str) (ps : List Str) (k : Nat) (sp : Sp) : Prop :=
  ∃ (f : Addr) (fd : FuncData), mg x = some (.ref f) ∧ PySem.W.keepIn K (.ref f) = true ∧ Binds K fd ps [] ∧ FnOkH P w K mg base k f fd ps sp
end
section
variable {X : Cx} {x : Str} {ps : List Str} {k : Nat} {sp : Sp} {p pos : Pos} {e : Expr} {es : List Expr} {t : TA}
theorem pe_fnH (G : FnH X.prog X.w X.K X.mg X.base x ps k sp) (hr : RoomH k X.A) (ha : PA X (e :: es) t) (hg : Gl X x := by rfl) (hdb : (x == ("__debug__" : Str)) = false := by decide)
    (he : starEach (e :: es) X.env = (false, eval e X.env) :: starEach es X.env := by rfl) (hpl : (backTo pos (starEach es X.env)).any (·.1) = false := by rfl) : PE X (.Call (.Name x p) (e :: es) [] pos) (tCall sp [] E0 t) := by
  obtain ⟨f, fd, hm, hk, hb, F⟩ := G
  intro pins s σ H Q I h
  refine wpAny_Call_Name_kw (ld_glob I hg hm ?_ hdb)
  refine PySem.W.callWith_K (h₀ := X.base) I.ok.mod.kin hk (thn (ha pos pins s σ H _ I h) fun us s1 ⟨vs, H1, I1, r, q⟩ => ⟨I1.kIn, ?_⟩) he hpl
  have r2 : Vals (vs ++ []) (us ++ []) := r.append .nil
  have hl : (us ++ []).length = ps.length := by rw [← r2.length]; exact F.len _ _ _ _ q
  refine wpAny_call (codeAny_mono (F.run X.A X.stack s1 H1 ⟨us, []⟩ (us ++ []) (vs ++ []) Q E0 hr I1.env0 (hb s1 us I1.kIn hl) r2 q) fun r s' hq => ?_)
  cases r with
  | error e => exact hq.elim
  | ok fl =>
    cases fl with
    | ret u => exact I1.after hq
    | next => exact False.elim hq
    | brk => exact False.elim hq
    | cont => exact False.elim hq
end
end L2

namespace L2
open PySem PyProof.Rows PySem.W
section
variable {X : Cx} {es : List Expr} {t : TA} {pos : Pos}
def tTupW (t : TA) : TE := fun σ H Q => t σ H fun xs H1 => xs.length ≤ sizeLine ∧ ∀ p H2, Same H1 H2 → H2 p = some (.tup xs) → Q (.ref p) H2
def tLstW (t : TA) : TE := fun σ H Q => t σ H fun xs H1 => xs.length ≤ sizeLine ∧ ∀ p H2, Same H1 H2 → H2 p = some (.lst xs) → Q (.ref p) H2
theorem pe_tupW {x1} (h : PA X es t) : PE X (.Tuple es x1 pos) (tTupW t) := by
  intro pins s σ H Q I hq
  refine wpAny_Tuple_spliced (thn (h pos pins s σ H _ I hq) fun us s1 ⟨xs, H1, I1, r, z, q⟩ => ⟨by rw [← r.length]; exact z, ?_⟩)
  have hf : H1 s1.heap.objs.size = none := I1.hok.fresh (Nat.le_refl _)
  refine ⟨.ref s1.heap.objs.size, upd H1 s1.heap.objs.size (.tup xs), I1.laid (t' := s1.toks) (fun b u e => Heap.get?_push_of_some _ e) (Nat.le_refl _) ?_, rfl, q _ _ (same_upd hf _) upd_same⟩
  exact ⟨z, us, r, ⟨_, Heap.get?_push_size _ rfl, rfl, _, rfl⟩⟩
theorem pe_lstW (h : PA X es t) : PE X (.List es pos) (tLstW t) := by
  intro pins s σ H Q I hq
  refine wpAny_List_spliced (thn (h pos pins s σ H _ I hq) fun us s1 ⟨xs, H1, I1, r, z, q⟩ => ⟨by rw [← r.length]; exact z, ?_⟩)
  have hf : H1 s1.heap.objs.size = none := I1.hok.fresh (Nat.le_refl _)
  refine ⟨.ref s1.heap.objs.size, upd H1 s1.heap.objs.size (.lst xs), I1.laid (t' := s1.toks) (fun b u e => Heap.get?_push_of_some _ e) (Nat.le_refl _) ?_, rfl, q _ _ (same_upd hf _) upd_same⟩
  exact ⟨z, us, 0, r, Heap.get?_push_size _ rfl⟩
end
end L2

namespace LQ
open PySem L2 PyProof.Rows PySem.W
structure QE (X : Cx) (e : Expr) (t : TE) : Prop where
  h : PE X e t
structure QA (X : Cx) (es : List Expr) (t : TA) : Prop where
  h : PA X es t
structure QT (X : Cx) (e : Expr) (t : TT) : Prop where
  h : PT X e t
structure QS (X : Cx) (st : Stmt) (t : TS) : Prop where
  h : PS X st t
structure QSs (X : Cx) (st : List Stmt) (t : TS) : Prop where
  h : PSs X st t
section
variable {X : Cx} {a b e : Expr} {es : List Expr} {ta tb te : TE} {t : TA} {pos : Pos} {st : Stmt} {rest : List Stmt} {u v : TS}
theorem pss_cons (h1 : QS X st u) (h2 : QSs X rest v) : QSs X (st :: rest) (tSeq u v) := ⟨L2.pss_cons h1.h h2.h⟩
theorem pss_one (h1 : QS X st u) : QSs X [st] u := ⟨L2.pss_one h1.h⟩
theorem pss_nil : QSs X [] tNext := ⟨L2.pss_nil⟩
theorem pss_cut (R : L2.St → Hp → Prop) (h1 : QS X st u) (h2 : QSs X rest v) : QSs X (st :: rest) (tCut R u v) := ⟨L2.pss_cut R h1.h h2.h⟩
theorem ps_set {i : Nat} {x : Str} {pos' : Pos} (hN : X.N.Nodup) (hi : X.N[i]? = some x) (hx : Loc X.env.scope x) (he : QE X e te) (hs : swapsWith e (some (.Name x pos')) pos.line X.env = pure false := by rfl) (hf : X.fn x = true ∨ X.env.scope.names.lookup x = some .local := by first | exact .inl rfl | exact .inr rfl | assumption) :
    QS X (.Assign [.Name x pos'] e pos) (tAsg te (gName i)) := ⟨L2.ps_set hN hi hx he.h hs hf⟩
theorem ps_if {c : Expr} {l l' : List Stmt} {tc : TT} (hc : QT X c tc) (ha : QSs X l u) (hb : QSs X l' v) : QS X (.If c l l' pos) (tIfS tc u v) := ⟨L2.ps_if hc.h ha.h hb.h⟩
theorem ps_expr (he : QE X e te) (hs : swapsWith e none pos.line X.env = pure false := by rfl) : QS X (.Expr e pos) (tDrop te) := ⟨L2.ps_expr he.h hs⟩
theorem ps_ret (he : QE X e te) : QS X (.Return (some e) pos) (tRet te) := ⟨L2.ps_ret he.h⟩
theorem pt_cmpR {op : CmpOp} {r : R2} (ho : OpR X (compareOp op) r) (ha : QE X a ta) (hb : QE X b tb) (hm : behindInMarks op b = false) : QT X (.Compare a [op] [b] pos) (tTest (tOp r ta tb)) := ⟨L2.pt_cmpR ho ha.h hb.h hm⟩
theorem pe_op {op : Operator} {r : R2} (ho : OpR X (binaryOp op) r) (ha : QE X a ta) (hb : QE X b tb) : QE X (.BinOp a op b pos) (tOp r ta tb) := ⟨L2.pe_op ho ha.h hb.h⟩
theorem pe_un {op : UnaryOp} {r : V → Hp → VK → Prop} (ho : UnR X (unaryOp op) r) (ha : QE X a ta) : QE X (.UnaryOp op a pos) (tUn r ta) := ⟨L2.pe_un ho ha.h⟩
theorem pe_ix {r : R2} (hr : IxR X r) (ha : QE X a ta) (hb : QE X b tb) (hs : PlainIx b) : QE X (.Subscript a b pos) (tOp r ta tb) := ⟨L2.pe_ix hr ha.h hb.h hs⟩
theorem pe_int {i j} : QE X (.Constant (.int i) j pos) (tC (.int i)) := ⟨L2.pe_int⟩
theorem pe_str {x j} : QE X (.Constant (.str x) j pos) (tC (.str x)) := ⟨L2.pe_str⟩
theorem pe_bl {b j} : QE X (.Constant (.bool b) j pos) (tC (.bl b)) := ⟨L2.pe_bl⟩
theorem pv (i : Nat) {x : Str} (hN : X.N[i]? = some x := by rfl) (hv : Vis X.env.scope x := by first | exact Or.inl rfl | exact Or.inr (Or.inl rfl) | exact Or.inr (Or.inr rfl)) (hd : (x == ("__debug__" : Str)) = false := by decide)
    (hcd : (x == ("__classdict__" : Str)) = false := by decide) : QE X (.Name x pos) (tVar i) := ⟨L2.pv i hN hv hd hcd⟩
theorem pa_nil : QA X [] tNil := ⟨L2.pa_nil⟩
theorem pa_cons (ha : QE X e te) (hr : QA X es t) (hs : starEach (e :: es) X.env = (false, eval e X.env) :: starEach es X.env := by rfl) : QA X (e :: es) (tCons te t) := ⟨L2.pa_cons ha.h hr.h hs⟩
theorem pe_tup {x1} (h : QA X es t) : QE X (.Tuple es x1 pos) (tTup t) := ⟨L2.pe_tup h.h⟩
theorem pe_lst (h : QA X es t) : QE X (.List es pos) (tLst t) := ⟨L2.pe_lst h.h⟩
theorem pe_tupW {x1} (h : QA X es t) : QE X (.Tuple es x1 pos) (tTupW t) := ⟨L2.pe_tupW h.h⟩
theorem pe_lstW (h : QA X es t) : QE X (.List es pos) (tLstW t) := ⟨L2.pe_lstW h.h⟩
end
section
variable {P : Program} {w : World} {K : PySem.W.Frag} {mg : Str → Option Value} {base : Heap} {N : List Str} {qual : Str} {scope : Scope} {f : Addr} {cd : Value} {A : Around} {outer : List Env} {s : Shared} {H : Hp} {E : XK} {x : Str} {ps : List Str} {k : Nat} {sp : Sp} {e : Expr} {es : List Expr} {t : TA} {p pos : Pos}
theorem pe_fn1 (G : Fn1 P w K mg base x ps k sp) (hr : Room k (cxOf (CX1 P w) P w K mg base N qual scope f cd A outer s H E).A) (ha : QA (cxOf (CX1 P w) P w K mg base N qual scope f cd A outer s H E) (e :: es) t) (hg : Gl (cxOf (CX1 P w) P w K mg base N qual scope f cd A outer s H E) x := by rfl) (hdb : (x == ("__debug__" : Str)) = false := by decide)
    (he : starEach (e :: es) (cxOf (CX1 P w) P w K mg base N qual scope f cd A outer s H E).env = (false, eval e (cxOf (CX1 P w) P w K mg base N qual scope f cd A outer s H E).env) :: starEach es (cxOf (CX1 P w) P w K mg base N qual scope f cd A outer s H E).env := by rfl) (hpl : (backTo pos (starEach es (cxOf (CX1 P w) P w K mg base N qual scope f cd A outer s H E).env)).any (·.1) = false := by rfl) :
    QE (cxOf (CX1 P w) P w K mg base N qual scope f cd A outer s H E) (.Call (.Name x p) (e :: es) [] pos) (tCall sp [] E t) := ⟨L2.pe_fn1 G hr ha.h hg hdb he hpl⟩
theorem ok1 {x qual : Str} {st : Stmt} {f : Addr} {fd : FuncData} {N ps : List Str} {k : Nat} {sp : Sp} (F : Fun K x qual st f fd) (S : FnScope N ps (defScope st)) (len : ∀ vs H Q E, sp vs H Q E → vs.length = ps.length)
    (hbody : ∀ (cdv : Value) (A : Around) (outer : List Env) (s : Shared) (H : Hp) (vs : List V) (Q : VK) (E : XK), Room k (A.deeper (envOfC qual (defScope st) s.heap.objs.size f cdv)) → sp vs H Q E →
      ∃ t, QSs (cxOf (CX1 P w) P w K mg base N qual (defScope st) f cdv A outer s H E) (defBody st) t ∧ t { nx := fun _ H' => Q .non H', rt := Q } (start N vs) H) : FnOk P w K mg base (CX1 P w) (k + 1) f fd ps sp :=
  F.ok1 S len fun cdv A outer s H vs Q E hr h => let ⟨t, ht, q⟩ := hbody cdv A outer s H vs Q E hr h; ⟨t, ht.h, q⟩
end
section
variable {X : Cx} {x : Str} {p pos : Pos} {a b e : Expr} {es : List Expr} {t : TA} {ta tb : TE} {id : String} {r : List V → Hp → VK → Prop}
theorem pe_callB (hc : CallR X (.builtin id) r) (hg : Gl X x) (hm : X.mg x = none) (hv : bootBuiltins x = some (.builtin id)) (ha : QA X (e :: es) t) (hn : x ≠ "__name__" := by decide) (hdb : (x == ("__debug__" : Str)) = false := by decide)
    (he : starEach (e :: es) X.env = (false, eval e X.env) :: starEach es X.env := by rfl) (hpl : (backTo pos (starEach es X.env)).any (·.1) = false := by rfl) : QE X (.Call (.Name x p) (e :: es) [] pos) (tCB r t) := ⟨L2.pe_callB hc hg hm hv ha.h hn hdb he hpl⟩
theorem pe_glob {v : V} {u : Value} (hg : Gl X x) (hm : X.mg x = some u) (r : RelV v u) (hd : (x == ("__debug__" : Str)) = false := by decide) : QE X (.Name x pos) (tC v) := ⟨L2.pe_glob hg hm r hd⟩
theorem pe_bltn {v : V} {u : Value} (hg : Gl X x) (hm : X.mg x = none) (hv : bootBuiltins x = some u) (r : RelV v u) (hn : x ≠ "__name__" := by decide) (hd : (x == ("__debug__" : Str)) = false := by decide) : QE X (.Name x pos) (tC v) := ⟨L2.pe_bltn hg hm hv r hn hd⟩
theorem pe_cmpR {op : CmpOp} {r : R2} (ho : OpR X (compareOp op) r) (ha : QE X a ta) (hb : QE X b tb) (hm : behindInMarks op b = false) : QE X (.Compare a [op] [b] pos) (tOp r ta tb) := ⟨L2.pe_cmpR ho ha.h hb.h hm⟩
theorem pe_fn {k : Nat} {ps : List Str} {sp : Sp} (G : Fn X.prog X.w X.K X.mg X.base x ps k sp) (hr : Room k X.A) (ha : QA X (e :: es) t) (hg : Gl X x := by rfl) (hdb : (x == ("__debug__" : Str)) = false := by decide)
    (he : starEach (e :: es) X.env = (false, eval e X.env) :: starEach es X.env := by rfl) (hpl : (backTo pos (starEach es X.env)).any (·.1) = false := by rfl) : QE X (.Call (.Name x p) (e :: es) [] pos) (tCall sp [] E0 t) := ⟨L2.pe_fn G hr ha.h hg hdb he hpl⟩
end
section
variable {P : Program} {w : World} {K : PySem.W.Frag} {mg : Str → Option Value} {base : Heap}
end
end LQ

namespace K
open PySem L2 PyProof.Rows
def top (i : Nat) : Stmt := PySem.Challenge.pw_sharings_k14_each_refusal_its_own.main.body.getD i (.Pass ⟨0, 0, 0, 0⟩)
abbrev sMany : Stmt := top 13
abbrev sAskTh : Stmt := top 14
abbrev sIs : Stmt := top 15
abbrev sAsk : Stmt := top 16
abbrev sMarked : Stmt := top 17
abbrev sShares : Stmt := top 18
abbrev sAre : Stmt := top 19
abbrev sMarksOf : Stmt := top 20
abbrev sSizes : Stmt := top 21
abbrev sAlike : Stmt := top 23
abbrev sAskFin : Stmt := top 24
abbrev sFiner : Stmt := top 25
abbrev sMeet : Stmt := top 26
abbrev sJoin : Stmt := top 27
abbrev sRise : Stmt := top 28
abbrev sStep : Stmt := top 30
abbrev sMR : Stmt := top 32
abbrev sSigned : Stmt := top 34
abbrev sShown : Stmt := top 36
abbrev sShownS : Stmt := top 37
abbrev sRead : Stmt := top 38
abbrev sReadS : Stmt := top 39
abbrev sWays : Stmt := top 41
abbrev sManyN : Stmt := top 42
abbrev sWith : Stmt := top 43
abbrev sAt : Stmt := top 44
abbrev sNof : Stmt := top 45
abbrev sMFin : Stmt := top 46
abbrev sMCoa : Stmt := top 47
abbrev sAskT : Stmt := top 49
abbrev sAskP : Stmt := top 50
abbrev sShOf : Stmt := top 51
abbrev sWayBy : Stmt := top 52
abbrev sWaysF : Stmt := top 53
abbrev sGoOn : Stmt := top 54
abbrev sJudged : Stmt := top 55
abbrev sCell : Stmt := top 57
abbrev sWhich : Stmt := top 58
abbrev sOfTwo : Stmt := top 59
abbrev sLNoTh : Stmt := top 60
abbrev sLNoSh : Stmt := top 61
abbrev sLNoT : Stmt := top 62
abbrev sLNoN : Stmt := top 63
abbrev sDone : Stmt := top 64
abbrev sLaw : Stmt := top 65
def spIs (K : PySem.W.Frag) : Sp := fun vs H Q _ => ∃ (a : Addr) (ns : List Int), vs = [.ref a] ∧ SqL K H a (ns.map V.int) ∧ Q (.bl (Sh.isSh ns)) H
def spAsk (K : PySem.W.Frag) : Sp := fun vs H Q _ => ∃ (a : Addr) (ns : List Int), vs = [.ref a] ∧ SqL K H a (ns.map V.int) ∧ Sh.isSh ns = true ∧ Q .non H
def spMarked {K : PySem.W.Frag} {α : Type} [DecidableEq α] (L : Lab K α) : Sp := fun vs H Q _ => ∃ (a : Addr) (xs : List V) (as : List α), vs = [.ref a] ∧ SqL K H a xs ∧ LabsAt L H xs as ∧ as.length ≤ 1000 ∧
  ∀ (D : Addr) (H' : Hp), Same H H' → H D = none → H' D = some (.lst ((Sh.mk as).map V.int)) → Q (.ref D) H'
def spAlike (K : PySem.W.Frag) : Sp := fun vs H Q _ => ∃ (a b : Addr) (ns ms : List Int), vs = [.ref a, .ref b] ∧ SqL K H a (ns.map V.int) ∧ SqL K H b (ms.map V.int) ∧ Sh.isSh ns = true ∧ Sh.isSh ms = true ∧ ns.length = ms.length ∧ Q .non H
def spMeet (K : PySem.W.Frag) : Sp := fun vs H Q _ => ∃ (a b : Addr) (ns ms : List Int), vs = [.ref a, .ref b] ∧ SqL K H a (ns.map V.int) ∧ SqL K H b (ms.map V.int) ∧ Sh.isSh ns = true ∧ Sh.isSh ms = true ∧ ns.length = ms.length ∧
  ∀ (D : Addr) (H' : Hp), Same H H' → H D = none → H' D = some (.lst ((Sh.mk (ns.zip ms)).map V.int)) → Q (.ref D) H'
def spFiner (K : PySem.W.Frag) : Sp := fun vs H Q _ => ∃ (a b : Addr) (ns ms : List Int), vs = [.ref a, .ref b] ∧ SqL K H a (ns.map V.int) ∧ SqL K H b (ms.map V.int) ∧ Sh.isSh ns = true ∧ Sh.isSh ms = true ∧ ns.length = ms.length ∧
  ∀ (H' : Hp), Same H H' → Q (.bl (decide (Sh.mk (ns.zip ms) = ns))) H'
def spCell (K : PySem.W.Frag) : Sp := fun vs H Q _ => ∃ (a : Addr) (ns : List Int) (k : Int), vs = [.ref a, .int k] ∧ SqL K H a (ns.map V.int) ∧ 0 ≤ k ∧ Q (.int (Sh.cell ns k)) H
def spLaw (K : PySem.W.Frag) : Sp := fun vs H Q _ => ∃ (a : Addr) (ns : List Int), vs = [.ref a] ∧ SqL K H a (ns.map V.int) ∧ ns.length ≤ 63 ∧ ∀ H', Q (.bl true) H'
def spMany (K : PySem.W.Frag) : Sp := fun vs H Q _ => ∃ n : Int, vs = [.int n] ∧ Q (.bl (decide (1 ≤ n ∧ n ≤ 12))) H
section
variable {P : Program} {w : World} {K : PySem.W.Frag} {mg : Str → Option Value} {base : Heap}
theorem scMany : FnScope ["number"] ["number"] (defScope sMany) := ⟨rfl, rfl, rfl, by decide +kernel, rfl, by decide +kernel, by decide +kernel⟩
theorem ok_many {f : Addr} {fd : FuncData} (F : Fun K "is_many_things" "is_many_things" sMany f fd) {tk : Tok} (mt : mg "MOST_THINGS" = some (.int 12 tk)) : FnOk P w K mg base CX0 1 f fd ["number"] (spMany K) := by
  refine F.ok scMany (fun vs H Q E h => ?_) (fun cdv A outer s H vs Q E hr h => ?_)
  · obtain ⟨n, rfl, _⟩ := h
    rfl
  obtain ⟨n, rfl, q⟩ := h
  refine ⟨_, pss_one (ps_ret (pe_and (pe_cmpR op_ge (pv 0) pe_int (nomark _)) (pe_one (pe_cmpR op_le (pv 0) (pe_glob (v := .int 12) rfl mt ⟨_, rfl⟩) (nomark _))))), ?_⟩
  refine ⟨_, rfl, _, _, rfl, rfl, _, rfl, ?_⟩
  refine ite2 (fun c => ?_) (fun c => ?_)
  · have c' := of_decide_eq_true c
    refine ⟨_, rfl, _, _, rfl, rfl, ?_⟩
    have e : decide (n ≤ 12) = decide (1 ≤ n ∧ n ≤ 12) := by
      by_cases h : n ≤ 12
      · rw [decide_eq_true h, decide_eq_true ⟨by omega, h⟩]
      · rw [decide_eq_false h, decide_eq_false (fun z => h z.2)]
    show Q (.bl (decide (n ≤ 12))) H
    rw [e]
    exact q
  · have c' : ¬ (1 ≤ n) := fun z => c (decide_eq_true z)
    rw [decide_eq_false (fun z => c' z.1)] at q
    exact q
end
section
variable {P : Program} {w : World} {K : PySem.W.Frag} {mg : Str → Option Value} {base : Heap}
theorem scIs : FnScope ["one", "shares_ahead", "mark"] ["one"] (defScope sIs) := ⟨rfl, rfl, rfl, by decide +kernel, rfl, by decide +kernel, by decide +kernel⟩
theorem ok_is {f : Addr} {fd : FuncData} (F : Fun K "is_sharing" "is_sharing" sIs f fd) (GY : Fn P w K mg base "is_many_things" ["number"] 1 (spMany K)) (ml : mg "len" = none) : FnOk P w K mg base CX0 2 f fd ["one"] (spIs K) := by
  refine F.ok scIs (fun vs H Q E h => ?_) (fun cdv A outer s H vs Q E hr h => ?_)
  · obtain ⟨a, ns, rfl, _⟩ := h
    rfl
  obtain ⟨a, ns, rfl, hS, q⟩ := h
  refine ⟨_, pss_cons (ps_if (pt_not (pt_val (pe_fn GY hr (pa_cons (pe_callB call_len_seq rfl ml PySem.boot_len (pa_cons (pv 0) pa_nil)) pa_nil)))) (pss_one (ps_ret pe_bl)) pss_nil)
    (pss_cons (ps_set (i := 1) scIs.nd rfl (Or.inl rfl) pe_int)
    (pss_cons (ps_for PassesOwn.never rfl (pi_list (pv 0)) (pg_name (i := 2) scIs.nd rfl (Or.inl rfl))
      (pss_cons (ps_if (PW.pt (pw_or (pt_cmpR op_lt (pv 2) pe_int (nomark _)) (pw_or1 (pt_cmpR op_gt (pv 2) (pv 1) (nomark _))))) (pss_one (ps_ret pe_bl)) pss_nil)
      (pss_one (ps_if (pt_cmpR op_eq (pv 2) (pv 1) (nomark _)) (pss_one (ps_aug (i := 1) scIs.nd rfl (Or.inl rfl) pe_int ip_add)) pss_nil))))
    (pss_one (ps_ret pe_bl)))), ?_⟩
  have ll : (((ns.map V.int).length : Nat) : Int) = (ns.length : Int) := by rw [List.length_map]
  refine ⟨_, rfl, a, _, rfl, .inl hS, _, rfl, _, rfl, ?_⟩
  rw [ll]
  refine ite2 (fun c => ?_) (fun c => ?_)
  · have c' : ¬ (1 ≤ (ns.length : Int) ∧ (ns.length : Int) ≤ 12) := fun z => by rw [decide_eq_true z] at c; exact absurd c (by decide)
    have e : Sh.isSh ns = false := by
      unfold Sh.isSh
      rw [decide_eq_false (by omega), Bool.false_and]
    rw [e] at q
    exact q
  have c1 : 1 ≤ (ns.length : Int) ∧ (ns.length : Int) ≤ 12 := Classical.byContradiction fun z => c (by rw [decide_eq_false z]; rfl)
  have e0 : Sh.isSh ns = Sh.goodB 0 ns := by
    unfold Sh.isSh
    rw [decide_eq_true (by omega), Bool.true_and]
  rw [e0] at q
  refine ⟨_, rfl, a, rfl, ⟨_, hS⟩, for_list (K := K) (a := a) (xs := ns.map V.int) (fun i σ H2 => ∃ (fr : Int) (v : Option V), σ = [some (.ref a), some (.int fr), v] ∧ H2 = H ∧ Sh.goodB 0 ns = Sh.goodB fr (ns.drop i)) ⟨0, none, rfl, rfl, rfl⟩ (fun i σ H2 _ ⟨_, _, _, e, _⟩ => by rw [e]; exact hS) ?_ ?_⟩
  · rintro i x σ H2 hi ⟨fr, v, rfl, rfl, e⟩
    obtain ⟨z, hz, rfl⟩ := ints_get hi
    have hil : i < ns.length := (List.getElem?_eq_some_iff.mp hz).1
    have hd : ns.drop i = z :: ns.drop (i + 1) := by
      rw [List.drop_eq_getElem_cons hil]
      rw [List.getElem?_eq_getElem hil] at hz
      rw [Option.some.inj hz]
    rw [hd] at e
    rw [Sh.goodB_cons] at e
    refine ⟨_, rfl, _, _, rfl, rfl, _, rfl, ?_⟩
    refine ite2 (fun c => ?_) (fun c => ?_)
    · have c' := of_decide_eq_true c
      rw [if_pos (.inl c')] at e
      rw [e] at q
      exact iteT q
    have c1 : ¬ z < 0 := fun y => c (decide_eq_true y)
    refine ⟨_, rfl, _, rfl, _, _, rfl, rfl, _, rfl, ?_⟩
    refine ite2 (fun c => ?_) (fun c => ?_)
    · have c' := of_decide_eq_true c
      rw [if_pos (.inr c')] at e
      rw [e] at q
      exact q
    have c2 : ¬ fr < z := fun y => c (decide_eq_true y)
    rw [if_neg (by omega)] at e
    refine ⟨_, rfl, _, rfl, rfl, _, rfl, ?_⟩
    refine ite2 (fun c => ?_) (fun c => ?_)
    · have c' : z = fr := by
        have := of_decide_eq_true c
        injection this
      refine ⟨_, rfl, _, _, rfl, rfl, fr + 1, _, rfl, rfl, ?_⟩
      rw [if_pos c'] at e
      exact e
    · have c' : ¬ z = fr := fun y => c (decide_eq_true (by rw [y]))
      rw [if_neg c'] at e
      exact ⟨fr, _, rfl, rfl, e⟩
  · rintro σ H2 ⟨fr, v, rfl, rfl, e⟩
    rw [List.length_map, List.drop_length] at e
    have e' : Sh.goodB 0 ns = true := e
    rw [e'] at q
    exact q
end
section
variable {P : Program} {w : World} {K : PySem.W.Frag} {mg : Str → Option Value} {base : Heap}
theorem scAsk : FnScope ["one"] ["one"] (defScope sAsk) := ⟨rfl, rfl, rfl, by decide +kernel, rfl, by decide +kernel, by decide +kernel⟩
theorem ok_ask {f : Addr} {fd : FuncData} (F : Fun K "ask_sharing" "ask_sharing" sAsk f fd) (G : Fn P w K mg base "is_sharing" ["one"] 2 (spIs K)) : FnOk P w K mg base CX0 3 f fd ["one"] (spAsk K) := by
  refine F.ok scAsk (fun vs H Q E h => ?_) (fun cdv A outer s H vs Q E hr h => ?_)
  · obtain ⟨a, ns, rfl, _⟩ := h
    rfl
  obtain ⟨a, ns, rfl, hS, hg, q⟩ := h
  refine ⟨_, pss_one (ps_if (pt_not (pt_val (pe_fn G hr (pa_cons (pv 0) pa_nil)))) pss_never pss_nil), ?_⟩
  refine ⟨_, rfl, a, ns, rfl, hS, _, rfl, ?_⟩
  rw [hg]
  exact iteF q
theorem scMarked : FnScope ["labels", "marks_given", "marks", "label"] ["labels"] (defScope sMarked) := ⟨rfl, rfl, rfl, by decide +kernel, rfl, by decide +kernel, by decide +kernel⟩
theorem ok_marked {α : Type} [DecidableEq α] (D : DLab K α) {f : Addr} {fd : FuncData} (F : Fun K "marked" "marked" sMarked f fd) (ml : mg "len" = none) : FnOk P w K mg base CX0 1 f fd ["labels"] (spMarked D.L) := by
  refine F.ok scMarked (fun vs H Q E h => ?_) (fun cdv A outer s H vs Q E hr h => ?_)
  · obtain ⟨a, xs, as, rfl, _⟩ := h
    rfl
  obtain ⟨a, xs, as, rfl, hS, hL, hz, q⟩ := h
  have hu := hu_of hr
  refine ⟨_, pss_cons (ps_set (i := 1) scMarked.nd rfl (Or.inl rfl) D.newD)
    (pss_cons (ps_set (i := 2) scMarked.nd rfl (Or.inl rfl) (pe_lst pa_nil))
    (pss_cons (ps_for PassesOwn.never rfl (pi_list (pv 0)) (pg_name (i := 3) scMarked.nd rfl (Or.inl rfl))
      (pss_one (ps_expr (pe_bm PySem.F.plainAttrs_list PySem.F.slot_list_append PySem.F.type_list_append mt_append (pv 2)
        (pa_cons (pe_bm PySem.F.plainAttrs_dict PySem.F.slot_dict_setdefault PySem.F.type_dict_setdefault (mt_setdefault hu) (pv 1) (pa_cons (pv 3) (pa_cons (pe_callB call_lenDD rfl ml PySem.boot_len (pa_cons (pv 1) pa_nil)) pa_nil))) pa_nil)))))
    (pss_one (ps_ret (pv 2))))), ?_⟩
  intro d hd
  refine ⟨(by show 0 ≤ sizeLine; decide), fun l hl => ?_⟩
  have ndl : d ≠ l := fun e => by subst e; rw [upd_same] at hl; cases hl
  have hl0 : H l = none := by rw [upd_ne ndl.symm] at hl; exact hl
  have s0 : Same H (upd (upd H d (D.dOf [])) l (.lst [])) := (same_upd hd _).upd2 hl0
  refine ⟨_, rfl, a, rfl, ⟨_, s0.seq hS⟩, for_list (K := K) (a := a) (xs := xs) (fun i σ H2 => ∃ (v : Option V), σ = [some (.ref a), some (.ref d), some (.ref l), v] ∧ Same H H2 ∧ H2 d = some (D.dOf (Sh.dd (as.take i))) ∧ H2 l = some (.lst ((Sh.mk (as.take i)).map V.int)))
    ⟨none, rfl, s0, by rw [upd_ne ndl, upd_same]; rfl, by rw [upd_same]; rfl⟩ (fun i σ H2 _ ⟨_, _, s2, _⟩ => s2.seq hS) ?_ ?_⟩
  · rintro i x σ H2 hi ⟨v, rfl, s2, h1, h2⟩
    have hil : i < xs.length := (List.getElem?_eq_some_iff.mp hi).1
    have hia : i < as.length := by rw [← hL.1]; exact hil
    have ea := List.getElem?_eq_getElem hia
    have rel := D.L.mono s2 (hL.2 i x _ hi ea)
    have et : as.take (i + 1) = as.take i ++ [as[i]] := by rw [List.take_add_one, ea]; rfl
    have lt : (as.take i).length ≤ 1000 := by rw [List.length_take]; omega
    have ldd : (Sh.dd (as.take i)).length ≤ 1000 := Nat.le_trans (Sh.length_dd_le _) lt
    refine ⟨_, rfl, .inl ⟨rfl, _, SqL.of h2⟩, _, rfl, ?_, _, rfl, _, rfl, d, _, rfl, D.lenD h1, ?_⟩
    · refine .inr (.inr (.inl ⟨rfl, ?_⟩))
      rcases D.lenD h1 with ⟨kvs, e, _⟩ | ⟨kvs, e, _⟩
      · exact .inl ⟨kvs, e⟩
      · exact .inr ⟨kvs, e⟩
    · refine D.setd h1 rel (Sh.nodup_dd _) (small1000 ldd) (fun hm => ?_) (fun hm => ?_)
      · refine ⟨l, _, _, rfl, rfl, h2, small1000 (by rw [List.length_map, Sh.length_mk]; exact lt), _, rfl, s2.upd2 hl0, ?_, ?_⟩
        · rw [upd_ne ndl, h1, et, Sh.dd_snoc, if_pos hm]
        · rw [upd_same, et]
          congr 2
          unfold Sh.mk
          rw [Sh.nm_snoc, if_pos hm, List.map_append, List.map_append]
          rfl
      · refine ⟨l, _, _, rfl, rfl, by rw [upd_ne ndl.symm]; exact h2, small1000 (by rw [List.length_map, Sh.length_mk]; exact lt), _, rfl, (s2.upd2 hd).upd2 hl0, ?_, ?_⟩
        · rw [upd_ne ndl, upd_same, et, Sh.dd_snoc, if_neg hm]
        · rw [upd_same, et]
          congr 2
          unfold Sh.mk
          rw [Sh.nm_snoc, if_neg hm, List.map_append, List.map_append]
          rfl
  · rintro σ H2 ⟨v, rfl, s2, h1, h2⟩
    rw [hL.1, List.take_length] at h2
    exact ⟨_, rfl, q l H2 s2 hl0 h2⟩
end
section
variable {P : Program} {w : World} {K : PySem.W.Frag} {mg : Str → Option Value} {base : Heap}
theorem scAlike : FnScope ["one", "other"] ["one", "other"] (defScope sAlike) := ⟨rfl, rfl, rfl, by decide +kernel, rfl, by decide +kernel, by decide +kernel⟩
theorem ok_alike {f : Addr} {fd : FuncData} (F : Fun K "ask_alike" "ask_alike" sAlike f fd) (G : Fn P w K mg base "ask_sharing" ["one"] 3 (spAsk K)) (ml : mg "len" = none) : FnOk P w K mg base CX0 4 f fd ["one", "other"] (spAlike K) := by
  refine F.ok scAlike (fun vs H Q E h => ?_) (fun cdv A outer s H vs Q E hr h => ?_)
  · obtain ⟨a, b, ns, ms, rfl, _⟩ := h
    rfl
  obtain ⟨a, b, ns, ms, rfl, hA, hB, gA, gB, hl, q⟩ := h
  refine ⟨_, pss_cons (ps_expr (pe_fn G hr (pa_cons (pv 0) pa_nil))) (pss_cons (ps_expr (pe_fn G hr (pa_cons (pv 1) pa_nil)))
    (pss_one (ps_if (pt_cmpR op_ne (pe_callB call_len_seq rfl ml PySem.boot_len (pa_cons (pv 0) pa_nil)) (pe_callB call_len_seq rfl ml PySem.boot_len (pa_cons (pv 1) pa_nil)) (nomark _)) pss_never pss_nil))), ?_⟩
  refine ⟨_, rfl, a, ns, rfl, hA, gA, _, rfl, b, ms, rfl, hB, gB, _, rfl, a, _, rfl, .inl hA, _, rfl, b, _, rfl, .inl hB, rfl, _, rfl, ?_⟩
  refine iteNS ?_ q
  rw [List.length_map, List.length_map, hl]
theorem scMeet : FnScope ["one", "other"] ["one", "other"] (defScope sMeet) := ⟨rfl, rfl, rfl, by decide +kernel, rfl, by decide +kernel, by decide +kernel⟩
theorem zip_get {ns ms : List Int} {j : Nat} {x y : V} (h1 : (ns.map V.int)[j]? = some x) (h2 : (ms.map V.int)[j]? = some y) : ∃ p, (ns.zip ms)[j]? = some p ∧ x = .int p.1 ∧ y = .int p.2 := by
  obtain ⟨z, e1, rfl⟩ := ints_get h1
  obtain ⟨u, e2, rfl⟩ := ints_get h2
  exact ⟨(z, u), by rw [List.getElem?_zip_eq_some]; exact ⟨e1, e2⟩, rfl, rfl⟩
theorem ok_meet {f : Addr} {fd : FuncData} (F : Fun K "meeting" "meeting" sMeet f fd) (GA : Fn P w K mg base "ask_alike" ["one", "other"] 4 (spAlike K)) (GM : Fn P w K mg base "marked" ["labels"] 1 (spMarked (labPair K)))
    (ml : mg "list" = none) (mz : mg "zip" = none) : FnOk P w K mg base CX0 5 f fd ["one", "other"] (spMeet K) := by
  refine F.ok scMeet (fun vs H Q E h => ?_) (fun cdv A outer s H vs Q E hr h => ?_)
  · obtain ⟨a, b, ns, ms, rfl, _⟩ := h
    rfl
  obtain ⟨a, b, ns, ms, rfl, hA, hB, gA, gB, hl, q⟩ := h
  refine ⟨_, pss_cons (ps_expr (pe_fn GA hr (pa_cons (pv 0) (pa_cons (pv 1) pa_nil))))
    (pss_one (ps_ret (pe_fn GM (hr.mono (by decide)) (pa_cons (pe_listzip rfl rfl ml rfl mz (pa_cons (pv 0) (pa_cons (pv 1) pa_nil))) pa_nil)))), ?_⟩
  have l12 := (Sh.isSh_can gA).2.2
  refine ⟨_, rfl, _, rfl, a, b, ns, ms, rfl, hA, hB, gA, gB, hl, ?_⟩
  refine ⟨_, rfl, _, rfl, a, b, _, _, rfl, hA, hB, fun D Ts H2 hD sm hd hlen hT => ?_⟩
  rw [List.length_map, List.length_map, ← hl, Nat.min_self] at hlen
  refine ⟨D, Ts.map V.ref, ns.zip ms, rfl, SqL.of hd, ⟨by rw [List.length_map, hlen, List.length_zip, ← hl, Nat.min_self], fun j x p e1 e2 => ?_⟩, by rw [List.length_zip]; omega, fun D' H3 sm' hD' hd' => ?_⟩
  · rw [List.getElem?_map] at e1
    cases eT : Ts[j]? with
    | none => rw [eT] at e1; cases e1
    | some T =>
      rw [eT] at e1
      cases e1
      obtain ⟨_, x', y', e3, e4, e5⟩ := hT j T eT
      obtain ⟨p', e6, rfl, rfl⟩ := zip_get e3 e4
      rw [e2] at e6
      cases e6
      exact ⟨T, rfl, e5⟩
  · exact q D' H3 (sm.trans sm') (sm.free hD') hd'
theorem scFiner : FnScope ["one", "other"] ["one", "other"] (defScope sFiner) := ⟨rfl, rfl, rfl, by decide +kernel, rfl, by decide +kernel, by decide +kernel⟩
theorem ok_finer {f : Addr} {fd : FuncData} (F : Fun K "is_finer" "is_finer" sFiner f fd) (G : Fn P w K mg base "meeting" ["one", "other"] 5 (spMeet K)) : FnOk P w K mg base CX0 6 f fd ["one", "other"] (spFiner K) := by
  refine F.ok scFiner (fun vs H Q E h => ?_) (fun cdv A outer s H vs Q E hr h => ?_)
  · obtain ⟨a, b, ns, ms, rfl, _⟩ := h
    rfl
  obtain ⟨a, b, ns, ms, rfl, hA, hB, gA, gB, hl, q⟩ := h
  have hu := hu_of hr
  refine ⟨_, pss_one (ps_ret (pe_cmpR (op_eqLI (Nat.lt_of_succ_lt hu)) (pe_fn G hr (pa_cons (pv 0) (pa_cons (pv 1) pa_nil))) (pv 0) (nomark _))), ?_⟩
  refine ⟨_, rfl, _, rfl, a, b, ns, ms, rfl, hA, hB, gA, gB, hl, fun D H' sm hD hd => ?_⟩
  exact ⟨_, rfl, D, a, _, ns, rfl, rfl, SqL.of hd, sm.seq hA, q H' sm⟩
end
def spAskTh (K : PySem.W.Frag) : Sp := fun vs H Q _ => ∃ n : Int, vs = [.int n] ∧ 1 ≤ n ∧ n ≤ 12 ∧ Q .non H
def spWays (K : PySem.W.Frag) : Sp := fun vs H Q _ => ∃ (f : Nat) (fi s : Int), vs = [.int fi, .int s] ∧ fi = (f : Int) ∧ 0 ≤ s ∧ (f : Int) + s ≤ 12 ∧ ∀ H', Same H H' → Q (.int (Sh.W f s)) H'
def spManyN (K : PySem.W.Frag) : Sp := fun vs H Q _ => ∃ (n : Nat) (ni : Int), vs = [.int ni] ∧ ni = (n : Int) ∧ 1 ≤ n ∧ n ≤ 12 ∧ ∀ H', Same H H' → Q (.int (Sh.W n 0)) H'
def wl (f k : Nat) (s : Int) : List Int := (List.range (f + 1 - k)).map fun (m : Nat) => Sh.W k (s + (m : Int))
theorem wl_len (f k : Nat) (s : Int) : (wl f k s).length = f + 1 - k := by simp [wl]
theorem wl_get {f k m : Nat} {s : Int} (h : m < f + 1 - k) : (wl f k s)[m]? = some (Sh.W k (s + (m : Int))) := by
  unfold wl
  rw [List.getElem?_map, List.getElem?_range h]
  rfl
theorem rep_one (n : Nat) (x : Int) : (List.replicate n [V.int x]).flatten = (List.replicate n x).map V.int := by
  induction n with
  | zero => rfl
  | succ n ih => rw [List.replicate_succ, List.flatten_cons, ih, List.replicate_succ]; rfl
theorem wl_zero (f : Nat) (s : Int) : wl f 0 s = List.replicate (f + 1) 1 := by
  refine List.ext_getElem? fun i => ?_
  by_cases h : i < f + 1
  · rw [wl_get h, List.getElem?_replicate, if_pos h]
    rfl
  · rw [List.getElem?_eq_none (by rw [wl_len]; omega), List.getElem?_eq_none (by rw [List.length_replicate]; omega)]
theorem int_at {xs : List Int} {m : Nat} {z x : Int} (e : z = (m : Int)) (h : xs[m]? = some x) : atI (xs.map V.int) z = some (.int x) := by
  subst e
  exact atI_nat (by rw [List.getElem?_map, h]; rfl)
section
variable {P : Program} {w : World} {K : PySem.W.Frag} {mg : Str → Option Value} {base : Heap}
theorem scAskTh : FnScope ["things"] ["things"] (defScope sAskTh) := ⟨rfl, rfl, rfl, by decide +kernel, rfl, by decide +kernel, by decide +kernel⟩
theorem ok_askth {f : Addr} {fd : FuncData} (F : Fun K "ask_things" "ask_things" sAskTh f fd) (G : Fn P w K mg base "is_many_things" ["number"] 1 (spMany K)) : FnOk P w K mg base CX0 2 f fd ["things"] (spAskTh K) := by
  refine F.ok scAskTh (fun vs H Q E h => ?_) (fun cdv A outer s H vs Q E hr h => ?_)
  · obtain ⟨n, rfl, _⟩ := h
    rfl
  obtain ⟨n, rfl, h1, h2, q⟩ := h
  refine ⟨_, pss_one (ps_if (pt_not (pt_val (pe_fn G hr (pa_cons (pv 0) pa_nil)))) pss_never pss_nil), ?_⟩
  refine ⟨_, rfl, n, rfl, _, rfl, ?_⟩
  rw [decide_eq_true ⟨h1, h2⟩]
  exact iteF q
theorem nd_msw : (["more", "shares", "ways"] : List Str).Nodup := by decide +kernel
theorem scWays : FnScope ["further", "shares", "ways"] ["further", "shares"] (defScope sWays) := ⟨rfl, rfl, rfl, by decide +kernel, rfl, by decide +kernel, by decide +kernel⟩
theorem ok_ways {f : Addr} {fd : FuncData} (F : Fun K "many_ways_on" "many_ways_on" sWays f fd) (ml : mg "len" = none) (mr : mg "range" = none) : FnOk P w K mg base CX0 1 f fd ["further", "shares"] (spWays K) := by
  refine F.ok scWays (fun vs H Q E h => ?_) (fun cdv A outer s H vs Q E hr h => ?_)
  · obtain ⟨fu, fi, sh, rfl, _⟩ := h
    rfl
  obtain ⟨fu, fi, sh, rfl, rfl, h0, h12, q⟩ := h
  refine ⟨_, pss_cons (ps_set (i := 2) scWays.nd rfl (Or.inr rfl) (pe_op op_rep (pe_lst (pa_cons pe_int pa_nil)) (pe_op op_add (pv 0) pe_int)))
    (pss_cons (ps_while PassesOwn.never (pt_cmpR op_gt (pe_callB call_len_seq rfl ml PySem.boot_len (pa_cons (pv 2) pa_nil)) pe_int (nomark _))
      (pss_one (ps_set (i := 2) scWays.nd rfl (Or.inr rfl) (pe_comp ["more", "shares", "ways"] [none, some 1, some 2] rfl rfl (pi_range1 rfl mr (pa_cons (pe_op op_sub (pe_callB call_len_seq rfl ml PySem.boot_len (pa_cons (pv 2) pa_nil)) pe_int) pa_nil)) (fun _ _ _ _ => pg_name (i := 0) nd_msw rfl (Or.inl rfl)) (fun _ _ _ _ => pts_nil)
        (fun _ _ _ _ => pe_op op_add (pe_op op_mul (pe_op op_add (pv 1) (pv 0)) (pe_ix (ix_listK (K := K)) (pv 2) (pv 0) (fun _ _ => rfl))) (pe_ix (ix_listK (K := K)) (pv 2) (pe_op op_add (pv 0) pe_int) (fun _ _ => rfl)))))))
    (pss_one (ps_ret (pe_ix ix_list (pv 2) pe_int (fun _ _ => rfl))))), ?_⟩
  refine ⟨(by show 1 ≤ sizeLine; decide), fun l0 hl0 => ?_⟩
  refine ⟨_, rfl, _, _, rfl, rfl, l0, _, _, rfl, rfl, upd_same, by omega, by omega, small (by rw [show ((fu : Int) + 1).toNat = fu + 1 by omega]; show 1 * (fu + 1) ≤ 1000; omega), fun p hp => ?_⟩
  rw [show ((fu : Int) + 1).toNat = fu + 1 by omega, rep_one, ← wl_zero fu sh]
  have s0 : Same H (upd (upd H l0 (.lst [.int 1])) p (.lst ((wl fu 0 sh).map V.int))) := (same_upd hl0 _).trans (same_upd hp _)
  refine ⟨fun m σ H2 => ∃ (k : Nat) (l : Addr), m = fu - k ∧ k ≤ fu ∧ σ = [some (.int (fu : Int)), some (.int sh), some (.ref l)] ∧ Same H H2 ∧ H2 l = some (.lst ((wl fu k sh).map V.int)), ⟨fu, 0, p, rfl, Nat.zero_le _, rfl, s0, upd_same⟩, ?_⟩
  rintro m σ H2 ⟨k, l, rfl, hk, rfl, s2, hl⟩
  have ll : (((wl fu k sh).map V.int).length : Int) = ((fu + 1 - k : Nat) : Int) := by rw [List.length_map, wl_len]
  refine ⟨_, rfl, l, _, rfl, .inl (SqL.of hl), _, _, rfl, rfl, _, rfl, ?_⟩
  refine ite2 (fun c => ?_) (fun c => ?_)
  · have c' := of_decide_eq_true c
    have c2 : (1 : Int) < ((fu + 1 - k : Nat) : Int) := by rw [← ll]; exact c'
    refine ⟨fun σ' H' => ∃ m', m' < fu - k ∧ ∃ (k : Nat) (l : Addr), m' = fu - k ∧ k ≤ fu ∧ σ' = [some (.int (fu : Int)), some (.int sh), some (.ref l)] ∧ Same H H' ∧ H' l = some (.lst ((wl fu k sh).map V.int)), fun _ _ h => h, ?_⟩
    refine ⟨_, rfl, l, _, rfl, .inl (SqL.of hl), _, _, rfl, rfl, _, rfl, (by rw [ll]; omega), (by rw [ll]; omega), ?_⟩
    rw [ll, show (((fu + 1 - k : Nat) : Int) - 1).toNat = fu - k by omega]
    refine comp_range (lo := 0) (n := fu - k) (fun i zs τ H3 => ∃ (v : Option V), τ = [v, some (.int sh), some (.ref l)] ∧ H3 = H2 ∧ zs = ((List.range i).map fun (m : Nat) => Sh.W (k + 1) (sh + (m : Int))).map V.int) ⟨none, rfl, rfl, rfl⟩ ?_ ?_ ?_
    · rintro i zs τ H3 hi ⟨v, rfl, rfl, rfl⟩
      exact small1000 (by rw [List.length_map, List.length_map, List.length_range]; omega)
    · rintro i zs τ H3 hi ⟨v, rfl, rfl, rfl⟩
      refine ⟨_, rfl, _, rfl, _, _, rfl, rfl, _, rfl, _, rfl, l, _, _, _, rfl, rfl, SqL.of hl, int_at (m := i) (by omega) (wl_get (by omega)), ?_⟩
      refine ⟨_, _, rfl, rfl, .inl ⟨by omega, by omega⟩, ?_⟩
      refine ⟨_, rfl, _, rfl, _, _, rfl, rfl, l, _, _, _, rfl, rfl, SqL.of hl, int_at (m := i + 1) (by omega) (wl_get (by omega)), ?_⟩
      refine ⟨_, _, rfl, rfl, _, rfl, rfl, ?_⟩
      rw [List.range_succ, List.map_append, List.map_append]
      congr 1
      show [V.int ((sh + (0 + (i : Int))) * Sh.W k (sh + (i : Int)) + Sh.W k (sh + ((i + 1 : Nat) : Int)))] = [V.int (Sh.W (k + 1) (sh + (i : Int)))]
      rw [Sh.W_succ, Int.zero_add, Int.natCast_add, ← Int.add_assoc]
      rfl
    · rintro zs τ H3 ⟨v, rfl, rfl, rfl⟩ D hD
      refine ⟨fu - (k + 1), by omega, k + 1, D, rfl, by omega, rfl, s2.upd2 (s2.free hD), ?_⟩
      rw [upd_same]
      unfold wl
      rw [show fu + 1 - (k + 1) = fu - k by omega]
  · have c2 : ¬ (1 : Int) < ((fu + 1 - k : Nat) : Int) := fun z => c (decide_eq_true (by rw [ll]; exact z))
    have e : k = fu := by omega
    subst e
    refine ⟨_, rfl, l, _, _, _, rfl, rfl, SqL.of hl, int_at (m := 0) rfl (wl_get (by omega)), ?_⟩
    rw [show sh + ((0 : Nat) : Int) = sh by omega]
    exact q H2 s2
theorem scManyN : FnScope ["things"] ["things"] (defScope sManyN) := ⟨rfl, rfl, rfl, by decide +kernel, rfl, by decide +kernel, by decide +kernel⟩
theorem ok_manyn {f : Addr} {fd : FuncData} (F : Fun K "many" "many" sManyN f fd) (GA : Fn P w K mg base "ask_things" ["things"] 2 (spAskTh K)) (GW : Fn P w K mg base "many_ways_on" ["further", "shares"] 1 (spWays K)) : FnOk P w K mg base CX0 3 f fd ["things"] (spManyN K) := by
  refine F.ok scManyN (fun vs H Q E h => ?_) (fun cdv A outer s H vs Q E hr h => ?_)
  · obtain ⟨n, ni, rfl, _⟩ := h
    rfl
  obtain ⟨n, ni, rfl, rfl, h1, h2, q⟩ := h
  refine ⟨_, pss_cons (ps_expr (pe_fn GA hr (pa_cons (pv 0) pa_nil))) (pss_one (ps_ret (pe_fn GW (hr.mono (by decide)) (pa_cons (pv 0) (pa_cons pe_int pa_nil))))), ?_⟩
  refine ⟨_, rfl, _, rfl, by omega, by omega, ?_⟩
  exact ⟨_, rfl, n, _, 0, rfl, rfl, by omega, by omega, q⟩
end
def RA (C : Addr) (H : Hp) (E : XK) : Prop := ∀ H', Same H H' → E (.ref C) none H'
def spThR (K : PySem.W.Frag) (C : Addr) : Sp := fun vs H _ E => ∃ n : Int, vs = [.int n] ∧ ¬ (1 ≤ n ∧ n ≤ 12) ∧ RA C H E
def spThR2 (K : PySem.W.Frag) (C : Addr) : Sp := fun vs H _ E => ∃ (n : Int) (v : V), vs = [.int n, v] ∧ ¬ (1 ≤ n ∧ n ≤ 12) ∧ RA C H E
def spThR3 (K : PySem.W.Frag) (C : Addr) : Sp := fun vs H _ E => ∃ (n : Int) (v v' : V), vs = [.int n, v, v'] ∧ ¬ (1 ≤ n ∧ n ≤ 12) ∧ RA C H E
def spThR4 (K : PySem.W.Frag) (C : Addr) : Sp := fun vs H _ E => ∃ (n : Int) (v v' v'' : V), vs = [.int n, v, v', v''] ∧ ¬ (1 ≤ n ∧ n ≤ 12) ∧ RA C H E
def spShR (K : PySem.W.Frag) (C : Addr) : Sp := fun vs H _ E => ∃ (a : Addr) (ns : List Int), vs = [.ref a] ∧ SqL K H a (ns.map V.int) ∧ Sh.isSh ns = false ∧ RA C H E
def BadA (CN CU : Addr) (ns ms : List Int) (C : Addr) : Prop := (C = CN ∧ (Sh.isSh ns = false ∨ Sh.isSh ms = false)) ∨ (C = CU ∧ Sh.isSh ns = true ∧ Sh.isSh ms = true ∧ ns.length ≠ ms.length)
def spTwoR (K : PySem.W.Frag) (CN CU : Addr) : Sp := fun vs H _ E => ∃ (a b : Addr) (ns ms : List Int) (C : Addr), vs = [.ref a, .ref b] ∧ SqL K H a (ns.map V.int) ∧ SqL K H b (ms.map V.int) ∧ BadA CN CU ns ms C ∧ RA C H E
def spThreeR (K : PySem.W.Frag) (CN CU CF : Addr) : Sp := fun vs H _ E => ∃ (a b : Addr) (ns ms : List Int) (C : Addr), vs = [.ref a, .ref b] ∧ SqL K H a (ns.map V.int) ∧ SqL K H b (ms.map V.int) ∧ (BadA CN CU ns ms C ∨ (C = CF ∧ Sh.isSh ns = true ∧ Sh.isSh ms = true ∧ ns.length = ms.length ∧ ¬ Sh.mk (ns.zip ms) = ns)) ∧ RA C H E
section
variable {P : Program} {w : World} {K : PySem.W.Frag} {mg : Str → Option Value} {base : Heap}
theorem nd_shq : (["share"] : List Str).Nodup := by decide +kernel
theorem qokr_askth : FnScope ["things"] ["things"] (defScope sAskTh) := ⟨rfl, rfl, rfl, by decide +kernel, rfl, by decide +kernel, by decide +kernel⟩
theorem okr_askth {C : Addr} (hq : PySem.W.excIn K C bmVE "ValueError.__new__" = true) (mC : mg "NoThings" = some (.ref C)) (G : Fn P w K mg base "is_many_things" ["number"] 1 (spMany K)) {f : Addr} {fd : FuncData} (F : Fun K "ask_things" "ask_things" sAskTh f fd) : FnOk P w K mg base (CX1 P w) 2 f fd ["things"] (spThR K C) := by
  refine F.ok1 qokr_askth (fun vs H Q E h => ?_) (fun cdv A outer s H vs Q E hr h => ?_)
  · obtain ⟨n, rfl, _⟩ := h
    rfl
  obtain ⟨n, rfl, hn, qE⟩ := h
  refine ⟨_, pss_one (ps_if (pt_not (pt_val (pe_fn G hr (pa_cons (pv 0) pa_nil)))) (pss_one (ps_raise hq rfl mC (pa_cons pe_str pa_nil))) pss_nil), ?_⟩
  refine ⟨_, rfl, n, rfl, _, rfl, ?_⟩
  rw [decide_eq_false hn]
  exact iteT ⟨(by show 1 ≤ sizeLine; decide), qE H (Same.refl H)⟩
theorem qokr_many : FnScope ["things"] ["things"] (defScope sManyN) := ⟨rfl, rfl, rfl, by decide +kernel, rfl, by decide +kernel, by decide +kernel⟩
theorem okr_many {C : Addr} (G : Fn1 P w K mg base "ask_things" ["things"] 2 (spThR K C)) {f : Addr} {fd : FuncData} (F : Fun K "many" "many" sManyN f fd) : FnOk P w K mg base (CX1 P w) 3 f fd ["things"] (spThR K C) := by
  refine F.ok1 qokr_many (fun vs H Q E h => ?_) (fun cdv A outer s H vs Q E hr h => ?_)
  · obtain ⟨n, rfl, _⟩ := h
    rfl
  obtain ⟨n, rfl, hn, qE⟩ := h
  refine ⟨_, pss_cons (ps_expr (pe_fn1 G (hr.mono (by decide)) (pa_cons (pv 0) pa_nil))) pss_never, ?_⟩
  exact ⟨_, rfl, n, rfl, hn, qE⟩
theorem qokr_with : FnScope ["things", "shares", "counts", "thing"] ["things", "shares"] (defScope sWith) := ⟨rfl, rfl, rfl, by decide +kernel, rfl, by decide +kernel, by decide +kernel⟩
theorem okr_with {C : Addr} (G : Fn1 P w K mg base "ask_things" ["things"] 2 (spThR K C)) {f : Addr} {fd : FuncData} (F : Fun K "many_with" "many_with" sWith f fd) : FnOk P w K mg base (CX1 P w) 3 f fd ["things", "shares"] (spThR2 K C) := by
  refine F.ok1 qokr_with (fun vs H Q E h => ?_) (fun cdv A outer s H vs Q E hr h => ?_)
  · obtain ⟨n, v, rfl, _⟩ := h
    rfl
  obtain ⟨n, v, rfl, hn, qE⟩ := h
  refine ⟨_, pss_cons (ps_expr (pe_fn1 G (hr.mono (by decide)) (pa_cons (pv 0) pa_nil))) pss_never, ?_⟩
  exact ⟨_, rfl, n, rfl, hn, qE⟩
theorem qokr_at : FnScope ["things", "number", "marks", "shares", "left", "thing", "run", "mark"] ["things", "number"] (defScope sAt) := ⟨rfl, rfl, rfl, by decide +kernel, rfl, by decide +kernel, by decide +kernel⟩
theorem okr_at {C : Addr} (G : Fn1 P w K mg base "ask_things" ["things"] 2 (spThR K C)) {f : Addr} {fd : FuncData} (F : Fun K "sharing_at" "sharing_at" sAt f fd) : FnOk P w K mg base (CX1 P w) 3 f fd ["things", "number"] (spThR2 K C) := by
  refine F.ok1 qokr_at (fun vs H Q E h => ?_) (fun cdv A outer s H vs Q E hr h => ?_)
  · obtain ⟨n, v, rfl, _⟩ := h
    rfl
  obtain ⟨n, v, rfl, hn, qE⟩ := h
  refine ⟨_, pss_cons (ps_expr (pe_fn1 G (hr.mono (by decide)) (pa_cons (pv 0) pa_nil))) pss_never, ?_⟩
  exact ⟨_, rfl, n, rfl, hn, qE⟩
theorem qokr_shof : FnScope ["things", "pairs", "marks", "pair"] ["things", "pairs"] (defScope sShOf) := ⟨rfl, rfl, rfl, by decide +kernel, rfl, by decide +kernel, by decide +kernel⟩
theorem okr_shof {C : Addr} (G : Fn1 P w K mg base "ask_things" ["things"] 2 (spThR K C)) {f : Addr} {fd : FuncData} (F : Fun K "sharing_of" "sharing_of" sShOf f fd) : FnOk P w K mg base (CX1 P w) 3 f fd ["things", "pairs"] (spThR2 K C) := by
  refine F.ok1 qokr_shof (fun vs H Q E h => ?_) (fun cdv A outer s H vs Q E hr h => ?_)
  · obtain ⟨n, v, rfl, _⟩ := h
    rfl
  obtain ⟨n, v, rfl, hn, qE⟩ := h
  refine ⟨_, pss_cons (ps_expr (pe_fn1 G (hr.mono (by decide)) (pa_cons (pv 0) pa_nil))) pss_never, ?_⟩
  exact ⟨_, rfl, n, rfl, hn, qE⟩
theorem qokr_way : FnScope ["things", "pairs", "one", "other", "ways"] ["things", "pairs", "one", "other"] (defScope sWayBy) := ⟨rfl, rfl, rfl, by decide +kernel, rfl, by decide +kernel, by decide +kernel⟩
theorem okr_way {C : Addr} (G : Fn1 P w K mg base "ask_things" ["things"] 2 (spThR K C)) {f : Addr} {fd : FuncData} (F : Fun K "way_by" "way_by" sWayBy f fd) : FnOk P w K mg base (CX1 P w) 3 f fd ["things", "pairs", "one", "other"] (spThR4 K C) := by
  refine F.ok1 qokr_way (fun vs H Q E h => ?_) (fun cdv A outer s H vs Q E hr h => ?_)
  · obtain ⟨n, v, v', v'', rfl, _⟩ := h
    rfl
  obtain ⟨n, v, v', v'', rfl, hn, qE⟩ := h
  refine ⟨_, pss_cons (ps_expr (pe_fn1 G (hr.mono (by decide)) (pa_cons (pv 0) pa_nil))) pss_never, ?_⟩
  exact ⟨_, rfl, n, rfl, hn, qE⟩
theorem qokr_judged : FnScope ["things", "together", "apart", "marks", "number", "pair"] ["things", "together", "apart"] (defScope sJudged) := ⟨rfl, rfl, rfl, by decide +kernel, rfl, by decide +kernel, by decide +kernel⟩
theorem okr_judged {C : Addr} (G : Fn1 P w K mg base "sharing_of" ["things", "pairs"] 3 (spThR2 K C)) {f : Addr} {fd : FuncData} (F : Fun K "judged" "judged" sJudged f fd) : FnOk P w K mg base (CX1 P w) 4 f fd ["things", "together", "apart"] (spThR3 K C) := by
  refine F.ok1 qokr_judged (fun vs H Q E h => ?_) (fun cdv A outer s H vs Q E hr h => ?_)
  · obtain ⟨n, v, v', rfl, _⟩ := h
    rfl
  obtain ⟨n, v, v', rfl, hn, qE⟩ := h
  refine ⟨_, pss_cons (ps_set (i := 3) qokr_judged.nd rfl (Or.inl rfl) (pe_fn1 G hr (pa_cons (pv 0) (pa_cons (pv 1) pa_nil)))) pss_never, ?_⟩
  exact ⟨_, rfl, _, rfl, n, v, rfl, hn, qE⟩
def spWithN (K : PySem.W.Frag) (C : Addr) : Sp := fun vs H _ E => ∃ n j : Int, vs = [.int n, .int j] ∧ 1 ≤ n ∧ n ≤ 12 ∧ (j < 0 ∨ 12 < j) ∧ RA C H E
def spAtN (K : PySem.W.Frag) (C : Addr) : Sp := fun vs H _ E => ∃ (n : Nat) (k : Int), vs = [.int (n : Int), .int k] ∧ 1 ≤ n ∧ n ≤ 12 ∧ (k < 0 ∨ Sh.W n 0 ≤ k) ∧ RA C H E
theorem qokn_with : FnScope ["things", "shares", "counts", "thing"] ["things", "shares"] (defScope sWith) := ⟨rfl, rfl, rfl, by decide +kernel, rfl, by decide +kernel, by decide +kernel⟩
theorem okn_with {C : Addr} (hq : PySem.W.excIn K C bmVE "ValueError.__new__" = true) (mC : mg "NoNumber" = some (.ref C)) (GA : Fn P w K mg base "ask_things" ["things"] 2 (spAskTh K)) {tk : Tok} (mt : mg "MOST_THINGS" = some (.int 12 tk)) {f : Addr} {fd : FuncData} (F : Fun K "many_with" "many_with" sWith f fd) : FnOk P w K mg base (CX1 P w) 3 f fd ["things", "shares"] (spWithN K C) := by
  refine F.ok1 qokn_with (fun vs H Q E h => ?_) (fun cdv A outer s H vs Q E hr h => ?_)
  · obtain ⟨n, j, rfl, _⟩ := h
    rfl
  obtain ⟨n, j, rfl, h1, h2, hj, qE⟩ := h
  refine ⟨_, pss_cons (ps_expr (pe_fn GA hr (pa_cons (pv 0) pa_nil))) (pss_cons (ps_if (PW.pt (pw_or (pt_cmpR op_lt (pv 1) pe_int (nomark _)) (pw_or1 (pt_cmpR op_gt (pv 1) (pe_glob (v := .int 12) rfl mt ⟨_, rfl⟩) (nomark _))))) (pss_one (ps_raise hq rfl mC (pa_cons pe_str pa_nil))) pss_nil) pss_never), ?_⟩
  refine ⟨_, rfl, _, rfl, h1, h2, ?_⟩
  refine ⟨_, rfl, _, _, rfl, rfl, _, rfl, ?_⟩
  refine ite2 (fun c => ?_) (fun c => ?_)
  · exact iteT ⟨(by show 1 ≤ sizeLine; decide), qE H (Same.refl H)⟩
  have c1 : ¬ j < 0 := fun z => c (decide_eq_true z)
  refine ⟨_, rfl, _, _, rfl, rfl, _, rfl, ?_⟩
  refine ite2 (fun _ => ?_) (fun c => absurd (decide_eq_true (show (12 : Int) < j by omega)) c)
  exact ⟨(by show 1 ≤ sizeLine; decide), qE H (Same.refl H)⟩
theorem qokn_at : FnScope ["things", "number", "marks", "shares", "left", "thing", "run", "mark"] ["things", "number"] (defScope sAt) := ⟨rfl, rfl, rfl, by decide +kernel, rfl, by decide +kernel, by decide +kernel⟩
theorem okn_at {C : Addr} (hq : PySem.W.excIn K C bmVE "ValueError.__new__" = true) (mC : mg "NoNumber" = some (.ref C)) (GA : Fn P w K mg base "ask_things" ["things"] 2 (spAskTh K)) (GM : Fn P w K mg base "many" ["things"] 3 (spManyN K)) {f : Addr} {fd : FuncData} (F : Fun K "sharing_at" "sharing_at" sAt f fd) : FnOk P w K mg base (CX1 P w) 4 f fd ["things", "number"] (spAtN K C) := by
  refine F.ok1 qokn_at (fun vs H Q E h => ?_) (fun cdv A outer s H vs Q E hr h => ?_)
  · obtain ⟨n, k, rfl, _⟩ := h
    rfl
  obtain ⟨n, k, rfl, h1, h2, hk, qE⟩ := h
  refine ⟨_, pss_cons (ps_expr (pe_fn GA (hr.mono (by decide)) (pa_cons (pv 0) pa_nil))) (pss_cons (ps_if (PW.pt (pw_or (pt_cmpR op_lt (pv 1) pe_int (nomark _)) (pw_or1 (pt_cmpR op_ge (pv 1) (pe_fn GM hr (pa_cons (pv 0) pa_nil)) (nomark _))))) (pss_one (ps_raise hq rfl mC (pa_cons pe_str pa_nil))) pss_nil) pss_never), ?_⟩
  refine ⟨_, rfl, _, rfl, by omega, by omega, ?_⟩
  refine ⟨_, rfl, _, _, rfl, rfl, _, rfl, ?_⟩
  refine ite2 (fun c => ?_) (fun c => ?_)
  · exact iteT ⟨(by show 1 ≤ sizeLine; decide), qE H (Same.refl H)⟩
  have c1 : ¬ k < 0 := fun z => c (decide_eq_true z)
  refine ⟨_, rfl, _, rfl, n, _, rfl, rfl, h1, h2, fun H1 s1 => ⟨_, _, rfl, rfl, _, rfl, ?_⟩⟩
  refine ite2 (fun _ => ?_) (fun c => absurd (decide_eq_true (show k ≥ Sh.W n 0 by omega)) c)
  exact ⟨(by show 1 ≤ sizeLine; decide), qE H1 s1⟩
theorem qokr_ask : FnScope ["one"] ["one"] (defScope sAsk) := ⟨rfl, rfl, rfl, by decide +kernel, rfl, by decide +kernel, by decide +kernel⟩
theorem okr_ask {C : Addr} (hq : PySem.W.excIn K C bmVE "ValueError.__new__" = true) (mC : mg "NoSharing" = some (.ref C)) (G : Fn P w K mg base "is_sharing" ["one"] 2 (spIs K)) {f : Addr} {fd : FuncData} (F : Fun K "ask_sharing" "ask_sharing" sAsk f fd) : FnOk P w K mg base (CX1 P w) 3 f fd ["one"] (spShR K C) := by
  refine F.ok1 qokr_ask (fun vs H Q E h => ?_) (fun cdv A outer s H vs Q E hr h => ?_)
  · obtain ⟨a, ns, rfl, _⟩ := h
    rfl
  obtain ⟨a, ns, rfl, hS, hg, qE⟩ := h
  refine ⟨_, pss_one (ps_if (pt_not (pt_val (pe_fn G hr (pa_cons (pv 0) pa_nil)))) (pss_one (ps_raise hq rfl mC (pa_cons pe_str pa_nil))) pss_nil), ?_⟩
  refine ⟨_, rfl, a, ns, rfl, hS, _, rfl, ?_⟩
  rw [hg]
  exact iteT ⟨(by show 1 ≤ sizeLine; decide), qE H (Same.refl H)⟩
theorem qokr_shares : FnScope ["one", "shares", "thing", "mark"] ["one"] (defScope sShares) := ⟨rfl, rfl, rfl, by decide +kernel, rfl, by decide +kernel, by decide +kernel⟩
theorem okr_shares {C : Addr} (G : Fn1 P w K mg base "ask_sharing" ["one"] 3 (spShR K C)) {f : Addr} {fd : FuncData} (F : Fun K "shares_of" "shares_of" sShares f fd) : FnOk P w K mg base (CX1 P w) 4 f fd ["one"] (spShR K C) := by
  refine F.ok1 qokr_shares (fun vs H Q E h => ?_) (fun cdv A outer s H vs Q E hr h => ?_)
  · obtain ⟨a, ns, rfl, _⟩ := h
    rfl
  obtain ⟨a, ns, rfl, hS, hg, qE⟩ := h
  refine ⟨_, pss_cons (ps_expr (pe_fn1 G hr (pa_cons (pv 0) pa_nil))) pss_never, ?_⟩
  exact ⟨_, rfl, a, ns, rfl, hS, hg, qE⟩
theorem qokr_nof : FnScope ["one", "number", "shares", "thing", "mark"] ["one"] (defScope sNof) := ⟨rfl, rfl, rfl, by decide +kernel, rfl, by decide +kernel, by decide +kernel⟩
theorem okr_nof {C : Addr} (G : Fn1 P w K mg base "ask_sharing" ["one"] 3 (spShR K C)) {f : Addr} {fd : FuncData} (F : Fun K "number_of" "number_of" sNof f fd) : FnOk P w K mg base (CX1 P w) 4 f fd ["one"] (spShR K C) := by
  refine F.ok1 qokr_nof (fun vs H Q E h => ?_) (fun cdv A outer s H vs Q E hr h => ?_)
  · obtain ⟨a, ns, rfl, _⟩ := h
    rfl
  obtain ⟨a, ns, rfl, hS, hg, qE⟩ := h
  refine ⟨_, pss_cons (ps_expr (pe_fn1 G hr (pa_cons (pv 0) pa_nil))) pss_never, ?_⟩
  exact ⟨_, rfl, a, ns, rfl, hS, hg, qE⟩
theorem qokr_sizes : FnScope ["one"] ["one"] (defScope sSizes) := ⟨rfl, rfl, rfl, by decide +kernel, rfl, by decide +kernel, by decide +kernel⟩
theorem okr_sizes {C : Addr} (G : Fn1 P w K mg base "shares_of" ["one"] 4 (spShR K C)) (ms : mg "sorted" = none) {f : Addr} {fd : FuncData} (F : Fun K "sizes" "sizes" sSizes f fd) : FnOk P w K mg base (CX1 P w) 5 f fd ["one"] (spShR K C) := by
  refine F.ok1 qokr_sizes (fun vs H Q E h => ?_) (fun cdv A outer s H vs Q E hr h => ?_)
  · obtain ⟨a, ns, rfl, _⟩ := h
    rfl
  obtain ⟨a, ns, rfl, hS, hg, qE⟩ := h
  refine ⟨_, pss_one (ps_ret (pe_sortedR rfl ms (pa_cons (pe_comp ["share"] [none] rfl rfl (pi_list (pe_fn1 G hr (pa_cons (pv 0) pa_nil))) (fun _ _ _ _ => pg_name (i := 0) nd_shq rfl (Or.inl rfl)) (fun _ _ _ _ => pts_nil) (fun _ _ _ _ => pe_never)) pa_nil))), ?_⟩
  exact ⟨_, rfl, a, ns, rfl, hS, hg, qE⟩
theorem qokr_mfin : FnScope ["one", "count", "size"] ["one"] (defScope sMFin) := ⟨rfl, rfl, rfl, by decide +kernel, rfl, by decide +kernel, by decide +kernel⟩
theorem okr_mfin {C : Addr} (G : Fn1 P w K mg base "sizes" ["one"] 5 (spShR K C)) {f : Addr} {fd : FuncData} (F : Fun K "many_finer" "many_finer" sMFin f fd) : FnOk P w K mg base (CX1 P w) 6 f fd ["one"] (spShR K C) := by
  refine F.ok1 qokr_mfin (fun vs H Q E h => ?_) (fun cdv A outer s H vs Q E hr h => ?_)
  · obtain ⟨a, ns, rfl, _⟩ := h
    rfl
  obtain ⟨a, ns, rfl, hS, hg, qE⟩ := h
  refine ⟨_, pss_cons (ps_set (i := 1) qokr_mfin.nd rfl (Or.inl rfl) pe_int) (pss_cons (ps_for PassesOwn.leaving rfl (pi_list (pe_fn1 G hr (pa_cons (pv 0) pa_nil))) (pg_name (i := 2) qokr_mfin.nd rfl (Or.inl rfl)) pss_never) pss_never), ?_⟩
  exact ⟨_, rfl, a, ns, rfl, hS, hg, qE⟩
theorem qokr_mcoa : FnScope ["one"] ["one"] (defScope sMCoa) := ⟨rfl, rfl, rfl, by decide +kernel, rfl, by decide +kernel, by decide +kernel⟩
theorem okr_mcoa {C : Addr} (G : Fn1 P w K mg base "sizes" ["one"] 5 (spShR K C)) {C2 : Addr} (GM : Fn1 P w K mg base "many" ["things"] 3 (spThR K C2)) (ml : mg "len" = none) {f : Addr} {fd : FuncData} (F : Fun K "many_coarser" "many_coarser" sMCoa f fd) : FnOk P w K mg base (CX1 P w) 6 f fd ["one"] (spShR K C) := by
  refine F.ok1 qokr_mcoa (fun vs H Q E h => ?_) (fun cdv A outer s H vs Q E hr h => ?_)
  · obtain ⟨a, ns, rfl, _⟩ := h
    rfl
  obtain ⟨a, ns, rfl, hS, hg, qE⟩ := h
  refine ⟨_, pss_one (ps_ret (pe_fn1 GM (hr.mono (by decide)) (pa_cons (pe_callB call_len_seq rfl ml PySem.boot_len (pa_cons (pe_fn1 G hr (pa_cons (pv 0) pa_nil)) pa_nil)) pa_nil))), ?_⟩
  exact ⟨_, rfl, a, ns, rfl, hS, hg, qE⟩
theorem qokr_shown : FnScope ["one"] ["one"] (defScope sShown) := ⟨rfl, rfl, rfl, by decide +kernel, rfl, by decide +kernel, by decide +kernel⟩
theorem okr_shown {C : Addr} (G : Fn1 P w K mg base "shares_of" ["one"] 4 (spShR K C)) {f : Addr} {fd : FuncData} (F : Fun K "shown" "shown" sShown f fd) : FnOk P w K mg base (CX1 P w) 5 f fd ["one"] (spShR K C) := by
  refine F.ok1 qokr_shown (fun vs H Q E h => ?_) (fun cdv A outer s H vs Q E hr h => ?_)
  · obtain ⟨a, ns, rfl, _⟩ := h
    rfl
  obtain ⟨a, ns, rfl, hS, hg, qE⟩ := h
  refine ⟨_, pss_one (ps_ret (pe_bm PySem.F.plainAttrs_str PySem.F.slot_str_join PySem.F.type_str_join mt_join pe_str (pa_cons (pe_comp ["share"] [none] rfl rfl (pi_list (pe_fn1 G hr (pa_cons (pv 0) pa_nil))) (fun _ _ _ _ => pg_name (i := 0) nd_shq rfl (Or.inl rfl)) (fun _ _ _ _ => pts_nil) (fun _ _ _ _ => pe_never)) pa_nil))), ?_⟩
  exact ⟨rfl, _, rfl, a, ns, rfl, hS, hg, qE⟩
theorem qokr_alike : FnScope ["one", "other"] ["one", "other"] (defScope sAlike) := ⟨rfl, rfl, rfl, by decide +kernel, rfl, by decide +kernel, by decide +kernel⟩
theorem okr_alike {CN CU : Addr} (hq : PySem.W.excIn K CU bmVE "ValueError.__new__" = true) (mU : mg "Unlike" = some (.ref CU)) (G : Fn P w K mg base "ask_sharing" ["one"] 3 (spAsk K)) (GR : Fn1 P w K mg base "ask_sharing" ["one"] 3 (spShR K CN)) (ml : mg "len" = none) {f : Addr} {fd : FuncData} (F : Fun K "ask_alike" "ask_alike" sAlike f fd) : FnOk P w K mg base (CX1 P w) 4 f fd ["one", "other"] (spTwoR K CN CU) := by
  refine F.ok1 qokr_alike (fun vs H Q E h => ?_) (fun cdv A outer s H vs Q E hr h => ?_)
  · obtain ⟨a, b, ns, ms, C, rfl, _⟩ := h
    rfl
  obtain ⟨a, b, ns, ms, C, rfl, hA, hB, hbad, qE⟩ := h
  rcases hbad with ⟨rfl, hb⟩ | ⟨rfl, h1, h2, hl⟩
  · cases e1 : Sh.isSh ns with
    | false =>
      refine ⟨_, pss_cons (ps_expr (pe_fn1 GR hr (pa_cons (pv 0) pa_nil))) pss_never, ?_⟩
      exact ⟨_, rfl, a, ns, rfl, hA, e1, qE⟩
    | true =>
      have e2 : Sh.isSh ms = false := by
        rcases hb with h | h
        · rw [e1] at h; cases h
        · exact h
      refine ⟨_, pss_cons (ps_expr (pe_fn G hr (pa_cons (pv 0) pa_nil))) (pss_cons (ps_expr (pe_fn1 GR hr (pa_cons (pv 1) pa_nil))) pss_never), ?_⟩
      refine ⟨_, rfl, a, ns, rfl, hA, e1, ?_⟩
      exact ⟨_, rfl, b, ms, rfl, hB, e2, qE⟩
  · refine ⟨_, pss_cons (ps_expr (pe_fn G hr (pa_cons (pv 0) pa_nil))) (pss_cons (ps_expr (pe_fn G hr (pa_cons (pv 1) pa_nil))) (pss_one (ps_if (pt_cmpR op_ne (pe_callB call_len_seq rfl ml PySem.boot_len (pa_cons (pv 0) pa_nil)) (pe_callB call_len_seq rfl ml PySem.boot_len (pa_cons (pv 1) pa_nil)) (nomark _)) (pss_one (ps_raise hq rfl mU (pa_cons pe_str pa_nil))) pss_nil))), ?_⟩
    refine ⟨_, rfl, a, ns, rfl, hA, h1, ?_⟩
    refine ⟨_, rfl, b, ms, rfl, hB, h2, ?_⟩
    refine ⟨_, rfl, a, _, rfl, .inl hA, _, rfl, b, _, rfl, .inl hB, rfl, _, rfl, ?_⟩
    rw [List.length_map, List.length_map]
    rw [decide_eq_false (fun z => hl (by injection z with z; omega))]
    exact iteT ⟨(by show 1 ≤ sizeLine; decide), qE H (Same.refl H)⟩
theorem qokr_meet : FnScope ["one", "other"] ["one", "other"] (defScope sMeet) := ⟨rfl, rfl, rfl, by decide +kernel, rfl, by decide +kernel, by decide +kernel⟩
theorem okr_meet {CN CU : Addr} (G : Fn1 P w K mg base "ask_alike" ["one", "other"] 4 (spTwoR K CN CU)) {f : Addr} {fd : FuncData} (F : Fun K "meeting" "meeting" sMeet f fd) : FnOk P w K mg base (CX1 P w) 5 f fd ["one", "other"] (spTwoR K CN CU) := by
  refine F.ok1 qokr_meet (fun vs H Q E h => ?_) (fun cdv A outer s H vs Q E hr h => ?_)
  · obtain ⟨a, b, ns, ms, C, rfl, _⟩ := h
    rfl
  obtain ⟨a, b, ns, ms, C, rfl, hA, hB, hbad, qE⟩ := h
  refine ⟨_, pss_cons (ps_expr (pe_fn1 G (hr.mono (by decide)) (pa_cons (pv 0) (pa_cons (pv 1) pa_nil)))) pss_never, ?_⟩
  exact ⟨_, rfl, _, rfl, a, b, ns, ms, C, rfl, hA, hB, hbad, qE⟩
theorem qokr_join : FnScope ["one", "other"] ["one", "other"] (defScope sJoin) := ⟨rfl, rfl, rfl, by decide +kernel, rfl, by decide +kernel, by decide +kernel⟩
theorem okr_join {CN CU : Addr} (G : Fn1 P w K mg base "ask_alike" ["one", "other"] 4 (spTwoR K CN CU)) {f : Addr} {fd : FuncData} (F : Fun K "joining" "joining" sJoin f fd) : FnOk P w K mg base (CX1 P w) 6 f fd ["one", "other"] (spTwoR K CN CU) := by
  refine F.ok1 qokr_join (fun vs H Q E h => ?_) (fun cdv A outer s H vs Q E hr h => ?_)
  · obtain ⟨a, b, ns, ms, C, rfl, _⟩ := h
    rfl
  obtain ⟨a, b, ns, ms, C, rfl, hA, hB, hbad, qE⟩ := h
  refine ⟨_, pss_cons (ps_expr (pe_fn1 G (hr.mono (by decide)) (pa_cons (pv 0) (pa_cons (pv 1) pa_nil)))) pss_never, ?_⟩
  exact ⟨_, rfl, _, rfl, a, b, ns, ms, C, rfl, hA, hB, hbad, qE⟩
theorem qokr_finer : FnScope ["one", "other"] ["one", "other"] (defScope sFiner) := ⟨rfl, rfl, rfl, by decide +kernel, rfl, by decide +kernel, by decide +kernel⟩
theorem okr_finer {CN CU : Addr} (G : Fn1 P w K mg base "meeting" ["one", "other"] 5 (spTwoR K CN CU)) {f : Addr} {fd : FuncData} (F : Fun K "is_finer" "is_finer" sFiner f fd) : FnOk P w K mg base (CX1 P w) 6 f fd ["one", "other"] (spTwoR K CN CU) := by
  refine F.ok1 qokr_finer (fun vs H Q E h => ?_) (fun cdv A outer s H vs Q E hr h => ?_)
  · obtain ⟨a, b, ns, ms, C, rfl, _⟩ := h
    rfl
  obtain ⟨a, b, ns, ms, C, rfl, hA, hB, hbad, qE⟩ := h
  refine ⟨_, pss_one (ps_ret (pe_cmpR op_eq (pe_fn1 G hr (pa_cons (pv 0) (pa_cons (pv 1) pa_nil))) pe_never (nomark _))), ?_⟩
  exact ⟨_, rfl, _, rfl, a, b, ns, ms, C, rfl, hA, hB, hbad, qE⟩
theorem qokr_askfin : FnScope ["one", "other"] ["one", "other"] (defScope sAskFin) := ⟨rfl, rfl, rfl, by decide +kernel, rfl, by decide +kernel, by decide +kernel⟩
theorem okr_askfin {CN CU CF : Addr} (hq : PySem.W.excIn K CF bmVE "ValueError.__new__" = true) (mF : mg "NotFiner" = some (.ref CF)) (G : Fn P w K mg base "is_finer" ["one", "other"] 6 (spFiner K)) (GR : Fn1 P w K mg base "is_finer" ["one", "other"] 6 (spTwoR K CN CU)) {f : Addr} {fd : FuncData} (F : Fun K "ask_finer" "ask_finer" sAskFin f fd) : FnOk P w K mg base (CX1 P w) 7 f fd ["one", "other"] (spThreeR K CN CU CF) := by
  refine F.ok1 qokr_askfin (fun vs H Q E h => ?_) (fun cdv A outer s H vs Q E hr h => ?_)
  · obtain ⟨a, b, ns, ms, C, rfl, _⟩ := h
    rfl
  obtain ⟨a, b, ns, ms, C, rfl, hA, hB, hbad, qE⟩ := h
  rcases hbad with hbad | ⟨rfl, h1, h2, hl, hne⟩
  · refine ⟨_, pss_one (ps_if (pt_not (pt_val (pe_fn1 GR hr (pa_cons (pv 0) (pa_cons (pv 1) pa_nil))))) pss_never pss_never), ?_⟩
    exact ⟨_, rfl, _, rfl, a, b, ns, ms, C, rfl, hA, hB, hbad, qE⟩
  · refine ⟨_, pss_one (ps_if (pt_not (pt_val (pe_fn G hr (pa_cons (pv 0) (pa_cons (pv 1) pa_nil))))) (pss_one (ps_raise hq rfl mF (pa_cons pe_str pa_nil))) pss_nil), ?_⟩
    refine ⟨_, rfl, _, rfl, a, b, ns, ms, rfl, hA, hB, h1, h2, hl, fun H1 s1 => ⟨_, rfl, ?_⟩⟩
    rw [decide_eq_false hne]
    exact iteT ⟨(by show 1 ≤ sizeLine; decide), qE H1 s1⟩
theorem qokr_rise : FnScope ["one", "other"] ["one", "other"] (defScope sRise) := ⟨rfl, rfl, rfl, by decide +kernel, rfl, by decide +kernel, by decide +kernel⟩
theorem okr_rise {CN CU CF : Addr} (G : Fn1 P w K mg base "ask_finer" ["one", "other"] 7 (spThreeR K CN CU CF)) {f : Addr} {fd : FuncData} (F : Fun K "rise" "rise" sRise f fd) : FnOk P w K mg base (CX1 P w) 8 f fd ["one", "other"] (spThreeR K CN CU CF) := by
  refine F.ok1 qokr_rise (fun vs H Q E h => ?_) (fun cdv A outer s H vs Q E hr h => ?_)
  · obtain ⟨a, b, ns, ms, C, rfl, _⟩ := h
    rfl
  obtain ⟨a, b, ns, ms, C, rfl, hA, hB, hbad, qE⟩ := h
  refine ⟨_, pss_cons (ps_expr (pe_fn1 G hr (pa_cons (pv 0) (pa_cons (pv 1) pa_nil)))) pss_never, ?_⟩
  exact ⟨_, rfl, _, rfl, a, b, ns, ms, C, rfl, hA, hB, hbad, qE⟩
theorem qokr_mr : FnScope ["one", "other", "rises", "steps_taken", "joined", "step"] ["one", "other"] (defScope sMR) := ⟨rfl, rfl, rfl, by decide +kernel, rfl, by decide +kernel, by decide +kernel⟩
theorem okr_mr {CN CU CF : Addr} (G : Fn1 P w K mg base "ask_finer" ["one", "other"] 7 (spThreeR K CN CU CF)) {f : Addr} {fd : FuncData} (F : Fun K "many_rises" "many_rises" sMR f fd) : FnOk P w K mg base (CX1 P w) 8 f fd ["one", "other"] (spThreeR K CN CU CF) := by
  refine F.ok1 qokr_mr (fun vs H Q E h => ?_) (fun cdv A outer s H vs Q E hr h => ?_)
  · obtain ⟨a, b, ns, ms, C, rfl, _⟩ := h
    rfl
  obtain ⟨a, b, ns, ms, C, rfl, hA, hB, hbad, qE⟩ := h
  refine ⟨_, pss_cons (ps_expr (pe_fn1 G hr (pa_cons (pv 0) (pa_cons (pv 1) pa_nil)))) pss_never, ?_⟩
  exact ⟨_, rfl, _, rfl, a, b, ns, ms, C, rfl, hA, hB, hbad, qE⟩
theorem qokr_signed : FnScope ["one", "other", "count", "joined", "number"] ["one", "other"] (defScope sSigned) := ⟨rfl, rfl, rfl, by decide +kernel, rfl, by decide +kernel, by decide +kernel⟩
theorem okr_signed {CN CU CF : Addr} (G : Fn1 P w K mg base "ask_finer" ["one", "other"] 7 (spThreeR K CN CU CF)) {f : Addr} {fd : FuncData} (F : Fun K "signed" "signed" sSigned f fd) : FnOk P w K mg base (CX1 P w) 8 f fd ["one", "other"] (spThreeR K CN CU CF) := by
  refine F.ok1 qokr_signed (fun vs H Q E h => ?_) (fun cdv A outer s H vs Q E hr h => ?_)
  · obtain ⟨a, b, ns, ms, C, rfl, _⟩ := h
    rfl
  obtain ⟨a, b, ns, ms, C, rfl, hA, hB, hbad, qE⟩ := h
  refine ⟨_, pss_cons (ps_expr (pe_fn1 G hr (pa_cons (pv 0) (pa_cons (pv 1) pa_nil)))) pss_never, ?_⟩
  exact ⟨_, rfl, _, rfl, a, b, ns, ms, C, rfl, hA, hB, hbad, qE⟩
end
def spStep (K : PySem.W.Frag) : Sp := fun vs H Q _ => ∃ (a : Addr) (ns : List Int) (p q : Int), vs = [.ref a, .int p, .int q] ∧ SqL K H a (ns.map V.int) ∧ ns.length ≤ 1000 ∧
  ∀ (D : Addr) (H' : Hp), Same H H' → H D = none → H' D = some (.lst ((Sh.stp ns p q).map V.int)) → Q (.ref D) H'
section
variable {P : Program} {w : World} {K : PySem.W.Frag} {mg : Str → Option Value} {base : Heap}
theorem nd_mgk : (["mark", "gone", "kept"] : List Str).Nodup := by decide +kernel
theorem scStep : FnScope ["marks", "kept", "gone"] ["marks", "kept", "gone"] (defScope sStep) := ⟨rfl, rfl, rfl, by decide +kernel, rfl, by decide +kernel, by decide +kernel⟩
theorem ok_step {f : Addr} {fd : FuncData} (F : Fun K "stepped" "stepped" sStep f fd) (G : Fn P w K mg base "marked" ["labels"] 1 (spMarked (labInt K))) : FnOk P w K mg base CX0 2 f fd ["marks", "kept", "gone"] (spStep K) := by
  refine F.ok scStep (fun vs H Q E h => ?_) (fun cdv A outer s H vs Q E hr h => ?_)
  · obtain ⟨a, ns, p, q, rfl, _⟩ := h
    rfl
  obtain ⟨a, ns, p, q, rfl, hS, hl, k⟩ := h
  refine ⟨_, pss_one (ps_ret (pe_fn G hr (pa_cons (pe_comp ["mark", "gone", "kept"] [none, some 2, some 1] rfl rfl (pi_list (pv 0)) (fun _ _ _ _ => pg_name (i := 0) nd_mgk rfl (Or.inl rfl)) (fun _ _ _ _ => pts_nil)
    (fun _ _ _ _ => pe_ifExp (pt_cmpR op_eq (pv 0) (pv 1) (nomark _)) (pv 2) (pv 0))) pa_nil))), ?_⟩
  refine ⟨_, rfl, a, rfl, ⟨_, hS⟩, comp_list (K := K) (a := a) (xs := ns.map V.int) (fun i zs τ H2 => ∃ v, τ = [v, some (.int q), some (.int p)] ∧ H2 = H ∧ zs = ((ns.take i).map (Sh.sub p q)).map V.int) ⟨none, rfl, rfl, rfl⟩ ?_ ?_ ?_⟩
  · rintro i zs τ H2 hi ⟨v, rfl, rfl, rfl⟩
    exact ⟨hS, small1000 (by rw [List.length_map, List.length_map, List.length_take]; omega)⟩
  · rintro i x zs τ H2 hi ⟨v, rfl, rfl, rfl⟩
    obtain ⟨z, hz, rfl⟩ := ints_get hi
    have fin : ((ns.take i).map (Sh.sub p q)).map V.int ++ [V.int (Sh.sub p q z)] = ((ns.take (i + 1)).map (Sh.sub p q)).map V.int := by
      rw [List.take_add_one, hz, List.map_append, List.map_append]
      rfl
    refine ⟨_, rfl, _, rfl, rfl, _, rfl, ?_⟩
    refine ite2 (fun c => ?_) (fun c => ?_)
    · have c' : z = q := by
        have := of_decide_eq_true c
        injection this
      have e : Sh.sub p q z = p := if_pos c'
      rw [e] at fin
      exact ⟨_, rfl, _, rfl, rfl, fin⟩
    · have c' : ¬ z = q := fun e => c (by rw [e]; simp)
      have e : Sh.sub p q z = z := if_neg c'
      rw [e] at fin
      exact ⟨_, rfl, _, rfl, rfl, fin⟩
  · rintro zs τ H2 ⟨v, rfl, rfl, rfl⟩ D hD
    rw [List.length_map, List.take_length]
    have s1 := same_upd hD (.lst ((ns.map (Sh.sub p q)).map V.int))
    refine ⟨D, _, ns.map (Sh.sub p q), rfl, SqL.of upd_same, labs_int _, by rw [List.length_map]; exact hl, fun D' H3 s3 f3 d3 => ?_⟩
    exact k D' H3 (s1.trans s3) (s1.free f3) d3
end
def PLs (H : Hp) (as : List Addr) (ps : List (Nat × Nat)) : Prop := as.length = ps.length ∧ ∀ (k : Nat) (t : Addr) (p : Nat × Nat), as[k]? = some t → ps[k]? = some p → H t = some (.tup [.int (p.1 : Int), .int (p.2 : Int)])
theorem PLs.mono {H H' : Hp} {as : List Addr} {ps : List (Nat × Nat)} (h : PLs H as ps) (s : Same H H') : PLs H' as ps := ⟨h.1, fun k t p e1 e2 => s _ _ (h.2 k t p e1 e2)⟩
theorem PLs.at {H : Hp} {as : List Addr} {ps : List (Nat × Nat)} (h : PLs H as ps) {i : Nat} {x : V} (e : (as.map V.ref)[i]? = some x) : ∃ t p, x = .ref t ∧ as[i]? = some t ∧ ps[i]? = some p ∧ H t = some (.tup [.int (p.1 : Int), .int (p.2 : Int)]) := by
  rw [List.getElem?_map] at e
  cases eT : as[i]? with
  | none => rw [eT] at e; cases e
  | some t =>
    rw [eT] at e
    cases e
    have hi : i < ps.length := by rw [← h.1]; exact (List.getElem?_eq_some_iff.mp eT).1
    exact ⟨t, ps[i], rfl, rfl, List.getElem?_eq_getElem hi, h.2 i t _ eT (List.getElem?_eq_getElem hi)⟩
def PB (n : Nat) (ps : List (Nat × Nat)) : Prop := ∀ p ∈ ps, p.1 < n ∧ p.2 < n
def kI (t : Nat) : Key := Sum.inl (t : Int)
theorem kI_inj {a b : Nat} (h : kI a = kI b) : a = b := by
  have := Sum.inl.inj h
  omega
def spAskT (K : PySem.W.Frag) : Sp := fun vs H Q _ => ∃ n t : Int, vs = [.int n, .int t] ∧ 0 ≤ t ∧ t < n ∧ Q .non H
def spAskP (K : PySem.W.Frag) : Sp := fun vs H Q _ => ∃ (n : Nat) (a : Addr) (as : List Addr) (ps : List (Nat × Nat)), vs = [.int (n : Int), .ref a] ∧ H a = some (.lst (as.map V.ref)) ∧ PLs H as ps ∧ PB n ps ∧ Q .non H
def spShOf (K : PySem.W.Frag) : Sp := fun vs H Q _ => ∃ (n : Nat) (a : Addr) (as : List Addr) (ps : List (Nat × Nat)), vs = [.int (n : Int), .ref a] ∧ 1 ≤ n ∧ n ≤ 12 ∧ H a = some (.lst (as.map V.ref)) ∧ PLs H as ps ∧ PB n ps ∧
  ∀ (D : Addr) (r : List Int) (H' : Hp), Same H H' → H D = none → Sh.ShP n ps r → H' D = some (.lst (r.map V.int)) → Q (.ref D) H'
def ivs (w : List Nat) : List V := w.map fun (k : Nat) => V.int (k : Int)
theorem ivs_snoc (w : List Nat) (k : Nat) : ivs (w ++ [k]) = ivs w ++ [.int (k : Int)] := by
  unfold ivs
  rw [List.map_append]
  rfl
structure Wy (H0 H' : Hp) (n : Nat) (ps : List (Nat × Nat)) (f : Nat) (kvs : List (Key × V)) (ks : List Nat) : Prop where
  len : kvs.length = ks.length
  nd : ks.Nodup
  lt : ∀ t ∈ ks, t < n
  has : f ∈ ks
  way : ∀ t ∈ ks, ∃ (l : Addr) (w : List Nat), valV kvs (kI t) = some (.ref l) ∧ H0 l = none ∧ H' l = some (.lst (ivs w)) ∧ w.length < ks.length ∧ Sh.walk ps f w = some t
  out : ∀ t : Nat, ¬ t ∈ ks → valV kvs (kI t) = none
def spWaysF (K : PySem.W.Frag) : Sp := fun vs H Q _ => ∃ (n : Nat) (a : Addr) (as : List Addr) (ps : List (Nat × Nat)) (f : Nat), vs = [.int (n : Int), .ref a, .int (f : Int)] ∧ 1 ≤ n ∧ n ≤ 12 ∧ f < n ∧ H a = some (.lst (as.map V.ref)) ∧ PLs H as ps ∧ PB n ps ∧
  ∀ (D : Addr) (kvs : List (Key × V)) (ks : List Nat) (H' : Hp), Same H H' → H' D = some (.dK kvs) → Wy H H' n ps f kvs ks → (∀ p ∈ ps, Sh.Bal ks p) → Q (.ref D) H'
def spGoOn (K : PySem.W.Frag) : Sp := fun vs H Q _ => ∃ (d : Addr) (kvs : List (Key × V)) (k c t : Nat), vs = [.ref d, .int (k : Int), .int (c : Int), .int (t : Int)] ∧ H d = some (.dK kvs) ∧ kvs.length ≤ 900 ∧
  (∀ v, valV kvs (kI c) = some v → ∃ l xs, v = .ref l ∧ H l = some (.lst xs) ∧ xs.length ≤ 900) ∧ ((valV kvs (kI c) = none ∨ (valV kvs (kI t)).isSome = true) → Q .non H) ∧
  ∀ (l : Addr) (xs : List V) (p : Addr) (H' : Hp), valV kvs (kI c) = some (.ref l) → H l = some (.lst xs) → valV kvs (kI t) = none → (∀ b o, b ≠ d → H b = some o → H' b = some o) → H p = none → H' p = some (.lst (xs ++ [.int (k : Int)])) → H' d = some (.dK (kvs ++ [(kI t, .ref p)])) → Q .non H'
theorem go_use {K : PySem.W.Frag} {H0 H : Hp} {n : Nat} {ps : List (Nat × Nat)} {f : Nat} {kvs : List (Key × V)} {ks : List Nat} {d : Addr} {k : Nat} {p : Nat × Nat} {c t : Nat} {Q : VK} {E : XK} (W : Wy H0 H n ps f kvs ks) (hn : n ≤ 12) (hd : H d = some (.dK kvs)) (s0 : Same H0 H) (hd0 : H0 d = none) (hk : ps[k]? = some p)
    (hct : (c = p.1 ∧ t = p.2) ∨ (c = p.2 ∧ t = p.1)) (ht : t < n) (post1 : (c ∈ ks → t ∈ ks) → Q .non H)
    (post2 : ∀ (H' : Hp) (kvs' : List (Key × V)), c ∈ ks → ¬ t ∈ ks → Same H0 H' → (∀ b o, b ≠ d → H b = some o → H' b = some o) → H' d = some (.dK kvs') → Wy H0 H' n ps f kvs' (ks ++ [t]) → Q .non H') : spGoOn K [.ref d, .int (k : Int), .int (c : Int), .int (t : Int)] H Q E := by
  have hl := Sh.nodup_small n ks W.nd W.lt
  refine ⟨d, kvs, k, c, t, rfl, hd, by rw [W.len]; omega, fun v hv => ?_, fun h => post1 fun hc => ?_, fun l xs q H' h1 h2 h3 hs hq hqv hdv => ?_⟩
  · by_cases hc : c ∈ ks
    · obtain ⟨l, w, e1, _, e3, e4, _⟩ := W.way c hc
      rw [e1] at hv
      cases hv
      exact ⟨l, _, rfl, e3, by unfold ivs; rw [List.length_map]; omega⟩
    · rw [W.out c hc] at hv
      cases hv
  · rcases h with h | h
    · obtain ⟨l, w, e1, _⟩ := W.way c hc
      rw [h] at e1
      cases e1
    · apply Classical.byContradiction
      intro ht'
      rw [W.out t ht'] at h
      exact absurd h (by decide)
  · have hc : c ∈ ks := Classical.byContradiction fun hc => by rw [W.out c hc] at h1; cases h1
    have htn : ¬ t ∈ ks := fun z => by
      obtain ⟨l, w, e1, _⟩ := W.way t z
      rw [h3] at e1
      cases e1
    obtain ⟨l', w, e1, e2, e3, e4, e5⟩ := W.way c hc
    rw [h1] at e1
    cases e1
    rw [h2] at e3
    have exs : xs = ivs w := by
      have := Option.some.inj e3
      injection this
    have sm : Same H0 H' := fun b o hb => hs b o (fun e => by subst e; rw [hd0] at hb; cases hb) (s0 b o hb)
    refine post2 H' _ hc htn sm hs hdv ⟨by rw [List.length_append, List.length_append, W.len]; rfl, ?_, fun x hx => ?_, List.mem_append_left _ W.has, fun x hx => ?_, fun x hx => ?_⟩
    · rw [List.nodup_append]
      exact ⟨W.nd, by simp, fun a ha b hb e => htn (by rw [List.mem_singleton] at hb; rw [← hb, ← e]; exact ha)⟩
    · rcases List.mem_append.mp hx with hx | hx
      · exact W.lt x hx
      · rw [List.mem_singleton] at hx
        omega
    · rw [valV_snoc _ _ _ _ h3]
      by_cases e : x = t
      · subst e
        rw [if_pos rfl]
        refine ⟨q, w ++ [k], rfl, s0.free hq, by rw [hqv, ivs_snoc, exs], by rw [List.length_append, List.length_append]; show w.length + 1 < ks.length + 1; omega, ?_⟩
        rcases hct with ⟨h1, h2⟩ | ⟨h1, h2⟩
        · rw [h2]
          exact Sh.walk_there hk (by rw [← h1]; exact e5)
        · rw [h2]
          refine Sh.walk_back hk (by rw [← h1]; exact e5) fun z => htn ?_
          rw [h2, z, ← h1]
          exact hc
      · rw [if_neg (fun z => e (kI_inj z))]
        have hx' : x ∈ ks := by
          rcases List.mem_append.mp hx with hx | hx
          · exact hx
          · exact absurd (List.mem_singleton.mp hx) e
        obtain ⟨l2, w2, f1, f2, f3, f4, f5⟩ := W.way x hx'
        refine ⟨l2, w2, f1, f2, hs l2 _ (ne_of f3 hd (fun z => nomatch z)) f3, by rw [List.length_append]; omega, f5⟩
    · rw [valV_snoc _ _ _ _ h3, if_neg (fun z => hx (by rw [kI_inj z]; simp))]
      exact W.out x fun z => hx (List.mem_append_left _ z)
section
variable {P : Program} {w : World} {K : PySem.W.Frag} {mg : Str → Option Value} {base : Heap}
theorem scAskT : FnScope ["things", "thing"] ["things", "thing"] (defScope sAskT) := ⟨rfl, rfl, rfl, by decide +kernel, rfl, by decide +kernel, by decide +kernel⟩
theorem ok_askt {f : Addr} {fd : FuncData} (F : Fun K "ask_thing" "ask_thing" sAskT f fd) : FnOk P w K mg base CX0 1 f fd ["things", "thing"] (spAskT K) := by
  refine F.ok scAskT (fun vs H Q E h => ?_) (fun cdv A outer s H vs Q E hr h => ?_)
  · obtain ⟨n, t, rfl, _⟩ := h
    rfl
  obtain ⟨n, t, rfl, h1, h2, q⟩ := h
  refine ⟨_, pss_one (ps_if (PW.pt (pw_or (pt_cmpR op_lt (pv 1) pe_int (nomark _)) (pw_or1 (pt_cmpR op_ge (pv 1) (pv 0) (nomark _))))) pss_never pss_nil), ?_⟩
  refine ⟨_, rfl, _, _, rfl, rfl, _, rfl, ?_⟩
  refine ite2 (fun c => ?_) (fun c => ?_)
  · have c' : t < 0 := of_decide_eq_true c
    omega
  refine ⟨_, rfl, _, rfl, _, _, rfl, rfl, _, rfl, ?_⟩
  refine ite2 (fun c => ?_) (fun c => ?_)
  · have c' : t ≥ n := of_decide_eq_true c
    omega
  exact q
theorem scAskP : FnScope ["things", "pairs", "pair"] ["things", "pairs"] (defScope sAskP) := ⟨rfl, rfl, rfl, by decide +kernel, rfl, by decide +kernel, by decide +kernel⟩
theorem ok_askp {f : Addr} {fd : FuncData} (F : Fun K "ask_pairs" "ask_pairs" sAskP f fd) (G : Fn P w K mg base "ask_thing" ["things", "thing"] 1 (spAskT K)) : FnOk P w K mg base CX0 2 f fd ["things", "pairs"] (spAskP K) := by
  refine F.ok scAskP (fun vs H Q E h => ?_) (fun cdv A outer s H vs Q E hr h => ?_)
  · obtain ⟨n, a, as, ps, rfl, _⟩ := h
    rfl
  obtain ⟨n, a, as, ps, rfl, hA, hP, hB, q⟩ := h
  refine ⟨_, pss_one (ps_for PassesOwn.never rfl (pi_list (pv 1)) (pg_name (i := 2) scAskP.nd rfl (Or.inl rfl))
    (pss_cons (ps_expr (pe_fn G hr (pa_cons (pv 0) (pa_cons (pe_ix ix_tup (pv 2) pe_int (fun _ _ => rfl)) pa_nil)))) (pss_one (ps_expr (pe_fn G hr (pa_cons (pv 0) (pa_cons (pe_ix ix_tup (pv 2) pe_int (fun _ _ => rfl)) pa_nil))))))), ?_⟩
  refine ⟨_, rfl, a, rfl, ⟨_, SqL.of hA⟩, for_list (K := K) (a := a) (xs := as.map V.ref) (fun i σ H2 => ∃ v, σ = [some (.int (n : Int)), some (.ref a), v] ∧ H2 = H) ⟨none, rfl, rfl⟩ (fun i σ H2 _ ⟨_, _, e⟩ => by rw [e]; exact SqL.of hA) ?_ ?_⟩
  · rintro i x σ H2 hi ⟨v, rfl, rfl⟩
    obtain ⟨t, p, rfl, e1, e2, e3⟩ := hP.at hi
    obtain ⟨b1, b2⟩ := hB p (List.mem_of_getElem? e2)
    refine ⟨_, rfl, _, rfl, t, _, _, _, rfl, rfl, SqT.of e3, atI_nat (j := 0) rfl, _, _, rfl, by omega, by omega, ?_⟩
    refine ⟨_, rfl, _, rfl, t, _, _, _, rfl, rfl, SqT.of e3, atI_nat (j := 1) rfl, _, _, rfl, by omega, by omega, ?_⟩
    exact ⟨_, rfl, rfl⟩
  · rintro σ H2 ⟨v, rfl, rfl⟩
    exact q
theorem scShOf : FnScope ["things", "pairs", "marks", "pair"] ["things", "pairs"] (defScope sShOf) := ⟨rfl, rfl, rfl, by decide +kernel, rfl, by decide +kernel, by decide +kernel⟩
theorem ok_shof {f : Addr} {fd : FuncData} (F : Fun K "sharing_of" "sharing_of" sShOf f fd) (GA : Fn P w K mg base "ask_things" ["things"] 2 (spAskTh K)) (GP : Fn P w K mg base "ask_pairs" ["things", "pairs"] 2 (spAskP K)) (GS : Fn P w K mg base "stepped" ["marks", "kept", "gone"] 2 (spStep K)) (mlst : mg "list" = none) (mr : mg "range" = none) : FnOk P w K mg base CX0 3 f fd ["things", "pairs"] (spShOf K) := by
  refine F.ok scShOf (fun vs H Q E h => ?_) (fun cdv A outer s H vs Q E hr h => ?_)
  · obtain ⟨n, a, as, ps, rfl, _⟩ := h
    rfl
  obtain ⟨n, a, as, ps, rfl, n1, n2, hA, hP, hB, q⟩ := h
  refine ⟨_, pss_cons (ps_expr (pe_fn GA hr (pa_cons (pv 0) pa_nil)))
    (pss_cons (ps_expr (pe_fn GP hr (pa_cons (pv 0) (pa_cons (pv 1) pa_nil))))
    (pss_cons (ps_set (i := 2) scShOf.nd rfl (Or.inl rfl) (pe_listrange rfl rfl mlst rfl mr (pa_cons (pv 0) pa_nil)))
    (pss_cons (ps_for PassesOwn.never rfl (pi_list (pv 1)) (pg_name (i := 3) scShOf.nd rfl (Or.inl rfl))
      (pss_one (ps_set (i := 2) scShOf.nd rfl (Or.inl rfl) (pe_fn GS hr (pa_cons (pv 2) (pa_cons (pe_ix ix_list (pv 2) (pe_ix ix_tup (pv 3) pe_int (fun _ _ => rfl)) (fun _ _ => rfl)) (pa_cons (pe_ix ix_list (pv 2) (pe_ix ix_tup (pv 3) pe_int (fun _ _ => rfl)) (fun _ _ => rfl)) pa_nil)))))))
    (pss_one (ps_ret (pv 2)))))), ?_⟩
  refine ⟨_, rfl, _, rfl, by omega, by omega, ?_⟩
  refine ⟨_, rfl, _, rfl, n, a, as, ps, rfl, hA, hP, hB, ?_⟩
  refine ⟨_, rfl, n, rfl, by omega, fun D0 hD0 => ?_⟩
  have s0 := same_upd hD0 (.lst ((Sh.upto n).map V.int))
  refine ⟨_, rfl, a, rfl, ⟨_, SqL.of (s0 _ _ hA)⟩, for_list (K := K) (a := a) (xs := as.map V.ref) (fun i σ H2 => ∃ (D : Addr) (r : List Int) (v : Option V), σ = [some (.int (n : Int)), some (.ref a), some (.ref D), v] ∧ Same H H2 ∧ H D = none ∧ H2 D = some (.lst (r.map V.int)) ∧ Sh.ShP n (ps.take i) r)
    ⟨D0, _, none, rfl, s0, hD0, upd_same, Sh.ShP.start n⟩ (fun i σ H2 _ ⟨_, _, _, _, s2, _⟩ => SqL.of (s2 _ _ hA)) ?_ ?_⟩
  · rintro i x σ H2 hi ⟨D, r, v, rfl, s2, fD, dD, hr2⟩
    obtain ⟨t, p, rfl, e1, e2, e3⟩ := hP.at hi
    obtain ⟨b1, b2⟩ := hB p (List.mem_of_getElem? e2)
    have e3' := s2 _ _ e3
    have l1 : p.1 < r.length := by rw [hr2.len]; exact b1
    have l2 : p.2 < r.length := by rw [hr2.len]; exact b2
    have g1 := List.getElem?_eq_getElem l1
    have g2 := List.getElem?_eq_getElem l2
    refine ⟨_, rfl, _, rfl, _, rfl, t, _, _, _, rfl, rfl, SqT.of e3', atI_nat (j := 0) rfl, D, _, _, _, rfl, rfl, SqL.of dD, int_at (m := p.1) rfl g1, ?_⟩
    refine ⟨_, rfl, _, rfl, t, _, _, _, rfl, rfl, SqT.of e3', atI_nat (j := 1) rfl, D, _, _, _, rfl, rfl, SqL.of dD, int_at (m := p.2) rfl g2, ?_⟩
    refine ⟨D, r, _, _, rfl, SqL.of dD, by rw [hr2.len]; omega, fun D' H3 s3 f3 d3 => ?_⟩
    refine ⟨D', _, _, rfl, s2.trans s3, s2.free f3, d3, ?_⟩
    rw [List.take_add_one, e2]
    exact hr2.step (fun q hq => hB q (List.mem_of_mem_take hq)) b1 b2 g1 g2
  · rintro σ H2 ⟨D, r, v, rfl, s2, fD, dD, hr2⟩
    rw [List.length_map, hP.1, List.take_length] at hr2
    exact ⟨_, rfl, q D r H2 s2 fD hr2 dD⟩
theorem scGoOn : FnScope ["ways", "number", "come_to", "led_to"] ["ways", "number", "come_to", "led_to"] (defScope sGoOn) := ⟨rfl, rfl, rfl, by decide +kernel, rfl, by decide +kernel, by decide +kernel⟩
theorem ok_goon {f : Addr} {fd : FuncData} (F : Fun K "go_on" "go_on" sGoOn f fd) : FnOk P w K mg base CX0 1 f fd ["ways", "number", "come_to", "led_to"] (spGoOn K) := by
  refine F.ok scGoOn (fun vs H Q E h => ?_) (fun cdv A outer s H vs Q E hr h => ?_)
  · obtain ⟨d, kvs, k, c, t, rfl, _⟩ := h
    rfl
  obtain ⟨d, kvs, k, c, t, rfl, hd, hl, hv, q1, q2⟩ := h
  have hu := hu_of hr
  refine ⟨_, pss_one (ps_if (PW.pt (pw_and (pt_cmp (pc_din hu (pv 2) (pv 0))) (pw_and1 (pt_cmp (pc_dnotin hu (pv 3) (pv 0)))))) (pss_one (ps_dput hu (pv 0) (pv 3) (pe_op op_cat (pe_dget hu (pv 0) (pv 2) (fun _ _ => rfl)) (pe_lst (pa_cons (pv 1) pa_nil))) rfl)) pss_nil), ?_⟩
  have gc := DGet.k (k := kI c) hd
  have gt := DGet.k (k := kI t) hd
  refine ⟨_, rfl, _, rfl, d, _, rfl, gc, _, rfl, ?_⟩
  cases ec : valV kvs (kI c) with
  | none => exact iteF (q1 (.inl ec))
  | some v =>
    refine iteT ?_
    refine ⟨_, rfl, _, rfl, d, _, rfl, gt, _, rfl, ?_⟩
    cases et : valV kvs (kI t) with
    | some v' => exact iteF (q1 (.inr (by rw [et]; rfl)))
    | none =>
      refine iteT ?_
      obtain ⟨l, xs, rfl, hlx, hxl⟩ := hv v ec
      rw [ec] at gc
      refine ⟨_, rfl, _, rfl, d, _, rfl, gc, _, rfl, (by show 1 ≤ sizeLine; decide), fun y hy => ?_⟩
      have s1 := same_upd hy (.lst [.int (k : Int)])
      refine ⟨l, y, _, _, rfl, rfl, s1 _ _ hlx, upd_same, small (by show xs.length + 1 ≤ 1000; omega), fun p hp => ?_⟩
      have s2 := same_upd hp (.lst (xs ++ [.int (k : Int)]))
      have s12 := s1.trans s2
      have hpd : p ≠ d := (ne_of_none (s1 _ _ hd) hp).symm
      refine ⟨_, rfl, _, rfl, d, _, rfl, DPut.k (k := kI t) (s12 _ _ hd) (small1000 (by omega)), ?_⟩
      rw [putK_new _ et]
      exact q2 l xs p _ ec hlx et (fun b o hb ho => by rw [upd_ne hb]; exact s12 b o ho) (s1.free hp) (by rw [upd_ne hpd, upd_same]) upd_same
theorem scWaysF : FnScope ["things", "pairs", "first", "ways", "walk", "number", "pair"] ["things", "pairs", "first"] (defScope sWaysF) := ⟨rfl, rfl, rfl, by decide +kernel, rfl, by decide +kernel, by decide +kernel⟩
theorem ok_waysf {f : Addr} {fd : FuncData} (F : Fun K "ways_from" "ways_from" sWaysF f fd) (G : Fn P w K mg base "go_on" ["ways", "number", "come_to", "led_to"] 1 (spGoOn K)) (mr : mg "range" = none) (me : mg "enumerate" = none) : FnOk P w K mg base CX0 2 f fd ["things", "pairs", "first"] (spWaysF K) := by
  refine F.ok scWaysF (fun vs H Q E h => ?_) (fun cdv A outer s H vs Q E hr h => ?_)
  · obtain ⟨n, a, as, ps, f, rfl, _⟩ := h
    rfl
  obtain ⟨n, a, as, ps, f0, rfl, n1, n2, hf, hA, hP, hB, q⟩ := h
  refine ⟨_, pss_cons (ps_set (i := 3) scWaysF.nd rfl (Or.inl rfl) (pe_disp (pps_cons (pv 2) (pe_lst pa_nil) pps_nil) rfl rfl (fun z => nomatch z) (by decide)))
    (pss_cons (ps_for PassesOwn.never rfl (pi_range1 rfl mr (pa_cons (pe_op op_sub (pv 0) pe_int) pa_nil)) (pg_name (i := 4) scWaysF.nd rfl (Or.inl rfl))
      (pss_one (ps_for PassesOwn.never rfl (pi_enum rfl me (pa_cons (pv 1) pa_nil)) (pg_tup rfl (pgs_cons (pg_name (i := 5) scWaysF.nd rfl (Or.inl rfl)) (pgs_cons (pg_name (i := 6) scWaysF.nd rfl (Or.inl rfl)) pgs_nil)))
        (pss_cons (ps_expr (pe_fn G hr (pa_cons (pv 3) (pa_cons (pv 5) (pa_cons (pe_ix ix_tup (pv 6) pe_int (fun _ _ => rfl)) (pa_cons (pe_ix ix_tup (pv 6) pe_int (fun _ _ => rfl)) pa_nil))))))
        (pss_one (ps_expr (pe_fn G hr (pa_cons (pv 3) (pa_cons (pv 5) (pa_cons (pe_ix ix_tup (pv 6) pe_int (fun _ _ => rfl)) (pa_cons (pe_ix ix_tup (pv 6) pe_int (fun _ _ => rfl)) pa_nil)))))))))))
    (pss_one (ps_ret (pv 3)))), ?_⟩
  intro d hd0
  refine ⟨_, rfl, (by show 0 ≤ sizeLine; decide), fun l hl => ?_⟩
  have ndl : d ≠ l := fun e => by subst e; rw [upd_same] at hl; cases hl
  refine ⟨(by rw [upd_ne ndl, upd_same]), [(kI f0, .ref l)], rfl, (by show 1 ≤ 15; decide), ?_⟩
  have hl0 : H l = none := by rw [upd_ne ndl.symm] at hl; exact hl
  have s0 : Same H (upd (upd (upd H d (.dK [])) l (.lst [])) d (.dK (mergeK [] [(kI f0, .ref l)]))) := ((same_upd hd0 _).upd2 hl0).upd2 hd0
  have W0 : Wy H (upd (upd (upd H d (.dK [])) l (.lst [])) d (.dK (mergeK [] [(kI f0, .ref l)]))) n ps f0 [(kI f0, .ref l)] [f0] := by
    refine ⟨rfl, by simp, fun t ht => by rw [List.mem_singleton] at ht; omega, by simp, fun t ht => ?_, fun t ht => ?_⟩
    · rw [List.mem_singleton] at ht
      subst ht
      refine ⟨l, [], valV_pos (p := (kI t, V.ref l)) rfl, hl0, by rw [upd_ne ndl.symm, upd_same]; rfl, by simp, rfl⟩
    · exact valV_neg (p := (kI f0, V.ref l)) (r := []) fun z => ht (by rw [kI_inj z]; simp)
  have h0 : (upd (upd (upd H d (.dK [])) l (.lst [])) d (.dK (mergeK [] [(kI f0, .ref l)]))) d = some (.dK [(kI f0, .ref l)]) := upd_same
  generalize upd (upd (upd H d (.dK [])) l (.lst [])) d (.dK (mergeK [] [(kI f0, .ref l)])) = H1 at s0 W0 h0
  refine ⟨_, rfl, _, _, rfl, rfl, _, rfl, by omega, by omega, ?_⟩
  rw [show ((n : Int) - 1).toNat = n - 1 by omega]
  refine for_range (lo := 0) (n := n - 1) (fun i σ H2 => ∃ (v4 v5 v6 : Option V) (kvs : List (Key × V)) (ks : List Nat), σ = [some (.int (n : Int)), some (.ref a), some (.int (f0 : Int)), some (.ref d), v4, v5, v6] ∧ Same H H2 ∧ H2 d = some (.dK kvs) ∧ Wy H H2 n ps f0 kvs ks ∧ ((∀ p ∈ ps, Sh.Bal ks p) ∨ i + 1 ≤ ks.length))
    ⟨none, none, none, _, _, rfl, s0, h0, W0, .inr (by simp)⟩ ?_ ?_
  · rintro i σ H2 hi ⟨v4, v5, v6, kvs0, ks0, rfl, s2, hd2, W2, alt⟩
    refine ⟨_, rfl, a, rfl, ⟨_, SqL.of (s2 _ _ hA)⟩, for_enum (K := K) (a := a) (xs := as.map V.ref) (fun j σ H3 => ∃ (v5 v6 : Option V) (kvs : List (Key × V)) (ks : List Nat), σ = [some (.int (n : Int)), some (.ref a), some (.int (f0 : Int)), some (.ref d), some (.int (0 + (i : Int))), v5, v6] ∧ Same H H3 ∧ H3 d = some (.dK kvs) ∧ Wy H H3 n ps f0 kvs ks ∧ ((ks = ks0 ∧ ∀ (j' : Nat) (p : Nat × Nat), j' < j → ps[j']? = some p → Sh.Bal ks0 p) ∨ ((¬ ∀ p ∈ ps, Sh.Bal ks0 p) ∧ ks0.length + 1 ≤ ks.length)))
      ⟨_, _, kvs0, ks0, rfl, s2, hd2, W2, .inl ⟨rfl, fun j' p h => absurd h (Nat.not_lt_zero _)⟩⟩ (fun j σ H3 _ ⟨_, _, _, _, _, s3, _⟩ => SqL.of (s3 _ _ hA)) ?_ ?_⟩
    · rintro j x σ H3 t hj ht ⟨v5, v6, kvs, ks, rfl, s3, hd3, W3, alt3⟩
      obtain ⟨tp, p, rfl, e1, e2, e3⟩ := hP.at hj
      obtain ⟨b1, b2⟩ := hB p (List.mem_of_getElem? e2)
      have ndt : d ≠ t := ne_of_none hd3 ht
      have st := same_upd ht (.tup [.int (j : Int), .ref tp])
      have s4 : Same H (upd H3 t (.tup [.int (j : Int), .ref tp])) := s3.trans st
      have e4 := s4 _ _ e3
      have W4 : Wy H (upd H3 t (.tup [.int (j : Int), .ref tp])) n ps f0 kvs ks := ⟨W3.len, W3.nd, W3.lt, W3.has, fun x hx => by
        obtain ⟨l2, w2, f1, f2, f3, f4, f5⟩ := W3.way x hx
        exact ⟨l2, w2, f1, f2, st _ _ f3, f4, f5⟩, W3.out⟩
      have hd4 := st _ _ hd3
      have ht4 : (upd H3 t (.tup [.int (j : Int), .ref tp])) t = some (.tup [.int (j : Int), .ref tp]) := upd_same
      generalize upd H3 t (.tup [.int (j : Int), .ref tp]) = H4 at s4 e4 W4 hd4 ht4
      refine ⟨t, _, rfl, SqT.of ht4, rfl, _, _, rfl, _, _, rfl, rfl, ?_⟩
      refine ⟨_, rfl, _, rfl, _, rfl, tp, _, _, _, rfl, rfl, SqT.of e4, atI_nat (j := 0) rfl, _, rfl, tp, _, _, _, rfl, rfl, SqT.of e4, atI_nat (j := 1) rfl, ?_⟩
      try delta tNil
      show spGoOn K [.ref d, .int (j : Int), .int (p.1 : Int), .int (p.2 : Int)] H4 _ _
      refine go_use W4 n2 hd4 s4 hd0 e2 (.inl ⟨rfl, rfl⟩) b2 (fun hb1 => ?_) (fun H5 kvs5 hc ht' s5 hs5 hd5 W5 => ?_)
      · refine ⟨_, rfl, _, rfl, _, rfl, tp, _, _, _, rfl, rfl, SqT.of e4, atI_nat (j := 1) rfl, _, rfl, tp, _, _, _, rfl, rfl, SqT.of e4, atI_nat (j := 0) rfl, ?_⟩
        try delta tNil
        show spGoOn K [.ref d, .int (j : Int), .int (p.2 : Int), .int (p.1 : Int)] H4 _ _
        refine go_use W4 n2 hd4 s4 hd0 e2 (.inr ⟨rfl, rfl⟩) b1 (fun hb2 => ?_) (fun H6 kvs6 hc6 ht6 s6 hs6 hd6 W6 => ?_)
        · refine ⟨_, _, kvs, ks, rfl, s4, hd4, W4, ?_⟩
          rcases alt3 with ⟨rfl, hb⟩ | ⟨nb, hl⟩
          · refine .inl ⟨rfl, fun j' p' h e => ?_⟩
            by_cases ej : j' = j
            · subst ej
              rw [e2] at e
              cases e
              exact ⟨hb1, hb2⟩
            · exact hb j' p' (by omega) e
          · exact .inr ⟨nb, hl⟩
        · refine ⟨_, _, kvs6, ks ++ [p.1], rfl, s6, hd6, W6, .inr ?_⟩
          rcases alt3 with ⟨rfl, hb⟩ | ⟨nb, hl⟩
          · exact ⟨fun z => ht6 ((z p (List.mem_of_getElem? e2)).mpr hc6), by rw [List.length_append]; exact Nat.le_refl _⟩
          · exact ⟨nb, by rw [List.length_append]; omega⟩
      · have alt5 : (¬ ∀ p ∈ ps, Sh.Bal ks0 p) ∧ ks0.length + 1 ≤ (ks ++ [p.2]).length := by
          rcases alt3 with ⟨rfl, hb⟩ | ⟨nb, hl⟩
          · exact ⟨fun z => ht' ((z p (List.mem_of_getElem? e2)).mp hc), by rw [List.length_append]; exact Nat.le_refl _⟩
          · exact ⟨nb, by rw [List.length_append]; omega⟩
        have e5 := s5 _ _ e3
        refine ⟨_, rfl, _, rfl, _, rfl, tp, _, _, _, rfl, rfl, SqT.of e5, atI_nat (j := 1) rfl, _, rfl, tp, _, _, _, rfl, rfl, SqT.of e5, atI_nat (j := 0) rfl, ?_⟩
        try delta tNil
        show spGoOn K [.ref d, .int (j : Int), .int (p.2 : Int), .int (p.1 : Int)] H5 _ _
        exact go_use W5 n2 hd5 s5 hd0 e2 (.inr ⟨rfl, rfl⟩) b1 (fun _ => ⟨_, _, kvs5, _, rfl, s5, hd5, W5, .inr alt5⟩) (fun H6 kvs6 hc6 ht6 s6 hs6 hd6 W6 => ⟨_, _, kvs6, _, rfl, s6, hd6, W6, .inr ⟨alt5.1, by rw [List.length_append]; have := alt5.2; omega⟩⟩)
    · rintro σ H3 ⟨v5, v6, kvs, ks, rfl, s3, hd3, W3, alt3⟩
      refine ⟨_, _, _, kvs, ks, rfl, s3, hd3, W3, ?_⟩
      rcases alt3 with ⟨rfl, hb⟩ | ⟨nb, hl⟩
      · refine .inl fun p hp => ?_
        obtain ⟨j', hj', e⟩ := Sh.mem_ix hp
        exact hb j' p (by rw [List.length_map, hP.1]; exact hj') e
      · rcases alt with h | h
        · exact absurd h nb
        · exact .inr (by omega)
  · rintro σ H2 ⟨v4, v5, v6, kvs, ks, rfl, s2, hd2, W2, alt⟩
    refine ⟨_, rfl, q d kvs ks H2 s2 hd2 W2 ?_⟩
    rcases alt with h | h
    · exact h
    · intro p hp
      obtain ⟨b1, b2⟩ := hB p hp
      have all := Sh.all_in W2.nd W2.lt (by omega)
      exact ⟨fun _ => all _ b2, fun _ => all _ b1⟩
end
def spWayBy1 (K : PySem.W.Frag) (CW : Addr) : Sp := fun vs H Q E => ∃ (n : Nat) (a : Addr) (as : List Addr) (ps : List (Nat × Nat)) (f t : Nat), vs = [.int (n : Int), .ref a, .int (f : Int), .int (t : Int)] ∧ 1 ≤ n ∧ n ≤ 12 ∧ f < n ∧ t < n ∧ H a = some (.lst (as.map V.ref)) ∧ PLs H as ps ∧ PB n ps ∧
  (Sh.PC ps f t → ∀ (l : Addr) (w : List Nat) (H' : Hp), Same H H' → H l = none → H' l = some (.lst (ivs w)) → w.length ≤ 12 → Sh.walk ps f w = some t → Q (.ref l) H') ∧ (¬ Sh.PC ps f t → ∀ H', Same H H' → E (.ref CW) none H')
section
variable {P : Program} {w : World} {K : PySem.W.Frag} {mg : Str → Option Value} {base : Heap}
theorem scWayBy : FnScope ["things", "pairs", "one", "other", "ways"] ["things", "pairs", "one", "other"] (defScope sWayBy) := ⟨rfl, rfl, rfl, by decide +kernel, rfl, by decide +kernel, by decide +kernel⟩
theorem ok_wayby1 {CW : Addr} (hq : PySem.W.excIn K CW bmVE "ValueError.__new__" = true) (mW : mg "NoWay" = some (.ref CW)) {f : Addr} {fd : FuncData} (F : Fun K "way_by" "way_by" sWayBy f fd) (GA : Fn P w K mg base "ask_things" ["things"] 2 (spAskTh K)) (GP : Fn P w K mg base "ask_pairs" ["things", "pairs"] 2 (spAskP K)) (GT : Fn P w K mg base "ask_thing" ["things", "thing"] 1 (spAskT K)) (GF : Fn P w K mg base "ways_from" ["things", "pairs", "first"] 2 (spWaysF K)) : FnOk P w K mg base (CX1 P w) 3 f fd ["things", "pairs", "one", "other"] (spWayBy1 K CW) := by
  refine F.ok1 scWayBy (fun vs H Q E h => ?_) (fun cdv A outer s H vs Q E hr h => ?_)
  · obtain ⟨n, a, as, ps, f, t, rfl, _⟩ := h
    rfl
  obtain ⟨n, a, as, ps, f0, t0, rfl, n1, n2, hf, ht, hA, hP, hB, q, qE⟩ := h
  have hu := hu_of hr
  refine ⟨_, pss_cons (ps_expr (pe_fn GA hr (pa_cons (pv 0) pa_nil)))
    (pss_cons (ps_expr (pe_fn GP hr (pa_cons (pv 0) (pa_cons (pv 1) pa_nil))))
    (pss_cons (ps_expr (pe_fn GT (hr.mono (by decide)) (pa_cons (pv 0) (pa_cons (pv 2) pa_nil))))
    (pss_cons (ps_expr (pe_fn GT (hr.mono (by decide)) (pa_cons (pv 0) (pa_cons (pv 3) pa_nil))))
    (pss_cons (ps_set (i := 4) scWayBy.nd rfl (Or.inl rfl) (pe_fn GF hr (pa_cons (pv 0) (pa_cons (pv 1) (pa_cons (pv 2) pa_nil)))))
    (pss_cons (ps_if (pt_cmp (pc_dnotin hu (pv 3) (pv 4))) (pss_one (ps_raise hq rfl mW (pa_cons pe_str pa_nil))) pss_nil)
    (pss_one (ps_ret (pe_dget hu (pv 4) (pv 3) (fun _ _ => rfl))))))))), ?_⟩
  refine ⟨_, rfl, _, rfl, by omega, by omega, ?_⟩
  refine ⟨_, rfl, _, rfl, n, a, as, ps, rfl, hA, hP, hB, ?_⟩
  refine ⟨_, rfl, _, rfl, _, _, rfl, by omega, by omega, ?_⟩
  refine ⟨_, rfl, _, rfl, _, _, rfl, by omega, by omega, ?_⟩
  refine ⟨_, rfl, _, rfl, _, rfl, n, a, as, ps, f0, rfl, n1, n2, hf, hA, hP, hB, fun D kvs ks H1 s1 dD W bal => ?_⟩
  have hl := Sh.nodup_small n ks W.nd W.lt
  have g := DGet.k (k := kI t0) dD
  refine ⟨_, rfl, _, rfl, D, _, rfl, g, _, rfl, ?_⟩
  by_cases hin : t0 ∈ ks
  · obtain ⟨l, w', e1, e2, e3, e4, e5⟩ := W.way t0 hin
    rw [e1] at g ⊢
    refine iteF ?_
    exact ⟨_, rfl, _, rfl, D, _, rfl, g, q (Sh.walk_pc e5) l w' H1 s1 e2 e3 (by omega) e5⟩
  · rw [W.out t0 hin]
    refine iteT ?_
    exact ⟨(by show 1 ≤ sizeLine; decide), qE (fun hc => hin ((Sh.bal_pc bal hc).mp W.has)) H1 s1⟩
end
def PLi (H : Hp) (as : List Addr) (ps : List (Int × Int)) : Prop := as.length = ps.length ∧ ∀ (k : Nat) (t : Addr) (p : Int × Int), as[k]? = some t → ps[k]? = some p → H t = some (.tup [.int p.1, .int p.2])
theorem PLi.mono {H H' : Hp} {as : List Addr} {ps : List (Int × Int)} (h : PLi H as ps) (s : Same H H') : PLi H' as ps := ⟨h.1, fun k t p e1 e2 => s _ _ (h.2 k t p e1 e2)⟩
theorem PLi.at {H : Hp} {as : List Addr} {ps : List (Int × Int)} (h : PLi H as ps) {i : Nat} {x : V} (e : (as.map V.ref)[i]? = some x) : ∃ t p, x = .ref t ∧ as[i]? = some t ∧ ps[i]? = some p ∧ H t = some (.tup [.int p.1, .int p.2]) := by
  rw [List.getElem?_map] at e
  cases eT : as[i]? with
  | none => rw [eT] at e; cases e
  | some t =>
    rw [eT] at e
    cases e
    have hi : i < ps.length := by rw [← h.1]; exact (List.getElem?_eq_some_iff.mp eT).1
    exact ⟨t, ps[i], rfl, rfl, List.getElem?_eq_getElem hi, h.2 i t _ eT (List.getElem?_eq_getElem hi)⟩
def okT (n t : Int) : Prop := 0 ≤ t ∧ t < n
def spAskTB (K : PySem.W.Frag) (C : Addr) : Sp := fun vs H Q E => ∃ n t : Int, vs = [.int n, .int t] ∧ ((okT n t ∧ Q .non H) ∨ (¬ okT n t ∧ RA C H E))
def spAskPR (K : PySem.W.Frag) (C : Addr) : Sp := fun vs H _ E => ∃ (n : Int) (a : Addr) (as : List Addr) (ps : List (Int × Int)), vs = [.int n, .ref a] ∧ H a = some (.lst (as.map V.ref)) ∧ PLi H as ps ∧ (∃ p ∈ ps, ¬ (okT n p.1 ∧ okT n p.2)) ∧ RA C H E
def spShOfT (K : PySem.W.Frag) (C : Addr) : Sp := fun vs H _ E => ∃ (n : Int) (a : Addr) (as : List Addr) (ps : List (Int × Int)), vs = [.int n, .ref a] ∧ 1 ≤ n ∧ n ≤ 12 ∧ H a = some (.lst (as.map V.ref)) ∧ PLi H as ps ∧ (∃ p ∈ ps, ¬ (okT n p.1 ∧ okT n p.2)) ∧ RA C H E
def spWayT (K : PySem.W.Frag) (C : Addr) : Sp := fun vs H _ E => ∃ (n : Nat) (a : Addr) (f t : Int), vs = [.int (n : Int), .ref a, .int f, .int t] ∧ 1 ≤ n ∧ n ≤ 12 ∧
  ((∃ (as : List Addr) (ps : List (Int × Int)), H a = some (.lst (as.map V.ref)) ∧ PLi H as ps ∧ ∃ p ∈ ps, ¬ (okT n p.1 ∧ okT n p.2)) ∨ (∃ (as : List Addr) (ps : List (Nat × Nat)), H a = some (.lst (as.map V.ref)) ∧ PLs H as ps ∧ PB n ps ∧ (¬ okT n f ∨ ¬ okT n t))) ∧ RA C H E
def spJudT (K : PySem.W.Frag) (C : Addr) : Sp := fun vs H _ E => ∃ (n : Nat) (a b : Addr), vs = [.int (n : Int), .ref a, .ref b] ∧ 1 ≤ n ∧ n ≤ 12 ∧
  ((∃ (as : List Addr) (ps : List (Int × Int)), H a = some (.lst (as.map V.ref)) ∧ PLi H as ps ∧ ∃ p ∈ ps, ¬ (okT n p.1 ∧ okT n p.2)) ∨ (∃ (as bs : List Addr) (ps : List (Nat × Nat)) (qs : List (Int × Int)), H a = some (.lst (as.map V.ref)) ∧ PLs H as ps ∧ PB n ps ∧ H b = some (.lst (bs.map V.ref)) ∧ PLi H bs qs ∧ ∃ p ∈ qs, ¬ (okT n p.1 ∧ okT n p.2))) ∧ RA C H E
section
variable {P : Program} {w : World} {K : PySem.W.Frag} {mg : Str → Option Value} {base : Heap}
theorem okb_askt {C : Addr} (hq : PySem.W.excIn K C bmVE "ValueError.__new__" = true) (mC : mg "NoThing" = some (.ref C)) {f : Addr} {fd : FuncData} (F : Fun K "ask_thing" "ask_thing" sAskT f fd) : FnOk P w K mg base (CX1 P w) 1 f fd ["things", "thing"] (spAskTB K C) := by
  refine F.ok1 scAskT (fun vs H Q E h => ?_) (fun cdv A outer s H vs Q E hr h => ?_)
  · obtain ⟨n, t, rfl, _⟩ := h
    rfl
  obtain ⟨n, t, rfl, h⟩ := h
  refine ⟨_, pss_one (ps_if (PW.pt (pw_or (pt_cmpR op_lt (pv 1) pe_int (nomark _)) (pw_or1 (pt_cmpR op_ge (pv 1) (pv 0) (nomark _))))) (pss_one (ps_raise hq rfl mC (pa_cons pe_str pa_nil))) pss_nil), ?_⟩
  have raised : ¬ okT n t → E (.ref C) none H := fun hn => by
    rcases h with ⟨h, _⟩ | ⟨_, h⟩
    · exact absurd h hn
    · exact h H (Same.refl H)
  refine ⟨_, rfl, _, _, rfl, rfl, _, rfl, ?_⟩
  refine ite2 (fun c => ?_) (fun c => ?_)
  · have c' : t < 0 := of_decide_eq_true c
    exact iteT ⟨(by show 1 ≤ sizeLine; decide), raised fun z => by have := z.1; omega⟩
  have c1 : ¬ t < 0 := fun z => c (decide_eq_true z)
  refine ⟨_, rfl, _, rfl, _, _, rfl, rfl, _, rfl, ?_⟩
  refine ite2 (fun c => ?_) (fun c => ?_)
  · have c' : t ≥ n := of_decide_eq_true c
    exact ⟨(by show 1 ≤ sizeLine; decide), raised fun z => by have := z.2; omega⟩
  have c2 : ¬ t ≥ n := fun z => c (decide_eq_true z)
  rcases h with ⟨_, h⟩ | ⟨h, _⟩
  · exact h
  · exact absurd ⟨by omega, by omega⟩ h
theorem okr_askp {C : Addr} {f : Addr} {fd : FuncData} (F : Fun K "ask_pairs" "ask_pairs" sAskP f fd) (G : Fn1 P w K mg base "ask_thing" ["things", "thing"] 1 (spAskTB K C)) : FnOk P w K mg base (CX1 P w) 2 f fd ["things", "pairs"] (spAskPR K C) := by
  refine F.ok1 scAskP (fun vs H Q E h => ?_) (fun cdv A outer s H vs Q E hr h => ?_)
  · obtain ⟨n, a, as, ps, rfl, _⟩ := h
    rfl
  obtain ⟨n, a, as, ps, rfl, hA, hP, hbad, qE⟩ := h
  refine ⟨_, pss_one (ps_for PassesOwn.leaving rfl (pi_list (pv 1)) (pg_name (i := 2) scAskP.nd rfl (Or.inl rfl))
    (pss_cons (ps_expr (pe_fn1 G hr (pa_cons (pv 0) (pa_cons (pe_ix ix_tup (pv 2) pe_int (fun _ _ => rfl)) pa_nil)))) (pss_one (ps_expr (pe_fn1 G hr (pa_cons (pv 0) (pa_cons (pe_ix ix_tup (pv 2) pe_int (fun _ _ => rfl)) pa_nil))))))), ?_⟩
  refine ⟨_, rfl, a, rfl, ⟨_, SqL.of hA⟩, for_list (K := K) (a := a) (xs := as.map V.ref) (fun i σ H2 => ∃ v, σ = [some (.int n), some (.ref a), v] ∧ H2 = H ∧ ∀ (j : Nat) (p : Int × Int), j < i → ps[j]? = some p → okT n p.1 ∧ okT n p.2) ⟨none, rfl, rfl, fun j _ h => absurd h (Nat.not_lt_zero _)⟩ (fun i σ H2 _ ⟨_, _, e, _⟩ => by rw [e]; exact SqL.of hA) ?_ ?_⟩
  · rintro i x σ H2 hi ⟨v, rfl, rfl, good⟩
    obtain ⟨t, p, rfl, e1, e2, e3⟩ := hP.at hi
    refine ⟨_, rfl, _, rfl, t, _, _, _, rfl, rfl, SqT.of e3, atI_nat (j := 0) rfl, n, p.1, rfl, ?_⟩
    by_cases g1 : okT n p.1
    · refine .inl ⟨g1, ?_⟩
      refine ⟨_, rfl, _, rfl, t, _, _, _, rfl, rfl, SqT.of e3, atI_nat (j := 1) rfl, n, p.2, rfl, ?_⟩
      by_cases g2 : okT n p.2
      · refine .inl ⟨g2, _, rfl, rfl, fun j p' h e => ?_⟩
        by_cases ej : j = i
        · subst ej
          rw [e2] at e
          cases e
          exact ⟨g1, g2⟩
        · exact good j p' (by omega) e
      · exact .inr ⟨g2, qE⟩
    · exact .inr ⟨g1, qE⟩
  · rintro σ H2 ⟨v, rfl, rfl, good⟩
    exfalso
    obtain ⟨p, hp, hn⟩ := hbad
    obtain ⟨j, hj, e⟩ := Sh.mem_ix hp
    exact hn (good j p (by rw [List.length_map, hP.1]; exact hj) e)
theorem okt_shof {C : Addr} {f : Addr} {fd : FuncData} (F : Fun K "sharing_of" "sharing_of" sShOf f fd) (GA : Fn P w K mg base "ask_things" ["things"] 2 (spAskTh K)) (GP : Fn1 P w K mg base "ask_pairs" ["things", "pairs"] 2 (spAskPR K C)) : FnOk P w K mg base (CX1 P w) 3 f fd ["things", "pairs"] (spShOfT K C) := by
  refine F.ok1 scShOf (fun vs H Q E h => ?_) (fun cdv A outer s H vs Q E hr h => ?_)
  · obtain ⟨n, a, as, ps, rfl, _⟩ := h
    rfl
  obtain ⟨n, a, as, ps, rfl, n1, n2, hA, hP, hbad, qE⟩ := h
  refine ⟨_, pss_cons (ps_expr (pe_fn GA hr (pa_cons (pv 0) pa_nil))) (pss_cons (ps_expr (pe_fn1 GP hr (pa_cons (pv 0) (pa_cons (pv 1) pa_nil)))) pss_never), ?_⟩
  refine ⟨_, rfl, _, rfl, n1, n2, ?_⟩
  exact ⟨_, rfl, _, rfl, n, a, as, ps, rfl, hA, hP, hbad, qE⟩
theorem okt_way {C : Addr} {f : Addr} {fd : FuncData} (F : Fun K "way_by" "way_by" sWayBy f fd) (GA : Fn P w K mg base "ask_things" ["things"] 2 (spAskTh K)) (GP : Fn P w K mg base "ask_pairs" ["things", "pairs"] 2 (spAskP K)) (GPR : Fn1 P w K mg base "ask_pairs" ["things", "pairs"] 2 (spAskPR K C)) (GT : Fn1 P w K mg base "ask_thing" ["things", "thing"] 1 (spAskTB K C)) : FnOk P w K mg base (CX1 P w) 3 f fd ["things", "pairs", "one", "other"] (spWayT K C) := by
  refine F.ok1 scWayBy (fun vs H Q E h => ?_) (fun cdv A outer s H vs Q E hr h => ?_)
  · obtain ⟨n, a, f, t, rfl, _⟩ := h
    rfl
  obtain ⟨n, a, f0, t0, rfl, n1, n2, h, qE⟩ := h
  rcases h with ⟨as, ps, hA, hP, hbad⟩ | ⟨as, ps, hA, hP, hB, hbad⟩
  · refine ⟨_, pss_cons (ps_expr (pe_fn GA hr (pa_cons (pv 0) pa_nil))) (pss_cons (ps_expr (pe_fn1 GPR hr (pa_cons (pv 0) (pa_cons (pv 1) pa_nil)))) pss_never), ?_⟩
    refine ⟨_, rfl, _, rfl, by omega, by omega, ?_⟩
    exact ⟨_, rfl, _, rfl, n, a, as, ps, rfl, hA, hP, hbad, qE⟩
  · refine ⟨_, pss_cons (ps_expr (pe_fn GA hr (pa_cons (pv 0) pa_nil))) (pss_cons (ps_expr (pe_fn GP hr (pa_cons (pv 0) (pa_cons (pv 1) pa_nil)))) (pss_cons (ps_expr (pe_fn1 GT (hr.mono (by decide)) (pa_cons (pv 0) (pa_cons (pv 2) pa_nil)))) (pss_cons (ps_expr (pe_fn1 GT (hr.mono (by decide)) (pa_cons (pv 0) (pa_cons (pv 3) pa_nil)))) pss_never))), ?_⟩
    refine ⟨_, rfl, _, rfl, by omega, by omega, ?_⟩
    refine ⟨_, rfl, _, rfl, n, a, as, ps, rfl, hA, hP, hB, ?_⟩
    refine ⟨_, rfl, _, rfl, _, f0, rfl, ?_⟩
    by_cases g1 : okT n f0
    · refine .inl ⟨g1, ?_⟩
      refine ⟨_, rfl, _, rfl, _, t0, rfl, .inr ⟨?_, qE⟩⟩
      rcases hbad with h | h
      · exact absurd g1 h
      · exact h
    · exact .inr ⟨g1, qE⟩
theorem qokt_jud : FnScope ["things", "together", "apart", "marks", "number", "pair"] ["things", "together", "apart"] (defScope sJudged) := ⟨rfl, rfl, rfl, by decide +kernel, rfl, by decide +kernel, by decide +kernel⟩
theorem okt_jud {C : Addr} {f : Addr} {fd : FuncData} (F : Fun K "judged" "judged" sJudged f fd) (GS : Fn P w K mg base "sharing_of" ["things", "pairs"] 3 (spShOf K)) (GSR : Fn1 P w K mg base "sharing_of" ["things", "pairs"] 3 (spShOfT K C)) (GPR : Fn1 P w K mg base "ask_pairs" ["things", "pairs"] 2 (spAskPR K C)) : FnOk P w K mg base (CX1 P w) 4 f fd ["things", "together", "apart"] (spJudT K C) := by
  refine F.ok1 qokt_jud (fun vs H Q E h => ?_) (fun cdv A outer s H vs Q E hr h => ?_)
  · obtain ⟨n, a, b, rfl, _⟩ := h
    rfl
  obtain ⟨n, a, b, rfl, n1, n2, h, qE⟩ := h
  rcases h with ⟨as, ps, hA, hP, hbad⟩ | ⟨as, bs, ps, qs, hA, hP, hB, hA', hP', hbad⟩
  · refine ⟨_, pss_cons (ps_set (i := 3) qokt_jud.nd rfl (Or.inl rfl) (pe_fn1 GSR hr (pa_cons (pv 0) (pa_cons (pv 1) pa_nil)))) pss_never, ?_⟩
    exact ⟨_, rfl, _, rfl, n, a, as, ps, rfl, by omega, by omega, hA, hP, hbad, qE⟩
  · refine ⟨_, pss_cons (ps_set (i := 3) qokt_jud.nd rfl (Or.inl rfl) (pe_fn GS hr (pa_cons (pv 0) (pa_cons (pv 1) pa_nil)))) (pss_cons (ps_expr (pe_fn1 GPR (hr.mono (by decide)) (pa_cons (pv 0) (pa_cons (pv 2) pa_nil)))) pss_never), ?_⟩
    refine ⟨_, rfl, _, rfl, n, a, as, ps, rfl, n1, n2, hA, hP, hB, fun D r H1 s1 f1 hr1 d1 => ?_⟩
    exact ⟨_, rfl, _, rfl, n, b, bs, qs, rfl, s1 _ _ hA', hP'.mono s1, hbad, fun H' s' => qE H' (s1.trans s')⟩
end
def LL (H : Hp) (as : List Addr) (cs : List (List Int)) : Prop := as.length = cs.length ∧ ∀ (k : Nat) (p : Addr) (c : List Int), as[k]? = some p → cs[k]? = some c → H p = some (.lst (c.map V.int))
theorem LL.mono {H H' : Hp} {as : List Addr} {cs : List (List Int)} (h : LL H as cs) (s : Same H H') : LL H' as cs := ⟨h.1, fun k p c e1 e2 => s _ _ (h.2 k p c e1 e2)⟩
theorem LL.snoc {H : Hp} {as : List Addr} {cs : List (List Int)} {p : Addr} {c : List Int} (h : LL H as cs) (hp : H p = some (.lst (c.map V.int))) : LL H (as ++ [p]) (cs ++ [c]) := by
  refine ⟨by rw [List.length_append, List.length_append, h.1]; rfl, fun k q d e1 e2 => ?_⟩
  by_cases hk : k < as.length
  · rw [List.getElem?_append_left hk] at e1
    rw [List.getElem?_append_left (by rw [← h.1]; exact hk)] at e2
    exact h.2 k q d e1 e2
  · have hk' : k < (as ++ [p]).length := (List.getElem?_eq_some_iff.mp e1).1
    have ek : k = as.length := by rw [List.length_append, List.length_singleton] at hk'; omega
    subst ek
    rw [List.getElem?_append_right (Nat.le_refl _), Nat.sub_self] at e1
    rw [h.1, List.getElem?_append_right (Nat.le_refl _), Nat.sub_self] at e2
    have e1' : p = q := by simpa using e1
    have e2' : c = d := by simpa using e2
    subst e1' e2'
    exact hp
def spShares (K : PySem.W.Frag) : Sp := fun vs H Q _ => ∃ (a : Addr) (ns : List Int), vs = [.ref a] ∧ SqL K H a (ns.map V.int) ∧ Sh.isSh ns = true ∧
  ∀ (D : Addr) (as : List Addr) (H' : Hp), Same H H' → H D = none → H' D = some (.lst (as.map V.ref)) → as.Nodup → ¬ D ∈ as → (∀ p, p ∈ as → H p = none) → LL H' as (Sh.shs ns) → Q (.ref D) H'
section
variable {P : Program} {w : World} {K : PySem.W.Frag} {mg : Str → Option Value} {base : Heap}
theorem nd_mark : (["mark"] : List Str).Nodup := by decide +kernel
theorem scShares : FnScope ["one", "shares", "thing", "mark"] ["one"] (defScope sShares) := ⟨rfl, rfl, rfl, by decide +kernel, rfl, by decide +kernel, by decide +kernel⟩
theorem ok_shares {f : Addr} {fd : FuncData} (F : Fun K "shares_of" "shares_of" sShares f fd) (G : Fn P w K mg base "ask_sharing" ["one"] 3 (spAsk K)) (mr : mg "range" = none) (mm : mg "max" = none) (me : mg "enumerate" = none) :
    FnOk P w K mg base CX0 4 f fd ["one"] (spShares K) := by
  refine F.ok scShares (fun vs H Q E h => ?_) (fun cdv A outer s H vs Q E hr h => ?_)
  · obtain ⟨a, ns, rfl, _⟩ := h
    rfl
  obtain ⟨a, ns, rfl, hS, hg, q⟩ := h
  obtain ⟨hcan, l1, l2⟩ := Sh.isSh_can hg
  have hne : ns ≠ [] := by intro e; rw [e] at l1; simp at l1
  refine ⟨_, pss_cons (ps_expr (pe_fn G hr (pa_cons (pv 0) pa_nil)))
    (pss_cons (ps_comp (k := 1) ["mark"] [none] rfl rfl scShares.nd rfl (Or.inl rfl) (pi_range1 rfl mr (pa_cons (pe_op op_add (pe_callB (call_maxL rfl) rfl mm boot_max (pa_cons (pv 0) pa_nil)) pe_int) pa_nil))
      (fun _ _ _ _ => pg_name (i := 0) nd_mark rfl (Or.inl rfl)) (fun _ _ _ _ => pts_nil) (fun _ _ _ _ => pe_lst pa_nil))
    (pss_cons (ps_for PassesOwn.never rfl (pi_enum rfl me (pa_cons (pv 0) pa_nil)) (pg_tup rfl (pgs_cons (pg_name (i := 2) scShares.nd rfl (Or.inl rfl)) (pgs_cons (pg_name (i := 3) scShares.nd rfl (Or.inl rfl)) pgs_nil)))
      (pss_one (ps_expr (pe_bm PySem.F.plainAttrs_list PySem.F.slot_list_append PySem.F.type_list_append mt_append (pe_ix ix_list (pv 1) (pv 3) (fun _ _ => rfl)) (pa_cons (pv 2) pa_nil)))))
    (pss_one (ps_ret (pv 1))))), ?_⟩
  refine ⟨_, rfl, a, ns, rfl, hS, hg, ?_⟩
  refine ⟨_, rfl, a, ns, rfl, hS, hne, fun M hM hle => ?_⟩
  have hM0 := Sh.can_nonneg hcan M hM
  have hfr := Sh.fr_max hM hle hM0
  have hfl : Sh.fr ns ≤ 12 := by
    have := (Sh.fr_mk ns).1
    rw [Sh.mk_can hcan] at this
    have := Sh.length_dd_le ns
    omega
  refine ⟨_, _, rfl, rfl, _, rfl, by omega, by omega, comp_range (lo := 0) (n := (M + 1).toNat) (fun i ys τ H2 => ∃ (as : List Addr) (v : Option V), ys = as.map V.ref ∧ as.length = i ∧ as.Nodup ∧ τ = [v] ∧ Same H H2 ∧ ∀ p, p ∈ as → H p = none ∧ H2 p = some (.lst []))
    ⟨[], none, rfl, rfl, List.nodup_nil, rfl, Same.refl _, fun p h => by simp at h⟩ ?_ ?_ ?_⟩
  · rintro i ys τ H2 hi ⟨as, v, rfl, hl, _⟩
    exact small1000 (by rw [List.length_map]; omega)
  · rintro i ys τ H2 hi ⟨as, v, rfl, hl, nd, rfl, s2, hp⟩
    refine ⟨(by show 0 ≤ sizeLine; decide), fun p hpn => ?_⟩
    refine ⟨as ++ [p], _, by rw [List.map_append]; rfl, by rw [List.length_append, hl]; rfl, ?_, rfl, s2.upd2 (s2.free hpn), fun r hr' => ?_⟩
    · rw [List.nodup_append]
      refine ⟨nd, by simp, fun x hx y hy => ?_⟩
      rw [List.mem_singleton] at hy
      subst hy
      exact ne_of_none (hp x hx).2 hpn
    · rcases List.mem_append.mp hr' with h | h
      · refine ⟨(hp r h).1, ?_⟩
        rw [upd_ne (ne_of_none (hp r h).2 hpn)]
        exact (hp r h).2
      · rw [List.mem_singleton] at h
        subst h
        exact ⟨s2.free hpn, upd_same⟩
  · rintro ys τ H2 ⟨as, v, rfl, hl, nd, rfl, s2, hp⟩ D hD
    have hDas : ¬ D ∈ as := fun z => by have := (hp D z).2; rw [hD] at this; cases this
    have s3 : Same H (upd H2 D (.lst (as.map V.ref))) := s2.upd2 (s2.free hD)
    refine ⟨_, rfl, a, rfl, ⟨_, s3.seq hS⟩, for_enum (K := K) (a := a) (xs := ns.map V.int) (fun i σ H3 => ∃ v2 v3, σ = [some (.ref a), some (.ref D), v2, v3] ∧ Same H H3 ∧ H3 D = some (.lst (as.map V.ref)) ∧ ∀ (k : Nat) (p : Addr), as[k]? = some p → H3 p = some (.lst ((Sh.sh1 ns i (k : Int)).map V.int)))
      ⟨none, none, rfl, s3, upd_same, fun k p e => ?_⟩ (fun i σ H3 _ ⟨_, _, _, s4, _⟩ => s4.seq hS) ?_ ?_⟩
    · rw [upd_ne (fun (z : p = D) => hDas (by rw [← z]; exact List.mem_of_getElem? e))]
      exact (hp p (List.mem_of_getElem? e)).2
    · rintro i x σ H3 t hi ht ⟨v2, v3, rfl, s4, d4, l4⟩
      obtain ⟨z, hz, rfl⟩ := ints_get hi
      have z0 := Sh.can_nonneg hcan z (List.mem_of_getElem? hz)
      have z1 := Sh.lt_fr z (List.mem_of_getElem? hz)
      have ez : z = ((z.toNat : Nat) : Int) := by omega
      have hzl : z.toNat < as.length := by omega
      have e0 := List.getElem?_eq_getElem hzl
      have hla := l4 _ _ e0
      have nDt : D ≠ t := ne_of_none d4 ht
      have nat : as[z.toNat] ≠ t := ne_of_none hla ht
      refine ⟨t, _, rfl, SqT.of upd_same, rfl, _, _, rfl, _, _, rfl, rfl, ?_⟩
      refine ⟨_, rfl, _, rfl, D, as.map V.ref, z, .ref as[z.toNat], rfl, rfl, SqL.of (by rw [upd_ne nDt]; exact d4), ?_, .inl ⟨rfl, _, SqL.of (by rw [upd_ne nat]; exact hla)⟩, _, rfl, as[z.toNat], _, _, rfl, rfl, (by rw [upd_ne nat]; exact hla), small1000 ?_, ?_⟩
      · have q1 : atI (as.map V.ref) ((z.toNat : Nat) : Int) = some (.ref as[z.toNat]) := atI_nat (by rw [List.getElem?_map, e0]; rfl)
        rw [← ez] at q1
        exact q1
      · rw [List.length_map]
        unfold Sh.sh1
        rw [List.length_map]
        have := List.length_filter_le (fun t => decide (ns[t]? = some ((z.toNat : Nat) : Int))) (List.range i)
        rw [List.length_range] at this
        have : i < ns.length := (List.getElem?_eq_some_iff.mp hz).1
        omega
      · have hH : H as[z.toNat] = none := (hp _ (List.getElem_mem hzl)).1
        refine ⟨_, _, rfl, (s4.upd2 (s4.free ht)).upd2 hH, ?_, fun k p e => ?_⟩
        · rw [upd_ne (fun (e : D = as[z.toNat]) => hDas (by rw [e]; exact List.getElem_mem hzl)), upd_ne nDt]
          exact d4
        · rw [Sh.sh1_succ]
          by_cases ek : k = z.toNat
          · subst ek
            rw [e0] at e
            cases e
            rw [upd_same, ← ez, if_pos hz, List.map_append]
            rfl
          · have np : p ≠ as[z.toNat] := fun e' => by
              subst e'
              obtain ⟨hk1, hk2⟩ := List.getElem?_eq_some_iff.mp e
              exact ek ((List.getElem_inj nd).mp hk2)
            have hk := l4 k p e
            rw [upd_ne np, upd_ne (ne_of_none hk ht), if_neg (fun e' => ek (by rw [hz] at e'; have := Option.some.inj e'; omega)), List.append_nil]
            exact hk
    · rintro σ H3 ⟨v2, v3, rfl, s4, d4, l4⟩
      rw [List.length_map] at l4
      refine ⟨_, rfl, q D as H3 s4 (s2.free hD) d4 nd hDas (fun p h => (hp p h).1) ⟨by rw [Sh.shs_len]; omega, fun k p c e1 e2 => ?_⟩⟩
      have hk : k < (Sh.fr ns).toNat := by
        have := (List.getElem?_eq_some_iff.mp e1).1
        omega
      rw [Sh.shs_get hk] at e2
      rw [← Option.some.inj e2]
      exact l4 k p e1
end
def spAre (K : PySem.W.Frag) : Sp := fun vs H Q _ => ∃ (a : Addr) (as : List Addr) (css : List (List Int)), vs = [.ref a] ∧ H a = some (.lst (as.map V.ref)) ∧ LL H as css ∧ css.flatten.length ≤ 1000 ∧
  ∀ (b : Bool) (H' : Hp), (b = true ↔ Sh.Shs css) → Same H H' → Q (.bl b) H'
def spMarks1 (K : PySem.W.Frag) (CN : Addr) : Sp := fun vs H Q E => ∃ (a : Addr) (as : List Addr) (css : List (List Int)), vs = [.ref a] ∧ H a = some (.lst (as.map V.ref)) ∧ LL H as css ∧ css.flatten.length ≤ 1000 ∧
  (Sh.Shs css → ∀ (D : Addr) (labs : List Int) (H' : Hp), Same H H' → H D = none → Sh.Labs css labs → H' D = some (.lst ((Sh.mk labs).map V.int)) → Q (.ref D) H') ∧ (¬ Sh.Shs css → ∀ H', Same H H' → E (.ref CN) none H')
section
variable {P : Program} {w : World} {K : PySem.W.Frag} {mg : Str → Option Value} {base : Heap}
theorem LL.at {H : Hp} {as : List Addr} {cs : List (List Int)} (h : LL H as cs) {i : Nat} {x : V} (e : (as.map V.ref)[i]? = some x) : ∃ p c, x = .ref p ∧ as[i]? = some p ∧ cs[i]? = some c ∧ H p = some (.lst (c.map V.int)) := by
  rw [List.getElem?_map] at e
  cases eT : as[i]? with
  | none => rw [eT] at e; cases e
  | some p =>
    rw [eT] at e
    cases e
    have hi : i < cs.length := by rw [← h.1]; exact (List.getElem?_eq_some_iff.mp eT).1
    exact ⟨p, cs[i], rfl, rfl, List.getElem?_eq_getElem hi, h.2 i p _ eT (List.getElem?_eq_getElem hi)⟩
theorem take_flat {css : List (List Int)} {i : Nat} {c : List Int} (h : css[i]? = some c) : (css.take (i + 1)).flatten = (css.take i).flatten ++ c := by
  rw [List.take_add_one, h, List.flatten_append]
  simp
theorem take_flat_le (css : List (List Int)) (i : Nat) : (css.take i).flatten.length ≤ css.flatten.length := by
  have : css.flatten = (css.take i).flatten ++ (css.drop i).flatten := by rw [← List.flatten_append, List.take_append_drop]
  rw [this, List.length_append]
  omega
theorem scAre : FnScope ["shares", "things", "share"] ["shares"] (defScope sAre) := ⟨rfl, rfl, rfl, by decide +kernel, rfl, by decide +kernel, by decide +kernel⟩
theorem ok_are {f : Addr} {fd : FuncData} (F : Fun K "are_shares" "are_shares" sAre f fd) (ml : mg "len" = none) (mr : mg "range" = none) (mlst : mg "list" = none) (ms : mg "sorted" = none) (GY : Fn P w K mg base "is_many_things" ["number"] 1 (spMany K)) :
    FnOk P w K mg base CX0 2 f fd ["shares"] (spAre K) := by
  refine F.ok scAre (fun vs H Q E h => ?_) (fun cdv A outer s H vs Q E hr h => ?_)
  · obtain ⟨a, as, css, rfl, _⟩ := h
    rfl
  obtain ⟨a, as, css, rfl, hA, hL, hz, q⟩ := h
  have hu := hu_of hr
  refine ⟨_, pss_cons (ps_set (i := 1) scAre.nd rfl (Or.inl rfl) (pe_lst pa_nil))
    (pss_cons (ps_for PassesOwn.never rfl (pi_list (pv 0)) (pg_name (i := 2) scAre.nd rfl (Or.inl rfl))
      (pss_cons (ps_if (pt_cmpR op_eq (pe_callB call_len_seq rfl ml PySem.boot_len (pa_cons (pv 2) pa_nil)) pe_int (nomark _)) (pss_one (ps_ret pe_bl)) pss_nil)
      (pss_one (ps_expr (pe_bm PySem.F.plainAttrs_list PySem.F.slot_list_extend PySem.F.type_list_extend mt_extend (pv 1) (pa_cons (pv 2) pa_nil))))))
    (pss_cons (ps_if (pt_not (pt_val (pe_fn GY hr (pa_cons (pe_callB call_len_seq rfl ml PySem.boot_len (pa_cons (pv 1) pa_nil)) pa_nil)))) (pss_one (ps_ret pe_bl)) pss_nil)
    (pss_one (ps_ret (pe_cmpR (op_eqLI (Nat.lt_of_succ_lt hu)) (pe_callB call_sortedL rfl ms boot_sorted (pa_cons (pv 1) pa_nil)) (pe_listrange rfl rfl mlst rfl mr (pa_cons (pe_callB call_len_seq rfl ml PySem.boot_len (pa_cons (pv 1) pa_nil)) pa_nil)) (nomark _)))))), ?_⟩
  refine ⟨(by show 0 ≤ sizeLine; decide), fun l hl => ?_⟩
  have s0 : Same H (upd H l (.lst [])) := same_upd hl _
  refine ⟨_, rfl, a, rfl, ⟨_, SqL.of (s0 _ _ hA)⟩, for_list (K := K) (a := a) (xs := as.map V.ref) (fun i σ H2 => ∃ v, σ = [some (.ref a), some (.ref l), v] ∧ Same H H2 ∧ H2 l = some (.lst ((css.take i).flatten.map V.int)) ∧ ∀ c, c ∈ css.take i → c ≠ [])
    ⟨none, rfl, s0, upd_same, fun c h => by simp at h⟩ (fun i σ H2 _ ⟨_, _, s2, _⟩ => SqL.of (s2 _ _ hA)) ?_ ?_⟩
  · rintro i x σ H2 hi ⟨v, rfl, s2, h2, hne⟩
    obtain ⟨p, c, rfl, e1, e2, e3⟩ := hL.at hi
    have e3' := s2 _ _ e3
    refine ⟨_, rfl, p, _, rfl, .inl (SqL.of e3'), rfl, _, rfl, ?_⟩
    refine ite2 (fun z => ?_) (fun z => ?_)
    · have z' : c = [] := by
        have := of_decide_eq_true z
        injection this with this
        rw [List.length_map] at this
        exact List.eq_nil_of_length_eq_zero (by omega)
      refine q false H2 ⟨fun h => (nomatch h), fun h => absurd z' (h.1 c (List.mem_of_getElem? e2))⟩ s2
    · have z' : c ≠ [] := fun e => z (by rw [e]; rfl)
      refine ⟨_, rfl, .inl ⟨rfl, _, SqL.of h2⟩, _, rfl, l, p, _, _, rfl, rfl, h2, e3', ?_, ?_⟩
      · have h1 := take_flat_le css (i + 1)
        rw [take_flat e2, List.length_append] at h1
        rw [List.length_map, List.length_map]
        exact small (by omega)
      · refine ⟨_, rfl, s2.upd2 hl, ?_, fun d hd => ?_⟩
        · rw [upd_same, take_flat e2, List.map_append]
        · rw [List.take_add_one, e2] at hd
          rcases List.mem_append.mp hd with hd | hd
          · exact hne d hd
          · have : d = c := by simpa using hd
            rw [this]
            exact z'
  · rintro σ H2 ⟨v, rfl, s2, h2, hne⟩
    rw [List.length_map, hL.1, List.take_length] at h2 hne
    have ll : ((css.flatten.map V.int).length : Int) = (css.flatten.length : Int) := by rw [List.length_map]
    refine ⟨_, rfl, l, _, rfl, .inl (SqL.of h2), _, rfl, _, rfl, ?_⟩
    rw [ll]
    refine ite2 (fun c => ?_) (fun c => ?_)
    · have c' : ¬ (1 ≤ (css.flatten.length : Int) ∧ (css.flatten.length : Int) ≤ 12) := fun z => by rw [decide_eq_true z] at c; exact absurd c (by decide)
      exact q false H2 ⟨fun h => (nomatch h), fun h => by have := h.2.1; have := h.2.2.1; omega⟩ s2
    have c1 : 1 ≤ (css.flatten.length : Int) ∧ (css.flatten.length : Int) ≤ 12 := Classical.byContradiction fun z => c (by rw [decide_eq_false z]; rfl)
    refine ⟨_, rfl, l, css.flatten, rfl, SqL.of h2, by omega, fun p ms hp hperm hsort => ?_⟩
    have s3 := same_upd hp (.lst (ms.map V.int))
    refine ⟨_, rfl, l, _, rfl, .inl (SqL.of (s3 _ _ h2)), (css.flatten.map V.int).length, rfl, by rw [List.length_map]; omega, fun D hD => ?_⟩
    rw [List.length_map]
    have s4 := same_upd hD (.lst ((Sh.upto css.flatten.length).map V.int))
    refine ⟨p, D, ms, _, rfl, rfl, SqL.of (s4 _ _ upd_same), SqL.of upd_same, ?_⟩
    refine q _ _ ?_ (s2.trans (s3.trans s4))
    show decide (ms = Sh.upto css.flatten.length) = true ↔ _
    rw [decide_eq_true_iff, Sh.sorted_upto hperm hsort]
    exact ⟨fun h => ⟨hne, by omega, by omega, h⟩, fun h => h.2.2.2⟩
end
section
variable {P : Program} {w : World} {K : PySem.W.Frag} {mg : Str → Option Value} {base : Heap}
theorem nd_ts : (["thing", "share_numbers"] : List Str).Nodup := by decide +kernel
theorem scMarksOf : FnScope ["shares", "share_numbers", "number", "share", "thing"] ["shares"] (defScope sMarksOf) := ⟨rfl, rfl, rfl, by decide +kernel, rfl, by decide +kernel, by decide +kernel⟩
structure Num (css : List (List Int)) (i : Nat) (more : List Int) (kvs : List (Key × V)) : Prop where
  len : kvs.length = (css.take i).flatten.length + more.length
  old : ∀ (k : Nat) (c : List Int) (t : Int), k < i → css[k]? = some c → t ∈ c → valV kvs (Sum.inl t : Key) = some (.int (k : Int))
  new : ∀ t : Int, t ∈ more → valV kvs (Sum.inl t : Key) = some (.int (i : Int))
  out : ∀ t : Int, ¬ t ∈ (css.take i).flatten → ¬ t ∈ more → valV kvs (Sum.inl t : Key) = none
theorem Num.put {css : List (List Int)} {i : Nat} {more : List Int} {kvs : List (Key × V)} (h : Num css i more kvs) {t : Int} (h1 : ¬ t ∈ (css.take i).flatten) (h2 : ¬ t ∈ more) : Num css i (more ++ [t]) (putK kvs (Sum.inl t : Key) (.int (i : Int))) := by
  have hn := h.out t h1 h2
  refine ⟨by rw [putK_new _ hn, List.length_append, List.length_append, h.len]; simp; omega, fun k c t' hk hc ht' => ?_, fun t' ht' => ?_, fun t' ha hb => ?_⟩
  · rw [valV_put, if_neg]
    · exact h.old k c t' hk hc ht'
    · intro e
      have e' : t' = t := Sum.inl.inj e
      subst e'
      exact h1 (List.mem_flatten.mpr ⟨c, by
        have hlt := (List.getElem?_eq_some_iff.mp hc).1
        exact List.mem_of_getElem? (i := k) (by rw [List.getElem?_take, if_pos hk]; exact hc), ht'⟩)
  · rw [valV_put]
    by_cases e : t' = t
    · rw [e, if_pos rfl]
    · rw [if_neg (fun z => e (Sum.inl.inj z))]
      refine h.new t' ?_
      rcases List.mem_append.mp ht' with z | z
      · exact z
      · exact absurd (List.mem_singleton.mp z) e
  · have e : t' ≠ t := fun e => hb (by rw [e]; simp)
    rw [valV_put, if_neg (fun z => e (Sum.inl.inj z))]
    exact h.out t' ha fun z => hb (List.mem_append_left _ z)
theorem Num.next {css : List (List Int)} {i : Nat} {c : List Int} {kvs : List (Key × V)} (h : Num css i c kvs) (hc : css[i]? = some c) : Num css (i + 1) [] kvs := by
  refine ⟨by rw [take_flat hc, List.length_append, h.len]; simp, fun k c' t hk hc' ht => ?_, fun t ht => by simp at ht, fun t ht _ => ?_⟩
  · by_cases e : k = i
    · subst e
      rw [hc] at hc'
      cases hc'
      exact h.new t ht
    · exact h.old k c' t (by omega) hc' ht
  · rw [take_flat hc] at ht
    exact h.out t (fun z => ht (List.mem_append_left _ z)) fun z => ht (List.mem_append_right _ z)
theorem ok_marksof1 {CN : Addr} (hq : PySem.W.excIn K CN bmVE "ValueError.__new__" = true) (mN : mg "NoShares" = some (.ref CN)) {f : Addr} {fd : FuncData} (F : Fun K "marks_of" "marks_of" sMarksOf f fd) (GA : Fn P w K mg base "are_shares" ["shares"] 2 (spAre K)) (GM : Fn P w K mg base "marked" ["labels"] 1 (spMarked (labInt K))) (ml : mg "len" = none) (mr : mg "range" = none) (me : mg "enumerate" = none) :
    FnOk P w K mg base (CX1 P w) 3 f fd ["shares"] (spMarks1 K CN) := by
  refine F.ok1 scMarksOf (fun vs H Q E h => ?_) (fun cdv A outer s H vs Q E hr h => ?_)
  · obtain ⟨a, as, css, rfl, _⟩ := h
    rfl
  obtain ⟨a, as, css, rfl, hA, hL, hlen, q, qE⟩ := h
  have hu := hu_of hr
  refine ⟨_, pss_cons (ps_if (pt_not (pt_val (pe_fn GA hr (pa_cons (pv 0) pa_nil)))) (pss_one (ps_raise hq rfl mN (pa_cons pe_str pa_nil))) pss_nil)
    (pss_cons (ps_set (i := 1) scMarksOf.nd rfl (Or.inr rfl) pe_dnewK)
    (pss_cons (PS.nox (ps_for PassesOwn.never rfl (pi_enum rfl me (pa_cons (pv 0) pa_nil)) (pg_tup rfl (pgs_cons (pg_name (i := 2) scMarksOf.nd rfl (Or.inl rfl)) (pgs_cons (pg_name (i := 3) scMarksOf.nd rfl (Or.inl rfl)) pgs_nil)))
      (pss_one (ps_for PassesOwn.never rfl (pi_list (pv 3)) (pg_name (i := 4) scMarksOf.nd rfl (Or.inl rfl))
        (pss_one (ps_dput hu (pv 1) (pv 4) (pv 2) rfl))))))
    (pss_one (ps_ret (pe_fn GM (hr.mono (by decide)) (pa_cons (pe_comp ["thing", "share_numbers"] [none, some 1] rfl rfl (pi_range1 rfl mr (pa_cons (pe_callB call_lenD rfl ml PySem.boot_len (pa_cons (pv 1) pa_nil)) pa_nil)) (fun _ _ _ _ => pg_name (i := 0) nd_ts rfl (Or.inl rfl)) (fun _ _ _ _ => pts_nil)
      (fun _ _ _ _ => pe_dget hu (pv 1) (pv 0) (fun _ _ => rfl))) pa_nil)))))), ?_⟩
  refine ⟨_, rfl, a, as, css, rfl, hA, hL, hlen, fun b H1 hb s1 => ⟨_, rfl, ?_⟩⟩
  refine ite2 (fun cb => ?_) (fun cb => ?_)
  · have nb : ¬ Sh.Shs css := fun z => by rw [hb.mpr z] at cb; cases cb
    exact ⟨(by show 1 ≤ sizeLine; decide), qE nb H1 s1⟩
  have hshs : Sh.Shs css := hb.mp (by cases b with | true => rfl | false => exact absurd rfl cb)
  have q := q hshs
  obtain ⟨z1, z2, z3, z4⟩ := id hshs
  have nd : css.flatten.Nodup := z4.symm.nodup (Sh.upto_nodup _)
  intro d hd
  have sd : Same H (upd H1 d (.dK [])) := s1.upd2 (s1.free hd)
  have hd0 := s1.free hd
  refine ⟨_, rfl, a, rfl, ⟨_, SqL.of (sd _ _ hA)⟩, for_enum (K := K) (a := a) (xs := as.map V.ref) (fun i σ H2 => ∃ v2 v3 v4 kvs, σ = [some (.ref a), some (.ref d), v2, v3, v4] ∧ Same H H2 ∧ H2 d = some (.dK kvs) ∧ Num css i [] kvs)
    ⟨none, none, none, [], rfl, sd, upd_same, rfl, fun k c t hk => absurd hk (Nat.not_lt_zero _), fun t ht => by simp at ht, fun t _ _ => rfl⟩ (fun i σ H2 _ ⟨_, _, _, _, _, s2, _⟩ => SqL.of (s2 _ _ hA)) ?_ ?_⟩
  · rintro i x σ H2 t hi ht ⟨v2, v3, v4, kvs, rfl, s2, hd2, num⟩
    obtain ⟨p, c, rfl, e1, e2, e3⟩ := hL.at hi
    have nDt : d ≠ t := ne_of_none hd2 ht
    have s3 : Same H (upd H2 t (.tup [.int (i : Int), .ref p])) := s2.upd2 (s2.free ht)
    refine ⟨t, _, rfl, SqT.of upd_same, rfl, _, _, rfl, _, _, rfl, rfl, ?_⟩
    refine ⟨_, rfl, p, rfl, ⟨_, SqL.of (s3 _ _ e3)⟩, for_list (K := K) (a := p) (xs := c.map V.int) (fun j σ H3 => ∃ v4 kvs, σ = [some (.ref a), some (.ref d), some (.int (i : Int)), some (.ref p), v4] ∧ Same H H3 ∧ H3 d = some (.dK kvs) ∧ Num css i (c.take j) kvs)
      ⟨_, kvs, rfl, s3, by rw [upd_ne nDt]; exact hd2, num⟩ (fun j σ H3 _ ⟨_, _, _, s4, _⟩ => SqL.of (s4 _ _ e3)) ?_ ?_⟩
    · rintro j y σ H3 hj ⟨v4, kvs, rfl, s4, hd4, num4⟩
      obtain ⟨z, hz, rfl⟩ := ints_get hj
      have hjl := (List.getElem?_eq_some_iff.mp hz).1
      have split : css.flatten = (css.take i).flatten ++ (c.take j ++ z :: c.drop (j + 1)) ++ (css.drop (i + 1)).flatten := by
        have a1 : css.flatten = (css.take (i + 1)).flatten ++ (css.drop (i + 1)).flatten := by rw [← List.flatten_append, List.take_append_drop]
        have a2 : c = c.take j ++ z :: c.drop (j + 1) := by
          have b1 := (List.take_append_drop j c).symm
          rw [List.drop_eq_getElem_cons hjl] at b1
          have b2 : c[j] = z := by rw [List.getElem?_eq_getElem hjl] at hz; exact Option.some.inj hz
          rw [b2] at b1
          exact b1
        rw [a1, take_flat e2]
        exact congrArg (fun u => (css.take i).flatten ++ u ++ (css.drop (i + 1)).flatten) a2
      rw [split, List.append_assoc] at nd
      rw [List.nodup_append] at nd
      obtain ⟨_, nd2, nd3⟩ := nd
      rw [List.append_assoc, List.nodup_append] at nd2
      have n1 : ¬ z ∈ (css.take i).flatten := fun h => nd3 z h z (by simp) rfl
      have n2 : ¬ z ∈ c.take j := fun h => nd2.2.2 z h z (by simp) rfl
      refine ⟨_, rfl, _, rfl, _, rfl, d, _, rfl, DPut.k (k := Sum.inl z) hd4 ?_, ?_⟩
      · rw [num4.len]
        have h1 := take_flat_le css (i + 1)
        rw [take_flat e2, List.length_append] at h1
        have h2 : (c.take j).length ≤ c.length := by rw [List.length_take]; omega
        exact small1000 (by omega)
      · refine ⟨_, _, rfl, s4.upd2 hd0, upd_same, ?_⟩
        have := num4.put n1 n2
        rw [List.take_add_one, hz]
        exact this
    · rintro σ H3 ⟨v4, kvs, rfl, s4, hd4, num4⟩
      rw [List.length_map, List.take_length] at num4
      exact ⟨_, _, _, kvs, rfl, s4, hd4, num4.next e2⟩
  · rintro σ H2 ⟨v2, v3, v4, kvs, rfl, s2, hd2, num⟩
    rw [List.length_map, hL.1] at num
    have hlen : kvs.length = css.flatten.length := by rw [num.len, List.take_length]; simp
    refine ⟨_, rfl, d, kvs, rfl, hd2, _, rfl, by omega, by omega, ?_⟩
    rw [Int.toNat_natCast]
    refine comp_range (lo := 0) (n := kvs.length) (fun i zs τ H3 => ∃ (v : Option V) (labs : List Int), τ = [v, some (.ref d)] ∧ H3 = H2 ∧ zs = labs.map V.int ∧ labs.length = i ∧ ∀ (t k : Nat) (c : List Int), t < i → css[k]? = some c → (t : Int) ∈ c → labs[t]? = some (k : Int))
      ⟨none, [], rfl, rfl, rfl, rfl, fun t _ _ h => absurd h (Nat.not_lt_zero _)⟩ ?_ ?_ ?_
    · rintro i zs τ H3 hi ⟨v, labs, rfl, rfl, rfl, hl, _⟩
      exact small1000 (by rw [List.length_map]; omega)
    · rintro i zs τ H3 hi ⟨v, labs, rfl, rfl, rfl, hl, hlab⟩
      have hin : ((i : Nat) : Int) ∈ css.flatten := z4.mem_iff.mpr (Sh.mem_upto.mpr ⟨by omega, by omega⟩)
      obtain ⟨c, hc, hic⟩ := List.mem_flatten.mp hin
      obtain ⟨k, hk, ek⟩ := Sh.mem_ix hc
      have hv := num.old k c _ hk ek hic
      have hg := DGet.k (k := Sum.inl ((i : Nat) : Int)) hd2
      rw [hv] at hg
      refine ⟨_, rfl, _, rfl, d, _, rfl, (by rw [Int.zero_add]; exact hg), ?_⟩
      refine ⟨_, labs ++ [(k : Int)], rfl, rfl, by rw [List.map_append]; rfl, by rw [List.length_append, hl]; rfl, fun t k' c' ht ek' hc' => ?_⟩
      by_cases et : t = i
      · subst et
        have hv' := num.old k' c' _ ((List.getElem?_eq_some_iff.mp ek').1) ek' hc'
        rw [hv] at hv'
        have : (k : Int) = (k' : Int) := by
          have := Option.some.inj hv'
          injection this
        rw [← hl, List.getElem?_append_right (Nat.le_refl _), Nat.sub_self, ← this]
        rfl
      · rw [List.getElem?_append_left (by omega)]
        exact hlab t k' c' (by omega) ek' hc'
    · rintro zs τ H3 ⟨v, labs, rfl, rfl, rfl, hl, hlab⟩ D hD
      have s3 : Same H (upd H3 D (.lst (labs.map V.int))) := s2.upd2 (s2.free hD)
      refine ⟨D, _, labs, rfl, SqL.of upd_same, labs_int labs, by omega, fun D' H4 s4 f4 d4 => ?_⟩
      refine q D' labs H4 (s3.trans s4) (s3.free f4) ⟨by omega, fun t k c ek hc => ?_⟩ d4
      refine hlab t k c ?_ ek hc
      have : (t : Int) ∈ css.flatten := List.mem_flatten.mpr ⟨c, List.mem_of_getElem? ek, hc⟩
      have := (Sh.mem_upto.mp (z4.mem_iff.mp this)).2
      omega
end
def tS (i : Int) : Str := toString i
def shareT (c : List Int) : Str := Str.join " " (c.map tS)
def shownT (ns : List Int) : Str := Str.join "/" ((Sh.shs ns).map shareT)
def wr : List Str := (List.range 12).map fun (i : Nat) => tS (i : Int)
def rdW (x : Str) : Option Int := if x ∈ wr then some ((wr.idxOf x : Nat) : Int) else none
def RdS (p : Str) (c : List Int) : Prop := (Txt.split p " ").map rdW = c.map some
def RdA (t : Str) (css : List (List Int)) : Prop := (Txt.split t "/").length = css.length ∧ ∀ (i : Nat) (p : Str) (c : List Int), (Txt.split t "/")[i]? = some p → css[i]? = some c → RdS p c
theorem tS_len : ∀ i : Int, 0 ≤ i → i < 100 → (tS i).length ≤ 2 := fun i h0 h1 => by
  have g : ∀ k : _root_.Fin 100, (tS (k.val : Int)).length ≤ 2 := by decide +kernel
  have := g ⟨i.toNat, by omega⟩
  rw [show ((i.toNat : Nat) : Int) = i by omega] at this
  exact this
theorem share_len {c : List Int} (h : ∀ x ∈ c, 0 ≤ x ∧ x < 100) : ((c.map tS).map (·.length)).sum ≤ 2 * c.length := by
  induction c with
  | nil => simp
  | cons x c ih =>
    have h1 := tS_len x (h x (List.mem_cons_self ..)).1 (h x (List.mem_cons_self ..)).2
    have h2 := ih fun y hy => h y (List.mem_cons_of_mem _ hy)
    rw [List.map_cons, List.map_cons, List.sum_cons, List.length_cons]
    omega
theorem shareT_len {c : List Int} (h : ∀ x ∈ c, 0 ≤ x ∧ x < 100) : (shareT c).length ≤ 3 * c.length := by
  have h1 := StrLaws.join_length_le " " (c.map tS)
  have h2 := share_len h
  rw [List.length_map] at h1
  have : ((" " : Str).length) = 1 := by decide
  unfold shareT
  rw [this] at h1
  omega
theorem shares_lt {ns : List Int} (h12 : ns.length ≤ 12) : ∀ c ∈ Sh.shs ns, ∀ x ∈ c, 0 ≤ x ∧ x < 100 := fun c hc x hx => by
  obtain ⟨k, hk, rfl⟩ := Sh.mem_shs.mp hc
  obtain ⟨t, rfl, ht, _⟩ := Sh.mem_sh1.mp hx
  exact ⟨by omega, by omega⟩
theorem sum_shares : ∀ {css : List (List Int)}, (∀ c ∈ css, ∀ x ∈ c, 0 ≤ x ∧ x < 100) → ((css.map shareT).map (·.length)).sum ≤ 3 * css.flatten.length
  | [], _ => by simp
  | c :: css, h => by
    have h1 := shareT_len (h c (List.mem_cons_self ..))
    have h2 := sum_shares (css := css) fun d hd => h d (List.mem_cons_of_mem _ hd)
    rw [List.map_cons, List.map_cons, List.sum_cons, List.flatten_cons, List.length_append]
    omega
def spShownS (K : PySem.W.Frag) : Sp := fun vs H Q _ => ∃ (a : Addr) (c : List Int), vs = [.ref a] ∧ SqL K H a (c.map V.int) ∧ (∀ x ∈ c, 0 ≤ x ∧ x < 100) ∧ c.length ≤ 100 ∧ ∀ H', Same H H' → Q (.str (shareT c)) H'
def spShown (K : PySem.W.Frag) : Sp := fun vs H Q _ => ∃ (a : Addr) (ns : List Int), vs = [.ref a] ∧ SqL K H a (ns.map V.int) ∧ Sh.isSh ns = true ∧ ∀ H', Same H H' → Q (.str (shownT ns)) H'
def spReadS1 (K : PySem.W.Frag) (CR : Addr) : Sp := fun vs H Q E => ∃ p : Str, vs = [.str p] ∧ p.length ≤ 200 ∧ (∀ (c : List Int) (D : Addr) (H' : Hp), RdS p c → Same H H' → H D = none → H' D = some (.lst (c.map V.int)) → Q (.ref D) H') ∧ ((¬ ∃ c, RdS p c) → ∀ H', Same H H' → E (.ref CR) none H')
def spRead1 (K : PySem.W.Frag) (CR : Addr) : Sp := fun vs H Q E => ∃ t : Str, vs = [.str t] ∧ t.length ≤ 200 ∧ (∀ (css : List (List Int)) (labs : List Int) (D : Addr) (H' : Hp), RdA t css → Sh.Shs css → Sh.Labs css labs → shownT (Sh.mk labs) = t → Same H H' → H D = none → H' D = some (.lst ((Sh.mk labs).map V.int)) → Q (.ref D) H') ∧
  ((¬ ∃ css labs, RdA t css ∧ Sh.Shs css ∧ Sh.Labs css labs ∧ shownT (Sh.mk labs) = t) → ∀ H', Same H H' → E (.ref CR) none H')
section
variable {P : Program} {w : World} {K : PySem.W.Frag} {mg : Str → Option Value} {base : Heap}
theorem nd_th : (["thing"] : List Str).Nodup := by decide +kernel
theorem nd_sh' : (["share"] : List Str).Nodup := by decide +kernel
theorem nd_pt : (["part"] : List Str).Nodup := by decide +kernel
theorem boot_str1 : bootBuiltins "str" = some (.type "str") := by decide +kernel
theorem log_small {i : Int} (h0 : 0 ≤ i) (h : i < 100) : i.natAbs.log2 < 1920 := by
  have h1 : i.natAbs < 2 ^ 7 := by omega
  by_cases z : i.natAbs = 0
  · rw [z]; decide
  · have := (Nat.log2_lt z).mpr h1
    omega
theorem scShownS : FnScope ["share"] ["share"] (defScope sShownS) := ⟨rfl, rfl, rfl, by decide +kernel, rfl, by decide +kernel, by decide +kernel⟩
theorem ok_showns {f : Addr} {fd : FuncData} (F : Fun K "shown_share" "shown_share" sShownS f fd) (mst : mg "str" = none) : FnOk P w K mg base CX0 1 f fd ["share"] (spShownS K) := by
  refine F.ok scShownS (fun vs H Q E h => ?_) (fun cdv A outer s H vs Q E hr h => ?_)
  · obtain ⟨a, c, rfl, _⟩ := h
    rfl
  obtain ⟨a, c, rfl, hS, hc, hl, q⟩ := h
  refine ⟨_, pss_one (ps_ret (pe_bm PySem.F.plainAttrs_str PySem.F.slot_str_join PySem.F.type_str_join mt_join pe_str (pa_cons (pe_comp ["thing"] [none] rfl rfl (pi_list (pv 0)) (fun _ _ _ _ => pg_name (i := 0) nd_th rfl (Or.inl rfl)) (fun _ _ _ _ => pts_nil)
    (fun _ _ _ _ => pe_callTy call_str_int rfl mst boot_str1 (pa_cons (pv 0) pa_nil))) pa_nil))), ?_⟩
  refine ⟨rfl, _, rfl, a, rfl, ⟨_, hS⟩, comp_list (K := K) (a := a) (xs := c.map V.int) (fun i zs τ H2 => ∃ v, τ = [v] ∧ H2 = H ∧ zs = ((c.take i).map tS).map V.str) ⟨none, rfl, rfl, rfl⟩ ?_ ?_ ?_⟩
  · rintro i zs τ H2 hi ⟨v, rfl, rfl, rfl⟩
    exact ⟨hS, small1000 (by rw [List.length_map, List.length_map, List.length_take]; omega)⟩
  · rintro i x zs τ H2 hi ⟨v, rfl, rfl, rfl⟩
    obtain ⟨z, hz, rfl⟩ := ints_get hi
    obtain ⟨z0, z1⟩ := hc z (List.mem_of_getElem? hz)
    refine ⟨_, rfl, z, rfl, log_small z0 z1, _, rfl, rfl, ?_⟩
    rw [List.take_add_one, hz, List.map_append, List.map_append]
    rfl
  · rintro zs τ H2 ⟨v, rfl, rfl, rfl⟩ D hD
    rw [List.length_map, List.take_length]
    have h2 := share_len hc
    refine ⟨_, D, c.map tS, rfl, rfl, SqL.of upd_same, ?_, q _ (same_upd hD _)⟩
    rw [List.length_map, show ((" " : Str).length) = 1 by decide]
    omega
theorem scShown : FnScope ["one"] ["one"] (defScope sShown) := ⟨rfl, rfl, rfl, by decide +kernel, rfl, by decide +kernel, by decide +kernel⟩
theorem ok_shown {f : Addr} {fd : FuncData} (F : Fun K "shown" "shown" sShown f fd) (GS : Fn P w K mg base "shares_of" ["one"] 4 (spShares K)) (GH : Fn P w K mg base "shown_share" ["share"] 1 (spShownS K)) : FnOk P w K mg base CX0 5 f fd ["one"] (spShown K) := by
  refine F.ok scShown (fun vs H Q E h => ?_) (fun cdv A outer s H vs Q E hr h => ?_)
  · obtain ⟨a, ns, rfl, _⟩ := h
    rfl
  obtain ⟨a, ns, rfl, hS, hg, q⟩ := h
  obtain ⟨hc, l1, l12⟩ := Sh.isSh_can hg
  have hr1 : Room 1 _ := hr.mono (by decide)
  refine ⟨_, pss_one (ps_ret (pe_bm PySem.F.plainAttrs_str PySem.F.slot_str_join PySem.F.type_str_join mt_join pe_str (pa_cons (pe_comp ["share"] [none] rfl rfl (pi_list (pe_fn GS hr (pa_cons (pv 0) pa_nil))) (fun _ _ _ _ => pg_name (i := 0) nd_sh' rfl (Or.inl rfl)) (fun _ _ _ _ => pts_nil)
    (fun _ _ _ _ => pe_fn GH hr1 (pa_cons (pv 0) pa_nil))) pa_nil))), ?_⟩
  have hfl : (Sh.shs ns).length ≤ 12 := by
    rw [Sh.shs_len]
    have := (Sh.fr_mk ns).1
    rw [Sh.mk_can hc] at this
    have := Sh.length_dd_le ns
    omega
  have hflat : (Sh.shs ns).flatten.length ≤ 12 := by rw [(Sh.shs_flat hc).length_eq, Sh.length_upto]; omega
  refine ⟨rfl, _, rfl, a, ns, rfl, hS, hg, fun D as H1 s1 fD dD nd nDa fr ll => ?_⟩
  refine ⟨D, rfl, ⟨_, SqL.of dD⟩, comp_list (K := K) (a := D) (xs := as.map V.ref) (fun i zs τ H2 => ∃ v, τ = [v] ∧ Same H1 H2 ∧ zs = (((Sh.shs ns).take i).map shareT).map V.str) ⟨none, rfl, Same.refl H1, rfl⟩ ?_ ?_ ?_⟩
  · rintro i zs τ H2 hi ⟨v, rfl, s2, rfl⟩
    exact ⟨SqL.of (s2 _ _ dD), small1000 (by rw [List.length_map, List.length_map, List.length_take]; omega)⟩
  · rintro i x zs τ H2 hi ⟨v, rfl, s2, rfl⟩
    obtain ⟨p, c, rfl, e1, e2, e3⟩ := ll.at hi
    have hcm := List.mem_of_getElem? e2
    have hcl : c.length ≤ (Sh.shs ns).flatten.length := by
      have := (List.sublist_flatten_of_mem hcm).length_le
      exact this
    refine ⟨_, rfl, p, c, rfl, SqL.of (s2 _ _ e3), shares_lt l12 c hcm, by omega, fun H3 s3 => ?_⟩
    refine ⟨_, rfl, s2.trans s3, ?_⟩
    rw [List.take_add_one, e2, List.map_append, List.map_append]
    rfl
  · rintro zs τ H2 ⟨v, rfl, s2, rfl⟩ D2 hD2
    rw [List.length_map, ll.1, List.take_length]
    have hsum := sum_shares (shares_lt (ns := ns) l12)
    refine ⟨_, D2, (Sh.shs ns).map shareT, rfl, rfl, SqL.of upd_same, ?_, q _ (s1.trans (s2.trans (same_upd hD2 _)))⟩
    rw [List.length_map, show (("/" : Str).length) = 1 by decide]
    omega
theorem scReadS : FnScope ["part", "written", "share", "word"] ["part"] (defScope sReadS) := ⟨rfl, rfl, rfl, by decide +kernel, rfl, by decide +kernel, by decide +kernel⟩
theorem in_wr (x : Str) : inV (.str x) (wr.map V.str) = decide (x ∈ wr) := by
  unfold inV
  rw [Bool.eq_iff_iff, List.any_eq_true, decide_eq_true_iff]
  constructor
  · rintro ⟨y, hy, e⟩
    obtain ⟨z, hz, rfl⟩ := List.mem_map.mp hy
    have : z = x := by simpa [eqV] using e
    rw [← this]
    exact hz
  · intro h
    exact ⟨.str x, List.mem_map.mpr ⟨x, h, rfl⟩, by simp [eqV]⟩
theorem flat_strs (ts : List Str) : (ts.map V.str).all flatV = true := by
  rw [List.all_eq_true]
  intro x hx
  obtain ⟨z, _, rfl⟩ := List.mem_map.mp hx
  rfl
theorem ok_reads1 {CR : Addr} (hq : PySem.W.excIn K CR bmVE "ValueError.__new__" = true) (mR : mg "NotRead" = some (.ref CR)) {f : Addr} {fd : FuncData} (F : Fun K "read_share" "read_share" sReadS f fd) (mst : mg "str" = none) (mr : mg "range" = none) {tk : Tok} (mt : mg "MOST_THINGS" = some (.int 12 tk)) : FnOk P w K mg base (CX1 P w) 1 f fd ["part"] (spReadS1 K CR) := by
  refine F.ok1 scReadS (fun vs H Q E h => ?_) (fun cdv A outer s H vs Q E hr h => ?_)
  · obtain ⟨p, rfl, _⟩ := h
    rfl
  obtain ⟨p, rfl, hp, q, qE⟩ := h
  have hu := hu_of hr
  refine ⟨_, pss_cons (ps_comp (k := 1) ["thing"] [none] rfl rfl scReadS.nd rfl (Or.inl rfl) (pi_range1 rfl mr (pa_cons (pe_glob (v := .int 12) rfl mt ⟨_, rfl⟩) pa_nil)) (fun _ _ _ _ => pg_name (i := 0) nd_th rfl (Or.inl rfl)) (fun _ _ _ _ => pts_nil) (fun _ _ _ _ => pe_callTy call_str_int rfl mst boot_str1 (pa_cons (pv 0) pa_nil)))
    (pss_cons (ps_set (i := 2) scReadS.nd rfl (Or.inl rfl) (pe_lst pa_nil))
    (pss_cons (ps_for PassesOwn.leaving rfl (pi_list (pe_bm PySem.F.plainAttrs_str PySem.F.slot_str_split PySem.F.type_str_split mt_split (pv 0) (pa_cons pe_str pa_nil))) (pg_name (i := 3) scReadS.nd rfl (Or.inl rfl))
      (pss_cons (ps_if (pt_cmpR op_notIn_seq (pv 3) (pv 1) rfl) (pss_one (ps_raise hq rfl mR (pa_cons pe_str pa_nil))) pss_nil)
      (pss_one (ps_expr (pe_bm PySem.F.plainAttrs_list PySem.F.slot_list_append PySem.F.type_list_append mt_append (pv 2) (pa_cons (pe_bm PySem.F.plainAttrs_list PySem.F.slot_list_index PySem.F.type_list_index (mt_index (labStr K) hu) (pv 1) (pa_cons (pv 3) pa_nil)) pa_nil))))))
    (pss_one (ps_ret (pv 2))))), ?_⟩
  refine ⟨_, rfl, by decide, by decide, ?_⟩
  refine comp_range (lo := 0) (n := 12) (fun i zs τ H2 => ∃ v, τ = [v] ∧ H2 = H ∧ zs = ((List.range i).map fun (k : Nat) => tS (k : Int)).map V.str) ⟨none, rfl, rfl, rfl⟩ ?_ ?_ ?_
  · rintro i zs τ H2 hi ⟨v, rfl, rfl, rfl⟩
    exact small1000 (by rw [List.length_map, List.length_map, List.length_range]; omega)
  · rintro i zs τ H2 hi ⟨v, rfl, rfl, rfl⟩
    rw [Int.zero_add]
    refine ⟨_, rfl, (i : Int), rfl, log_small (by omega) (by omega), _, rfl, rfl, ?_⟩
    rw [List.range_succ, List.map_append, List.map_append]
    rfl
  rintro zs τ H2 ⟨v, rfl, rfl, rfl⟩ W hW
  refine ⟨(by show 0 ≤ sizeLine; decide), fun sh hsh => ?_⟩
  have s1 : Same H2 (upd (upd H2 W (.lst (wr.map V.str))) sh (.lst [])) := (same_upd hW _).trans (same_upd hsh _)
  have gW : (upd (upd H2 W (.lst (wr.map V.str))) sh (.lst [])) W = some (.lst (wr.map V.str)) := same_upd hsh _ _ _ upd_same
  have gs : (upd (upd H2 W (.lst (wr.map V.str))) sh (.lst [])) sh = some (.lst (([] : List Int).map V.int)) := upd_same
  have hsh0 : H2 sh = none := (same_upd hW (.lst (wr.map V.str))).free hsh
  have nWs : W ≠ sh := fun e => by subst e; rw [upd_same] at hsh; cases hsh
  have hsl := split_le p (" " : Str)
  refine ⟨_, rfl, rfl, p, (" " : Str), rfl, rfl, by decide, by omega, fun L hL => ?_⟩
  have sL := same_upd hL (.lst ((Txt.split p " ").map V.str))
  refine ⟨L, rfl, ⟨_, SqL.of upd_same⟩, for_list (K := K) (a := L) (xs := (Txt.split p " ").map V.str) (fun i σ H3 => ∃ (c : List Int) (v : Option V), σ = [some (.str p), some (.ref W), some (.ref sh), v] ∧ Same H2 H3 ∧ H3 L = some (.lst ((Txt.split p " ").map V.str)) ∧ H3 W = some (.lst (wr.map V.str)) ∧ H3 sh = some (.lst (c.map V.int)) ∧ ((Txt.split p " ").take i).map rdW = c.map some)
    ⟨[], none, rfl, s1.trans sL, upd_same, sL _ _ gW, sL _ _ gs, rfl⟩ (fun i σ H3 _ ⟨_, _, _, _, hl, _⟩ => SqL.of hl) ?_ ?_⟩
  · rintro i x σ H3 hi ⟨c, v, rfl, s3, hl3, hW3, hs3, hm⟩
    rw [List.getElem?_map] at hi
    cases ew : (Txt.split p " ")[i]? with
    | none => rw [ew] at hi; cases hi
    | some x' =>
      rw [ew] at hi
      cases hi
      have hil := (List.getElem?_eq_some_iff.mp ew).1
      have hcl : c.length = i := by
        have := congrArg List.length hm
        rw [List.length_map, List.length_map, List.length_take] at this
        omega
      refine ⟨_, rfl, _, rfl, W, _, rfl, .inl (SqL.of hW3), rfl, flat_strs wr, _, rfl, ?_⟩
      rw [in_wr]
      by_cases cw : x' ∈ wr
      · rw [decide_eq_true cw]
        refine iteF ?_
        have ei : rdW x' = some ((wr.idxOf x' : Nat) : Int) := if_pos cw
        refine ⟨_, rfl, .inl ⟨rfl, _, SqL.of hs3⟩, _, rfl, .inl ⟨rfl, _, SqL.of hW3⟩, _, rfl, W, _, wr, x', .str x', rfl, rfl, SqL.of hW3, labs_str wr, rfl, cw, ?_⟩
        refine ⟨sh, _, _, rfl, rfl, hs3, small1000 (by rw [List.length_map]; omega), ?_⟩
        have nLs : L ≠ sh := (ne_of_none gs hL).symm
        refine ⟨c ++ [((wr.idxOf x' : Nat) : Int)], _, rfl, s3.upd2 hsh0, by rw [upd_ne nLs]; exact hl3, by rw [upd_ne nWs]; exact hW3, by rw [upd_same, List.map_append]; rfl, ?_⟩
        rw [List.take_add_one, ew, List.map_append, List.map_append, hm]
        show _ ++ [rdW x'] = _ ++ [some _]
        rw [ei]
      · rw [decide_eq_false cw]
        refine iteT ?_
        refine ⟨(by show 1 ≤ sizeLine; decide), qE ?_ _ s3⟩
        rintro ⟨c', hc'⟩
        have h1 : (Txt.split p " ")[i]?.map rdW = c'[i]?.map some := by rw [← List.getElem?_map, ← List.getElem?_map, hc']
        rw [ew] at h1
        have h2 : rdW x' = none := if_neg cw
        cases e3 : c'[i]? with
        | none => rw [e3] at h1; cases h1
        | some y =>
          rw [e3] at h1
          have := Option.some.inj h1
          rw [h2] at this
          cases this
  · rintro σ H3 ⟨c, v, rfl, s3, hl3, hW3, hs3, hm⟩
    rw [List.length_map, List.take_length] at hm
    exact ⟨_, rfl, q c sh H3 hm s3 hsh0 hs3⟩
end
theorem flat_bound : ∀ (ps : List Str) (css : List (List Int)), ps.length = css.length → (∀ (i : Nat) (p : Str) (c : List Int), ps[i]? = some p → css[i]? = some c → RdS p c) → css.flatten.length ≤ (ps.map (·.length)).sum + ps.length
  | [], [], _, _ => by simp
  | [], _ :: _, h, _ => by simp at h
  | _ :: _, [], h, _ => by simp at h
  | p :: ps, c :: css, h, r => by
    have h1 := r 0 p c rfl rfl
    have h2 : c.length = (Txt.split p " ").length := by
      have := congrArg List.length h1
      rw [List.length_map, List.length_map] at this
      exact this.symm
    have h3 := split_weight p (" " : Str) (by decide)
    have h4 := flat_bound ps css (by simpa using h) fun i q d e1 e2 => r (i + 1) q d e1 e2
    rw [List.flatten_cons, List.length_append, List.map_cons, List.sum_cons, List.length_cons]
    omega
section
variable {P : Program} {w : World} {K : PySem.W.Frag} {mg : Str → Option Value} {base : Heap}
theorem scRead : FnScope ["text", "shares", "marks"] ["text"] (defScope sRead) := ⟨rfl, rfl, rfl, by decide +kernel, rfl, by decide +kernel, by decide +kernel⟩
theorem ok_read1 {CR CN : Addr} (hq : PySem.W.excIn K CR bmVE "ValueError.__new__" = true) (mR : mg "NotRead" = some (.ref CR)) {f : Addr} {fd : FuncData} (F : Fun K "read" "read" sRead f fd) (GS : Fn1 P w K mg base "read_share" ["part"] 1 (spReadS1 K CR)) (GA : Fn P w K mg base "are_shares" ["shares"] 2 (spAre K)) (GM : Fn1 P w K mg base "marks_of" ["shares"] 3 (spMarks1 K CN)) (GW : Fn P w K mg base "shown" ["one"] 5 (spShown K)) : FnOk P w K mg base (CX1 P w) 6 f fd ["text"] (spRead1 K CR) := by
  refine F.ok1 scRead (fun vs H Q E h => ?_) (fun cdv A outer s H vs Q E hr h => ?_)
  · obtain ⟨t, rfl, _⟩ := h
    rfl
  obtain ⟨t, rfl, ht, q, qE⟩ := h
  have hr1 : Room 1 _ := hr.mono (by decide)
  refine ⟨_, pss_cons (ps_comp1 (k := 1) ["part"] [none] rfl scRead.nd rfl (Or.inl rfl) (pi_list (pe_bm PySem.F.plainAttrs_str PySem.F.slot_str_split PySem.F.type_str_split mt_split (pv 0) (pa_cons pe_str pa_nil))) (fun _ _ _ _ => pg_name (i := 0) nd_pt rfl (Or.inl rfl)) (fun _ _ _ _ => pts_nil) (fun _ _ _ _ => pe_fn1c GS hr1 (pa_cons (pv 0) pa_nil)))
    (pss_cons (ps_if (pt_not (pt_val (pe_fn GA (hr.mono (by decide)) (pa_cons (pv 1) pa_nil)))) (pss_one (ps_raise hq rfl mR (pa_cons pe_str pa_nil))) pss_nil)
    (pss_cons (ps_set (i := 2) scRead.nd rfl (Or.inl rfl) (pe_fn1 GM (hr.mono (by decide)) (pa_cons (pv 1) pa_nil)))
    (pss_cons (ps_if (pt_cmpR op_ne (pe_fn GW hr (pa_cons (pv 2) pa_nil)) (pv 0) (nomark _)) (pss_one (ps_raise hq rfl mR (pa_cons pe_str pa_nil))) pss_nil)
    (pss_one (ps_ret (pv 2)))))), ?_⟩
  have hsl := split_weight t ("/" : Str) (by decide)
  refine ⟨_, rfl, rfl, t, ("/" : Str), rfl, rfl, by decide, by omega, fun L hL => ?_⟩
  have sL := same_upd hL (.lst ((Txt.split t "/").map V.str))
  refine ⟨L, rfl, ⟨_, SqL.of upd_same⟩, comp_list (K := K) (a := L) (xs := (Txt.split t "/").map V.str) (fun i zs τ H2 => ∃ (v : Option V) (as : List Addr) (css : List (List Int)), τ = [v] ∧ Same H H2 ∧ H2 L = some (.lst ((Txt.split t "/").map V.str)) ∧ zs = as.map V.ref ∧ LL H2 as css ∧ css.length = i ∧ ∀ (j : Nat) (p : Str) (c : List Int), (Txt.split t "/")[j]? = some p → css[j]? = some c → RdS p c)
    ⟨none, [], [], rfl, sL, upd_same, rfl, ⟨rfl, fun k p c e => by simp at e⟩, rfl, fun j p c _ e => by simp at e⟩ ?_ ?_ ?_⟩
  · rintro i zs τ H2 hi ⟨v, as, css, rfl, s2, hL2, rfl, ll, hc, hrd⟩
    rw [List.length_map] at hi
    exact ⟨SqL.of hL2, small1000 (by rw [List.length_map, ll.1]; omega)⟩
  · rintro i x zs τ H2 hi ⟨v, as, css, rfl, s2, hL2, rfl, ll, hc, hrd⟩
    rw [List.getElem?_map] at hi
    cases ep : (Txt.split t "/")[i]? with
    | none => rw [ep] at hi; cases hi
    | some p =>
      rw [ep] at hi
      cases hi
      have hpl := part_short (List.mem_of_getElem? ep)
      refine ⟨_, rfl, p, rfl, by omega, fun c D H3 rd s3 f3 d3 => ?_, fun nr H3 s3 => ?_⟩
      · refine ⟨_, as ++ [D], css ++ [c], rfl, s2.trans s3, s3 _ _ hL2, by rw [List.map_append]; rfl, (ll.mono s3).snoc d3, by rw [List.length_append, hc]; rfl, fun j p' c' e1 e2 => ?_⟩
        by_cases hj : j < css.length
        · rw [List.getElem?_append_left hj] at e2
          exact hrd j p' c' e1 e2
        · have hj' : j < (css ++ [c]).length := (List.getElem?_eq_some_iff.mp e2).1
          have ej : j = css.length := by rw [List.length_append, List.length_singleton] at hj'; omega
          subst ej
          rw [List.getElem?_append_right (Nat.le_refl _), Nat.sub_self] at e2
          have e2' : c = c' := by simpa using e2
          rw [hc, ep] at e1
          cases e1
          subst e2'
          exact rd
      · refine qE ?_ H3 (s2.trans s3)
        rintro ⟨css', labs, ⟨hl, hr'⟩, _⟩
        have hi' := (List.getElem?_eq_some_iff.mp ep).1
        exact nr ⟨_, hr' i p _ ep (List.getElem?_eq_getElem (by omega))⟩
  rintro zs τ H2 ⟨v, as, css, rfl, s2, hL2, rfl, ll, hc, hrd⟩ D hD
  rw [List.length_map] at hc
  have rdA : RdA t css := ⟨hc.symm, hrd⟩
  have hflat := flat_bound _ css hc.symm hrd
  have sD := same_upd hD (.lst (as.map V.ref))
  have llD := ll.mono sD
  have s3 := s2.trans sD
  refine ⟨_, rfl, D, as, css, rfl, upd_same, llD, by omega, fun b H4 hb s4 => ⟨_, rfl, ?_⟩⟩
  refine ite2 (fun c => ?_) (fun c => ?_)
  · have nb : ¬ Sh.Shs css := fun z => by rw [hb.mpr z] at c; cases c
    refine ⟨(by show 1 ≤ sizeLine; decide), qE ?_ H4 (s3.trans s4)⟩
    rintro ⟨css', labs, ⟨hl, hr'⟩, hs', _⟩
    have e : css' = css := by
      refine List.ext_getElem? fun i => ?_
      by_cases hi : i < css.length
      · have hp : i < (Txt.split t "/").length := by omega
        have e1 := hr' i _ _ (List.getElem?_eq_getElem hp) (List.getElem?_eq_getElem (by omega))
        have e2 := hrd i _ _ (List.getElem?_eq_getElem hp) (List.getElem?_eq_getElem hi)
        unfold RdS at e1 e2
        rw [e1] at e2
        rw [List.getElem?_eq_getElem hi, List.getElem?_eq_getElem (by omega)]
        congr 1
        exact (List.map_inj_right (fun a b h => Option.some.inj h)).mp e2
      · rw [List.getElem?_eq_none (by omega), List.getElem?_eq_none (by omega)]
    rw [e] at hs'
    exact nb hs'
  · have hsh : Sh.Shs css := hb.mp (by cases b with | true => rfl | false => exact absurd rfl c)
    refine ⟨_, rfl, D, as, css, rfl, s4 _ _ upd_same, llD.mono s4, by omega, fun _ M labs H5 s5 f5 lab d5 => ?_, fun nsh => absurd hsh nsh⟩
    obtain ⟨z1, z2, z3, z4⟩ := id hsh
    have l1 : labs.length = css.flatten.length := lab.1
    have ish : Sh.isSh (Sh.mk labs) = true := Sh.isSh_of (Sh.can_mk labs) (by rw [Sh.length_mk]; omega) (by rw [Sh.length_mk]; omega)
    refine ⟨_, rfl, M, Sh.mk labs, rfl, SqL.of d5, ish, fun H6 s6 => ?_⟩
    refine ⟨_, rfl, rfl, _, rfl, ?_⟩
    have fM : H M = none := (s3.trans s4).free f5
    by_cases e : shownT (Sh.mk labs) = t
    · rw [decide_eq_true (by rw [e])]
      refine iteF ?_
      exact ⟨_, rfl, q css labs M H6 rdA hsh lab e (s3.trans (s4.trans (s5.trans s6))) fM (s6 _ _ d5)⟩
    · rw [decide_eq_false (fun z => e (by injection z))]
      refine iteT ?_
      refine ⟨(by show 1 ≤ sizeLine; decide), qE ?_ H6 (s3.trans (s4.trans (s5.trans s6)))⟩
      rintro ⟨css', labs', ⟨hl, hr'⟩, hs', lab', e'⟩
      have ec : css' = css := by
        refine List.ext_getElem? fun i => ?_
        by_cases hi : i < css.length
        · have hp : i < (Txt.split t "/").length := by omega
          have e1 := hr' i _ _ (List.getElem?_eq_getElem hp) (List.getElem?_eq_getElem (by omega))
          have e2 := hrd i _ _ (List.getElem?_eq_getElem hp) (List.getElem?_eq_getElem hi)
          unfold RdS at e1 e2
          rw [e1] at e2
          rw [List.getElem?_eq_getElem hi, List.getElem?_eq_getElem (by omega)]
          congr 1
          exact (List.map_inj_right (fun a b h => Option.some.inj h)).mp e2
        · rw [List.getElem?_eq_none (by omega), List.getElem?_eq_none (by omega)]
      subst ec
      have el : labs' = labs := by
        refine List.ext_getElem? fun i => ?_
        by_cases hi : i < css'.flatten.length
        · have hin : ((i : Nat) : Int) ∈ css'.flatten := z4.mem_iff.mpr (Sh.mem_upto.mpr ⟨by omega, by omega⟩)
          obtain ⟨c, hc', hic⟩ := List.mem_flatten.mp hin
          obtain ⟨k, hk, ek⟩ := Sh.mem_ix hc'
          rw [lab.2 i k c ek hic, lab'.2 i k c ek hic]
        · rw [List.getElem?_eq_none (by rw [lab'.1]; omega), List.getElem?_eq_none (by omega)]
      rw [el] at e'
      exact e e'
end
section
variable {P : Program} {w : World} {K : PySem.W.Frag} {mg : Str → Option Value} {base : Heap}
theorem scCell : FnScope ["script", "k"] ["script", "k"] (defScope sCell) := ⟨rfl, rfl, rfl, by decide +kernel, rfl, by decide +kernel, by decide +kernel⟩
theorem ok_cell {f : Addr} {fd : FuncData} (F : Fun K "_law_cell_at" "_law_cell_at" sCell f fd) (ml : mg "len" = none) : FnOk P w K mg base CX0 1 f fd ["script", "k"] (spCell K) := by
  refine F.ok scCell (fun vs H Q E h => ?_) (fun cdv A outer s H vs Q E hr h => ?_)
  · obtain ⟨a, ns, k, rfl, _⟩ := h
    rfl
  obtain ⟨a, ns, k, rfl, hS, h0, q⟩ := h
  refine ⟨_, pss_cons (ps_if (pt_cmpR op_lt (pv 1) (pe_callB call_len_seq rfl ml PySem.boot_len (pa_cons (pv 0) pa_nil)) (nomark _)) (pss_one (ps_ret (pe_ix ix_list (pv 0) (pv 1) (fun _ _ => rfl)))) pss_nil) (pss_one (ps_ret pe_int)), ?_⟩
  refine ⟨_, rfl, _, rfl, a, _, rfl, .inl hS, _, _, rfl, rfl, _, rfl, ?_⟩
  refine ite2 (fun c => ?_) (fun c => ?_)
  · have c' := of_decide_eq_true c
    rw [List.length_map] at c'
    have hk : k.toNat < ns.length := by omega
    have ek : k = ((k.toNat : Nat) : Int) := by omega
    have ha : atI (ns.map V.int) k = some (.int (Sh.cell ns k)) := by
      have z : atI (ns.map V.int) ((k.toNat : Nat) : Int) = some (.int (Sh.cell ns k)) := atI_nat (by
        rw [List.getElem?_map, List.getElem?_eq_getElem hk]
        unfold Sh.cell
        rw [List.getD_eq_getElem?_getD, List.getElem?_eq_getElem hk]
        rfl)
      rw [← ek] at z
      exact z
    exact ⟨_, rfl, _, rfl, a, _, _, _, rfl, rfl, hS, ha, q⟩
  · have c' : ¬ k < (ns.length : Int) := fun z => c (by rw [List.length_map]; exact decide_eq_true z)
    have e : Sh.cell ns k = 0 := by
      unfold Sh.cell
      rw [List.getD_eq_getElem?_getD, List.getElem?_eq_none (by omega)]
      rfl
    rw [e] at q
    exact q
end
theorem RA.mono {C : Addr} {H H' : Hp} {E : XK} (h : RA C H E) (s : Same H H') : RA C H' E := fun H2 s2 => h H2 (s.trans s2)
theorem at_some {xs : List V} {p : Int} (h0 : 0 ≤ p) (h1 : p < xs.length) : ∃ (k : Nat) (v : V), p = (k : Int) ∧ xs[k]? = some v ∧ atI xs p = some v := by
  have hk : p.toNat < xs.length := by omega
  refine ⟨p.toNat, xs[p.toNat], by omega, List.getElem?_eq_getElem hk, ?_⟩
  have : atI xs ((p.toNat : Nat) : Int) = some xs[p.toNat] := atI_nat (List.getElem?_eq_getElem hk)
  rw [show ((p.toNat : Nat) : Int) = p by omega] at this
  exact this
def spOfTwo (K : PySem.W.Frag) (CN CU CF : Addr) : Sp := fun vs H _ E => ∃ (wy : Int) (a b : Addr) (ns ms : List Int) (C : Addr), vs = [.int wy, .ref a, .ref b] ∧ SqL K H a (ns.map V.int) ∧ SqL K H b (ms.map V.int) ∧ (BadA CN CU ns ms C ∨ (3 ≤ wy ∧ C = CF ∧ Sh.isSh ns = true ∧ Sh.isSh ms = true ∧ ns.length = ms.length ∧ ¬ Sh.mk (ns.zip ms) = ns)) ∧ RA C H E
def spCF (K : PySem.W.Frag) (C : Addr) : Sp := fun vs H _ E => ∃ cell far : Int, vs = [.int cell, .int far] ∧ 0 ≤ far ∧ RA C H E
section
variable {P : Program} {w : World} {K : PySem.W.Frag} {mg : Str → Option Value} {base : Heap}
theorem scOfTwo : FnScope ["way", "one", "other"] ["way", "one", "other"] (defScope sOfTwo) := ⟨rfl, rfl, rfl, by decide +kernel, rfl, by decide +kernel, by decide +kernel⟩
theorem ok_oftwo {CN CU CF : Addr} (G0 : Fn1 P w K mg base "is_finer" ["one", "other"] 6 (spTwoR K CN CU)) (G1 : Fn1 P w K mg base "meeting" ["one", "other"] 5 (spTwoR K CN CU)) (G2 : Fn1 P w K mg base "joining" ["one", "other"] 6 (spTwoR K CN CU)) (G3 : Fn1 P w K mg base "rise" ["one", "other"] 8 (spThreeR K CN CU CF)) (G4 : Fn1 P w K mg base "many_rises" ["one", "other"] 8 (spThreeR K CN CU CF)) (G5 : Fn1 P w K mg base "signed" ["one", "other"] 8 (spThreeR K CN CU CF)) {f : Addr} {fd : FuncData} (F : Fun K "_law_of_two" "_law_of_two" sOfTwo f fd) : FnOk P w K mg base (CX1 P w) 9 f fd ["way", "one", "other"] (spOfTwo K CN CU CF) := by
  refine F.ok1 scOfTwo (fun vs H Q E h => ?_) (fun cdv A outer s H vs Q E hr h => ?_)
  · obtain ⟨wy, a, b, ns, ms, C, rfl, _⟩ := h
    rfl
  obtain ⟨wy, a, b, ns, ms, C, rfl, hA, hB, hbad, qE⟩ := h
  refine ⟨_, pss_one (ps_if (pt_cmpR op_eq (pv 0) pe_int (nomark _)) (pss_one (ps_expr (pe_fn1 G0 (hr.mono (by decide)) (pa_cons (pv 1) (pa_cons (pv 2) pa_nil))))) (pss_one (ps_if (pt_cmpR op_eq (pv 0) pe_int (nomark _)) (pss_one (ps_expr (pe_fn1 G1 (hr.mono (by decide)) (pa_cons (pv 1) (pa_cons (pv 2) pa_nil))))) (pss_one (ps_if (pt_cmpR op_eq (pv 0) pe_int (nomark _)) (pss_one (ps_expr (pe_fn1 G2 (hr.mono (by decide)) (pa_cons (pv 1) (pa_cons (pv 2) pa_nil))))) (pss_one (ps_if (pt_cmpR op_eq (pv 0) pe_int (nomark _)) (pss_one (ps_expr (pe_fn1 G3 (hr.mono (by decide)) (pa_cons (pv 1) (pa_cons (pv 2) pa_nil))))) (pss_one (ps_if (pt_cmpR op_eq (pv 0) pe_int (nomark _)) (pss_one (ps_expr (pe_fn1 G4 (hr.mono (by decide)) (pa_cons (pv 1) (pa_cons (pv 2) pa_nil))))) (pss_one (ps_expr (pe_fn1 G5 (hr.mono (by decide)) (pa_cons (pv 1) (pa_cons (pv 2) pa_nil)))))))))))))), ?_⟩
  have lo : wy < 3 → BadA CN CU ns ms C := fun h => by
    rcases hbad with h' | ⟨h', _⟩
    · exact h'
    · omega
  have hi : BadA CN CU ns ms C ∨ (C = CF ∧ Sh.isSh ns = true ∧ Sh.isSh ms = true ∧ ns.length = ms.length ∧ ¬ Sh.mk (ns.zip ms) = ns) := by
    rcases hbad with h' | ⟨_, h'⟩
    · exact .inl h'
    · exact .inr h'
  have eqv : ∀ {k : Int}, decide (V.int wy = V.int k) = true → wy = k := fun h => by
    have := of_decide_eq_true h
    injection this
  refine ⟨_, rfl, rfl, _, rfl, ?_⟩
  refine ite2 (fun c => ?_) (fun _ => ?_)
  · exact ⟨_, rfl, _, rfl, a, b, ns, ms, C, rfl, hA, hB, lo (by rw [eqv c]; decide), qE⟩
  refine ⟨_, rfl, rfl, _, rfl, ?_⟩
  refine ite2 (fun c => ?_) (fun _ => ?_)
  · exact ⟨_, rfl, _, rfl, a, b, ns, ms, C, rfl, hA, hB, lo (by rw [eqv c]; decide), qE⟩
  refine ⟨_, rfl, rfl, _, rfl, ?_⟩
  refine ite2 (fun c => ?_) (fun _ => ?_)
  · exact ⟨_, rfl, _, rfl, a, b, ns, ms, C, rfl, hA, hB, lo (by rw [eqv c]; decide), qE⟩
  refine ⟨_, rfl, rfl, _, rfl, ?_⟩
  refine ite2 (fun c => ?_) (fun _ => ?_)
  · exact ⟨_, rfl, _, rfl, a, b, ns, ms, C, rfl, hA, hB, hi, qE⟩
  refine ⟨_, rfl, rfl, _, rfl, ?_⟩
  refine ite2 (fun c => ?_) (fun _ => ?_)
  · exact ⟨_, rfl, _, rfl, a, b, ns, ms, C, rfl, hA, hB, hi, qE⟩
  exact ⟨_, rfl, _, rfl, a, b, ns, ms, C, rfl, hA, hB, hi, qE⟩
theorem scLNoTh : FnScope ["cell", "far", "things", "way"] ["cell", "far"] (defScope sLNoTh) := ⟨rfl, rfl, rfl, by decide +kernel, rfl, by decide +kernel, by decide +kernel⟩
theorem ok_lnoth {C : Addr} (G0 : Fn1 P w K mg base "many" ["things"] 3 (spThR K C)) (G1 : Fn1 P w K mg base "many_with" ["things", "shares"] 3 (spThR2 K C)) (G2 : Fn1 P w K mg base "sharing_at" ["things", "number"] 3 (spThR2 K C)) (G3 : Fn1 P w K mg base "sharing_of" ["things", "pairs"] 3 (spThR2 K C)) (G4 : Fn1 P w K mg base "way_by" ["things", "pairs", "one", "other"] 3 (spThR4 K C)) (G5 : Fn1 P w K mg base "judged" ["things", "together", "apart"] 4 (spThR3 K C)) {f : Addr} {fd : FuncData} (F : Fun K "_law_no_things" "_law_no_things" sLNoTh f fd) : FnOk P w K mg base (CX1 P w) 5 f fd ["cell", "far"] (spCF K C) := by
  refine F.ok1 scLNoTh (fun vs H Q E h => ?_) (fun cdv A outer s H vs Q E hr h => ?_)
  · obtain ⟨cell, far, rfl, _⟩ := h
    rfl
  obtain ⟨cell, far, rfl, h0, qE⟩ := h
  refine ⟨_, pss_cons (ps_set (i := 2) scLNoTh.nd rfl (Or.inl rfl) (pe_ix ix_list (pe_lst (pa_cons pe_int (pa_cons pe_int (pa_cons (pe_un un_neg (pv 1)) (pa_cons (pe_op op_add pe_int (pv 1)) pa_nil))))) (pe_op op_mod (pv 0) pe_int) (fun _ _ => rfl))) (pss_cons (ps_set (i := 3) scLNoTh.nd rfl (Or.inl rfl) (pe_op op_mod (pe_op op_fdiv (pv 0) pe_int) pe_int)) (pss_one (ps_if (pt_cmpR op_eq (pv 3) pe_int (nomark _)) (pss_one (ps_expr (pe_fn1 G0 (hr.mono (by decide)) (pa_cons (pv 2) pa_nil)))) (pss_one (ps_if (pt_cmpR op_eq (pv 3) pe_int (nomark _)) (pss_one (ps_expr (pe_fn1 G1 (hr.mono (by decide)) (pa_cons (pv 2) (pa_cons (pe_un un_neg pe_int) pa_nil))))) (pss_one (ps_if (pt_cmpR op_eq (pv 3) pe_int (nomark _)) (pss_one (ps_expr (pe_fn1 G2 (hr.mono (by decide)) (pa_cons (pv 2) (pa_cons (pe_un un_neg pe_int) pa_nil))))) (pss_one (ps_if (pt_cmpR op_eq (pv 3) pe_int (nomark _)) (pss_one (ps_expr (pe_fn1 G3 (hr.mono (by decide)) (pa_cons (pv 2) (pa_cons (pe_lst (pa_cons (pe_tup (pa_cons pe_int (pa_cons pe_int pa_nil))) pa_nil)) pa_nil))))) (pss_one (ps_if (pt_cmpR op_eq (pv 3) pe_int (nomark _)) (pss_one (ps_expr (pe_fn1 G4 (hr.mono (by decide)) (pa_cons (pv 2) (pa_cons (pe_lst pa_nil) (pa_cons pe_int (pa_cons pe_int pa_nil))))))) (pss_one (ps_expr (pe_fn1 G5 (hr.mono (by decide)) (pa_cons (pv 2) (pa_cons (pe_lst (pa_cons (pe_tup (pa_cons pe_int (pa_cons (pe_un un_neg pe_int) pa_nil))) pa_nil)) (pa_cons (pe_lst (pa_cons (pe_tup (pa_cons pe_int (pa_cons pe_int pa_nil))) pa_nil)) pa_nil))))))))))))))))), ?_⟩
  refine ⟨_, rfl, _, rfl, _, rfl, _, _, rfl, rfl, (by show 4 ≤ sizeLine; decide), fun l hl => ?_⟩
  have s1 := same_upd hl (.lst [.int 0, .int 13, .int (-far), .int (13 + far)])
  have m0 := Int.emod_nonneg cell (by decide : (4 : Int) ≠ 0)
  have m1 := Int.emod_lt_of_pos cell (by decide : (0 : Int) < 4)
  obtain ⟨k, v, ek, ev, ea⟩ := at_some (xs := [.int 0, .int 13, .int (-far), .int (13 + far)]) m0 m1
  obtain ⟨n, rfl, hn⟩ : ∃ n : Int, v = .int n ∧ ¬ (1 ≤ n ∧ n ≤ 12) := by
    match k, ev with
    | 0, ev => exact ⟨0, (Option.some.inj ev).symm, by omega⟩
    | 1, ev => exact ⟨13, (Option.some.inj ev).symm, by omega⟩
    | 2, ev => exact ⟨-far, (Option.some.inj ev).symm, by omega⟩
    | 3, ev => exact ⟨13 + far, (Option.some.inj ev).symm, by omega⟩
    | k + 4, ev => simp at ev
  refine ⟨_, rfl, _, _, rfl, rfl, (by show (0 : Int) < 4; decide), l, _, _, _, rfl, rfl, SqL.of upd_same, ea, ?_⟩
  refine ⟨_, rfl, _, _, rfl, rfl, ⟨by decide, by decide⟩, _, _, rfl, rfl, (by show (0 : Int) < 6; decide), ?_⟩
  have q1 := qE.mono s1
  refine ⟨_, rfl, rfl, _, rfl, ?_⟩
  refine ite2 (fun _ => ?_) (fun _ => ?_)
  · exact ⟨_, rfl, n, rfl, hn, q1⟩
  refine ⟨_, rfl, rfl, _, rfl, ?_⟩
  refine ite2 (fun _ => ?_) (fun _ => ?_)
  · exact ⟨_, rfl, _, rfl, n, _, rfl, hn, q1⟩
  refine ⟨_, rfl, rfl, _, rfl, ?_⟩
  refine ite2 (fun _ => ?_) (fun _ => ?_)
  · exact ⟨_, rfl, _, rfl, n, _, rfl, hn, q1⟩
  refine ⟨_, rfl, rfl, _, rfl, ?_⟩
  refine ite2 (fun _ => ?_) (fun _ => ?_)
  · exact ⟨_, rfl, (by show 2 ≤ sizeLine; decide), fun t ht => ⟨(by show 1 ≤ sizeLine; decide), fun l2 hl2 => ⟨n, _, rfl, hn, q1.mono ((same_upd ht _).trans (same_upd hl2 _))⟩⟩⟩
  refine ⟨_, rfl, rfl, _, rfl, ?_⟩
  refine ite2 (fun _ => ?_) (fun _ => ?_)
  · exact ⟨_, rfl, (by show 0 ≤ sizeLine; decide), fun l2 hl2 => ⟨n, _, _, _, rfl, hn, q1.mono (same_upd hl2 _)⟩⟩
  exact ⟨_, rfl, _, rfl, (by show 2 ≤ sizeLine; decide), fun t ht => ⟨(by show 1 ≤ sizeLine; decide), fun l2 hl2 => ⟨(by show 2 ≤ sizeLine; decide), fun t2 ht2 => ⟨(by show 1 ≤ sizeLine; decide), fun l3 hl3 => ⟨n, _, _, rfl, hn, q1.mono ((same_upd ht _).trans ((same_upd hl2 _).trans ((same_upd ht2 _).trans (same_upd hl3 _))))⟩⟩⟩⟩⟩
theorem scLNoN : FnScope ["cell", "far", "way"] ["cell", "far"] (defScope sLNoN) := ⟨rfl, rfl, rfl, by decide +kernel, rfl, by decide +kernel, by decide +kernel⟩
theorem ok_lnon {C : Addr} (G0 : Fn1 P w K mg base "many_with" ["things", "shares"] 3 (spWithN K C)) (G1 : Fn1 P w K mg base "sharing_at" ["things", "number"] 4 (spAtN K C)) {f : Addr} {fd : FuncData} (F : Fun K "_law_no_number" "_law_no_number" sLNoN f fd) : FnOk P w K mg base (CX1 P w) 5 f fd ["cell", "far"] (spCF K C) := by
  refine F.ok1 scLNoN (fun vs H Q E h => ?_) (fun cdv A outer s H vs Q E hr h => ?_)
  · obtain ⟨cell, far, rfl, _⟩ := h
    rfl
  obtain ⟨cell, far, rfl, h0, qE⟩ := h
  refine ⟨_, pss_cons (ps_set (i := 2) scLNoN.nd rfl (Or.inl rfl) (pe_op op_mod (pv 0) pe_int)) (pss_one (ps_if (pt_cmpR op_eq (pv 2) pe_int (nomark _)) (pss_one (ps_expr (pe_fn1 G0 (hr.mono (by decide)) (pa_cons pe_int (pa_cons (pe_ix ix_list (pe_lst (pa_cons (pe_un un_neg pe_int) (pa_cons pe_int (pa_cons (pe_op op_sub (pe_un un_neg pe_int) (pv 1)) (pa_cons (pe_op op_add pe_int (pv 1)) pa_nil))))) (pe_op op_mod (pe_op op_fdiv (pv 0) pe_int) pe_int) (fun _ _ => rfl)) pa_nil))))) (pss_one (ps_expr (pe_fn1 G1 (hr.mono (by decide)) (pa_cons pe_int (pa_cons (pe_ix ix_list (pe_lst (pa_cons (pe_un un_neg pe_int) (pa_cons pe_int (pa_cons (pe_op op_sub (pe_un un_neg pe_int) (pv 1)) (pa_cons (pe_op op_add pe_int (pv 1)) pa_nil))))) (pe_op op_mod (pe_op op_fdiv (pv 0) pe_int) pe_int) (fun _ _ => rfl)) pa_nil))))))), ?_⟩
  refine ⟨_, rfl, _, _, rfl, rfl, (by show (0 : Int) < 2; decide), ?_⟩
  have m0 := Int.emod_nonneg (cell / 2) (by decide : (4 : Int) ≠ 0)
  have m1 := Int.emod_lt_of_pos (cell / 2) (by decide : (0 : Int) < 4)
  refine ⟨_, rfl, rfl, _, rfl, ?_⟩
  refine ite2 (fun _ => ?_) (fun _ => ?_)
  · obtain ⟨k, v, ek, ev, ea⟩ := at_some (xs := [.int (-1), .int 13, .int (-1 - far), .int (13 + far)]) m0 m1
    obtain ⟨n, rfl, hn⟩ : ∃ n : Int, v = .int n ∧ (n < 0 ∨ 12 < n) := by
      match k, ev with
      | 0, ev => exact ⟨-1, (Option.some.inj ev).symm, by omega⟩
      | 1, ev => exact ⟨13, (Option.some.inj ev).symm, by omega⟩
      | 2, ev => exact ⟨-1 - far, (Option.some.inj ev).symm, by omega⟩
      | 3, ev => exact ⟨13 + far, (Option.some.inj ev).symm, by omega⟩
      | k + 4, ev => simp at ev
    refine ⟨_, rfl, _, rfl, _, rfl, _, _, rfl, rfl, _, rfl, _, _, rfl, rfl, (by show 4 ≤ sizeLine; decide), fun l hl => ?_⟩
    refine ⟨_, rfl, _, _, rfl, rfl, ⟨by decide, by decide⟩, _, _, rfl, rfl, (by show (0 : Int) < 4; decide), l, _, _, _, rfl, rfl, SqL.of upd_same, ea, ?_⟩
    exact ⟨3, n, rfl, by decide, by decide, hn, qE.mono (same_upd hl _)⟩
  · obtain ⟨k, v, ek, ev, ea⟩ := at_some (xs := [.int (-1), .int 5, .int (-1 - far), .int (5 + far)]) m0 m1
    obtain ⟨n, rfl, hn⟩ : ∃ n : Int, v = .int n ∧ (n < 0 ∨ 5 ≤ n) := by
      match k, ev with
      | 0, ev => exact ⟨-1, (Option.some.inj ev).symm, by omega⟩
      | 1, ev => exact ⟨5, (Option.some.inj ev).symm, by omega⟩
      | 2, ev => exact ⟨-1 - far, (Option.some.inj ev).symm, by omega⟩
      | 3, ev => exact ⟨5 + far, (Option.some.inj ev).symm, by omega⟩
      | k + 4, ev => simp at ev
    refine ⟨_, rfl, _, rfl, _, rfl, _, _, rfl, rfl, _, rfl, _, _, rfl, rfl, (by show 4 ≤ sizeLine; decide), fun l hl => ?_⟩
    refine ⟨_, rfl, _, _, rfl, rfl, ⟨by decide, by decide⟩, _, _, rfl, rfl, (by show (0 : Int) < 4; decide), l, _, _, _, rfl, rfl, SqL.of upd_same, ea, ?_⟩
    have w5 : Sh.W 3 0 = 5 := by decide
    exact ⟨3, n, rfl, by decide, by decide, by rw [w5]; exact hn, qE.mono (same_upd hl _)⟩
end
theorem pli2 {H : Hp} {t1 t2 : Addr} {p1 p2 : Int × Int} (h1 : H t1 = some (.tup [.int p1.1, .int p1.2])) (h2 : H t2 = some (.tup [.int p2.1, .int p2.2])) : PLi H [t1, t2] [p1, p2] := ⟨rfl, fun k t p e1 e2 => by
  match k, e1, e2 with
  | 0, e1, e2 => cases e1; cases e2; exact h1
  | 1, e1, e2 => cases e1; cases e2; exact h2
  | k + 2, e1, e2 => simp at e1⟩
theorem pls1 {H : Hp} {t1 : Addr} {p1 : Nat × Nat} (h1 : H t1 = some (.tup [.int (p1.1 : Int), .int (p1.2 : Int)])) : PLs H [t1] [p1] := ⟨rfl, fun k t p e1 e2 => by
  match k, e1, e2 with
  | 0, e1, e2 => cases e1; cases e2; exact h1
  | k + 1, e1, e2 => simp at e1⟩
theorem pls0 {H : Hp} : PLs H [] [] := ⟨rfl, fun k t p e1 e2 => by simp at e1⟩
section
variable {P : Program} {w : World} {K : PySem.W.Frag} {mg : Str → Option Value} {base : Heap}
def RNS (K : PySem.W.Frag) (cell far : Int) (H : Hp) : L2.St → Hp → Prop := fun σ H' => ∃ (so : Option V) (p : Addr) (ns : List Int), σ = [some (.int cell), some (.int far), so, some (.ref p), none] ∧ SqL K H' p (ns.map V.int) ∧ Sh.isSh ns = false ∧ Same H H'
theorem scLNoSh : FnScope ["cell", "far", "some", "bad", "way"] ["cell", "far"] (defScope sLNoSh) := ⟨rfl, rfl, rfl, by decide +kernel, rfl, by decide +kernel, by decide +kernel⟩
theorem ok_lnosh {CN CU CF : Addr} (G : Fn1 P w K mg base "_law_of_two" ["way", "one", "other"] 9 (spOfTwo K CN CU CF)) (G0 : Fn1 P w K mg base "shares_of" ["one"] 4 (spShR K CN)) (G1 : Fn1 P w K mg base "sizes" ["one"] 5 (spShR K CN)) (G2 : Fn1 P w K mg base "number_of" ["one"] 4 (spShR K CN)) (G3 : Fn1 P w K mg base "many_finer" ["one"] 6 (spShR K CN)) (G4 : Fn1 P w K mg base "many_coarser" ["one"] 6 (spShR K CN)) (G5 : Fn1 P w K mg base "shown" ["one"] 5 (spShR K CN)) {f : Addr} {fd : FuncData} (F : Fun K "_law_no_sharing" "_law_no_sharing" sLNoSh f fd) : FnOk P w K mg base (CX1 P w) 10 f fd ["cell", "far"] (spCF K CN) := by
  refine LQ.ok1 F scLNoSh (fun vs H Q E h => ?_) (fun cdv A outer s H vs Q E hr h => ?_)
  · obtain ⟨cell, far, rfl, _⟩ := h
    rfl
  obtain ⟨cell, far, rfl, h0, qE⟩ := h
  refine ⟨_, LQ.pss_cons (LQ.ps_set (i := 2) scLNoSh.nd rfl (Or.inl rfl) (LQ.pe_lstW (LQ.pa_cons (LQ.pe_lstW LQ.pa_nil) (LQ.pa_cons (LQ.pe_lstW (LQ.pa_cons LQ.pe_int LQ.pa_nil)) (LQ.pa_cons (LQ.pe_lstW (LQ.pa_cons LQ.pe_int (LQ.pa_cons LQ.pe_int LQ.pa_nil))) (LQ.pa_cons (LQ.pe_lstW (LQ.pa_cons LQ.pe_int (LQ.pa_cons (LQ.pe_op op_sub (LQ.pe_un un_neg LQ.pe_int) (LQ.pv 1)) LQ.pa_nil))) (LQ.pa_cons (LQ.pe_lstW (LQ.pa_cons LQ.pe_int (LQ.pa_cons LQ.pe_int (LQ.pa_cons (LQ.pe_op op_add LQ.pe_int (LQ.pv 1)) LQ.pa_nil)))) (LQ.pa_cons (LQ.pe_op op_rep (LQ.pe_lstW (LQ.pa_cons LQ.pe_int LQ.pa_nil)) LQ.pe_int) (LQ.pa_cons (LQ.pe_lstW (LQ.pa_cons LQ.pe_int (LQ.pa_cons LQ.pe_int (LQ.pa_cons LQ.pe_int (LQ.pa_cons LQ.pe_int LQ.pa_nil))))) LQ.pa_nil))))))))) (LQ.pss_cut (RNS K cell far H) (LQ.ps_set (i := 3) scLNoSh.nd rfl (Or.inl rfl) (LQ.pe_ix ix_list (LQ.pv 2) (LQ.pe_op op_mod (LQ.pv 0) LQ.pe_int) (fun _ _ => rfl))) (LQ.pss_cons (LQ.ps_set (i := 4) scLNoSh.nd rfl (Or.inl rfl) (LQ.pe_op op_mod (LQ.pe_op op_fdiv (LQ.pv 0) LQ.pe_int) LQ.pe_int)) (LQ.pss_one (LQ.ps_if (LQ.pt_cmpR op_lt (LQ.pv 4) LQ.pe_int (nomark _)) (LQ.pss_one (LQ.ps_expr (LQ.pe_fn1 G (hr.mono (by decide)) (LQ.pa_cons (LQ.pv 4) (LQ.pa_cons (LQ.pv 3) (LQ.pa_cons (LQ.pe_lst (LQ.pa_cons LQ.pe_int (LQ.pa_cons LQ.pe_int LQ.pa_nil))) LQ.pa_nil)))))) (LQ.pss_one (LQ.ps_if (LQ.pt_cmpR op_lt (LQ.pv 4) LQ.pe_int (nomark _)) (LQ.pss_one (LQ.ps_expr (LQ.pe_fn1 G (hr.mono (by decide)) (LQ.pa_cons (LQ.pe_op op_sub (LQ.pv 4) LQ.pe_int) (LQ.pa_cons (LQ.pe_lst (LQ.pa_cons LQ.pe_int (LQ.pa_cons LQ.pe_int LQ.pa_nil))) (LQ.pa_cons (LQ.pv 3) LQ.pa_nil)))))) (LQ.pss_one (LQ.ps_if (LQ.pt_cmpR op_eq (LQ.pv 4) LQ.pe_int (nomark _)) (LQ.pss_one (LQ.ps_expr (LQ.pe_fn1 G0 (hr.mono (by decide)) (LQ.pa_cons (LQ.pv 3) LQ.pa_nil)))) (LQ.pss_one (LQ.ps_if (LQ.pt_cmpR op_eq (LQ.pv 4) LQ.pe_int (nomark _)) (LQ.pss_one (LQ.ps_expr (LQ.pe_fn1 G1 (hr.mono (by decide)) (LQ.pa_cons (LQ.pv 3) LQ.pa_nil)))) (LQ.pss_one (LQ.ps_if (LQ.pt_cmpR op_eq (LQ.pv 4) LQ.pe_int (nomark _)) (LQ.pss_one (LQ.ps_expr (LQ.pe_fn1 G2 (hr.mono (by decide)) (LQ.pa_cons (LQ.pv 3) LQ.pa_nil)))) (LQ.pss_one (LQ.ps_if (LQ.pt_cmpR op_eq (LQ.pv 4) LQ.pe_int (nomark _)) (LQ.pss_one (LQ.ps_expr (LQ.pe_fn1 G3 (hr.mono (by decide)) (LQ.pa_cons (LQ.pv 3) LQ.pa_nil)))) (LQ.pss_one (LQ.ps_if (LQ.pt_cmpR op_eq (LQ.pv 4) LQ.pe_int (nomark _)) (LQ.pss_one (LQ.ps_expr (LQ.pe_fn1 G4 (hr.mono (by decide)) (LQ.pa_cons (LQ.pv 3) LQ.pa_nil)))) (LQ.pss_one (LQ.ps_expr (LQ.pe_fn1 G5 (hr.mono (by decide)) (LQ.pa_cons (LQ.pv 3) LQ.pa_nil)))))))))))))))))))), ?_⟩
  refine ⟨(by show 0 ≤ sizeLine; decide), fun l0 H0 s0 p0 => ?_⟩
  refine ⟨(by show 1 ≤ sizeLine; decide), fun l1 H1 s1 p1 => ?_⟩
  refine ⟨(by show 2 ≤ sizeLine; decide), fun l2 H2 s2 p2 => ?_⟩
  refine ⟨_, rfl, _, rfl, _, _, rfl, rfl, (by show 2 ≤ sizeLine; decide), fun l3 H3 s3 p3 => ?_⟩
  refine ⟨_, rfl, _, _, rfl, rfl, (by show 3 ≤ sizeLine; decide), fun l4 H4 s4 p4 => ?_⟩
  refine ⟨(by show 1 ≤ sizeLine; decide), fun l5 H5 s5 p5 => ?_⟩
  refine ⟨l5, 13, _, rfl, rfl, p5, by decide, by decide, by decide, fun l6 h6 => ?_⟩
  have s6 := same_upd h6 (.lst (List.replicate (13 : Int).toNat [V.int 0]).flatten)
  have p6 := upd_same (H := H5) (a := l6) (o := .lst (List.replicate (13 : Int).toNat [V.int 0]).flatten)
  generalize upd H5 l6 (.lst (List.replicate (13 : Int).toNat [V.int 0]).flatten) = H6 at *
  refine ⟨(by show 4 ≤ sizeLine; decide), fun l7 H7 s7 p7 => ?_⟩
  refine ⟨(by show 7 ≤ sizeLine; decide), fun lo Ho sO po => ?_⟩
  have t6 := s7.trans sO
  have t4 := s5.trans (s6.trans t6)
  have t3 := s4.trans t4
  have t2 := s3.trans t3
  have t1 := s2.trans t2
  have t0 := s1.trans t1
  have sAll := s0.trans t0
  have g0 := t0 _ _ p0
  have g1 := t1 _ _ p1
  have g2 := t2 _ _ p2
  have g3 := t3 _ _ p3
  have g4 := t4 _ _ p4
  have g6 := t6 _ _ p6
  have g7 := sO _ _ p7
  refine ⟨?_, ?_⟩
  · clear sAll g0 g1 g2 g3 g4 g6 g7 s0 s1 s2 s3 s4 s5 s6 s7 sO t0 t1 t2 t3 t4 t6 p0 p1 p2 p3 p4 p5 p6 p7 po
    rintro σ Hf ⟨so, p, ns, rfl, sq, hbad, sf⟩
    have q1 := qE.mono sf
    refine ⟨_, rfl, _, _, rfl, rfl, ⟨by decide, by decide⟩, _, _, rfl, rfl, (by show (0 : Int) < 18; decide), ?_⟩
    refine ⟨_, rfl, _, _, rfl, rfl, _, rfl, ?_⟩
    refine ite2 (fun _ => ?_) (fun _ => ?_)
    · exact ⟨_, rfl, _, rfl, (by show 2 ≤ sizeLine; decide), fun l hl => ⟨_, p, l, ns, [0, 0], CN, rfl, (same_upd hl _).seq sq, SqL.of upd_same, .inl (.inl ⟨rfl, .inl hbad⟩), q1.mono (same_upd hl _)⟩⟩
    refine ⟨_, rfl, _, _, rfl, rfl, _, rfl, ?_⟩
    refine ite2 (fun _ => ?_) (fun _ => ?_)
    · exact ⟨_, rfl, _, _, rfl, rfl, (by show 2 ≤ sizeLine; decide), fun l hl => ⟨_, rfl, _, l, p, [0, 1], ns, CN, rfl, SqL.of upd_same, (same_upd hl _).seq sq, .inl (.inl ⟨rfl, .inr hbad⟩), q1.mono (same_upd hl _)⟩⟩
    refine ⟨_, rfl, rfl, _, rfl, ?_⟩
    refine ite2 (fun _ => ?_) (fun _ => ?_)
    · exact ⟨_, rfl, p, ns, rfl, sq, hbad, q1⟩
    refine ⟨_, rfl, rfl, _, rfl, ?_⟩
    refine ite2 (fun _ => ?_) (fun _ => ?_)
    · exact ⟨_, rfl, p, ns, rfl, sq, hbad, q1⟩
    refine ⟨_, rfl, rfl, _, rfl, ?_⟩
    refine ite2 (fun _ => ?_) (fun _ => ?_)
    · exact ⟨_, rfl, p, ns, rfl, sq, hbad, q1⟩
    refine ⟨_, rfl, rfl, _, rfl, ?_⟩
    refine ite2 (fun _ => ?_) (fun _ => ?_)
    · exact ⟨_, rfl, p, ns, rfl, sq, hbad, q1⟩
    refine ⟨_, rfl, rfl, _, rfl, ?_⟩
    refine ite2 (fun _ => ?_) (fun _ => ?_)
    · exact ⟨_, rfl, p, ns, rfl, sq, hbad, q1⟩
    exact ⟨_, rfl, p, ns, rfl, sq, hbad, q1⟩
  · have m0 := Int.emod_nonneg cell (by decide : (7 : Int) ≠ 0)
    have m1 := Int.emod_lt_of_pos cell (by decide : (0 : Int) < 7)
    obtain ⟨k, v, ek, ev, ea⟩ := at_some (xs := [.ref l0, .ref l1, .ref l2, .ref l3, .ref l4, .ref l6, .ref l7]) m0 m1
    refine ⟨_, rfl, _, rfl, _, _, rfl, rfl, (by show (0 : Int) < 7; decide), lo, _, _, _, rfl, rfl, SqL.of po, ea, ?_⟩
    have e3 : Sh.isSh [0, -1 - far] = false := by
      cases h : Sh.isSh [0, -1 - far] with
      | false => rfl
      | true =>
        have := (Sh.isSh_can h).1 1 (-1 - far) rfl
        omega
    have e4 : Sh.isSh [0, 1, 3 + far] = false := by
      cases h : Sh.isSh [0, 1, 3 + far] with
      | false => rfl
      | true =>
        have := (Sh.isSh_can h).1 2 (3 + far) rfl
        have e : Sh.fr ([0, 1, 3 + far].take 2) = 2 := rfl
        omega
    match k, ev with
    | 0, ev => cases ev; exact ⟨_, l0, [], rfl, SqL.of g0, by decide, sAll⟩
    | 1, ev => cases ev; exact ⟨_, l1, [1], rfl, SqL.of g1, by decide, sAll⟩
    | 2, ev => cases ev; exact ⟨_, l2, [0, 2], rfl, SqL.of g2, by decide, sAll⟩
    | 3, ev => cases ev; exact ⟨_, l3, [0, -1 - far], rfl, SqL.of g3, e3, sAll⟩
    | 4, ev => cases ev; exact ⟨_, l4, [0, 1, 3 + far], rfl, SqL.of g4, e4, sAll⟩
    | 5, ev => cases ev; exact ⟨_, l6, List.replicate 13 0, rfl, SqL.of g6, by decide, sAll⟩
    | 6, ev => cases ev; exact ⟨_, l7, [0, 0, 2, 1], rfl, SqL.of g7, by decide, sAll⟩
    | k + 7, ev => simp at ev
end
section
variable {P : Program} {w : World} {K : PySem.W.Frag} {mg : Str → Option Value} {base : Heap}
theorem scLNoT : FnScope ["cell", "far", "bad", "pair", "way"] ["cell", "far"] (defScope sLNoT) := ⟨rfl, rfl, rfl, by decide +kernel, rfl, by decide +kernel, by decide +kernel⟩
theorem ok_lnot {C : Addr} (G0 : Fn1 P w K mg base "sharing_of" ["things", "pairs"] 3 (spShOfT K C)) (G1 : Fn1 P w K mg base "way_by" ["things", "pairs", "one", "other"] 3 (spWayT K C)) (G2 : Fn1 P w K mg base "judged" ["things", "together", "apart"] 4 (spJudT K C)) {f : Addr} {fd : FuncData} (F : Fun K "_law_no_thing" "_law_no_thing" sLNoT f fd) : FnOk P w K mg base (CX1 P w) 5 f fd ["cell", "far"] (spCF K C) := by
  refine LQ.ok1 F scLNoT (fun vs H Q E h => ?_) (fun cdv A outer s H vs Q E hr h => ?_)
  · obtain ⟨cell, far, rfl, _⟩ := h
    rfl
  obtain ⟨cell, far, rfl, h0, qE⟩ := h
  refine ⟨_, LQ.pss_cons (LQ.ps_set (i := 2) scLNoT.nd rfl (Or.inl rfl) (LQ.pe_ix ix_list (LQ.pe_lst (LQ.pa_cons LQ.pe_int (LQ.pa_cons (LQ.pe_un un_neg LQ.pe_int) (LQ.pa_cons (LQ.pe_op op_add LQ.pe_int (LQ.pv 1)) (LQ.pa_cons (LQ.pe_op op_sub (LQ.pe_un un_neg LQ.pe_int) (LQ.pv 1)) LQ.pa_nil))))) (LQ.pe_op op_mod (LQ.pv 0) LQ.pe_int) (fun _ _ => rfl))) (LQ.pss_cons (LQ.ps_set (i := 3) scLNoT.nd rfl (Or.inl rfl) (LQ.pe_ix ix_list (LQ.pe_lst (LQ.pa_cons (LQ.pe_tup (LQ.pa_cons (LQ.pv 2) (LQ.pa_cons LQ.pe_int LQ.pa_nil))) (LQ.pa_cons (LQ.pe_tup (LQ.pa_cons LQ.pe_int (LQ.pa_cons (LQ.pv 2) LQ.pa_nil))) LQ.pa_nil))) (LQ.pe_op op_mod (LQ.pe_op op_fdiv (LQ.pv 0) LQ.pe_int) LQ.pe_int) (fun _ _ => rfl))) (LQ.pss_cons (LQ.ps_set (i := 4) scLNoT.nd rfl (Or.inl rfl) (LQ.pe_op op_mod (LQ.pe_op op_fdiv (LQ.pv 0) LQ.pe_int) LQ.pe_int)) (LQ.pss_one (LQ.ps_if (LQ.pt_cmpR op_eq (LQ.pv 4) LQ.pe_int (nomark _)) (LQ.pss_one (LQ.ps_expr (LQ.pe_fn1 G0 (hr.mono (by decide)) (LQ.pa_cons LQ.pe_int (LQ.pa_cons (LQ.pe_lst (LQ.pa_cons (LQ.pe_tup (LQ.pa_cons LQ.pe_int (LQ.pa_cons LQ.pe_int LQ.pa_nil))) (LQ.pa_cons (LQ.pv 3) LQ.pa_nil))) LQ.pa_nil))))) (LQ.pss_one (LQ.ps_if (LQ.pt_cmpR op_eq (LQ.pv 4) LQ.pe_int (nomark _)) (LQ.pss_one (LQ.ps_expr (LQ.pe_fn1 G1 (hr.mono (by decide)) (LQ.pa_cons LQ.pe_int (LQ.pa_cons (LQ.pe_lst (LQ.pa_cons (LQ.pv 3) (LQ.pa_cons (LQ.pe_tup (LQ.pa_cons LQ.pe_int (LQ.pa_cons LQ.pe_int LQ.pa_nil))) LQ.pa_nil))) (LQ.pa_cons LQ.pe_int (LQ.pa_cons LQ.pe_int LQ.pa_nil))))))) (LQ.pss_one (LQ.ps_if (LQ.pt_cmpR op_eq (LQ.pv 4) LQ.pe_int (nomark _)) (LQ.pss_one (LQ.ps_expr (LQ.pe_fn1 G1 (hr.mono (by decide)) (LQ.pa_cons LQ.pe_int (LQ.pa_cons (LQ.pe_lst (LQ.pa_cons (LQ.pe_tup (LQ.pa_cons LQ.pe_int (LQ.pa_cons LQ.pe_int LQ.pa_nil))) LQ.pa_nil)) (LQ.pa_cons (LQ.pv 2) (LQ.pa_cons LQ.pe_int LQ.pa_nil))))))) (LQ.pss_one (LQ.ps_if (LQ.pt_cmpR op_eq (LQ.pv 4) LQ.pe_int (nomark _)) (LQ.pss_one (LQ.ps_expr (LQ.pe_fn1 G1 (hr.mono (by decide)) (LQ.pa_cons LQ.pe_int (LQ.pa_cons (LQ.pe_lst LQ.pa_nil) (LQ.pa_cons LQ.pe_int (LQ.pa_cons (LQ.pv 2) LQ.pa_nil))))))) (LQ.pss_one (LQ.ps_if (LQ.pt_cmpR op_eq (LQ.pv 4) LQ.pe_int (nomark _)) (LQ.pss_one (LQ.ps_expr (LQ.pe_fn1 G2 (hr.mono (by decide)) (LQ.pa_cons LQ.pe_int (LQ.pa_cons (LQ.pe_lst (LQ.pa_cons (LQ.pe_tup (LQ.pa_cons LQ.pe_int (LQ.pa_cons LQ.pe_int LQ.pa_nil))) (LQ.pa_cons (LQ.pv 3) LQ.pa_nil))) (LQ.pa_cons (LQ.pe_lst (LQ.pa_cons (LQ.pe_tup (LQ.pa_cons LQ.pe_int (LQ.pa_cons LQ.pe_int LQ.pa_nil))) LQ.pa_nil)) LQ.pa_nil)))))) (LQ.pss_one (LQ.ps_expr (LQ.pe_fn1 G2 (hr.mono (by decide)) (LQ.pa_cons LQ.pe_int (LQ.pa_cons (LQ.pe_lst (LQ.pa_cons (LQ.pe_tup (LQ.pa_cons LQ.pe_int (LQ.pa_cons LQ.pe_int LQ.pa_nil))) LQ.pa_nil)) (LQ.pa_cons (LQ.pe_lst (LQ.pa_cons (LQ.pe_tup (LQ.pa_cons LQ.pe_int (LQ.pa_cons LQ.pe_int LQ.pa_nil))) (LQ.pa_cons (LQ.pv 3) LQ.pa_nil))) LQ.pa_nil)))))))))))))))))), ?_⟩
  refine ⟨_, rfl, _, rfl, _, _, rfl, rfl, _, rfl, _, rfl, _, _, rfl, rfl, (by show 4 ≤ sizeLine; decide), fun l hl => ?_⟩
  have s1 := same_upd hl (.lst [.int 3, .int (-1), .int (3 + far), .int (-1 - far)])
  have m0 := Int.emod_nonneg cell (by decide : (4 : Int) ≠ 0)
  have m1 := Int.emod_lt_of_pos cell (by decide : (0 : Int) < 4)
  obtain ⟨k, v, ek, ev, ea⟩ := at_some (xs := [.int 3, .int (-1), .int (3 + far), .int (-1 - far)]) m0 m1
  obtain ⟨b, rfl, hb⟩ : ∃ b : Int, v = .int b ∧ ¬ okT 3 b := by
    match k, ev with
    | 0, ev => exact ⟨3, (Option.some.inj ev).symm, fun z => by have := z.2; omega⟩
    | 1, ev => exact ⟨-1, (Option.some.inj ev).symm, fun z => by have := z.1; omega⟩
    | 2, ev => exact ⟨3 + far, (Option.some.inj ev).symm, fun z => by have := z.2; omega⟩
    | 3, ev => exact ⟨-1 - far, (Option.some.inj ev).symm, fun z => by have := z.1; omega⟩
    | k + 4, ev => simp at ev
  refine ⟨_, rfl, _, _, rfl, rfl, (by show (0 : Int) < 4; decide), l, _, _, _, rfl, rfl, SqL.of upd_same, ea, ?_⟩
  refine ⟨_, rfl, (by show 2 ≤ sizeLine; decide), fun t1 ht1 => ?_⟩
  have s2 := same_upd ht1 (.tup [.int b, .int 0])
  refine ⟨_, rfl, (by show 2 ≤ sizeLine; decide), fun t2 ht2 => ?_⟩
  have s3 := same_upd ht2 (.tup [.int 1, .int b])
  refine ⟨(by show 2 ≤ sizeLine; decide), fun lp hlp => ?_⟩
  have s4 := same_upd hlp (.lst [.ref t1, .ref t2])
  have n0 := Int.emod_nonneg (cell / 4) (by decide : (2 : Int) ≠ 0)
  have n1 := Int.emod_lt_of_pos (cell / 4) (by decide : (0 : Int) < 2)
  obtain ⟨k2, v2, ek2, ev2, ea2⟩ := at_some (xs := [.ref t1, .ref t2]) n0 n1
  have gt1 := (s3.trans s4) _ _ (upd_same (o := .tup [.int b, .int 0]))
  have gt2 := s4 _ _ (upd_same (o := .tup [.int 1, .int b]))
  have q1 := qE.mono (s1.trans (s2.trans (s3.trans s4)))
  refine ⟨_, rfl, _, _, rfl, rfl, ⟨by decide, by decide⟩, _, _, rfl, rfl, (by show (0 : Int) < 2; decide), lp, _, _, _, rfl, rfl, SqL.of upd_same, ea2, ?_⟩
  refine ⟨_, rfl, _, _, rfl, rfl, ⟨by decide, by decide⟩, _, _, rfl, rfl, (by show (0 : Int) < 6; decide), ?_⟩
  generalize upd (upd (upd (upd H l (.lst [.int 3, .int (-1), .int (3 + far), .int (-1 - far)])) t1 (.tup [.int b, .int 0])) t2 (.tup [.int 1, .int b])) lp (.lst [.ref t1, .ref t2]) = Hf at *
  obtain ⟨tp, pr, rfl, hp, hbad⟩ : ∃ (tp : Addr) (pr : Int × Int), v2 = .ref tp ∧ Hf tp = some (.tup [.int pr.1, .int pr.2]) ∧ ¬ (okT 3 pr.1 ∧ okT 3 pr.2) := by
    match k2, ev2 with
    | 0, ev => exact ⟨t1, (b, 0), (Option.some.inj ev).symm, gt1, fun z => hb z.1⟩
    | 1, ev => exact ⟨t2, (1, b), (Option.some.inj ev).symm, gt2, fun z => hb z.2⟩
    | k + 2, ev => simp at ev
  refine ⟨_, rfl, rfl, _, rfl, ?_⟩
  refine ite2 (fun _ => ?_) (fun _ => ?_)
  · refine ⟨(by show 2 ≤ sizeLine; decide), fun t ht => ⟨_, rfl, (by show 2 ≤ sizeLine; decide), fun x hx => ?_⟩⟩
    have u1 := same_upd ht (.tup [.int 0, .int 1])
    have u2 := same_upd hx (.lst [.ref t, .ref tp])
    exact ⟨3, x, [t, tp], [(0, 1), pr], rfl, by decide, by decide, upd_same, pli2 (u2 _ _ upd_same) ((u1.trans u2) _ _ hp), ⟨pr, by simp, hbad⟩, q1.mono (u1.trans u2)⟩
  refine ⟨_, rfl, rfl, _, rfl, ?_⟩
  refine ite2 (fun _ => ?_) (fun _ => ?_)
  · refine ⟨_, rfl, (by show 2 ≤ sizeLine; decide), fun t ht => ⟨(by show 2 ≤ sizeLine; decide), fun x hx => ?_⟩⟩
    have u1 := same_upd ht (.tup [.int 0, .int 1])
    have u2 := same_upd hx (.lst [.ref tp, .ref t])
    exact ⟨3, x, 0, 2, rfl, by decide, by decide, .inl ⟨[tp, t], [pr, (0, 1)], upd_same, pli2 ((u1.trans u2) _ _ hp) (u2 _ _ upd_same), pr, by simp, hbad⟩, q1.mono (u1.trans u2)⟩
  refine ⟨_, rfl, rfl, _, rfl, ?_⟩
  refine ite2 (fun _ => ?_) (fun _ => ?_)
  · refine ⟨(by show 2 ≤ sizeLine; decide), fun t ht => ⟨(by show 1 ≤ sizeLine; decide), fun x hx => ?_⟩⟩
    have u1 := same_upd ht (.tup [.int 0, .int 1])
    have u2 := same_upd hx (.lst [.ref t])
    exact ⟨_, rfl, 3, x, b, 0, rfl, by decide, by decide, .inr ⟨[t], [(0, 1)], upd_same, pls1 (u2 _ _ upd_same), (fun p hp => by rw [List.mem_singleton] at hp; subst hp; decide), .inl hb⟩, q1.mono (u1.trans u2)⟩
  refine ⟨_, rfl, rfl, _, rfl, ?_⟩
  refine ite2 (fun _ => ?_) (fun _ => ?_)
  · refine ⟨(by show 0 ≤ sizeLine; decide), fun x hx => ?_⟩
    exact ⟨_, rfl, 3, x, 0, b, rfl, by decide, by decide, .inr ⟨[], [], upd_same, pls0, (fun p hp => by simp at hp), .inr hb⟩, q1.mono (same_upd hx _)⟩
  refine ⟨_, rfl, rfl, _, rfl, ?_⟩
  refine ite2 (fun _ => ?_) (fun _ => ?_)
  · refine ⟨(by show 2 ≤ sizeLine; decide), fun t ht => ⟨_, rfl, (by show 2 ≤ sizeLine; decide), fun x hx => ⟨(by show 2 ≤ sizeLine; decide), fun t' ht' => ⟨(by show 1 ≤ sizeLine; decide), fun y hy => ?_⟩⟩⟩⟩
    have u1 := same_upd ht (.tup [.int 0, .int 1])
    have u2 := same_upd hx (.lst [.ref t, .ref tp])
    have u3 := same_upd ht' (.tup [.int 0, .int 1])
    have u4 := same_upd hy (.lst [.ref t'])
    exact ⟨3, x, y, rfl, by decide, by decide, .inl ⟨[t, tp], [(0, 1), pr], (u3.trans u4) _ _ upd_same, pli2 ((u2.trans (u3.trans u4)) _ _ upd_same) ((u1.trans (u2.trans (u3.trans u4))) _ _ hp), pr, by simp, hbad⟩, q1.mono (u1.trans (u2.trans (u3.trans u4)))⟩
  refine ⟨(by show 2 ≤ sizeLine; decide), fun t ht => ⟨(by show 1 ≤ sizeLine; decide), fun x hx => ⟨(by show 2 ≤ sizeLine; decide), fun t' ht' => ⟨_, rfl, (by show 2 ≤ sizeLine; decide), fun y hy => ?_⟩⟩⟩⟩
  have u1 := same_upd ht (.tup [.int 0, .int 1])
  have u2 := same_upd hx (.lst [.ref t])
  have u3 := same_upd ht' (.tup [.int 0, .int 1])
  have u4 := same_upd hy (.lst [.ref t', .ref tp])
  exact ⟨3, x, y, rfl, by decide, by decide, .inr ⟨[t], [t', tp], [(0, 1)], [(0, 1), pr], (u3.trans u4) _ _ upd_same, pls1 ((u2.trans (u3.trans u4)) _ _ upd_same), (fun p hp => by rw [List.mem_singleton] at hp; subst hp; decide), upd_same, pli2 (u4 _ _ upd_same) ((u1.trans (u2.trans (u3.trans u4))) _ _ hp), pr, by simp, hbad⟩, q1.mono (u1.trans (u2.trans (u3.trans u4)))⟩
end
def rdC (t : Str) : List (List (Option Int)) := (Txt.split t "/").map fun p => (Txt.split p " ").map rdW
theorem rdC_of {t : Str} {css : List (List Int)} (h : RdA t css) : rdC t = css.map fun c => c.map some := by
  unfold rdC
  refine List.ext_getElem? fun i => ?_
  rw [List.getElem?_map, List.getElem?_map]
  cases e1 : (Txt.split t "/")[i]? with
  | none =>
    have : css[i]? = none := by
      rw [List.getElem?_eq_none_iff] at e1 ⊢
      rw [← h.1]
      exact e1
    rw [this]
    rfl
  | some p =>
    have hi : i < css.length := by rw [← h.1]; exact (List.getElem?_eq_some_iff.mp e1).1
    have e2 : css[i]? = some css[i] := List.getElem?_eq_getElem hi
    rw [e2]
    exact congrArg some (h.2 i p _ e1 e2)
def Rdd (t : Str) : Prop := ∃ css labs, RdA t css ∧ Sh.Shs css ∧ Sh.Labs css labs ∧ shownT (Sh.mk labs) = t
theorem bad_none {t : Str} (hn : none ∈ (rdC t).flatten) : ¬ Rdd t := by
  rintro ⟨css, labs, h, _⟩
  rw [rdC_of h] at hn
  obtain ⟨l, hl, hx⟩ := List.mem_flatten.mp hn
  obtain ⟨c, _, rfl⟩ := List.mem_map.mp hl
  obtain ⟨_, _, e⟩ := List.mem_map.mp hx
  cases e
theorem css_inj {css dss : List (List Int)} (h : (css.map fun c => c.map some) = dss.map fun c => c.map some) : css = dss :=
  (List.map_inj_right fun x y e => (List.map_inj_right fun a b e' => Option.some.inj e').mp e).mp h
theorem noShs0 : ¬ Sh.Shs [] := fun h => by have := h.2.1; simp at this
theorem noShs1 : ¬ Sh.Shs [[]] := fun h => h.1 [] (by simp) rfl
theorem noShs2 : ¬ Sh.Shs [[0], [0]] := fun h => by
  have := (h.2.2.2.mem_iff (a := 1)).mpr (by decide)
  revert this; decide
theorem noShs3 : ¬ Sh.Shs [[1]] := fun h => by
  have := (h.2.2.2.mem_iff (a := 0)).mpr (by decide)
  revert this; decide
theorem noShs4 : ¬ Sh.Shs [[0, 2]] := fun h => by
  have := (h.2.2.2.mem_iff (a := 1)).mpr (by decide)
  revert this; decide
theorem noShs5 {far : Int} (h0 : 0 ≤ far) : ¬ Sh.Shs [[0], [1 + far + 1]] := fun h => by
  have h1 : (1 : Int) ∈ [[0], [1 + far + 1]].flatten := (h.2.2.2.mem_iff (a := 1)).mpr (by show (1 : Int) ∈ Sh.upto 2; decide)
  have h2 : (1 : Int) ∈ [0, 1 + far + 1] := h1
  rw [List.mem_cons, List.mem_singleton] at h2
  omega
theorem noShs6 : ¬ Sh.Shs [[0], [], [1]] := fun h => h.1 [] (by simp) rfl
theorem noShs7 : ¬ Sh.Shs [[0, 0]] := fun h => by
  have := (h.2.2.2.mem_iff (a := 1)).mpr (by decide)
  revert this; decide
theorem bad_10 : ¬ Rdd "1/0" := by
  rintro ⟨css, labs, h, _, hl, hs⟩
  have e : rdC "1/0" = [[1], [0]].map fun c => c.map some := by decide +kernel
  have := css_inj ((rdC_of h).symm.trans e)
  subst this
  obtain ⟨h1, h2⟩ := hl
  have e0 := h2 0 1 [0] rfl (by simp)
  have e1 := h2 1 0 [1] rfl (by simp)
  match labs, h1, e0, e1 with
  | [a, b], _, e0, e1 =>
    have ea : a = 1 := by simpa using e0
    have eb : b = 0 := by simpa using e1
    subst ea; subst eb
    revert hs
    decide +kernel
theorem bad_00 : ¬ Rdd "0 0" := by
  rintro ⟨css, labs, h, hs, _⟩
  have e : rdC "0 0" = [[0, 0]].map fun c => c.map some := by decide +kernel
  have := css_inj ((rdC_of h).symm.trans e)
  subst this
  exact noShs7 hs
theorem bad_texts {k : Nat} {v : V} (e : ([.str "", .str "0/", .str "1/0", .str "0 0", .str "a", .str "0  1", .str "12"] : List V)[k]? = some v) : ∃ t : Str, v = .str t ∧ t.length ≤ 200 ∧ ¬ Rdd t := by
  match k, e with
  | 0, e => cases e; exact ⟨_, rfl, by decide +kernel, bad_none (by decide +kernel)⟩
  | 1, e => cases e; exact ⟨_, rfl, by decide +kernel, bad_none (by decide +kernel)⟩
  | 2, e => cases e; exact ⟨_, rfl, by decide +kernel, bad_10⟩
  | 3, e => cases e; exact ⟨_, rfl, by decide +kernel, bad_00⟩
  | 4, e => cases e; exact ⟨_, rfl, by decide +kernel, bad_none (by decide +kernel)⟩
  | 5, e => cases e; exact ⟨_, rfl, by decide +kernel, bad_none (by decide +kernel)⟩
  | 6, e => cases e; exact ⟨_, rfl, by decide +kernel, bad_none (by decide +kernel)⟩
  | k + 7, e => simp at e
theorem noPC {f t : Nat} (hf : f < 2) (ht : 2 ≤ t) : ¬ Sh.PC [(0, 1), (3, 3), (1, 0)] f t := fun h => by
  have key : ∀ i j, Sh.PC [(0, 1), (3, 3), (1, 0)] i j → (i < 2 ↔ j < 2) := fun i j h => by
    induction h with
    | refl i => exact Iff.rfl
    | pair hp => simp at hp; rcases hp with rfl | rfl | rfl <;> decide
    | symm _ ih => exact ih.symm
    | trans _ _ ih1 ih2 => exact ih1.trans ih2
  have := (key _ _ h).mp hf
  omega
theorem pls3 {H : Hp} {t1 t2 t3 : Addr} {p1 p2 p3 : Nat × Nat} (h1 : H t1 = some (.tup [.int (p1.1 : Int), .int (p1.2 : Int)])) (h2 : H t2 = some (.tup [.int (p2.1 : Int), .int (p2.2 : Int)])) (h3 : H t3 = some (.tup [.int (p3.1 : Int), .int (p3.2 : Int)])) : PLs H [t1, t2, t3] [p1, p2, p3] := ⟨rfl, fun k t p e1 e2 => by
  match k, e1, e2 with
  | 0, e1, e2 => cases e1; cases e2; exact h1
  | 1, e1, e2 => cases e1; cases e2; exact h2
  | 2, e1, e2 => cases e1; cases e2; exact h3
  | k + 3, e1, e2 => simp at e1⟩
theorem ll0 {H : Hp} : LL H [] [] := ⟨rfl, fun k p c e1 e2 => by simp at e1⟩
theorem ll1 {H : Hp} {p1 : Addr} {c1 : List Int} (h1 : H p1 = some (.lst (c1.map V.int))) : LL H [p1] [c1] := LL.snoc ll0 h1
theorem ll2 {H : Hp} {p1 p2 : Addr} {c1 c2 : List Int} (h1 : H p1 = some (.lst (c1.map V.int))) (h2 : H p2 = some (.lst (c2.map V.int))) : LL H [p1, p2] [c1, c2] := LL.snoc (ll1 h1) h2
theorem ll3 {H : Hp} {p1 p2 p3 : Addr} {c1 c2 c3 : List Int} (h1 : H p1 = some (.lst (c1.map V.int))) (h2 : H p2 = some (.lst (c2.map V.int))) (h3 : H p3 = some (.lst (c3.map V.int))) : LL H [p1, p2, p3] [c1, c2, c3] := LL.snoc (ll2 h1 h2) h3
def spDone (K : PySem.W.Frag) (cl : Nat → Addr) : Sp := fun vs H _ E => ∃ (k : Nat) (cell far : Int), vs = [.int (k : Int), .int cell, .int far] ∧ k < 9 ∧ 0 ≤ far ∧ RA (cl k) H E
section
variable {P : Program} {w : World} {K : PySem.W.Frag} {mg : Str → Option Value} {base : Heap}
theorem scDone : FnScope ["way", "cell", "far"] ["way", "cell", "far"] (defScope sDone) := ⟨rfl, rfl, rfl, by decide +kernel, rfl, by decide +kernel, by decide +kernel⟩
theorem ok_done {cl : Nat → Addr} (G0 : Fn1 P w K mg base "_law_no_things" ["cell", "far"] 5 (spCF K (cl 0))) (G1 : Fn1 P w K mg base "_law_no_sharing" ["cell", "far"] 10 (spCF K (cl 1))) (G2 : Fn1 P w K mg base "marks_of" ["shares"] 3 (spMarks1 K (cl 2))) (G3 : Fn1 P w K mg base "_law_of_two" ["way", "one", "other"] 9 (spOfTwo K (cl 1) (cl 3) (cl 4))) (G5 : Fn1 P w K mg base "_law_no_thing" ["cell", "far"] 5 (spCF K (cl 5))) (G6 : Fn1 P w K mg base "_law_no_number" ["cell", "far"] 5 (spCF K (cl 6))) (G7 : Fn1 P w K mg base "way_by" ["things", "pairs", "one", "other"] 3 (spWayBy1 K (cl 7))) (G8 : Fn1 P w K mg base "read" ["text"] 6 (spRead1 K (cl 8))) {f : Addr} {fd : FuncData} (F : Fun K "_law_done" "_law_done" sDone f fd) : FnOk P w K mg base (CX1 P w) 11 f fd ["way", "cell", "far"] (spDone K cl) := by
  refine LQ.ok1 F scDone (fun vs H Q E h => ?_) (fun cdv A outer s H vs Q E hr h => ?_)
  · obtain ⟨k, cell, far, rfl, _⟩ := h
    rfl
  obtain ⟨k, cell, far, rfl, hk, h0, qE⟩ := h
  refine ⟨_, (LQ.pss_one (LQ.ps_if (LQ.pt_cmpR op_eq (LQ.pv 0) LQ.pe_int (nomark _)) (LQ.pss_one (LQ.ps_expr (LQ.pe_fn1 G0 (hr.mono (by decide)) (LQ.pa_cons (LQ.pv 1) (LQ.pa_cons (LQ.pv 2) LQ.pa_nil))))) (LQ.pss_one (LQ.ps_if (LQ.pt_cmpR op_eq (LQ.pv 0) LQ.pe_int (nomark _)) (LQ.pss_one (LQ.ps_expr (LQ.pe_fn1 G1 (hr.mono (by decide)) (LQ.pa_cons (LQ.pv 1) (LQ.pa_cons (LQ.pv 2) LQ.pa_nil))))) (LQ.pss_one (LQ.ps_if (LQ.pt_cmpR op_eq (LQ.pv 0) LQ.pe_int (nomark _)) (LQ.pss_one (LQ.ps_expr (LQ.pe_fn1 G2 (hr.mono (by decide)) (LQ.pa_cons (LQ.pe_ix ix_list (LQ.pe_lstW (LQ.pa_cons (LQ.pe_lstW LQ.pa_nil) (LQ.pa_cons (LQ.pe_lstW (LQ.pa_cons (LQ.pe_lstW LQ.pa_nil) LQ.pa_nil)) (LQ.pa_cons (LQ.pe_lstW (LQ.pa_cons (LQ.pe_lstW (LQ.pa_cons LQ.pe_int LQ.pa_nil)) (LQ.pa_cons (LQ.pe_lstW (LQ.pa_cons LQ.pe_int LQ.pa_nil)) LQ.pa_nil))) (LQ.pa_cons (LQ.pe_lstW (LQ.pa_cons (LQ.pe_lstW (LQ.pa_cons LQ.pe_int LQ.pa_nil)) LQ.pa_nil)) (LQ.pa_cons (LQ.pe_lstW (LQ.pa_cons (LQ.pe_lstW (LQ.pa_cons LQ.pe_int (LQ.pa_cons LQ.pe_int LQ.pa_nil))) LQ.pa_nil)) (LQ.pa_cons (LQ.pe_lstW (LQ.pa_cons (LQ.pe_lstW (LQ.pa_cons LQ.pe_int LQ.pa_nil)) (LQ.pa_cons (LQ.pe_lstW (LQ.pa_cons (LQ.pe_op op_add (LQ.pe_op op_add LQ.pe_int (LQ.pv 2)) LQ.pe_int) LQ.pa_nil)) LQ.pa_nil))) (LQ.pa_cons (LQ.pe_lstW (LQ.pa_cons (LQ.pe_lstW (LQ.pa_cons LQ.pe_int LQ.pa_nil)) (LQ.pa_cons (LQ.pe_lstW LQ.pa_nil) (LQ.pa_cons (LQ.pe_lstW (LQ.pa_cons LQ.pe_int LQ.pa_nil)) LQ.pa_nil)))) LQ.pa_nil)))))))) (LQ.pe_op op_mod (LQ.pv 1) LQ.pe_int) (fun _ _ => rfl)) LQ.pa_nil)))) (LQ.pss_one (LQ.ps_if (LQ.pt_cmpR op_eq (LQ.pv 0) LQ.pe_int (nomark _)) (LQ.pss_one (LQ.ps_expr (LQ.pe_fn1 G3 (hr.mono (by decide)) (LQ.pa_cons (LQ.pe_op op_mod (LQ.pv 1) LQ.pe_int) (LQ.pa_cons (LQ.pe_ix ix_list (LQ.pe_lstW (LQ.pa_cons (LQ.pe_lstW (LQ.pa_cons LQ.pe_int (LQ.pa_cons LQ.pe_int (LQ.pa_cons LQ.pe_int LQ.pa_nil)))) (LQ.pa_cons (LQ.pe_lstW (LQ.pa_cons LQ.pe_int LQ.pa_nil)) LQ.pa_nil))) (LQ.pe_op op_mod (LQ.pe_op op_fdiv (LQ.pv 1) LQ.pe_int) LQ.pe_int) (fun _ _ => rfl)) (LQ.pa_cons (LQ.pe_lstW (LQ.pa_cons LQ.pe_int (LQ.pa_cons LQ.pe_int LQ.pa_nil))) LQ.pa_nil)))))) (LQ.pss_one (LQ.ps_if (LQ.pt_cmpR op_eq (LQ.pv 0) LQ.pe_int (nomark _)) (LQ.pss_one (LQ.ps_expr (LQ.pe_fn1 G3 (hr.mono (by decide)) (LQ.pa_cons (LQ.pe_op op_add LQ.pe_int (LQ.pe_op op_mod (LQ.pv 1) LQ.pe_int)) (LQ.pa_cons (LQ.pe_ix ix_list (LQ.pe_lstW (LQ.pa_cons (LQ.pe_lstW (LQ.pa_cons LQ.pe_int (LQ.pa_cons LQ.pe_int (LQ.pa_cons LQ.pe_int LQ.pa_nil)))) (LQ.pa_cons (LQ.pe_lstW (LQ.pa_cons LQ.pe_int (LQ.pa_cons LQ.pe_int (LQ.pa_cons LQ.pe_int LQ.pa_nil)))) (LQ.pa_cons (LQ.pe_lstW (LQ.pa_cons LQ.pe_int (LQ.pa_cons LQ.pe_int (LQ.pa_cons LQ.pe_int LQ.pa_nil)))) LQ.pa_nil)))) (LQ.pe_op op_mod (LQ.pe_op op_fdiv (LQ.pv 1) LQ.pe_int) LQ.pe_int) (fun _ _ => rfl)) (LQ.pa_cons (LQ.pe_lstW (LQ.pa_cons LQ.pe_int (LQ.pa_cons LQ.pe_int (LQ.pa_cons LQ.pe_int LQ.pa_nil)))) LQ.pa_nil)))))) (LQ.pss_one (LQ.ps_if (LQ.pt_cmpR op_eq (LQ.pv 0) LQ.pe_int (nomark _)) (LQ.pss_one (LQ.ps_expr (LQ.pe_fn1 G5 (hr.mono (by decide)) (LQ.pa_cons (LQ.pv 1) (LQ.pa_cons (LQ.pv 2) LQ.pa_nil))))) (LQ.pss_one (LQ.ps_if (LQ.pt_cmpR op_eq (LQ.pv 0) LQ.pe_int (nomark _)) (LQ.pss_one (LQ.ps_expr (LQ.pe_fn1 G6 (hr.mono (by decide)) (LQ.pa_cons (LQ.pv 1) (LQ.pa_cons (LQ.pv 2) LQ.pa_nil))))) (LQ.pss_one (LQ.ps_if (LQ.pt_cmpR op_eq (LQ.pv 0) LQ.pe_int (nomark _)) (LQ.pss_one (LQ.ps_expr (LQ.pe_fn1 G7 (hr.mono (by decide)) (LQ.pa_cons LQ.pe_int (LQ.pa_cons (LQ.pe_lstW (LQ.pa_cons (LQ.pe_tupW (LQ.pa_cons LQ.pe_int (LQ.pa_cons LQ.pe_int LQ.pa_nil))) (LQ.pa_cons (LQ.pe_tupW (LQ.pa_cons LQ.pe_int (LQ.pa_cons LQ.pe_int LQ.pa_nil))) (LQ.pa_cons (LQ.pe_tupW (LQ.pa_cons LQ.pe_int (LQ.pa_cons LQ.pe_int LQ.pa_nil))) LQ.pa_nil)))) (LQ.pa_cons (LQ.pe_op op_mod (LQ.pv 1) LQ.pe_int) (LQ.pa_cons (LQ.pe_op op_add LQ.pe_int (LQ.pe_op op_mod (LQ.pe_op op_fdiv (LQ.pv 1) LQ.pe_int) LQ.pe_int)) LQ.pa_nil))))))) (LQ.pss_one (LQ.ps_expr (LQ.pe_fn1 G8 (hr.mono (by decide)) (LQ.pa_cons (LQ.pe_ix ix_list (LQ.pe_lstW (LQ.pa_cons LQ.pe_str (LQ.pa_cons LQ.pe_str (LQ.pa_cons LQ.pe_str (LQ.pa_cons LQ.pe_str (LQ.pa_cons LQ.pe_str (LQ.pa_cons LQ.pe_str (LQ.pa_cons LQ.pe_str LQ.pa_nil)))))))) (LQ.pe_op op_mod (LQ.pv 1) LQ.pe_int) (fun _ _ => rfl)) LQ.pa_nil)))))))))))))))))))), ?_⟩
  have kv : ∀ {n : Nat}, decide (V.int (k : Int) = V.int (n : Int)) = true → k = n := fun h => by
    have := of_decide_eq_true h
    injection this with h
    omega
  have kn : ∀ {n : Nat}, ¬ decide (V.int (k : Int) = V.int (n : Int)) = true → k ≠ n := fun h e => h (by rw [e]; exact decide_eq_true rfl)
  refine ⟨_, rfl, rfl, _, rfl, ?_⟩
  refine ite2 (fun c0 => ?_) (fun n0 => ?_)
  · obtain rfl : k = 0 := kv c0
    exact ⟨_, rfl, _, rfl, cell, far, rfl, h0, qE⟩
  refine ⟨_, rfl, rfl, _, rfl, ?_⟩
  refine ite2 (fun c1 => ?_) (fun n1 => ?_)
  · obtain rfl : k = 1 := kv c1
    exact ⟨_, rfl, _, rfl, cell, far, rfl, h0, qE⟩
  refine ⟨_, rfl, rfl, _, rfl, ?_⟩
  refine ite2 (fun c2 => ?_) (fun n2 => ?_)
  · obtain rfl : k = 2 := kv c2
    refine ⟨(by show 0 ≤ sizeLine; decide), fun a0 Ha0 sa0 pa0 => ?_⟩
    refine ⟨(by show 0 ≤ sizeLine; decide), fun i1 Hi1 si1 pi1 => ?_⟩
    refine ⟨(by show 1 ≤ sizeLine; decide), fun a1 Ha1 sa1 pa1 => ?_⟩
    refine ⟨(by show 1 ≤ sizeLine; decide), fun i2 Hi2 si2 pi2 => ?_⟩
    refine ⟨(by show 1 ≤ sizeLine; decide), fun i3 Hi3 si3 pi3 => ?_⟩
    refine ⟨(by show 2 ≤ sizeLine; decide), fun a2 Ha2 sa2 pa2 => ?_⟩
    refine ⟨(by show 1 ≤ sizeLine; decide), fun i4 Hi4 si4 pi4 => ?_⟩
    refine ⟨(by show 1 ≤ sizeLine; decide), fun a3 Ha3 sa3 pa3 => ?_⟩
    refine ⟨(by show 2 ≤ sizeLine; decide), fun i5 Hi5 si5 pi5 => ?_⟩
    refine ⟨(by show 1 ≤ sizeLine; decide), fun a4 Ha4 sa4 pa4 => ?_⟩
    refine ⟨(by show 1 ≤ sizeLine; decide), fun i6 Hi6 si6 pi6 => ?_⟩
    refine ⟨_, rfl, _, _, rfl, rfl, _, _, rfl, rfl, (by show 1 ≤ sizeLine; decide), fun i7 Hi7 si7 pi7 => ?_⟩
    refine ⟨(by show 2 ≤ sizeLine; decide), fun a5 Ha5 sa5 pa5 => ?_⟩
    refine ⟨(by show 1 ≤ sizeLine; decide), fun i8 Hi8 si8 pi8 => ?_⟩
    refine ⟨(by show 0 ≤ sizeLine; decide), fun i9 Hi9 si9 pi9 => ?_⟩
    refine ⟨(by show 1 ≤ sizeLine; decide), fun i0 Hi0 si0 pi0 => ?_⟩
    refine ⟨(by show 3 ≤ sizeLine; decide), fun a6 Ha6 sa6 pa6 => ?_⟩
    refine ⟨(by show 7 ≤ sizeLine; decide), fun lo Hlo slo plo => ?_⟩
    have Tlo := Same.refl Hlo
    have Ta6 := slo.trans Tlo
    have Ti0 := sa6.trans Ta6
    have Ti9 := si0.trans Ti0
    have Ti8 := si9.trans Ti9
    have Ta5 := si8.trans Ti8
    have Ti7 := sa5.trans Ta5
    have Ti6 := si7.trans Ti7
    have Ta4 := si6.trans Ti6
    have Ti5 := sa4.trans Ta4
    have Ta3 := si5.trans Ti5
    have Ti4 := sa3.trans Ta3
    have Ta2 := si4.trans Ti4
    have Ti3 := sa2.trans Ta2
    have Ti2 := si3.trans Ti3
    have Ta1 := si2.trans Ti2
    have Ti1 := sa1.trans Ta1
    have Ta0 := si1.trans Ti1
    have sAll := sa0.trans Ta0
    have ga0 := Ta0 _ _ pa0
    have gi1 := Ti1 _ _ pi1
    have ga1 := Ta1 _ _ pa1
    have gi2 := Ti2 _ _ pi2
    have gi3 := Ti3 _ _ pi3
    have ga2 := Ta2 _ _ pa2
    have gi4 := Ti4 _ _ pi4
    have ga3 := Ta3 _ _ pa3
    have gi5 := Ti5 _ _ pi5
    have ga4 := Ta4 _ _ pa4
    have gi6 := Ti6 _ _ pi6
    have gi7 := Ti7 _ _ pi7
    have ga5 := Ta5 _ _ pa5
    have gi8 := Ti8 _ _ pi8
    have gi9 := Ti9 _ _ pi9
    have gi0 := Ti0 _ _ pi0
    have ga6 := Ta6 _ _ pa6
    have glo := Tlo _ _ plo
    have m0 := Int.emod_nonneg cell (by decide : (7 : Int) ≠ 0)
    have m1 := Int.emod_lt_of_pos cell (by decide : (0 : Int) < 7)
    obtain ⟨j, v, ej, ev, ea⟩ := at_some (xs := [.ref a0, .ref a1, .ref a2, .ref a3, .ref a4, .ref a5, .ref a6]) m0 m1
    refine ⟨_, rfl, _, _, rfl, rfl, (by show (0 : Int) < 7; decide), lo, _, _, _, rfl, rfl, SqL.of plo, ea, ?_⟩
    match j, ev with
    | 0, ev => cases ev; exact ⟨a0, [], [], rfl, ga0, ll0, by decide, fun z => absurd z noShs0, fun _ H' s' => qE H' (sAll.trans s')⟩
    | 1, ev => cases ev; exact ⟨a1, [i1], [[]], rfl, ga1, ll1 gi1, by decide, fun z => absurd z noShs1, fun _ H' s' => qE H' (sAll.trans s')⟩
    | 2, ev => cases ev; exact ⟨a2, [i2, i3], [[0], [0]], rfl, ga2, ll2 gi2 gi3, by decide, fun z => absurd z noShs2, fun _ H' s' => qE H' (sAll.trans s')⟩
    | 3, ev => cases ev; exact ⟨a3, [i4], [[1]], rfl, ga3, ll1 gi4, by decide, fun z => absurd z noShs3, fun _ H' s' => qE H' (sAll.trans s')⟩
    | 4, ev => cases ev; exact ⟨a4, [i5], [[0, 2]], rfl, ga4, ll1 gi5, by decide, fun z => absurd z noShs4, fun _ H' s' => qE H' (sAll.trans s')⟩
    | 5, ev => cases ev; exact ⟨a5, [i6, i7], [[0], [1 + far + 1]], rfl, ga5, ll2 gi6 gi7, (by show 2 ≤ 1000; decide), fun z => absurd z (noShs5 h0), fun _ H' s' => qE H' (sAll.trans s')⟩
    | 6, ev => cases ev; exact ⟨a6, [i8, i9, i0], [[0], [], [1]], rfl, ga6, ll3 gi8 gi9 gi0, by decide, fun z => absurd z noShs6, fun _ H' s' => qE H' (sAll.trans s')⟩
    | j + 7, ev => simp at ev
  refine ⟨_, rfl, rfl, _, rfl, ?_⟩
  refine ite2 (fun c3 => ?_) (fun n3 => ?_)
  · obtain rfl : k = 3 := kv c3
    refine ⟨_, rfl, _, _, rfl, rfl, (by show (0 : Int) < 6; decide), ?_⟩
    refine ⟨(by show 3 ≤ sizeLine; decide), fun a0 Ha0 sa0 pa0 => ?_⟩
    refine ⟨(by show 1 ≤ sizeLine; decide), fun a1 Ha1 sa1 pa1 => ?_⟩
    refine ⟨(by show 2 ≤ sizeLine; decide), fun lo Hlo slo plo => ?_⟩
    have Tlo := Same.refl Hlo
    have Ta1 := slo.trans Tlo
    have Ta0 := sa1.trans Ta1
    have sAll := sa0.trans Ta0
    have ga0 := Ta0 _ _ pa0
    have ga1 := Ta1 _ _ pa1
    have glo := Tlo _ _ plo
    have m0 := Int.emod_nonneg (cell / 6) (by decide : (2 : Int) ≠ 0)
    have m1 := Int.emod_lt_of_pos (cell / 6) (by decide : (0 : Int) < 2)
    obtain ⟨j, v, ej, ev, ea⟩ := at_some (xs := [.ref a0, .ref a1]) m0 m1
    obtain ⟨p, ns, rfl, hp, hn, hl⟩ : ∃ (p : Addr) (ns : List Int), v = .ref p ∧ Hlo p = some (.lst (ns.map V.int)) ∧ Sh.isSh ns = true ∧ ns.length ≠ 2 := by
      match j, ev with
      | 0, ev => cases ev; exact ⟨a0, [0, 1, 0], rfl, ga0, by decide, by decide⟩
      | 1, ev => cases ev; exact ⟨a1, [0], rfl, ga1, by decide, by decide⟩
      | j + 2, ev => simp at ev
    refine ⟨_, rfl, _, _, rfl, rfl, ⟨by decide, by decide⟩, _, _, rfl, rfl, (by show (0 : Int) < 2; decide), lo, _, _, _, rfl, rfl, SqL.of plo, ea, (by show 2 ≤ sizeLine; decide), fun b Hb sb pb => ?_⟩
    exact ⟨_, p, b, ns, [0, 1], _, rfl, SqL.of (sb _ _ hp), SqL.of pb, .inl (.inr ⟨rfl, hn, by decide, hl⟩), qE.mono (sAll.trans sb)⟩
  refine ⟨_, rfl, rfl, _, rfl, ?_⟩
  refine ite2 (fun c4 => ?_) (fun n4 => ?_)
  · obtain rfl : k = 4 := kv c4
    refine ⟨_, rfl, _, _, rfl, rfl, (by show (0 : Int) < 3; decide), _, _, rfl, rfl, ?_⟩
    refine ⟨(by show 3 ≤ sizeLine; decide), fun a0 Ha0 sa0 pa0 => ?_⟩
    refine ⟨(by show 3 ≤ sizeLine; decide), fun a1 Ha1 sa1 pa1 => ?_⟩
    refine ⟨(by show 3 ≤ sizeLine; decide), fun a2 Ha2 sa2 pa2 => ?_⟩
    refine ⟨(by show 3 ≤ sizeLine; decide), fun lo Hlo slo plo => ?_⟩
    have Tlo := Same.refl Hlo
    have Ta2 := slo.trans Tlo
    have Ta1 := sa2.trans Ta2
    have Ta0 := sa1.trans Ta1
    have sAll := sa0.trans Ta0
    have ga0 := Ta0 _ _ pa0
    have ga1 := Ta1 _ _ pa1
    have ga2 := Ta2 _ _ pa2
    have glo := Tlo _ _ plo
    have m0 := Int.emod_nonneg (cell / 3) (by decide : (3 : Int) ≠ 0)
    have m1 := Int.emod_lt_of_pos (cell / 3) (by decide : (0 : Int) < 3)
    have m2 := Int.emod_nonneg cell (by decide : (3 : Int) ≠ 0)
    obtain ⟨j, v, ej, ev, ea⟩ := at_some (xs := [.ref a0, .ref a1, .ref a2]) m0 m1
    obtain ⟨p, ns, rfl, hp, hn, hl, hz⟩ : ∃ (p : Addr) (ns : List Int), v = .ref p ∧ Hlo p = some (.lst (ns.map V.int)) ∧ Sh.isSh ns = true ∧ ns.length = 3 ∧ ¬ Sh.mk (ns.zip ([0, 1, 0] : List Int)) = ns := by
      match j, ev with
      | 0, ev => cases ev; exact ⟨a0, [0, 0, 1], rfl, ga0, by decide, by decide, by decide⟩
      | 1, ev => cases ev; exact ⟨a1, [0, 0, 0], rfl, ga1, by decide, by decide, by decide⟩
      | 2, ev => cases ev; exact ⟨a2, [0, 1, 1], rfl, ga2, by decide, by decide, by decide⟩
      | j + 3, ev => simp at ev
    refine ⟨_, rfl, _, _, rfl, rfl, ⟨by decide, by decide⟩, _, _, rfl, rfl, (by show (0 : Int) < 3; decide), lo, _, _, _, rfl, rfl, SqL.of plo, ea, (by show 3 ≤ sizeLine; decide), fun b Hb sb pb => ?_⟩
    exact ⟨_, p, b, ns, [0, 1, 0], _, rfl, SqL.of (sb _ _ hp), SqL.of pb, .inr ⟨(by show 3 ≤ 3 + cell % 3; omega), rfl, hn, by decide, hl, hz⟩, qE.mono (sAll.trans sb)⟩
  refine ⟨_, rfl, rfl, _, rfl, ?_⟩
  refine ite2 (fun c5 => ?_) (fun n5 => ?_)
  · obtain rfl : k = 5 := kv c5
    exact ⟨_, rfl, _, rfl, cell, far, rfl, h0, qE⟩
  refine ⟨_, rfl, rfl, _, rfl, ?_⟩
  refine ite2 (fun c6 => ?_) (fun n6 => ?_)
  · obtain rfl : k = 6 := kv c6
    exact ⟨_, rfl, _, rfl, cell, far, rfl, h0, qE⟩
  refine ⟨_, rfl, rfl, _, rfl, ?_⟩
  refine ite2 (fun c7 => ?_) (fun n7 => ?_)
  · obtain rfl : k = 7 := kv c7
    refine ⟨(by show 2 ≤ sizeLine; decide), fun t1 Ht1 st1 pt1 => ?_⟩
    refine ⟨(by show 2 ≤ sizeLine; decide), fun t2 Ht2 st2 pt2 => ?_⟩
    refine ⟨(by show 2 ≤ sizeLine; decide), fun t3 Ht3 st3 pt3 => ?_⟩
    refine ⟨(by show 3 ≤ sizeLine; decide), fun lo Hlo slo plo => ?_⟩
    have Tlo := Same.refl Hlo
    have Tt3 := slo.trans Tlo
    have Tt2 := st3.trans Tt3
    have Tt1 := st2.trans Tt2
    have sAll := st1.trans Tt1
    have gt1 := Tt1 _ _ pt1
    have gt2 := Tt2 _ _ pt2
    have gt3 := Tt3 _ _ pt3
    have glo := Tlo _ _ plo
    have m0 := Int.emod_nonneg cell (by decide : (2 : Int) ≠ 0)
    have m1 := Int.emod_lt_of_pos cell (by decide : (0 : Int) < 2)
    have m2 := Int.emod_nonneg (cell / 2) (by decide : (2 : Int) ≠ 0)
    have m3 := Int.emod_lt_of_pos (cell / 2) (by decide : (0 : Int) < 2)
    refine ⟨_, rfl, _, _, rfl, rfl, (by show (0 : Int) < 2; decide), _, rfl, _, _, rfl, rfl, ⟨by decide, by decide⟩, _, _, rfl, rfl, (by show (0 : Int) < 2; decide), _, _, rfl, rfl, ?_⟩
    have e1 : cell % 2 = (((cell % 2).toNat : Nat) : Int) := by omega
    have e2 : 2 + cell / 2 % 2 = (((2 + cell / 2 % 2).toNat : Nat) : Int) := by omega
    refine ⟨4, lo, [t1, t2, t3], [(0, 1), (3, 3), (1, 0)], (cell % 2).toNat, (2 + cell / 2 % 2).toNat, ?_, by decide, by decide, by omega, by omega, glo, pls3 gt1 gt2 gt3, (by intro p hp; simp at hp; rcases hp with rfl | rfl | rfl <;> decide), fun z => absurd z (noPC (by omega) (by omega)), fun _ H' s' => qE H' (sAll.trans s')⟩
    rw [← e1, ← e2]
    rfl
  have k8 : k = 8 := by
    have z0 : k ≠ 0 := kn n0
    have z1 : k ≠ 1 := kn n1
    have z2 : k ≠ 2 := kn n2
    have z3 : k ≠ 3 := kn n3
    have z4 : k ≠ 4 := kn n4
    have z5 : k ≠ 5 := kn n5
    have z6 : k ≠ 6 := kn n6
    have z7 : k ≠ 7 := kn n7
    omega
  subst k8
  refine ⟨(by show 7 ≤ sizeLine; decide), fun lo Hlo slo plo => ?_⟩
  have m0 := Int.emod_nonneg cell (by decide : (7 : Int) ≠ 0)
  have m1 := Int.emod_lt_of_pos cell (by decide : (0 : Int) < 7)
  obtain ⟨j, v, ej, ev, ea⟩ := at_some (xs := [.str "", .str "0/", .str "1/0", .str "0 0", .str "a", .str "0  1", .str "12"]) m0 m1
  obtain ⟨t, rfl, ht, hb⟩ := bad_texts ev
  refine ⟨_, rfl, _, _, rfl, rfl, (by show (0 : Int) < 7; decide), lo, _, _, _, rfl, rfl, SqL.of plo, ea, ?_⟩
  exact ⟨t, rfl, ht, fun css labs D H' h1 h2 h3 h4 => absurd ⟨css, labs, h1, h2, h3, h4⟩ hb, fun _ H' s' => qE H' (slo.trans s')⟩
end
theorem boot_VE : bootBuiltins "ValueError" = some (.type "ValueError") := by decide +kernel
def clOf (C0 C1 C2 C3 C4 C5 C6 C7 C8 : Addr) : Nat → Addr
  | 0 => C0
  | 1 => C1
  | 2 => C2
  | 3 => C3
  | 4 => C4
  | 5 => C5
  | 6 => C6
  | 7 => C7
  | _ => C8
def bits (k : Nat) : List Bool := [0 == k, 1 == k, 2 == k, 3 == k, 4 == k, 5 == k, 6 == k, 7 == k, 8 == k, true]
def spWhich (K : PySem.W.Frag) (cl : Nat → Addr) : Sp := fun vs H Q _ => ∃ (ea : Addr) (k : Nat), vs = [.ref ea] ∧ k < 9 ∧ H ea = some (.ext fun h => XC.ExcAt h ea (cl k)) ∧ ∀ (D : Addr) (H' : Hp), Same H H' → H' D = some (.lst ((bits k).map V.bl)) → Q (.ref D) H'
section
variable {P : Program} {w : World} {K : PySem.W.Frag} {mg : Str → Option Value} {base : Heap}
theorem okHq {x qual : Str} {st : Stmt} {f : Addr} {fd : FuncData} {N ps : List Str} {k : Nat} {sp : Sp} (F : Fun K x qual st f fd) (S : FnScope N ps (defScope st)) (len : ∀ vs H Q E, sp vs H Q E → vs.length = ps.length)
    (hbody : ∀ (cdv : Value) (A : Around) (outer : List Env) (s : Shared) (H : Hp) (vs : List V) (Q : VK) (E : XK), RoomH k (A.deeper (envOfC qual (defScope st) s.heap.objs.size f cdv)) → sp vs H Q E →
      ∃ t, LQ.QSs (cxH P w K mg base N qual (defScope st) f cdv A outer s H E) (defBody st) t ∧ t { nx := fun _ H' => Q .non H', rt := Q } (L2.start N vs) H) : FnOkH P w K mg base (k + 1) f fd ps sp :=
  F.okH S len fun cdv A outer s H vs Q E hr h => let ⟨t, ht, q⟩ := hbody cdv A outer s H vs Q E hr h; ⟨t, ht.h, q⟩
theorem scWhich : FnScope ["e", "first"] ["e"] (defScope sWhich) := ⟨rfl, rfl, rfl, by decide +kernel, rfl, by decide +kernel, by decide +kernel⟩
theorem ok_which {cl : Nat → Addr} (m0 : mg "NoThings" = some (.ref (cl 0))) (m1 : mg "NoSharing" = some (.ref (cl 1))) (m2 : mg "NoShares" = some (.ref (cl 2))) (m3 : mg "Unlike" = some (.ref (cl 3))) (m4 : mg "NotFiner" = some (.ref (cl 4))) (m5 : mg "NoThing" = some (.ref (cl 5))) (m6 : mg "NoNumber" = some (.ref (cl 6))) (m7 : mg "NoWay" = some (.ref (cl 7))) (m8 : mg "NotRead" = some (.ref (cl 8))) (mi : mg "isinstance" = none) (mv : mg "ValueError" = none) (xC : ∀ k, k < 9 → XC.ExcCls K (cl k)) (iC : ∀ k j, k < 9 → j < 9 → PySem.W.kitOne K (.ref (cl k)) (.ref (cl j)) = some (j == k)) (iV : ∀ k, k < 9 → PySem.W.kitOne K (.ref (cl k)) (.type "ValueError") = some true)
    {f : Addr} {fd : FuncData} (F : Fun K "_law_which" "_law_which" sWhich f fd) : FnOkH P w K mg base 1 f fd ["e"] (spWhich K cl) := by
  refine okHq F scWhich (fun vs H Q E h => ?_) (fun cdv A outer s H vs Q E hr h => ?_)
  · obtain ⟨ea, k, rfl, _⟩ := h
    rfl
  obtain ⟨ea, k, rfl, hk, hx, q⟩ := h
  refine ⟨_, LQ.pss_cons (LQ.ps_set (i := 1) scWhich.nd rfl (Or.inl rfl) (LQ.pe_lstW (LQ.pa_cons (LQ.pe_callB (call_isinstE (K := K)) rfl mi boot_isinstance (LQ.pa_cons (LQ.pv 0) (LQ.pa_cons (LQ.pe_glob (v := .ref (cl 0)) rfl m0 rfl) LQ.pa_nil))) (LQ.pa_cons (LQ.pe_callB (call_isinstE (K := K)) rfl mi boot_isinstance (LQ.pa_cons (LQ.pv 0) (LQ.pa_cons (LQ.pe_glob (v := .ref (cl 1)) rfl m1 rfl) LQ.pa_nil))) (LQ.pa_cons (LQ.pe_callB (call_isinstE (K := K)) rfl mi boot_isinstance (LQ.pa_cons (LQ.pv 0) (LQ.pa_cons (LQ.pe_glob (v := .ref (cl 2)) rfl m2 rfl) LQ.pa_nil))) (LQ.pa_cons (LQ.pe_callB (call_isinstE (K := K)) rfl mi boot_isinstance (LQ.pa_cons (LQ.pv 0) (LQ.pa_cons (LQ.pe_glob (v := .ref (cl 3)) rfl m3 rfl) LQ.pa_nil))) LQ.pa_nil)))))) (LQ.pss_cons (LQ.ps_set (i := 1) scWhich.nd rfl (Or.inl rfl) (LQ.pe_op op_cat (LQ.pv 1) (LQ.pe_lstW (LQ.pa_cons (LQ.pe_callB (call_isinstE (K := K)) rfl mi boot_isinstance (LQ.pa_cons (LQ.pv 0) (LQ.pa_cons (LQ.pe_glob (v := .ref (cl 4)) rfl m4 rfl) LQ.pa_nil))) (LQ.pa_cons (LQ.pe_callB (call_isinstE (K := K)) rfl mi boot_isinstance (LQ.pa_cons (LQ.pv 0) (LQ.pa_cons (LQ.pe_glob (v := .ref (cl 5)) rfl m5 rfl) LQ.pa_nil))) (LQ.pa_cons (LQ.pe_callB (call_isinstE (K := K)) rfl mi boot_isinstance (LQ.pa_cons (LQ.pv 0) (LQ.pa_cons (LQ.pe_glob (v := .ref (cl 6)) rfl m6 rfl) LQ.pa_nil))) LQ.pa_nil)))))) (LQ.pss_one (LQ.ps_ret (LQ.pe_op op_cat (LQ.pv 1) (LQ.pe_lstW (LQ.pa_cons (LQ.pe_callB (call_isinstE (K := K)) rfl mi boot_isinstance (LQ.pa_cons (LQ.pv 0) (LQ.pa_cons (LQ.pe_glob (v := .ref (cl 7)) rfl m7 rfl) LQ.pa_nil))) (LQ.pa_cons (LQ.pe_callB (call_isinstE (K := K)) rfl mi boot_isinstance (LQ.pa_cons (LQ.pv 0) (LQ.pa_cons (LQ.pe_glob (v := .ref (cl 8)) rfl m8 rfl) LQ.pa_nil))) (LQ.pa_cons (LQ.pe_callB (call_isinstE (K := K)) rfl mi boot_isinstance (LQ.pa_cons (LQ.pv 0) (LQ.pa_cons (LQ.pe_bltn (v := .ty "ValueError") rfl mv boot_VE rfl) LQ.pa_nil))) LQ.pa_nil)))))))), ?_⟩
  refine ⟨_, rfl, ea, cl k, .ref (cl 0), _, 0 == k, rfl, .own _, hx, xC k hk, iC k 0 hk (by decide), _, rfl, ea, cl k, .ref (cl 1), _, 1 == k, rfl, .own _, hx, xC k hk, iC k 1 hk (by decide), _, rfl, ea, cl k, .ref (cl 2), _, 2 == k, rfl, .own _, hx, xC k hk, iC k 2 hk (by decide), _, rfl, ea, cl k, .ref (cl 3), _, 3 == k, rfl, .own _, hx, xC k hk, iC k 3 hk (by decide), (by show 4 ≤ sizeLine; decide), fun a1 H1 s1 p1 => ?_⟩
  have hx1 := s1 _ _ hx
  refine ⟨_, rfl, _, rfl, ea, cl k, .ref (cl 4), _, 4 == k, rfl, .own _, hx1, xC k hk, iC k 4 hk (by decide), _, rfl, ea, cl k, .ref (cl 5), _, 5 == k, rfl, .own _, hx1, xC k hk, iC k 5 hk (by decide), _, rfl, ea, cl k, .ref (cl 6), _, 6 == k, rfl, .own _, hx1, xC k hk, iC k 6 hk (by decide), (by show 3 ≤ sizeLine; decide), fun a2 H2 s2 p2 => ?_⟩
  have hx2 := s2 _ _ hx1
  refine ⟨a1, a2, _, _, rfl, rfl, s2 _ _ p1, p2, (by show 7 ≤ sizeLine; decide), fun a3 h3 => ?_⟩
  have s3 := same_upd h3 (.lst ([.bl (0 == k), .bl (1 == k), .bl (2 == k), .bl (3 == k)] ++ [.bl (4 == k), .bl (5 == k), .bl (6 == k)]))
  have hx3 := s3 _ _ hx2
  refine ⟨_, rfl, _, rfl, ea, cl k, .ref (cl 7), _, 7 == k, rfl, .own _, hx3, xC k hk, iC k 7 hk (by decide), _, rfl, ea, cl k, .ref (cl 8), _, 8 == k, rfl, .own _, hx3, xC k hk, iC k 8 hk (by decide), _, rfl, ea, cl k, .ty "ValueError", _, true, rfl, .ty _, hx3, xC k hk, iV k hk, (by show 3 ≤ sizeLine; decide), fun a4 H4 s4 p4 => ?_⟩
  refine ⟨a3, a4, _, _, rfl, rfl, s4 _ _ upd_same, p4, (by show 10 ≤ sizeLine; decide), fun a5 h5 => ?_⟩
  exact q a5 _ (s1.trans (s2.trans (s3.trans (s4.trans (same_upd h5 _))))) upd_same
end
section
variable {P : Program} {w : World} {K : PySem.W.Frag} {mg : Str → Option Value} {base : Heap}
theorem scLaw : FnScope ["script", "way", "far", "told", "e"] ["script"] (defScope sLaw) := ⟨rfl, rfl, rfl, by decide +kernel, rfl, by decide +kernel, by decide +kernel⟩
theorem nd_kw : (["k", "way"] : List Str).Nodup := by decide +kernel
theorem ok_law {CS : Addr} {cl : Nat → Addr} (mS : mg "ShareError" = some (.ref CS)) (kS : PySem.W.kitCls K (.ref CS) (.type "BaseException") = some true) (kC : ∀ k, k < 9 → PySem.W.kitCls K (.ref (cl k)) (.ref CS) = some true)
    {f : Addr} {fd : FuncData} (F : Fun K "law" "law" sLaw f fd) (GC : Fn P w K mg base "_law_cell_at" ["script", "k"] 1 (spCell K)) (GD : Fn1 P w K mg base "_law_done" ["way", "cell", "far"] 11 (spDone K cl)) (GW : FnH P w K mg base "_law_which" ["e"] 1 (spWhich K cl)) (mr : mg "range" = none) : FnOk P w K mg base CX0 12 f fd ["script"] (spLaw K) := by
  refine F.ok scLaw (fun vs H Q E h => ?_) (fun cdv A outer s H vs Q E hr h => ?_)
  · obtain ⟨a, ns, rfl, _⟩ := h
    rfl
  obtain ⟨a, ns, rfl, hS, hl63, q⟩ := h
  have hu := hu_of hr
  have hu' := Nat.lt_of_succ_lt hu
  have hr1 : Room 1 _ := hr.mono (by decide)
  have hr11 : Room 11 _ := hr
  refine ⟨_, pss_cons (ps_set (i := 1) scLaw.nd rfl (Or.inr rfl) (pe_op op_mod (pe_fn GC hr1 (pa_cons (pv 0) (pa_cons pe_int pa_nil))) pe_int))
    (pss_cons (ps_set (i := 2) scLaw.nd rfl (Or.inl rfl) (pe_op op_mod (pe_fn GC hr1 (pa_cons (pv 0) (pa_cons pe_int pa_nil))) (pe_op op_pow pe_int pe_int)))
    (pss_cons (ps_set (i := 3) scLaw.nd rfl (Or.inl rfl) (pe_lst pa_nil))
    (pss_cons (ps_tryexpr (C := CS) (ni := 4) GD hr11 rfl rfl rfl rfl mS kS scLaw.nd rfl rfl (pa_cons (pv 1) (pa_cons (pe_fn GC hr1 (pa_cons (pv 0) (pa_cons pe_int pa_nil))) (pa_cons (pv 2) pa_nil)))
      (fun _ _ => pss_one (ps_set (i := 3) scLaw.nd rfl (Or.inl rfl) (pe_fnH GW (hr1.marked _) (pa_cons (pv 4) pa_nil)))))
    (pss_one (ps_ret (pe_cmpR (op_eqLB hu') (pv 3) (pe_comp ["k", "way"] [none, some 1] rfl rfl (pi_range1 rfl mr (pa_cons pe_int pa_nil)) (fun _ _ _ _ => pg_name (i := 0) nd_kw rfl (Or.inl rfl)) (fun _ _ _ _ => pts_nil)
      (fun _ _ _ _ => pe_or (pe_cmpR op_eq (pv 0) (pv 1) (nomark _)) (pe_one (pe_cmpR op_eq (pv 0) pe_int (nomark _))))) (nomark _))))))), ?_⟩
  refine ⟨_, rfl, a, ns, 0, rfl, hS, by decide, _, _, rfl, rfl, (by show (0 : Int) < 9; decide), ?_⟩
  have m0 := Int.emod_nonneg (Sh.cell ns 0) (by decide : (9 : Int) ≠ 0)
  have m1 := Int.emod_lt_of_pos (Sh.cell ns 0) (by decide : (0 : Int) < 9)
  obtain ⟨k, ek⟩ : ∃ k : Nat, Sh.cell ns 0 % 9 = (k : Int) := ⟨(Sh.cell ns 0 % 9).toNat, by omega⟩
  have hk : k < 9 := by omega
  show gName 1 (V.int (Sh.cell ns 0 % 9)) _ _ _
  rw [ek]
  have hp : (0 : Int) < 10 ^ (59 : Int).toNat := by decide +kernel
  refine ⟨_, rfl, a, ns, 2, rfl, hS, by decide, _, _, rfl, rfl, ⟨by decide, by decide, by decide⟩, _, _, rfl, rfl, hp, ?_⟩
  have f0 := Int.emod_nonneg (Sh.cell ns 2) (by omega : (10 : Int) ^ (59 : Int).toNat ≠ 0)
  refine ⟨(by show 0 ≤ sizeLine; decide), fun l0 hl0 => ?_⟩
  have s0 := same_upd hl0 (.lst [])
  refine ⟨_, rfl, _, rfl, a, ns, 1, rfl, s0.seq hS, by decide, _, rfl, k, Sh.cell ns 1, _, rfl, hk, f0, fun H1 s1 => ?_⟩
  refine ⟨cl k, rfl, kC k hk, fun ea hea => ?_⟩
  refine ⟨_, rfl, ea, k, rfl, hk, upd_same, fun D H2 s2 p2 => ?_⟩
  refine ⟨_, rfl, _, rfl, by decide, by decide, ?_⟩
  refine comp_range (lo := 0) (n := 10) (fun i zs τ H4 => ∃ (v : Option V), τ = [v, some (.int (k : Int))] ∧ H4 = H2 ∧ zs = (((bits k).take i).map V.bl)) ⟨none, rfl, rfl, rfl⟩ ?_ ?_ ?_
  · rintro i zs τ H4 hi ⟨v, rfl, rfl, rfl⟩
    exact small1000 (by rw [List.length_map, List.length_take]; omega)
  · rintro i zs τ H4 hi ⟨v, rfl, rfl, rfl⟩
    rw [Int.zero_add]
    have hb : ∃ b, (bits k)[i]? = some b ∧ (b = true ↔ (i = k ∨ i = 9)) := by
      match i, hi with
      | 0, _ => exact ⟨_, rfl, by simp⟩
      | 1, _ => exact ⟨_, rfl, by simp⟩
      | 2, _ => exact ⟨_, rfl, by simp⟩
      | 3, _ => exact ⟨_, rfl, by simp⟩
      | 4, _ => exact ⟨_, rfl, by simp⟩
      | 5, _ => exact ⟨_, rfl, by simp⟩
      | 6, _ => exact ⟨_, rfl, by simp⟩
      | 7, _ => exact ⟨_, rfl, by simp⟩
      | 8, _ => exact ⟨_, rfl, by simp⟩
      | 9, _ => exact ⟨_, rfl, by simp⟩
    obtain ⟨b, eb, hb⟩ := hb
    have tk : (bits k).take (i + 1) = (bits k).take i ++ [b] := by rw [List.take_add_one, eb]; rfl
    refine ⟨_, rfl, _, rfl, rfl, _, rfl, ?_⟩
    refine ite2 (fun c => ?_) (fun c => ?_)
    · have e : i = k := by
        have := of_decide_eq_true c
        injection this with h
        omega
      refine ⟨_, rfl, rfl, ?_⟩
      rw [tk, hb.mpr (.inl e), List.map_append]
      rfl
    · refine ⟨_, rfl, rfl, ⟨_, rfl, rfl, ?_⟩⟩
      have nk : i ≠ k := fun e => c (decide_eq_true (by rw [e]))
      rw [tk, List.map_append]
      congr 1
      show [V.bl (decide (V.int (i : Int) = V.int 9))] = [V.bl b]
      cases b with
      | true =>
        rcases hb.mp rfl with h | h
        · exact absurd h nk
        · subst h; rfl
      | false =>
        have : i ≠ 9 := fun h => by have := hb.mpr (.inr h); cases this
        rw [decide_eq_false (fun z => by injection z with h; omega)]
  rintro zs τ H4 ⟨v, rfl, rfl, rfl⟩ D2 hD2
  refine ⟨D, D2, bits k, rfl, rfl, SqL.of (same_upd hD2 _ _ _ p2), ?_, q _⟩
  have e : (bits k).take 10 = bits k := rfl
  rw [e]
  exact SqL.of upd_same
end
def _root_.PySem.W.Fast.tw800114067642939512 : Unit := () -- the name is taken: no copy of this heap is wanted
def _root_.PySem.W.Fast.tw902356682047508810 : Unit := () -- the name is taken: no copy of this heap is wanted
def _root_.PySem.W.Fast.tw5010557648524296549 : Unit := () -- the name is taken: no copy of this heap is wanted
def _root_.PySem.W.Fast.tw13520218565106835001 : Unit := () -- the name is taken: no copy of this heap is wanted
theorem all_mk {l : PySem.W.OpenLaw} {w : World} {K : PySem.W.Frag} {h : Heap} {mg : Str → Option Value} {fa f1 f2 f3 f4 f5 f6 f7 f8 f9 f10 f11 f12 f13 f14 f15 f16 f17 f18 f19 f20 f21 f22 f23 f24 f25 f26 f27 f28 f29 f30 f31 f32 f33 f34 f35 f36 f37 f38 f39 f40 f41 f42 f43 f44 f45 : Addr} (X : K.In h) (G : h.Ns mainGlobals mg) (hfa : mg "law" = some (.ref fa))
    {od1 an1 od2 an2 od3 an3 od4 an4 od5 an5 od6 an6 od7 an7 od8 an8 od9 an9 od10 an10 od11 an11 od12 an12 od13 an13 od14 an14 od15 an15 od16 an16 od17 an17 od18 an18 od19 an19 od20 an20 od21 an21 od22 an22 od23 an23 od24 an24 od25 an25 od26 an26 od27 an27 od28 an28 od29 an29 od30 an30 od31 an31 od32 an32 od33 an33 od34 an34 od35 an35 od36 an36 od37 an37 od38 an38 od39 an39 od40 an40 od41 an41 od42 an42 od43 an43 od44 an44 od45 an45 : Option Addr} {sl1 sl2 sl3 sl4 sl5 sl6 sl7 sl8 sl9 sl10 sl11 sl12 sl13 sl14 sl15 sl16 sl17 sl18 sl19 sl20 sl21 sl22 sl23 sl24 sl25 sl26 sl27 sl28 sl29 sl30 sl31 sl32 sl33 sl34 sl35 sl36 sl37 sl38 sl39 sl40 sl41 sl42 sl43 sl44 sl45 : Array (Option Value)} {oc1 kV1 dc1 pm1 cd1 ct1 oc2 kV2 dc2 pm2 cd2 ct2 oc3 kV3 dc3 pm3 cd3 ct3 oc4 kV4 dc4 pm4 cd4 ct4 oc5 kV5 dc5 pm5 cd5 ct5 oc6 kV6 dc6 pm6 cd6 ct6 oc7 kV7 dc7 pm7 cd7 ct7 oc8 kV8 dc8 pm8 cd8 ct8 oc9 kV9 dc9 pm9 cd9 ct9 oc10 kV10 dc10 pm10 cd10 ct10 oc11 kV11 dc11 pm11 cd11 ct11 oc12 kV12 dc12 pm12 cd12 ct12 oc13 kV13 dc13 pm13 cd13 ct13 oc14 kV14 dc14 pm14 cd14 ct14 oc15 kV15 dc15 pm15 cd15 ct15 oc16 kV16 dc16 pm16 cd16 ct16 oc17 kV17 dc17 pm17 cd17 ct17 oc18 kV18 dc18 pm18 cd18 ct18 oc19 kV19 dc19 pm19 cd19 ct19 oc20 kV20 dc20 pm20 cd20 ct20 oc21 kV21 dc21 pm21 cd21 ct21 oc22 kV22 dc22 pm22 cd22 ct22 oc23 kV23 dc23 pm23 cd23 ct23 oc24 kV24 dc24 pm24 cd24 ct24 oc25 kV25 dc25 pm25 cd25 ct25 oc26 kV26 dc26 pm26 cd26 ct26 oc27 kV27 dc27 pm27 cd27 ct27 oc28 kV28 dc28 pm28 cd28 ct28 oc29 kV29 dc29 pm29 cd29 ct29 oc30 kV30 dc30 pm30 cd30 ct30 oc31 kV31 dc31 pm31 cd31 ct31 oc32 kV32 dc32 pm32 cd32 ct32 oc33 kV33 dc33 pm33 cd33 ct33 oc34 kV34 dc34 pm34 cd34 ct34 oc35 kV35 dc35 pm35 cd35 ct35 oc36 kV36 dc36 pm36 cd36 ct36 oc37 kV37 dc37 pm37 cd37 ct37 oc38 kV38 dc38 pm38 cd38 ct38 oc39 kV39 dc39 pm39 cd39 ct39 oc40 kV40 dc40 pm40 cd40 ct40 oc41 kV41 dc41 pm41 cd41 ct41 oc42 kV42 dc42 pm42 cd42 ct42 oc43 kV43 dc43 pm43 cd43 ct43 oc44 kV44 dc44 pm44 cd44 ct44 oc45 kV45 dc45 pm45 cd45 ct45 : Value} {tk0 : Tok}
    (a1 : PySem.W.nsIn K mainGlobals "is_many_things" = some (some (.ref f1))) (l1 : K.lookup f1 = some ⟨oc1, od1, .func (PySem.W.fnOf "is_many_things" "is_many_things" (defArgs sMany) (defBody sMany) (defScope sMany) .none kV1 dc1 pm1 an1 cd1 ct1), sl1⟩) (c1 : PySem.W.codeIn K cd1 "is_many_things" = true) (k1 : PySem.W.keepIn K (.ref f1) = true)
    (a2 : PySem.W.nsIn K mainGlobals "ask_things" = some (some (.ref f2))) (l2 : K.lookup f2 = some ⟨oc2, od2, .func (PySem.W.fnOf "ask_things" "ask_things" (defArgs sAskTh) (defBody sAskTh) (defScope sAskTh) .none kV2 dc2 pm2 an2 cd2 ct2), sl2⟩) (c2 : PySem.W.codeIn K cd2 "ask_things" = true) (k2 : PySem.W.keepIn K (.ref f2) = true)
    (a3 : PySem.W.nsIn K mainGlobals "is_sharing" = some (some (.ref f3))) (l3 : K.lookup f3 = some ⟨oc3, od3, .func (PySem.W.fnOf "is_sharing" "is_sharing" (defArgs sIs) (defBody sIs) (defScope sIs) .none kV3 dc3 pm3 an3 cd3 ct3), sl3⟩) (c3 : PySem.W.codeIn K cd3 "is_sharing" = true) (k3 : PySem.W.keepIn K (.ref f3) = true)
    (a4 : PySem.W.nsIn K mainGlobals "ask_sharing" = some (some (.ref f4))) (l4 : K.lookup f4 = some ⟨oc4, od4, .func (PySem.W.fnOf "ask_sharing" "ask_sharing" (defArgs sAsk) (defBody sAsk) (defScope sAsk) .none kV4 dc4 pm4 an4 cd4 ct4), sl4⟩) (c4 : PySem.W.codeIn K cd4 "ask_sharing" = true) (k4 : PySem.W.keepIn K (.ref f4) = true)
    (a5 : PySem.W.nsIn K mainGlobals "marked" = some (some (.ref f5))) (l5 : K.lookup f5 = some ⟨oc5, od5, .func (PySem.W.fnOf "marked" "marked" (defArgs sMarked) (defBody sMarked) (defScope sMarked) .none kV5 dc5 pm5 an5 cd5 ct5), sl5⟩) (c5 : PySem.W.codeIn K cd5 "marked" = true) (k5 : PySem.W.keepIn K (.ref f5) = true)
    (a6 : PySem.W.nsIn K mainGlobals "shares_of" = some (some (.ref f6))) (l6 : K.lookup f6 = some ⟨oc6, od6, .func (PySem.W.fnOf "shares_of" "shares_of" (defArgs sShares) (defBody sShares) (defScope sShares) .none kV6 dc6 pm6 an6 cd6 ct6), sl6⟩) (c6 : PySem.W.codeIn K cd6 "shares_of" = true) (k6 : PySem.W.keepIn K (.ref f6) = true)
    (a7 : PySem.W.nsIn K mainGlobals "are_shares" = some (some (.ref f7))) (l7 : K.lookup f7 = some ⟨oc7, od7, .func (PySem.W.fnOf "are_shares" "are_shares" (defArgs sAre) (defBody sAre) (defScope sAre) .none kV7 dc7 pm7 an7 cd7 ct7), sl7⟩) (c7 : PySem.W.codeIn K cd7 "are_shares" = true) (k7 : PySem.W.keepIn K (.ref f7) = true)
    (a8 : PySem.W.nsIn K mainGlobals "marks_of" = some (some (.ref f8))) (l8 : K.lookup f8 = some ⟨oc8, od8, .func (PySem.W.fnOf "marks_of" "marks_of" (defArgs sMarksOf) (defBody sMarksOf) (defScope sMarksOf) .none kV8 dc8 pm8 an8 cd8 ct8), sl8⟩) (c8 : PySem.W.codeIn K cd8 "marks_of" = true) (k8 : PySem.W.keepIn K (.ref f8) = true)
    (a9 : PySem.W.nsIn K mainGlobals "sizes" = some (some (.ref f9))) (l9 : K.lookup f9 = some ⟨oc9, od9, .func (PySem.W.fnOf "sizes" "sizes" (defArgs sSizes) (defBody sSizes) (defScope sSizes) .none kV9 dc9 pm9 an9 cd9 ct9), sl9⟩) (c9 : PySem.W.codeIn K cd9 "sizes" = true) (k9 : PySem.W.keepIn K (.ref f9) = true)
    (a10 : PySem.W.nsIn K mainGlobals "ask_alike" = some (some (.ref f10))) (l10 : K.lookup f10 = some ⟨oc10, od10, .func (PySem.W.fnOf "ask_alike" "ask_alike" (defArgs sAlike) (defBody sAlike) (defScope sAlike) .none kV10 dc10 pm10 an10 cd10 ct10), sl10⟩) (c10 : PySem.W.codeIn K cd10 "ask_alike" = true) (k10 : PySem.W.keepIn K (.ref f10) = true)
    (a11 : PySem.W.nsIn K mainGlobals "ask_finer" = some (some (.ref f11))) (l11 : K.lookup f11 = some ⟨oc11, od11, .func (PySem.W.fnOf "ask_finer" "ask_finer" (defArgs sAskFin) (defBody sAskFin) (defScope sAskFin) .none kV11 dc11 pm11 an11 cd11 ct11), sl11⟩) (c11 : PySem.W.codeIn K cd11 "ask_finer" = true) (k11 : PySem.W.keepIn K (.ref f11) = true)
    (a12 : PySem.W.nsIn K mainGlobals "is_finer" = some (some (.ref f12))) (l12 : K.lookup f12 = some ⟨oc12, od12, .func (PySem.W.fnOf "is_finer" "is_finer" (defArgs sFiner) (defBody sFiner) (defScope sFiner) .none kV12 dc12 pm12 an12 cd12 ct12), sl12⟩) (c12 : PySem.W.codeIn K cd12 "is_finer" = true) (k12 : PySem.W.keepIn K (.ref f12) = true)
    (a13 : PySem.W.nsIn K mainGlobals "meeting" = some (some (.ref f13))) (l13 : K.lookup f13 = some ⟨oc13, od13, .func (PySem.W.fnOf "meeting" "meeting" (defArgs sMeet) (defBody sMeet) (defScope sMeet) .none kV13 dc13 pm13 an13 cd13 ct13), sl13⟩) (c13 : PySem.W.codeIn K cd13 "meeting" = true) (k13 : PySem.W.keepIn K (.ref f13) = true)
    (a14 : PySem.W.nsIn K mainGlobals "joining" = some (some (.ref f14))) (l14 : K.lookup f14 = some ⟨oc14, od14, .func (PySem.W.fnOf "joining" "joining" (defArgs sJoin) (defBody sJoin) (defScope sJoin) .none kV14 dc14 pm14 an14 cd14 ct14), sl14⟩) (c14 : PySem.W.codeIn K cd14 "joining" = true) (k14 : PySem.W.keepIn K (.ref f14) = true)
    (a15 : PySem.W.nsIn K mainGlobals "rise" = some (some (.ref f15))) (l15 : K.lookup f15 = some ⟨oc15, od15, .func (PySem.W.fnOf "rise" "rise" (defArgs sRise) (defBody sRise) (defScope sRise) .none kV15 dc15 pm15 an15 cd15 ct15), sl15⟩) (c15 : PySem.W.codeIn K cd15 "rise" = true) (k15 : PySem.W.keepIn K (.ref f15) = true)
    (a16 : PySem.W.nsIn K mainGlobals "stepped" = some (some (.ref f16))) (l16 : K.lookup f16 = some ⟨oc16, od16, .func (PySem.W.fnOf "stepped" "stepped" (defArgs sStep) (defBody sStep) (defScope sStep) .none kV16 dc16 pm16 an16 cd16 ct16), sl16⟩) (c16 : PySem.W.codeIn K cd16 "stepped" = true) (k16 : PySem.W.keepIn K (.ref f16) = true)
    (a17 : PySem.W.nsIn K mainGlobals "many_rises" = some (some (.ref f17))) (l17 : K.lookup f17 = some ⟨oc17, od17, .func (PySem.W.fnOf "many_rises" "many_rises" (defArgs sMR) (defBody sMR) (defScope sMR) .none kV17 dc17 pm17 an17 cd17 ct17), sl17⟩) (c17 : PySem.W.codeIn K cd17 "many_rises" = true) (k17 : PySem.W.keepIn K (.ref f17) = true)
    (a18 : PySem.W.nsIn K mainGlobals "signed" = some (some (.ref f18))) (l18 : K.lookup f18 = some ⟨oc18, od18, .func (PySem.W.fnOf "signed" "signed" (defArgs sSigned) (defBody sSigned) (defScope sSigned) .none kV18 dc18 pm18 an18 cd18 ct18), sl18⟩) (c18 : PySem.W.codeIn K cd18 "signed" = true) (k18 : PySem.W.keepIn K (.ref f18) = true)
    (a19 : PySem.W.nsIn K mainGlobals "shown" = some (some (.ref f19))) (l19 : K.lookup f19 = some ⟨oc19, od19, .func (PySem.W.fnOf "shown" "shown" (defArgs sShown) (defBody sShown) (defScope sShown) .none kV19 dc19 pm19 an19 cd19 ct19), sl19⟩) (c19 : PySem.W.codeIn K cd19 "shown" = true) (k19 : PySem.W.keepIn K (.ref f19) = true)
    (a20 : PySem.W.nsIn K mainGlobals "shown_share" = some (some (.ref f20))) (l20 : K.lookup f20 = some ⟨oc20, od20, .func (PySem.W.fnOf "shown_share" "shown_share" (defArgs sShownS) (defBody sShownS) (defScope sShownS) .none kV20 dc20 pm20 an20 cd20 ct20), sl20⟩) (c20 : PySem.W.codeIn K cd20 "shown_share" = true) (k20 : PySem.W.keepIn K (.ref f20) = true)
    (a21 : PySem.W.nsIn K mainGlobals "read" = some (some (.ref f21))) (l21 : K.lookup f21 = some ⟨oc21, od21, .func (PySem.W.fnOf "read" "read" (defArgs sRead) (defBody sRead) (defScope sRead) .none kV21 dc21 pm21 an21 cd21 ct21), sl21⟩) (c21 : PySem.W.codeIn K cd21 "read" = true) (k21 : PySem.W.keepIn K (.ref f21) = true)
    (a22 : PySem.W.nsIn K mainGlobals "read_share" = some (some (.ref f22))) (l22 : K.lookup f22 = some ⟨oc22, od22, .func (PySem.W.fnOf "read_share" "read_share" (defArgs sReadS) (defBody sReadS) (defScope sReadS) .none kV22 dc22 pm22 an22 cd22 ct22), sl22⟩) (c22 : PySem.W.codeIn K cd22 "read_share" = true) (k22 : PySem.W.keepIn K (.ref f22) = true)
    (a23 : PySem.W.nsIn K mainGlobals "many_ways_on" = some (some (.ref f23))) (l23 : K.lookup f23 = some ⟨oc23, od23, .func (PySem.W.fnOf "many_ways_on" "many_ways_on" (defArgs sWays) (defBody sWays) (defScope sWays) .none kV23 dc23 pm23 an23 cd23 ct23), sl23⟩) (c23 : PySem.W.codeIn K cd23 "many_ways_on" = true) (k23 : PySem.W.keepIn K (.ref f23) = true)
    (a24 : PySem.W.nsIn K mainGlobals "many" = some (some (.ref f24))) (l24 : K.lookup f24 = some ⟨oc24, od24, .func (PySem.W.fnOf "many" "many" (defArgs sManyN) (defBody sManyN) (defScope sManyN) .none kV24 dc24 pm24 an24 cd24 ct24), sl24⟩) (c24 : PySem.W.codeIn K cd24 "many" = true) (k24 : PySem.W.keepIn K (.ref f24) = true)
    (a25 : PySem.W.nsIn K mainGlobals "many_with" = some (some (.ref f25))) (l25 : K.lookup f25 = some ⟨oc25, od25, .func (PySem.W.fnOf "many_with" "many_with" (defArgs sWith) (defBody sWith) (defScope sWith) .none kV25 dc25 pm25 an25 cd25 ct25), sl25⟩) (c25 : PySem.W.codeIn K cd25 "many_with" = true) (k25 : PySem.W.keepIn K (.ref f25) = true)
    (a26 : PySem.W.nsIn K mainGlobals "sharing_at" = some (some (.ref f26))) (l26 : K.lookup f26 = some ⟨oc26, od26, .func (PySem.W.fnOf "sharing_at" "sharing_at" (defArgs sAt) (defBody sAt) (defScope sAt) .none kV26 dc26 pm26 an26 cd26 ct26), sl26⟩) (c26 : PySem.W.codeIn K cd26 "sharing_at" = true) (k26 : PySem.W.keepIn K (.ref f26) = true)
    (a27 : PySem.W.nsIn K mainGlobals "number_of" = some (some (.ref f27))) (l27 : K.lookup f27 = some ⟨oc27, od27, .func (PySem.W.fnOf "number_of" "number_of" (defArgs sNof) (defBody sNof) (defScope sNof) .none kV27 dc27 pm27 an27 cd27 ct27), sl27⟩) (c27 : PySem.W.codeIn K cd27 "number_of" = true) (k27 : PySem.W.keepIn K (.ref f27) = true)
    (a28 : PySem.W.nsIn K mainGlobals "many_finer" = some (some (.ref f28))) (l28 : K.lookup f28 = some ⟨oc28, od28, .func (PySem.W.fnOf "many_finer" "many_finer" (defArgs sMFin) (defBody sMFin) (defScope sMFin) .none kV28 dc28 pm28 an28 cd28 ct28), sl28⟩) (c28 : PySem.W.codeIn K cd28 "many_finer" = true) (k28 : PySem.W.keepIn K (.ref f28) = true)
    (a29 : PySem.W.nsIn K mainGlobals "many_coarser" = some (some (.ref f29))) (l29 : K.lookup f29 = some ⟨oc29, od29, .func (PySem.W.fnOf "many_coarser" "many_coarser" (defArgs sMCoa) (defBody sMCoa) (defScope sMCoa) .none kV29 dc29 pm29 an29 cd29 ct29), sl29⟩) (c29 : PySem.W.codeIn K cd29 "many_coarser" = true) (k29 : PySem.W.keepIn K (.ref f29) = true)
    (a30 : PySem.W.nsIn K mainGlobals "ask_thing" = some (some (.ref f30))) (l30 : K.lookup f30 = some ⟨oc30, od30, .func (PySem.W.fnOf "ask_thing" "ask_thing" (defArgs sAskT) (defBody sAskT) (defScope sAskT) .none kV30 dc30 pm30 an30 cd30 ct30), sl30⟩) (c30 : PySem.W.codeIn K cd30 "ask_thing" = true) (k30 : PySem.W.keepIn K (.ref f30) = true)
    (a31 : PySem.W.nsIn K mainGlobals "ask_pairs" = some (some (.ref f31))) (l31 : K.lookup f31 = some ⟨oc31, od31, .func (PySem.W.fnOf "ask_pairs" "ask_pairs" (defArgs sAskP) (defBody sAskP) (defScope sAskP) .none kV31 dc31 pm31 an31 cd31 ct31), sl31⟩) (c31 : PySem.W.codeIn K cd31 "ask_pairs" = true) (k31 : PySem.W.keepIn K (.ref f31) = true)
    (a32 : PySem.W.nsIn K mainGlobals "sharing_of" = some (some (.ref f32))) (l32 : K.lookup f32 = some ⟨oc32, od32, .func (PySem.W.fnOf "sharing_of" "sharing_of" (defArgs sShOf) (defBody sShOf) (defScope sShOf) .none kV32 dc32 pm32 an32 cd32 ct32), sl32⟩) (c32 : PySem.W.codeIn K cd32 "sharing_of" = true) (k32 : PySem.W.keepIn K (.ref f32) = true)
    (a33 : PySem.W.nsIn K mainGlobals "way_by" = some (some (.ref f33))) (l33 : K.lookup f33 = some ⟨oc33, od33, .func (PySem.W.fnOf "way_by" "way_by" (defArgs sWayBy) (defBody sWayBy) (defScope sWayBy) .none kV33 dc33 pm33 an33 cd33 ct33), sl33⟩) (c33 : PySem.W.codeIn K cd33 "way_by" = true) (k33 : PySem.W.keepIn K (.ref f33) = true)
    (a34 : PySem.W.nsIn K mainGlobals "ways_from" = some (some (.ref f34))) (l34 : K.lookup f34 = some ⟨oc34, od34, .func (PySem.W.fnOf "ways_from" "ways_from" (defArgs sWaysF) (defBody sWaysF) (defScope sWaysF) .none kV34 dc34 pm34 an34 cd34 ct34), sl34⟩) (c34 : PySem.W.codeIn K cd34 "ways_from" = true) (k34 : PySem.W.keepIn K (.ref f34) = true)
    (a35 : PySem.W.nsIn K mainGlobals "go_on" = some (some (.ref f35))) (l35 : K.lookup f35 = some ⟨oc35, od35, .func (PySem.W.fnOf "go_on" "go_on" (defArgs sGoOn) (defBody sGoOn) (defScope sGoOn) .none kV35 dc35 pm35 an35 cd35 ct35), sl35⟩) (c35 : PySem.W.codeIn K cd35 "go_on" = true) (k35 : PySem.W.keepIn K (.ref f35) = true)
    (a36 : PySem.W.nsIn K mainGlobals "judged" = some (some (.ref f36))) (l36 : K.lookup f36 = some ⟨oc36, od36, .func (PySem.W.fnOf "judged" "judged" (defArgs sJudged) (defBody sJudged) (defScope sJudged) .none kV36 dc36 pm36 an36 cd36 ct36), sl36⟩) (c36 : PySem.W.codeIn K cd36 "judged" = true) (k36 : PySem.W.keepIn K (.ref f36) = true)
    (a37 : PySem.W.nsIn K mainGlobals "_law_cell_at" = some (some (.ref f37))) (l37 : K.lookup f37 = some ⟨oc37, od37, .func (PySem.W.fnOf "_law_cell_at" "_law_cell_at" (defArgs sCell) (defBody sCell) (defScope sCell) .none kV37 dc37 pm37 an37 cd37 ct37), sl37⟩) (c37 : PySem.W.codeIn K cd37 "_law_cell_at" = true) (k37 : PySem.W.keepIn K (.ref f37) = true)
    (a38 : PySem.W.nsIn K mainGlobals "_law_which" = some (some (.ref f38))) (l38 : K.lookup f38 = some ⟨oc38, od38, .func (PySem.W.fnOf "_law_which" "_law_which" (defArgs sWhich) (defBody sWhich) (defScope sWhich) .none kV38 dc38 pm38 an38 cd38 ct38), sl38⟩) (c38 : PySem.W.codeIn K cd38 "_law_which" = true) (k38 : PySem.W.keepIn K (.ref f38) = true)
    (a39 : PySem.W.nsIn K mainGlobals "_law_of_two" = some (some (.ref f39))) (l39 : K.lookup f39 = some ⟨oc39, od39, .func (PySem.W.fnOf "_law_of_two" "_law_of_two" (defArgs sOfTwo) (defBody sOfTwo) (defScope sOfTwo) .none kV39 dc39 pm39 an39 cd39 ct39), sl39⟩) (c39 : PySem.W.codeIn K cd39 "_law_of_two" = true) (k39 : PySem.W.keepIn K (.ref f39) = true)
    (a40 : PySem.W.nsIn K mainGlobals "_law_no_things" = some (some (.ref f40))) (l40 : K.lookup f40 = some ⟨oc40, od40, .func (PySem.W.fnOf "_law_no_things" "_law_no_things" (defArgs sLNoTh) (defBody sLNoTh) (defScope sLNoTh) .none kV40 dc40 pm40 an40 cd40 ct40), sl40⟩) (c40 : PySem.W.codeIn K cd40 "_law_no_things" = true) (k40 : PySem.W.keepIn K (.ref f40) = true)
    (a41 : PySem.W.nsIn K mainGlobals "_law_no_sharing" = some (some (.ref f41))) (l41 : K.lookup f41 = some ⟨oc41, od41, .func (PySem.W.fnOf "_law_no_sharing" "_law_no_sharing" (defArgs sLNoSh) (defBody sLNoSh) (defScope sLNoSh) .none kV41 dc41 pm41 an41 cd41 ct41), sl41⟩) (c41 : PySem.W.codeIn K cd41 "_law_no_sharing" = true) (k41 : PySem.W.keepIn K (.ref f41) = true)
    (a42 : PySem.W.nsIn K mainGlobals "_law_no_thing" = some (some (.ref f42))) (l42 : K.lookup f42 = some ⟨oc42, od42, .func (PySem.W.fnOf "_law_no_thing" "_law_no_thing" (defArgs sLNoT) (defBody sLNoT) (defScope sLNoT) .none kV42 dc42 pm42 an42 cd42 ct42), sl42⟩) (c42 : PySem.W.codeIn K cd42 "_law_no_thing" = true) (k42 : PySem.W.keepIn K (.ref f42) = true)
    (a43 : PySem.W.nsIn K mainGlobals "_law_no_number" = some (some (.ref f43))) (l43 : K.lookup f43 = some ⟨oc43, od43, .func (PySem.W.fnOf "_law_no_number" "_law_no_number" (defArgs sLNoN) (defBody sLNoN) (defScope sLNoN) .none kV43 dc43 pm43 an43 cd43 ct43), sl43⟩) (c43 : PySem.W.codeIn K cd43 "_law_no_number" = true) (k43 : PySem.W.keepIn K (.ref f43) = true)
    (a44 : PySem.W.nsIn K mainGlobals "_law_done" = some (some (.ref f44))) (l44 : K.lookup f44 = some ⟨oc44, od44, .func (PySem.W.fnOf "_law_done" "_law_done" (defArgs sDone) (defBody sDone) (defScope sDone) .none kV44 dc44 pm44 an44 cd44 ct44), sl44⟩) (c44 : PySem.W.codeIn K cd44 "_law_done" = true) (k44 : PySem.W.keepIn K (.ref f44) = true)
    (a45 : PySem.W.nsIn K mainGlobals "law" = some (some (.ref f45))) (l45 : K.lookup f45 = some ⟨oc45, od45, .func (PySem.W.fnOf "law" "law" (defArgs sLaw) (defBody sLaw) (defScope sLaw) .none kV45 dc45 pm45 an45 cd45 ct45), sl45⟩) (c45 : PySem.W.codeIn K cd45 "law" = true) (k45 : PySem.W.keepIn K (.ref f45) = true)
    (z0 : PySem.W.nsIn K mainGlobals "len" = some none)
    (z1 : PySem.W.nsIn K mainGlobals "list" = some none)
    (z2 : PySem.W.nsIn K mainGlobals "zip" = some none)
    (z3 : PySem.W.nsIn K mainGlobals "range" = some none)
    (z4 : PySem.W.nsIn K mainGlobals "sorted" = some none)
    (z5 : PySem.W.nsIn K mainGlobals "enumerate" = some none)
    (z6 : PySem.W.nsIn K mainGlobals "max" = some none)
    (z7 : PySem.W.nsIn K mainGlobals "str" = some none)
    (z8 : PySem.W.nsIn K mainGlobals "isinstance" = some none)
    (z9 : PySem.W.nsIn K mainGlobals "ValueError" = some none)
    (q0 : PySem.W.nsIn K mainGlobals "MOST_THINGS" = some (some (.int 12 tk0)))
    {C0 : Addr} (nC0 : PySem.W.nsIn K mainGlobals "NoThings" = some (some (.ref C0)))
    {C1 : Addr} (nC1 : PySem.W.nsIn K mainGlobals "NoSharing" = some (some (.ref C1)))
    {C2 : Addr} (nC2 : PySem.W.nsIn K mainGlobals "NoShares" = some (some (.ref C2)))
    {C3 : Addr} (nC3 : PySem.W.nsIn K mainGlobals "Unlike" = some (some (.ref C3)))
    {C4 : Addr} (nC4 : PySem.W.nsIn K mainGlobals "NotFiner" = some (some (.ref C4)))
    {C5 : Addr} (nC5 : PySem.W.nsIn K mainGlobals "NoThing" = some (some (.ref C5)))
    {C6 : Addr} (nC6 : PySem.W.nsIn K mainGlobals "NoNumber" = some (some (.ref C6)))
    {C7 : Addr} (nC7 : PySem.W.nsIn K mainGlobals "NoWay" = some (some (.ref C7)))
    {C8 : Addr} (nC8 : PySem.W.nsIn K mainGlobals "NotRead" = some (some (.ref C8)))
    {CS : Addr} (nCS : PySem.W.nsIn K mainGlobals "ShareError" = some (some (.ref CS)))
    (xVC0 : PySem.W.excIn K C0 bmVE "ValueError.__new__" = true)
    (xVC1 : PySem.W.excIn K C1 bmVE "ValueError.__new__" = true)
    (xVC2 : PySem.W.excIn K C2 bmVE "ValueError.__new__" = true)
    (xVC3 : PySem.W.excIn K C3 bmVE "ValueError.__new__" = true)
    (xVC4 : PySem.W.excIn K C4 bmVE "ValueError.__new__" = true)
    (xVC5 : PySem.W.excIn K C5 bmVE "ValueError.__new__" = true)
    (xVC6 : PySem.W.excIn K C6 bmVE "ValueError.__new__" = true)
    (xVC7 : PySem.W.excIn K C7 bmVE "ValueError.__new__" = true)
    (xVC8 : PySem.W.excIn K C8 bmVE "ValueError.__new__" = true)
    (x0 : XC.ExcCls K C0)
    (x1 : XC.ExcCls K C1)
    (x2 : XC.ExcCls K C2)
    (x3 : XC.ExcCls K C3)
    (x4 : XC.ExcCls K C4)
    (x5 : XC.ExcCls K C5)
    (x6 : XC.ExcCls K C6)
    (x7 : XC.ExcCls K C7)
    (x8 : XC.ExcCls K C8)
    (kS : PySem.W.kitCls K (.ref CS) (.type "BaseException") = some true)
    (kk0 : PySem.W.kitCls K (.ref C0) (.ref CS) = some true)
    (kk1 : PySem.W.kitCls K (.ref C1) (.ref CS) = some true)
    (kk2 : PySem.W.kitCls K (.ref C2) (.ref CS) = some true)
    (kk3 : PySem.W.kitCls K (.ref C3) (.ref CS) = some true)
    (kk4 : PySem.W.kitCls K (.ref C4) (.ref CS) = some true)
    (kk5 : PySem.W.kitCls K (.ref C5) (.ref CS) = some true)
    (kk6 : PySem.W.kitCls K (.ref C6) (.ref CS) = some true)
    (kk7 : PySem.W.kitCls K (.ref C7) (.ref CS) = some true)
    (kk8 : PySem.W.kitCls K (.ref C8) (.ref CS) = some true)
    (v0 : PySem.W.kitOne K (.ref C0) (.type "ValueError") = some true)
    (v1 : PySem.W.kitOne K (.ref C1) (.type "ValueError") = some true)
    (v2 : PySem.W.kitOne K (.ref C2) (.type "ValueError") = some true)
    (v3 : PySem.W.kitOne K (.ref C3) (.type "ValueError") = some true)
    (v4 : PySem.W.kitOne K (.ref C4) (.type "ValueError") = some true)
    (v5 : PySem.W.kitOne K (.ref C5) (.type "ValueError") = some true)
    (v6 : PySem.W.kitOne K (.ref C6) (.type "ValueError") = some true)
    (v7 : PySem.W.kitOne K (.ref C7) (.type "ValueError") = some true)
    (v8 : PySem.W.kitOne K (.ref C8) (.type "ValueError") = some true)
    (i00 : PySem.W.kitOne K (.ref C0) (.ref C0) = some true)
    (i01 : PySem.W.kitOne K (.ref C0) (.ref C1) = some false)
    (i02 : PySem.W.kitOne K (.ref C0) (.ref C2) = some false)
    (i03 : PySem.W.kitOne K (.ref C0) (.ref C3) = some false)
    (i04 : PySem.W.kitOne K (.ref C0) (.ref C4) = some false)
    (i05 : PySem.W.kitOne K (.ref C0) (.ref C5) = some false)
    (i06 : PySem.W.kitOne K (.ref C0) (.ref C6) = some false)
    (i07 : PySem.W.kitOne K (.ref C0) (.ref C7) = some false)
    (i08 : PySem.W.kitOne K (.ref C0) (.ref C8) = some false)
    (i10 : PySem.W.kitOne K (.ref C1) (.ref C0) = some false)
    (i11 : PySem.W.kitOne K (.ref C1) (.ref C1) = some true)
    (i12 : PySem.W.kitOne K (.ref C1) (.ref C2) = some false)
    (i13 : PySem.W.kitOne K (.ref C1) (.ref C3) = some false)
    (i14 : PySem.W.kitOne K (.ref C1) (.ref C4) = some false)
    (i15 : PySem.W.kitOne K (.ref C1) (.ref C5) = some false)
    (i16 : PySem.W.kitOne K (.ref C1) (.ref C6) = some false)
    (i17 : PySem.W.kitOne K (.ref C1) (.ref C7) = some false)
    (i18 : PySem.W.kitOne K (.ref C1) (.ref C8) = some false)
    (i20 : PySem.W.kitOne K (.ref C2) (.ref C0) = some false)
    (i21 : PySem.W.kitOne K (.ref C2) (.ref C1) = some false)
    (i22 : PySem.W.kitOne K (.ref C2) (.ref C2) = some true)
    (i23 : PySem.W.kitOne K (.ref C2) (.ref C3) = some false)
    (i24 : PySem.W.kitOne K (.ref C2) (.ref C4) = some false)
    (i25 : PySem.W.kitOne K (.ref C2) (.ref C5) = some false)
    (i26 : PySem.W.kitOne K (.ref C2) (.ref C6) = some false)
    (i27 : PySem.W.kitOne K (.ref C2) (.ref C7) = some false)
    (i28 : PySem.W.kitOne K (.ref C2) (.ref C8) = some false)
    (i30 : PySem.W.kitOne K (.ref C3) (.ref C0) = some false)
    (i31 : PySem.W.kitOne K (.ref C3) (.ref C1) = some false)
    (i32 : PySem.W.kitOne K (.ref C3) (.ref C2) = some false)
    (i33 : PySem.W.kitOne K (.ref C3) (.ref C3) = some true)
    (i34 : PySem.W.kitOne K (.ref C3) (.ref C4) = some false)
    (i35 : PySem.W.kitOne K (.ref C3) (.ref C5) = some false)
    (i36 : PySem.W.kitOne K (.ref C3) (.ref C6) = some false)
    (i37 : PySem.W.kitOne K (.ref C3) (.ref C7) = some false)
    (i38 : PySem.W.kitOne K (.ref C3) (.ref C8) = some false)
    (i40 : PySem.W.kitOne K (.ref C4) (.ref C0) = some false)
    (i41 : PySem.W.kitOne K (.ref C4) (.ref C1) = some false)
    (i42 : PySem.W.kitOne K (.ref C4) (.ref C2) = some false)
    (i43 : PySem.W.kitOne K (.ref C4) (.ref C3) = some false)
    (i44 : PySem.W.kitOne K (.ref C4) (.ref C4) = some true)
    (i45 : PySem.W.kitOne K (.ref C4) (.ref C5) = some false)
    (i46 : PySem.W.kitOne K (.ref C4) (.ref C6) = some false)
    (i47 : PySem.W.kitOne K (.ref C4) (.ref C7) = some false)
    (i48 : PySem.W.kitOne K (.ref C4) (.ref C8) = some false)
    (i50 : PySem.W.kitOne K (.ref C5) (.ref C0) = some false)
    (i51 : PySem.W.kitOne K (.ref C5) (.ref C1) = some false)
    (i52 : PySem.W.kitOne K (.ref C5) (.ref C2) = some false)
    (i53 : PySem.W.kitOne K (.ref C5) (.ref C3) = some false)
    (i54 : PySem.W.kitOne K (.ref C5) (.ref C4) = some false)
    (i55 : PySem.W.kitOne K (.ref C5) (.ref C5) = some true)
    (i56 : PySem.W.kitOne K (.ref C5) (.ref C6) = some false)
    (i57 : PySem.W.kitOne K (.ref C5) (.ref C7) = some false)
    (i58 : PySem.W.kitOne K (.ref C5) (.ref C8) = some false)
    (i60 : PySem.W.kitOne K (.ref C6) (.ref C0) = some false)
    (i61 : PySem.W.kitOne K (.ref C6) (.ref C1) = some false)
    (i62 : PySem.W.kitOne K (.ref C6) (.ref C2) = some false)
    (i63 : PySem.W.kitOne K (.ref C6) (.ref C3) = some false)
    (i64 : PySem.W.kitOne K (.ref C6) (.ref C4) = some false)
    (i65 : PySem.W.kitOne K (.ref C6) (.ref C5) = some false)
    (i66 : PySem.W.kitOne K (.ref C6) (.ref C6) = some true)
    (i67 : PySem.W.kitOne K (.ref C6) (.ref C7) = some false)
    (i68 : PySem.W.kitOne K (.ref C6) (.ref C8) = some false)
    (i70 : PySem.W.kitOne K (.ref C7) (.ref C0) = some false)
    (i71 : PySem.W.kitOne K (.ref C7) (.ref C1) = some false)
    (i72 : PySem.W.kitOne K (.ref C7) (.ref C2) = some false)
    (i73 : PySem.W.kitOne K (.ref C7) (.ref C3) = some false)
    (i74 : PySem.W.kitOne K (.ref C7) (.ref C4) = some false)
    (i75 : PySem.W.kitOne K (.ref C7) (.ref C5) = some false)
    (i76 : PySem.W.kitOne K (.ref C7) (.ref C6) = some false)
    (i77 : PySem.W.kitOne K (.ref C7) (.ref C7) = some true)
    (i78 : PySem.W.kitOne K (.ref C7) (.ref C8) = some false)
    (i80 : PySem.W.kitOne K (.ref C8) (.ref C0) = some false)
    (i81 : PySem.W.kitOne K (.ref C8) (.ref C1) = some false)
    (i82 : PySem.W.kitOne K (.ref C8) (.ref C2) = some false)
    (i83 : PySem.W.kitOne K (.ref C8) (.ref C3) = some false)
    (i84 : PySem.W.kitOne K (.ref C8) (.ref C4) = some false)
    (i85 : PySem.W.kitOne K (.ref C8) (.ref C5) = some false)
    (i86 : PySem.W.kitOne K (.ref C8) (.ref C6) = some false)
    (i87 : PySem.W.kitOne K (.ref C8) (.ref C7) = some false)
    (i88 : PySem.W.kitOne K (.ref C8) (.ref C8) = some true)
    : ∃ fd : FuncData, (∀ (s : Shared) (v : Value), BindsTo s fd ⟨[v], []⟩ [("script", v)]) ∧ ∀ base : Heap, K.In base → base.Ns mainGlobals mg → FnOk l.prog w K mg base CX0 12 fa fd ["script"] (spLaw K) := by
  have e := hfa.symm.trans (PySem.W.mg_of X G a45)
  cases e
  have F1 := fun_mk (st := sMany) l1 c1 k1
  have b1 := F1.binds (ps := ["number"]) fun _ _ _ _ _ _ us hl => match us, hl with | [_], _ => rfl
  have m1 := PySem.W.mg_of X G a1
  have F2 := fun_mk (st := sAskTh) l2 c2 k2
  have b2 := F2.binds (ps := ["things"]) fun _ _ _ _ _ _ us hl => match us, hl with | [_], _ => rfl
  have m2 := PySem.W.mg_of X G a2
  have F3 := fun_mk (st := sIs) l3 c3 k3
  have b3 := F3.binds (ps := ["one"]) fun _ _ _ _ _ _ us hl => match us, hl with | [_], _ => rfl
  have m3 := PySem.W.mg_of X G a3
  have F4 := fun_mk (st := sAsk) l4 c4 k4
  have b4 := F4.binds (ps := ["one"]) fun _ _ _ _ _ _ us hl => match us, hl with | [_], _ => rfl
  have m4 := PySem.W.mg_of X G a4
  have F5 := fun_mk (st := sMarked) l5 c5 k5
  have b5 := F5.binds (ps := ["labels"]) fun _ _ _ _ _ _ us hl => match us, hl with | [_], _ => rfl
  have m5 := PySem.W.mg_of X G a5
  have F6 := fun_mk (st := sShares) l6 c6 k6
  have b6 := F6.binds (ps := ["one"]) fun _ _ _ _ _ _ us hl => match us, hl with | [_], _ => rfl
  have m6 := PySem.W.mg_of X G a6
  have F7 := fun_mk (st := sAre) l7 c7 k7
  have b7 := F7.binds (ps := ["shares"]) fun _ _ _ _ _ _ us hl => match us, hl with | [_], _ => rfl
  have m7 := PySem.W.mg_of X G a7
  have F8 := fun_mk (st := sMarksOf) l8 c8 k8
  have b8 := F8.binds (ps := ["shares"]) fun _ _ _ _ _ _ us hl => match us, hl with | [_], _ => rfl
  have m8 := PySem.W.mg_of X G a8
  have F9 := fun_mk (st := sSizes) l9 c9 k9
  have b9 := F9.binds (ps := ["one"]) fun _ _ _ _ _ _ us hl => match us, hl with | [_], _ => rfl
  have m9 := PySem.W.mg_of X G a9
  have F10 := fun_mk (st := sAlike) l10 c10 k10
  have b10 := F10.binds (ps := ["one", "other"]) fun _ _ _ _ _ _ us hl => match us, hl with | [_, _], _ => rfl
  have m10 := PySem.W.mg_of X G a10
  have F11 := fun_mk (st := sAskFin) l11 c11 k11
  have b11 := F11.binds (ps := ["one", "other"]) fun _ _ _ _ _ _ us hl => match us, hl with | [_, _], _ => rfl
  have m11 := PySem.W.mg_of X G a11
  have F12 := fun_mk (st := sFiner) l12 c12 k12
  have b12 := F12.binds (ps := ["one", "other"]) fun _ _ _ _ _ _ us hl => match us, hl with | [_, _], _ => rfl
  have m12 := PySem.W.mg_of X G a12
  have F13 := fun_mk (st := sMeet) l13 c13 k13
  have b13 := F13.binds (ps := ["one", "other"]) fun _ _ _ _ _ _ us hl => match us, hl with | [_, _], _ => rfl
  have m13 := PySem.W.mg_of X G a13
  have F14 := fun_mk (st := sJoin) l14 c14 k14
  have b14 := F14.binds (ps := ["one", "other"]) fun _ _ _ _ _ _ us hl => match us, hl with | [_, _], _ => rfl
  have m14 := PySem.W.mg_of X G a14
  have F15 := fun_mk (st := sRise) l15 c15 k15
  have b15 := F15.binds (ps := ["one", "other"]) fun _ _ _ _ _ _ us hl => match us, hl with | [_, _], _ => rfl
  have m15 := PySem.W.mg_of X G a15
  have F16 := fun_mk (st := sStep) l16 c16 k16
  have b16 := F16.binds (ps := ["marks", "kept", "gone"]) fun _ _ _ _ _ _ us hl => match us, hl with | [_, _, _], _ => rfl
  have m16 := PySem.W.mg_of X G a16
  have F17 := fun_mk (st := sMR) l17 c17 k17
  have b17 := F17.binds (ps := ["one", "other"]) fun _ _ _ _ _ _ us hl => match us, hl with | [_, _], _ => rfl
  have m17 := PySem.W.mg_of X G a17
  have F18 := fun_mk (st := sSigned) l18 c18 k18
  have b18 := F18.binds (ps := ["one", "other"]) fun _ _ _ _ _ _ us hl => match us, hl with | [_, _], _ => rfl
  have m18 := PySem.W.mg_of X G a18
  have F19 := fun_mk (st := sShown) l19 c19 k19
  have b19 := F19.binds (ps := ["one"]) fun _ _ _ _ _ _ us hl => match us, hl with | [_], _ => rfl
  have m19 := PySem.W.mg_of X G a19
  have F20 := fun_mk (st := sShownS) l20 c20 k20
  have b20 := F20.binds (ps := ["share"]) fun _ _ _ _ _ _ us hl => match us, hl with | [_], _ => rfl
  have m20 := PySem.W.mg_of X G a20
  have F21 := fun_mk (st := sRead) l21 c21 k21
  have b21 := F21.binds (ps := ["text"]) fun _ _ _ _ _ _ us hl => match us, hl with | [_], _ => rfl
  have m21 := PySem.W.mg_of X G a21
  have F22 := fun_mk (st := sReadS) l22 c22 k22
  have b22 := F22.binds (ps := ["part"]) fun _ _ _ _ _ _ us hl => match us, hl with | [_], _ => rfl
  have m22 := PySem.W.mg_of X G a22
  have F23 := fun_mk (st := sWays) l23 c23 k23
  have b23 := F23.binds (ps := ["further", "shares"]) fun _ _ _ _ _ _ us hl => match us, hl with | [_, _], _ => rfl
  have m23 := PySem.W.mg_of X G a23
  have F24 := fun_mk (st := sManyN) l24 c24 k24
  have b24 := F24.binds (ps := ["things"]) fun _ _ _ _ _ _ us hl => match us, hl with | [_], _ => rfl
  have m24 := PySem.W.mg_of X G a24
  have F25 := fun_mk (st := sWith) l25 c25 k25
  have b25 := F25.binds (ps := ["things", "shares"]) fun _ _ _ _ _ _ us hl => match us, hl with | [_, _], _ => rfl
  have m25 := PySem.W.mg_of X G a25
  have F26 := fun_mk (st := sAt) l26 c26 k26
  have b26 := F26.binds (ps := ["things", "number"]) fun _ _ _ _ _ _ us hl => match us, hl with | [_, _], _ => rfl
  have m26 := PySem.W.mg_of X G a26
  have F27 := fun_mk (st := sNof) l27 c27 k27
  have b27 := F27.binds (ps := ["one"]) fun _ _ _ _ _ _ us hl => match us, hl with | [_], _ => rfl
  have m27 := PySem.W.mg_of X G a27
  have F28 := fun_mk (st := sMFin) l28 c28 k28
  have b28 := F28.binds (ps := ["one"]) fun _ _ _ _ _ _ us hl => match us, hl with | [_], _ => rfl
  have m28 := PySem.W.mg_of X G a28
  have F29 := fun_mk (st := sMCoa) l29 c29 k29
  have b29 := F29.binds (ps := ["one"]) fun _ _ _ _ _ _ us hl => match us, hl with | [_], _ => rfl
  have m29 := PySem.W.mg_of X G a29
  have F30 := fun_mk (st := sAskT) l30 c30 k30
  have b30 := F30.binds (ps := ["things", "thing"]) fun _ _ _ _ _ _ us hl => match us, hl with | [_, _], _ => rfl
  have m30 := PySem.W.mg_of X G a30
  have F31 := fun_mk (st := sAskP) l31 c31 k31
  have b31 := F31.binds (ps := ["things", "pairs"]) fun _ _ _ _ _ _ us hl => match us, hl with | [_, _], _ => rfl
  have m31 := PySem.W.mg_of X G a31
  have F32 := fun_mk (st := sShOf) l32 c32 k32
  have b32 := F32.binds (ps := ["things", "pairs"]) fun _ _ _ _ _ _ us hl => match us, hl with | [_, _], _ => rfl
  have m32 := PySem.W.mg_of X G a32
  have F33 := fun_mk (st := sWayBy) l33 c33 k33
  have b33 := F33.binds (ps := ["things", "pairs", "one", "other"]) fun _ _ _ _ _ _ us hl => match us, hl with | [_, _, _, _], _ => rfl
  have m33 := PySem.W.mg_of X G a33
  have F34 := fun_mk (st := sWaysF) l34 c34 k34
  have b34 := F34.binds (ps := ["things", "pairs", "first"]) fun _ _ _ _ _ _ us hl => match us, hl with | [_, _, _], _ => rfl
  have m34 := PySem.W.mg_of X G a34
  have F35 := fun_mk (st := sGoOn) l35 c35 k35
  have b35 := F35.binds (ps := ["ways", "number", "come_to", "led_to"]) fun _ _ _ _ _ _ us hl => match us, hl with | [_, _, _, _], _ => rfl
  have m35 := PySem.W.mg_of X G a35
  have F36 := fun_mk (st := sJudged) l36 c36 k36
  have b36 := F36.binds (ps := ["things", "together", "apart"]) fun _ _ _ _ _ _ us hl => match us, hl with | [_, _, _], _ => rfl
  have m36 := PySem.W.mg_of X G a36
  have F37 := fun_mk (st := sCell) l37 c37 k37
  have b37 := F37.binds (ps := ["script", "k"]) fun _ _ _ _ _ _ us hl => match us, hl with | [_, _], _ => rfl
  have m37 := PySem.W.mg_of X G a37
  have F38 := fun_mk (st := sWhich) l38 c38 k38
  have b38 := F38.binds (ps := ["e"]) fun _ _ _ _ _ _ us hl => match us, hl with | [_], _ => rfl
  have m38 := PySem.W.mg_of X G a38
  have F39 := fun_mk (st := sOfTwo) l39 c39 k39
  have b39 := F39.binds (ps := ["way", "one", "other"]) fun _ _ _ _ _ _ us hl => match us, hl with | [_, _, _], _ => rfl
  have m39 := PySem.W.mg_of X G a39
  have F40 := fun_mk (st := sLNoTh) l40 c40 k40
  have b40 := F40.binds (ps := ["cell", "far"]) fun _ _ _ _ _ _ us hl => match us, hl with | [_, _], _ => rfl
  have m40 := PySem.W.mg_of X G a40
  have F41 := fun_mk (st := sLNoSh) l41 c41 k41
  have b41 := F41.binds (ps := ["cell", "far"]) fun _ _ _ _ _ _ us hl => match us, hl with | [_, _], _ => rfl
  have m41 := PySem.W.mg_of X G a41
  have F42 := fun_mk (st := sLNoT) l42 c42 k42
  have b42 := F42.binds (ps := ["cell", "far"]) fun _ _ _ _ _ _ us hl => match us, hl with | [_, _], _ => rfl
  have m42 := PySem.W.mg_of X G a42
  have F43 := fun_mk (st := sLNoN) l43 c43 k43
  have b43 := F43.binds (ps := ["cell", "far"]) fun _ _ _ _ _ _ us hl => match us, hl with | [_, _], _ => rfl
  have m43 := PySem.W.mg_of X G a43
  have F44 := fun_mk (st := sDone) l44 c44 k44
  have b44 := F44.binds (ps := ["way", "cell", "far"]) fun _ _ _ _ _ _ us hl => match us, hl with | [_, _, _], _ => rfl
  have m44 := PySem.W.mg_of X G a44
  have F45 := fun_mk (st := sLaw) l45 c45 k45
  have y0 := PySem.W.mg_none_of X G z0
  have y1 := PySem.W.mg_none_of X G z1
  have y2 := PySem.W.mg_none_of X G z2
  have y3 := PySem.W.mg_none_of X G z3
  have y4 := PySem.W.mg_none_of X G z4
  have y5 := PySem.W.mg_none_of X G z5
  have y6 := PySem.W.mg_none_of X G z6
  have y7 := PySem.W.mg_none_of X G z7
  have y8 := PySem.W.mg_none_of X G z8
  have y9 := PySem.W.mg_none_of X G z9
  have w0 := PySem.W.mg_of X G q0
  have mC0 := PySem.W.mg_of X G nC0
  have mC1 := PySem.W.mg_of X G nC1
  have mC2 := PySem.W.mg_of X G nC2
  have mC3 := PySem.W.mg_of X G nC3
  have mC4 := PySem.W.mg_of X G nC4
  have mC5 := PySem.W.mg_of X G nC5
  have mC6 := PySem.W.mg_of X G nC6
  have mC7 := PySem.W.mg_of X G nC7
  have mC8 := PySem.W.mg_of X G nC8
  have mCS := PySem.W.mg_of X G nCS
  refine ⟨PySem.W.fnOf "law" "law" (defArgs sLaw) (defBody sLaw) (defScope sLaw) .none kV45 dc45 pm45 an45 cd45 ct45, fun s v => .of_eq rfl, fun base _ _ => ?_⟩
  have g1 : Fn l.prog w K mg base "is_many_things" ["number"] 1 (spMany K) := ⟨_, _, m1, k1, b1, ok_many F1 w0⟩
  have g2 : Fn l.prog w K mg base "is_sharing" ["one"] 2 (spIs K) := ⟨_, _, m3, k3, b3, ok_is F3 g1 y0⟩
  have g3 : Fn l.prog w K mg base "ask_sharing" ["one"] 3 (spAsk K) := ⟨_, _, m4, k4, b4, ok_ask F4 g2⟩
  have g4 : Fn l.prog w K mg base "marked" ["labels"] 1 (spMarked (labInt K)) := ⟨_, _, m5, k5, b5, ok_marked (dlInt K) F5 y0⟩
  have g5 : Fn l.prog w K mg base "marked" ["labels"] 1 (spMarked (labPair K)) := ⟨_, _, m5, k5, b5, ok_marked (dlPair K) F5 y0⟩
  have g6 : Fn l.prog w K mg base "ask_alike" ["one", "other"] 4 (spAlike K) := ⟨_, _, m10, k10, b10, ok_alike F10 g3 y0⟩
  have g7 : Fn l.prog w K mg base "meeting" ["one", "other"] 5 (spMeet K) := ⟨_, _, m13, k13, b13, ok_meet F13 g6 g5 y1 y2⟩
  have g8 : Fn l.prog w K mg base "is_finer" ["one", "other"] 6 (spFiner K) := ⟨_, _, m12, k12, b12, ok_finer F12 g7⟩
  have g9 : Fn l.prog w K mg base "ask_things" ["things"] 2 (spAskTh K) := ⟨_, _, m2, k2, b2, ok_askth F2 g1⟩
  have g10 : Fn l.prog w K mg base "many_ways_on" ["further", "shares"] 1 (spWays K) := ⟨_, _, m23, k23, b23, ok_ways F23 y0 y3⟩
  have g11 : Fn l.prog w K mg base "many" ["things"] 3 (spManyN K) := ⟨_, _, m24, k24, b24, ok_manyn F24 g9 g10⟩
  have g12 : Fn1 l.prog w K mg base "ask_things" ["things"] 2 (spThR K C0) := ⟨_, _, m2, k2, b2, okr_askth xVC0 mC0 g1 F2⟩
  have g13 : Fn1 l.prog w K mg base "many" ["things"] 3 (spThR K C0) := ⟨_, _, m24, k24, b24, okr_many g12 F24⟩
  have g14 : Fn1 l.prog w K mg base "many_with" ["things", "shares"] 3 (spThR2 K C0) := ⟨_, _, m25, k25, b25, okr_with g12 F25⟩
  have g15 : Fn1 l.prog w K mg base "sharing_at" ["things", "number"] 3 (spThR2 K C0) := ⟨_, _, m26, k26, b26, okr_at g12 F26⟩
  have g16 : Fn1 l.prog w K mg base "sharing_of" ["things", "pairs"] 3 (spThR2 K C0) := ⟨_, _, m32, k32, b32, okr_shof g12 F32⟩
  have g17 : Fn1 l.prog w K mg base "way_by" ["things", "pairs", "one", "other"] 3 (spThR4 K C0) := ⟨_, _, m33, k33, b33, okr_way g12 F33⟩
  have g18 : Fn1 l.prog w K mg base "judged" ["things", "together", "apart"] 4 (spThR3 K C0) := ⟨_, _, m36, k36, b36, okr_judged g16 F36⟩
  have g19 : Fn1 l.prog w K mg base "many_with" ["things", "shares"] 3 (spWithN K C6) := ⟨_, _, m25, k25, b25, okn_with xVC6 mC6 g9 w0 F25⟩
  have g20 : Fn1 l.prog w K mg base "sharing_at" ["things", "number"] 4 (spAtN K C6) := ⟨_, _, m26, k26, b26, okn_at xVC6 mC6 g9 g11 F26⟩
  have g21 : Fn1 l.prog w K mg base "ask_sharing" ["one"] 3 (spShR K C1) := ⟨_, _, m4, k4, b4, okr_ask xVC1 mC1 g2 F4⟩
  have g22 : Fn1 l.prog w K mg base "shares_of" ["one"] 4 (spShR K C1) := ⟨_, _, m6, k6, b6, okr_shares g21 F6⟩
  have g23 : Fn1 l.prog w K mg base "number_of" ["one"] 4 (spShR K C1) := ⟨_, _, m27, k27, b27, okr_nof g21 F27⟩
  have g24 : Fn1 l.prog w K mg base "sizes" ["one"] 5 (spShR K C1) := ⟨_, _, m9, k9, b9, okr_sizes g22 y4 F9⟩
  have g25 : Fn1 l.prog w K mg base "many_finer" ["one"] 6 (spShR K C1) := ⟨_, _, m28, k28, b28, okr_mfin g24 F28⟩
  have g26 : Fn1 l.prog w K mg base "many_coarser" ["one"] 6 (spShR K C1) := ⟨_, _, m29, k29, b29, okr_mcoa g24 g13 y0 F29⟩
  have g27 : Fn1 l.prog w K mg base "shown" ["one"] 5 (spShR K C1) := ⟨_, _, m19, k19, b19, okr_shown g22 F19⟩
  have g28 : Fn1 l.prog w K mg base "ask_alike" ["one", "other"] 4 (spTwoR K C1 C3) := ⟨_, _, m10, k10, b10, okr_alike xVC3 mC3 g3 g21 y0 F10⟩
  have g29 : Fn1 l.prog w K mg base "meeting" ["one", "other"] 5 (spTwoR K C1 C3) := ⟨_, _, m13, k13, b13, okr_meet g28 F13⟩
  have g30 : Fn1 l.prog w K mg base "joining" ["one", "other"] 6 (spTwoR K C1 C3) := ⟨_, _, m14, k14, b14, okr_join g28 F14⟩
  have g31 : Fn1 l.prog w K mg base "is_finer" ["one", "other"] 6 (spTwoR K C1 C3) := ⟨_, _, m12, k12, b12, okr_finer g29 F12⟩
  have g32 : Fn1 l.prog w K mg base "ask_finer" ["one", "other"] 7 (spThreeR K C1 C3 C4) := ⟨_, _, m11, k11, b11, okr_askfin xVC4 mC4 g8 g31 F11⟩
  have g33 : Fn1 l.prog w K mg base "rise" ["one", "other"] 8 (spThreeR K C1 C3 C4) := ⟨_, _, m15, k15, b15, okr_rise g32 F15⟩
  have g34 : Fn1 l.prog w K mg base "many_rises" ["one", "other"] 8 (spThreeR K C1 C3 C4) := ⟨_, _, m17, k17, b17, okr_mr g32 F17⟩
  have g35 : Fn1 l.prog w K mg base "signed" ["one", "other"] 8 (spThreeR K C1 C3 C4) := ⟨_, _, m18, k18, b18, okr_signed g32 F18⟩
  have g36 : Fn l.prog w K mg base "stepped" ["marks", "kept", "gone"] 2 (spStep K) := ⟨_, _, m16, k16, b16, ok_step F16 g4⟩
  have g37 : Fn l.prog w K mg base "ask_thing" ["things", "thing"] 1 (spAskT K) := ⟨_, _, m30, k30, b30, ok_askt F30⟩
  have g38 : Fn l.prog w K mg base "ask_pairs" ["things", "pairs"] 2 (spAskP K) := ⟨_, _, m31, k31, b31, ok_askp F31 g37⟩
  have g39 : Fn l.prog w K mg base "sharing_of" ["things", "pairs"] 3 (spShOf K) := ⟨_, _, m32, k32, b32, ok_shof F32 g9 g38 g36 y1 y3⟩
  have g40 : Fn l.prog w K mg base "go_on" ["ways", "number", "come_to", "led_to"] 1 (spGoOn K) := ⟨_, _, m35, k35, b35, ok_goon F35⟩
  have g41 : Fn l.prog w K mg base "ways_from" ["things", "pairs", "first"] 2 (spWaysF K) := ⟨_, _, m34, k34, b34, ok_waysf F34 g40 y3 y5⟩
  have g42 : Fn1 l.prog w K mg base "way_by" ["things", "pairs", "one", "other"] 3 (spWayBy1 K C7) := ⟨_, _, m33, k33, b33, ok_wayby1 xVC7 mC7 F33 g9 g38 g37 g41⟩
  have g43 : Fn1 l.prog w K mg base "ask_thing" ["things", "thing"] 1 (spAskTB K C5) := ⟨_, _, m30, k30, b30, okb_askt xVC5 mC5 F30⟩
  have g44 : Fn1 l.prog w K mg base "ask_pairs" ["things", "pairs"] 2 (spAskPR K C5) := ⟨_, _, m31, k31, b31, okr_askp F31 g43⟩
  have g45 : Fn1 l.prog w K mg base "sharing_of" ["things", "pairs"] 3 (spShOfT K C5) := ⟨_, _, m32, k32, b32, okt_shof F32 g9 g44⟩
  have g46 : Fn1 l.prog w K mg base "way_by" ["things", "pairs", "one", "other"] 3 (spWayT K C5) := ⟨_, _, m33, k33, b33, okt_way F33 g9 g38 g44 g43⟩
  have g47 : Fn1 l.prog w K mg base "judged" ["things", "together", "apart"] 4 (spJudT K C5) := ⟨_, _, m36, k36, b36, okt_jud F36 g39 g45 g44⟩
  have g48 : Fn l.prog w K mg base "shares_of" ["one"] 4 (spShares K) := ⟨_, _, m6, k6, b6, ok_shares F6 g3 y3 y6 y5⟩
  have g49 : Fn l.prog w K mg base "are_shares" ["shares"] 2 (spAre K) := ⟨_, _, m7, k7, b7, ok_are F7 y0 y3 y1 y4 g1⟩
  have g50 : Fn1 l.prog w K mg base "marks_of" ["shares"] 3 (spMarks1 K C2) := ⟨_, _, m8, k8, b8, ok_marksof1 xVC2 mC2 F8 g49 g4 y0 y3 y5⟩
  have g51 : Fn l.prog w K mg base "shown_share" ["share"] 1 (spShownS K) := ⟨_, _, m20, k20, b20, ok_showns F20 y7⟩
  have g52 : Fn l.prog w K mg base "shown" ["one"] 5 (spShown K) := ⟨_, _, m19, k19, b19, ok_shown F19 g48 g51⟩
  have g53 : Fn1 l.prog w K mg base "read_share" ["part"] 1 (spReadS1 K C8) := ⟨_, _, m22, k22, b22, ok_reads1 xVC8 mC8 F22 y7 y3 w0⟩
  have g54 : Fn1 l.prog w K mg base "read" ["text"] 6 (spRead1 K C8) := ⟨_, _, m21, k21, b21, ok_read1 xVC8 mC8 F21 g53 g49 g50 g52⟩
  have g55 : Fn l.prog w K mg base "_law_cell_at" ["script", "k"] 1 (spCell K) := ⟨_, _, m37, k37, b37, ok_cell F37 y0⟩
  have g56 : Fn1 l.prog w K mg base "_law_of_two" ["way", "one", "other"] 9 (spOfTwo K C1 C3 C4) := ⟨_, _, m39, k39, b39, ok_oftwo g31 g29 g30 g33 g34 g35 F39⟩
  have g57 : Fn1 l.prog w K mg base "_law_no_things" ["cell", "far"] 5 (spCF K C0) := ⟨_, _, m40, k40, b40, ok_lnoth g13 g14 g15 g16 g17 g18 F40⟩
  have g58 : Fn1 l.prog w K mg base "_law_no_number" ["cell", "far"] 5 (spCF K C6) := ⟨_, _, m43, k43, b43, ok_lnon g19 g20 F43⟩
  have g59 : Fn1 l.prog w K mg base "_law_no_sharing" ["cell", "far"] 10 (spCF K C1) := ⟨_, _, m41, k41, b41, ok_lnosh g56 g22 g24 g23 g25 g26 g27 F41⟩
  have g60 : Fn1 l.prog w K mg base "_law_no_thing" ["cell", "far"] 5 (spCF K C5) := ⟨_, _, m42, k42, b42, ok_lnot g45 g46 g47 F42⟩
  have g61 : Fn1 l.prog w K mg base "_law_done" ["way", "cell", "far"] 11 (spDone K (clOf C0 C1 C2 C3 C4 C5 C6 C7 C8)) := ⟨_, _, m44, k44, b44, ok_done (cl := (clOf C0 C1 C2 C3 C4 C5 C6 C7 C8)) g57 g59 g50 g56 g60 g58 g42 g54 F44⟩
  have g62 : FnH l.prog w K mg base "_law_which" ["e"] 1 (spWhich K (clOf C0 C1 C2 C3 C4 C5 C6 C7 C8)) := ⟨_, _, m38, k38, b38, ok_which (cl := (clOf C0 C1 C2 C3 C4 C5 C6 C7 C8)) mC0 mC1 mC2 mC3 mC4 mC5 mC6 mC7 mC8 y8 y9 (fun k hk => (match k, hk with | 0, _ => x0 | 1, _ => x1 | 2, _ => x2 | 3, _ => x3 | 4, _ => x4 | 5, _ => x5 | 6, _ => x6 | 7, _ => x7 | 8, _ => x8 | n + 9, z => absurd z (by omega))) (fun k j hk hj => (match k, hk with | 0, _ => (match j, hj with | 0, _ => i00 | 1, _ => i01 | 2, _ => i02 | 3, _ => i03 | 4, _ => i04 | 5, _ => i05 | 6, _ => i06 | 7, _ => i07 | 8, _ => i08 | n + 9, z => absurd z (by omega)) | 1, _ => (match j, hj with | 0, _ => i10 | 1, _ => i11 | 2, _ => i12 | 3, _ => i13 | 4, _ => i14 | 5, _ => i15 | 6, _ => i16 | 7, _ => i17 | 8, _ => i18 | n + 9, z => absurd z (by omega)) | 2, _ => (match j, hj with | 0, _ => i20 | 1, _ => i21 | 2, _ => i22 | 3, _ => i23 | 4, _ => i24 | 5, _ => i25 | 6, _ => i26 | 7, _ => i27 | 8, _ => i28 | n + 9, z => absurd z (by omega)) | 3, _ => (match j, hj with | 0, _ => i30 | 1, _ => i31 | 2, _ => i32 | 3, _ => i33 | 4, _ => i34 | 5, _ => i35 | 6, _ => i36 | 7, _ => i37 | 8, _ => i38 | n + 9, z => absurd z (by omega)) | 4, _ => (match j, hj with | 0, _ => i40 | 1, _ => i41 | 2, _ => i42 | 3, _ => i43 | 4, _ => i44 | 5, _ => i45 | 6, _ => i46 | 7, _ => i47 | 8, _ => i48 | n + 9, z => absurd z (by omega)) | 5, _ => (match j, hj with | 0, _ => i50 | 1, _ => i51 | 2, _ => i52 | 3, _ => i53 | 4, _ => i54 | 5, _ => i55 | 6, _ => i56 | 7, _ => i57 | 8, _ => i58 | n + 9, z => absurd z (by omega)) | 6, _ => (match j, hj with | 0, _ => i60 | 1, _ => i61 | 2, _ => i62 | 3, _ => i63 | 4, _ => i64 | 5, _ => i65 | 6, _ => i66 | 7, _ => i67 | 8, _ => i68 | n + 9, z => absurd z (by omega)) | 7, _ => (match j, hj with | 0, _ => i70 | 1, _ => i71 | 2, _ => i72 | 3, _ => i73 | 4, _ => i74 | 5, _ => i75 | 6, _ => i76 | 7, _ => i77 | 8, _ => i78 | n + 9, z => absurd z (by omega)) | 8, _ => (match j, hj with | 0, _ => i80 | 1, _ => i81 | 2, _ => i82 | 3, _ => i83 | 4, _ => i84 | 5, _ => i85 | 6, _ => i86 | 7, _ => i87 | 8, _ => i88 | n + 9, z => absurd z (by omega)) | n + 9, z => absurd z (by omega))) (fun k hk => (match k, hk with | 0, _ => v0 | 1, _ => v1 | 2, _ => v2 | 3, _ => v3 | 4, _ => v4 | 5, _ => v5 | 6, _ => v6 | 7, _ => v7 | 8, _ => v8 | n + 9, z => absurd z (by omega))) F38⟩
  exact ok_law (cl := (clOf C0 C1 C2 C3 C4 C5 C6 C7 C8)) mCS kS (fun k hk => (match k, hk with | 0, _ => kk0 | 1, _ => kk1 | 2, _ => kk2 | 3, _ => kk3 | 4, _ => kk4 | 5, _ => kk5 | 6, _ => kk6 | 7, _ => kk7 | 8, _ => kk8 | n + 9, z => absurd z (by omega))) F45 g55 g61 g62 y3
theorem walk {l : PySem.W.OpenLaw} {q : Program} {loose : List Str} {XP : (Str → Option Value) → Heap → Prop} {YP : World → Heap → Prop} {d : DefRec} {K : Params → PySem.W.Frag} (hn : l.most = some 63) (hdf : d.params.defaults = [])
    (hY : ∀ (w : World) (h : Heap), YP w h → (K w.params).In h)
    (F : ∀ (w : World) (mg : Str → Option Value) (fa : Addr) (h : Heap), (K w.params).In h → h.Ns mainGlobals mg → mg d.name = some (.ref fa) →
      ∃ fd : FuncData, (∀ (s : Shared) (u : Value), BindsTo s fd ⟨[u], []⟩ [("script", u)]) ∧ ∀ base : Heap, (K w.params).In base → base.Ns mainGlobals mg → FnOk l.prog w (K w.params) mg base CX0 12 fa fd ["script"] (spLaw (K w.params))) :
    PySem.W.WalkO q loose XP YP l.row.toRowW d [] (fun f vs => PySem.call f vs) :=
  L2.walk_of (n := 63) (k := 12) (x := "script") (CX := fun _ => CX0) (sp := fun w => spLaw (K w.params)) hn (by decide) hdf ⟨rfl, by decide, by decide⟩ hY F (fun _ _ a ns hl _ hS => ⟨a, ns, rfl, hS, hl, fun _ => rfl⟩) fun _ _ _ _ _ z => z
end K
open PySem PySem.W PyProof.Rows
set_option maxRecDepth 100000 in
set_option maxHeartbeats 0 in
theorem PySem.Challenge.cw_sharings_k14_each_refusal_its_own_holds : PySem.Challenge.rw_sharings_k14_each_refusal_its_own.Holds := by
  w_on; o_law; k_head; (case hw => w_witness2)
  k_fill
  refine K.walk (l := PySem.Challenge.rw_sharings_k14_each_refusal_its_own) rfl rfl (fun w h Y => PySem.W.kIn_of Y) ?F
  case F =>
    intro w mg fa h KX G hmg
    refine' K.all_mk KX G hmg ?a1 ?l1 ?c1 ?k1 ?a2 ?l2 ?c2 ?k2 ?a3 ?l3 ?c3 ?k3 ?a4 ?l4 ?c4 ?k4 ?a5 ?l5 ?c5 ?k5 ?a6 ?l6 ?c6 ?k6 ?a7 ?l7 ?c7 ?k7 ?a8 ?l8 ?c8 ?k8 ?a9 ?l9 ?c9 ?k9 ?a10 ?l10 ?c10 ?k10 ?a11 ?l11 ?c11 ?k11 ?a12 ?l12 ?c12 ?k12 ?a13 ?l13 ?c13 ?k13 ?a14 ?l14 ?c14 ?k14 ?a15 ?l15 ?c15 ?k15 ?a16 ?l16 ?c16 ?k16 ?a17 ?l17 ?c17 ?k17 ?a18 ?l18 ?c18 ?k18 ?a19 ?l19 ?c19 ?k19 ?a20 ?l20 ?c20 ?k20 ?a21 ?l21 ?c21 ?k21 ?a22 ?l22 ?c22 ?k22 ?a23 ?l23 ?c23 ?k23 ?a24 ?l24 ?c24 ?k24 ?a25 ?l25 ?c25 ?k25 ?a26 ?l26 ?c26 ?k26 ?a27 ?l27 ?c27 ?k27 ?a28 ?l28 ?c28 ?k28 ?a29 ?l29 ?c29 ?k29 ?a30 ?l30 ?c30 ?k30 ?a31 ?l31 ?c31 ?k31 ?a32 ?l32 ?c32 ?k32 ?a33 ?l33 ?c33 ?k33 ?a34 ?l34 ?c34 ?k34 ?a35 ?l35 ?c35 ?k35 ?a36 ?l36 ?c36 ?k36 ?a37 ?l37 ?c37 ?k37 ?a38 ?l38 ?c38 ?k38 ?a39 ?l39 ?c39 ?k39 ?a40 ?l40 ?c40 ?k40 ?a41 ?l41 ?c41 ?k41 ?a42 ?l42 ?c42 ?k42 ?a43 ?l43 ?c43 ?k43 ?a44 ?l44 ?c44 ?k44 ?a45 ?l45 ?c45 ?k45 ?z0 ?z1 ?z2 ?z3 ?z4 ?z5 ?z6 ?z7 ?z8 ?z9 ?q0 ?nC0 ?nC1 ?nC2 ?nC3 ?nC4 ?nC5 ?nC6 ?nC7 ?nC8 ?nCS ?xVC0 ?xVC1 ?xVC2 ?xVC3 ?xVC4 ?xVC5 ?xVC6 ?xVC7 ?xVC8 ?x0 ?x1 ?x2 ?x3 ?x4 ?x5 ?x6 ?x7 ?x8 ?kS ?kk0 ?kk1 ?kk2 ?kk3 ?kk4 ?kk5 ?kk6 ?kk7 ?kk8 ?v0 ?v1 ?v2 ?v3 ?v4 ?v5 ?v6 ?v7 ?v8 ?i00 ?i01 ?i02 ?i03 ?i04 ?i05 ?i06 ?i07 ?i08 ?i10 ?i11 ?i12 ?i13 ?i14 ?i15 ?i16 ?i17 ?i18 ?i20 ?i21 ?i22 ?i23 ?i24 ?i25 ?i26 ?i27 ?i28 ?i30 ?i31 ?i32 ?i33 ?i34 ?i35 ?i36 ?i37 ?i38 ?i40 ?i41 ?i42 ?i43 ?i44 ?i45 ?i46 ?i47 ?i48 ?i50 ?i51 ?i52 ?i53 ?i54 ?i55 ?i56 ?i57 ?i58 ?i60 ?i61 ?i62 ?i63 ?i64 ?i65 ?i66 ?i67 ?i68 ?i70 ?i71 ?i72 ?i73 ?i74 ?i75 ?i76 ?i77 ?i78 ?i80 ?i81 ?i82 ?i83 ?i84 ?i85 ?i86 ?i87 ?i88
    (case a1 => k_is)
    (case l1 => k_is)
    (case c1 => k_is)
    (case k1 => k_is)
    (case a2 => k_is)
    (case l2 => k_is)
    (case c2 => k_is)
    (case k2 => k_is)
    (case a3 => k_is)
    (case l3 => k_is)
    (case c3 => k_is)
    (case k3 => k_is)
    (case a4 => k_is)
    (case l4 => k_is)
    (case c4 => k_is)
    (case k4 => k_is)
    (case a5 => k_is)
    (case l5 => k_is)
    (case c5 => k_is)
    (case k5 => k_is)
    (case a6 => k_is)
    (case l6 => k_is)
    (case c6 => k_is)
    (case k6 => k_is)
    (case a7 => k_is)
    (case l7 => k_is)
    (case c7 => k_is)
    (case k7 => k_is)
    (case a8 => k_is)
    (case l8 => k_is)
    (case c8 => k_is)
    (case k8 => k_is)
    (case a9 => k_is)
    (case l9 => k_is)
    (case c9 => k_is)
    (case k9 => k_is)
    (case a10 => k_is)
    (case l10 => k_is)
    (case c10 => k_is)
    (case k10 => k_is)
    (case a11 => k_is)
    (case l11 => k_is)
    (case c11 => k_is)
    (case k11 => k_is)
    (case a12 => k_is)
    (case l12 => k_is)
    (case c12 => k_is)
    (case k12 => k_is)
    (case a13 => k_is)
    (case l13 => k_is)
    (case c13 => k_is)
    (case k13 => k_is)
    (case a14 => k_is)
    (case l14 => k_is)
    (case c14 => k_is)
    (case k14 => k_is)
    (case a15 => k_is)
    (case l15 => k_is)
    (case c15 => k_is)
    (case k15 => k_is)
    (case a16 => k_is)
    (case l16 => k_is)
    (case c16 => k_is)
    (case k16 => k_is)
    (case a17 => k_is)
    (case l17 => k_is)
    (case c17 => k_is)
    (case k17 => k_is)
    (case a18 => k_is)
    (case l18 => k_is)
    (case c18 => k_is)
    (case k18 => k_is)
    (case a19 => k_is)
    (case l19 => k_is)
    (case c19 => k_is)
    (case k19 => k_is)
    (case a20 => k_is)
    (case l20 => k_is)
    (case c20 => k_is)
    (case k20 => k_is)
    (case a21 => k_is)
    (case l21 => k_is)
    (case c21 => k_is)
    (case k21 => k_is)
    (case a22 => k_is)
    (case l22 => k_is)
    (case c22 => k_is)
    (case k22 => k_is)
    (case a23 => k_is)
    (case l23 => k_is)
    (case c23 => k_is)
    (case k23 => k_is)
    (case a24 => k_is)
    (case l24 => k_is)
    (case c24 => k_is)
    (case k24 => k_is)
    (case a25 => k_is)
    (case l25 => k_is)
    (case c25 => k_is)
    (case k25 => k_is)
    (case a26 => k_is)
    (case l26 => k_is)
    (case c26 => k_is)
    (case k26 => k_is)
    (case a27 => k_is)
    (case l27 => k_is)
    (case c27 => k_is)
    (case k27 => k_is)
    (case a28 => k_is)
    (case l28 => k_is)
    (case c28 => k_is)
    (case k28 => k_is)
    (case a29 => k_is)
    (case l29 => k_is)
    (case c29 => k_is)
    (case k29 => k_is)
    (case a30 => k_is)
    (case l30 => k_is)
    (case c30 => k_is)
    (case k30 => k_is)
    (case a31 => k_is)
    (case l31 => k_is)
    (case c31 => k_is)
    (case k31 => k_is)
    (case a32 => k_is)
    (case l32 => k_is)
    (case c32 => k_is)
    (case k32 => k_is)
    (case a33 => k_is)
    (case l33 => k_is)
    (case c33 => k_is)
    (case k33 => k_is)
    (case a34 => k_is)
    (case l34 => k_is)
    (case c34 => k_is)
    (case k34 => k_is)
    (case a35 => k_is)
    (case l35 => k_is)
    (case c35 => k_is)
    (case k35 => k_is)
    (case a36 => k_is)
    (case l36 => k_is)
    (case c36 => k_is)
    (case k36 => k_is)
    (case a37 => k_is)
    (case l37 => k_is)
    (case c37 => k_is)
    (case k37 => k_is)
    (case a38 => k_is)
    (case l38 => k_is)
    (case c38 => k_is)
    (case k38 => k_is)
    (case a39 => k_is)
    (case l39 => k_is)
    (case c39 => k_is)
    (case k39 => k_is)
    (case a40 => k_is)
    (case l40 => k_is)
    (case c40 => k_is)
    (case k40 => k_is)
    (case a41 => k_is)
    (case l41 => k_is)
    (case c41 => k_is)
    (case k41 => k_is)
    (case a42 => k_is)
    (case l42 => k_is)
    (case c42 => k_is)
    (case k42 => k_is)
    (case a43 => k_is)
    (case l43 => k_is)
    (case c43 => k_is)
    (case k43 => k_is)
    (case a44 => k_is)
    (case l44 => k_is)
    (case c44 => k_is)
    (case k44 => k_is)
    (case a45 => k_is)
    (case l45 => k_is)
    (case c45 => k_is)
    (case k45 => k_is)
    (case z0 => k_is)
    (case z1 => k_is)
    (case z2 => k_is)
    (case z3 => k_is)
    (case z4 => k_is)
    (case z5 => k_is)
    (case z6 => k_is)
    (case z7 => k_is)
    (case z8 => k_is)
    (case z9 => k_is)
    (case q0 => k_is)
    (case nC0 => k_is)
    (case nC1 => k_is)
    (case nC2 => k_is)
    (case nC3 => k_is)
    (case nC4 => k_is)
    (case nC5 => k_is)
    (case nC6 => k_is)
    (case nC7 => k_is)
    (case nC8 => k_is)
    (case nCS => k_is)
    (case xVC0 => (show PySem.W.excIn _ _ [.type "ValueError", .type "Exception", .type "BaseException", .type "object"] _ = true; k_exc))
    (case xVC1 => (show PySem.W.excIn _ _ [.type "ValueError", .type "Exception", .type "BaseException", .type "object"] _ = true; k_exc))
    (case xVC2 => (show PySem.W.excIn _ _ [.type "ValueError", .type "Exception", .type "BaseException", .type "object"] _ = true; k_exc))
    (case xVC3 => (show PySem.W.excIn _ _ [.type "ValueError", .type "Exception", .type "BaseException", .type "object"] _ = true; k_exc))
    (case xVC4 => (show PySem.W.excIn _ _ [.type "ValueError", .type "Exception", .type "BaseException", .type "object"] _ = true; k_exc))
    (case xVC5 => (show PySem.W.excIn _ _ [.type "ValueError", .type "Exception", .type "BaseException", .type "object"] _ = true; k_exc))
    (case xVC6 => (show PySem.W.excIn _ _ [.type "ValueError", .type "Exception", .type "BaseException", .type "object"] _ = true; k_exc))
    (case xVC7 => (show PySem.W.excIn _ _ [.type "ValueError", .type "Exception", .type "BaseException", .type "object"] _ = true; k_exc))
    (case xVC8 => (show PySem.W.excIn _ _ [.type "ValueError", .type "Exception", .type "BaseException", .type "object"] _ = true; k_exc))
    (case x0 => constructor <;> first | k_is | rfl | decide +kernel)
    (case x1 => constructor <;> first | k_is | rfl | decide +kernel)
    (case x2 => constructor <;> first | k_is | rfl | decide +kernel)
    (case x3 => constructor <;> first | k_is | rfl | decide +kernel)
    (case x4 => constructor <;> first | k_is | rfl | decide +kernel)
    (case x5 => constructor <;> first | k_is | rfl | decide +kernel)
    (case x6 => constructor <;> first | k_is | rfl | decide +kernel)
    (case x7 => constructor <;> first | k_is | rfl | decide +kernel)
    (case x8 => constructor <;> first | k_is | rfl | decide +kernel)
    (case kS => first | k_is | rfl | decide +kernel)
    (case kk0 => first | k_is | rfl | decide +kernel)
    (case kk1 => first | k_is | rfl | decide +kernel)
    (case kk2 => first | k_is | rfl | decide +kernel)
    (case kk3 => first | k_is | rfl | decide +kernel)
    (case kk4 => first | k_is | rfl | decide +kernel)
    (case kk5 => first | k_is | rfl | decide +kernel)
    (case kk6 => first | k_is | rfl | decide +kernel)
    (case kk7 => first | k_is | rfl | decide +kernel)
    (case kk8 => first | k_is | rfl | decide +kernel)
    (case v0 => first | k_is | rfl | decide +kernel)
    (case v1 => first | k_is | rfl | decide +kernel)
    (case v2 => first | k_is | rfl | decide +kernel)
    (case v3 => first | k_is | rfl | decide +kernel)
    (case v4 => first | k_is | rfl | decide +kernel)
    (case v5 => first | k_is | rfl | decide +kernel)
    (case v6 => first | k_is | rfl | decide +kernel)
    (case v7 => first | k_is | rfl | decide +kernel)
    (case v8 => first | k_is | rfl | decide +kernel)
    (case i00 => first | k_is | rfl | decide +kernel)
    (case i01 => first | k_is | rfl | decide +kernel)
    (case i02 => first | k_is | rfl | decide +kernel)
    (case i03 => first | k_is | rfl | decide +kernel)
    (case i04 => first | k_is | rfl | decide +kernel)
    (case i05 => first | k_is | rfl | decide +kernel)
    (case i06 => first | k_is | rfl | decide +kernel)
    (case i07 => first | k_is | rfl | decide +kernel)
    (case i08 => first | k_is | rfl | decide +kernel)
    (case i10 => first | k_is | rfl | decide +kernel)
    (case i11 => first | k_is | rfl | decide +kernel)
    (case i12 => first | k_is | rfl | decide +kernel)
    (case i13 => first | k_is | rfl | decide +kernel)
    (case i14 => first | k_is | rfl | decide +kernel)
    (case i15 => first | k_is | rfl | decide +kernel)
    (case i16 => first | k_is | rfl | decide +kernel)
    (case i17 => first | k_is | rfl | decide +kernel)
    (case i18 => first | k_is | rfl | decide +kernel)
    (case i20 => first | k_is | rfl | decide +kernel)
    (case i21 => first | k_is | rfl | decide +kernel)
    (case i22 => first | k_is | rfl | decide +kernel)
    (case i23 => first | k_is | rfl | decide +kernel)
    (case i24 => first | k_is | rfl | decide +kernel)
    (case i25 => first | k_is | rfl | decide +kernel)
    (case i26 => first | k_is | rfl | decide +kernel)
    (case i27 => first | k_is | rfl | decide +kernel)
    (case i28 => first | k_is | rfl | decide +kernel)
    (case i30 => first | k_is | rfl | decide +kernel)
    (case i31 => first | k_is | rfl | decide +kernel)
    (case i32 => first | k_is | rfl | decide +kernel)
    (case i33 => first | k_is | rfl | decide +kernel)
    (case i34 => first | k_is | rfl | decide +kernel)
    (case i35 => first | k_is | rfl | decide +kernel)
    (case i36 => first | k_is | rfl | decide +kernel)
    (case i37 => first | k_is | rfl | decide +kernel)
    (case i38 => first | k_is | rfl | decide +kernel)
    (case i40 => first | k_is | rfl | decide +kernel)
    (case i41 => first | k_is | rfl | decide +kernel)
    (case i42 => first | k_is | rfl | decide +kernel)
    (case i43 => first | k_is | rfl | decide +kernel)
    (case i44 => first | k_is | rfl | decide +kernel)
    (case i45 => first | k_is | rfl | decide +kernel)
    (case i46 => first | k_is | rfl | decide +kernel)
    (case i47 => first | k_is | rfl | decide +kernel)
    (case i48 => first | k_is | rfl | decide +kernel)
    (case i50 => first | k_is | rfl | decide +kernel)
    (case i51 => first | k_is | rfl | decide +kernel)
    (case i52 => first | k_is | rfl | decide +kernel)
    (case i53 => first | k_is | rfl | decide +kernel)
    (case i54 => first | k_is | rfl | decide +kernel)
    (case i55 => first | k_is | rfl | decide +kernel)
    (case i56 => first | k_is | rfl | decide +kernel)
    (case i57 => first | k_is | rfl | decide +kernel)
    (case i58 => first | k_is | rfl | decide +kernel)
    (case i60 => first | k_is | rfl | decide +kernel)
    (case i61 => first | k_is | rfl | decide +kernel)
    (case i62 => first | k_is | rfl | decide +kernel)
    (case i63 => first | k_is | rfl | decide +kernel)
    (case i64 => first | k_is | rfl | decide +kernel)
    (case i65 => first | k_is | rfl | decide +kernel)
    (case i66 => first | k_is | rfl | decide +kernel)
    (case i67 => first | k_is | rfl | decide +kernel)
    (case i68 => first | k_is | rfl | decide +kernel)
    (case i70 => first | k_is | rfl | decide +kernel)
    (case i71 => first | k_is | rfl | decide +kernel)
    (case i72 => first | k_is | rfl | decide +kernel)
    (case i73 => first | k_is | rfl | decide +kernel)
    (case i74 => first | k_is | rfl | decide +kernel)
    (case i75 => first | k_is | rfl | decide +kernel)
    (case i76 => first | k_is | rfl | decide +kernel)
    (case i77 => first | k_is | rfl | decide +kernel)
    (case i78 => first | k_is | rfl | decide +kernel)
    (case i80 => first | k_is | rfl | decide +kernel)
    (case i81 => first | k_is | rfl | decide +kernel)
    (case i82 => first | k_is | rfl | decide +kernel)
    (case i83 => first | k_is | rfl | decide +kernel)
    (case i84 => first | k_is | rfl | decide +kernel)
    (case i85 => first | k_is | rfl | decide +kernel)
    (case i86 => first | k_is | rfl | decide +kernel)
    (case i87 => first | k_is | rfl | decide +kernel)
    (case i88 => first | k_is | rfl | decide +kernel)
