import PyProof.Rows.All
import Wide.All
import OpenK.AllK
import Wide.FinOn
import Lean
import PyProof.EqAt
import PyProof.EqKinds
import PyProof.TupleCall
import PyProof.CompFree
import PyProof.ZipIter
import PyProof.ListNew
import PyProof.ListRange
import PyProof.CollectIter
import KE.KRevIter
import PyProof.Rows.SortRev
import PyProof.Rows.SetFrom
import PyProof.SetRoads
import PyProof.ExcArgsOwn
import PyProof.ExcBaseAll.ValueError
import PyProof.NsDelKeeps
import PyProof.RulesAs
import PyProof.StrCalls2
import PyProof.StrLaws
import PyProof.Rows.StrItems
import PyProof.StrLawsChain
import PyProof.StrLawsTight
import PyProof.Rows.StrSplitJoin
import PyProof.Rows.StrSplitAre
import PyProof.StrBlockG
import PySem.Challenge.RW_sharings_k13_texts

set_option Elab.async false
set_option linter.all false
set_option maxRecDepth 100000
namespace L2
open PySem PySem.Spec PyProof.Rows

abbrev Key := Sum Int Str
def keyIs : Key → Value → Bool
  | .inl k, v => Value.isInt k v
  | .inr x, v => Value.isStrOf x v
def keyH (w : World) : Key → Int
  | .inl k => hashInt k
  | .inr x => hashStr w x
theorem keyIs_shape : ∀ {k : Key} {v : Value}, keyIs k v = true → (∃ i t, k = Sum.inl i ∧ v = Value.int i t) ∨ (∃ x t, k = Sum.inr x ∧ v = Value.str x t)
  | .inl i, v, h => by
    obtain ⟨t, e⟩ := Value.isInt_shape (k := i) (v := v) h
    exact .inl ⟨i, t, rfl, e⟩
  | .inr x, v, h => by
    obtain ⟨t, e⟩ := Value.isStrOf_shape (x := x) (v := v) h
    exact .inr ⟨x, t, rfl, e⟩
theorem keyIs_int (i : Int) (t : Tok) : keyIs (.inl i) (.int i t) = true := by simp [keyIs, Value.isInt]
theorem keyIs_str (x : Str) (t : Tok) : keyIs (.inr x) (.str x t) = true := by simp [keyIs, Value.isStrOf]
theorem key_ll (a b : Int) : decide ((Sum.inl a : Key) = Sum.inl b) = (a == b) := by
  by_cases e : a = b
  · subst e; simp
  · have h : ¬ (Sum.inl a : Key) = Sum.inl b := fun q => e (Sum.inl.inj q)
    rw [decide_eq_false h]
    exact (beq_eq_false_iff_ne.mpr e).symm
theorem key_rr (a b : Str) : decide ((Sum.inr a : Key) = Sum.inr b) = decide (a = b) := by
  by_cases e : a = b
  · subst e; simp
  · have h : ¬ (Sum.inr a : Key) = Sum.inr b := fun q => e (Sum.inr.inj q)
    rw [decide_eq_false h, decide_eq_false e]
theorem key_lr (a : Int) (b : Str) : decide ((Sum.inl a : Key) = Sum.inr b) = false := decide_eq_false (fun q => nomatch q)
theorem key_rl (a : Str) (b : Int) : decide ((Sum.inr a : Key) = Sum.inl b) = false := decide_eq_false (fun q => nomatch q)

def mixKind (prog : Program) (w : World) : PySem.KeyKind prog w Key where
  is := keyIs
  hash := keyH w
  inj := fun v a b ha hb => by
    rcases keyIs_shape ha with ⟨i, t, rfl, rfl⟩ | ⟨x, t, rfl, rfl⟩
    · rcases keyIs_shape hb with ⟨j, u, rfl, e⟩ | ⟨y, u, rfl, e⟩
      · injection e with e1 _; rw [e1]
      · exact nomatch e
    · rcases keyIs_shape hb with ⟨j, u, rfl, e⟩ | ⟨y, u, rfl, e⟩
      · exact nomatch e
      · injection e with e1 _; rw [e1]
  byValue := fun k v h => by
    rcases keyIs_shape h with ⟨i, t, rfl, rfl⟩ | ⟨x, t, rfl, rfl⟩ <;> rfl
  pyHash := fun hv h => by
    rcases keyIs_shape hv with ⟨i, t, rfl, rfl⟩ | ⟨x, t, rfl, rfl⟩
    · exact wpAny_pyHash_int h
    · exact wpAny_pyHash_str h
  eqBool := fun hu hv h => by
    rcases keyIs_shape hu with ⟨i, t, rfl, rfl⟩ | ⟨x, t, rfl, rfl⟩
    · rcases keyIs_shape hv with ⟨j, u, rfl, rfl⟩ | ⟨y, u, rfl, rfl⟩
      · rw [key_ll] at h; exact wpAny_eqBool_int h
      · rw [key_lr] at h; exact SeqAt.EqAt.int_str i t y u _ _ _ _ h
    · rcases keyIs_shape hv with ⟨j, u, rfl, rfl⟩ | ⟨y, u, rfl, rfl⟩
      · rw [key_rl] at h; exact SeqAt.EqAt.str_int x t j u _ _ _ _ h
      · rw [key_rr] at h; exact wpAny_eqBool_str h
  «strs» := fun k x t v h => by
    rcases keyIs_shape h with ⟨i, u, rfl, e⟩ | ⟨y, u, rfl, e⟩
    · exact nomatch e
    · injection e with e1 _
      subst e1
      cases v <;> rfl

theorem mixKind_int (prog : Program) (w : World) (i : Int) (t : Tok) : (mixKind prog w).is (.inl i) (.int i t) = true := keyIs_int i t
theorem mixKind_str (prog : Program) (w : World) (x : Str) (t : Tok) : (mixKind prog w).is (.inr x) (.str x t) = true := keyIs_str x t
end L2

namespace L2
open PySem PySem.Spec PyProof.Rows

inductive V where
  | non | bl (b : Bool) | int (i : Int) | str (x : Str) | byt (b : Array UInt8) | flt (b : UInt64) | ref (a : Addr) | ty (n : String)
  deriving DecidableEq

def RelV : V → Value → Prop
  | .non, u => u = Value.none
  | .bl b, u => u = Value.bool b
  | .int i, u => ∃ t, u = Value.int i t
  | .str x, u => ∃ t, u = Value.str x t
  | .byt b, u => ∃ t, u = Value.bytes b t
  | .flt b, u => ∃ t, u = Value.float b t
  | .ref a, u => u = Value.ref a
  | .ty n, u => u = Value.type n

abbrev Vals : List V → List Value → Prop := Paired RelV
theorem Vals.length {xs : List V} {us : List Value} (r : Vals xs us) : xs.length = us.length := Paired.length r
theorem Vals.get : ∀ {xs : List V} {us : List Value} {i : Nat} {x : V}, Vals xs us → xs[i]? = some x → ∃ u, us[i]? = some u ∧ RelV x u
  | _, _, _, _, .nil, e => by simp at e
  | _, _, 0, _, .cons r _, e => by simp at e; subst e; exact ⟨_, rfl, r⟩
  | _, _, i + 1, x, .cons _ t, e => by
    obtain ⟨u, h1, h2⟩ := Vals.get (i := i) (x := x) t (by simpa using e)
    exact ⟨u, by simpa using h1, h2⟩
theorem Vals.set {x : V} {u : Value} (r : RelV x u) : ∀ {xs : List V} {us : List Value} (i : Nat), Vals xs us → Vals (xs.set i x) (us.set i u)
  | _, _, _, .nil => .nil
  | _, _, 0, .cons _ t => .cons r t
  | _, _, i + 1, .cons q t => .cons q (Vals.set r i t)
theorem Vals.append : ∀ {xs ys : List V} {us ws : List Value}, Vals xs us → Vals ys ws → Vals (xs ++ ys) (us ++ ws)
  | _, _, _, _, .nil, s => s
  | _, _, _, _, .cons r t, s => .cons r (Vals.append t s)
theorem Vals.take : ∀ {xs : List V} {us : List Value} (n : Nat), Vals xs us → Vals (xs.take n) (us.take n)
  | _, _, 0, _ => .nil
  | _, _, _ + 1, .nil => .nil
  | _, _, n + 1, .cons r t => .cons r (Vals.take n t)
theorem Vals.drop : ∀ {xs : List V} {us : List Value} (n : Nat), Vals xs us → Vals (xs.drop n) (us.drop n)
  | _, _, 0, r => r
  | _, _, _ + 1, .nil => .nil
  | _, _, n + 1, .cons _ t => Vals.drop n t
theorem Vals.none_of : ∀ {xs : List V} {us : List Value} {i : Nat}, Vals xs us → xs[i]? = none → us[i]? = none := fun {xs us i} r e => by
  have h1 := r.length
  have h2 : xs.length ≤ i := List.getElem?_eq_none_iff.mp e
  exact List.getElem?_eq_none_iff.mpr (by omega)

def RelO : Option V → Option Value → Prop
  | some v, some u => RelV v u
  | none, none => True
  | _, _ => False
def KV {κ : Type} : List (κ × V) → List (κ × Value) → Prop := Paired fun (p : κ × V) (q : κ × Value) => p.1 = q.1 ∧ RelV p.2 q.2

def kV : Key → V
  | .inl i => .int i
  | .inr x => .str x

inductive HO where
  /-- a list -/
  | lst (xs : List V)
  /-- a tuple (never changes) -/
  | tup (xs : List V)
  /-- a dict whose keys are ints and texts; one whose keys are tuples of ints and texts (the empty one is both) -/
  | dK (kvs : List (Key × V)) | dT (kvs : List (List Key × V))
  /-- a set of ints: its members, its size -/
  | set (S : Int → Bool) (n : Nat)
  /-- an instance of the class at C, its dict at dx, its attributes -/
  | ins (C dx : Addr) (fs : List (Str × V))
  /-- the dict of the instance at x -/
  | own (x : Addr)
  /-- the dict of an exception -/
  | xd (fs : List (Str × V))
  /-- a bound method, f of x -/
  | met (f x : Addr)
  /-- a range object lo, lo + 1, .. below hi -/
  | rng (lo hi : Int)
  /-- a thing that is known to the object (the script; a dict while a loop walks it): read, never written while it is so -/
  | frz (o : Obj) (u : HO)
  /-- a code object's table -/
  | tbl (ps : Array Value)
  /-- any other thing, by what is true of its one object (a def of one's own: SetO a S n := HO.ext fun h => ..) -/
  | ext (φ : Heap → Prop)

abbrev Hp := Addr → Option HO
def upd (H : Hp) (a : Addr) (o : HO) : Hp := fun b => if b = a then some o else H b
theorem upd_same {H : Hp} {a : Addr} {o : HO} : upd H a o a = some o := by unfold upd; rw [if_pos rfl]
theorem upd_ne {H : Hp} {a b : Addr} {o : HO} (h : b ≠ a) : upd H a o b = H b := by unfold upd; rw [if_neg h]
theorem ne_of {H : Hp} {a b : Addr} {o u : HO} (h : H a = some o) (h' : H b = some u) (d : o ≠ u) : a ≠ b := by
  intro e; subst e; rw [h] at h'; exact d (Option.some.inj h')
theorem ne_of_none {H : Hp} {a b : Addr} {o : HO} (h : H a = some o) (h' : H b = none) : a ≠ b := by
  intro e; subst e; rw [h] at h'; cases h'

section
variable (P : Program) (w : World)
def ObjOk (H : Hp) (h : Heap) (a : Addr) : HO → Prop
  | .lst xs => xs.length ≤ sizeLine ∧ ∃ (its : List Value) (n : Nat), Vals xs its ∧ h.get? a = some { cls := .type "list", data := .seq its.toArray n }
  | .tup xs => xs.length ≤ sizeLine ∧ ∃ its : List Value, Vals xs its ∧ IsTup h a its.toArray
  | .dK kvs => kvs.length ≤ sizeLine ∧ (a == sysModules) = false ∧ ∃ vs, KV kvs vs ∧ h.DictOf (mixKind P w) a vs
  | .dT kvs => kvs.length ≤ sizeLine ∧ (a == sysModules) = false ∧ ∃ xs : List (List Key × Addr × Value),
      Paired (fun (p : List Key × V) (q : List Key × Addr × Value) => p.1 = q.1 ∧ H q.2.1 = some (.tup (p.1.map kV)) ∧ RelV p.2 q.2.2) kvs xs ∧
      ∃ o es ep, h.get? a = some o ∧ o.ExactDict ∧ o.data = .dict es ep ∧ es.toList = xs.map (entryOfKey (tupleKind (mixKind P w))) ∧ (xs.map (·.1)).Nodup
  | .set S n => h.SetOf (intKind P w) a S n
  | .ins C dx fs => H dx = some (.own a) ∧ fs.length ≤ 1000 ∧ dx ≠ a ∧ h.get? a = some (PySem.W.instObj C dx) ∧
      ∃ mA, h.Ns1 dx mA ∧ (∀ f, RelO (fs.lookup f) (mA f)) ∧ PySem.Within mA (fs.map (·.1))
  | .own _ => ∃ o, h.get? a = some o
  | .xd fs => ∃ mA, h.Ns1 a mA ∧ ∀ f, RelO (fs.lookup f) (mA f)
  | .rng lo hi => ∃ t u v, h.get? a = some { cls := .type "range", data := .fields #[.int lo t, .int hi u, .int 1 v] }
  | .frz o u => h.get? a = some o ∧ ObjOk H h a u
  | .tbl ps => h.get? a = some { cls := .none, data := .fields ps }
  | .met f x => h.get? a = some (PySem.W.methodObj (.ref f) (.ref x))
  | .ext φ => φ h ∧ (∃ o, h.get? a = some o) ∧ ∀ h1 h2 : Heap, φ h1 → (∀ o, h1.get? a = some o → h2.get? a = some o) → φ h2
def HOk (H : Hp) (h : Heap) : Prop := ∀ a o, H a = some o → ObjOk P w H h a o
end

section
variable {P : Program} {w : World} {H H' : Hp} {h h' : Heap} {a : Addr} {o : HO}
theorem ObjOk.lt (x : ObjOk P w H h a o) : a < h.objs.size := by
  cases o with
  | lst xs => obtain ⟨_, _, _, _, e⟩ := x; exact Heap.lt_size e
  | tup xs => obtain ⟨_, _, _, p⟩ := x; exact p.lt
  | dK kvs => obtain ⟨_, _, _, _, o, _, _, e, _⟩ := x; exact Heap.lt_size e
  | dT kvs => obtain ⟨_, _, _, _, o, _, _, e, _⟩ := x; exact Heap.lt_size e
  | set S n => obtain ⟨o, _, _, _, e, _⟩ := x; exact Heap.lt_size e
  | ins C dx fs => obtain ⟨_, _, _, e, _⟩ := x; exact Heap.lt_size e
  | own y => obtain ⟨_, e⟩ := x; exact Heap.lt_size e
  | xd fs => obtain ⟨_, ⟨_, _, _, e, _⟩, _⟩ := x; exact Heap.lt_size e
  | rng lo hi => obtain ⟨_, _, _, e⟩ := x; exact Heap.lt_size e
  | frz ob u => obtain ⟨e, _⟩ := x; exact Heap.lt_size e
  | tbl ps => exact Heap.lt_size (show h.get? a = some _ from x)
  | met f y => exact Heap.lt_size (show h.get? a = some _ from x)
  | ext φ => obtain ⟨_, ⟨_, e⟩, _⟩ := x; exact Heap.lt_size e
theorem Paired.mapP {α β : Type} {F G : α → β → Prop} : ∀ {l₁ : List α} {l₂ : List β}, Paired F l₁ l₂ → (∀ a b, F a b → G a b) → Paired G l₁ l₂
  | _, _, .nil, _ => .nil
  | _, _, .cons r t, f => .cons (f _ _ r) (Paired.mapP t f)
theorem ObjOk.stay (x : ObjOk P w H h a o) (k : ∀ b u, (b = a ∨ H b = some (.own a)) → h.get? b = some u → h'.get? b = some u)
    (ho : ∀ b, H b = some (.own a) → H' b = some (.own a)) (ht : ∀ b xs, H b = some (.tup xs) → H' b = some (.tup xs)) : ObjOk P w H' h' a o := by
  induction o with
  | lst xs => obtain ⟨z, its, n, r, e⟩ := x; exact ⟨z, its, n, r, k _ _ (.inl rfl) e⟩
  | tup xs => obtain ⟨z, its, r, ob, e, c⟩ := x; exact ⟨z, its, r, ob, k _ _ (.inl rfl) e, c⟩
  | dK kvs => obtain ⟨z, y, vs, r, ob, es, ep, e, c⟩ := x; exact ⟨z, y, vs, r, ob, es, ep, k _ _ (.inl rfl) e, c⟩
  | dT kvs =>
    obtain ⟨z, y, xs, r, ob, es, ep, e, c⟩ := x
    exact ⟨z, y, xs, Paired.mapP r fun p q z => ⟨z.1, ht _ _ z.2.1, z.2.2⟩, ob, es, ep, k _ _ (.inl rfl) e, c⟩
  | set S n => obtain ⟨ob, es, ep, t, e, c⟩ := x; exact ⟨ob, es, ep, t, k _ _ (.inl rfl) e, c⟩
  | ins C dx fs =>
    obtain ⟨d, z, ne, e, mA, ⟨od, es, ep, e2, c⟩, r⟩ := x
    exact ⟨ho _ d, z, ne, k _ _ (.inl rfl) e, mA, ⟨od, es, ep, k _ _ (.inr d) e2, c⟩, r⟩
  | own y => obtain ⟨ob, e⟩ := x; exact ⟨ob, k _ _ (.inl rfl) e⟩
  | xd fs => obtain ⟨mA, ⟨od, es, ep, e, c⟩, r⟩ := x; exact ⟨mA, ⟨od, es, ep, k _ _ (.inl rfl) e, c⟩, r⟩
  | rng lo hi => obtain ⟨t, u, v, e⟩ := x; exact ⟨t, u, v, k _ _ (.inl rfl) e⟩
  | frz ob u ih => obtain ⟨e, q⟩ := x; exact ⟨k _ _ (.inl rfl) e, ih q⟩
  | tbl ps =>
    have e : h.get? a = some { cls := .none, data := .fields ps } := x
    show h'.get? a = some { cls := .none, data := .fields ps }
    exact k a _ (.inl rfl) e
  | met f y =>
    have e : h.get? a = some (PySem.W.methodObj (.ref f) (.ref y)) := x
    show h'.get? a = some (PySem.W.methodObj (.ref f) (.ref y))
    exact k a _ (.inl rfl) e
  | ext φ => obtain ⟨p, ⟨o, e⟩, st⟩ := x; exact ⟨st _ _ p fun o q => k _ _ (.inl rfl) q, ⟨o, k _ _ (.inl rfl) e⟩, st⟩
theorem HOk.lt (x : HOk P w H h) (e : H a = some o) : a < h.objs.size := (x a o e).lt
theorem HOk.fresh (x : HOk P w H h) (e : h.objs.size ≤ a) : H a = none := by
  cases q : H a with
  | none => rfl
  | some u => exact absurd (Nat.lt_of_lt_of_le (x.lt q) e) (Nat.lt_irrefl _)
theorem HOk.kept (x : HOk P w H h) (k : ∀ b u, h.get? b = some u → h'.get? b = some u) : HOk P w H h' := fun a o e =>
  (x a o e).stay (fun b u _ q => k b u q) (fun _ q => q) fun _ _ q => q
theorem HOk.laid (x : HOk P w H h) (k : ∀ b u, h.get? b = some u → h'.get? b = some u) (hp : h.objs.size ≤ a) (new : ObjOk P w (upd H a o) h' a o) : HOk P w (upd H a o) h' := fun b u e => by
  have hn := x.fresh hp
  by_cases hb : b = a
  · subst hb; rw [upd_same] at e; cases e; exact new
  · rw [upd_ne hb] at e
    exact (x b u e).stay (fun c v _ q => k c v q) (fun c q => by rw [upd_ne (ne_of_none q hn)]; exact q) fun c xs q => by rw [upd_ne (ne_of_none q hn)]; exact q
end

def Rd (H : Hp) (a : Addr) (u : HO) : Prop := H a = some u ∨ ∃ o, H a = some (.frz o u)
theorem Rd.of {H : Hp} {a : Addr} {u : HO} (h : H a = some u) : Rd H a u := .inl h
theorem Rd.ok {P : Program} {w : World} {H : Hp} {h : Heap} {a : Addr} {u : HO} (r : Rd H a u) (x : HOk P w H h) : ObjOk P w H h a u := by
  rcases r with r | ⟨o, r⟩
  · exact x a u r
  · obtain ⟨_, q⟩ := x a _ r
    exact q
def Mut : Option HO → Prop
  | some (.lst _) => True
  | some (.dK _) => True
  | some (.dT _) => True
  | some (.set _ _) => True
  | some (.ins _ _ _) => True
  | some (.ext _) => True
  | _ => False
section
variable {P : Program} {w : World} {H : Hp} {h h' : Heap} {x e : Addr} {o' : HO}
theorem HOk.write (ok : HOk P w H h) (mu : Mut (H x)) (he : e = x ∨ H e = some (.own x)) (k : ∀ b u, b ≠ e → h.get? b = some u → h'.get? b = some u) (heo : ∃ u, h'.get? e = some u)
    (new : ObjOk P w (upd H x o') h' x o') : HOk P w (upd H x o') h' := fun b u q => by
  have nown : ∀ c y, H c = some (.own y) → c ≠ x := fun c y r z => by subst z; rw [r] at mu; exact mu
  have ntup : ∀ c xs, H c = some (.tup xs) → c ≠ x := fun c xs r z => by subst z; rw [r] at mu; exact mu
  by_cases hb : b = x
  · subst hb; rw [upd_same] at q; cases q; exact new
  · rw [upd_ne hb] at q
    by_cases hbe : b = e
    · have q' : H b = some (.own x) := by
        rcases he with z | z
        · exact absurd (hbe.trans z) hb
        · rw [hbe]; exact z
      rw [q] at q'; cases q'
      obtain ⟨v, hv⟩ := heo
      exact ⟨v, by rw [hbe]; exact hv⟩
    · refine (ok b u q).stay (fun c v hc r => k c v ?_ r) (fun c r => by rw [upd_ne (nown c b r)]; exact r) fun c xs r => by rw [upd_ne (ntup c xs r)]; exact r
      rcases hc with rfl | hc
      · exact hbe
      · rintro rfl
        rcases he with z | z
        · exact nown c b hc z
        · rw [hc] at z; cases z; exact hb rfl
end

structure Un (fs ex : List Addr) (H H' : Hp) (h h' : Heap) : Prop where
  keep : ∀ b o, h.get? b = some o → H b = none → b ∉ fs → b ∉ ex → h'.get? b = some o
  slot : ∀ b o, h.get? b = some o → H b = none → b ∈ fs → b ∉ ex → ∃ sl, h'.get? b = some { o with slots := sl }
  free : ∀ b o, h.get? b = some o → H b = none → b ∉ ex → H' b = none
  there : ∀ b o, h.get? b = some o → b ∉ ex → ∃ o', h'.get? b = some o'
  tups : ∀ b xs, H b = some (.tup xs) → H' b = some (.tup xs)
  frzs : ∀ b o u, H b = some (.frz o u) → H' b = some (.frz o u)
  tbls : ∀ b ps, H b = some (.tbl ps) → ∃ more, H' b = some (.tbl (ps ++ more))
section
variable {fs fs' ex ex' : List Addr} {H H1 H2 : Hp} {h h1 h2 h' : Heap} {a x e : Addr} {o : HO}
theorem Un.any (u : Un fs ex H H1 h h1) {b : Addr} {ob : Obj} (q : h.get? b = some ob) (n : H b = none) (hx : b ∉ ex) : ∃ sl, h1.get? b = some { ob with slots := sl } := by
  by_cases hb : b ∈ fs
  · exact u.slot b ob q n hb hx
  · exact ⟨ob.slots, u.keep b ob q n hb hx⟩
theorem Un.trans (a : Un fs ex H H1 h h1) (b : Un fs ex H1 H2 h1 h2) : Un fs ex H H2 h h2 where
  keep := fun c ob q n hc hx => b.keep c ob (a.keep c ob q n hc hx) (a.free c ob q n hx) hc hx
  slot := fun c ob q n hc hx => by
    obtain ⟨sl, e1⟩ := a.slot c ob q n hc hx
    obtain ⟨sl', e2⟩ := b.slot c _ e1 (a.free c ob q n hx) hc hx
    exact ⟨sl', e2⟩
  free := fun c ob q n hx => by
    obtain ⟨o', e1⟩ := a.there c ob q hx
    exact b.free c o' e1 (a.free c ob q n hx) hx
  there := fun c ob q hx => by
    obtain ⟨o', e1⟩ := a.there c ob q hx
    exact b.there c o' e1 hx
  tups := fun c xs q => b.tups c xs (a.tups c xs q)
  frzs := fun c ob xs q => b.frzs c ob xs (a.frzs c ob xs q)
  tbls := fun c ps q => by
    obtain ⟨m1, e1⟩ := a.tbls c ps q
    obtain ⟨m2, e2⟩ := b.tbls c _ e1
    exact ⟨m1 ++ m2, by rw [e2, Array.append_assoc]⟩
theorem Un.kept (k : ∀ b u, h.get? b = some u → h'.get? b = some u) : Un fs ex H H h h' :=
  ⟨fun b ob q _ _ _ => k b ob q, fun b ob q _ _ _ => ⟨ob.slots, k b ob q⟩, fun _ _ _ n _ => n, fun b ob q _ => ⟨ob, k b ob q⟩, fun _ _ q => q, fun _ _ _ q => q, fun _ ps q => ⟨#[], by rw [q]; simp⟩⟩
theorem Un.refl : Un fs ex H H h h := Un.kept fun _ _ q => q
theorem Un.laid (k : ∀ b u, h.get? b = some u → h'.get? b = some u) (hp : h.objs.size ≤ a) (hn : H a = none) : Un fs ex H (upd H a o) h h' where
  keep := fun b u q _ _ _ => k b u q
  slot := fun b u q _ _ _ => ⟨u.slots, k b u q⟩
  free := fun b u q n _ => by rw [upd_ne (Nat.ne_of_lt (Nat.lt_of_lt_of_le (Heap.lt_size q) hp))]; exact n
  there := fun b u q _ => ⟨u, k b u q⟩
  tups := fun b xs q => by rw [upd_ne (ne_of_none q hn)]; exact q
  frzs := fun b u xs q => by rw [upd_ne (ne_of_none q hn)]; exact q
  tbls := fun b ps q => ⟨#[], by rw [upd_ne (ne_of_none q hn), q]; simp⟩
theorem Un.write (mu : Mut (H x)) (he : e = x ∨ H e = some (.own x)) (k : ∀ b u, b ≠ e → h.get? b = some u → h'.get? b = some u) (heo : ∃ u, h'.get? e = some u) : Un fs ex H (upd H x o) h h' := by
  have hx : ∀ b, H b = none → b ≠ x := fun b n z => by subst z; rw [n] at mu; exact mu
  have hb : ∀ b, H b = none → b ≠ e := fun b n z => by
    subst z
    rcases he with r | r
    · exact hx b n r
    · rw [n] at r; cases r
  have hm : ∀ b u, H b = some u → ¬ Mut (some u) → b ≠ x := fun b u q nm z => by subst z; rw [q] at mu; exact nm mu
  refine ⟨fun b u q n _ _ => k b u (hb b n) q, fun b u q n _ _ => ⟨u.slots, k b u (hb b n) q⟩, fun b u q n _ => by rw [upd_ne (hx b n)]; exact n, fun b u q _ => ?_,
    fun b xs q => by rw [upd_ne (hm b _ q fun z => z)]; exact q, fun b u xs q => by rw [upd_ne (hm b _ q fun z => z)]; exact q, fun b ps q => ⟨#[], by rw [upd_ne (hm b _ q fun z => z), q]; simp⟩⟩
  by_cases hbe : b = e
  · subst hbe; exact heo
  · exact ⟨u, k b u hbe q⟩
theorem Un.mono (u : Un fs ex H H1 h h1) (hs : ∀ b ∈ fs, b ∈ fs') (hx : ∀ b ∈ ex, b ∈ ex') : Un fs' ex' H H1 h h1 :=
  ⟨fun b ob q n hb he => u.keep b ob q n (fun z => hb (hs b z)) fun z => he (hx b z), fun _ _ q n _ he => u.any q n fun z => he (hx _ z), fun b ob q n he => u.free b ob q n fun z => he (hx b z), fun b ob q he => u.there b ob q fun z => he (hx b z), u.tups, u.frzs, u.tbls⟩
end

def trk (h : Heap) (H : Hp) : List Addr := (List.range h.objs.size).filter fun a => (H a).isSome
def hidT (h : Heap) (H : Hp) : Heap := PySem.W.hideAll h (trk h H)
theorem hidT_size (h : Heap) (H : Hp) : (hidT h H).objs.size = h.objs.size := PySem.W.hideAll_size _ _
theorem hidT_get {h : Heap} {H : Hp} {b : Addr} {o : Obj} (e : h.get? b = some o) (n : H b = none) : (hidT h H).get? b = some o :=
  PySem.W.hideAll_get _ e fun hm => by
    have q : (H b).isSome = true := (List.mem_filter.mp hm).2
    rw [n] at q; simp at q
theorem of_hidT {h : Heap} {H : Hp} {b : Addr} {o : Obj} (e : (hidT h H).get? b = some o) : h.get? b = some o ∧ H b = none := by
  have e' : h.get? b = some o := PySem.W.of_hideAll (trk h H) e
  refine ⟨e', ?_⟩
  cases q : H b with
  | none => rfl
  | some x =>
    have hm : b ∈ trk h H := List.mem_filter.mpr ⟨List.mem_range.mpr (Heap.lt_size e'), by simp [q]⟩
    have z : (hidT h H).get? b = none := PySem.W.hideAll_none (trk h H) hm
    rw [z] at e; cases e

def allNews (g h : Heap) (L : Addr) : List (Addr × Obj) := (List.range h.objs.size).filterMap fun a => if a = L ∨ (g.get? a).isSome = true then none else (h.get? a).map fun o => (a, o)
def rest (g h : Heap) (L d : Addr) : List (Addr × Obj) := (allNews g h L).filter fun p => decide (p.1 ≠ d)
end L2

namespace L2
open PySem PySem.Spec PyProof.Rows

structure Mod (K : PySem.W.Frag) (mg : Str → Option Value) (base : Heap) : Prop where
  kin : K.In base
  glob : base.Ns mainGlobals mg
  blt : ∃ mb, base.Ns builtinsNs mb ∧ ∀ x : Str, x ≠ "__name__" → mb x = bootBuiltins x
  nolimit : base.NoLimit

structure Cx where
  prog : Program
  w : World
  K : PySem.W.Frag
  mg : Str → Option Value
  base : Heap
  A : Around
  N : List Str
  s₀ : Shared
  H₀ : Hp
  env : Env
  outer : List Env
  stack : List Env
  ex : List Addr
  fn : Str → Bool
  calm : Bool
  pn : List (Addr × Obj)
  xe : Value → Shared → Prop
def frs (l : List Env) : List Addr := l.filterMap (·.frame)
abbrev Cx.fs (X : Cx) : List Addr := frs X.outer

def Vis (sc : Scope) (x : Str) : Prop := sc.names.lookup x = some .local ∨ sc.names.lookup x = some .cell ∨ sc.names.lookup x = some .free
def Loc (sc : Scope) (x : Str) : Prop := sc.names.lookup x = some .local ∨ sc.names.lookup x = some .cell
def Look (env : Env) (h : Heap) (m : Str → Option Value) (x : Str) (u : Value) : Prop :=
  (env.kindOf x = some .local ∧ m x = some u) ∨ ((env.kindOf x = some .cell ∨ env.kindOf x = some .free) ∧ ∃ c, env.cells.lookup x = some c ∧ h.IsCell c (some u))

structure Cx.Ok (X : Cx) : Prop where
  mod : Mod X.K X.mg X.base
  kind : X.env.scope.kind = .function
  glob : X.env.globals = mainGlobals
  blt : X.env.builtins = builtinsNs
  above : X.s₀.heap.objs.size ≤ X.env.locals
  inj : ∀ x y c, X.env.cells.lookup x = some c → X.env.cells.lookup y = some c → x = y
  has : ∀ x, (X.env.kindOf x = some .cell ∨ X.env.kindOf x = some .free) → ∃ c, X.env.cells.lookup x = some c
  cab : ∀ x c, X.fn x = true → X.env.cells.lookup x = some c → X.s₀.heap.objs.size ≤ c
  hd : X.calm = true → X.A.handled = none
  frames : X.A.frames = some X.stack
  stk : X.stack = X.outer ∨ (X.stack = X.env :: X.outer ∧ X.env.frame = some X.env.locals)
  exf : ∀ b ∈ X.ex, b ≠ X.env.locals ∧ ∀ x c, X.env.cells.lookup x = some c → c ≠ b
  bs : ∀ b o, X.base.get? b = some o → X.s₀.heap.get? b = some o ∧ X.H₀ b = none
  bsz : X.base.objs.size ≤ X.s₀.heap.objs.size
  noex : ∀ b o, X.base.get? b = some o → b ∉ X.ex
  exfs : ∀ b ∈ X.ex, b ∉ X.fs
  funs : X.s₀.heap.FunFrames X.base X.outer
  frf : ∀ b ∈ X.fs, X.H₀ b = none

structure Inv (X : Cx) (pins : List (Addr × Obj)) (σ : List (Option V)) (H : Hp) (s : Shared) : Prop where
  ok : X.Ok
  os : s.os = X.s₀.os
  bare : AllBare s.gens
  base : Un X.fs X.ex X.H₀ H X.s₀.heap s.heap
  loc : ∃ m, s.heap.Ns X.env.locals m ∧ ∀ (i : Nat) (x : Str) (v : V), X.N[i]? = some x → σ[i]? = some (some v) → Vis X.env.scope x → ∃ u, RelV v u ∧ Look X.env s.heap m x u
  cell : ∀ x c, X.env.cells.lookup x = some c → ∃ v, s.heap.IsCell c v
  free : H X.env.locals = none
  freeC : ∀ x c, X.env.cells.lookup x = some c → H c = none
  pin : ∀ p ∈ X.pn ++ pins, s.heap.get? p.1 = some p.2 ∧ H p.1 = none ∧ p.1 ≠ X.env.locals ∧ p.1 ∉ X.fs ∧ ∀ v, p.2.data ≠ .cell v
  hok : HOk X.prog X.w H s.heap
  len : σ.length = X.N.length

section
variable {X : Cx} {pins : List (Addr × Obj)} {σ : List (Option V)} {H H' : Hp} {s : Shared} {h' : Heap}

theorem Cx.Ok.nofr (ok : X.Ok) {b : Addr} {o : Obj} (e : X.base.get? b = some o) : b ∉ X.fs := fun hb => by
  have := (ok.funs.mem hb).1
  rw [e] at this; cases this
theorem Inv.bs (I : Inv X pins σ H s) : ∀ b o, X.base.get? b = some o → s.heap.get? b = some o ∧ H b = none := fun b o e =>
  ⟨I.base.keep b o (I.ok.bs b o e).1 (I.ok.bs b o e).2 (I.ok.nofr e) (I.ok.noex b o e), I.base.free b o (I.ok.bs b o e).1 (I.ok.bs b o e).2 (I.ok.noex b o e)⟩
theorem Inv.bk (I : Inv X pins σ H s) : ∀ b o, X.base.get? b = some o → s.heap.get? b = some o := fun b o e => (I.bs b o e).1
theorem Inv.mod (I : Inv X pins σ H s) : Mod X.K X.mg X.base := I.ok.mod
theorem Inv.kIn (I : Inv X pins σ H s) : X.K.In s.heap := I.ok.mod.kin.keeps I.bk
theorem Inv.nolimit (I : Inv X pins σ H s) : s.heap.NoLimit := I.ok.mod.nolimit.keeps I.bk
theorem Inv.fr (I : Inv X pins σ H s) : ∃ m, Fr X.base X.env.locals s.heap m :=
  let ⟨m, hn, _⟩ := I.loc
  ⟨m, hn, I.bk, Nat.le_trans I.ok.bsz I.ok.above⟩
theorem Inv.lt (I : Inv X pins σ H s) : X.env.locals < s.heap.objs.size := let ⟨_, hn, _⟩ := I.loc; hn.lt
theorem Inv.sz (I : Inv X pins σ H s) : X.s₀.heap.objs.size ≤ s.heap.objs.size := Nat.le_trans I.ok.above (Nat.le_of_lt I.lt)
theorem Inv.nofs (I : Inv X pins σ H s) {a : Addr} (h : s.heap.objs.size ≤ a) : a ∉ X.fs := fun hb => by
  obtain ⟨_, o, ho, _⟩ := I.ok.funs.mem hb
  exact absurd (Nat.lt_of_lt_of_le (Heap.lt_size ho) (Nat.le_trans I.sz h)) (Nat.lt_irrefl _)
theorem Inv.cne (I : Inv X pins σ H s) : ∀ x c, X.env.cells.lookup x = some c → c ≠ X.env.locals := fun x c e z => by
  obtain ⟨v, o, ho, hd⟩ := I.cell x c e
  obtain ⟨m, ⟨o', es, ep, ho', hd', _⟩, _⟩ := I.loc
  rw [z, ho'] at ho; cases ho; rw [hd'] at hd; cases hd
theorem Inv.funs (I : Inv X pins σ H s) : s.heap.FunFrames X.base X.outer := by
  have all : ∀ (l : List Env), (∀ b ∈ frs l, b ∈ X.fs) → X.s₀.heap.FunFrames X.base l → s.heap.FunFrames X.base l := by
    intro l
    induction l with
    | nil => intro _ _; trivial
    | cons env r ih =>
      intro hs hl
      obtain ⟨hk, ⟨L, o, hf, hn, ho, hd⟩, hr⟩ := hl
      have hL : L ∈ X.fs := hs L (by unfold frs; rw [List.filterMap_cons, hf]; exact List.mem_cons_self)
      obtain ⟨sl, e⟩ := I.base.slot L o ho (I.ok.frf L hL) hL fun z => I.ok.exfs L z hL
      exact ⟨hk, ⟨L, _, hf, hn, e, hd⟩, ih (fun b hb => hs b (by unfold frs; rw [List.filterMap_cons, hf]; exact List.mem_cons_of_mem _ hb)) hr⟩
  exact all X.outer (fun _ hb => hb) I.ok.funs

theorem Inv.stack (I : Inv X pins σ H s) : s.heap.FunFrames X.base X.stack := by
  rcases I.ok.stk with e | ⟨e, hf⟩
  · rw [e]; exact I.funs
  · rw [e]
    obtain ⟨m, hn, _⟩ := I.loc
    refine .cons (by rw [I.ok.kind]; decide) hf hn ?_ I.funs
    exact Heap.get?_none_of_le (Nat.le_trans I.ok.bsz I.ok.above)
theorem Inv.stkSub (I : Inv X pins σ H s) : ∀ b ∈ frs X.stack, b ∈ X.env.locals :: X.fs := fun b hb => by
  rcases I.ok.stk with e | ⟨e, hf⟩
  · rw [e] at hb; exact List.mem_cons_of_mem _ hb
  · rw [e] at hb
    unfold frs at hb
    rw [List.filterMap_cons, hf] at hb
    exact hb
theorem Inv.stkFree (I : Inv X pins σ H s) : ∀ b ∈ frs X.stack, H b = none := fun b hb => by
  rcases List.mem_cons.mp (I.stkSub b hb) with e | hb
  · rw [e]; exact I.free
  · obtain ⟨_, o, ho, _⟩ := I.ok.funs.mem hb
    exact I.base.free b o ho (I.ok.frf b hb) fun z => I.ok.exfs b z hb

theorem Inv.step {g' : Array GenState} {t' : Nat} {d' : Drawn} {ch : List Addr} (I : Inv X pins σ H s)
    (hch : ∀ b ∈ ch, (b ∈ X.ex ∨ X.s₀.heap.objs.size ≤ b) ∧ b ≠ X.env.locals ∧ (∀ x c, X.env.cells.lookup x = some c → c ≠ b) ∧ ∀ p ∈ X.pn ++ pins, p.1 ≠ b)
    (keep : ∀ b o, b ≠ X.env.locals → b ∉ X.fs → b ∉ ch → s.heap.get? b = some o → H b = none → h'.get? b = some o)
    (slot : ∀ b o, b ≠ X.env.locals → b ∈ X.fs → b ∉ ch → s.heap.get? b = some o → H b = none → ∃ sl, h'.get? b = some { o with slots := sl }) (free : ∀ b o, b ∉ ch → s.heap.get? b = some o → H b = none → H' b = none)
    (there : ∀ b o, b ∉ ch → s.heap.get? b = some o → ∃ o', h'.get? b = some o')
    (tups : ∀ b xs, H b = some (.tup xs) → H' b = some (.tup xs)) (frzs : ∀ b o u, H b = some (.frz o u) → H' b = some (.frz o u)) (tbls : ∀ b ps, H b = some (.tbl ps) → ∃ more, H' b = some (.tbl (ps ++ more)))
    (ns : ∀ m, s.heap.Ns X.env.locals m → h'.Ns X.env.locals m) (hok : HOk X.prog X.w H' h') (hg : AllBare g') :
    Inv X pins σ H' { s with heap := h', gens := g', drawn := d', toks := t' } := by
  have neL : ∀ b o, X.s₀.heap.get? b = some o → b ≠ X.env.locals := fun b o e => Nat.ne_of_lt (Nat.lt_of_lt_of_le (Heap.lt_size e) I.ok.above)
  have neC : ∀ b o, X.s₀.heap.get? b = some o → b ∉ X.ex → b ∉ ch := fun b o e hx hb => by
    rcases (hch b hb).1 with z | z
    · exact hx z
    · exact absurd (Nat.lt_of_lt_of_le (Heap.lt_size e) z) (Nat.lt_irrefl _)
  have cellK : ∀ x c, X.env.cells.lookup x = some c → ∀ v, s.heap.IsCell c v → h'.IsCell c v := fun x c e v ⟨o, ho, hd⟩ => by
    have nch : c ∉ ch := fun z => (hch c z).2.2.1 x c e rfl
    by_cases hc : c ∈ X.fs
    · obtain ⟨sl, q⟩ := slot c o (I.cne x c e) hc nch ho (I.freeC x c e)
      exact ⟨_, q, hd⟩
    · exact ⟨o, keep c o (I.cne x c e) hc nch ho (I.freeC x c e), hd⟩
  refine ⟨I.ok, I.os, hg, ⟨fun b o e n hb hx => ?_, fun b o e n hb hx => ?_, fun b o e n hx => ?_, fun b o e hx => ?_, fun b xs e => tups b xs (I.base.tups b xs e), fun b o xs e => frzs b o xs (I.base.frzs b o xs e), fun b ps e => ?_⟩, ?_, fun x c e => ?_, ?_, fun x c e => ?_, fun p hp => ?_, hok, I.len⟩
  · exact keep b o (neL b o e) hb (neC b o e hx) (I.base.keep b o e n hb hx) (I.base.free b o e n hx)
  · obtain ⟨sl, e1⟩ := I.base.slot b o e n hb hx
    obtain ⟨sl', e2⟩ := slot b _ (neL b o e) hb (neC b o e hx) e1 (I.base.free b o e n hx)
    exact ⟨sl', e2⟩
  · obtain ⟨o', e1⟩ := I.base.there b o e hx
    exact free b o' (neC b o e hx) e1 (I.base.free b o e n hx)
  · obtain ⟨o', e1⟩ := I.base.there b o e hx
    exact there b o' (neC b o e hx) e1
  · obtain ⟨m1, e1⟩ := I.base.tbls b ps e
    obtain ⟨m2, e2⟩ := tbls b _ e1
    exact ⟨m1 ++ m2, by rw [e2, Array.append_assoc]⟩
  · obtain ⟨m, hn, hl⟩ := I.loc
    refine ⟨m, ns m hn, fun i x v e1 e2 e3 => ?_⟩
    obtain ⟨u, r, l⟩ := hl i x v e1 e2 e3
    refine ⟨u, r, ?_⟩
    rcases l with l | ⟨k, c, e, z⟩
    · exact .inl l
    · exact .inr ⟨k, c, e, cellK x c e _ z⟩
  · obtain ⟨v, z⟩ := I.cell x c e
    exact ⟨v, cellK x c e v z⟩
  · obtain ⟨m, ⟨o, _, _, ho, _⟩, _⟩ := I.loc
    exact free _ o (fun z => (hch _ z).2.1 rfl) ho I.free
  · obtain ⟨v, o, ho, hd⟩ := I.cell x c e
    exact free c o (fun z => (hch c z).2.2.1 x c e rfl) ho (I.freeC x c e)
  · obtain ⟨e, n, ne, nf, d⟩ := I.pin p hp
    have nch : p.1 ∉ ch := fun z => (hch p.1 z).2.2.2 p hp rfl
    exact ⟨keep p.1 p.2 ne nf nch e n, free p.1 p.2 nch e n, ne, nf, d⟩
theorem Inv.un {t' : Nat} (I : Inv X pins σ H s) (u : Un X.fs [] H H' s.heap h') (hok : HOk X.prog X.w H' h') : Inv X pins σ H' { s with heap := h', toks := t' } := by
  obtain ⟨m, ⟨o, es, ep, ho, r⟩, _⟩ := id I.loc
  obtain ⟨sl, hL⟩ := u.any ho I.free (by simp)
  exact I.step (g' := s.gens) (d' := s.drawn) (ch := []) (fun _ z => nomatch z) (fun b o _ hb _ e n => u.keep b o e n hb (by simp)) (fun b o _ hb _ e n => u.slot b o e n hb (by simp)) (fun b o _ e n => u.free b o e n (by simp)) (fun b o _ e => u.there b o e (by simp)) u.tups u.frzs u.tbls (fun m' hm => by
    obtain ⟨o', es', ep', ho', r'⟩ := hm
    rw [ho] at ho'; cases ho'
    exact ⟨_, es', ep', hL, r'⟩) hok I.bare
theorem Inv.call {g' : Array GenState} {t' : Nat} {d' : Drawn} {ch : List Addr} (I : Inv X pins σ H s) (u : Un (frs X.stack) ch H H' s.heap h') (hok : HOk X.prog X.w H' h') (hg : AllBare g')
    (hch : ∀ b ∈ ch, (b ∈ X.ex ∨ X.s₀.heap.objs.size ≤ b) ∧ b ≠ X.env.locals ∧ (∀ x c, X.env.cells.lookup x = some c → c ≠ b) ∧ ∀ p ∈ X.pn ++ pins, p.1 ≠ b) :
    Inv X pins σ H' { s with heap := h', gens := g', drawn := d', toks := t' } := by
  obtain ⟨m, ⟨o, es, ep, ho, r⟩, _⟩ := id I.loc
  obtain ⟨sl, hL⟩ := u.any ho I.free fun z => (hch _ z).2.1 rfl
  exact I.step (ch := ch) hch (fun b o hL hb hc e n => u.keep b o e n (fun z => (List.mem_cons.mp (I.stkSub b z)).elim hL hb) hc) (fun b o _ _ hc e n => u.any e n hc) (fun b o hc e n => u.free b o e n hc) (fun b o hc e => u.there b o e hc) u.tups u.frzs u.tbls (fun m' hm => by
    obtain ⟨o', es', ep', ho', r'⟩ := hm
    rw [ho] at ho'; cases ho'
    exact ⟨_, es', ep', hL, r'⟩) hok hg
theorem Inv.turned {t' : Nat} {it : Addr} (I : Inv X pins σ H s) (k : ∀ b o, b ≠ it → s.heap.get? b = some o → h'.get? b = some o) (hn : H it = none) (hL : it ≠ X.env.locals)
    (h1 : it ∈ X.ex ∨ X.s₀.heap.objs.size ≤ it) (h2 : ∀ x c, X.env.cells.lookup x = some c → c ≠ it) (h3 : ∀ p ∈ X.pn ++ pins, p.1 ≠ it) : Inv X pins σ H { s with heap := h', toks := t' } := by
  have nit : ∀ b u, H b = some u → b ≠ it := fun b u e z => by rw [z, hn] at e; cases e
  refine I.step (g' := s.gens) (d' := s.drawn) (ch := [it]) (fun b hb => ?_) (fun b o _ _ hc e _ => k b o (fun z => hc (by simp [z])) e) (fun b o _ _ hc e _ => ⟨o.slots, k b o (fun z => hc (by simp [z])) e⟩) (fun _ _ _ _ n => n)
    (fun b o hc e => ⟨o, k b o (fun z => hc (by simp [z])) e⟩) (fun _ _ e => e) (fun _ _ _ e => e) (fun b ps e => ⟨#[], by rw [e]; simp⟩) (fun m hm => ?_) (fun b u e => ?_) I.bare
  · have e : b = it := by simpa using hb
    subst e
    exact ⟨h1, hL, h2, h3⟩
  · obtain ⟨o, es, ep, ho, r⟩ := hm
    exact ⟨o, es, ep, k _ o (Ne.symm hL) ho, r⟩
  · refine (I.hok b u e).stay (fun c v hc q => k c v ?_ q) (fun _ q => q) fun _ _ q => q
    rcases hc with z | z
    · rw [z]; exact nit b u e
    · exact nit c _ z
theorem Inv.tok (I : Inv X pins σ H s) (t : Nat) : Inv X pins σ H { s with toks := t } := I.un (h' := s.heap) (t' := t) Un.refl I.hok
theorem Inv.kept {t' : Nat} (I : Inv X pins σ H s) (k : ∀ b u, s.heap.get? b = some u → h'.get? b = some u) : Inv X pins σ H { s with heap := h', toks := t' } := I.un (Un.kept k) (I.hok.kept k)
theorem Inv.laid {a : Addr} {o : HO} {t' : Nat} (I : Inv X pins σ H s) (k : ∀ b u, s.heap.get? b = some u → h'.get? b = some u) (hp : s.heap.objs.size ≤ a) (new : ObjOk X.prog X.w (upd H a o) h' a o) :
    Inv X pins σ (upd H a o) { s with heap := h', toks := t' } := I.un (Un.laid k hp (I.hok.fresh hp)) (I.hok.laid k hp new)
theorem Inv.write {x e : Addr} {o : HO} {t' : Nat} (I : Inv X pins σ H s) (mu : Mut (H x)) (he : e = x ∨ H e = some (.own x)) (k : ∀ b u, b ≠ e → s.heap.get? b = some u → h'.get? b = some u) (heo : ∃ u, h'.get? e = some u)
    (new : ObjOk X.prog X.w (upd H x o) h' x o) : Inv X pins σ (upd H x o) { s with heap := h', toks := t' } := I.un (Un.write mu he k heo) (I.hok.write mu he k heo new)
theorem Inv.pins_of {pins' : List (Addr × Obj)} (I : Inv X pins σ H s) (h : ∀ p ∈ pins', s.heap.get? p.1 = some p.2 ∧ H p.1 = none ∧ p.1 ≠ X.env.locals ∧ p.1 ∉ X.fs ∧ ∀ v, p.2.data ≠ .cell v) : Inv X pins' σ H s :=
  ⟨I.ok, I.os, I.bare, I.base, I.loc, I.cell, I.free, I.freeC, fun p hp => (List.mem_append.mp hp).elim (fun z => I.pin p (List.mem_append_left _ z)) (h p), I.hok, I.len⟩

theorem nodup_ix {N : List Str} (hN : N.Nodup) {i j : Nat} {x : Str} (a : N[i]? = some x) (b : N[j]? = some x) : i = j := by
  obtain ⟨h1, e1⟩ := List.getElem?_eq_some_iff.mp a
  obtain ⟨h2, e2⟩ := List.getElem?_eq_some_iff.mp b
  exact (List.getElem_inj hN).mp (e1.trans e2.symm)

theorem store_ok2 {M : Model} {A : Around} {E : Value → Shared → Prop} {i : Nat} {x : Str} {v : V} {u : Value} {Q : Unit → Shared → Prop} (I : Inv X pins σ H s) (hN : X.N.Nodup) (hi : X.N[i]? = some x) (hx : Loc X.env.scope x) (r : RelV v u)
    (h : ∀ s', Inv X pins (σ.set i (some v)) H s' → (∃ a, Heap.SameBut a s.heap s'.heap ∧ (a = X.env.locals ∨ X.env.cells.lookup x = some a)) → Q () s') (hf : X.fn x = true ∨ X.env.scope.names.lookup x = some .local := by first | exact .inl rfl | exact .inr rfl | assumption) : wpAny M A (storeName X.env x u) Q E s := by
  obtain ⟨m, hn, hl⟩ := id I.loc
  have hcls : (X.env.scope.kind == .class || (X.env.scope.kind == .module && X.env.locals != X.env.globals)) = false := by rw [I.ok.kind]; rfl
  have hiσ : i < σ.length := by rw [I.len]; exact (List.getElem?_eq_some_iff.mp hi).1
  have cne := I.cne
  have tracked : ∀ {a : Addr} {h' : Heap}, (∃ o, s.heap.get? a = some o ∧ H a = none) → Heap.SameBut a s.heap h' → HOk X.prog X.w H h' := fun {a h'} ha hs b ob e => by
    obtain ⟨_, _, hfree⟩ := ha
    refine (I.hok b ob e).stay (fun c w' hc q => (hs.2 c ?_).trans q) (fun _ q => q) fun _ _ q => q
    rintro rfl
    rcases hc with rfl | hc
    · rw [hfree] at e; cases e
    · rw [hfree] at hc; cases hc
  rcases hx with hk | hk
  · refine wpAny_storeName_local hk hn (fun h' hn' hs => ?_) hcls
    obtain ⟨oL, _, _, hoL, _⟩ := id hn
    refine h _ ⟨I.ok, I.os, I.bare, ⟨fun b o e n hb hx => ?_, fun b o e n hb hx => ?_, I.base.free, fun b o e hx => ?_, I.base.tups, I.base.frzs, I.base.tbls⟩, ⟨_, hn', fun j y v' e1 e2 e3 => ?_⟩, fun y c e => ?_, I.free, I.freeC, fun p hp => ?_, tracked ⟨oL, hoL, I.free⟩ hs, by simpa using I.len⟩ ⟨_, hs, .inl rfl⟩
    · exact (hs.2 b (Nat.ne_of_lt (Nat.lt_of_lt_of_le (Heap.lt_size e) I.ok.above))).trans (I.base.keep b o e n hb hx)
    · obtain ⟨sl, e1⟩ := I.base.slot b o e n hb hx
      exact ⟨sl, (hs.2 b (Nat.ne_of_lt (Nat.lt_of_lt_of_le (Heap.lt_size e) I.ok.above))).trans e1⟩
    · obtain ⟨o', e1⟩ := I.base.there b o e hx
      exact ⟨o', (hs.2 b (Nat.ne_of_lt (Nat.lt_of_lt_of_le (Heap.lt_size e) I.ok.above))).trans e1⟩
    · by_cases hj : j = i
      · subst hj
        rw [hi] at e1; cases e1
        rw [List.getElem?_set_self hiσ] at e2
        cases e2
        exact ⟨u, r, .inl ⟨hk, by simp⟩⟩
      · rw [List.getElem?_set_ne (Ne.symm hj)] at e2
        obtain ⟨u', r', q⟩ := hl j y v' e1 e2 e3
        refine ⟨u', r', ?_⟩
        rcases q with ⟨k, e⟩ | ⟨k, c, e, z⟩
        · refine .inl ⟨k, ?_⟩
          have : y ≠ x := fun e => hj (nodup_ix hN e1 (e ▸ hi))
          simp [this, e]
        · exact .inr ⟨k, c, e, z.sameBut hs (cne y c e)⟩
    · obtain ⟨w', z⟩ := I.cell y c e
      exact ⟨w', z.sameBut hs (cne y c e)⟩
    · obtain ⟨e, n, ne, nf, d⟩ := I.pin p hp
      exact ⟨(hs.2 p.1 ne).trans e, n, ne, nf, d⟩
  · have hfn : X.fn x = true := by
      rcases hf with z | z
      · exact z
      · rw [z] at hk; cases hk
    obtain ⟨c, hc⟩ := I.ok.has x (.inl hk)
    obtain ⟨w', z⟩ := I.cell x c hc
    refine wpAny_storeName_cell I.ok.kind hk hc z (fun h' hc' hs => ?_)
    obtain ⟨oc, hoc, hocd⟩ := id z
    refine h { s with heap := h' } ⟨I.ok, I.os, I.bare, ⟨fun b o e n hb hx => ?_, fun b o e n hb hx => ?_, I.base.free, fun b o e hx => ?_, I.base.tups, I.base.frzs, I.base.tbls⟩, ⟨m, hn.sameBut hs (Ne.symm (cne x c hc)), fun j y v' e1 e2 e3 => ?_⟩, fun y c' e => ?_, I.free, I.freeC, fun p hp => ?_, tracked ⟨oc, hoc, I.freeC x c hc⟩ hs, by simpa using I.len⟩ ⟨c, hs, .inr hc⟩
    · exact (hs.2 b (Nat.ne_of_lt (Nat.lt_of_lt_of_le (Heap.lt_size e) (I.ok.cab x c hfn hc)))).trans (I.base.keep b o e n hb hx)
    · obtain ⟨sl, e1⟩ := I.base.slot b o e n hb hx
      exact ⟨sl, (hs.2 b (Nat.ne_of_lt (Nat.lt_of_lt_of_le (Heap.lt_size e) (I.ok.cab x c hfn hc)))).trans e1⟩
    · obtain ⟨o', e1⟩ := I.base.there b o e hx
      exact ⟨o', (hs.2 b (Nat.ne_of_lt (Nat.lt_of_lt_of_le (Heap.lt_size e) (I.ok.cab x c hfn hc)))).trans e1⟩
    · by_cases hj : j = i
      · subst hj
        rw [hi] at e1; cases e1
        rw [List.getElem?_set_self hiσ] at e2
        cases e2
        exact ⟨u, r, .inr ⟨.inl hk, c, hc, hc'⟩⟩
      · rw [List.getElem?_set_ne (Ne.symm hj)] at e2
        obtain ⟨u', r', q⟩ := hl j y v' e1 e2 e3
        refine ⟨u', r', ?_⟩
        rcases q with q | ⟨k, c', e, z'⟩
        · exact .inl q
        · refine .inr ⟨k, c', e, z'.sameBut hs ?_⟩
          rintro rfl
          exact hj (nodup_ix hN e1 (I.ok.inj _ _ _ e hc ▸ hi))
    · by_cases hcc : c' = c
      · subst hcc; exact ⟨_, hc'⟩
      · obtain ⟨w2, z2⟩ := I.cell y c' e
        exact ⟨w2, z2.sameBut hs hcc⟩
    · obtain ⟨e, n, ne, nf, d⟩ := I.pin p hp
      refine ⟨(hs.2 p.1 ?_).trans e, n, ne, nf, d⟩
      intro q
      rw [q, hoc] at e
      have q' : oc = p.2 := Option.some.inj e
      exact d w' (by rw [← q']; exact hocd)
theorem store_ok {M : Model} {A : Around} {E : Value → Shared → Prop} {i : Nat} {x : Str} {v : V} {u : Value} {Q : Unit → Shared → Prop} (I : Inv X pins σ H s) (hN : X.N.Nodup) (hi : X.N[i]? = some x) (hx : Loc X.env.scope x) (r : RelV v u)
    (h : ∀ s', Inv X pins (σ.set i (some v)) H s' → Q () s') (hf : X.fn x = true ∨ X.env.scope.names.lookup x = some .local := by first | exact .inl rfl | exact .inr rfl | assumption) : wpAny M A (storeName X.env x u) Q E s :=
  store_ok2 I hN hi hx r (fun s' I' _ => h s' I') hf
theorem Inv.call' {s' : Shared} {ch : List Addr} (I : Inv X pins σ H s) (ho : s'.os = s.os) (u : Un (frs X.stack) ch H H' s.heap s'.heap) (hok : HOk X.prog X.w H' s'.heap) (hg : AllBare s'.gens)
    (hch : ∀ b ∈ ch, (b ∈ X.ex ∨ X.s₀.heap.objs.size ≤ b) ∧ b ≠ X.env.locals ∧ (∀ x c, X.env.cells.lookup x = some c → c ≠ b) ∧ ∀ p ∈ X.pn ++ pins, p.1 ≠ b) : Inv X pins σ H' s' := by
  obtain ⟨h', g', d', t', o'⟩ := s'
  have e : o' = s.os := ho
  subst e
  exact I.call (g' := g') (t' := t') (d' := d') u hok hg hch
end

abbrev XK := Value → Option Addr → Hp → Prop
abbrev St := List (Option V)
abbrev VK := V → Hp → Prop
abbrev TE := St → Hp → VK → Prop
abbrev TT := St → Hp → (Bool → Hp → Prop) → Prop
abbrev TA := St → Hp → (List V → Hp → Prop) → Prop
structure Ends where
  nx : St → Hp → Prop
  rt : VK
  bk : St → Hp → Prop := fun _ _ => False
  ct : St → Hp → Prop := fun _ _ => False
abbrev TS := Ends → St → Hp → Prop

def EP (X : Cx) (pins : List (Addr × Obj)) (σ : St) (Q : VK) (u : Value) (s' : Shared) : Prop := ∃ v H', Inv X pins σ H' s' ∧ RelV v u ∧ Q v H'
def TP (X : Cx) (pins : List (Addr × Obj)) (σ : St) (Q : Bool → Hp → Prop) (b : Bool) (s' : Shared) : Prop := ∃ H', Inv X pins σ H' s' ∧ Q b H'
def AP (X : Cx) (pins : List (Addr × Obj)) (σ : St) (Q : List V → Hp → Prop) (us : List Value) (s' : Shared) : Prop := ∃ vs H', Inv X pins σ H' s' ∧ Vals vs us ∧ Q vs H'
def SP (X : Cx) (pins : List (Addr × Obj)) (D : Ends) (f : Flow) (s' : Shared) : Prop :=
  match f with
  | .next => ∃ σ' H', Inv X pins σ' H' s' ∧ D.nx σ' H'
  | .brk => ∃ σ' H', Inv X pins σ' H' s' ∧ D.bk σ' H'
  | .cont => ∃ σ' H', Inv X pins σ' H' s' ∧ D.ct σ' H'
  | .ret u => ∃ v σ' H', Inv X pins σ' H' s' ∧ RelV v u ∧ D.rt v H'

def PE (X : Cx) (e : Expr) (t : TE) : Prop :=
  ∀ (pins : List (Addr × Obj)) (s : Shared) (σ : St) (H : Hp) (Q : VK), Inv X pins σ H s → t σ H Q → wpAny (model X.prog X.w) X.A (eval e X.env) (EP X pins σ Q) X.xe s
def PT (X : Cx) (e : Expr) (t : TT) : Prop :=
  ∀ (pins : List (Addr × Obj)) (s : Shared) (σ : St) (H : Hp) (Q : Bool → Hp → Prop), Inv X pins σ H s → t σ H Q → wpAny (model X.prog X.w) X.A (isTrue e X.env (eval e X.env)) (TP X pins σ Q) X.xe s
def PW (X : Cx) (e : Expr) (t : TT) : Prop :=
  ∀ (whole : Sem Value) (pins : List (Addr × Obj)) (s : Shared) (σ : St) (H : Hp) (Q : Bool → Hp → Prop), Inv X pins σ H s → t σ H Q → wpAny (model X.prog X.w) X.A (isTrue e X.env whole) (TP X pins σ Q) X.xe s
theorem PW.pt {X : Cx} {e : Expr} {t : TT} (h : PW X e t) : PT X e t := h _
def PA (X : Cx) (es : List Expr) (t : TA) : Prop :=
  ∀ (pos : Pos) (pins : List (Addr × Obj)) (s : Shared) (σ : St) (H : Hp) (Q : List V → Hp → Prop), Inv X pins σ H s → t σ H Q → wpAny (model X.prog X.w) X.A (spliced (backTo pos (starEach es X.env))) (AP X pins σ Q) X.xe s
def PS (X : Cx) (st : Stmt) (t : TS) : Prop :=
  ∀ (pins : List (Addr × Obj)) (s : Shared) (σ : St) (H : Hp) (D : Ends), Inv X pins σ H s → t D σ H → wpAny (model X.prog X.w) X.A (exec st X.env) (SP X pins D) X.xe s
def PSs (X : Cx) (st : List Stmt) (t : TS) : Prop :=
  ∀ (pins : List (Addr × Obj)) (s : Shared) (σ : St) (H : Hp) (D : Ends), Inv X pins σ H s → t D σ H → wpAny (model X.prog X.w) X.A (execs st X.env) (SP X pins D) X.xe s
theorem thn {α : Type} {t : Sem α} {Q Q' : α → Shared → Prop} {M : Model} {A : Around} {E : Value → Shared → Prop} {s : Shared} (h : wpAny M A t Q E s) (hQ : ∀ a s, Q a s → Q' a s) : wpAny M A t Q' E s := wpAny_mono h hQ fun _ _ x => x
end L2

namespace L2
open PySem PySem.Spec PyProof.Rows
section
variable {X : Cx}

theorem bin {a b : Expr} {ta tb : TE} (ha : PE X a ta) (hb : PE X b tb) {pins : List (Addr × Obj)} {s : Shared} {σ : St} {H : Hp} {R : V → V → Hp → Prop} (I : Inv X pins σ H s) (h : ta σ H fun x H1 => tb σ H1 fun y H2 => R x y H2)
    {α : Type} {Q : α → Shared → Prop} {f : Value → Value → Sem α}
    (hf : ∀ v u s2 x y H2, Inv X pins σ H2 s2 → RelV x v → RelV y u → R x y H2 → wpAny (model X.prog X.w) X.A (f v u) Q X.xe s2) :
    wpAny (model X.prog X.w) X.A (eval a X.env) (fun v s₁ => wpAny (model X.prog X.w) X.A (eval b X.env) (fun u s₂ => wpAny (model X.prog X.w) X.A (f v u) Q X.xe s₂) X.xe s₁) X.xe s := by
  refine thn (ha pins s σ H _ I h) fun v s1 ⟨x, H1, I1, r1, q1⟩ => ?_
  refine thn (hb pins s1 σ H1 _ I1 q1) fun u s2 ⟨y, H2, I2, r2, q2⟩ => ?_
  exact hf v u s2 x y H2 I2 r1 r2 q2

def tVar (i : Nat) : TE := fun σ H Q => ∃ v, σ[i]? = some (some v) ∧ Q v H
def tC (v : V) : TE := fun _ H Q => Q v H
theorem pe_var {i : Nat} {x : Str} {pos : Pos} (hN : X.N[i]? = some x) (hv : Vis X.env.scope x) (hd : (x == ("__debug__" : Str)) = false := by decide) (hcd : (x == ("__classdict__" : Str)) = false := by decide) : PE X (.Name x pos) (tVar i) := by
  intro pins s σ H Q I h
  obtain ⟨v, e, h⟩ := h
  obtain ⟨m, hn, hl⟩ := I.loc
  obtain ⟨u, r, l⟩ := hl i x v hN e hv
  have fin : EP X pins σ Q u s := ⟨v, H, I, r, h⟩
  rcases l with ⟨hk, hm⟩ | ⟨hk, c, hc, hcell⟩
  · exact wpAny_Name (wpAny_loadName_local I.ok.kind hk hn hm fin) hd
  · rcases hk with hk | hk
    · exact wpAny_Name (wpAny_loadName_cell I.ok.kind hk hc hcell fin) hd
    · exact wpAny_Name (wpAny_loadName_free I.ok.kind hk hc hcell fin hcd) hd
theorem pe_int {i j pos} : PE X (.Constant (.int i) j pos) (tC (.int i)) := fun _ _ _ H _ I h => wpAny_Constant_int ⟨.int i, H, I.tok _, ⟨_, rfl⟩, h⟩
theorem pe_bl {b j pos} : PE X (.Constant (.bool b) j pos) (tC (.bl b)) := fun _ _ _ H _ I h => Constant_bool ⟨.bl b, H, I, rfl, h⟩
theorem pe_non {j pos} : PE X (.Constant .none j pos) (tC .non) := fun _ _ _ H _ I h => Constant_none ⟨.non, H, I, rfl, h⟩
theorem pe_str {x j pos} : PE X (.Constant (.str x) j pos) (tC (.str x)) := fun _ _ _ H _ I h => Calls.Constant_str ⟨.str x, H, I.tok _, ⟨_, rfl⟩, h⟩

def Gl (X : Cx) (x : Str) : Prop := X.env.kindOf x = some .globalImplicit
theorem ld_glob {E : Value → Shared → Prop} {pins : List (Addr × Obj)} {s : Shared} {σ : St} {H : Hp} {x : Str} {u : Value} {pos : Pos} {Q : Value → Shared → Prop} (I : Inv X pins σ H s) (hg : Gl X x) (hm : X.mg x = some u) (h : Q u s)
    (hd : (x == ("__debug__" : Str)) = false := by decide) : wpAny (model X.prog X.w) X.A (eval (.Name x pos) X.env) Q E s :=
  Calls.Name_function_global I.ok.kind hg (Calls.loadGlobal_global (by rw [I.ok.glob]; exact I.mod.glob.keeps I.bk) hm h) hd
theorem ld_blt {E : Value → Shared → Prop} {pins : List (Addr × Obj)} {s : Shared} {σ : St} {H : Hp} {x : Str} {u : Value} {pos : Pos} {Q : Value → Shared → Prop} (I : Inv X pins σ H s) (hg : Gl X x) (hm : X.mg x = none) (hv : bootBuiltins x = some u) (h : Q u s)
    (hn : x ≠ "__name__" := by decide) (hd : (x == ("__debug__" : Str)) = false := by decide) : wpAny (model X.prog X.w) X.A (eval (.Name x pos) X.env) Q E s := by
  obtain ⟨mb, h1, h2⟩ := I.mod.blt
  exact Calls.Name_function_global I.ok.kind hg (Calls.loadGlobal_builtin (by rw [I.ok.glob]; exact I.mod.glob.keeps I.bk) hm (by rw [I.ok.blt]; exact h1.keeps I.bk) ((h2 x hn).trans hv) h) hd
theorem pe_glob {x : Str} {v : V} {u : Value} {pos : Pos} (hg : Gl X x) (hm : X.mg x = some u) (r : RelV v u) (hd : (x == ("__debug__" : Str)) = false := by decide) : PE X (.Name x pos) (tC v) :=
  fun _ _ _ H _ I h => ld_glob I hg hm ⟨v, H, I, r, h⟩ hd
theorem pe_bltn {x : Str} {v : V} {u : Value} {pos : Pos} (hg : Gl X x) (hm : X.mg x = none) (hv : bootBuiltins x = some u) (r : RelV v u) (hn : x ≠ "__name__" := by decide) (hd : (x == ("__debug__" : Str)) = false := by decide) : PE X (.Name x pos) (tC v) :=
  fun _ _ _ H _ I h => ld_blt I hg hm hv ⟨v, H, I, r, h⟩ hn hd

variable {a b : Expr} {ta tb : TE} {pos : Pos}
def PC (X : Cx) (op : CmpOp) (a b : Expr) (t : TE) : Prop :=
  ∀ (pins : List (Addr × Obj)) (s : Shared) (σ : St) (H : Hp) (Q : VK), Inv X pins σ H s → t σ H Q →
    wpAny (model X.prog X.w) X.A (eval a X.env) (fun v s₁ => wpAny (model X.prog X.w) X.A (eval b X.env) (fun u s₂ => wpAny (model X.prog X.w) X.A (compareOp op v u) (EP X pins σ Q) X.xe s₂) X.xe s₁) X.xe s
theorem nobehind (b : Expr) {op : CmpOp} (h : op ≠ .In) (h2 : op ≠ .NotIn) : behindInMarks op b = false := by
  have e1 : (op == CmpOp.In) = false := by cases op <;> first | rfl | exact absurd rfl h
  have e2 : (op == CmpOp.NotIn) = false := by cases op <;> first | rfl | exact absurd rfl h2
  cases b <;> simp [behindInMarks, e1, e2]
def tB (t : TE) : TT := fun σ H Q => t σ H fun x H1 => ∃ c, x = .bl c ∧ Q c H1
theorem pt_cmp {op : CmpOp} {t : TE} (h : PC X op a b t) (h1 : behindInMarks op b = false := by first | exact nobehind _ (by decide) (by decide) | rfl) : PT X (.Compare a [op] [b] pos) (tB t) := by
  intro pins s σ H Q I hw
  refine wpAny_isTrue_Compare1 (thn (h pins s σ H _ I hw) fun v s1 h1 => thn h1 fun u s2 h2 => thn h2 fun c s3 ⟨x, H1, I1, r1, q1⟩ => ?_) h1
  obtain ⟨d, rfl, q⟩ := q1
  cases r1
  exact wpAny_truthy_bool ⟨H1, I1, q⟩
theorem pt_val {e : Expr} {t : TE} (h : PE X e t) (he : ∀ whole, isTrue e X.env whole = (do let v ← whole; standAt e.pos; holding [v] (truthy v)) := by intro _; rfl) : PT X e (tB t) := by
  intro pins s σ H Q I hw
  refine isTrue_plain (thn (h pins s σ H _ I hw) fun v s1 ⟨x, H1, I1, r1, q1⟩ => ?_) (he _)
  obtain ⟨d, rfl, q⟩ := q1
  cases r1
  exact wpAny_truthy_bool ⟨H1, I1, q⟩

variable {tA tB' : TT} {rest : List Expr}
def tOr (t u : TT) : TT := fun σ H Q => t σ H fun c H1 => if c = true then Q true H1 else u σ H1 Q
def tNot (t : TT) : TT := fun σ H Q => t σ H fun c H1 => Q (!c) H1
theorem pw_or1 (ha : PT X a tA) : PW X (.BoolOp .Or [a] pos) tA := by
  intro wh pins s σ H Q I h
  refine isTrue_or (thn (ha pins s σ H Q I h) fun c s1 e => ?_)
  cases c with
  | false => exact isTrue_or_nil e
  | true => exact e
theorem pw_or (ha : PT X a tA) (hb : PW X (.BoolOp .Or (b :: rest) pos) tB') : PW X (.BoolOp .Or (a :: b :: rest) pos) (tOr tA tB') := by
  intro wh pins s σ H Q I h
  refine isTrue_or (thn (ha pins s σ H _ I h) fun c s1 ⟨H1, I1, q1⟩ => ?_)
  cases c with
  | true => exact ⟨H1, I1, q1⟩
  | false => exact hb wh pins s1 σ H1 Q I1 q1
theorem pt_not (ha : PT X a tA) : PT X (.UnaryOp .Not a pos) (tNot tA) := by
  intro pins s σ H Q I h
  exact isTrue_not (ha pins s σ H (fun c H1 => Q (!c) H1) I h)
def tAndV (ta tb : TE) : TE := fun σ H Q => ta σ H fun x H1 => ∃ c, x = .bl c ∧ if c = true then tb σ H1 Q else Q (.bl false) H1
def tNotV (ta : TE) : TE := fun σ H Q => ta σ H fun x H1 => ∃ c, x = .bl c ∧ Q (.bl (!c)) H1
theorem pe_one {op} {t : TE} (h : PE X a t) : PE X (.BoolOp op [a] pos) t := fun pins s σ H Q I hw => BoolOp_one (h pins s σ H Q I hw)
theorem pe_and (ha : PE X a ta) (hb : PE X (.BoolOp .And (b :: rest) pos) tb) : PE X (.BoolOp .And (a :: b :: rest) pos) (tAndV ta tb) := by
  intro pins s σ H Q I h
  refine BoolOp_and (thn (ha pins s σ H _ I h) fun v s1 ⟨x, H1, I1, r1, q1⟩ => ?_)
  obtain ⟨c, rfl, q1⟩ := q1
  cases r1
  refine wpAny_truthy_bool ?_
  cases c with
  | true => exact hb pins s1 σ H1 Q I1 q1
  | false => exact ⟨.bl false, H1, I1, rfl, q1⟩
theorem pe_not (ha : PE X a ta) : PE X (.UnaryOp .Not a pos) (tNotV ta) := by
  intro pins s σ H Q I h
  refine UnaryOp_ (thn (ha pins s σ H _ I h) fun v s1 ⟨x, H1, I1, r1, q1⟩ => ?_)
  obtain ⟨c, rfl, q1⟩ := q1
  cases r1
  exact not_of (wpAny_truthy_bool ⟨.bl (!c), H1, I1, rfl, q1⟩)
end
end L2

namespace L2
open PySem PySem.Spec PyProof.Rows

def SqL (K : PySem.W.Frag) (H : Hp) (a : Addr) (xs : List V) : Prop :=
  Rd H a (.lst xs) ∨
    ∃ (o : Obj) (its : Array Value) (n : Nat), K.lookup a = some o ∧ o.cls = .type "list" ∧ o.dict = none ∧ o.data = .seq its n ∧ its.size ≤ sizeLine ∧ Vals xs its.toList
def SqT (K : PySem.W.Frag) (H : Hp) (a : Addr) (xs : List V) : Prop :=
  Rd H a (.tup xs) ∨
    ∃ (o : Obj) (its : Array Value) (n : Nat), K.lookup a = some o ∧ o.cls = .type "tuple" ∧ o.data = .seq its n ∧ its.size ≤ sizeLine ∧ Vals xs its.toList
def absV : Value → Option V
  | .none => some .non
  | .bool b => some (.bl b)
  | .int i _ => some (.int i)
  | .str x _ => some (.str x)
  | .bytes b _ => some (.byt b)
  | .float b _ => some (.flt b)
  | .ref a => some (.ref a)
  | .type n => some (.ty n)
  | _ => none
theorem RelV.abs {x : V} {u : Value} (r : RelV x u) : absV u = some x := by
  cases x with
  | non => cases r; rfl
  | bl _ => cases r; rfl
  | int _ => obtain ⟨t, rfl⟩ := r; rfl
  | str _ => obtain ⟨t, rfl⟩ := r; rfl
  | byt _ => obtain ⟨t, rfl⟩ := r; rfl
  | flt _ => obtain ⟨t, rfl⟩ := r; rfl
  | ref _ => cases r; rfl
  | ty _ => cases r; rfl
theorem RelV.inj {x y : V} {u : Value} (r : RelV x u) (q : RelV y u) : x = y := Option.some.inj (r.abs.symm.trans q.abs)
theorem Vals.inj : ∀ {xs ys : List V} {us : List Value}, Vals xs us → Vals ys us → xs = ys
  | _, _, _, .nil, .nil => rfl
  | _, _, _, .cons r t, .cons r' t' => by rw [r.inj r', Vals.inj t t']
section
variable {X : Cx} {pins : List (Addr × Obj)} {σ : St} {H : Hp} {s : Shared} {a : Addr} {xs ys : List V}
theorem SqL.of {K : PySem.W.Frag} (h : H a = some (.lst xs)) : SqL K H a xs := .inl (.inl h)
theorem SqT.of {K : PySem.W.Frag} (h : H a = some (.tup xs)) : SqT K H a xs := .inl (.inl h)
theorem Inv.list (I : Inv X pins σ H s) (h : SqL X.K H a xs) : ∃ its : List Value, Vals xs its ∧ PlainL s.heap a its.toArray ∧ xs.length ≤ sizeLine := by
  rcases h with h | ⟨o, its, n, hk, hc, hd, hs, hz, r⟩
  · obtain ⟨z, its, n, r, e⟩ := h.ok I.hok
    exact ⟨its, r, ⟨_, n, e, rfl, rfl, rfl⟩, z⟩
  · refine ⟨its.toList, r, ⟨o, n, I.kIn a o hk, hc, hd, by simpa using hs⟩, ?_⟩
    have e := r.length
    simp only [Array.length_toList] at e
    omega
theorem Inv.tuple (I : Inv X pins σ H s) (h : SqT X.K H a xs) : ∃ its : List Value, Vals xs its ∧ IsTup s.heap a its.toArray ∧ xs.length ≤ sizeLine := by
  rcases h with h | ⟨o, its, n, hk, hc, hs, hz, r⟩
  · obtain ⟨z, its, r, p⟩ := h.ok I.hok
    exact ⟨its, r, p, z⟩
  · refine ⟨its.toList, r, ⟨o, I.kIn a o hk, hc, n, by simpa using hs⟩, ?_⟩
    have e := r.length
    simp only [Array.length_toList] at e
    omega
theorem Inv.list_inj (I : Inv X pins σ H s) (h : SqL X.K H a xs) (h' : SqL X.K H a ys) : xs = ys := by
  obtain ⟨its, r, ⟨o, n, e, _, _, d⟩, _⟩ := I.list h
  obtain ⟨its', r', ⟨o', n', e', _, _, d'⟩, _⟩ := I.list h'
  rw [e] at e'; cases e'
  rw [d] at d'
  injection d' with d1 _
  have : its = its' := by simpa using congrArg Array.toList d1
  subst this
  exact r.inj r'
end

abbrev Cx.wish (X : Cx) (E : Value → Shared → Prop) : Cx := { X with xe := E }
abbrev Cx.nox (X : Cx) : Cx := X.wish fun _ _ => False
theorem Cx.Ok.wish {X : Cx} (ok : X.Ok) (E : Value → Shared → Prop) : (X.wish E).Ok :=
  ⟨ok.mod, ok.kind, ok.glob, ok.blt, ok.above, ok.inj, ok.has, ok.cab, ok.hd, ok.frames, ok.stk, ok.exf, ok.bs, ok.bsz, ok.noex, ok.exfs, ok.funs, ok.frf⟩
theorem Cx.Ok.unwish {X : Cx} {E : Value → Shared → Prop} (ok : (X.wish E).Ok) : X.Ok :=
  ⟨ok.mod, ok.kind, ok.glob, ok.blt, ok.above, ok.inj, ok.has, ok.cab, ok.hd, ok.frames, ok.stk, ok.exf, ok.bs, ok.bsz, ok.noex, ok.exfs, ok.funs, ok.frf⟩
section
variable {X : Cx} {pins : List (Addr × Obj)} {σ : St} {H : Hp} {s : Shared} {E : Value → Shared → Prop}
theorem Inv.wish (I : Inv X pins σ H s) (E : Value → Shared → Prop) : Inv (X.wish E) pins σ H s := ⟨I.ok.wish E, I.os, I.bare, I.base, I.loc, I.cell, I.free, I.freeC, I.pin, I.hok, I.len⟩
theorem Inv.unwish (I : Inv (X.wish E) pins σ H s) : Inv X pins σ H s := ⟨I.ok.unwish, I.os, I.bare, I.base, I.loc, I.cell, I.free, I.freeC, I.pin, I.hok, I.len⟩
theorem SP.unwish {D : Ends} {f : Flow} {s' : Shared} (h : SP (X.wish E) pins D f s') : SP X pins D f s' := by
  cases f with
  | next => obtain ⟨σ', H', I, q⟩ := h; exact ⟨σ', H', I.unwish, q⟩
  | brk => obtain ⟨σ', H', I, q⟩ := h; exact ⟨σ', H', I.unwish, q⟩
  | cont => obtain ⟨σ', H', I, q⟩ := h; exact ⟨σ', H', I.unwish, q⟩
  | ret u => obtain ⟨v, σ', H', I, r, q⟩ := h; exact ⟨v, σ', H', I.unwish, r, q⟩
theorem PE.nox {e : Expr} {t : TE} (h : PE X.nox e t) : PE X e t := fun pins s σ H Q I hw =>
  wpAny_mono (h pins s σ H Q (I.wish _) hw) (fun _ _ ⟨v, H', I', r, q⟩ => ⟨v, H', I'.unwish, r, q⟩) fun _ _ z => False.elim z
theorem PT.nox {e : Expr} {t : TT} (h : PT X.nox e t) : PT X e t := fun pins s σ H Q I hw =>
  wpAny_mono (h pins s σ H Q (I.wish _) hw) (fun _ _ ⟨H', I', q⟩ => ⟨H', I'.unwish, q⟩) fun _ _ z => False.elim z
theorem PSs.nox {st : List Stmt} {t : TS} (h : PSs X.nox st t) : PSs X st t := fun pins s σ H D I hw =>
  wpAny_mono (h pins s σ H D (I.wish _) hw) (fun _ _ q => q.unwish) fun _ _ z => False.elim z
end

section
variable {X : Cx} {st : Stmt} {rest : List Stmt} {t u : TS} {e : Expr} {te : TE} {pos : Pos}
def tNext : TS := fun D σ H => D.nx σ H
def tSeq (t u : TS) : TS := fun D σ H => t { D with nx := u D } σ H
theorem pss_nil : PSs X [] tNext := fun _ _ σ H _ I h => wpAny_execs_nil ⟨σ, H, I, h⟩
theorem pss_cons (h1 : PS X st t) (h2 : PSs X rest u) : PSs X (st :: rest) (tSeq t u) := by
  intro pins s σ H D I h
  refine wpAny_execs_cons (thn (h1 pins s σ H { D with nx := u D } I h) fun f s1 q => ?_)
  cases f with
  | next =>
    obtain ⟨σ', H', I', q⟩ := q
    exact h2 pins s1 σ' H' D I' q
  | ret v => exact q
  | brk => exact q
  | cont => exact q
theorem pss_one (h1 : PS X st t) : PSs X [st] t := by
  intro pins s σ H D I h
  refine wpAny_execs_cons (thn (h1 pins s σ H D I h) fun f s1 q => ?_)
  cases f with
  | next => exact wpAny_execs_nil q
  | ret v => exact q
  | brk => exact q
  | cont => exact q
theorem Inv.quiet {pins : List (Addr × Obj)} {σ : St} {H : Hp} {s : Shared} (I : Inv X pins σ H s) : interactive X.env = false := by simp [interactive, I.ok.kind]
def tDrop (te : TE) : TS := fun D σ H => te σ H fun _ H1 => D.nx σ H1
theorem ps_expr (he : PE X e te) (hs : swapsWith e none pos.line X.env = pure false := by rfl) : PS X (.Expr e pos) (tDrop te) := by
  intro pins s σ H D I h
  exact wpAny_Expr_any (thn (he pins s σ H _ I h) fun v s1 ⟨x, H1, I1, r1, q1⟩ => ⟨σ, H1, I1, q1⟩) I.quiet hs
def tRet (te : TE) : TS := fun D σ H => te σ H D.rt
theorem ps_ret (he : PE X e te) : PS X (.Return (some e) pos) (tRet te) := by
  intro pins s σ H D I h
  exact wpAny_Return_some (thn (he pins s σ H _ I h) fun v s1 ⟨x, H1, I1, r1, q1⟩ => ⟨x, σ, H1, I1, r1, q1⟩)
def tIfS (c : TT) (t u : TS) : TS := fun D σ H => c σ H fun b H1 => if b = true then t D σ H1 else u D σ H1
theorem ps_if {c : Expr} {a b : List Stmt} {tc : TT} (hc : PT X c tc) (ha : PSs X a t) (hb : PSs X b u) : PS X (.If c a b pos) (tIfS tc t u) := by
  intro pins s σ H D I h
  refine wpAny_If (thn (hc pins s σ H _ I h) fun d s1 ⟨H1, I1, q1⟩ => ?_)
  cases d with
  | true => exact ha pins s1 σ H1 D I1 q1
  | false => exact hb pins s1 σ H1 D I1 q1
def tNever : TS := fun _ _ _ => False
theorem pss_never {sts : List Stmt} : PSs X sts tNever := fun _ _ _ _ _ _ h => h.elim
end

abbrev TG := V → St → Hp → (St → Hp → Prop) → Prop
abbrev TGs := List V → St → Hp → (St → Hp → Prop) → Prop
def PG (X : Cx) (target : Expr) (t : TG) : Prop :=
  ∀ (pins : List (Addr × Obj)) (s : Shared) (σ : St) (H : Hp) (v : V) (u : Value) (Q : St → Hp → Prop), Inv X pins σ H s → RelV v u → t v σ H Q →
    wpAny (model X.prog X.w) X.A (assign target X.env u) (fun _ s' => ∃ σ' H', Inv X pins σ' H' s' ∧ Q σ' H') X.xe s
def PGs (X : Cx) (ts : List Expr) (t : TGs) : Prop :=
  ∀ (pins : List (Addr × Obj)) (s : Shared) (σ : St) (H : Hp) (vs : List V) (us : List Value) (Q : St → Hp → Prop), Inv X pins σ H s → Vals vs us → t vs σ H Q →
    wpAny (model X.prog X.w) X.A (assignInOrder ((assignEach ts X.env).map (·.2)) us) (fun _ s' => ∃ σ' H', Inv X pins σ' H' s' ∧ Q σ' H') X.xe s
abbrev TIp := V → V → Hp → VK → Prop
def PIp (X : Cx) (op : Operator) (t : TIp) : Prop :=
  ∀ (pins : List (Addr × Obj)) (s : Shared) (σ : St) (H : Hp) (x y : V) (v u : Value) (Q : VK), Inv X pins σ H s → RelV x v → RelV y u → t x y H Q →
    wpAny (model X.prog X.w) X.A (inplaceOp op v u) (EP X pins σ Q) X.xe s
section
variable {X : Cx} {pos : Pos}
def gName (i : Nat) : TG := fun v σ H Q => Q (σ.set i (some v)) H
theorem pg_name {i : Nat} {x : Str} (hN : X.N.Nodup) (hi : X.N[i]? = some x) (hx : Loc X.env.scope x) (hf : X.fn x = true ∨ X.env.scope.names.lookup x = some .local := by first | exact .inl rfl | exact .inr rfl | assumption) : PG X (.Name x pos) (gName i) := by
  intro pins s σ H v u Q I r h
  exact wpAny_assign_Name (store_ok I hN hi hx r (fun s' I' => ⟨_, H, I', h⟩) hf)
def gNil : TGs := fun vs σ H Q => vs = [] ∧ Q σ H
def gCons (t : TG) (u : TGs) : TGs := fun vs σ H Q => ∃ v r, vs = v :: r ∧ t v σ H fun σ' H' => u r σ' H' Q
theorem pgs_nil : PGs X [] gNil := by
  intro pins s σ H vs us Q I r h
  obtain ⟨e, h⟩ := h
  subst e
  cases r
  exact assignInOrder_nil ⟨σ, H, I, h⟩
theorem pgs_cons {e : Expr} {es : List Expr} {t : TG} {u : TGs} (h1 : PG X e t) (h2 : PGs X es u)
    (hs : (assignEach (e :: es) X.env).map (·.2) = assign e X.env :: (assignEach es X.env).map (·.2) := by rfl) : PGs X (e :: es) (gCons t u) := by
  intro pins s σ H vs us Q I r h
  obtain ⟨v, vr, e1, h⟩ := h
  subst e1
  cases r with
  | cons r rr =>
    rw [hs]
    refine assignInOrder_cons (thn (h1 pins s σ H _ _ _ I r h) fun _ s1 ⟨σ1, H1, I1, q1⟩ => ?_)
    exact h2 pins s1 σ1 H1 _ _ Q I1 rr q1
def gTup (K : PySem.W.Frag) (n : Nat) (t : TGs) : TG := fun v σ H Q => ∃ a xs, v = .ref a ∧ SqT K H a xs ∧ xs.length = n ∧ t xs σ H Q
theorem pg_tup {es : List Expr} {k : Nat} {t : TGs} {n : Nat} (hc : X.calm = true) (h : PGs X es t)
    (hn : (assignEach es X.env).length = n := by rfl) (hst : (assignEach es X.env).findIdx? (·.1) = none := by rfl) : PG X (.Tuple es k pos) (gTup X.K n t) := by
  intro pins s σ H v u Q I r hw
  obtain ⟨a, xs, e1, hq, hl, hw⟩ := hw
  subst e1
  cases r
  obtain ⟨its, rv, ht, hz⟩ := I.tuple hq
  refine assign_Tuple_tuple (I.ok.hd hc) ht (by simp [hn, ← hl, rv.length]) hst fun h' hx => ?_
  have I1 : Inv X pins σ H { s with heap := h' } := I.kept (t' := s.toks) fun b o e => hx b o (Nat.ne_of_lt (Heap.lt_size e)) e
  exact h pins _ σ H xs _ Q I1 (by simpa using rv) hw
def tAsg (te : TE) (g : TG) : TS := fun D σ H => te σ H fun x H1 => g x σ H1 D.nx
theorem ps_set {i : Nat} {x : Str} {e : Expr} {te : TE} {pos' : Pos} (hN : X.N.Nodup) (hi : X.N[i]? = some x) (hx : Loc X.env.scope x) (he : PE X e te) (hs : swapsWith e (some (.Name x pos')) pos.line X.env = pure false := by rfl) (hf : X.fn x = true ∨ X.env.scope.names.lookup x = some .local := by first | exact .inl rfl | exact .inr rfl | assumption) :
    PS X (.Assign [.Name x pos'] e pos) (tAsg te (gName i)) := by
  intro pins s σ H D I h
  refine wpAny_Assign_Name (thn (he pins s σ H _ I h) fun v s1 ⟨y, H1, I1, r1, q1⟩ => ?_) hs
  exact store_ok I1 hN hi hx r1 (fun s2 I2 => ⟨_, H1, I2, q1⟩) hf
def tAug (i : Nat) (te : TE) (ti : TIp) : TS := fun D σ H => ∃ x, σ[i]? = some (some x) ∧ te σ H fun y H1 => ti x y H1 fun z H2 => D.nx (σ.set i (some z)) H2
theorem ps_aug {i : Nat} {x : Str} {e : Expr} {te : TE} {op : Operator} {ti : TIp} {pos' : Pos} (hN : X.N.Nodup) (hi : X.N[i]? = some x) (hx : Loc X.env.scope x) (he : PE X e te) (ho : PIp X op ti) (hf : X.fn x = true ∨ X.env.scope.names.lookup x = some .local := by first | exact .inl rfl | exact .inr rfl | assumption) :
    PS X (.AugAssign (.Name x pos') op e pos) (tAug i te ti) := by
  intro pins s σ H D I h
  obtain ⟨v, e1, h⟩ := h
  obtain ⟨m, hn, hl⟩ := I.loc
  have vis : Vis X.env.scope x := by rcases hx with k | k; exact .inl k; exact .inr (.inl k)
  obtain ⟨u, r, l⟩ := hl i x v hi e1 vis
  refine wpAny_AugAssign_Name ?_
  have go : wpAny (model X.prog X.w) X.A (eval e X.env) (fun w s₂ => wpAny (model X.prog X.w) X.A (inplaceOp op u w) (fun r s₃ => wpAny (model X.prog X.w) X.A (storeName X.env x r) (fun _ => SP X pins D .next) X.xe s₃) X.xe s₂) X.xe s := by
    refine thn (he pins s σ H _ I h) fun w s1 ⟨y, H1, I1, r1, q1⟩ => ?_
    refine thn (ho pins s1 σ H1 v y u w _ I1 r r1 q1) fun z s2 ⟨zv, H2, I2, r2, q2⟩ => ?_
    exact store_ok I2 hN hi hx r2 (fun s3 I3 => ⟨_, H2, I3, q2⟩) hf
  rcases l with ⟨hk, hm⟩ | ⟨hk, c, hc, hcell⟩
  · exact wpAny_loadName_local I.ok.kind hk hn hm go
  · rcases hk with hk | hk
    · exact wpAny_loadName_cell I.ok.kind hk hc hcell go
    · rcases hx with k | k
      · have : X.env.scope.names.lookup x = some .free := hk
        rw [k] at this; cases this
      · have : X.env.scope.names.lookup x = some .free := hk
        rw [k] at this; cases this
def ipI (f : Int → Int → Int) : TIp := fun x y H Q => ∃ i j, x = .int i ∧ y = .int j ∧ Q (.int (f i j)) H
theorem ip_add : PIp X .Add (ipI fun i j => i + j) := by
  intro pins s σ H x y v u Q I r1 r2 h
  obtain ⟨i, j, e1, e2, q⟩ := h
  subst e1; subst e2
  obtain ⟨t, rfl⟩ := r1
  obtain ⟨t', rfl⟩ := r2
  exact iadd_int ⟨.int _, H, I.tok _, ⟨_, rfl⟩, q⟩
end

section
variable {X : Cx} {pos : Pos}
end

structure It where
  go : Nat → Hp → Prop
  yld : Nat → Hp → V → Hp → Prop
  stop : Nat → Hp → Prop
def FpOk (X : Cx) (pins : List (Addr × Obj)) (H : Hp) (b : Addr) : Prop :=
  H b = none ∧ b ≠ X.env.locals ∧ b ∉ X.fs ∧ (b ∈ X.ex ∨ X.s₀.heap.objs.size ≤ b) ∧ (∀ x c, X.env.cells.lookup x = some c → c ≠ b) ∧ ∀ p ∈ X.pn ++ pins, p.1 ≠ b
theorem Inv.fpOk {X : Cx} {pins : List (Addr × Obj)} {σ : St} {H H' : Hp} {s : Shared} {b : Addr} (I : Inv X pins σ H s) (hb : s.heap.objs.size ≤ b) (hn : H' b = none) : FpOk X pins H' b := by
  refine ⟨hn, Nat.ne_of_gt (Nat.lt_of_lt_of_le I.lt hb), I.nofs hb, .inr (Nat.le_trans I.sz hb), fun x c e z => ?_, fun p hp z => ?_⟩
  · obtain ⟨v, q⟩ := I.cell x c e
    exact absurd (Nat.lt_of_lt_of_le q.lt (by rw [z]; exact hb)) (Nat.lt_irrefl _)
  · exact absurd (Nat.lt_of_lt_of_le (Heap.lt_size (I.pin p hp).1) (by rw [z]; exact hb)) (Nat.lt_irrefl _)
structure Turn (P : Program) (w : World) (K : PySem.W.Frag) (tg : Expr) (J : It) (fp : List Addr) (it : Addr) (tn : Nat → Heap → Prop) : Prop where
  mem : it ∈ fp
  obj : ∀ i h, tn i h → ∀ b ∈ fp, ∃ o, h.get? b = some o ∧ ∀ v, o.data ≠ .cell v
  keep : ∀ i h h', tn i h → (∀ b ∈ fp, ∀ o, h.get? b = some o → h'.get? b = some o) → tn i h'
  item : ∀ (X : Cx), X.prog = P → X.w = w → X.K = K → X.calm = true → ∀ (i : Nat) (pins : List (Addr × Obj)) (s : Shared) (σ : St) (H : Hp) (E : Value → Shared → Prop), Inv X pins σ H s → (∀ b ∈ fp, FpOk X pins H b) → tn i s.heap → J.go i H →
    wpAny (model P w) X.A (pyNext (.ref it)) (fun r s1 => ∃ u, r = some u ∧
      wpAny (model P w) X.A (letOwnedTupleGo tg (.ref it) u) (fun _ s2 => ∃ x H', Inv X pins σ H' s2 ∧ RelV x u ∧ J.yld i H x H' ∧ tn (i + 1) s2.heap ∧ ∀ b ∈ fp, H' b = none) E s1) E s
  done : ∀ (X : Cx), X.prog = P → X.w = w → X.K = K → X.calm = true → ∀ (i : Nat) (pins : List (Addr × Obj)) (s : Shared) (σ : St) (H : Hp) (E : Value → Shared → Prop), Inv X pins σ H s → (∀ b ∈ fp, FpOk X pins H b) → tn i s.heap → J.stop i H →
    wpAny (model P w) X.A (pyNext (.ref it)) (fun r s1 => r = none ∧ Inv X pins σ H s1) E s
  self : ∀ (A : Around) (i : Nat) (s : Shared) (Q : Value → Shared → Prop) (E : Value → Shared → Prop), tn i s.heap → Q (.ref it) s → wpAny (model P w) A (pyIter (.ref it)) Q E s
abbrev TI := St → Hp → (It → Hp → Prop) → Prop
def PIE (X : Cx) (pins : List (Addr × Obj)) (σ : St) (tg : Expr) (R : It → Hp → Prop) (itv : Value) (s2 : Shared) : Prop :=
  ∃ (it : Addr) (fp : List Addr) (tn : Nat → Heap → Prop) (J : It) (H' : Hp), itv = .ref it ∧ Inv X pins σ H' s2 ∧ Turn X.prog X.w X.K tg J fp it tn ∧ tn 0 s2.heap ∧ (∀ b ∈ fp, FpOk X pins H' b) ∧ R J H'
def PI (X : Cx) (tg iter : Expr) (wi : TI) : Prop :=
  ∀ (pins : List (Addr × Obj)) (s : Shared) (σ : St) (H : Hp) (R : It → Hp → Prop), Inv X pins σ H s → wi σ H R →
    wpAny (model X.prog X.w) X.A (eval iter X.env) (fun v s1 => wpAny (model X.prog X.w) X.A (pyIter v) (PIE X pins σ tg R) X.xe s1) X.xe s

theorem go_of {M : Model} {A : Around} {E : Value → Shared → Prop} {s : Shared} {tg : Expr} {it : Addr} {u : Value} {o : Obj} {n : String} {vs : Array Value} {Q : Unit → Shared → Prop} (ho : s.heap.get? it = some o) (hc : o.cls = .type n) (hd : o.data = .fields vs)
    (hn : ["enumerate", "zip", "dict_itemiterator", "dict_reverseitemiterator", "odict_iterator", "itertools.zip_longest", "itertools.pairwise"].contains n = false) (hQ : Q () s) : wpAny M A (letOwnedTupleGo tg (.ref it) u) Q E s := by
  unfold letOwnedTupleGo
  cases tg <;> first
    | exact wpAny_pure hQ
    | (cases u <;> first
        | exact wpAny_pure hQ
        | (refine wpAny_bind (wpAny_load ho ?_)
           rw [hc, hd]
           show wpAny M A (if (["enumerate", "zip", "dict_itemiterator", "dict_reverseitemiterator", "odict_iterator", "itertools.zip_longest", "itertools.pairwise"].contains n && vs[0]? == some (rawInt _)) = true then _ else _) Q E s
           rw [if_neg (by intro h; rw [hn, Bool.false_and] at h; cases h)]
           exact wpAny_pure hQ))

def Itl (K : PySem.W.Frag) (a : Addr) : It :=
  ⟨fun i H => ∃ xs x, SqL K H a xs ∧ xs[i]? = some x, fun i H x H' => H' = H ∧ ∀ xs, SqL K H a xs → xs[i]? = some x, fun i H => ∃ xs, SqL K H a xs ∧ xs.length ≤ i⟩
def Itr (lo : Int) (n : Nat) : It := ⟨fun i _ => i < n, fun i H x H' => H' = H ∧ x = .int (lo + i), fun i _ => n ≤ i⟩
theorem turn_list {P : Program} {w : World} {K : PySem.W.Frag} {tg : Expr} (a it : Addr) : Turn P w K tg (Itl K a) [it] it (fun i h => h.IsListIter it a i) where
  mem := by simp
  obj := fun i h st b hb => by
    have e : b = it := by simpa using hb
    subst e
    obtain ⟨o, e, c, d⟩ := st
    exact ⟨o, e, fun v z => by rw [d] at z; cases z⟩
  keep := fun i h h' st k => st.at fun o e => k it (by simp) o e
  item := by
    intro X hP hw hK hc i pins s σ H E I hf st hg
    subst hP hw hK
    obtain ⟨xs, x, hq, hx⟩ := hg
    obtain ⟨its, rv, p, hz⟩ := I.list hq
    obtain ⟨u, hu, ru⟩ := rv.get hx
    obtain ⟨f0, f1, f2, f3, f4, f5⟩ := hf it (by simp)
    refine wpAny_pyNext_list_item st p.isList (x := u) (by simpa using hu) fun h' st' sb => ?_
    have I1 : Inv X pins σ H { s with heap := h' } := I.turned (t' := s.toks) (fun b o hb e => (sb.2 b hb).trans e) f0 f1 f3 f4 f5
    obtain ⟨o, e, c, d⟩ := id st'
    exact ⟨u, rfl, go_of (s := { s with heap := h' }) e c d (by decide) ⟨x, H, I1, ru, ⟨rfl, fun ys hy => by rw [I.list_inj hy hq]; exact hx⟩, st', fun b hb => (hf b hb).1⟩⟩
  done := by
    intro X hP hw hK hc i pins s σ H E I hf st hg
    subst hP hw hK
    obtain ⟨xs, hq, hx⟩ := hg
    obtain ⟨its, rv, p, hz⟩ := I.list hq
    obtain ⟨f0, f1, f2, f3, f4, f5⟩ := hf it (by simp)
    have hl := rv.length
    exact wpAny_pyNext_list_end (I.ok.hd hc) st p.isList (by simp; omega) fun h' eb => ⟨rfl, I.turned (t' := s.toks) (fun b o hb e => eb b o hb e) f0 f1 f3 f4 f5⟩
  self := fun _ _ _ _ _ st h => wpAny_pyIter_listiter st h
theorem turn_range {P : Program} {w : World} {K : PySem.W.Frag} {tg : Expr} (it : Addr) (lo : Int) (n : Nat) : Turn P w K tg (Itr lo n) [it] it (fun i h => IsRangeIter h it (lo + (i : Nat) * 1) ((n : Int) - (i : Nat)) 1) where
  mem := by simp
  obj := fun i h st b hb => by
    have e : b = it := by simpa using hb
    subst e
    exact ⟨_, st, fun v z => by
      have z' : Data.fields _ = Data.cell v := z
      cases z'⟩
  keep := fun i h h' st k => k it (by simp) _ st
  item := by
    intro X hP hw hK hc i pins s σ H E I hf st hg
    subst hP hw hK
    obtain ⟨f0, f1, f2, f3, f4, f5⟩ := hf it (by simp)
    have W := Walks.range (prog := X.prog) (w := X.w) (I.ok.hd hc) it lo 1 n
    refine W.item i s _ _ hg st fun v h' tk hv st' kk => ?_
    obtain ⟨t, rfl⟩ := hv
    have I1 : Inv X pins σ H { s with heap := h', toks := tk } := I.turned (fun b o hb e => kk b o (by simpa using hb) e) f0 f1 f3 f4 f5
    refine ⟨_, rfl, go_of (s := { s with heap := h', toks := tk }) (n := "range_iterator") st' rfl rfl (by decide) ⟨.int (lo + i), H, I1, ⟨t, ?_⟩, ⟨rfl, rfl⟩, st', fun b hb => (hf b hb).1⟩⟩
    rw [Int.mul_one]
  done := by
    intro X hP hw hK hc i pins s σ H E I hf st hg
    subst hP hw hK
    obtain ⟨f0, f1, f2, f3, f4, f5⟩ := hf it (by simp)
    exact wpAny_pyNext_range_end (I.ok.hd hc) st (by have : n ≤ i := hg; omega) fun h' eb => ⟨rfl, I.turned (t' := s.toks) (fun b o hb e => eb b o hb e) f0 f1 f3 f4 f5⟩
  self := fun _ _ _ _ _ st h => wpAny_pyIter_rangeiter st h
end L2

namespace L2
open PySem PySem.Spec PyProof.Rows
section
variable {X : Cx} {tg : Expr}
def iList (K : PySem.W.Frag) (tl : TE) : TI := fun σ H R => tl σ H fun x H1 => ∃ a, x = .ref a ∧ (∃ xs, SqL K H1 a xs) ∧ R (Itl K a) H1
theorem pi_list {l : Expr} {tl : TE} (hl : PE X l tl) : PI X tg l (iList X.K tl) := by
  intro pins s σ H R I h
  refine thn (hl pins s σ H _ I h) fun v s1 ⟨x, H1, I1, r1, q1⟩ => ?_
  obtain ⟨a, e, ⟨xs, hq⟩, q⟩ := q1
  subst e
  cases r1
  obtain ⟨its, rv, p, hz⟩ := I1.list hq
  refine wpAny_pyIter_list p.isList ?_
  refine ⟨s1.heap.objs.size, [s1.heap.objs.size], _, _, H1, rfl, I1.kept (t' := s1.toks) fun b o e => Heap.get?_push_of_some _ e, turn_list a _, ⟨_, Heap.get?_push_size _ rfl, rfl, rfl⟩, fun b hb => ?_, q⟩
  have e : b = s1.heap.objs.size := by simpa using hb
  subst e
  exact I1.fpOk (Nat.le_refl _) (I1.hok.fresh (Nat.le_refl _))
theorem range_it {pins : List (Addr × Obj)} {σ : St} {H : Hp} {s : Shared} {R : It → Hp → Prop} {E : Value → Shared → Prop} {lo hi : Int} {t u v : Tok} {tk : Nat} (I : Inv X pins σ H s) (h1 : -(2 ^ 62) ≤ lo) (h2 : lo < 2 ^ 62) (h3 : -(2 ^ 62) ≤ hi) (h4 : hi < 2 ^ 62)
    (q : R (Itr lo (hi - lo).toNat) H) : wpAny (model X.prog X.w) X.A (pyIter (.ref s.heap.objs.size)) (PIE X pins σ tg R) E { s with heap := s.heap.push { cls := .type "range", data := .fields #[.int lo t, .int hi u, .int 1 v] }, toks := tk } := by
  refine wpAny_pyIter_range (IsRange.new ..) (small_one h1 h2 h3 h4) ?_
  have I1 : Inv X pins σ H { s with heap := s.heap.push { cls := .type "range", data := .fields #[.int lo t, .int hi u, .int 1 v] }, toks := tk } := I.kept fun b o e => Heap.get?_push_of_some _ e
  refine ⟨(s.heap.push { cls := .type "range", data := .fields #[.int lo t, .int hi u, .int 1 v] }).objs.size, [(s.heap.push { cls := .type "range", data := .fields #[.int lo t, .int hi u, .int 1 v] }).objs.size], _, _, H, rfl,
    I1.kept (t' := tk) fun b o e => Heap.get?_push_of_some _ e, turn_range _ lo (hi - lo).toNat, ?_, fun b hb => ?_, q⟩
  · have e1 : lo + ((0 : Nat) : Int) * 1 = lo := by simp
    have e2 : (((hi - lo).toNat : Nat) : Int) - ((0 : Nat) : Int) = Builtin.Range.rangeSize lo hi 1 := by rw [rangeSize_one]; split <;> omega
    show IsRangeIter _ _ (lo + ((0 : Nat) : Int) * 1) ((((hi - lo).toNat : Nat) : Int) - ((0 : Nat) : Int)) 1
    rw [e1, e2]
    exact Heap.get?_push_size _ rfl
  · have e : b = (s.heap.push { cls := .type "range", data := .fields #[.int lo t, .int hi u, .int 1 v] }).objs.size := by simpa using hb
    subst e
    exact I1.fpOk (Nat.le_refl _) (I1.hok.fresh (Nat.le_refl _))
def iRng1 (ta : TA) : TI := fun σ H R => ta σ H fun vs H1 => ∃ j : Int, vs = [.int j] ∧ -(2 ^ 62) ≤ j ∧ j < 2 ^ 62 ∧ R (Itr 0 j.toNat) H1
theorem pi_range1 {a : Expr} {ta : TA} {p pos : Pos} (hg : Gl X "range") (hm : X.mg "range" = none) (ha : PA X [a] ta) (hs : starEach [a] X.env = [(false, eval a X.env)] := by rfl) : PI X tg (.Call (.Name "range" p) [a] [] pos) (iRng1 ta) := by
  intro pins s σ H R I h
  refine Call_ (ld_blt I hg hm boot_range (PyProof.Rows.callWith_type1 (thn (ha pos pins s σ H _ I h) fun us s1 ⟨vs, H1, I1, r1, q1⟩ => ?_) hs rfl))
  obtain ⟨j, e, q1, q2, q⟩ := q1
  subst e
  cases r1 with
  | cons r rr =>
    cases rr
    obtain ⟨t, rfl⟩ := r
    exact call_range_1 (range_it I1 (by omega) (by omega) q1 q2 (by simpa using q))
def tFor (wi : TI) (g : TG) (tb : TS) : TS := fun D σ H => wi σ H fun J H1 => ∃ W : Nat → Nat → St → Hp → Prop, (∃ m, W 0 m σ H1) ∧ ∀ i m σ H, W i m σ H →
  (J.stop i H ∧ D.nx σ H) ∨ (J.go i H ∧ ∃ N : St → Hp → Prop, (∀ σ' H', N σ' H' → ∃ m', m' < m ∧ W (i + 1) m' σ' H') ∧ ∀ x H', J.yld i H x H' → g x σ H' fun σ2 H2 => tb { D with nx := N, ct := N, bk := D.nx } σ2 H2)
def pinsAt (fp : List Addr) (h : Heap) : List (Addr × Obj) := fp.filterMap fun b => (h.get? b).map fun o => (b, o)
theorem mem_pinsAt {fp : List Addr} {h : Heap} {b : Addr} {o : Obj} (hb : b ∈ fp) (e : h.get? b = some o) : (b, o) ∈ pinsAt fp h := List.mem_filterMap.mpr ⟨b, hb, by rw [e]; rfl⟩
theorem of_pinsAt {fp : List Addr} {h : Heap} {p : Addr × Obj} (hp : p ∈ pinsAt fp h) : p.1 ∈ fp ∧ h.get? p.1 = some p.2 := by
  obtain ⟨b, hb, e⟩ := List.mem_filterMap.mp hp
  cases q : h.get? b with
  | none => rw [q] at e; cases e
  | some o =>
    rw [q] at e
    have e' : (b, o) = p := Option.some.inj e
    subst e'
    exact ⟨hb, q⟩
theorem Inv.pinned {pins : List (Addr × Obj)} {σ : St} {H : Hp} {s : Shared} {fp : List Addr} (I : Inv X pins σ H s) (hf : ∀ b ∈ fp, FpOk X pins H b) (ho : ∀ b ∈ fp, ∃ o, s.heap.get? b = some o ∧ ∀ v, o.data ≠ .cell v) : Inv X (pins ++ pinsAt fp s.heap) σ H s :=
  I.pins_of fun p hp => (List.mem_append.mp hp).elim (fun z => I.pin p (List.mem_append_right _ z)) fun z => by
    obtain ⟨hb, e⟩ := of_pinsAt z
    obtain ⟨f0, f1, f2, _⟩ := hf p.1 hb
    obtain ⟨o, e', d⟩ := ho p.1 hb
    rw [e] at e'; cases e'
    exact ⟨e, f0, f1, f2, d⟩
theorem Inv.unpinned {pins pl : List (Addr × Obj)} {σ : St} {H : Hp} {s : Shared} (I : Inv X (pins ++ pl) σ H s) : Inv X pins σ H s := I.pins_of fun p hp => I.pin p (List.mem_append_right _ (List.mem_append_left _ hp))
theorem ps_for {iter : Expr} {body : List Stmt} {wi : TI} {g : TG} {tb : TS} {pos : Pos} (hp : PassesOwn (model X.prog X.w) X.A X.env X.xe) (hc : X.calm = true) (hi : PI X tg iter wi) (hg : PG X tg g) (hb : PSs X body tb)
    (hs : ∀ x, foldedSetIterable iter X.env x = pure x := by intro _; rfl) : PS X (.For tg iter body [] pos) (tFor wi g tb) := by
  intro pins s σ H D I h
  refine wpAny_For (thn (hi pins s σ H _ I h) fun v s1 h1 => thn h1 fun itv s2 h2 => ?_) hs
  obtain ⟨it, fp, tn, J, H2, e, I2, T, st2, f2, W, ⟨m0, w0⟩, turn⟩ := h2
  subst e
  -- what stays true of the iterator's objects through the loop
  have stat : ∀ {H' : Hp}, (∀ b ∈ fp, H' b = none) → ∀ b ∈ fp, FpOk X pins H' b := fun hn b hb => ⟨hn b hb, (f2 b hb).2⟩
  refine codeAny_forLoop_any (fun n s' => ∃ i σ' H', Inv X pins σ' H' s' ∧ tn i s'.heap ∧ (∀ b ∈ fp, H' b = none) ∧ W i n σ' H') ?_ m0 ⟨0, σ, H2, I2, st2, fun b hb => (f2 b hb).1, w0⟩
  rintro n s3 ⟨i, σ3, H3, I3, st3, fr3, w3⟩
  rcases turn i n σ3 H3 w3 with ⟨stop, qn⟩ | ⟨go, N, hN, step⟩
  · refine wpAny_passesOwn hp (thn (T.done X rfl rfl rfl hc i pins s3 σ3 H3 X.xe I3 (stat fr3) st3 stop) fun r s4 ⟨hr, I4⟩ => ?_)
    subst hr
    exact wpAny_execs_nil ⟨σ3, H3, I4, qn⟩
  · refine wpAny_passesOwn hp (thn (T.item X rfl rfl rfl hc i pins s3 σ3 H3 X.xe I3 (stat fr3) st3 go) fun r s4 ⟨u, hr, h4⟩ => ?_)
    subst hr
    refine wpAny_passesOwn hp (thn h4 fun _ s5 ⟨x, H5, I5, r5, y5, st5, fr5⟩ => ?_)
    have I5' := I5.pinned (stat fr5) (T.obj _ _ st5)
    refine wpAny_passesOwn hp (thn (hg _ s5 σ3 H5 x u _ I5' r5 (step x H5 y5)) fun _ s6 ⟨σ6, H6, I6, q6⟩ => ?_)
    refine wpAny_passesOwn hp (thn (hb _ s6 σ6 H6 _ I6 q6) fun f s7 q7 => ?_)
    have again : ∀ {σ7 : St} {H7 : Hp}, Inv X (pins ++ pinsAt fp s5.heap) σ7 H7 s7 → N σ7 H7 → ∃ m, m < n ∧ ∃ i σ' H', Inv X pins σ' H' s7 ∧ tn i s7.heap ∧ (∀ b ∈ fp, H' b = none) ∧ W i m σ' H' := fun {σ7 H7} I7 n7 => by
      obtain ⟨m', hm, w7⟩ := hN σ7 H7 n7
      refine ⟨m', hm, i + 1, σ7, H7, I7.unpinned, T.keep _ _ _ st5 fun b hb o e => (I7.pin (b, o) (List.mem_append_right _ (List.mem_append_right _ (mem_pinsAt hb e)))).1, fun b hb => ?_, w7⟩
      obtain ⟨o, e, d⟩ := T.obj _ _ st5 b hb
      exact (I7.pin (b, o) (List.mem_append_right _ (List.mem_append_right _ (mem_pinsAt hb e)))).2.1
    cases f with
    | next => obtain ⟨σ7, H7, I7, n7⟩ := q7; exact again I7 n7
    | cont => obtain ⟨σ7, H7, I7, n7⟩ := q7; exact again I7 n7
    | brk => obtain ⟨σ7, H7, I7, q7⟩ := q7; exact ⟨σ7, H7, I7.unpinned, q7⟩
    | ret v => obtain ⟨x7, σ7, H7, I7, r7, q7⟩ := q7; exact ⟨x7, σ7, H7, I7.unpinned, r7, q7⟩
end

theorem for_list {K : PySem.W.Frag} {a : Addr} {xs : List V} {g : TG} {tb : TS} {D : Ends} {σ : St} {H : Hp} (Pv : Nat → St → Hp → Prop) (h0 : Pv 0 σ H) (hl : ∀ i σ H, i ≤ xs.length → Pv i σ H → SqL K H a xs)
    (hs : ∀ i x σ H, xs[i]? = some x → Pv i σ H → g x σ H fun σ2 H2 => tb { D with nx := Pv (i + 1), ct := Pv (i + 1), bk := D.nx } σ2 H2) (hd : ∀ σ H, Pv xs.length σ H → D.nx σ H) :
    ∃ W : Nat → Nat → St → Hp → Prop, (∃ m, W 0 m σ H) ∧ ∀ i m σ H, W i m σ H →
      ((Itl K a).stop i H ∧ D.nx σ H) ∨ ((Itl K a).go i H ∧ ∃ N : St → Hp → Prop, (∀ σ' H', N σ' H' → ∃ m', m' < m ∧ W (i + 1) m' σ' H') ∧ ∀ x H', (Itl K a).yld i H x H' → g x σ H' fun σ2 H2 => tb { D with nx := N, ct := N, bk := D.nx } σ2 H2) := by
  refine ⟨fun i m σ H => m = xs.length - i ∧ i ≤ xs.length ∧ Pv i σ H, ⟨xs.length, by simp, Nat.zero_le _, h0⟩, ?_⟩
  rintro i m σ H ⟨rfl, hi, p⟩
  have q := hl i σ H hi p
  by_cases hlt : i < xs.length
  · refine .inr ⟨⟨xs, xs[i], q, by simp [hlt]⟩, Pv (i + 1), fun σ' H' p' => ⟨xs.length - (i + 1), by omega, rfl, hlt, p'⟩, fun x H' y => ?_⟩
    obtain ⟨e, y⟩ := y
    subst e
    exact hs i x σ _ (y xs q) p
  · have e : i = xs.length := by omega
    subst e
    exact .inl ⟨⟨xs, q, Nat.le_refl _⟩, hd σ H p⟩
theorem for_range {lo : Int} {n : Nat} {g : TG} {tb : TS} {D : Ends} {σ : St} {H : Hp} (Pv : Nat → St → Hp → Prop) (h0 : Pv 0 σ H)
    (hs : ∀ i σ H, i < n → Pv i σ H → g (.int (lo + i)) σ H fun σ2 H2 => tb { D with nx := Pv (i + 1), ct := Pv (i + 1), bk := D.nx } σ2 H2) (hd : ∀ σ H, Pv n σ H → D.nx σ H) :
    ∃ W : Nat → Nat → St → Hp → Prop, (∃ m, W 0 m σ H) ∧ ∀ i m σ H, W i m σ H →
      ((Itr lo n).stop i H ∧ D.nx σ H) ∨ ((Itr lo n).go i H ∧ ∃ N : St → Hp → Prop, (∀ σ' H', N σ' H' → ∃ m', m' < m ∧ W (i + 1) m' σ' H') ∧ ∀ x H', (Itr lo n).yld i H x H' → g x σ H' fun σ2 H2 => tb { D with nx := N, ct := N, bk := D.nx } σ2 H2) := by
  refine ⟨fun i m σ H => m = n - i ∧ i ≤ n ∧ Pv i σ H, ⟨n, by simp, Nat.zero_le _, h0⟩, ?_⟩
  rintro i m σ H ⟨rfl, hi, p⟩
  by_cases hlt : i < n
  · refine .inr ⟨hlt, Pv (i + 1), fun σ' H' p' => ⟨n - (i + 1), by omega, rfl, hlt, p'⟩, fun x H' y => ?_⟩
    obtain ⟨e, y⟩ := y
    subst e y
    exact hs i σ _ hlt p
  · have e : i = n := by omega
    subst e
    exact .inl ⟨Nat.le_refl _, hd σ H p⟩
end L2

namespace L2
open PySem PySem.Spec PyProof.Rows

abbrev R2 := V → V → Hp → VK → Prop
def OpR (X : Cx) (f : Value → Value → Sem Value) (r : R2) : Prop :=
  ∀ (pins : List (Addr × Obj)) (s : Shared) (σ : St) (H : Hp) (x y : V) (v u : Value) (Q : VK), Inv X pins σ H s → RelV x v → RelV y u → r x y H Q →
    wpAny (model X.prog X.w) X.A (f v u) (EP X pins σ Q) X.xe s
def CallR (X : Cx) (f : Value) (r : List V → Hp → VK → Prop) : Prop :=
  ∀ (pins : List (Addr × Obj)) (s : Shared) (σ : St) (H : Hp) (xs : List V) (us : List Value) (Q : VK), Inv X pins σ H s → Vals xs us → r xs H Q →
    wpAny (model X.prog X.w) X.A (call f us) (EP X pins σ Q) X.xe s
def tOp (r : R2) (ta tb : TE) : TE := fun σ H Q => ta σ H fun x H1 => tb σ H1 fun y H2 => r x y H2 Q
def rI (C : Int → Int → Prop) (g : Int → Int → V) : R2 := fun x y H Q => ∃ i j, x = .int i ∧ y = .int j ∧ C i j ∧ Q (g i j) H
def rI0 (g : Int → Int → V) : R2 := fun x y H Q => ∃ i j, x = .int i ∧ y = .int j ∧ Q (g i j) H
section
variable {X : Cx} {a b c : Expr} {ta tb tc : TE} {pos : Pos}

theorem binT (ha : PE X a ta) (hb : PE X b tb) {pins : List (Addr × Obj)} {s : Shared} {σ : St} {H : Hp} {R : V → V → Hp → Prop} (I : Inv X pins σ H s)
    (h : ta σ H fun x H1 => tb σ H1 fun y H2 => R x y H2) {Q : Value → Shared → Prop} {f : Value → Value → Sem Value}
    (hf : ∀ v u s2 x y H2, Inv X pins σ H2 s2 → RelV x v → RelV y u → R x y H2 → wpAny (model X.prog X.w) X.A (f v u) Q X.xe s2) :
    wpAny (model X.prog X.w) X.A (eval a X.env) (fun v s₁ => wpAny (model X.prog X.w) X.A (eval b X.env) (fun u s₂ => wpAny (model X.prog X.w) X.A (f v u) Q X.xe s₂) X.xe s₁) X.xe s := by
  refine thn (ha pins s σ H _ I h) fun v s1 ⟨x, H1, I1, r1, q1⟩ => ?_
  refine thn (hb pins s1 σ H1 _ I1 q1) fun u s2 ⟨y, H2, I2, r2, q2⟩ => ?_
  exact hf v u s2 x y H2 I2 r1 r2 q2

theorem pe_op {op : Operator} {r : R2} (ho : OpR X (binaryOp op) r) (ha : PE X a ta) (hb : PE X b tb) : PE X (.BinOp a op b pos) (tOp r ta tb) := by
  intro pins s σ H Q I h
  exact wpAny_BinOp (binT ha hb I h fun v u s2 x y H2 I2 rx ry q => ho pins s2 σ H2 x y v u Q I2 rx ry q)
theorem opI {f : Value → Value → Sem Value} {C : Int → Int → Prop} {g : Int → Int → Int}
    (rule : ∀ (i j : Int) (t u : Tok) (s : Shared) (Q : Value → Shared → Prop) (E : Value → Shared → Prop), C i j → Q (.int (g i j) s.toks) { s with toks := s.toks + 1 } → wpAny (model X.prog X.w) X.A (f (.int i t) (.int j u)) Q E s) :
    OpR X f (rI C fun i j => .int (g i j)) := by
  intro pins s σ H x y v u Q I rx ry h
  obtain ⟨i, j, rfl, rfl, hc, q⟩ := h
  obtain ⟨t, rfl⟩ := rx
  obtain ⟨t', rfl⟩ := ry
  exact rule i j t t' s _ _ hc ⟨.int (g i j), H, I.tok _, ⟨_, rfl⟩, q⟩
theorem opI0 {f : Value → Value → Sem Value} {g : Int → Int → Int}
    (rule : ∀ (i j : Int) (t u : Tok) (s : Shared) (Q : Value → Shared → Prop) (E : Value → Shared → Prop), Q (.int (g i j) s.toks) { s with toks := s.toks + 1 } → wpAny (model X.prog X.w) X.A (f (.int i t) (.int j u)) Q E s) :
    OpR X f (rI0 fun i j => .int (g i j)) := by
  intro pins s σ H x y v u Q I rx ry h
  obtain ⟨i, j, rfl, rfl, q⟩ := h
  obtain ⟨t, rfl⟩ := rx
  obtain ⟨t', rfl⟩ := ry
  exact rule i j t t' s _ _ ⟨.int (g i j), H, I.tok _, ⟨_, rfl⟩, q⟩
theorem opB0 {f : Value → Value → Sem Value} {g : Int → Int → Bool}
    (rule : ∀ (i j : Int) (t u : Tok) (s : Shared) (Q : Value → Shared → Prop) (E : Value → Shared → Prop), Q (.bool (g i j)) s → wpAny (model X.prog X.w) X.A (f (.int i t) (.int j u)) Q E s) :
    OpR X f (rI0 fun i j => .bl (g i j)) := by
  intro pins s σ H x y v u Q I rx ry h
  obtain ⟨i, j, rfl, rfl, q⟩ := h
  obtain ⟨t, rfl⟩ := rx
  obtain ⟨t', rfl⟩ := ry
  exact rule i j t t' s _ _ ⟨.bl (g i j), H, I, rfl, q⟩

def CDiv (i j : Int) : Prop := 0 < j ∧ j < 1073741824
def CMul (i j : Int) : Prop := (-(2 ^ 64) < i ∧ i < 2 ^ 64) ∨ (-(2 ^ 64) < j ∧ j < 2 ^ 64)
theorem CMul.ok {i j : Int} (h : CMul i j) : IntMulOk i j := by
  rcases h with ⟨h1, h2⟩ | ⟨h1, h2⟩
  · exact .of_left (intBits_le_64 h1 h2)
  · exact .of_right (intBits_le_64 h1 h2)
theorem op_add : OpR X (binaryOp .Add) (rI0 fun i j => .int (i + j)) := opI0 fun _ _ _ _ _ _ _ q => add_int q
theorem op_fdiv : OpR X (binaryOp .FloorDiv) (rI CDiv fun i j => .int (i / j)) := opI fun i j _ _ _ _ _ hc q => by
  have h1 : (0 : Int) < j := hc.1
  have h2 : j < 1073741824 := hc.2
  exact floordiv_int (by omega) (by rw [Int.fdiv_eq_ediv_of_nonneg i (by omega)]; exact q) (.inl (PyProof.noPylong_small (by omega)))
theorem op_mod : OpR X (binaryOp .Mod) (rI (fun _ j => 0 < j) fun i j => .int (i % j)) := opI fun i j _ _ _ _ _ hc q => by
  have h1 : (0 : Int) < j := hc
  exact mod_int' (by omega) (by rw [Int.fmod_eq_emod_of_nonneg i (by omega)]; exact q)
end

def scal : V → V → Bool
  | .non, .non => true | .non, .int _ => true | .int _, .non => true | .non, .bl _ => true | .bl _, .non => true | .non, .str _ => true | .str _, .non => true
  | .int _, .int _ => true | .bl _, .bl _ => true | .str _, .str _ => true | .byt _, .byt _ => true
  | .int _, .str _ => true | .str _, .int _ => true | .bl _, .str _ => true | .str _, .bl _ => true
  | _, _ => false
def rEq : R2 := fun x y H Q => scal x y = true ∧ Q (.bl (decide (x = y))) H
def rNe : R2 := fun x y H Q => scal x y = true ∧ Q (.bl (!decide (x = y))) H

theorem dec_int {i j : Int} : decide (V.int i = V.int j) = (i == j) := by
  rw [Bool.eq_iff_iff]
  simp
theorem dec_bl {i j : Bool} : decide (V.bl i = V.bl j) = (i == j) := by
  rw [Bool.eq_iff_iff]
  simp
theorem dec_str {i j : Str} : decide (V.str i = V.str j) = (i == j) := by
  rw [Bool.eq_iff_iff]
  simp
theorem dec_byt {i j : Array UInt8} : decide (V.byt i = V.byt j) = (i.toList == j.toList) := by
  rw [Bool.eq_iff_iff]
  cases i
  cases j
  simp

section
variable {X : Cx} {a b c : Expr} {ta tb tc : TE} {pos : Pos}
theorem fin_bl {pins : List (Addr × Obj)} {σ : St} {H : Hp} {s : Shared} {Q : VK} {k k' : Bool} (I : Inv X pins σ H s) (q : Q (.bl k) H) (e : k = k') : EP X pins σ Q (.bool k') s := by
  subst e
  exact ⟨.bl k, H, I, rfl, q⟩
theorem op_eq : OpR X (compareOp .Eq) rEq := by
  intro pins s σ H x y v u Q I rx ry h
  obtain ⟨hs, q⟩ := h
  cases x with
  | non =>
    cases rx
    cases y with
    | non => cases ry; exact PySem.EqNone.eq_none_none (fin_bl I q (by simp))
    | bl j => cases ry; exact PySem.EqNone.eq_none_bool (fin_bl I q (by simp))
    | int j => obtain ⟨t', rfl⟩ := ry; exact PySem.EqNone.eq_none_int (fin_bl I q (by simp))
    | str j => obtain ⟨t', rfl⟩ := ry; exact PySem.EqNone.eq_none_str (fin_bl I q (by simp))
    | _ => exact absurd (show false = true from hs) Bool.false_ne_true
  | bl i =>
    cases rx
    cases y with
    | non => cases ry; exact PySem.EqNone.eq_bool_none (fin_bl I q (by simp))
    | bl j => cases ry; exact eq_bool (fin_bl I q dec_bl)
    | str j => obtain ⟨t', rfl⟩ := ry; exact PySem.EqMixed.eq_bool_str (fin_bl I q (by simp))
    | _ => exact absurd (show false = true from hs) Bool.false_ne_true
  | int i =>
    obtain ⟨t, rfl⟩ := rx
    cases y with
    | non => cases ry; exact PySem.EqNone.eq_int_none (fin_bl I q (by simp))
    | int j => obtain ⟨t', rfl⟩ := ry; exact eq_int (fin_bl I q dec_int)
    | str j => obtain ⟨t', rfl⟩ := ry; exact PySem.EqMixed.eq_int_str (fin_bl I q (by simp))
    | _ => exact absurd (show false = true from hs) Bool.false_ne_true
  | str i =>
    obtain ⟨t, rfl⟩ := rx
    cases y with
    | non => cases ry; exact PySem.EqNone.eq_str_none (fin_bl I q (by simp))
    | bl j => cases ry; exact PySem.EqMixed.eq_str_bool (fin_bl I q (by simp))
    | int j => obtain ⟨t', rfl⟩ := ry; exact PySem.EqMixed.eq_str_int (fin_bl I q (by simp))
    | str j => obtain ⟨t', rfl⟩ := ry; exact eq_str (fin_bl I q dec_str)
    | _ => exact absurd (show false = true from hs) Bool.false_ne_true
  | byt i =>
    obtain ⟨t, rfl⟩ := rx
    cases y with
    | byt j => obtain ⟨t', rfl⟩ := ry; exact PySem.W.eq_bytes (fin_bl I q dec_byt)
    | _ => exact absurd (show false = true from hs) Bool.false_ne_true
  | _ => cases y <;> exact absurd (show false = true from hs) Bool.false_ne_true
theorem op_ne : OpR X (compareOp .NotEq) rNe := by
  intro pins s σ H x y v u Q I rx ry h
  obtain ⟨hs, q⟩ := h
  cases x with
  | non =>
    cases rx
    cases y with
    | non => cases ry; exact PySem.EqNone.ne_none_none (fin_bl I q (by simp))
    | bl j => cases ry; exact PySem.EqNone.ne_none_bool (fin_bl I q (by simp))
    | int j => obtain ⟨t', rfl⟩ := ry; exact PySem.EqNone.ne_none_int (fin_bl I q (by simp))
    | str j => obtain ⟨t', rfl⟩ := ry; exact PySem.EqNone.ne_none_str (fin_bl I q (by simp))
    | _ => exact absurd (show false = true from hs) Bool.false_ne_true
  | bl i =>
    cases rx
    cases y with
    | non => cases ry; exact PySem.EqNone.ne_bool_none (fin_bl I q (by simp))
    | bl j => cases ry; exact ne_bool (fin_bl I q (congrArg not dec_bl))
    | str j => obtain ⟨t', rfl⟩ := ry; exact PySem.EqMixed.ne_bool_str (fin_bl I q (by simp))
    | _ => exact absurd (show false = true from hs) Bool.false_ne_true
  | int i =>
    obtain ⟨t, rfl⟩ := rx
    cases y with
    | non => cases ry; exact PySem.EqNone.ne_int_none (fin_bl I q (by simp))
    | int j => obtain ⟨t', rfl⟩ := ry; exact ne_int (fin_bl I q (congrArg not dec_int))
    | str j => obtain ⟨t', rfl⟩ := ry; exact PySem.EqMixed.ne_int_str (fin_bl I q (by simp))
    | _ => exact absurd (show false = true from hs) Bool.false_ne_true
  | str i =>
    obtain ⟨t, rfl⟩ := rx
    cases y with
    | non => cases ry; exact PySem.EqNone.ne_str_none (fin_bl I q (by simp))
    | bl j => cases ry; exact PySem.EqMixed.ne_str_bool (fin_bl I q (by simp))
    | int j => obtain ⟨t', rfl⟩ := ry; exact PySem.EqMixed.ne_str_int (fin_bl I q (by simp))
    | str j => obtain ⟨t', rfl⟩ := ry; exact ne_str (fin_bl I q (congrArg not dec_str))
    | _ => exact absurd (show false = true from hs) Bool.false_ne_true
  | byt i =>
    obtain ⟨t, rfl⟩ := rx
    cases y with
    | byt j => obtain ⟨t', rfl⟩ := ry; exact PySem.W.ne_bytes (fin_bl I q (congrArg not dec_byt))
    | _ => exact absurd (show false = true from hs) Bool.false_ne_true
  | _ => cases y <;> exact absurd (show false = true from hs) Bool.false_ne_true

theorem op_lt : OpR X (compareOp .Lt) (rI0 fun i j => .bl (decide (i < j))) := opB0 fun _ _ _ _ _ _ _ q => lt_int q
theorem op_le : OpR X (compareOp .LtE) (rI0 fun i j => .bl (decide (i ≤ j))) := opB0 fun _ _ _ _ _ _ _ q => le_int q
theorem op_gt : OpR X (compareOp .Gt) (rI0 fun i j => .bl (decide (j < i))) := opB0 fun _ _ _ _ _ _ _ q => gt_int q
theorem op_ge : OpR X (compareOp .GtE) (rI0 fun i j => .bl (decide (j ≤ i))) := opB0 fun _ _ _ _ _ _ _ q => ge_int q
theorem op_notN : OpR X (compareOp .IsNot) (fun x y H Q => y = .non ∧ Q (.bl (!decide (x = .non))) H) := by
  intro pins s σ H x y v u Q I rx ry h
  obtain ⟨rfl, q⟩ := h
  cases ry
  refine isnot_none_gen (fin_bl I q ?_)
  cases x <;> first
    | (cases rx; rfl)
    | (obtain ⟨t, rfl⟩ := rx; rfl)

theorem nomark (b : Expr) {op : CmpOp} (h : op ≠ .In := by decide) (h2 : op ≠ .NotIn := by decide) : behindInMarks op b = false := by
  have e1 : (op == CmpOp.In) = false := by cases op <;> first | rfl | exact absurd rfl h
  have e2 : (op == CmpOp.NotIn) = false := by cases op <;> first | rfl | exact absurd rfl h2
  cases b <;> simp [behindInMarks, e1, e2]
theorem pe_cmpR {op : CmpOp} {r : R2} (ho : OpR X (compareOp op) r) (ha : PE X a ta) (hb : PE X b tb) (hm : behindInMarks op b = false) : PE X (.Compare a [op] [b] pos) (tOp r ta tb) := by
  intro pins s σ H Q I h
  exact wpAny_Compare1 (binT ha hb I h fun v u s2 x y H2 I2 rx ry q => ho pins s2 σ H2 x y v u Q I2 rx ry q) hm
def tTest (t : TE) : TT := fun σ H Q => t σ H fun x H' => ∃ k, x = .bl k ∧ Q k H'
theorem pt_cmpR {op : CmpOp} {r : R2} (ho : OpR X (compareOp op) r) (ha : PE X a ta) (hb : PE X b tb) (hm : behindInMarks op b = false) : PT X (.Compare a [op] [b] pos) (tTest (tOp r ta tb)) := by
  intro pins s σ H Q I h
  refine wpAny_isTrue_Compare1 (thn (ha pins s σ H _ I h) fun v s1 ⟨x, H1, I1, r1, q1⟩ => thn (hb pins s1 σ H1 _ I1 q1) fun u s2 ⟨y, H2, I2, r2, q2⟩ =>
    thn (ho pins s2 σ H2 x y v u _ I2 r1 r2 q2) fun c s3 ⟨z, H3, I3, r3, k, e, q3⟩ => ?_) hm
  subst e
  cases r3
  exact wpAny_truthy_bool ⟨H3, I3, q3⟩
theorem line63 : (sizeLine : Nat) < 2 ^ 63 := by rw [sizeLine_eq]; decide
theorem op_add_str : OpR X (binaryOp .Add) (fun x y H Q => ∃ i j, x = .str i ∧ y = .str j ∧ i.length + j.length ≤ sizeLine ∧ Q (.str (i ++ j)) H) := by
  intro pins s σ H x y v u Q I rx ry h
  obtain ⟨i, j, rfl, rfl, hz, q⟩ := h
  obtain ⟨t, rfl⟩ := rx
  obtain ⟨t', rfl⟩ := ry
  exact add_str (fun t' tk => ⟨.str (i ++ j), H, I.tok _, ⟨_, rfl⟩, q⟩) hz
theorem vals1 {x : V} {us : List Value} (r : Vals [x] us) : ∃ u, us = [u] ∧ RelV x u := by
  cases r with
  | cons r1 r2 => cases r2; exact ⟨_, rfl, r1⟩
theorem vals2 {x y : V} {us : List Value} (r : Vals [x, y] us) : ∃ u w', us = [u, w'] ∧ RelV x u ∧ RelV y w' := by
  cases r with
  | cons r1 r2 =>
    cases r2 with
    | cons r3 r4 => cases r4; exact ⟨_, _, rfl, r1, r3⟩
theorem call_max2 (hc : X.calm = true) : CallR X (.builtin "max") (fun xs H Q => ∃ i j, xs = [.int i, .int j] ∧ Q (.int (if j > i then j else i)) H) := by
  intro pins s σ H xs us Q I r h
  obtain ⟨i, j, rfl, q⟩ := h
  obtain ⟨u, w', rfl, ⟨t, rfl⟩, ⟨t', rfl⟩⟩ := vals2 r
  refine max_two_ints (I.ok.hd hc) fun h' tk k => ⟨_, H, I.kept k, ?_, q⟩
  by_cases hj : j > i
  · rw [if_pos hj, if_pos hj]; exact ⟨_, rfl⟩
  · rw [if_neg hj, if_neg hj]; exact ⟨_, rfl⟩
theorem call_str_int : CallR X (.type "str") (fun xs H Q => ∃ i, xs = [.int i] ∧ i.natAbs.log2 < 1920 ∧ Q (.str (toString i)) H) := by
  intro pins s σ H xs us Q I r h
  obtain ⟨i, rfl, hz, q⟩ := h
  obtain ⟨u, rfl, t, rfl⟩ := vals1 r
  exact PySem.P.str_of_int hz ⟨.str _, H, I.tok _, ⟨_, rfl⟩, q⟩
end
end L2

namespace L2
open PySem PySem.Spec PyProof.Rows

structure ObjM (h : Heap) (x dx C : Addr) (mA : Str → Option Value) : Prop where
  obj : h.get? x = some (PySem.W.instObj C dx)
  ns : h.Ns1 dx mA
  ne : dx ≠ x

theorem lookIn_ns {h : Heap} {dx : Addr} {mA : Str → Option Value} (n : h.Ns1 dx mA) : ∃ od, h.get? dx = some od ∧ ∀ name, PySem.W.lookIn name od = some (mA name) := by
  obtain ⟨o, es, ep, ho, hd, hk, _, hm⟩ := n
  refine ⟨o, ho, fun name => ?_⟩
  have e := hm name
  unfold nsFind findBy at e
  rw [← Array.find?_toList] at e
  unfold PySem.W.lookIn
  rw [hd]
  dsimp only
  split
  · rename_i y q
    rw [q] at e
    exact congrArg some e
  · rename_i q
    rw [q] at e
    have a : es.toList.any (·.refKey) = false := by
      rw [List.any_eq_false]
      intro y hy
      obtain ⟨z, t, hkey⟩ := hk y (Array.mem_toList_iff.mp hy)
      simp [DictEntry.refKey, hkey]
    have a' : ¬ es.toList.any (·.refKey) = true := by rw [a]; exact Bool.false_ne_true
    rw [if_neg a']
    exact congrArg some e

theorem ObjM.look {h : Heap} {x dx C : Addr} {mA : Str → Option Value} (I : ObjM h x dx C mA) : ∃ od, PySem.W.InstAt h x (PySem.W.instObj C dx) C (some od) ∧ ∀ name, PySem.W.lookIn name od = some (mA name) :=
  let ⟨od, ho, hl⟩ := lookIn_ns I.ns
  ⟨od, ⟨I.obj, rfl, rfl, ho⟩, hl⟩

section
variable {prog : Program} {w : World} {A : Around} {E : Value → Shared → Prop} {s : Shared} {K : PySem.W.Frag} {x dx C f : Addr} {mA : Str → Option Value} {name : Str} {v : Value}

end

theorem RelO.some_of {v : V} {o : Option Value} (r : RelO (some v) o) : ∃ u, o = some u ∧ RelV v u := by
  cases o with
  | none => exact (show False from r).elim
  | some u => exact ⟨u, rfl, r⟩
theorem RelO.none_of {o : Option Value} (r : RelO none o) : o = none := by
  cases o with
  | none => rfl
  | some u => exact (show False from r).elim
section
variable {P : Program} {w : World} {H H' : Hp} {h h' : Heap} {a C dx : Addr} {fs fs' : List (Str × V)}
theorem ins_get (hok : HOk P w H h) (e : H a = some (.ins C dx fs)) : ∃ mA, ObjM h a dx C mA ∧ (∀ f, RelO (fs.lookup f) (mA f)) ∧ PySem.Within mA (fs.map (·.1)) ∧ fs.length ≤ 1000 ∧ H dx = some (.own a) := by
  obtain ⟨d, z, ne, ob, mA, n, r, q⟩ := (show ObjOk P w H h a (.ins C dx fs) from hok a _ e)
  exact ⟨mA, ⟨ob, n, ne⟩, r, q, z, d⟩
end

structure Cls (K : PySem.W.Frag) (C : Addr) : Prop where
  pg : PySem.W.plainGet K C Str.empty = true
  hd : PySem.W.hasDictIn K C = true
  po : PySem.W.plainOver K C = true
  sa : PySem.W.findIn K (.ref C) "__setattr__" = some (some (.builtin "object.__setattr__"))
theorem Cls.get {K : PySem.W.Frag} {C : Addr} (c : Cls K C) (f : Str) : PySem.W.plainGet K C f = true := c.pg
section
variable {X : Cx} {pins : List (Addr × Obj)} {σ : St} {H : Hp} {s : Shared} {a C dx : Addr} {fs : List (Str × V)} {f : Str} {v : V} {A : Around} {E : Value → Shared → Prop}

end

section
variable {X : Cx} {o e value : Expr} {f : Str} {pos pos' tpos : Pos} {ta tv : TE}
end

section
variable {X : Cx} {pins : List (Addr × Obj)} {σ : St} {H : Hp} {s : Shared} {A : Around} {E : Value → Shared → Prop} {Q : Value → Shared → Prop} {c : Value} {b : Bool}
inductive TyOf (K : PySem.W.Frag) (H : Hp) : V → Value → Prop where
  | non : TyOf K H .non (.type "NoneType")
  | bl (x : Bool) : TyOf K H (.bl x) (.type "bool")
  | int (i : Int) : TyOf K H (.int i) (.type "int")
  | str (x : Str) : TyOf K H (.str x) (.type "str")
  | flt (x : UInt64) : TyOf K H (.flt x) (.type "float")
  | lst {a : Addr} {xs : List V} (e : H a = some (.lst xs)) : TyOf K H (.ref a) (.type "list")
  | frz {a : Addr} {o : Obj} {xs : List V} (e : H a = some (.frz o (.lst xs))) : TyOf K H (.ref a) (.type "list")
  | tup {a : Addr} {xs : List V} (e : H a = some (.tup xs)) : TyOf K H (.ref a) (.type "tuple")
  | dK {a : Addr} {kvs : List (Key × V)} (e : H a = some (.dK kvs)) : TyOf K H (.ref a) (.type "dict")
  | dT {a : Addr} {kvs : List (List Key × V)} (e : H a = some (.dT kvs)) : TyOf K H (.ref a) (.type "dict")
  | ins {a C dx : Addr} {fs : List (Str × V)} (e : H a = some (.ins C dx fs)) (cl : Cls K C) (ha : PySem.W.findIn K (.ref C) "__class__" = some (some (.builtin "object.__class__")))
      (hn : PySem.W.specialIn K (.builtin "object.__class__") "__get__" = some (some (.builtin "getset_descriptor.__get__"))) (htk : PySem.W.takesIn K (.builtin "object.__class__") = some true)
      (hm : PySem.W.mroIn K C (.type "object") = some true) : TyOf K H (.ref a) (.ref C)
theorem isinst_ok {x : V} {u t : Value} (I : Inv X pins σ H s) (rx : RelV x u) (ty : TyOf X.K H x t) (e : PySem.W.kitOne X.K t c = some b) (h : ∀ tk, Q (.bool b) { s with toks := tk }) :
    wpAny (model X.prog X.w) A (call (.builtin "isinstance") [u, c]) Q E s := by
  cases ty with
  | non => cases (show u = Value.none from rx); exact PySem.W.kia_one PySem.W.kitx_none I.kIn True.intro e (fun z => nomatch z) h
  | bl y => cases (show u = Value.bool y from rx); exact PySem.W.kia_one PySem.W.kitx_bool I.kIn True.intro e (fun z => nomatch z) h
  | int i => obtain ⟨t, q⟩ := (show ∃ t, u = Value.int i t from rx); cases q; exact PySem.W.kia_one PySem.W.kitx_int I.kIn True.intro e (fun z => nomatch z) h
  | str y => obtain ⟨t, q⟩ := (show ∃ t, u = Value.str y t from rx); cases q; exact PySem.W.kia_one PySem.W.kitx_str I.kIn True.intro e (fun z => nomatch z) h
  | flt y => obtain ⟨t, q⟩ := (show ∃ t, u = Value.float y t from rx); cases q; exact PySem.W.kia_one PySem.W.kitx_float I.kIn True.intro e (fun z => nomatch z) h
  | @lst a xs ea =>
    cases (show u = Value.ref a from rx)
    obtain ⟨_, _, n, _, h1⟩ := (show ObjOk X.prog X.w H s.heap a (.lst xs) from I.hok a _ ea)
    exact PySem.W.kia_one PySem.W.kitx_list I.kIn ⟨_, h1, rfl⟩ e (fun z => nomatch z) h
  | @frz a ob xs ea =>
    cases (show u = Value.ref a from rx)
    obtain ⟨_, _, _, n, _, h1⟩ := (show ObjOk X.prog X.w H s.heap a (.frz ob (.lst xs)) from I.hok a _ ea)
    exact PySem.W.kia_one PySem.W.kitx_list I.kIn ⟨_, h1, rfl⟩ e (fun z => nomatch z) h
  | @tup a xs ea =>
    cases (show u = Value.ref a from rx)
    obtain ⟨_, _, _, p⟩ := (show ObjOk X.prog X.w H s.heap a (.tup xs) from I.hok a _ ea)
    obtain ⟨o, h1, h2, _⟩ := p
    exact PySem.W.kia_one PySem.W.kitx_tuple I.kIn ⟨o, h1, h2⟩ e (fun z => nomatch z) h
  | @dK a kvs ea =>
    cases (show u = Value.ref a from rx)
    obtain ⟨_, _, vs, _, p⟩ := (show ObjOk X.prog X.w H s.heap a (.dK kvs) from I.hok a _ ea)
    obtain ⟨o, es, ep, h1, h2, _⟩ := p
    exact PySem.W.kia_one PySem.W.kitx_dict I.kIn ⟨o, h1, h2.1⟩ e (fun z => nomatch z) h
  | @dT a kvs ea =>
    cases (show u = Value.ref a from rx)
    obtain ⟨_, _, xs, _, o, es, ep, h1, h2, _⟩ := (show ObjOk X.prog X.w H s.heap a (.dT kvs) from I.hok a _ ea)
    exact PySem.W.kia_one PySem.W.kitx_dict I.kIn ⟨o, h1, h2.1⟩ e (fun z => nomatch z) h
  | @ins a C dx fs ea cl ha hn htk hm =>
    cases (show u = Value.ref a from rx)
    obtain ⟨mA, O, _⟩ := ins_get I.hok ea
    obtain ⟨od, J, _⟩ := O.look
    exact PySem.W.kia_one (PySem.W.kitx_own (cl.get _) cl.hd ha hn htk hm) I.kIn J e (fun z => nomatch z) h
end
end L2

namespace L2
open PySem PySem.Spec PyProof.Rows

structure Room (k : Nat) (A : Around) : Prop where
  hd : A.handled = none
  dp : A.depth + 3 * k + 5 < recursionLimit
  un : A.units + 16 * k + 200 < cLine
theorem Room.mono {j k : Nat} {A : Around} (r : Room k A) (h : j ≤ k) : Room j A := ⟨r.hd, by have := r.dp; omega, by have := r.un; omega⟩
theorem Room.deeper {k : Nat} {A : Around} (r : Room (k + 1) A) (env : Env) : Room k (A.deeper env) :=
  ⟨r.hd, by have := r.dp; show A.depth + 1 + 3 * k + 5 < _; omega, by have := r.un; show A.units + 3 + 16 * k + 200 < _; omega⟩
theorem Room.in1 {k : Nat} {A : Around} (r : Room (k + 1) A) : Room k A.in1 :=
  ⟨r.hd, by have := r.dp; show A.depth + 3 * k + 5 < _; omega, by have := r.un; show A.units + 1 + 16 * k + 200 < _; omega⟩
theorem Room.depth {k : Nat} {A : Around} (r : Room k A) : A.depth < recursionLimit := by have := r.dp; omega
theorem Room.units {k : Nat} {A : Around} (r : Room k A) : A.units + 64 < cLine := by have := r.un; omega
def tNil : TA := fun _ H Q => Q [] H
def tCons (ta : TE) (tr : TA) : TA := fun σ H Q => ta σ H fun x H1 => tr σ H1 fun xs H2 => Q (x :: xs) H2
section
variable {X : Cx} {e : Expr} {es : List Expr} {te : TE} {t : TA} {pos : Pos}
theorem pa_nil : PA X [] tNil := fun _ _ _ _ H Q I h => Calls.spliced_nil ⟨[], H, I, .nil, h⟩
theorem pa_cons (ha : PE X e te) (hr : PA X es t) (hs : starEach (e :: es) X.env = (false, eval e X.env) :: starEach es X.env := by rfl) : PA X (e :: es) (tCons te t) := by
  intro pos pins s σ H Q I h
  rw [hs]
  show wpAny _ _ (spliced ((false, eval e X.env) :: backTo pos (starEach es X.env))) _ _ s
  refine Calls.spliced_cons (thn (ha pins s σ H _ I h) fun u s1 ⟨x, H1, I1, r1, q1⟩ => ?_)
  exact thn (hr pos pins s1 σ H1 _ I1 q1) fun us s2 ⟨xs, H2, I2, r2, q2⟩ => ⟨x :: xs, H2, I2, .cons r1 r2, q2⟩

def tTup (t : TA) : TE := fun σ H Q => t σ H fun xs H1 => xs.length ≤ sizeLine ∧ ∀ p, H1 p = none → Q (.ref p) (upd H1 p (.tup xs))
def tLst (t : TA) : TE := fun σ H Q => t σ H fun xs H1 => xs.length ≤ sizeLine ∧ ∀ p, H1 p = none → Q (.ref p) (upd H1 p (.lst xs))
theorem pe_tup {x1} (h : PA X es t) : PE X (.Tuple es x1 pos) (tTup t) := by
  intro pins s σ H Q I hq
  refine wpAny_Tuple_spliced (thn (h pos pins s σ H _ I hq) fun us s1 ⟨xs, H1, I1, r, z, q⟩ => ⟨by rw [← r.length]; exact z, ?_⟩)
  have hf : H1 s1.heap.objs.size = none := I1.hok.fresh (Nat.le_refl _)
  refine ⟨.ref s1.heap.objs.size, upd H1 s1.heap.objs.size (.tup xs), I1.laid (t' := s1.toks) (fun b u e => Heap.get?_push_of_some _ e) (Nat.le_refl _) ?_, rfl, q _ hf⟩
  exact ⟨z, us, r, ⟨_, Heap.get?_push_size _ rfl, rfl, _, rfl⟩⟩
theorem pe_lst (h : PA X es t) : PE X (.List es pos) (tLst t) := by
  intro pins s σ H Q I hq
  refine wpAny_List_spliced (thn (h pos pins s σ H _ I hq) fun us s1 ⟨xs, H1, I1, r, z, q⟩ => ⟨by rw [← r.length]; exact z, ?_⟩)
  have hf : H1 s1.heap.objs.size = none := I1.hok.fresh (Nat.le_refl _)
  refine ⟨.ref s1.heap.objs.size, upd H1 s1.heap.objs.size (.lst xs), I1.laid (t' := s1.toks) (fun b u e => Heap.get?_push_of_some _ e) (Nat.le_refl _) ?_, rfl, q _ hf⟩
  exact ⟨z, us, 0, r, Heap.get?_push_size _ rfl⟩
end

abbrev Sp := List V → Hp → VK → XK → Prop
abbrev CXT := List Env → Hp → Shared → XK → Value → Shared → Prop

structure Env0 (P : Program) (w : World) (K : PySem.W.Frag) (mg : Str → Option Value) (base : Heap) (A : Around) (outer : List Env) (s : Shared) (H : Hp) : Prop where
  frames : A.frames = some outer
  mod : Mod K mg base
  bs : ∀ b o, base.get? b = some o → s.heap.get? b = some o ∧ H b = none
  bsz : base.objs.size ≤ s.heap.objs.size
  funs : s.heap.FunFrames base outer
  frf : ∀ b ∈ frs outer, H b = none
  hok : HOk P w H s.heap
  bare : AllBare s.gens
def CE (outer : List Env) (P : Program) (w : World) (H : Hp) (s : Shared) (Q : VK) (u : Value) (s' : Shared) : Prop :=
  ∃ v H', s'.os = s.os ∧ AllBare s'.gens ∧ Un (frs outer) [] H H' s.heap s'.heap ∧ HOk P w H' s'.heap ∧ RelV v u ∧ Q v H'
def CR (CX : CXT) (outer : List Env) (P : Program) (w : World) (H : Hp) (s : Shared) (Q : VK) (E : XK) (r : Result) (s' : Shared) : Prop :=
  match r with
  | .ok (.ret u) => CE outer P w H s Q u s'
  | .ok _ => False
  | .error e => CX outer H s E e s'
structure FnOk (P : Program) (w : World) (K : PySem.W.Frag) (mg : Str → Option Value) (base : Heap) (CX : CXT) (k : Nat) (f : Addr) (fd : FuncData) (ps : List Str) (sp : Sp) : Prop where
  len : ∀ vs H Q E, sp vs H Q E → vs.length = ps.length
  run : ∀ (A : Around) (outer : List Env) (s : Shared) (H : Hp) (args : Args) (us : List Value) (vs : List V) (Q : VK) (E : XK), Room k A → Env0 P w K mg base A outer s H → BindsTo s fd args (ps.zip us) → Vals vs us → sp vs H Q E →
    codeAny (model P w) A (.call (.ref f) args) (CR CX outer P w H s Q E) s
theorem FnOk.mono {P : Program} {w : World} {K : PySem.W.Frag} {mg : Str → Option Value} {base : Heap} {CX : CXT} {j k : Nat} {f : Addr} {fd : FuncData} {ps : List Str} {sp : Sp} (F : FnOk P w K mg base CX j f fd ps sp) (h : j ≤ k) :
    FnOk P w K mg base CX k f fd ps sp := ⟨F.len, fun A outer s H args us vs Q E hr => F.run A outer s H args us vs Q E (hr.mono h)⟩
theorem FnOk.imp {P : Program} {w : World} {K : PySem.W.Frag} {mg : Str → Option Value} {base : Heap} {CX : CXT} {k : Nat} {f : Addr} {fd : FuncData} {ps : List Str} {sp sp' : Sp} (F : FnOk P w K mg base CX k f fd ps sp)
    (h : ∀ vs H Q E, sp' vs H Q E → sp vs H Q E) : FnOk P w K mg base CX k f fd ps sp' :=
  ⟨fun vs H Q E q => F.len vs H Q E (h _ _ _ _ q), fun A outer s H args us vs Q E hr he hb hv hs => F.run A outer s H args us vs Q E hr he hb hv (h _ _ _ _ hs)⟩

theorem Env0.in1 {P : Program} {w : World} {K : PySem.W.Frag} {mg : Str → Option Value} {base : Heap} {A : Around} {outer : List Env} {s : Shared} {H : Hp} (e : Env0 P w K mg base A outer s H) :
    Env0 P w K mg base A.in1 outer s H := ⟨e.frames, e.mod, e.bs, e.bsz, e.funs, e.frf, e.hok, e.bare⟩

section
variable {X : Cx} {pins : List (Addr × Obj)} {σ : St} {H : Hp} {s s' : Shared}
theorem Inv.env0 (I : Inv X pins σ H s) : Env0 X.prog X.w X.K X.mg X.base X.A X.stack s H :=
  ⟨I.ok.frames, I.ok.mod, I.bs, Nat.le_trans I.ok.bsz I.sz, I.stack, I.stkFree, I.hok, I.bare⟩
theorem Inv.after {Q : VK} {u : Value} (I : Inv X pins σ H s) (h : CE X.stack X.prog X.w H s Q u s') : EP X pins σ Q u s' := by
  obtain ⟨v, H', os, bare, un, hok, r, q⟩ := h
  obtain ⟨hh, g, d, t, os'⟩ := s'
  obtain rfl : os' = s.os := os
  exact ⟨v, H', I.call (h' := hh) (g' := g) (d' := d) (t' := t) (ch := []) un hok bare (fun b z => absurd z (by simp)), r, q⟩
end

def tCall (sp : Sp) (dvs : List V) (E : XK) (t : TA) : TE := fun σ H Q => t σ H fun vs H1 => sp (vs ++ dvs) H1 Q E
def Binds (K : PySem.W.Frag) (fd : FuncData) (ps : List Str) (ds : List Value) : Prop :=
  ∀ (s : Shared) (us : List Value), K.In s.heap → (us ++ ds).length = ps.length → BindsTo s fd ⟨us, []⟩ (ps.zip (us ++ ds))
theorem Binds.all {K : PySem.W.Frag} {fd : FuncData} {ps : List Str} (h : ∀ us : List Value, us.length = ps.length → bindArgs fd ⟨us, []⟩ = pure (ps.zip us)) : Binds K fd ps [] := fun s us _ hl => by
  rw [List.append_nil] at hl ⊢
  exact .of_eq (h us hl)

def Passes (CX : CXT) (X : Cx) (E : XK) : Prop := ∀ (pins : List (Addr × Obj)) (σ : St) (H : Hp) (s : Shared) (e : Value) (s' : Shared), Inv X pins σ H s → CX X.stack H s E e s' → X.xe e s'

section
variable {X : Cx} {CX : CXT} {k : Nat} {f C : Addr} {fd : FuncData} {ps : List Str} {sp : Sp} {dvs : List V} {ds : List Value} {E : XK} {x m : Str} {p pos apos : Pos} {e o : Expr} {es : List Expr} {ta : TE} {t : TA}

theorem run_fn {pins : List (Addr × Obj)} {σ : St} {H : Hp} {s : Shared} {Q : VK} {us : List Value} {vs : List V} (F : FnOk X.prog X.w X.K X.mg X.base CX k f fd ps sp) (hr : Room k X.A) (hb : Binds X.K fd ps ds) (hd : Vals dvs ds) (hx : Passes CX X E)
    (I : Inv X pins σ H s) (r : Vals vs us) (h : sp (vs ++ dvs) H Q E) : wpAny (model X.prog X.w) X.A (call (.ref f) us) (EP X pins σ Q) X.xe s := by
  have r2 : Vals (vs ++ dvs) (us ++ ds) := r.append hd
  have hl : (us ++ ds).length = ps.length := by rw [← r2.length]; exact F.len _ _ _ _ h
  refine wpAny_call (codeAny_mono (F.run X.A X.stack s H ⟨us, []⟩ (us ++ ds) (vs ++ dvs) Q E hr I.env0 (hb s us I.kIn hl) r2 h) fun r s' hq => ?_)
  cases r with
  | error e => exact hx pins σ H s e s' I hq
  | ok fl =>
    cases fl with
    | ret u => exact I.after hq
    | next => exact False.elim hq
    | brk => exact False.elim hq
    | cont => exact False.elim hq

theorem pe_call (F : FnOk X.prog X.w X.K X.mg X.base CX k f fd ps sp) (hr : Room k X.A) (hg : Gl X x) (hm : X.mg x = some (.ref f)) (hk : PySem.W.keepIn X.K (.ref f) = true) (hb : Binds X.K fd ps ds) (hd : Vals dvs ds) (hx : Passes CX X E)
    (ha : PA X (e :: es) t) (hdb : (x == ("__debug__" : Str)) = false := by decide) (he : starEach (e :: es) X.env = (false, eval e X.env) :: starEach es X.env := by rfl) (hpl : (backTo pos (starEach es X.env)).any (·.1) = false := by rfl) :
    PE X (.Call (.Name x p) (e :: es) [] pos) (tCall sp dvs E t) := by
  intro pins s σ H Q I h
  refine wpAny_Call_Name_kw (ld_glob I hg hm ?_ hdb)
  refine PySem.W.callWith_K (h₀ := X.base) I.ok.mod.kin hk (thn (ha pos pins s σ H _ I h) fun us s1 ⟨vs, H1, I1, r, q⟩ => ⟨I1.kIn, ?_⟩) he hpl
  exact run_fn F hr hb hd hx I1 r q
end

section
variable {X : Cx} {CX : CXT} {k : Nat} {f C : Addr} {fd : FuncData} {ps ks : List Str} {sp : Sp} {E : XK} {x m : Str} {p pos apos kpos : Pos} {e o : Expr} {es : List Expr} {kws : List Keyword} {te ta : TE} {t tk : TA} {nm : Option Str}
variable {g : List Value → List Value → List Value} {gV : List V → List V → List V}
end

structure FnScope (N P : List Str) (sc : Scope) : Prop where
  kind : sc.kind = .function
  co : sc.isCoroutine = false
  gen : sc.isGenerator = false
  nd : N.Nodup
  pre : N.take P.length = P
  par : ∀ x ∈ P, sc.names.lookup x = some .local ∨ sc.names.lookup x = some .cell
  nofree : ∀ y ∈ sc.names, y.2 ≠ .free

theorem bindL_out {kindOf : Str → Option NameKind} {x : Str} : ∀ {binds : List (Str × Value)} {m : Str → Option Value}, (∀ v, (x, v) ∉ binds) → bindL kindOf binds m x = m x
  | [], _, _ => rfl
  | (n, v) :: r, m, h => by
    unfold bindL
    rw [bindL_out fun w hw => h w (List.mem_cons_of_mem _ hw)]
    split
    · have : x ≠ n := by rintro rfl; exact h v List.mem_cons_self
      simp [this]
    · rfl
theorem bindC_out {kindOf : Str → Option NameKind} {x : Str} : ∀ {binds : List (Str × Value)} {m : Str → Option Value}, (∀ v, (x, v) ∉ binds) → bindC kindOf binds m x = m x
  | [], _, _ => rfl
  | (n, v) :: r, m, h => by
    unfold bindC
    rw [bindC_out fun w hw => h w (List.mem_cons_of_mem _ hw)]
    split
    · rfl
    · have : x ≠ n := by rintro rfl; exact h v List.mem_cons_self
      simp [this]
theorem bindL_get {kindOf : Str → Option NameKind} {x : Str} {v : Value} : ∀ {P : List Str} {vs : List Value} {i : Nat} {m : Str → Option Value}, P.Nodup → P[i]? = some x → vs[i]? = some v → kindOf x = some .local →
    bindL kindOf (P.zip vs) m x = some v
  | [], _, _, _, _, h, _, _ => by simp at h
  | _ :: _, [], _, _, _, _, h, _ => by simp at h
  | p :: P, w :: vs, 0, m, nd, h1, h2, hk => by
    simp at h1 h2; subst h1; subst h2
    show bindL kindOf ((p, w) :: P.zip vs) m p = _
    unfold bindL
    rw [bindL_out fun v hv => (List.nodup_cons.mp nd).1 (List.of_mem_zip hv).1, if_pos hk]
    simp
  | p :: P, w :: vs, i + 1, m, nd, h1, h2, hk => by
    show bindL kindOf ((p, w) :: P.zip vs) m x = _
    unfold bindL
    exact bindL_get (i := i) (List.nodup_cons.mp nd).2 (by simpa using h1) (by simpa using h2) hk
theorem bindC_get {kindOf : Str → Option NameKind} {x : Str} {v : Value} : ∀ {P : List Str} {vs : List Value} {i : Nat} {m : Str → Option Value}, P.Nodup → P[i]? = some x → vs[i]? = some v → kindOf x ≠ some .local →
    bindC kindOf (P.zip vs) m x = some v
  | [], _, _, _, _, h, _, _ => by simp at h
  | _ :: _, [], _, _, _, _, h, _ => by simp at h
  | p :: P, w :: vs, 0, m, nd, h1, h2, hk => by
    simp at h1 h2; subst h1; subst h2
    show bindC kindOf ((p, w) :: P.zip vs) m p = _
    unfold bindC
    rw [bindC_out fun v hv => (List.nodup_cons.mp nd).1 (List.of_mem_zip hv).1, if_neg hk]
    simp
  | p :: P, w :: vs, i + 1, m, nd, h1, h2, hk => by
    show bindC kindOf ((p, w) :: P.zip vs) m x = _
    unfold bindC
    exact bindC_get (i := i) (List.nodup_cons.mp nd).2 (by simpa using h1) (by simpa using h2) hk

def start (N : List Str) (vs : List V) : St := vs.map some ++ List.replicate (N.length - vs.length) none

def cxOf (CX : CXT) (P : Program) (w : World) (K : PySem.W.Frag) (mg : Str → Option Value) (base : Heap) (N : List Str) (qual : Str) (scope : Scope) (f : Addr) (cd : Value) (A : Around) (outer : List Env) (s : Shared) (H : Hp) (E : XK) : Cx where
  prog := P
  w := w
  K := K
  mg := mg
  base := base
  A := A.deeper (envOfC qual scope s.heap.objs.size f cd)
  N := N
  s₀ := s
  H₀ := H
  env := envOfC qual scope s.heap.objs.size f cd
  outer := outer
  stack := envOfC qual scope s.heap.objs.size f cd :: outer
  ex := []
  calm := true
  fn := fun _ => true
  pn := []
  xe := fun e s' => wpAny (model P w) (A.deeper (envOfC qual scope s.heap.objs.size f cd)) (leaving (envOfC qual scope s.heap.objs.size f cd) e) (fun _ s'' => CX outer H s E e s'') (fun e' s'' => CX outer H s E e' s'') s'

theorem cell_has {sc : Scope} {n : Nat} {x : Str} (h : sc.names.lookup x = some .cell) : ∃ c, (cellsFrom n sc.names []).lookup x = some c := by
  have q := PySem.W.cellsFrom_some sc.names n [] (.inl h)
  exact Option.isSome_iff_exists.mp q

theorem inv_start {CX : CXT} {P : Program} {w : World} {K : PySem.W.Frag} {mg : Str → Option Value} {base : Heap} {N ps : List Str} {qual : Str} {scope : Scope} {f : Addr} {cd : Value} {A : Around} {outer : List Env} {s s1 : Shared} {H : Hp} {E : XK} {us : List Value} {vs : List V}
    (S : FnScope N ps scope) (hd : A.handled = none) (e0 : Env0 P w K mg base A outer s H) (hl : vs.length = ps.length) (r : Vals vs us)
    (x : InCallC s s.heap.objs.size (bindL (envOfC qual scope s.heap.objs.size f cd).kindOf (ps.zip us) fun _ => none) (cellsFrom (s.heap.objs.size + 1) scope.names []) (bindC (envOfC qual scope s.heap.objs.size f cd).kindOf (ps.zip us) fun _ => none) s1) :
    Inv (cxOf CX P w K mg base N qual scope f cd A outer s H E) [] (start N vs) H s1 := by
  have hpl : ps.length ≤ N.length := by have := congrArg List.length S.pre; rw [List.length_take] at this; omega
  obtain ⟨h1, tk, rfl, hk⟩ := x.done
  have noA : ∀ b : Addr, b ∉ (cxOf CX P w K mg base N qual scope f cd A outer s H E).ex := fun b z => absurd (show b ∈ ([] : List Addr) from z) (by simp)
  refine ⟨⟨e0.mod, S.kind, rfl, rfl, Nat.le_refl _, fun y z c h1 h2 => ?_, fun y hy => ?_, fun y c _ h => ?_, fun _ => hd, Around.frames_deeper e0.frames, .inr ⟨rfl, rfl⟩, fun b z => absurd z (noA b), e0.bs, e0.bsz, fun b _ _ => noA b, fun b z => absurd z (noA b), e0.funs, e0.frf⟩,
    rfl, e0.bare, Un.kept hk, ⟨_, x.toInCall.ns, fun i y v h1 h2 h3 => ?_⟩, fun y c h => ⟨_, x.cell y c h⟩, e0.hok.fresh (Nat.le_refl _), fun y c h => ?_, fun p hp => absurd (show p ∈ ([] : List (Addr × Obj)) from hp) (by simp), e0.hok.kept hk, ?_⟩
  · exact name_of_addr x.apart (PySem.mem_of_lookup h1) (PySem.mem_of_lookup h2)
  · have hy : scope.names.lookup y = some .cell ∨ scope.names.lookup y = some .free := hy
    rcases hy with hy | hy
    · exact cell_has hy
    · exact absurd rfl (S.nofree _ (PySem.mem_of_lookup hy))
  · exact Nat.le_of_lt (x.above y c (PySem.mem_of_lookup h))
  · have hi : i < vs.length := by
      unfold start at h2
      by_cases hi : i < vs.length
      · exact hi
      · rw [List.getElem?_append_right (by simpa using hi)] at h2
        rw [List.getElem?_replicate] at h2
        split at h2 <;> cases h2
    have ha : vs[i]? = some v := by
      unfold start at h2
      rw [List.getElem?_append_left (by simpa using hi), List.getElem?_map] at h2
      cases e : vs[i]? with
      | none => rw [e] at h2; cases h2
      | some a => rw [e] at h2; cases h2; rfl
    obtain ⟨u, hu, rv⟩ := r.get ha
    have hp : ps[i]? = some y := by
      rw [← S.pre, List.getElem?_take_of_lt (by omega)]; exact h1
    have ndP : ps.Nodup := by rw [← S.pre]; exact S.nd.sublist (List.take_sublist _ _)
    refine ⟨u, rv, ?_⟩
    rcases S.par y (List.mem_of_getElem? hp) with k | k
    · exact .inl ⟨k, bindL_get ndP hp hu k⟩
    · obtain ⟨c, e⟩ := cell_has (n := s.heap.objs.size + 1) k
      refine .inr ⟨.inl k, c, e, ?_⟩
      have q := x.cell y c e
      rw [bindC_get ndP hp hu (by show scope.names.lookup y ≠ _; rw [k]; decide)] at q
      exact q
  · exact e0.hok.fresh (Nat.le_of_lt (x.above y c (PySem.mem_of_lookup h)))
  · unfold start
    show _ = N.length
    rw [List.length_append, List.length_map, List.length_replicate]
    omega

theorem fn_of {CX : CXT} {P : Program} {w : World} {K : PySem.W.Frag} {mg : Str → Option Value} {base : Heap} {k : Nat} {f : Addr} {name qual : Str} {params : Arguments} {body : List Stmt} {scope : Scope} {dV kV doc pm cdv ct oc : Value} {an od : Option Addr}
    {osl : Array (Option Value)} {N ps : List Str} {sp : Sp} (lk : K.lookup f = some ⟨oc, od, .func (PySem.W.fnOf name qual params body scope dV kV doc pm an cdv ct), osl⟩) (hcd : PySem.W.codeIn K cdv qual = true) (S : FnScope N ps scope)
    (len : ∀ vs H Q E, sp vs H Q E → vs.length = ps.length)
    (hbody : ∀ (A : Around) (outer : List Env) (s : Shared) (H : Hp) (vs : List V) (Q : VK) (E : XK), Room k (A.deeper (envOfC qual scope s.heap.objs.size f cdv)) → sp vs H Q E →
      ∃ t, PSs (cxOf CX P w K mg base N qual scope f cdv A outer s H E) body t ∧ t { nx := fun _ H' => Q .non H', rt := Q } (start N vs) H) :
    FnOk P w K mg base CX (k + 1) f (PySem.W.fnOf name qual params body scope dV kV doc pm an cdv ct) ps sp := by
  refine ⟨len, fun A outer s H args us vs Q E hr e0 hb r hsp => ?_⟩
  have hl := len _ _ _ _ hsp
  have KX : K.In s.heap := e0.mod.kin.keeps fun b o e => (e0.bs b o e).1
  have lim : s.heap.NoLimit := e0.mod.nolimit.keeps fun b o e => (e0.bs b o e).1
  have hkind : ∀ y ∈ ps.zip us, scope.names.lookup y.1 = some .local ∨ (scope.names.lookup y.1 = some .cell ∧ ((cellsFrom (s.heap.objs.size + 1) scope.names []).lookup y.1).isSome = true) := fun ⟨n, v⟩ hy => by
    rcases S.par n (List.of_mem_zip hy).1 with q | q
    · exact .inl q
    · exact .inr ⟨q, PySem.W.cellsFrom_some _ _ _ (.inl q)⟩
  refine codeAny_call_function hr.depth (KX _ _ lk) rfl S.co S.gen rfl (PySem.W.codeRec_of KX hcd) (hb _ _ _ _ ?_)
  refine wpAny_newFunctionEnv_cells S.kind hkind fun env he s1 x => ?_
  subst he
  refine ⟨lim.keeps x.toInCall.keep, codeAny_func ?_⟩
  obtain ⟨t, ht, hq⟩ := hbody A outer s H vs Q E (hr.deeper _) hsp
  have I : Inv (cxOf CX P w K mg base N qual scope f cdv A outer s H E) [] (start N vs) H s1 := inv_start S hr.hd e0 hl r x
  refine wpAny_mono (ht [] s1 (start N vs) H _ I hq) (fun fl s' hs => ?_) fun e s' hs => hs
  have fin : ∀ {σ' : St} {H' : Hp} {v : V} {u : Value}, Inv (cxOf CX P w K mg base N qual scope f cdv A outer s H E) [] σ' H' s' → RelV v u → Q v H' → CE outer P w H s Q u s' :=
    fun {σ' H' v u} J rv q => ⟨v, H', J.os, J.bare, J.base, J.hok, rv, q⟩
  cases fl with
  | ret u =>
    obtain ⟨v, σ', H', J, rv, q⟩ := hs
    exact fin J rv q
  | next =>
    obtain ⟨σ', H', J, q⟩ := hs
    exact fin (v := V.non) (u := Value.none) J rfl q
  | brk =>
    obtain ⟨_, _, _, q⟩ := hs
    exact False.elim q
  | cont =>
    obtain ⟨_, _, _, q⟩ := hs
    exact False.elim q
end L2

namespace L2
open PySem PySem.Spec PyProof.Rows
section
variable {X : Cx} {x : Str} {p pos : Pos} {e : Expr} {es : List Expr} {t : TA} {id T : String} {r : List V → Hp → VK → Prop}

def tCB (r : List V → Hp → VK → Prop) (t : TA) : TE := fun σ H Q => t σ H fun vs H1 => r vs H1 Q
theorem pe_callB (hc : CallR X (.builtin id) r) (hg : Gl X x) (hm : X.mg x = none) (hv : bootBuiltins x = some (.builtin id)) (ha : PA X (e :: es) t) (hn : x ≠ "__name__" := by decide) (hdb : (x == ("__debug__" : Str)) = false := by decide)
    (he : starEach (e :: es) X.env = (false, eval e X.env) :: starEach es X.env := by rfl) (hpl : (backTo pos (starEach es X.env)).any (·.1) = false := by rfl) : PE X (.Call (.Name x p) (e :: es) [] pos) (tCB r t) := by
  intro pins s σ H Q I h
  refine wpAny_Call_Name_kw (ld_blt I hg hm hv ?_ hn hdb)
  exact PyProof.Rows.callWith_builtin1 (thn (ha pos pins s σ H _ I h) fun us s1 ⟨vs, H1, I1, r1, q1⟩ => hc pins s1 σ H1 vs us Q I1 r1 q1) he hpl
theorem pe_callTy (hc : CallR X (.type T) r) (hg : Gl X x) (hm : X.mg x = none) (hv : bootBuiltins x = some (.type T)) (ha : PA X (e :: es) t) (hn : x ≠ "__name__" := by decide) (hdb : (x == ("__debug__" : Str)) = false := by decide)
    (he : starEach (e :: es) X.env = (false, eval e X.env) :: starEach es X.env := by rfl) (hpl : (backTo pos (starEach es X.env)).any (·.1) = false := by rfl) : PE X (.Call (.Name x p) (e :: es) [] pos) (tCB r t) := by
  intro pins s σ H Q I h
  refine wpAny_Call_Name_kw (ld_blt I hg hm hv ?_ hn hdb)
  exact PyProof.Rows.callWith_type1 (thn (ha pos pins s σ H _ I h) fun us s1 ⟨vs, H1, I1, r1, q1⟩ => hc pins s1 σ H1 vs us Q I1 r1 q1) he hpl
end
end L2

namespace HT
open PySem PyProof.Rows

section
open PySem.SeqAt
open PySem.AutoSeq1 (wpAny_loadPart')
open PySem.MeetsSeq PySem.MeetsSeq2 PySem.MeetsSeq3

end

section
variable {prog : Program} {w : World} {A : Around} {E : Value → Shared → Prop} {s : Shared}

def sIx (n d : Nat) : Option Int → Nat
  | none => d
  | some v => if v < 0 then (v + (n : Int)).toNat else min v.toNat n
end
end HT

namespace L2
open PySem PySem.Spec PyProof.Rows

abbrev TO := St → Hp → (Option Int → Hp → Prop) → Prop
def PO (X : Cx) (e : Option Expr) (t : TO) : Prop :=
  ∀ (pins : List (Addr × Obj)) (s : Shared) (σ : St) (H : Hp) (Q : Option Int → Hp → Prop), Inv X pins σ H s → t σ H Q →
    wpAny (model X.prog X.w) X.A (evalPart e X.env) (fun u s' => ∃ o H', Inv X pins σ H' s' ∧ IsPart u o ∧ Q o H') X.xe s
def tNoPart : TO := fun _ H Q => Q none H
def tPart (t : TE) : TO := fun σ H Q => t σ H fun x H1 => ∃ i, x = .int i ∧ Q (some i) H1

theorem intsAre_of {ns : List Int} : ∀ {us : List Value}, Vals (ns.map V.int) us → IntsAre us ns := by
  induction ns with
  | nil => intro us r; rw [List.map_nil] at r; cases r; exact .nil
  | cons n ns ih =>
    intro us r
    rw [List.map_cons] at r
    cases r with
    | cons r1 r2 =>
      obtain ⟨t, e⟩ := r1
      subst e
      exact .cons n t (ih r2)

section
variable {X : Cx} {e : Expr} {te : TE} {lo hi : Option Expr} {tl th : TO} {pos p2 : Pos}

theorem po_none : PO X none tNoPart := by
  intro pins s σ H Q I h
  rw [evalPart_none]
  exact wpAny_pure ⟨none, H, I, .none, h⟩
theorem po_some (h : PE X e te) : PO X (some e) (tPart te) := by
  intro pins s σ H Q I hw
  rw [evalPart_some]
  refine thn (h pins s σ H _ I hw) fun u s1 ⟨x, H1, I1, r1, q1⟩ => ?_
  obtain ⟨i, rfl, q⟩ := q1
  obtain ⟨t, rfl⟩ := r1
  exact ⟨some i, H1, I1, .int i t, q⟩

def SlR (X : Cx) (r : V → Option Int → Option Int → Hp → VK → Prop) : Prop :=
  ∀ (pins : List (Addr × Obj)) (s : Shared) (σ : St) (H : Hp) (x : V) (v vl vu : Value) (lo hi : Option Int) (sl : Addr) (Q : VK), Inv X pins σ H s → RelV x v → s.heap.IsSliceOf sl vl vu .none → IsPart vl lo → IsPart vu hi → r x lo hi H Q →
    ∃ T id, typeLookup (.type T) "__getitem__" = pure (some (.builtin id)) ∧ s.TypeIs v T ∧ wpAny (model X.prog X.w) X.A (getItem v (.ref sl)) (EP X pins σ Q) X.xe s
def tSl (r : V → Option Int → Option Int → Hp → VK → Prop) (te : TE) (tl th : TO) : TE := fun σ H Q => te σ H fun x H1 => tl σ H1 fun l H2 => th σ H2 fun u H3 => r x l u H3 Q
theorem pe_slice {r : V → Option Int → Option Int → Hp → VK → Prop} (hr : SlR X r) (he : PE X e te) (hl : PO X lo tl) (hu : PO X hi th) : PE X (.Subscript e (.Slice lo hi none p2) pos) (tSl r te tl th) := by
  intro pins s σ H Q I h
  refine Subscript_ (thn (he pins s σ H _ I h) fun v s1 ⟨x, H1, I1, r1, q1⟩ => ?_)
  refine wpAny_Slice (thn (hl pins s1 σ H1 _ I1 q1) fun vl s2 ⟨l, H2, I2, pl, q2⟩ => thn (hu pins s2 σ H2 _ I2 q2) fun vu s3 ⟨u, H3, I3, pu, q3⟩ => ?_)
  rw [evalPart_none]
  refine wpAny_pure ?_
  have I4 : Inv X pins σ H3 { s3 with heap := s3.heap.push { cls := .type "slice", data := .fields #[vl, vu, .none] } } := I3.kept (t' := s3.toks) fun b ob q => Heap.get?_push_of_some _ q
  obtain ⟨T, id, hT, ht, hg⟩ := hr pins { s3 with heap := s3.heap.push { cls := .type "slice", data := .fields #[vl, vu, .none] } } σ H3 x v vl vu l u s3.heap.objs.size Q I4 r1 (Heap.IsSliceOf.new ..) pl pu q3
  show wpAny (model X.prog X.w) X.A (subscriptTail e (.Slice lo hi none p2) v (.ref s3.heap.objs.size)) (EP X pins σ Q) X.xe { s3 with heap := s3.heap.push { cls := .type "slice", data := .fields #[vl, vu, .none] } }
  exact tail_any (ops := [.ref s3.heap.objs.size, v]) ht hT hg (by with_unfolding_all rfl)

def cutV (xs : List V) (lo hi : Option Int) : List V := (xs.drop (HT.sIx xs.length 0 lo)).take (HT.sIx xs.length xs.length hi - HT.sIx xs.length 0 lo)
theorem cutV_length (xs : List V) (lo hi : Option Int) : (cutV xs lo hi).length ≤ xs.length := by
  unfold cutV
  rw [List.length_take, List.length_drop]
  omega
end
end L2

namespace L2
open PySem PySem.Spec PyProof.Rows

def ixN (n : Nat) (i : Int) : Option Nat := if 0 ≤ i then (if i < n then some i.toNat else none) else if -(n : Int) ≤ i then some (i + n).toNat else none
def atI {α : Type} (xs : List α) (i : Int) : Option α := (ixN xs.length i).bind fun j => xs[j]?
theorem ixN_seq {n : Nat} {i : Int} {j : Nat} (h : ixN n i = some j) : seqIndex? i n = some j ∧ j < n ∧ -(n : Int) ≤ i ∧ i < n := by
  unfold ixN at h
  by_cases h0 : 0 ≤ i
  · rw [if_pos h0] at h
    by_cases h1 : i < n
    · rw [if_pos h1] at h
      have e : i.toNat = j := Option.some.inj h
      exact ⟨by rw [seqIndex_of h0 h1, e], by omega, by omega, h1⟩
    · rw [if_neg h1] at h; cases h
  · rw [if_neg h0] at h
    by_cases h1 : -(n : Int) ≤ i
    · rw [if_pos h1] at h
      have e : (i + n).toNat = j := Option.some.inj h
      exact ⟨by rw [seqIndex_neg (by omega) h1, e], by omega, h1, by omega⟩
    · rw [if_neg h1] at h; cases h
theorem atI_get {α : Type} {xs : List α} {i : Int} {v : α} (h : atI xs i = some v) : ∃ j, seqIndex? i xs.length = some j ∧ xs[j]? = some v ∧ j < xs.length ∧ -(xs.length : Int) ≤ i ∧ i < xs.length := by
  unfold atI at h
  cases e : ixN xs.length i with
  | none => rw [e] at h; cases h
  | some j =>
    rw [e] at h
    obtain ⟨h1, h2, h3, h4⟩ := ixN_seq e
    exact ⟨j, h1, h, h2, h3, h4⟩
theorem atI_nat {α : Type} {xs : List α} {j : Nat} {v : α} (h : xs[j]? = some v) : atI xs (j : Int) = some v := by
  have hj : j < xs.length := (List.getElem?_eq_some_iff.mp h).1
  have e : ixN xs.length (j : Int) = some j := by
    unfold ixN
    rw [if_pos (by omega), if_pos (by omega)]; simp
  unfold atI; rw [e]; exact h
def PlainIx (b : Expr) : Prop := ∀ o i, subscripted b false o i = operate [o, i] (getItem o i)
def IxR (X : Cx) (r : R2) : Prop :=
  ∀ (value slice : Expr) (pins : List (Addr × Obj)) (s : Shared) (σ : St) (H : Hp) (x y : V) (v u : Value) (Q : VK), Inv X pins σ H s → RelV x v → RelV y u → r x y H Q →
    subscripted slice false v u = operate [v, u] (getItem v u) → wpAny (model X.prog X.w) X.A (subscriptTail value slice v u) (EP X pins σ Q) X.xe s
def MtR (X : Cx) (id : String) (r : V → List V → Hp → VK → Prop) : Prop :=
  ∀ (pins : List (Addr × Obj)) (s : Shared) (σ : St) (H : Hp) (x : V) (xs : List V) (v : Value) (us : List Value) (Q : VK), Inv X pins σ H s → RelV x v → Vals xs us → r x xs H Q →
    wpAny (model X.prog X.w) X.A (call (.builtin id) (v :: us)) (EP X pins σ Q) X.xe s
section
variable {X : Cx} {a b : Expr} {ta tb : TE} {pos : Pos}
theorem pe_ix {r : R2} (hr : IxR X r) (ha : PE X a ta) (hb : PE X b tb) (hs : PlainIx b) : PE X (.Subscript a b pos) (tOp r ta tb) := by
  intro pins s σ H Q I h
  exact Subscript_ (binT ha hb I h fun v u s2 x y H2 I2 rx ry q => hr a b pins s2 σ H2 x y v u Q I2 rx ry q (hs _ _))

def rIxL (K : PySem.W.Frag) : R2 := fun x y H Q => ∃ p xs i v, x = .ref p ∧ y = .int i ∧ SqL K H p xs ∧ atI xs i = some v ∧ Q v H
def rIxS : R2 := fun x y H Q => ∃ z i c, x = .str z ∧ y = .int i ∧ z.length ≤ sizeLine ∧ atI z.cps.toList i = some c ∧ Q (.str ⟨#[c]⟩) H
theorem ix_list : IxR X (rIxL X.K) := by
  intro value slice pins s σ H x y v u Q I rx ry h hs
  obtain ⟨p, xs, i, z, rfl, rfl, hq, he, q⟩ := h
  cases rx
  obtain ⟨t, rfl⟩ := ry
  obtain ⟨its, r, pl, hz⟩ := I.list hq
  obtain ⟨j, h1, h2, h3, h4, h5⟩ := atI_get he
  obtain ⟨w, ew, rw'⟩ := r.get h2
  have hl := r.length
  have hn := line63
  have fin : EP X pins σ Q w s := ⟨z, H, I, rw', q⟩
  by_cases h0 : 0 ≤ i
  · have hj : i.toNat = j := by
      rw [seqIndex_of h0 h5] at h1
      exact Option.some.inj h1
    exact item_listR pl.isList h0 (by omega) (by rw [hj]; simpa using ew) fin hs
  · have hj : (i + (its.toArray.size : Int)).toNat = j := by
      rw [seqIndex_neg (by omega) h4] at h1
      rw [List.size_toArray, ← hl]
      exact Option.some.inj h1
    exact subscriptTail_builtinR (x := w) pl.isList.typeIs slot_list_getitem.lookup
      (wpAny_getItem_list_neg (Q := fun r s' => r = w ∧ EP X pins σ Q r s') pl.isList (by omega) (by rw [List.size_toArray] <;> omega) (by omega) (by rw [hj]; simpa using ew) ⟨rfl, fin⟩) hs
theorem ix_str : IxR X rIxS := by
  intro value slice pins s σ H x y v u Q I rx ry h hs
  obtain ⟨z, i, c, rfl, rfl, hz, he, q⟩ := h
  obtain ⟨t, rfl⟩ := rx
  obtain ⟨t', rfl⟩ := ry
  obtain ⟨j, h1, h2, h3, h4, h5⟩ := atI_get he
  have hl : z.cps.toList.length = z.length := by simp [Str.length]
  rw [hl] at h1 h4 h5
  have hn := line63
  exact tail_any (typeIs_str s z t) slot_str_getitem.lookup (getItem_str (c := c) (by
    have e1 : decide (i < -(2 ^ 63 : Int)) = false := decide_eq_false (by omega)
    have e2 : decide (i ≥ 2 ^ 63) = false := decide_eq_false (by omega)
    rw [e1, e2, Bool.or_false]) (by rw [h1]; simpa using h2) ⟨.str ⟨#[c]⟩, H, I.tok _, ⟨_, rfl⟩, q⟩) hs
theorem Inv.lst {pins : List (Addr × Obj)} {σ : St} {H : Hp} {s : Shared} {p : Addr} {xs : List V} (I : Inv X pins σ H s) (h : H p = some (.lst xs)) :
    ∃ (its : List Value) (n : Nat), Vals xs its ∧ s.heap.get? p = some { cls := .type "list", data := .seq its.toArray n } ∧ xs.length ≤ sizeLine := by
  obtain ⟨z, its, n, r, e⟩ := I.hok p _ h
  exact ⟨its, n, r, e, z⟩
theorem slice_bounds (lo hi : Option Int) (n : Nat) : (sliceBounds lo hi none n).1 = ((HT.sIx n 0 lo : Nat) : Int) ∧ (sliceBounds lo hi none n).2.1 = ((HT.sIx n n hi : Nat) : Int) ∧ (sliceBounds lo hi none n).2.2 = 1 := by
  refine ⟨?_, ?_, rfl⟩
  · cases lo with
    | none => simp [sliceBounds, HT.sIx]
    | some i =>
      simp only [sliceBounds, HT.sIx, Option.getD_none, show (1 : Int) > 0 by decide, if_true]
      by_cases h : i < 0
      · simp only [h, if_true] <;> omega
      · simp only [h, if_false] <;> omega
  · cases hi with
    | none => simp [sliceBounds, HT.sIx]
    | some i =>
      simp only [sliceBounds, HT.sIx, Option.getD_none, show (1 : Int) > 0 by decide, if_true]
      by_cases h : i < 0
      · simp only [h, if_true] <;> omega
      · simp only [h, if_false] <;> omega
theorem slicePick_cut (its : List Value) (lo hi : Option Int) : slicePick its.toArray lo hi none = ((its.drop (HT.sIx its.length 0 lo)).take (HT.sIx its.length its.length hi - HT.sIx its.length 0 lo)).toArray := by
  obtain ⟨h1, h2, h3⟩ := slice_bounds lo hi its.toArray.size
  unfold slicePick
  rw [h1, h2, h3]
  simp only [sliceRange_one, pick_run, List.size_toArray] <;> rfl
def rSlL (K : PySem.W.Frag) : V → Option Int → Option Int → Hp → VK → Prop := fun x lo hi H Q => ∃ a xs, x = .ref a ∧ SqL K H a xs ∧ ∀ p, H p = none → Q (.ref p) (upd H p (.lst (cutV xs lo hi)))
theorem sl_list : SlR X (rSlL X.K) := by
  intro pins s σ H x v vl vu lo hi sl Q I rx hs pl pu h
  obtain ⟨a, xs, rfl, hx, q⟩ := h
  cases rx
  obtain ⟨its, r, ht, hz⟩ := I.list hx
  have hlen := r.length
  refine ⟨"list", _, slot_list_getitem.lookup, ht.isList.typeIs, ?_⟩
  refine wpAny_getItem_list_slice ht.isList hs pl pu .none (by simp) ?_ (by rw [List.size_toArray] <;> omega)
  rw [slicePick_cut, ← hlen]
  refine ⟨.ref s.heap.objs.size, _, I.laid (t' := s.toks) (o := .lst (cutV xs lo hi)) (fun b ob q => Heap.get?_push_of_some _ q) (Nat.le_refl _) ?_, rfl, q _ (I.hok.fresh (Nat.le_refl _))⟩
  exact ⟨Nat.le_trans (cutV_length xs lo hi) hz, _, 0, (r.drop (HT.sIx xs.length 0 lo)).take (HT.sIx xs.length xs.length hi - HT.sIx xs.length 0 lo), Heap.get?_push_size _ rfl⟩

def flatV : V → Bool
  | .non => true
  | .bl _ => true
  | .int _ => true
  | .str _ => true
  | _ => false
def eqV : V → V → Bool
  | .non, .non => true
  | .bl a, .bl b => a == b
  | .bl a, .int b => (if a then 1 else 0) == b
  | .int a, .bl b => a == (if b then 1 else 0)
  | .int a, .int b => a == b
  | .str a, .str b => a == b
  | _, _ => false
theorem eqAt_V {A : Around} {s : Shared} {y x : V} {u v : Value} (ry : RelV y u) (rx : RelV x v) (fy : flatV y = true) (fx : flatV x = true) : SeqAt.EqAt A s u v (eqV y x) := by
  cases y with
  | non =>
    cases ry
    cases x with
    | non => cases rx; exact SeqAt.EqAt.same _
    | bl b => cases rx; exact SeqAt.EqAt.none_bool b
    | int b => obtain ⟨t, rfl⟩ := rx; exact SeqAt.EqAt.none_int b t
    | str b => obtain ⟨t, rfl⟩ := rx; exact SeqAt.EqAt.none_str b t
    | _ => exact absurd (show false = true from fx) Bool.false_ne_true
  | bl a =>
    cases ry
    cases x with
    | non => cases rx; exact SeqAt.EqAt.bool_none a
    | bl b => cases rx; exact SeqAt.EqAt.bool_bool a b
    | int b => obtain ⟨t, rfl⟩ := rx; exact SeqAt.EqAt.bool_int a b t
    | str b => obtain ⟨t, rfl⟩ := rx; exact SeqAt.EqAt.bool_str a b t
    | _ => exact absurd (show false = true from fx) Bool.false_ne_true
  | int a =>
    obtain ⟨t', rfl⟩ := ry
    cases x with
    | non => cases rx; exact SeqAt.EqAt.int_none a t'
    | bl b => cases rx; exact SeqAt.EqAt.int_bool a t' b
    | int b => obtain ⟨t, rfl⟩ := rx; exact SeqAt.EqAt.int_int a t' b t
    | str b => obtain ⟨t, rfl⟩ := rx; exact SeqAt.EqAt.int_str a t' b t
    | _ => exact absurd (show false = true from fx) Bool.false_ne_true
  | str a =>
    obtain ⟨t', rfl⟩ := ry
    cases x with
    | non => cases rx; exact SeqAt.EqAt.str_none a t'
    | bl b => cases rx; exact SeqAt.EqAt.str_bool a t' b
    | int b => obtain ⟨t, rfl⟩ := rx; exact SeqAt.EqAt.str_int a t' b t
    | str b => obtain ⟨t, rfl⟩ := rx; exact SeqAt.EqAt.str_str a t' b t
    | _ => exact absurd (show false = true from fx) Bool.false_ne_true
  | _ => exact absurd (show false = true from fy) Bool.false_ne_true
def eqU (x : V) (u : Value) : Bool := match u with
  | .none => eqV .non x
  | .bool b => eqV (.bl b) x
  | .int i _ => eqV (.int i) x
  | .str z _ => eqV (.str z) x
  | _ => false
theorem eqU_of {x y : V} {u : Value} (r : RelV y u) (f : flatV y = true) : eqU x u = eqV y x := by
  cases y with
  | non => cases r; rfl
  | bl b => cases r; rfl
  | int i => obtain ⟨t, rfl⟩ := r; rfl
  | str z => obtain ⟨t, rfl⟩ := r; rfl
  | _ => exact absurd (show false = true from f) Bool.false_ne_true
theorem any_eqU {x : V} : ∀ {xs : List V} {us : List Value}, Vals xs us → xs.all flatV = true → us.any (eqU x) = xs.any fun y => eqV y x
  | _, _, .nil, _ => rfl
  | y :: xs, u :: us, .cons r t, f => by
    rw [List.all_cons, Bool.and_eq_true] at f
    rw [List.any_cons, List.any_cons, eqU_of r f.1, any_eqU t f.2]
theorem mem_eqAt {A : Around} {s : Shared} {x : V} {v : Value} (rx : RelV x v) (fx : flatV x = true) : ∀ {xs : List V} {us : List Value}, Vals xs us → xs.all flatV = true → ∀ u ∈ us, SeqAt.EqAt A s u v (eqU x u)
  | _, _, .nil, _ => fun u hu => by cases hu
  | y :: xs, u :: us, .cons r t, f => fun u' hu => by
    rw [List.all_cons, Bool.and_eq_true] at f
    rcases List.mem_cons.mp hu with rfl | hu
    · rw [eqU_of r f.1]; exact eqAt_V r rx f.1 fx
    · exact mem_eqAt rx fx t f.2 u' hu
def inV (x : V) (xs : List V) : Bool := xs.any fun y => eqV y x
def rIn (K : PySem.W.Frag) (neg : Bool) : R2 := fun x y H Q => ∃ p xs, y = .ref p ∧ (SqL K H p xs ∨ SqT K H p xs) ∧ flatV x = true ∧ xs.all flatV = true ∧ Q (.bl (if neg then !inV x xs else inV x xs)) H
theorem op_notIn_seq : OpR X (compareOp .NotIn) (rIn X.K true) := by
  intro pins s σ H x y v u Q I rx ry h
  obtain ⟨p, xs, rfl, hq, fx, fs, q⟩ := h
  cases ry
  rcases hq with hq | hq
  · obtain ⟨its, r, pl, hz⟩ := I.list hq
    refine SeqAt.notIn_listAt (eqU x) pl.isList (fun w hw => mem_eqAt rx fx r fs w (by simpa using hw)) ⟨.bl _, H, I, rfl, ?_⟩
    rw [show its.toArray.any (eqU x) = its.any (eqU x) by simp, any_eqU r fs]
    exact q
  · obtain ⟨its, r, pl, hz⟩ := I.tuple hq
    refine SeqAt.notIn_tupleAt (eqU x) pl (fun w hw => mem_eqAt rx fx r fs w (by simpa using hw)) ⟨.bl _, H, I, rfl, ?_⟩
    rw [show its.toArray.any (eqU x) = its.any (eqU x) by simp, any_eqU r fs]
    exact q
theorem call_len_seq : CallR X (.builtin "len") (fun xs H Q => ∃ p ys, xs = [.ref p] ∧ (SqL X.K H p ys ∨ SqT X.K H p ys) ∧ Q (.int ys.length) H) := by
  intro pins s σ H xs us Q I r h
  obtain ⟨p, ys, rfl, hq, q⟩ := h
  obtain ⟨u, rfl, rx⟩ := vals1 r
  cases rx
  have hn := line63
  rcases hq with hq | hq
  · obtain ⟨its, r', pl, hz⟩ := I.list hq
    have hlen := r'.length
    exact Calls.call_len_list pl.isList (by simp only [List.size_toArray] <;> omega) ⟨.int ys.length, H, I.tok _, ⟨s.toks + 1, by rw [List.size_toArray, hlen]⟩, q⟩
  · obtain ⟨its, r', pl, hz⟩ := I.tuple hq
    have hlen := r'.length
    exact len_tuple pl (by simp only [List.size_toArray] <;> omega) ⟨.int ys.length, H, I.tok _, ⟨s.toks + 1, by rw [List.size_toArray, hlen]⟩, q⟩
theorem call_len_str : CallR X (.builtin "len") (fun xs H Q => ∃ z, xs = [.str z] ∧ z.length ≤ sizeLine ∧ Q (.int z.length) H) := by
  intro pins s σ H xs us Q I r h
  obtain ⟨z, rfl, hz, q⟩ := h
  obtain ⟨u, rfl, t, rfl⟩ := vals1 r
  have hn := line63
  exact len_str (by omega) ⟨.int z.length, H, I.tok _, ⟨_, rfl⟩, q⟩
theorem call_list_of : CallR X (.type "list") (fun xs H Q => ∃ p ys, xs = [.ref p] ∧ (SqL X.K H p ys ∨ SqT X.K H p ys) ∧ ∀ l, H l = none → Q (.ref l) (upd H l (.lst ys))) := by
  intro pins s σ H xs us Q I r h
  obtain ⟨p, ys, rfl, hq, q⟩ := h
  obtain ⟨u, rfl, rx⟩ := vals1 r
  cases rx
  have fin : ∀ (its : List Value), Vals ys its → ys.length ≤ sizeLine → ∀ (h' : Heap) (c' : Nat), (∀ b o', s.heap.get? b = some o' → h'.get? b = some o') →
      h'.get? s.heap.objs.size = some { cls := .type "list", dict := none, data := .seq its.toArray c', slots := #[] } → EP X pins σ Q (.ref s.heap.objs.size) { s with heap := h' } := fun its r' hz h' c' kp e =>
    ⟨.ref s.heap.objs.size, _, I.laid (t' := s.toks) kp (Nat.le_refl _) (show ObjOk X.prog X.w _ h' _ (.lst ys) from ⟨hz, its, c', r', e⟩), rfl, q _ (I.hok.fresh (Nat.le_refl _))⟩
  rcases hq with hq | hq
  · obtain ⟨its, r', pl, hz⟩ := I.list hq
    have hlen := r'.length
    obtain ⟨o, ho, hc, n, hd⟩ := pl.isList
    exact call_list_seq p (.inl rfl) ho hc hd (fun h' c' kp e => fin its r' hz h' c' kp e) (by simp only [List.size_toArray] <;> omega)
  · obtain ⟨its, r', pl, hz⟩ := I.tuple hq
    have hlen := r'.length
    obtain ⟨o, ho, hc, n, hd⟩ := pl
    exact call_list_seq p (.inr rfl) ho hc hd (fun h' c' kp e => fin its r' hz h' c' kp e) (by simp only [List.size_toArray] <;> omega)
def tyV (K : PySem.W.Frag) (T : String) (x : V) (H : Hp) : Prop := match x with
  | .str _ => T = "str"
  | .int _ => T = "int"
  | .ref p => (T = "list" ∧ ∃ xs, SqL K H p xs) ∨ (T = "tuple" ∧ ∃ o, K.lookup p = some o ∧ o.cls = .type "tuple" ∧ o.dict = none) ∨
      (T = "dict" ∧ ((∃ kvs, H p = some (.dK kvs)) ∨ ∃ kvs, H p = some (.dT kvs))) ∨ (T = "set" ∧ ∃ S n, H p = some (.set S n))
  | _ => False
theorem tyV_is {pins : List (Addr × Obj)} {σ : St} {H : Hp} {s : Shared} {T : String} {x : V} {v : Value} (I : Inv X pins σ H s) (r : RelV x v) (ty : tyV X.K T x H) :
    s.TypeIs v T ∧ ∀ a, v = .ref a → ∃ ob, s.heap.get? a = some ob ∧ ob.dict = none := by
  cases x with
  | str z =>
    obtain ⟨t, rfl⟩ := r
    cases (show T = "str" from ty)
    exact ⟨typeIs_str s z t, fun _ e => nomatch e⟩
  | int i =>
    obtain ⟨t, rfl⟩ := r
    cases (show T = "int" from ty)
    exact ⟨typeIs_int s i t, fun _ e => nomatch e⟩
  | ref p =>
    cases r
    rcases ty with ⟨rfl, xs, hq⟩ | ⟨rfl, o, hk, hc, hd⟩ | ⟨rfl, hk⟩ | ⟨rfl, S, n, hk⟩
    · obtain ⟨its, _, pl, _⟩ := I.list hq
      refine ⟨pl.isList.typeIs, fun a e => ?_⟩
      cases e
      obtain ⟨o, n, e, c, hd, _⟩ := pl
      exact ⟨o, e, hd⟩
    · refine ⟨⟨o, I.kIn p o hk, hc⟩, fun a e => ?_⟩
      cases e
      exact ⟨o, I.kIn _ o hk, hd⟩
    · have z : ∃ o, s.heap.get? p = some o ∧ o.ExactDict := by
        rcases hk with ⟨kvs, hk⟩ | ⟨kvs, hk⟩
        · obtain ⟨_, _, _, _, o, _, _, e, ex, _⟩ := I.hok p _ hk
          exact ⟨o, e, ex⟩
        · obtain ⟨_, _, _, _, o, _, _, e, ex, _⟩ := I.hok p _ hk
          exact ⟨o, e, ex⟩
      obtain ⟨o, e, ex⟩ := z
      refine ⟨⟨o, e, ex.1⟩, fun a e2 => ?_⟩
      cases e2
      exact ⟨o, e, ex.2.1⟩
    · obtain ⟨o, _, _, _, e, ex, _⟩ := I.hok p _ hk
      refine ⟨⟨o, e, ex.1⟩, fun a e2 => ?_⟩
      cases e2
      exact ⟨o, e, ex.2.1⟩
  | _ => exact False.elim ty
def tBM (K : PySem.W.Frag) (T : String) (r : V → List V → Hp → VK → Prop) (to : TE) (t : TA) : TE := fun σ H Q => to σ H fun x H1 => tyV K T x H1 ∧ t σ H1 fun xs H2 => r x xs H2 Q
variable {o e : Expr} {es : List Expr} {to : TE} {t : TA} {name : Str} {apos cpos : Pos} {T id : String} {r : V → List V → Hp → VK → Prop}
theorem pe_bm (pa : PlainAttrs T) (slot : Slot T name id) (hty : typeOf (.builtin id) = pure (.type "method_descriptor")) (hm : MtR X id r) (ho : PE X o to) (ha : PA X (e :: es) t)
    (hbase : attributeBase o name X.env (eval o X.env) = eval o X.env := by rfl)
    (hfew : ((backTo cpos (starEach (e :: es) X.env)).all (fun x => !x.1) && (backToKw cpos (keywordEach [] X.env)).all (fun x => x.1.isSome)
      && decide ((e :: es).length + ([] : List Keyword).length + (if ([] : List Keyword).isEmpty then 0 else 1) < 30)) = true := by rfl)
    (hline : (apos.endLine == cpos.line) = true := by rfl) (hs : starEach (e :: es) X.env = (false, eval e X.env) :: starEach es X.env := by rfl) (hplain : (backTo cpos (starEach es X.env)).any (·.1) = false := by rfl) :
    PE X (.Call (.Attribute o name apos) (e :: es) [] cpos) (tBM X.K T r to t) := by
  intro pins s σ H Q I h
  refine wpAny_Call_method_late hbase hfew hline rfl (thn (ho pins s σ H _ I h) fun v s1 ⟨x, H1, I1, r1, ty, q1⟩ => ?_)
  obtain ⟨h1, h2⟩ := tyV_is I1 r1 ty
  refine ⟨T, id, pa, slot, hty, h1, h2, ?_⟩
  have hA := ha cpos pins s1 σ H1 _ I1 q1
  rw [hs] at hA ⊢
  refine Calls.callWith_builtin (by show (false || (backTo cpos (starEach es X.env)).any (·.1)) = false; rw [hplain] <;> rfl) (Calls.evalArgs_plain ?_)
  exact thn hA fun us s2 ⟨vs, H2, I2, r2, q2⟩ => hm pins s2 σ H2 x vs v us Q I2 r1 r2 q2
/- xs.append(e), list.index on a module's tuple .. are MtR facts of 06m -/
end
end L2

namespace L2
open PySem PySem.Spec PyProof.Rows

def MtM (X : Cx) (id : String) (r : V → List V → Hp → VK → Prop) : Prop :=
  ∀ (pins : List (Addr × Obj)) (s : Shared) (σ : St) (H : Hp) (x : V) (xs : List V) (v : Value) (us : List Value) (Q : VK), Inv X pins σ H s → RelV x v → Vals xs us → r x xs H Q →
    wpAny (model X.prog X.w) X.A (call (.builtin id) (v :: us)) (EP X pins σ Q) X.xe s

theorem Vals.one : ∀ {x : V} {us : List Value}, Vals [x] us → ∃ u, us = [u] ∧ RelV x u
  | _, _, .cons r .nil => ⟨_, rfl, r⟩
theorem Vals.two : ∀ {x y : V} {us : List Value}, Vals [x, y] us → ∃ u v, us = [u, v] ∧ RelV x u ∧ RelV y v
  | _, _, _, .cons r (.cons q .nil) => ⟨_, _, rfl, r, q⟩
theorem Vals.zero : ∀ {us : List Value}, Vals [] us → us = []
  | _, .nil => rfl
theorem Vals.dropLast {xs : List V} {us : List Value} (h : Vals xs us) : Vals xs.dropLast us.dropLast := by
  induction h with
  | nil => exact .nil
  | cons r t ih =>
    cases t with
    | nil => exact .nil
    | cons q t' => exact .cons r ih
theorem Vals.reverse {xs : List V} {us : List Value} (h : Vals xs us) : Vals xs.reverse us.reverse := by
  induction h with
  | nil => exact .nil
  | cons r t ih => rw [List.reverse_cons, List.reverse_cons]; exact Vals.append ih (.cons r .nil)
section
variable {X : Cx} {pins : List (Addr × Obj)} {σ : St} {H : Hp} {s : Shared} {l b : Addr} {xs ys zs : List V}

theorem Inv.lset {its its' : List Value} {n : Nat} {f : Array Value → Array Value} {t' : Nat} (I : Inv X pins σ H s) (hH : H l = some (.lst xs))
    (e : s.heap.get? l = some { cls := .type "list", data := .seq its.toArray n }) (hf : f its.toArray = its'.toArray) (hv : Vals ys its') (hz : ys.length ≤ sizeLine) :
    Inv X pins σ (upd H l (.lst ys)) { s with heap := s.heap.update l (Obj.mapSeq f), toks := t' } := by
  have q := PySem.IsL.update e f
  rw [hf] at q
  refine I.write (x := l) (e := l) (by rw [hH]; exact trivial) (.inl rfl) (fun b' u hb hu => (Heap.get?_update_other s.heap (Obj.mapSeq f) (Ne.symm hb)).trans hu) ⟨_, q⟩ ?_
  exact ⟨hz, its', _, hv, q⟩
theorem Inv.lnew {its : List Value} {t' : Nat} (I : Inv X pins σ H s) (hv : Vals ys its) (hz : ys.length ≤ sizeLine) :
    Inv X pins σ (upd H s.heap.objs.size (.lst ys)) { s with heap := s.heap.push { cls := .type "list", data := .seq its.toArray }, toks := t' } :=
  I.laid (fun _ _ q => Heap.get?_push_of_some _ q) (Nat.le_refl _) ⟨hz, its, 0, hv, Heap.get?_push_size _ rfl⟩
theorem Inv.fresh (I : Inv X pins σ H s) : H s.heap.objs.size = none := I.hok.fresh (Nat.le_refl _)
theorem Inv.lstM (I : Inv X pins σ H s) (hH : H l = some (.lst xs)) : xs.length ≤ sizeLine ∧ ∃ (its : List Value) (n : Nat), Vals xs its ∧ xs.length = its.length ∧ s.heap.get? l = some { cls := .type "list", data := .seq its.toArray n } := by
  obtain ⟨z, its, n, r, e⟩ := I.hok l _ hH
  exact ⟨z, its, n, r, r.length, e⟩

theorem notLongL {n : Nat} (h : n ≤ sizeLine) : Builtin.List.listTooLong n = false := by
  unfold Builtin.List.listTooLong
  exact decide_eq_false (by omega)
end

section
variable {X : Cx}

def rAppend : V → List V → Hp → VK → Prop := fun x vs H Q => ∃ l xs y, x = .ref l ∧ vs = [y] ∧ H l = some (.lst xs) ∧ xs.length < sizeLine ∧ Q .non (upd H l (.lst (xs ++ [y])))
theorem mt_append : MtM X "list.append" rAppend := by
  intro pins s σ H x vs v us Q I rx rv h
  obtain ⟨l, xs, y, rfl, rfl, hH, hz, q⟩ := h
  cases rx
  obtain ⟨u, rfl, ru⟩ := rv.one
  obtain ⟨z, its, n, r, hl, e⟩ := I.lstM hH
  refine call_meets F.slot_list_append ⟨_, e, rfl⟩ F.entry_list_append (F.args_list_append_2 _ _) (PySem.list_append l its.toArray n u (by rw [List.size_toArray]; omega)) ⟨e, ?_⟩
  refine ⟨.non, _, I.lset (its' := its ++ [u]) hH e (by simp) (r.append (.cons ru .nil)) ?_, rfl, q⟩
  rw [List.length_append, List.length_singleton]
  omega

def rExtend : V → List V → Hp → VK → Prop := fun x vs H Q => ∃ l b xs zs, x = .ref l ∧ vs = [.ref b] ∧ H l = some (.lst xs) ∧ H b = some (.lst zs) ∧ xs.length + zs.length ≤ sizeLine ∧ Q .non (upd H l (.lst (xs ++ zs)))
theorem mt_extend : MtM X "list.extend" rExtend := by
  intro pins s σ H x vs v us Q I rx rv h
  obtain ⟨l, b, xs, zs, rfl, rfl, hH, hB, hz, q⟩ := h
  cases rx
  obtain ⟨u, rfl, ru⟩ := rv.one
  cases ru
  obtain ⟨z, its, n, r, hl, e⟩ := I.lstM hH
  obtain ⟨z2, its2, n2, r2, hl2, e2⟩ := I.lstM hB
  have hsz : its.toArray.size + its2.toArray.size ≤ sizeLine := by rw [List.size_toArray, List.size_toArray]; omega
  have hlong : ¬ (!its.toArray.isEmpty && Builtin.List.listTooLong (its.toArray.size + its2.toArray.size)) = true := by
    rw [notLongL hsz, Bool.and_false]
    exact Bool.false_ne_true
  refine call_meets F.slot_list_extend ⟨_, e, rfl⟩ F.entry_list_extend (F.args_list_extend_2 _ _)
    (AutoSeq1.list_extend_list_list_0 l its.toArray n b its2.toArray n2 hlong (by rw [List.size_toArray]; omega) (by omega)) ⟨e, e2, ?_⟩
  refine ⟨.non, _, I.lset (its' := its ++ its2) hH e (by simp) (r.append r2) ?_, rfl, q⟩
  rw [List.length_append]
  omega

def rCat : R2 := fun x y H Q => ∃ l b xs zs, x = .ref l ∧ y = .ref b ∧ H l = some (.lst xs) ∧ H b = some (.lst zs) ∧ xs.length + zs.length ≤ sizeLine ∧ ∀ p, H p = none → Q (.ref p) (upd H p (.lst (xs ++ zs)))
theorem op_cat : OpR X (binaryOp .Add) rCat := by
  intro pins s σ H x y v u Q I rx ry h
  obtain ⟨l, b, xs, zs, rfl, rfl, hH, hB, hz, q⟩ := h
  cases rx
  cases ry
  obtain ⟨z, its, n, r, hl, e⟩ := I.lstM hH
  obtain ⟨z2, its2, n2, r2, hl2, e2⟩ := I.lstM hB
  refine PySem.P.add_list e e2 ?_ (by rw [List.size_toArray, List.size_toArray]; omega)
  have ea : its.toArray ++ its2.toArray = (its ++ its2).toArray := by simp
  rw [ea]
  exact ⟨.ref _, _, I.lnew (t' := s.toks) (r.append r2) (by rw [List.length_append]; omega), rfl, q _ I.fresh⟩
end

section
variable {prog : Program} {w : World} {A : Around} {E : Value → Shared → Prop} {s : Shared}
set_option maxRecDepth 100000 in
end

section
variable {X : Cx}
end
end L2

namespace L2
open PySem PySem.Spec PyProof.Rows

section
variable {κ : Type} [DecidableEq κ]
def valV (kvs : List (κ × V)) (k : κ) : Option V := (kvs.find? fun kv => decide (kv.1 = k)).map (·.2)
def putK (kvs : List (κ × V)) (k : κ) (v : V) : List (κ × V) :=
  if (kvs.any fun kv => decide (kv.1 = k)) = true then kvs.map (fun kv => if kv.1 = k then (kv.1, v) else kv) else kvs ++ [(k, v)]
def dropK (kvs : List (κ × V)) (k : κ) : List (κ × V) := kvs.filter fun kv => decide (kv.1 ≠ k)

theorem valV_nil {k : κ} : valV ([] : List (κ × V)) k = none := rfl
theorem valV_pos {p : κ × V} {r : List (κ × V)} {k : κ} (e : p.1 = k) : valV (p :: r) k = some p.2 := by simp [valV, List.find?_cons, e]
theorem valV_neg {p : κ × V} {r : List (κ × V)} {k : κ} (e : ¬ p.1 = k) : valV (p :: r) k = valV r k := by simp [valV, List.find?_cons, e]
theorem valV_any (k : κ) : ∀ kvs : List (κ × V), (kvs.any fun kv => decide (kv.1 = k)) = (valV kvs k).isSome
  | [] => rfl
  | p :: r => by
    rw [List.any_cons]
    by_cases e : p.1 = k
    · simp only [valV_pos e, decide_eq_true e, Bool.true_or, Option.isSome_some]
    · rw [valV_neg e, decide_eq_false e, Bool.false_or]; exact valV_any k r
theorem valV_map (k j : κ) (y : V) : ∀ kvs : List (κ × V), valV (kvs.map fun kv => if kv.1 = k then (kv.1, y) else kv) j = (valV kvs j).map fun x => if j = k then y else x
  | [] => rfl
  | p :: r => by
    have ih := valV_map k j y r
    rw [List.map_cons]
    by_cases h : p.1 = k
    · rw [if_pos h]
      by_cases e : p.1 = j
      · rw [valV_pos (p := (p.1, y)) e, valV_pos e, Option.map_some, if_pos (e.symm.trans h)]
      · rw [valV_neg (p := (p.1, y)) e, valV_neg e, ih]
    · rw [if_neg h]
      by_cases e : p.1 = j
      · rw [valV_pos (p := p) e, valV_pos e, Option.map_some, if_neg (fun z => h (e.trans z))]
      · rw [valV_neg (p := p) e, valV_neg e, ih]
theorem valV_snoc (k j : κ) (y : V) : ∀ kvs : List (κ × V), valV kvs k = none → valV (kvs ++ [(k, y)]) j = if j = k then some y else valV kvs j
  | [], _ => by
    by_cases e : k = j
    · rw [if_pos e.symm]; exact valV_pos (p := (k, y)) e
    · rw [if_neg (fun z => e z.symm)]; exact valV_neg (p := (k, y)) e
  | p :: r, hn => by
    rw [List.cons_append]
    have hk : ¬ p.1 = k := fun z => by rw [valV_pos z] at hn; cases hn
    rw [valV_neg hk] at hn
    have ih := valV_snoc k j y r hn
    by_cases e : p.1 = j
    · rw [valV_pos e, valV_pos e, if_neg (fun z => hk (e.trans z))]
    · rw [valV_neg e, valV_neg e, ih]
theorem valV_put (kvs : List (κ × V)) (k j : κ) (y : V) : valV (putK kvs k y) j = if j = k then some y else valV kvs j := by
  unfold putK
  by_cases a : (kvs.any fun kv => decide (kv.1 = k)) = true
  · rw [if_pos a, valV_map]
    rw [valV_any] at a
    by_cases e : j = k
    · obtain ⟨x, hx⟩ := Option.isSome_iff_exists.mp a
      rw [if_pos e, e, hx, Option.map_some, if_pos rfl]
    · rw [if_neg e]
      cases valV kvs j with
      | none => rfl
      | some x => rw [Option.map_some, if_neg e]
  · rw [if_neg a]
    refine valV_snoc k j y kvs ?_
    rw [valV_any] at a
    cases q : valV kvs k with
    | none => rfl
    | some x => rw [q] at a; exact (a rfl).elim
theorem length_putK (kvs : List (κ × V)) (k : κ) (v : V) : (putK kvs k v).length ≤ kvs.length + 1 := by
  unfold putK
  split
  · rw [List.length_map]; omega
  · rw [List.length_append, List.length_cons, List.length_nil]; omega
theorem putK_new {kvs : List (κ × V)} {k : κ} (v : V) (h : valV kvs k = none) : putK kvs k v = kvs ++ [(k, v)] := by
  unfold putK
  rw [valV_any, h]
  exact if_neg (by decide)

theorem RelO.isSome_eq {o : Option V} {u : Option Value} (r : RelO o u) : o.isSome = u.isSome := by
  cases o with
  | none => cases u with
    | none => rfl
    | some _ => exact (show False from r).elim
  | some _ => cases u with
    | none => exact (show False from r).elim
    | some _ => rfl
theorem RelO.getD {o : Option V} {u : Option Value} {d : V} {d' : Value} (r : RelO o u) (rd : RelV d d') : RelV (o.getD d) (u.getD d') := by
  cases o with
  | none => cases u with
    | none => exact rd
    | some _ => exact (show False from r).elim
  | some _ => cases u with
    | none => exact (show False from r).elim
    | some _ => exact r

theorem KV.val {kvs : List (κ × V)} {vs : List (κ × Value)} (r : KV kvs vs) (k : κ) : RelO (valV kvs k) (valueAt vs k) := by
  unfold KV at r
  induction r with
  | nil => exact True.intro
  | @cons p q ps qs h t ih =>
    obtain ⟨h1, h2⟩ := h
    by_cases e : p.1 = k
    · have e' : q.1 = k := h1.symm.trans e
      have b : valueAt (q :: qs) k = some q.2 := by simp [valueAt, List.find?_cons, e']
      rw [valV_pos e, b]; exact h2
    · have e' : ¬ q.1 = k := fun z => e (h1.trans z)
      have b : valueAt (q :: qs) k = valueAt qs k := by simp [valueAt, List.find?_cons, e']
      rw [valV_neg e, b]; exact ih
theorem KV.any {kvs : List (κ × V)} {vs : List (κ × Value)} (r : KV kvs vs) (k : κ) : (kvs.any fun kv => decide (kv.1 = k)) = vs.any fun kv => decide (kv.1 = k) := by
  unfold KV at r
  induction r with
  | nil => rfl
  | cons h t ih => rw [List.any_cons, List.any_cons, ih, h.1]
theorem KV.repl {kvs : List (κ × V)} {vs : List (κ × Value)} (r : KV kvs vs) (k : κ) {y : V} {u : Value} (ry : RelV y u) :
    KV (kvs.map fun kv => if kv.1 = k then (kv.1, y) else kv) (vs.map fun kv => if kv.1 = k then (kv.1, u) else kv) := by
  unfold KV at r ⊢
  induction r with
  | nil => exact .nil
  | @cons p q ps qs h t ih =>
    rw [List.map_cons, List.map_cons]
    refine .cons ?_ ih
    obtain ⟨h1, h2⟩ := h
    by_cases e : p.1 = k
    · rw [if_pos e, if_pos (h1.symm.trans e)]; exact ⟨h1, ry⟩
    · rw [if_neg e, if_neg (fun z => e (h1.trans z))]; exact ⟨h1, h2⟩
theorem KV.put {kvs : List (κ × V)} {vs : List (κ × Value)} (r : KV kvs vs) (k : κ) {y : V} {u : Value} (ry : RelV y u) : KV (putK kvs k y) (stored vs k u) := by
  unfold putK stored
  rw [r.any k]
  by_cases e : (vs.any fun kv => decide (kv.1 = k)) = true
  · rw [if_pos e, if_pos e]; exact r.repl k ry
  · rw [if_neg e, if_neg e]; exact Paired.snoc r ⟨rfl, ry⟩
theorem KV.drop {kvs : List (κ × V)} {vs : List (κ × Value)} (r : KV kvs vs) (k : κ) : KV (dropK kvs k) (without vs k) := by
  unfold KV at r ⊢
  unfold dropK without
  induction r with
  | nil => exact .nil
  | @cons p q ps qs h t ih =>
    obtain ⟨h1, h2⟩ := h
    rw [List.filter_cons, List.filter_cons]
    by_cases e : p.1 = k
    · have a : ¬ decide (p.1 ≠ k) = true := by simp [e]
      have b : ¬ decide (q.1 ≠ k) = true := by simp [h1.symm.trans e]
      rw [if_neg a, if_neg b]; exact ih
    · have e' : ¬ q.1 = k := fun z => e (h1.trans z)
      have a : decide (p.1 ≠ k) = true := by simp [e]
      have b : decide (q.1 ≠ k) = true := by simp [e']
      rw [if_pos a, if_pos b]; exact .cons ⟨h1, h2⟩ ih
theorem KV.keys {kvs : List (κ × V)} {vs : List (κ × Value)} (r : KV kvs vs) : kvs.map (·.1) = vs.map (·.1) := by
  unfold KV at r
  induction r with
  | nil => rfl
  | cons h t ih => rw [List.map_cons, List.map_cons, ih, h.1]
theorem KV.length {kvs : List (κ × V)} {vs : List (κ × Value)} (r : KV kvs vs) : kvs.length = vs.length := Paired.length r
end


theorem kV_is {P : Program} {w : World} {k : Key} {u : Value} (r : RelV (kV k) u) : (mixKind P w).is k u = true := by
  cases k with
  | inl i => obtain ⟨t, e⟩ := (show ∃ t, u = Value.int i t from r); subst e; exact mixKind_int P w i t
  | inr x => obtain ⟨t, e⟩ := (show ∃ t, u = Value.str x t from r); subst e; exact mixKind_str P w x t
theorem items_are {P : Program} {w : World} : ∀ {ks : List Key} {us : List Value}, Vals (ks.map kV) us → ItemsAre (mixKind P w) ks us
  | [], _, r => by rw [List.map_nil] at r; cases r; exact .nil
  | k :: ks, _, r => by
    rw [List.map_cons] at r
    cases r with
    | cons h t => exact .cons (kV_is h) (items_are t)

abbrev KT (H : Hp) : List (List Key × V) → List (List Key × Addr × Value) → Prop := Paired fun p q => p.1 = q.1 ∧ H q.2.1 = some (.tup (p.1.map kV)) ∧ RelV p.2 q.2.2
theorem KT.val {H : Hp} {kvs : List (List Key × V)} {xs : List (List Key × Addr × Value)} (r : KT H kvs xs) (k : List Key) : RelO (valV kvs k) ((atKey xs k).map (·.2)) := by
  induction r with
  | nil => exact True.intro
  | @cons p q ps qs h t ih =>
    obtain ⟨h1, _, h2⟩ := h
    by_cases e : p.1 = k
    · have e' : q.1 = k := h1.symm.trans e
      have b : atKey (q :: qs) k = some q.2 := by simp [atKey, List.find?_cons, e']
      rw [valV_pos e, b]; exact h2
    · have e' : ¬ q.1 = k := fun z => e (h1.trans z)
      have b : atKey (q :: qs) k = atKey qs k := by simp [atKey, List.find?_cons, e']
      rw [valV_neg e, b]; exact ih
theorem KT.repl {H : Hp} {kvs : List (List Key × V)} {xs : List (List Key × Addr × Value)} (r : KT H kvs xs) (k : List Key) {y : V} {u : Value} (ry : RelV y u) :
    KT H (kvs.map fun kv => if kv.1 = k then (kv.1, y) else kv) (xs.map (putAt k u)) := by
  induction r with
  | nil => exact .nil
  | @cons p q ps qs h t ih =>
    rw [List.map_cons, List.map_cons]
    refine .cons ?_ ih
    obtain ⟨h1, h2, h3⟩ := h
    unfold putAt
    by_cases e : p.1 = k
    · rw [if_pos e, if_pos (h1.symm.trans e)]; exact ⟨h1, h2, ry⟩
    · rw [if_neg e, if_neg (fun z => e (h1.trans z))]; exact ⟨h1, h2, h3⟩
theorem KT.put {H : Hp} {kvs : List (List Key × V)} {xs : List (List Key × Addr × Value)} (r : KT H kvs xs) (k : List Key) {b : Addr} {y : V} {u : Value} (hb : H b = some (.tup (k.map kV))) (ry : RelV y u) :
    KT H (putK kvs k y) (storedH xs k b u) := by
  have e : (kvs.any fun kv => decide (kv.1 = k)) = (atKey xs k).isSome := by
    rw [valV_any, (r.val k).isSome_eq, Option.isSome_map]
  unfold putK storedH
  rw [e]
  by_cases q : (atKey xs k).isSome = true
  · rw [if_pos q, if_pos q]; exact r.repl k ry
  · rw [if_neg q, if_neg q]; exact Paired.snoc r ⟨rfl, hb, ry⟩
theorem KT.keeps {H H' : Hp} {kvs : List (List Key × V)} {xs : List (List Key × Addr × Value)} (r : KT H kvs xs) (ht : ∀ b ys, H b = some (.tup ys) → H' b = some (.tup ys)) : KT H' kvs xs :=
  Paired.mapP r fun _ _ z => ⟨z.1, ht _ _ z.2.1, z.2.2⟩

section
variable {P : Program} {w : World} {H : Hp} {h : Heap} {a : Addr}
theorem rd_of {u : HO} (ok : HOk P w H h) (e : Rd H a u) : ObjOk P w H h a u := e.ok ok
theorem dk_rd {kvs : List (Key × V)} (ok : HOk P w H h) (e : Rd H a (.dK kvs)) : kvs.length ≤ sizeLine ∧ (a == sysModules) = false ∧ ∃ vs, KV kvs vs ∧ h.DictOf (mixKind P w) a vs :=
  show ObjOk P w H h a (.dK kvs) from rd_of ok e
theorem dk_of {kvs : List (Key × V)} (ok : HOk P w H h) (e : H a = some (.dK kvs)) : kvs.length ≤ sizeLine ∧ (a == sysModules) = false ∧ ∃ vs, KV kvs vs ∧ h.DictOf (mixKind P w) a vs := dk_rd ok (.inl e)
theorem key_of {ks : List Key} (ok : HOk P w H h) (e : H a = some (.tup (ks.map kV))) : (tupleKind (mixKind P w)).is h ks a := by
  obtain ⟨_, its, r, o, h1, h2, n, h3⟩ := (show ObjOk P w H h a (.tup (ks.map kV)) from ok a _ e)
  exact ⟨o, its.toArray, n, h1, h2, h3, by simpa using items_are r⟩
theorem dt_rd {kvs : List (List Key × V)} (ok : HOk P w H h) (e : Rd H a (.dT kvs)) : kvs.length ≤ sizeLine ∧ (a == sysModules) = false ∧
    ∃ xs, KT H kvs xs ∧ h.DictOfH (tupleKind (mixKind P w)) a xs := by
  obtain ⟨z, y, xs, r, o, es, ep, h1, h2, h3, h4, h5⟩ := (show ObjOk P w H h a (.dT kvs) from rd_of ok e)
  refine ⟨z, y, xs, r, o, es, ep, h1, h2, h3, h4, fun x hx => ?_, h5⟩
  have all : ∀ {l : List (List Key × V)} {m : List (List Key × Addr × Value)}, KT H l m → ∀ x ∈ m, (tupleKind (mixKind P w)).is h x.1 x.2.1 := by
    intro l m q
    induction q with
    | nil => intro x hx; exact nomatch hx
    | @cons p q ps qs hq t ih =>
      intro x hx
      rcases List.mem_cons.mp hx with e | hx
      · subst e
        exact key_of ok (by rw [← hq.1]; exact hq.2.1)
      · exact ih x hx
  exact all r x hx
theorem dt_of {kvs : List (List Key × V)} (ok : HOk P w H h) (e : H a = some (.dT kvs)) : kvs.length ≤ sizeLine ∧ (a == sysModules) = false ∧
    ∃ xs, KT H kvs xs ∧ h.DictOfH (tupleKind (mixKind P w)) a xs := dt_rd ok (.inl e)
end

def DGet (H : Hp) (a : Addr) (y : V) (r : Option V) : Prop :=
  (∃ kvs k, Rd H a (.dK kvs) ∧ y = kV k ∧ r = valV kvs k) ∨ ∃ kvs k b, Rd H a (.dT kvs) ∧ y = .ref b ∧ H b = some (.tup (k.map kV)) ∧ r = valV kvs k
def DPut (H : Hp) (a : Addr) (y v : V) (H' : Hp) : Prop :=
  (∃ kvs k, H a = some (.dK kvs) ∧ y = kV k ∧ kvs.length < sizeLine ∧ H' = upd H a (.dK (putK kvs k v))) ∨
  ∃ kvs k b, H a = some (.dT kvs) ∧ y = .ref b ∧ H b = some (.tup (k.map kV)) ∧ kvs.length < sizeLine ∧ H' = upd H a (.dT (putK kvs k v))
theorem DGet.k {H : Hp} {a : Addr} {kvs : List (Key × V)} {k : Key} (e : H a = some (.dK kvs)) : DGet H a (kV k) (valV kvs k) := .inl ⟨kvs, k, .inl e, rfl, rfl⟩
theorem DGet.t {H : Hp} {a b : Addr} {kvs : List (List Key × V)} {k : List Key} (e : H a = some (.dT kvs)) (eb : H b = some (.tup (k.map kV))) : DGet H a (.ref b) (valV kvs k) := .inr ⟨kvs, k, b, .inl e, rfl, eb, rfl⟩
theorem DPut.k {H : Hp} {a : Addr} {kvs : List (Key × V)} {k : Key} {v : V} (e : H a = some (.dK kvs)) (hl : kvs.length < sizeLine) : DPut H a (kV k) v (upd H a (.dK (putK kvs k v))) := .inl ⟨kvs, k, e, rfl, hl, rfl⟩
theorem DPut.t {H : Hp} {a b : Addr} {kvs : List (List Key × V)} {k : List Key} {v : V} (e : H a = some (.dT kvs)) (eb : H b = some (.tup (k.map kV))) (hl : kvs.length < sizeLine) :
    DPut H a (.ref b) v (upd H a (.dT (putK kvs k v))) := .inr ⟨kvs, k, b, e, rfl, eb, hl, rfl⟩


section
variable {X : Cx} {pins : List (Addr × Obj)} {σ : St} {H : Hp} {s : Shared} {a : Addr} {y v : V} {u r : Value} {o : Option V} {A : Around} {E : Value → Shared → Prop}

theorem Inv.big (I : Inv X pins σ H s) : sysModules < s.heap.objs.size := by
  have h : mainGlobals < s.heap.objs.size := (I.mod.glob.keeps I.bk).lt
  exact Nat.lt_trans (by decide) h

theorem d_getItem {Q : Value → Shared → Prop} (hu : A.units + 1 < cLine) (I : Inv X pins σ H s) (g : DGet H a y (some v)) (ry : RelV y u) (h : ∀ w' s', Inv X pins σ H s' → RelV v w' → Q w' s') :
    wpAny (model X.prog X.w) A (getItem (.ref a) u) Q E s := by
  rcases g with ⟨kvs, k, e, ey, l⟩ | ⟨kvs, k, b, e, ey, eb, l⟩
  · subst ey
    obtain ⟨z, hd, vs, rel, dd⟩ := dk_rd I.hok e
    obtain ⟨w', hw, rw'⟩ := RelO.some_of (v := v) (o := valueAt vs k) (by rw [l]; exact rel.val k)
    exact wpAny_getItem_of (kV_is ry) dd.mapOf hw (h w' _ (I.tok _) rw')
  · subst ey
    cases (show u = Value.ref b from ry)
    obtain ⟨z, hd, xs, rel, dd⟩ := dt_rd I.hok e
    obtain ⟨w', hw, rw'⟩ := RelO.some_of (v := v) (o := (atKey xs k).map (·.2)) (by rw [l]; exact rel.val k)
    obtain ⟨p, hp, hp2⟩ := Option.map_eq_some_iff.mp hw
    refine wpAny_getItem_heap (tupleKind_room_in1 hu) (key_of I.hok eb) dd hp ?_
    rw [hp2]
    exact h w' _ (I.tok _) rw'
theorem d_in {Q : Value → Shared → Prop} (hu : A.units + 1 < cLine) (I : Inv X pins σ H s) (g : DGet H a y o) (ry : RelV y u) (h : ∀ s', Inv X pins σ H s' → Q (.bool o.isSome) s') :
    wpAny (model X.prog X.w) A (compareOp .In u (.ref a)) Q E s := by
  rcases g with ⟨kvs, k, e, ey, l⟩ | ⟨kvs, k, b, e, ey, eb, l⟩
  · subst ey
    obtain ⟨z, hd, vs, rel, dd⟩ := dk_rd I.hok e
    refine wpAny_in_of (kV_is ry) hd dd.mapOf ?_
    rw [← (rel.val k).isSome_eq, ← l]
    exact h _ (I.tok _)
  · subst ey
    cases (show u = Value.ref b from ry)
    obtain ⟨z, hd, xs, rel, dd⟩ := dt_rd I.hok e
    refine wpAny_in_heap (tupleKind_room_in1 hu) (key_of I.hok eb) hd dd ?_
    have q := (rel.val k).isSome_eq
    rw [Option.isSome_map] at q
    rw [← q, ← l]
    exact h _ (I.tok _)
theorem d_notIn {Q : Value → Shared → Prop} (hu : A.units + 1 < cLine) (I : Inv X pins σ H s) (g : DGet H a y o) (ry : RelV y u) (h : ∀ s', Inv X pins σ H s' → Q (.bool (!o.isSome)) s') :
    wpAny (model X.prog X.w) A (compareOp .NotIn u (.ref a)) Q E s := by
  rcases g with ⟨kvs, k, e, ey, l⟩ | ⟨kvs, k, b, e, ey, eb, l⟩
  · subst ey
    obtain ⟨z, hd, vs, rel, dd⟩ := dk_rd I.hok e
    refine wpAny_notIn_of (kV_is ry) hd dd.mapOf ?_
    rw [← (rel.val k).isSome_eq, ← l]
    exact h _ (I.tok _)
  · subst ey
    cases (show u = Value.ref b from ry)
    obtain ⟨z, hd, xs, rel, dd⟩ := dt_rd I.hok e
    refine wpAny_notIn_heap (tupleKind_room_in1 hu) (key_of I.hok eb) hd dd ?_
    have q := (rel.val k).isSome_eq
    rw [Option.isSome_map] at q
    rw [← q, ← l]
    exact h _ (I.tok _)
theorem d_write {h' : Heap} {t' : Nat} {ob : HO} (I : Inv X pins σ H s) (mu : Mut (H a)) (hs : Heap.SameBut a s.heap h') (he : ∃ q, h'.get? a = some q) (new : ObjOk X.prog X.w (upd H a ob) h' a ob) :
    Inv X pins σ (upd H a ob) { s with heap := h', toks := t' } :=
  I.write (x := a) (e := a) mu (.inl rfl) (fun b q hb z => (hs.2 b hb).trans z) he new
theorem dk_new {P : Program} {w : World} {H' : Hp} {h' : Heap} {kvs : List (Key × V)} {vs : List (Key × Value)} (z : kvs.length ≤ sizeLine) (hd : (a == sysModules) = false) (rel : KV kvs vs) (dd : h'.DictOf (mixKind P w) a vs) :
    ObjOk P w H' h' a (.dK kvs) := ⟨z, hd, vs, rel, dd⟩
theorem d_setItem {H' : Hp} {Q : Unit → Shared → Prop} (hu : A.units + 1 < cLine) (I : Inv X pins σ H s) (g : DPut H a y v H') (ry : RelV y u) (rv : RelV v r) (h : ∀ s', Inv X pins σ H' s' → Q () s') :
    wpAny (model X.prog X.w) A (setItem (.ref a) u r) Q E s := by
  rcases g with ⟨kvs, k, e, ey, l, eH⟩ | ⟨kvs, k, b, e, ey, eb, l, eH⟩
  · subst ey eH
    obtain ⟨z, hd, vs, rel, dd⟩ := dk_of I.hok e
    have hz : vs.length ≤ sizeLine := by rw [← rel.length]; exact z
    have hl : (putK kvs k v).length ≤ sizeLine := by have := length_putK kvs k v; omega
    refine wpAny_setItem_pairs (hsz := hz) (kV_is ry) dd fun h' dd' hs => h _ ?_
    have he : ∃ q, h'.get? a = some q := let ⟨q, _, _, hq, _⟩ := dd'; ⟨q, hq⟩
    exact d_write I (by rw [e]; exact True.intro) hs he (dk_new hl hd (rel.put k rv) dd')
  · subst ey eH
    cases (show u = Value.ref b from ry)
    obtain ⟨z, hd, xs, rel, dd⟩ := dt_of I.hok e
    have hz : xs.length ≤ sizeLine := by rw [← Paired.length rel]; exact z
    have hl : (putK kvs k v).length ≤ sizeLine := by have := length_putK kvs k v; omega
    refine wpAny_setItem_heap (hsz := hz) (tupleKind_room_in1 hu) (key_of I.hok eb) dd fun h' dd' hs => h _ ?_
    obtain ⟨q, es, ep, hq, h2, h3, h4, _, h5⟩ := dd'
    refine d_write I (by rw [e]; exact True.intro) hs ⟨q, hq⟩ ⟨hl, hd, _, (rel.put k eb rv).keeps fun c ys ec => ?_, q, es, ep, hq, h2, h3, h4, h5⟩
    rw [upd_ne (ne_of ec e (fun z => nomatch z))]
    exact ec
end

section
variable {X : Cx} {pins : List (Addr × Obj)} {σ : St} {H : Hp} {s : Shared} {a : Addr} {kvs : List (Key × V)} {k : Key} {u : Value} {A : Around} {E : Value → Shared → Prop}
theorem d_len {Q : Value → Shared → Prop} (I : Inv X pins σ H s) (e : Rd H a (.dK kvs)) (h : ∀ t s', Inv X pins σ H s' → Q (.int kvs.length t) s') : wpAny (model X.prog X.w) A (call (.builtin "len") [.ref a]) Q E s := by
  obtain ⟨z, hd, vs, rel, dd⟩ := dk_rd I.hok e
  refine call_len_dict hd dd (by rw [← rel.length]; rw [sizeLine_eq] at z; omega) ?_
  rw [← rel.length]
  exact h _ _ (I.tok _)
end


def NoSl (i : Expr) : Prop := ∀ ov iv, subscripted i false ov iv = operate [ov, iv] (getItem ov iv)
theorem subD_of {prog : Program} {w : World} {A : Around} {E : Value → Shared → Prop} {s : Shared} {env : Env} {value slice : Expr} {pos : Pos} {T id : String} {Q : Value → Shared → Prop}
    (hl : typeLookup (.type T) "__getitem__" = pure (some (.builtin id))) (hs : NoSl slice)
    (h : wpAny (model prog w) A (eval value env) (fun o s₁ => wpAny (model prog w) A (eval slice env) (fun i s₂ => s₂.TypeIs o T ∧ wpAny (model prog w) A (getItem o i) Q E s₂) E s₁) E s) :
    wpAny (model prog w) A (eval (.Subscript value slice pos) env) Q E s := by
  refine Subscript_ (wpAny_mono h (fun o s₁ h₁ => wpAny_mono h₁ (fun i s₂ h₂ => ?_) fun _ _ x => x) fun _ _ x => x)
  obtain ⟨hT, h₂⟩ := h₂
  unfold subscriptTail
  refine wpAny_bind ?_
  rw [getitemInPython_of_ne hT.not_modules]
  refine wpAny_bind (wpAny_specialOf hT hl ?_)
  have fin : wpAny (model prog w) A (subscripted slice false o i) (fun r s₃ => wpAny (model prog w) A (letTemporaryGo value o r >>= fun _ => pure r) Q E s₃) E s₂ := by
    rw [hs o i]
    exact wpAny_operating (wpAny_mono h₂ (fun r s₃ h₃ => wpAny_bind (wpAny_letTemporaryGo (wpAny_pure h₃))) fun _ _ x => x)
  first
    | exact wpAny_pure (wpAny_bind fin)
    | exact wpAny_bind (wpAny_pure (wpAny_bind fin))
    | exact wpAny_bind fin

theorem dict_typeIs {X : Cx} {pins : List (Addr × Obj)} {σ : St} {H : Hp} {s : Shared} {a : Addr} {y : V} {o : Option V} (I : Inv X pins σ H s) (g : DGet H a y o) : s.TypeIs (.ref a) "dict" := by
  rcases g with ⟨kvs, k, e, _, _⟩ | ⟨kvs, k, b, e, _, _, _⟩
  · obtain ⟨_, _, vs, _, dd⟩ := dk_rd I.hok e
    exact dd.typeIs
  · obtain ⟨_, _, xs, _, dd⟩ := dt_rd I.hok e
    exact dd.typeIs
def tDGet (td ty : TE) : TE := fun σ H Q => td σ H fun x H1 => ty σ H1 fun y H2 => ∃ a v, x = .ref a ∧ DGet H2 a y (some v) ∧ Q v H2
def tDIn (ty td : TE) : TE := fun σ H Q => ty σ H fun y H1 => td σ H1 fun x H2 => ∃ a o, x = .ref a ∧ DGet H2 a y o ∧ Q (.bl o.isSome) H2
def tDNotIn (ty td : TE) : TE := fun σ H Q => ty σ H fun y H1 => td σ H1 fun x H2 => ∃ a o, x = .ref a ∧ DGet H2 a y o ∧ Q (.bl (!o.isSome)) H2
def sDPut (td ty tv : TE) : TS := fun D σ H => tv σ H fun v H1 => td σ H1 fun x H2 => ty σ H2 fun y H3 => ∃ a H4, x = .ref a ∧ DPut H3 a y v H4 ∧ D.nx σ H4
section
variable {X : Cx} {o i e value : Expr} {pos pos' tpos : Pos} {td ty tv : TE}
theorem pe_dget (hu : X.A.units + 1 < cLine) (ho : PE X o td) (hi : PE X i ty) (hs : NoSl i) : PE X (.Subscript o i pos) (tDGet td ty) := by
  intro pins s σ H Q I h
  refine subD_of PySem.F.slot_dict_getitem.lookup hs (thn (ho pins s σ H _ I h) fun u s1 ⟨x, H1, I1, rx, q1⟩ => thn (hi pins s1 σ H1 _ I1 q1) fun iv s2 ⟨y, H2, I2, ry, a, v, ex, g, q2⟩ => ?_)
  subst ex
  obtain rfl : u = Value.ref a := rx
  exact ⟨dict_typeIs I2 g, d_getItem hu I2 g ry fun w' s3 I3 rw' => ⟨v, H2, I3, rw', q2⟩⟩
theorem pc_din (hu : X.A.units + 1 < cLine) (hi : PE X i ty) (ho : PE X o td) : PC X .In i o (tDIn ty td) := by
  intro pins s σ H Q I h
  refine thn (hi pins s σ H _ I h) fun iv s1 ⟨y, H1, I1, ry, q1⟩ => thn (ho pins s1 σ H1 _ I1 q1) fun u s2 ⟨x, H2, I2, rx, a, ov, ex, g, q2⟩ => ?_
  subst ex
  obtain rfl : u = Value.ref a := rx
  exact d_in hu I2 g ry fun s3 I3 => ⟨.bl ov.isSome, H2, I3, rfl, q2⟩
theorem pc_dnotin (hu : X.A.units + 1 < cLine) (hi : PE X i ty) (ho : PE X o td) : PC X .NotIn i o (tDNotIn ty td) := by
  intro pins s σ H Q I h
  refine thn (hi pins s σ H _ I h) fun iv s1 ⟨y, H1, I1, ry, q1⟩ => thn (ho pins s1 σ H1 _ I1 q1) fun u s2 ⟨x, H2, I2, rx, a, ov, ex, g, q2⟩ => ?_
  subst ex
  obtain rfl : u = Value.ref a := rx
  exact d_notIn hu I2 g ry fun s3 I3 => ⟨.bl (!ov.isSome), H2, I3, rfl, q2⟩
theorem ps_dput (hu : X.A.units + 1 < cLine) (ho : PE X o td) (hi : PE X i ty) (hv : PE X value tv) (hs : swapsWith value (some (.Subscript o i pos')) pos.line X.env = pure false) :
    PS X (.Assign [.Subscript o i pos'] value pos) (sDPut td ty tv) := by
  intro pins s σ H D I h
  refine wpAny_Assign_Subscript (thn (hv pins s σ H _ I h) fun r s1 ⟨v, H1, I1, rv, q1⟩ => thn (ho pins s1 σ H1 _ I1 q1) fun u s2 ⟨x, H2, I2, rx, q2⟩ => thn (hi pins s2 σ H2 _ I2 q2) fun iv s3 ⟨y, H3, I3, ry, a, H4, ex, g, q3⟩ => ?_) hs
  subst ex
  obtain rfl : u = Value.ref a := rx
  exact d_setItem hu I3 g ry rv fun s4 I4 => ⟨σ, H4, I4, q3⟩
end


theorem dk_empty {P : Program} {w : World} {H : Hp} (h : Heap) (hb : sysModules < h.objs.size) : ObjOk P w H (h.push { cls := .type "dict", data := .dict #[] }) h.objs.size (.dK []) :=
  ⟨Nat.zero_le _, beq_eq_false_iff_ne.mpr (Ne.symm (Nat.ne_of_lt hb)), [], .nil, Heap.DictOf.new h⟩
def tDNewK : TE := fun _ H Q => ∀ p, H p = none → Q (.ref p) (upd H p (.dK []))
section
variable {X : Cx} {pos : Pos}
theorem pe_dnewK : PE X (.Dict [] [] pos) tDNewK := fun pins s σ H Q I h =>
  wpAny_Dict_empty ⟨.ref s.heap.objs.size, _, I.laid (a := s.heap.objs.size) (o := .dK []) (t' := s.toks) (fun _ _ q => Heap.get?_push_of_some _ q) (Nat.le_refl _) (dk_empty s.heap I.big), rfl, h _ (I.hok.fresh (Nat.le_refl _))⟩
end

section
variable {X : Cx} {pins : List (Addr × Obj)} {σ : St} {H : Hp} {s : Shared} {a : Addr} {y d : V} {u r : Value} {o : Option V} {A : Around} {E : Value → Shared → Prop}
end

section
variable {X : Cx} {o e f : Expr} {apos cpos : Pos} {td ty tx : TE}
end

section
variable {X : Cx} {pins : List (Addr × Obj)} {σ : St} {H : Hp} {s : Shared} {a : Addr} {kvs : List (Key × V)} {A : Around} {E : Value → Shared → Prop}
end


section
variable {X : Cx} {pins : List (Addr × Obj)} {σ : St} {H : Hp} {s : Shared} {a : Addr} {y : V} {u : Value} {A : Around} {E : Value → Shared → Prop}
end
end L2

namespace Att
open PySem PySem.W PySem.Calls PyProof.Rows

theorem ints_of_wellAll {P : Params} {h : Heap} : ∀ (ns : List Int) (vs : List Value), WellAll P h vs (ns.map WData.int) → IntsAre vs ns := by
  intro ns
  induction ns with
  | nil =>
    intro vs w
    rw [List.map_nil] at w
    cases w
    exact .nil
  | cons n ns ih =>
    intro vs w
    rw [List.map_cons] at w
    cases w with
    | cons a b =>
      cases a
      exact .cons _ _ (ih _ b)

theorem script_of {l : OpenLaw} {n : Nat} (hn : l.most = some n) {P : Params} {h : Heap} {args : List WData} {vals : List Value}
    (hpre : l.row.toRowW.claim.pre args = true) (hwl : WellAll P h vals args) :
    ∃ a vs ns, vals = [Value.ref a] ∧ args = [WData.list (ns.map WData.int)] ∧ h.get? a = some { cls := .type "list", data := .seq vs.toArray } ∧ IntsAre vs ns ∧ ns.length ≤ n := by
  have hsh : WShape.hasAll [] args [.list .int] = true := (pre_splitW hpre).1
  have hc : l.pre.holds [] { args := args } = true := (pre_splitW hpre).2
  obtain ⟨d, r, rfl, h1, h2⟩ := hasAllW_cons hsh
  obtain rfl := hasAllW_nil h2
  obtain ⟨xs, rfl, h3⟩ := hasW_list h1
  obtain ⟨ns, rfl⟩ := items_int h3
  have hlen : ns.length ≤ n := by
    unfold OpenLaw.pre at hc
    have h4 : (WTm.not (.lt (.lit (.int (n : Int))) (.len (.arg 0)))).holds [] { args := [.list (ns.map .int)] } = true := by
      have h4 := (holds_andW hc).1
      rw [hn] at h4
      exact h4
    have h5 := condW_of h4 (w_not (w_lt w_lit (w_len_list (w_arg rfl))))
    rw [List.length_map] at h5
    refine Nat.le_of_not_lt fun q => ?_
    have q' : (n : Int) < ((ns.length : Nat) : Int) := by omega
    first
      | (rw [decide_eq_true q'] at h5; exact absurd h5 (by decide))
      | (simp at h5; omega)
  cases hwl with
  | cons w1 w2 =>
    cases w2
    cases w1 with
    | list ho hall => exact ⟨_, _, ns, rfl, rfl, ho, ints_of_wellAll ns _ hall, hlen⟩

theorem post_true (l : OpenLaw) (args : List WData) : l.row.toRowW.claim.post args (.bool true) args = true :=
  postW_of (r := l.row.toRowW) (X := (true == true))
    (show WShape.has [] (.bool true) .bool = true by first | rfl | decide | simp [WShape.has, WShape.arms, WShape.armsAll])
    (show (WTm.eq .res (.lit (.bool true))).value [] { args := args, res := some (.bool true), after := args } = some (.bool (true == true)) from w_eq_bool (w_res rfl) w_lit) rfl

theorem attach_call {l : OpenLaw} {n : Nat} {q : Program} {loose : List Str} {XP : (Str → Option Value) → Heap → Prop} {YP : World → Heap → Prop} {d : DefRec}
    (hn : l.most = some n) (hdf : d.params.defaults = [])
    (call : ∀ (w : World) (s₀ s₁ : Shared) (mg mb : Str → Option Value) (fa : Addr) (o : Obj) (pm cd doc : Value) (a : Addr) (vs : List Value) (ns : List Int),
      Ground q loose [] XP w s₀ mg mb s₁.heap → YP w s₁.heap →
      s₁.heap.get? fa = some o → o.data = .func (docDef d.name d.params d.body d.scope pm cd doc) → s₁.heap.CodeRec cd d.name → mg d.name = some (.ref fa) →
      s₁.heap.get? a = some { cls := .type "list", data := .seq vs.toArray } → IntsAre vs ns → ns.length ≤ n → s₁.gens = #[] →
      codeAny (model l.prog w) callerA (.call (.ref fa) ⟨[.ref a], []⟩) (fun r s' => r = .ok (.ret (.bool true)) ∧ OldK s₁.heap s'.heap ∧ s'.os = s₁.os ∧ AllBare s'.gens) s₁) :
    WalkO q loose XP YP l.row.toRowW d [] (fun f vs => PySem.call f vs) := by
  intro w s₀ s₁ mg mb G Y fa o pm cd doc dV kV ho hd hcd hD hmg hg args vals as hpre hlay hrd hwl hlo
  obtain rfl : dV = .none := Dflts.none hD hdf
  obtain rfl : kV = .none := Dflts.noKw hD
  obtain ⟨a, vs, ns, rfl, rfl, hobj, hints, hlen⟩ := script_of hn hpre hwl
  refine enter_call (codeAny_mono (call w s₀ s₁ mg mb fa o pm cd doc a vs ns G Y ho (fd_plain hd) hcd hmg hobj hints hlen hg) fun r s' hq => ?_)
  obtain ⟨rfl, h2, h3, h4⟩ := hq
  exact ⟨.inl ⟨.bool true, .bool true, [], rfl, fun _ => rfl, .bool true, post_true l _, fun _ => ⟨List.Pairwise.nil, fun _ hm => (nomatch hm)⟩⟩, h2, h3, h4⟩

section
variable {prog : Program} {w : World} {A : Around} {E : Value → Shared → Prop} {s : Shared} {K : Frag}

end
end Att

namespace L2
open PySem PySem.Spec PyProof.Rows

theorem vals_ints : ∀ {vs : List Value} {ns : List Int}, IntsAre vs ns → Vals (ns.map V.int) vs
  | _, _, .nil => .nil
  | _, _, .cons n t h => .cons ⟨t, rfl⟩ (vals_ints h)

def Only (H : Hp) : Prop := ∀ b, H b = none ∨ ∃ o xs, H b = some (.frz o (.lst xs))

theorem law_call {P : Program} {w : World} {K : PySem.W.Frag} {mg mb : Str → Option Value} {CX : CXT} {k : Nat} {fa a : Addr} {fd : FuncData} {x : Str} {sp : Sp} {s₁ : Shared} {vs : List Value} {ns : List Int}
    (KX : K.In s₁.heap) (hns : s₁.heap.Ns mainGlobals mg) (hb : s₁.heap.Ns builtinsNs mb) (hbb : ∀ x : Str, x ≠ "__name__" → mb x = bootBuiltins x) (hlim : s₁.heap.NoLimit) (hg : s₁.gens = #[])
    (ha : s₁.heap.get? a = some { cls := .type "list", data := .seq vs.toArray }) (hi : IntsAre vs ns) (hl : ns.length ≤ sizeLine) (hr : Room k callerA)
    (F : ∀ base : Heap, K.In base → base.Ns mainGlobals mg → FnOk P w K mg base CX k fa fd [x] sp) (hbind : ∀ (s : Shared) (u : Value), BindsTo s fd ⟨[u], []⟩ [(x, u)])
    (hsp : ∀ H : Hp, Only H → SqL K H a (ns.map V.int) → sp [.ref a] H (fun v _ => v = .bl true) fun _ _ _ => False)
    (hCX : ∀ H e s', CX [] H s₁ (fun _ _ _ => False) e s' → False) :
    codeAny (model P w) callerA (.call (.ref fa) ⟨[.ref a], []⟩) (fun r s' => r = .ok (.ret (.bool true)) ∧ OldK s₁.heap s'.heap ∧ s'.os = s₁.os ∧ AllBare s'.gens) s₁ := by
  have rv := vals_ints hi
  have lenV := hi.length
  -- from an abstract heap in which nothing but the script may be tracked
  have core : ∀ H : Hp, Only H → SqL K H a (ns.map V.int) → HOk P w H s₁.heap → (∀ b, H b ≠ none → b = a) → (H a ≠ none → K.lookup a = none) →
      codeAny (model P w) callerA (.call (.ref fa) ⟨[.ref a], []⟩) (fun r s' => r = .ok (.ret (.bool true)) ∧ OldK s₁.heap s'.heap ∧ s'.os = s₁.os ∧ AllBare s'.gens) s₁ := by
    intro H hO hS hok hA hK
    have base_of : ∀ {b : Addr} {o : Obj}, s₁.heap.get? b = some o → H b = none → (hidT s₁.heap H).get? b = some o := fun e n => hidT_get e n
    have noA : ∀ {b : Addr} {o : Obj} {es : Array DictEntry} {ep : Nat}, s₁.heap.get? b = some o → o.data = .dict es ep → H b = none := fun {b o es ep} e d => by
      cases q : H b with
      | none => rfl
      | some u =>
        have e' : b = a := hA b (by rw [q]; simp)
        subst e'
        rw [ha] at e; cases e
        have d' : Data.seq vs.toArray _ = Data.dict es ep := d
        cases d'
    have nsK : ∀ {b : Addr} {m : Str → Option Value}, s₁.heap.Ns b m → (hidT s₁.heap H).Ns b m := fun {b m} ⟨o, es, ep, e, d, r⟩ => ⟨o, es, ep, base_of e (noA e d), d, r⟩
    have hKb : K.In (hidT s₁.heap H) := fun b o e => base_of (KX b o e) (by
      cases q : H b with
      | none => rfl
      | some u =>
        have e' : b = a := hA b (by rw [q]; simp)
        subst e'
        rw [hK (by rw [q]; simp)] at e; cases e)
    have hM : Mod K mg (hidT s₁.heap H) := ⟨hKb, nsK hns, ⟨mb, nsK hb, hbb⟩, let ⟨mc, h1, h2⟩ := hlim; ⟨mc, nsK h1, h2⟩⟩
    have e0 : Env0 P w K mg (hidT s₁.heap H) callerA [] s₁ H := ⟨rfl, hM, fun b o e => of_hidT e, Nat.le_of_eq (hidT_size _ _), trivial, fun b hb => absurd (show b ∈ ([] : List Addr) from hb) (by simp), hok, .of_eq hg⟩
    refine codeAny_mono ((F _ hKb (nsK hns)).run callerA [] s₁ H ⟨[.ref a], []⟩ [.ref a] [.ref a] _ _ hr e0 (hbind s₁ (.ref a)) (.cons rfl .nil) (hsp H hO hS)) fun r s' h => ?_
    cases r with
    | error e => exact (hCX H e s' h).elim
    | ok fl =>
      cases fl with
      | next => exact False.elim h
      | brk => exact False.elim h
      | cont => exact False.elim h
      | ret u =>
        obtain ⟨v, H', os, bare, un, hok', r', q⟩ := h
        have q' : v = .bl true := q
        subst q'
        obtain rfl : u = Value.bool true := r'
        refine ⟨rfl, OldK.of_keep fun b o e => ?_, os, bare⟩
        cases q : H b with
        | none => exact un.keep b o e q (by intro z; exact absurd (show b ∈ ([] : List Addr) from z) (by simp)) (by simp)
        | some u =>
          rcases hO b with z | ⟨ob, xs, z⟩
          · rw [q] at z; cases z
          · have z2 := un.frzs b ob _ z
            obtain ⟨e1, _⟩ := hok b _ z
            obtain ⟨e2, _⟩ := hok' b _ z2
            rw [e] at e1; cases e1
            exact e2
  cases hk : K.lookup a with
  | some o =>
    -- the script is one of the module's own objects
    have e := KX a o hk
    rw [ha] at e
    cases e
    refine core (fun _ => none) (fun _ => .inl rfl) (.inr ⟨_, vs.toArray, _, hk, rfl, rfl, rfl, by rw [List.size_toArray, lenV]; exact hl, by simpa using rv⟩) (fun b u z => by have z' : (none : Option HO) = some u := z; cases z') (fun b z => absurd rfl z) fun z => absurd rfl z
  | none =>
    refine core (fun b => if b = a then some (.frz { cls := .type "list", data := .seq vs.toArray } (.lst (ns.map V.int))) else none) (fun b => ?_) (.inl (.inr ⟨{ cls := .type "list", data := .seq vs.toArray }, if_pos rfl⟩)) (fun b u z => ?_) (fun b z => ?_) fun _ => hk
    · by_cases hb : b = a
      · exact .inr ⟨_, _, if_pos hb⟩
      · exact .inl (if_neg hb)
    · by_cases hb : b = a
      · have z' := (if_pos hb).symm.trans z
        cases z'
        subst hb
        exact ⟨ha, by rw [List.length_map]; exact hl, vs, _, rv, ha⟩
      · have z' := (if_neg hb).symm.trans z
        cases z'
    · by_cases hb : b = a
      · exact hb
      · exact absurd (if_neg hb) z
end L2

namespace L2
open PySem PySem.Spec PyProof.Rows

abbrev KOf {K : PySem.W.Frag} {h : Heap} (_ : K.In h) : PySem.W.Frag := K

theorem walk_of {l : PySem.W.OpenLaw} {n k : Nat} {q : Program} {loose : List Str} {XP : (Str → Option Value) → Heap → Prop} {YP : World → Heap → Prop} {d : DefRec} {K : Params → PySem.W.Frag} {CX : World → CXT} {sp : World → Sp} {x : Str}
    (hn : l.most = some n) (hn2 : n ≤ sizeLine) (hdf : d.params.defaults = []) (hr : Room k callerA)
    (hY : ∀ (w : World) (h : Heap), YP w h → (K w.params).In h)
    (F : ∀ (w : World) (mg : Str → Option Value) (fa : Addr) (h : Heap), (K w.params).In h → h.Ns mainGlobals mg → mg d.name = some (.ref fa) →
      ∃ fd : FuncData, (∀ (s : Shared) (u : Value), BindsTo s fd ⟨[u], []⟩ [(x, u)]) ∧
        ∀ base : Heap, (K w.params).In base → base.Ns mainGlobals mg → FnOk l.prog w (K w.params) mg base (CX w) k fa fd [x] (sp w))
    (hsp : ∀ (w : World) (H : Hp) (a : Addr) (ns : List Int), ns.length ≤ n → Only H → SqL (K w.params) H a (ns.map V.int) → sp w [.ref a] H (fun v _ => v = .bl true) fun _ _ _ => False)
    (hCX : ∀ (w : World) (H : Hp) (s : Shared) (e : Value) (s' : Shared), CX w [] H s (fun _ _ _ => False) e s' → False) :
    PySem.W.WalkO q loose XP YP l.row.toRowW d [] (fun f vs => PySem.call f vs) := by
  refine Att.attach_call hn hdf fun w s₀ s₁ mg mb fa o pm cd doc a vs ns G Y ho hd hcd hmg hobj hints hlen hg => ?_
  have KX := hY w _ Y
  obtain ⟨fd, hb, hF⟩ := F w mg fa _ KX G.T.g hmg
  exact law_call KX G.T.g G.T.b G.T.builtins G.T.nolimit hg hobj hints (Nat.le_trans hlen hn2) hr hF hb (fun H hO hS => hsp w H a ns hlen hO hS) fun H e s' => hCX w H s₁ e s'
end L2

/- THE LAST THEOREM (shape; LID, My.* are yours):
   My.Adr: a structure of the addresses that your layer names (classes, functions); My.Txt K t: a structure (Prop) of the equations over K;
   My.txt_mk : {K} {implicit addresses ..} (e1 : nsIn K mainGlobals "law" = some (some (.ref f))) (e2 : K.lookup f = some ⟨oc, od, .func (fnOf "law" "law" params body scope dV kV doc pm an cdv ct), sl⟩) (e3 : codeIn K cdv "law" = true) .. : ∃ t, My.Txt K t

set_option maxRecDepth 100000 in
set_option maxHeartbeats 0 in
theorem PySem.Challenge.cw_LID_holds : PySem.Challenge.rw_LID.Holds := by
  w_on; o_law; k_head; (case hw => w_witness2)
  k_fill
  refine L2.walk_of (l := PySem.Challenge.rw_LID) (n := 63) (k := 40) (x := "script") (CX := fun w => ..) (sp := fun _ => My.sp_law) rfl (by decide) rfl ⟨rfl, by decide, by decide⟩ (fun w h Y => PySem.W.kIn_of Y) ?F ?S ?C
  case F =>
    intro w mg fa h KX G hmg
    have T : ∃ t, My.Txt (L2.KOf KX) t := by
      dsimp only [L2.KOf]                          -- K must stand as «<heap const> w.params» for k_is
      refine' My.txt_mk ?e1 ?e2 ?e3 ..
      (case e1 => PySem.W.k_is)                    -- in the order: a name -> its address -> its object -> its parts
      (case e2 => PySem.W.k_is)
      ..
    obtain ⟨t, T⟩ := T
    have e0 := hmg.symm.trans (PySem.W.mg_of KX G T.law)
    cases e0                                       -- fa is the law's own address
    exact ⟨_, fun s u => .of_eq rfl, fun base kb nb => My.law_fn T kb nb⟩     -- if «.of_eq rfl» comes too early: refine' ⟨_, ?b, fun base kb nb => My.law_fn T kb nb⟩; exact fun s u => .of_eq rfl
  case S => exact fun w H a ns hl hO hS => ..
  case C => exact ..
(the tactic k_is has no namespace: write k_is) -/

namespace L2
open PySem PySem.Spec PyProof.Rows

def defArgs (s : Stmt) : Arguments := match s with
  | .FunctionDef _ a _ _ _ _ _ _ _ _ => a
  | _ => { posonlyargs := [], args := [], vararg := none, kwonlyargs := [], kw_defaults := [], kwarg := none, defaults := [] }
def defBody (s : Stmt) : List Stmt := match s with
  | .FunctionDef _ _ b _ _ _ _ _ _ _ => b
  | _ => []
def defScope (s : Stmt) : Scope := match s with
  | .FunctionDef _ _ _ _ _ _ sc _ _ _ => sc
  | _ => { kind := .function, names := [], isGenerator := false, isCoroutine := false }

abbrev CX0 : CXT := fun _ _ _ _ _ _ => False
abbrev E0 : XK := fun _ _ _ => False
theorem pass0 {X : Cx} : Passes CX0 X E0 := fun _ _ _ _ _ _ _ h => h.elim

structure Fun (K : PySem.W.Frag) (x qual : Str) (st : Stmt) (f : Addr) (fd : FuncData) : Prop where
  ex : ∃ (oc : Value) (od : Option Addr) (kV doc pm : Value) (an : Option Addr) (cdv ct : Value) (osl : Array (Option Value)),
    fd = PySem.W.fnOf x qual (defArgs st) (defBody st) (defScope st) .none kV doc pm an cdv ct ∧ K.lookup f = some ⟨oc, od, .func fd, osl⟩ ∧ PySem.W.codeIn K cdv qual = true
  kp : PySem.W.keepIn K (.ref f) = true
section
variable {P : Program} {w : World} {K : PySem.W.Frag} {mg : Str → Option Value} {base : Heap}
theorem Fun.ok {x qual : Str} {st : Stmt} {f : Addr} {fd : FuncData} {N ps : List Str} {k : Nat} {sp : Sp} (F : Fun K x qual st f fd) (S : FnScope N ps (defScope st)) (len : ∀ vs H Q E, sp vs H Q E → vs.length = ps.length)
    (hbody : ∀ (cdv : Value) (A : Around) (outer : List Env) (s : Shared) (H : Hp) (vs : List V) (Q : VK) (E : XK), Room k (A.deeper (envOfC qual (defScope st) s.heap.objs.size f cdv)) → sp vs H Q E →
      ∃ t, PSs (cxOf CX0 P w K mg base N qual (defScope st) f cdv A outer s H E).nox (defBody st) t ∧ t { nx := fun _ H' => Q .non H', rt := Q } (start N vs) H) : FnOk P w K mg base CX0 (k + 1) f fd ps sp := by
  obtain ⟨oc, od, kV, doc, pm, an, cdv, ct, osl, rfl, lk, hcd⟩ := F.ex
  refine fn_of lk hcd S len fun A outer s H vs Q E hr hsp => ?_
  obtain ⟨t, h, q⟩ := hbody cdv A outer s H vs Q E hr hsp
  exact ⟨t, h.nox, q⟩
theorem Fun.binds {x qual : Str} {st : Stmt} {f : Addr} {fd : FuncData} {ps : List Str} (F : Fun K x qual st f fd)
    (h : ∀ (kV doc pm : Value) (an : Option Addr) (cdv ct : Value) (us : List Value), us.length = ps.length → bindArgs (PySem.W.fnOf x qual (defArgs st) (defBody st) (defScope st) .none kV doc pm an cdv ct) ⟨us, []⟩ = pure (ps.zip us)) : Binds K fd ps [] := by
  obtain ⟨oc, od, kV, doc, pm, an, cdv, ct, osl, rfl, lk, hcd⟩ := F.ex
  exact .all (h kV doc pm an cdv ct)
theorem fun_mk {x qual : Str} {st : Stmt} {f : Addr} {oc : Value} {od an : Option Addr} {osl : Array (Option Value)} {kV doc pm cdv ct : Value} (l : K.lookup f = some ⟨oc, od, .func (PySem.W.fnOf x qual (defArgs st) (defBody st) (defScope st) .none kV doc pm an cdv ct), osl⟩)
    (c : PySem.W.codeIn K cdv qual = true) (k : PySem.W.keepIn K (.ref f) = true) : Fun K x qual st f (PySem.W.fnOf x qual (defArgs st) (defBody st) (defScope st) .none kV doc pm an cdv ct) := ⟨⟨oc, od, kV, doc, pm, an, cdv, ct, osl, rfl, l, c⟩, k⟩
end
theorem hu_of {A : Around} {k : Nat} (hr : Room k A) : A.units + 1 < cLine := Nat.lt_of_le_of_lt (Nat.add_le_add_left (by decide : 1 ≤ 64) _) hr.units
theorem small1000 {n : Nat} (h : n ≤ 1000) : n < sizeLine := Nat.lt_of_le_of_lt h (by decide)

section
variable {X : Cx}
theorem pv (i : Nat) {x : Str} {pos : Pos} (hN : X.N[i]? = some x := by rfl) (hv : Vis X.env.scope x := by first | exact Or.inl rfl | exact Or.inr (Or.inl rfl) | exact Or.inr (Or.inr rfl)) (hd : (x == ("__debug__" : Str)) = false := by decide)
    (hcd : (x == ("__classdict__" : Str)) = false := by decide) : PE X (.Name x pos) (tVar i) := pe_var hN hv hd hcd
theorem call_lenD : CallR X (.builtin "len") (fun xs H Q => ∃ a kvs, xs = [V.ref a] ∧ H a = some (.dK kvs) ∧ Q (.int kvs.length) H) := by
  intro pins s σ H xs us Q I r h
  obtain ⟨a, kvs, rfl, ha, q⟩ := h
  obtain ⟨u, rfl, ru⟩ := vals1 r
  cases ru
  exact d_len I (.inl ha) fun t s' I' => ⟨.int kvs.length, H, I', ⟨t, rfl⟩, q⟩
end

theorem iteF {A B : Prop} (h : B) : if false = true then A else B := by
  rw [if_neg Bool.false_ne_true]
  exact h
theorem iteT {A B : Prop} (h : A) : if true = true then A else B := by
  rw [if_pos rfl]
  exact h
theorem ite2 {c A B : Prop} [Decidable c] (h1 : c → A) (h2 : ¬ c → B) : if c then A else B := by
  by_cases h : c
  · rw [if_pos h]
    exact h1 h
  · rw [if_neg h]
    exact h2 h
theorem iteNS {c A B : Prop} [Decidable c] (hc : c) (h : B) : if (!decide c) = true then A else B := by
  rw [decide_eq_true hc]
  exact iteF h

def Same (H H' : Hp) : Prop := ∀ b o, H b = some o → H' b = some o
theorem Same.refl (H : Hp) : Same H H := fun _ _ h => h
theorem Same.trans {H H1 H2 : Hp} (a : Same H H1) (b : Same H1 H2) : Same H H2 := fun c o h => b c o (a c o h)
theorem Same.free {H H' : Hp} (e : Same H H') {l : Addr} (h : H' l = Option.none) : H l = Option.none := by
  cases q : H l with
  | none => rfl
  | some o =>
    rw [e l o q] at h
    cases h
theorem Same.seq {K : PySem.W.Frag} {H H' : Hp} {a : Addr} {xs : List V} (e : Same H H') (h : SqL K H a xs) : SqL K H' a xs := by
  rcases h with (h | ⟨o, h⟩) | h
  · exact .inl (.inl (e _ _ h))
  · exact .inl (.inr ⟨o, e _ _ h⟩)
  · exact .inr h

section
variable {κ : Type} [DecidableEq κ]
end
end L2

set_option maxHeartbeats 4000000

namespace Sh
section
variable {α β : Type} [DecidableEq α] [DecidableEq β]
def dd (l : List α) : List α := l.foldl (fun s x => if x ∈ s then s else s ++ [x]) []
def nm (l : List α) : List Nat := l.map fun x => (dd l).idxOf x
theorem dd_nil : dd ([] : List α) = [] := rfl
theorem dd_snoc (l : List α) (x : α) : dd (l ++ [x]) = if x ∈ dd l then dd l else dd l ++ [x] := by
  unfold dd
  rw [List.foldl_append]
  rfl
theorem snoc_ind {γ : Type} {P : List γ → Prop} (h0 : P []) (h1 : ∀ l x, P l → P (l ++ [x])) (l : List γ) : P l := by
  have : ∀ r : List γ, P r.reverse := by
    intro r
    induction r with
    | nil => exact h0
    | cons a r ih => rw [List.reverse_cons]; exact h1 _ _ ih
  have h := this l.reverse
  rw [List.reverse_reverse] at h
  exact h
theorem mem_dd {l : List α} {x : α} : x ∈ dd l ↔ x ∈ l := by
  induction l using snoc_ind with
  | h0 => simp [dd_nil]
  | h1 l y ih =>
    rw [dd_snoc]
    split
    · rename_i h
      rw [ih, List.mem_append, List.mem_singleton]
      constructor
      · exact Or.inl
      · rintro (h' | rfl)
        · exact h'
        · exact ih.mp h
    · rw [List.mem_append, List.mem_append, ih]
theorem nodup_dd (l : List α) : (dd l).Nodup := by
  induction l using snoc_ind with
  | h0 => simp [dd_nil]
  | h1 l y ih =>
    rw [dd_snoc]
    split
    · exact ih
    · rename_i h
      rw [List.nodup_append]
      refine ⟨ih, by simp, ?_⟩
      intro a ha b hb
      rw [List.mem_singleton] at hb
      subst hb
      intro e
      subst e
      exact h ha
theorem idx_snoc_mem {l : List α} {x y : α} (h : y ∈ l) : (l ++ [x]).idxOf y = l.idxOf y := by
  rw [List.idxOf_append, if_pos h]
theorem idx_snoc_new {l : List α} {x : α} (h : ¬ x ∈ l) : (l ++ [x]).idxOf x = l.length := by
  rw [List.idxOf_append, if_neg h]
  simp
theorem nm_snoc (l : List α) (x : α) : nm (l ++ [x]) = nm l ++ [if x ∈ dd l then (dd l).idxOf x else (dd l).length] := by
  unfold nm
  rw [List.map_append, dd_snoc]
  by_cases h : x ∈ dd l
  · simp only [if_pos h]
    rfl
  · simp only [if_neg h]
    congr 1
    · apply List.map_congr_left
      intro y hy
      exact idx_snoc_mem (mem_dd.mpr hy)
    · show [(dd l ++ [x]).idxOf x] = _
      rw [idx_snoc_new h]
theorem length_nm (l : List α) : (nm l).length = l.length := by simp [nm]
theorem nm_get {l : List α} {i : Nat} (h : i < l.length) : (nm l)[i]? = some ((dd l).idxOf l[i]) := by
  unfold nm
  rw [List.getElem?_map, List.getElem?_eq_getElem h]
  rfl
theorem idx_inj {l : List α} {x y : α} (hx : x ∈ l) (e : l.idxOf x = l.idxOf y) (hy : y ∈ l) : x = y := by
  have h1 := List.idxOf_lt_length_of_mem hx
  have h2 := List.idxOf_lt_length_of_mem hy
  have e1 : l[l.idxOf x]'h1 = x := List.getElem_idxOf h1
  have e2 : l[l.idxOf y]'h2 = y := List.getElem_idxOf h2
  rw [← e1, ← e2]
  simp only [e]
theorem nm_alike {l : List α} {i j : Nat} (hi : i < l.length) (hj : j < l.length) : (nm l)[i]? = (nm l)[j]? ↔ l[i] = l[j] := by
  rw [nm_get hi, nm_get hj, Option.some.injEq]
  constructor
  · intro e
    exact idx_inj (mem_dd.mpr (List.getElem_mem hi)) e (mem_dd.mpr (List.getElem_mem hj))
  · intro e
    rw [e]
def Alike (l : List α) (m : List β) : Prop := l.length = m.length ∧ ∀ i j : Nat, i < l.length → j < l.length → (l[i]? = l[j]? ↔ m[i]? = m[j]?)
theorem Alike.init {l : List α} {m : List β} {x : α} {y : β} (h : Alike (l ++ [x]) (m ++ [y])) : Alike l m := by
  obtain ⟨hl, h⟩ := h
  have hl' : l.length = m.length := by simpa using hl
  refine ⟨hl', fun i j hi hj => ?_⟩
  have q := h i j (by simp; omega) (by simp; omega)
  rwa [List.getElem?_append_left hi, List.getElem?_append_left hj, List.getElem?_append_left (by omega), List.getElem?_append_left (by omega)] at q
theorem mem_ix {γ : Type} {l : List γ} {x : γ} (h : x ∈ l) : ∃ i, i < l.length ∧ l[i]? = some x := by
  obtain ⟨i, hi, e⟩ := List.getElem_of_mem h
  exact ⟨i, hi, by rw [List.getElem?_eq_getElem hi, e]⟩
theorem Alike.symm {l : List α} {m : List β} (h : Alike l m) : Alike m l :=
  ⟨h.1.symm, fun i j hi hj => (h.2 i j (by rw [h.1]; exact hi) (by rw [h.1]; exact hj)).symm⟩
theorem Alike.last {l : List α} {m : List β} {x : α} {y : β} (h : Alike (l ++ [x]) (m ++ [y])) {i : Nat} (hi : i < l.length) (e : l[i]? = some x) : m[i]? = some y := by
  obtain ⟨hl, h⟩ := h
  have hl' : l.length = m.length := by simpa using hl
  have q := h i l.length (by simp; omega) (by simp)
  rw [List.getElem?_append_left hi, List.getElem?_append_right (Nat.le_refl _), List.getElem?_append_left (by omega), hl', List.getElem?_append_right (Nat.le_refl _)] at q
  simp only [Nat.sub_self, List.getElem?_cons_zero] at q
  exact q.mp e
theorem alike_nm_dd {l : List α} : ∀ {m : List β}, Alike l m → nm l = nm m ∧ (dd l).length = (dd m).length := by
  induction l using snoc_ind with
  | h0 =>
    intro m h
    have : m = [] := List.eq_nil_of_length_eq_zero h.1.symm
    subst this
    exact ⟨rfl, rfl⟩
  | h1 l x ih =>
    intro m h
    have hm : m ≠ [] := by
      intro e
      have := h.1
      simp [e] at this
    obtain ⟨m', y, rfl⟩ : ∃ m' y, m = m' ++ [y] := ⟨m.dropLast, m.getLast hm, (List.dropLast_concat_getLast hm).symm⟩
    obtain ⟨h1, h2⟩ := ih h.init
    have hl := h.init.1
    rw [nm_snoc, nm_snoc, dd_snoc, dd_snoc, h1]
    by_cases hx : x ∈ dd l
    · obtain ⟨i, hi, e⟩ := mem_ix (mem_dd.mp hx)
      have e2 := h.last hi e
      have hy : y ∈ dd m' := mem_dd.mpr (List.mem_of_getElem? e2)
      rw [if_pos hx, if_pos hy, if_pos hx, if_pos hy]
      refine ⟨?_, h2⟩
      have q : (nm l)[i]? = (nm m')[i]? := by rw [h1]
      rw [nm_get hi, nm_get (by omega)] at q
      have a1 : l[i] = x := by rw [List.getElem?_eq_getElem hi] at e; exact Option.some.inj e
      have a2 : m'[i]'(by omega) = y := by rw [List.getElem?_eq_getElem (by omega)] at e2; exact Option.some.inj e2
      rw [a1, a2] at q
      rw [Option.some.inj q]
    · have hy : ¬ y ∈ dd m' := fun hy => by
        obtain ⟨i, hi, e⟩ := mem_ix (mem_dd.mp hy)
        have e2 := h.symm.last hi e
        exact hx (mem_dd.mpr (List.mem_of_getElem? e2))
      rw [if_neg hx, if_neg hy, if_neg hx, if_neg hy, h2]
      refine ⟨rfl, ?_⟩
      simp [h2]
theorem nm_eq_iff {l : List α} {m : List β} : nm l = nm m ↔ Alike l m := by
  constructor
  · intro e
    have hl : l.length = m.length := by rw [← length_nm l, e, length_nm]
    refine ⟨hl, fun i j hi hj => ?_⟩
    rw [List.getElem?_eq_getElem hi, List.getElem?_eq_getElem hj, List.getElem?_eq_getElem (by omega : i < m.length), List.getElem?_eq_getElem (by omega : j < m.length)]
    rw [Option.some.injEq, Option.some.injEq, ← nm_alike hi hj, ← nm_alike (by omega) (by omega), e]
  · intro h
    exact (alike_nm_dd h).1
end
def fr (l : List Int) : Int := l.foldl (fun f m => max f (m + 1)) 0
theorem fr_snoc (l : List Int) (x : Int) : fr (l ++ [x]) = max (fr l) (x + 1) := by
  unfold fr
  rw [List.foldl_append]
  rfl
theorem fr_nonneg (l : List Int) : 0 ≤ fr l := by
  induction l using snoc_ind with
  | h0 => exact Int.le_refl 0
  | h1 l x ih => rw [fr_snoc]; omega
def Can (l : List Int) : Prop := ∀ i x, l[i]? = some x → 0 ≤ x ∧ x ≤ fr (l.take i)
theorem can_nil : Can [] := fun i x h => by simp at h
theorem can_snoc {l : List Int} {x : Int} : Can (l ++ [x]) ↔ Can l ∧ 0 ≤ x ∧ x ≤ fr l := by
  constructor
  · intro h
    refine ⟨fun i y e => ?_, ?_⟩
    · have hi : i < l.length := (List.getElem?_eq_some_iff.mp e).1
      have q := h i y (by rw [List.getElem?_append_left hi]; exact e)
      rwa [List.take_append_of_le_length (by omega)] at q
    · have q := h l.length x (by simp)
      rwa [List.take_append_of_le_length (Nat.le_refl _), List.take_length] at q
  · rintro ⟨h, h1, h2⟩ i y e
    by_cases hi : i < l.length
    · rw [List.getElem?_append_left hi] at e
      rw [List.take_append_of_le_length (by omega)]
      exact h i y e
    · have hl : i < (l ++ [x]).length := (List.getElem?_eq_some_iff.mp e).1
      have : i = l.length := by simp at hl; omega
      subst this
      have : y = x := by simpa using e.symm
      subst this
      rw [List.take_append_of_le_length (Nat.le_refl _), List.take_length]
      exact ⟨h1, h2⟩
def upto (n : Nat) : List Int := (List.range n).map Int.ofNat
theorem mem_upto {n : Nat} {x : Int} : x ∈ upto n ↔ 0 ≤ x ∧ x < n := by
  unfold upto
  rw [List.mem_map]
  constructor
  · rintro ⟨k, hk, rfl⟩
    have := List.mem_range.mp hk
    exact ⟨Int.natCast_nonneg _, by show ((k : Nat) : Int) < n; omega⟩
  · rintro ⟨h0, h1⟩
    exact ⟨x.toNat, List.mem_range.mpr (by omega), by show ((x.toNat : Nat) : Int) = x; omega⟩
theorem upto_succ (n : Nat) : upto (n + 1) = upto n ++ [(n : Int)] := by
  unfold upto
  rw [List.range_succ, List.map_append]
  rfl
theorem length_upto (n : Nat) : (upto n).length = n := by simp [upto]
theorem idx_upto {n : Nat} {x : Int} (h0 : 0 ≤ x) (h1 : x < n) : (((upto n).idxOf x : Nat) : Int) = x := by
  induction n with
  | zero => omega
  | succ n ih =>
    rw [upto_succ]
    by_cases h : x < n
    · rw [List.idxOf_append, if_pos (mem_upto.mpr ⟨h0, h⟩)]
      exact ih h
    · have e : x = n := by omega
      subst e
      rw [List.idxOf_append, if_neg (fun q => by have := (mem_upto.mp q).2; omega), length_upto]
      simp
theorem can_dd {l : List Int} (h : Can l) : dd l = upto (fr l).toNat := by
  induction l using snoc_ind with
  | h0 => rfl
  | h1 l x ih =>
    obtain ⟨h, h1, h2⟩ := can_snoc.mp h
    have q := ih h
    have z := fr_nonneg l
    rw [dd_snoc, fr_snoc, q]
    by_cases hx : x < fr l
    · rw [if_pos (mem_upto.mpr ⟨h1, by omega⟩)]
      congr 1
      omega
    · rw [if_neg (fun e => by have := (mem_upto.mp e).2; omega)]
      have e : x = fr l := by omega
      have e2 : (max (fr l) (x + 1)).toNat = (fr l).toNat + 1 := by omega
      rw [e2, upto_succ]
      congr 2
      omega
theorem can_nm {l : List Int} (h : Can l) : (nm l).map Int.ofNat = l := by
  induction l using snoc_ind with
  | h0 => rfl
  | h1 l x ih =>
    obtain ⟨h, h1, h2⟩ := can_snoc.mp h
    rw [nm_snoc, List.map_append, ih h, can_dd h]
    have z := fr_nonneg l
    congr 1
    by_cases hx : x < fr l
    · rw [if_pos (mem_upto.mpr ⟨h1, by omega⟩)]
      show [(((upto (fr l).toNat).idxOf x : Nat) : Int)] = _
      rw [idx_upto h1 (by omega)]
    · rw [if_neg (fun e => by have := (mem_upto.mp e).2; omega), length_upto]
      show [(((fr l).toNat : Nat) : Int)] = _
      congr 1
      omega
def mk {α : Type} [DecidableEq α] (l : List α) : List Int := (nm l).map Int.ofNat
theorem fr_mk {α : Type} [DecidableEq α] (l : List α) : fr (mk l) = (dd l).length ∧ Can (mk l) := by
  induction l using snoc_ind with
  | h0 => exact ⟨rfl, can_nil⟩
  | h1 l x ih =>
    obtain ⟨h1, h2⟩ := ih
    unfold mk at h1 h2 ⊢
    rw [nm_snoc, List.map_append, dd_snoc]
    have e : List.map Int.ofNat [if x ∈ dd l then (dd l).idxOf x else (dd l).length] = [((if x ∈ dd l then (dd l).idxOf x else (dd l).length : Nat) : Int)] := rfl
    rw [e, fr_snoc, can_snoc, h1]
    by_cases hx : x ∈ dd l
    · have q := List.idxOf_lt_length_of_mem hx
      simp only [if_pos hx]
      refine ⟨by omega, h2, by omega, by omega⟩
    · simp only [if_neg hx, List.length_append, List.length_singleton]
      refine ⟨by omega, h2, by omega, by omega⟩
theorem can_mk {α : Type} [DecidableEq α] (l : List α) : Can (mk l) := (fr_mk l).2
theorem length_mk {α : Type} [DecidableEq α] (l : List α) : (mk l).length = l.length := by simp [mk, length_nm]
theorem mk_can {l : List Int} (h : Can l) : mk l = l := can_nm h
theorem ofNat_map_inj : ∀ {a b : List Nat}, a.map Int.ofNat = b.map Int.ofNat → a = b
  | [], [], _ => rfl
  | [], _ :: _, e => by simp at e
  | _ :: _, [], e => by simp at e
  | x :: a, y :: b, e => by
    rw [List.map_cons, List.map_cons, List.cons.injEq] at e
    rw [ofNat_map_inj e.2]
    congr 1
    exact Int.ofNat.inj e.1
theorem mk_eq_iff {α β : Type} [DecidableEq α] [DecidableEq β] {l : List α} {m : List β} : mk l = mk m ↔ Alike l m := by
  rw [← nm_eq_iff]
  exact ⟨ofNat_map_inj, fun e => by unfold mk; rw [e]⟩
def Fin (a b : List Int) : Prop := ∀ i j : Nat, i < a.length → j < a.length → a[i]? = a[j]? → b[i]? = b[j]?
end Sh

namespace Sh
def goodB : Int → List Int → Bool
  | _, [] => true
  | f, m :: r => if m < 0 ∨ f < m then false else goodB (if m = f then f + 1 else f) r
theorem goodB_cons (f m : Int) (r : List Int) : goodB f (m :: r) = if m < 0 ∨ f < m then false else goodB (if m = f then f + 1 else f) r := rfl
def isSh (ns : List Int) : Bool := decide (1 ≤ ns.length ∧ ns.length ≤ 12) && goodB 0 ns
theorem goodB_iff (f : Int) (l p : List Int) (hp : Can p) (hf : f = fr p) : goodB f l = true ↔ Can (p ++ l) := by
  induction l generalizing f p with
  | nil => simp [goodB, hp]
  | cons m r ih =>
    unfold goodB
    by_cases c : m < 0 ∨ f < m
    · rw [if_pos c]
      simp only [Bool.false_eq_true, false_iff]
      intro h
      have q := h p.length m (by simp)
      rw [List.take_append_of_le_length (Nat.le_refl _), List.take_length] at q
      omega
    · rw [if_neg c]
      have hp' : Can (p ++ [m]) := can_snoc.mpr ⟨hp, by omega, by omega⟩
      have hf' : (if m = f then f + 1 else f) = fr (p ++ [m]) := by
        rw [fr_snoc]
        split <;> omega
      rw [ih _ (p ++ [m]) hp' hf', List.append_assoc]
      rfl
theorem goodB_can (l : List Int) : goodB 0 l = true ↔ Can l := goodB_iff 0 l [] can_nil rfl
theorem isSh_of {ns : List Int} (h : Can ns) (h1 : 1 ≤ ns.length) (h2 : ns.length ≤ 12) : isSh ns = true := by
  unfold isSh
  rw [(goodB_can ns).mpr h, decide_eq_true ⟨h1, h2⟩]
  rfl
theorem isSh_can {ns : List Int} (h : isSh ns = true) : Can ns ∧ 1 ≤ ns.length ∧ ns.length ≤ 12 := by
  unfold isSh at h
  rw [Bool.and_eq_true] at h
  exact ⟨(goodB_can ns).mp h.2, of_decide_eq_true h.1⟩
def cell (ns : List Int) (k : Int) : Int := ns.getD k.toNat 0
theorem length_dd_le {α : Type} [DecidableEq α] (l : List α) : (dd l).length ≤ l.length := by
  induction l using snoc_ind with
  | h0 => exact Nat.le_refl _
  | h1 l x ih =>
    rw [dd_snoc]
    split
    · rw [List.length_append]; omega
    · rw [List.length_append, List.length_append]; simpa using ih
theorem pick_ok {f c : Int} (hf : 0 ≤ f) {k : Nat} {x : Int} (h : [c % (f + 1), 0, f, c % 3 % (f + 1)][k]? = some x) : 0 ≤ x ∧ x ≤ f := by
  have a1 := Int.emod_nonneg c (by omega : f + 1 ≠ 0)
  have a2 := Int.emod_lt_of_pos c (by omega : 0 < f + 1)
  have a3 := Int.emod_nonneg (c % 3) (by omega : f + 1 ≠ 0)
  have a4 := Int.emod_lt_of_pos (c % 3) (by omega : 0 < f + 1)
  match k with
  | 0 => simp at h; omega
  | 1 => simp at h; omega
  | 2 => simp at h; omega
  | 3 => simp at h; omega
  | k + 4 => simp at h
end Sh

namespace Sh
def Rel (c : List Int) (i j : Nat) : Prop := c[i]? = c[j]?
theorem Rel.symm {c : List Int} {i j : Nat} (h : Rel c i j) : Rel c j i := Eq.symm h
theorem Rel.trans {c : List Int} {i j k : Nat} (h : Rel c i j) (h' : Rel c j k) : Rel c i k := Eq.trans h h'
inductive Conn (a b : List Int) : Nat → Nat → Prop
  | refl (i : Nat) : Conn a b i i
  | one {i j : Nat} : i < a.length → j < a.length → Rel a i j → Conn a b i j
  | two {i j : Nat} : i < a.length → j < a.length → Rel b i j → Conn a b i j
  | trans {i j k : Nat} : Conn a b i j → Conn a b j k → Conn a b i k
theorem Conn.symm {a b : List Int} {i j : Nat} (h : Conn a b i j) : Conn a b j i := by
  induction h with
  | refl i => exact .refl i
  | one h1 h2 h => exact .one h2 h1 h.symm
  | two h1 h2 h => exact .two h2 h1 h.symm
  | trans _ _ ih1 ih2 => exact .trans ih2 ih1
theorem conn_le {a b c : List Int} {i j : Nat} (h1 : ∀ i j, i < a.length → j < a.length → Rel a i j → Rel c i j) (h2 : ∀ i j, i < a.length → j < a.length → Rel b i j → Rel c i j) (h : Conn a b i j) : Rel c i j := by
  induction h with
  | refl i => rfl
  | one x y z => exact h1 _ _ x y z
  | two x y z => exact h2 _ _ x y z
  | trans _ _ ih1 ih2 => exact ih1.trans ih2
theorem mk_alike {α : Type} [DecidableEq α] (l : List α) : Alike l (mk l) := by
  rw [← mk_eq_iff]
  exact (mk_can (can_mk l)).symm
theorem rel_mk {α : Type} [DecidableEq α] (l : List α) {i j : Nat} (hi : i < l.length) (hj : j < l.length) : Rel (mk l) i j ↔ l[i]? = l[j]? := ((mk_alike l).2 i j hi hj).symm
def sub (p q m : Int) : Int := if m = q then p else m
def stp (c : List Int) (p q : Int) : List Int := mk (c.map (sub p q))
theorem length_stp (c : List Int) (p q : Int) : (stp c p q).length = c.length := by unfold stp; rw [length_mk, List.length_map]
theorem can_stp (c : List Int) (p q : Int) : Can (stp c p q) := can_mk _
theorem rel_stp {c : List Int} {p q : Int} {i j : Nat} (hi : i < c.length) (hj : j < c.length) : Rel (stp c p q) i j ↔ sub p q c[i] = sub p q c[j] := by
  unfold stp
  rw [rel_mk _ (by rw [List.length_map]; exact hi) (by rw [List.length_map]; exact hj), List.getElem?_map, List.getElem?_map, List.getElem?_eq_getElem hi, List.getElem?_eq_getElem hj]
  simp
theorem rel_get {c : List Int} {i j : Nat} (hi : i < c.length) (hj : j < c.length) : Rel c i j ↔ c[i] = c[j] := by
  unfold Rel
  rw [List.getElem?_eq_getElem hi, List.getElem?_eq_getElem hj, Option.some.injEq]
theorem stp_mono {c : List Int} {p q : Int} {i j : Nat} (hi : i < c.length) (hj : j < c.length) (h : Rel c i j) : Rel (stp c p q) i j := by
  rw [rel_stp hi hj, (rel_get hi hj).mp h]
def Stp (c d : List Int) : Prop := ∃ p q, p ∈ c ∧ q ∈ c ∧ p ≠ q ∧ d = stp c p q
structure Clm (a b : List Int) (cs : List (List Int)) : Prop where
  hd : cs[0]? = some a
  st : ∀ k c d, cs[k]? = some c → cs[k + 1]? = some d → Stp c d
  all : ∀ c, c ∈ cs → Can c ∧ c.length = a.length ∧ (∀ i j, i < a.length → j < a.length → Rel a i j → Rel c i j) ∧ (∀ i j, i < a.length → j < a.length → Rel c i j → Conn a b i j)
theorem Clm.start {a b : List Int} (h : Can a) : Clm a b [a] :=
  ⟨rfl, fun k c d _ h => by simp at h, fun c hc => by
    rw [List.mem_singleton] at hc
    subst hc
    exact ⟨h, rfl, fun _ _ _ _ q => q, fun i j hi hj q => .one hi hj q⟩⟩
theorem Clm.step {a b z : List Int} {cs : List (List Int)} {s t : Nat} (h : Clm a b cs) (hz : cs[cs.length - 1]? = some z) (hs : s < a.length) (ht : t < a.length) (hb : Rel b t s) {x y : Int} (hx : z[s]? = some x) (hy : z[t]? = some y) (hne : y ≠ x) :
    Clm a b (cs ++ [stp z x y]) := by
  have hm : z ∈ cs := List.mem_of_getElem? hz
  obtain ⟨z1, z2, z3, z4⟩ := h.all z hm
  have hlen : 0 < cs.length := by
    cases cs with
    | nil => simp at hm
    | cons _ _ => simp
  refine ⟨by rw [List.getElem?_append_left hlen]; exact h.hd, fun k c d h1 h2 => ?_, fun c hc => ?_⟩
  · by_cases hk : k + 1 < cs.length
    · rw [List.getElem?_append_left (by omega)] at h1
      rw [List.getElem?_append_left hk] at h2
      exact h.st k c d h1 h2
    · have hk2 : k + 1 < (cs ++ [stp z x y]).length := (List.getElem?_eq_some_iff.mp h2).1
      have ek : k + 1 = cs.length := by rw [List.length_append, List.length_singleton] at hk2; omega
      rw [List.getElem?_append_left (by omega)] at h1
      rw [ek, List.getElem?_append_right (Nat.le_refl _), Nat.sub_self] at h2
      have ed : stp z x y = d := by simpa using h2
      have ec : z = c := by
        have : k = cs.length - 1 := by omega
        rw [this, hz] at h1
        exact Option.some.inj h1
      subst ed ec
      exact ⟨x, y, List.mem_of_getElem? hx, List.mem_of_getElem? hy, fun e => hne e.symm, rfl⟩
  · rcases List.mem_append.mp hc with hc | hc
    · exact h.all c hc
    · rw [List.mem_singleton] at hc
      subst hc
      refine ⟨can_stp _ _ _, by rw [length_stp, z2], fun i j hi hj q => stp_mono (by omega) (by omega) (z3 i j hi hj q), fun i j hi hj q => ?_⟩
      rw [rel_stp (by omega) (by omega)] at q
      have rs : ∀ i, i < a.length → z[i]? = some x → Conn a b i s := fun i hi e => z4 i s hi hs (by unfold Rel; rw [e, hx])
      have rt : ∀ i, i < a.length → z[i]? = some y → Conn a b i s := fun i hi e => .trans (z4 i t hi ht (by unfold Rel; rw [e, hy])) (.two ht hs hb)
      have gi := List.getElem?_eq_getElem (show i < z.length by omega)
      have gj := List.getElem?_eq_getElem (show j < z.length by omega)
      unfold sub at q
      split at q
      · rename_i c1
        split at q
        · rename_i c2
          exact .trans (rt i hi (by rw [gi, c1])) (rt j hj (by rw [gj, c2])).symm
        · exact .trans (rt i hi (by rw [gi, c1])) (rs j hj (by rw [gj, q])).symm
      · split at q
        · rename_i c2
          exact .trans (rs i hi (by rw [gi, q])) (rt j hj (by rw [gj, c2])).symm
        · exact z4 i j hi hj (by unfold Rel; rw [gi, gj, q])
theorem stp_joins {z : List Int} {s t : Nat} {x y : Int} (hx : z[s]? = some x) (hy : z[t]? = some y) : Rel (stp z x y) t s := by
  obtain ⟨hs, es⟩ := List.getElem?_eq_some_iff.mp hx
  obtain ⟨ht, et⟩ := List.getElem?_eq_some_iff.mp hy
  rw [rel_stp ht hs, es, et]
  unfold sub
  rw [if_pos rfl]
  split <;> rfl
structure Join (a b r : List Int) : Prop where
  can : Can r
  len : r.length = a.length
  rel : ∀ i j, i < a.length → j < a.length → (Rel r i j ↔ Conn a b i j)
theorem Clm.join {a b z : List Int} {cs : List (List Int)} (h : Clm a b cs) (hz : cs[cs.length - 1]? = some z) (hb : ∀ i j, i < a.length → j < a.length → Rel b i j → Rel z i j) : Join a b z := by
  obtain ⟨z1, z2, z3, z4⟩ := h.all z (List.mem_of_getElem? hz)
  exact ⟨z1, z2, fun i j hi hj => ⟨z4 i j hi hj, fun q => conn_le z3 hb q⟩⟩
def sh1 (ms : List Int) (i : Nat) (k : Int) : List Int := ((List.range i).filter fun t => decide (ms[t]? = some k)).map Int.ofNat
def shs (ms : List Int) : List (List Int) := (List.range (fr ms).toNat).map fun k => sh1 ms ms.length ((k : Nat) : Int)
theorem mem_sh1 {ms : List Int} {i : Nat} {k x : Int} : x ∈ sh1 ms i k ↔ ∃ t : Nat, x = (t : Int) ∧ t < i ∧ ms[t]? = some k := by
  unfold sh1
  rw [List.mem_map]
  constructor
  · rintro ⟨t, ht, rfl⟩
    rw [List.mem_filter, List.mem_range] at ht
    exact ⟨t, rfl, ht.1, of_decide_eq_true ht.2⟩
  · rintro ⟨t, rfl, ht, e⟩
    exact ⟨t, by rw [List.mem_filter, List.mem_range]; exact ⟨ht, decide_eq_true e⟩, rfl⟩
theorem sh1_succ (ms : List Int) (i : Nat) (k : Int) : sh1 ms (i + 1) k = sh1 ms i k ++ (if ms[i]? = some k then [(i : Int)] else []) := by
  unfold sh1
  rw [List.range_succ, List.filter_append, List.map_append]
  congr 1
  by_cases h : ms[i]? = some k
  · simp [h]
  · simp [h]
theorem shs_len (ms : List Int) : (shs ms).length = (fr ms).toNat := by simp [shs]
theorem shs_get {ms : List Int} {k : Nat} (h : k < (fr ms).toNat) : (shs ms)[k]? = some (sh1 ms ms.length (k : Int)) := by
  unfold shs
  rw [List.getElem?_map, List.getElem?_range h]
  rfl
theorem lt_fr {l : List Int} : ∀ x ∈ l, x < fr l := by
  induction l using snoc_ind with
  | h0 => intro x hx; simp at hx
  | h1 l y ih =>
    intro x hx
    rw [fr_snoc]
    rcases List.mem_append.mp hx with h | h
    · have := ih x h; omega
    · rw [List.mem_singleton] at h; omega
theorem fr_le {l : List Int} {m : Int} (h0 : 0 ≤ m) (h : ∀ x ∈ l, x < m) : fr l ≤ m := by
  induction l using snoc_ind with
  | h0 => exact h0
  | h1 l y ih =>
    rw [fr_snoc]
    have h1 := ih fun x hx => h x (List.mem_append_left _ hx)
    have h2 := h y (by simp)
    omega
theorem fr_max {l : List Int} {M : Int} (hM : M ∈ l) (h : ∀ b, b ∈ l → b ≤ M) (h0 : 0 ≤ M) : fr l = M + 1 := by
  have h1 := lt_fr M hM
  have h2 := fr_le (l := l) (m := M + 1) (by omega) (fun x hx => by have := h x hx; omega)
  omega
theorem can_nonneg {l : List Int} (h : Can l) : ∀ x ∈ l, 0 ≤ x := fun x hx => by
  obtain ⟨i, hi, e⟩ := mem_ix hx
  exact (h i x e).1
theorem can_has {l : List Int} (h : Can l) {k : Int} (h0 : 0 ≤ k) (h1 : k < fr l) : k ∈ l := by
  have : k ∈ dd l := by rw [can_dd h]; exact mem_upto.mpr ⟨h0, by omega⟩
  exact mem_dd.mp this
theorem nodup_sub {α : Type} [DecidableEq α] : ∀ {l m : List α}, l.Nodup → (∀ x, x ∈ l → x ∈ m) → l.length ≤ m.length
  | [], _, _, _ => Nat.zero_le _
  | x :: l, m, h, s => by
    rw [List.nodup_cons] at h
    have hx := s x (by simp)
    have q := nodup_sub (l := l) (m := m.erase x) h.2 fun y hy => (List.mem_erase_of_ne (fun (e : y = x) => h.1 (by rw [← e]; exact hy))).mpr (s y (by simp [hy]))
    have z := List.length_erase_of_mem hx
    have : 0 < m.length := List.length_pos_of_mem hx
    rw [List.length_cons]
    omega
theorem nodup_len {α : Type} [DecidableEq α] {l m : List α} (h1 : l.Nodup) (h2 : m.Nodup) (s : ∀ x, x ∈ l ↔ x ∈ m) : l.length = m.length :=
  Nat.le_antisymm (nodup_sub h1 fun x => (s x).mp) (nodup_sub h2 fun x => (s x).mpr)
theorem stp_dd {c : List Int} {p q : Int} (hp : p ∈ c) (hq : q ∈ c) (hne : p ≠ q) : (dd (c.map (sub p q))).length + 1 = (dd c).length := by
  have hq' : q ∈ dd c := mem_dd.mpr hq
  have e : (dd (c.map (sub p q))).length = ((dd c).erase q).length := by
    refine nodup_len (nodup_dd _) ((nodup_dd c).erase q) fun x => ?_
    rw [mem_dd, List.mem_map, List.Nodup.mem_erase_iff (nodup_dd c), mem_dd]
    constructor
    · rintro ⟨y, hy, rfl⟩
      unfold sub
      split
      · exact ⟨hne, hp⟩
      · rename_i h
        exact ⟨h, hy⟩
    · rintro ⟨h1, h2⟩
      exact ⟨x, h2, if_neg h1⟩
  have z := List.length_erase_of_mem hq'
  have : 0 < (dd c).length := List.length_pos_of_mem hq'
  omega
theorem dd_mk {α : Type} [DecidableEq α] (l : List α) : (dd (mk l)).length = (dd l).length := by
  rw [can_dd (can_mk l), length_upto, (fr_mk l).1]
  omega
theorem Stp.dd {c d : List Int} (h : Stp c d) : (dd d).length + 1 = (dd c).length := by
  obtain ⟨p, q, hp, hq, hne, rfl⟩ := h
  unfold stp
  rw [dd_mk]
  exact stp_dd hp hq hne
theorem Clm.dd {a b : List Int} {cs : List (List Int)} (h : Clm a b cs) : ∀ (k : Nat) (c : List Int), cs[k]? = some c → (dd c).length + k = (dd a).length
  | 0, c, e => by
    have := h.hd
    rw [this] at e
    cases e
    rfl
  | k + 1, d, e => by
    have hk : k + 1 < cs.length := (List.getElem?_eq_some_iff.mp e).1
    have e0 := List.getElem?_eq_getElem (show k < cs.length by omega)
    have q := h.dd k _ e0
    have s := (h.st k _ d e0 e).dd
    omega
theorem Clm.bound {a b : List Int} {cs : List (List Int)} (h : Clm a b cs) : cs.length ≤ a.length + 1 := by
  by_cases hl : cs.length = 0
  · omega
  · have e0 := List.getElem?_eq_getElem (show cs.length - 1 < cs.length by omega)
    have q := h.dd _ _ e0
    have := length_dd_le a
    omega
end Sh

namespace Sh
theorem Fin.trans {a b c : List Int} (hl : a.length = b.length) (h1 : Fin a b) (h2 : Fin b c) : Fin a c := fun i j hi hj e => h2 i j (by omega) (by omega) (h1 i j hi hj e)
theorem Fin.refl (a : List Int) : Fin a a := fun _ _ _ _ e => e
theorem Join.left {a b r : List Int} (h : Join a b r) : Fin a r := fun i j hi hj e => (h.rel i j hi hj).mpr (.one hi hj e)
theorem Join.right {a b r : List Int} (hl : a.length = b.length) (h : Join a b r) : Fin b r := fun i j hi hj e => (h.rel i j (by omega) (by omega)).mpr (.two (by omega) (by omega) e)
structure Nm (a b : List Int) (ns : List Int) : Prop where
  len : ns.length = a.length
  ok : ∀ (i : Nat) (x : Int), ns[i]? = some x → 0 ≤ x ∧ x < (a.length : Int) ∧ Conn a b i x.toNat
def Both (a b : List Int) (i j : Nat) : Prop := Rel a i j ∨ Rel b i j
theorem Nm.set {a b ns : List Int} (h : Nm a b ns) {i j : Nat} {x : Int} (hi : i < a.length) (hj : j < a.length) (hx : ns[i]? = some x) (hb : Both a b i j) : Nm a b (ns.set j x) := by
  refine ⟨by rw [List.length_set]; exact h.len, fun k y e => ?_⟩
  rw [List.getElem?_set] at e
  split at e
  · rename_i ek
    subst ek
    rw [if_pos (by rw [h.len]; exact hj)] at e
    cases e
    obtain ⟨h1, h2, h3⟩ := h.ok i x hx
    refine ⟨h1, h2, .trans (Conn.symm ?_) h3⟩
    rcases hb with z | z
    · exact .one hi hj z
    · exact .two hi hj z
  · exact h.ok k y e
end Sh

namespace Sh
def Shs (css : List (List Int)) : Prop := (∀ c ∈ css, c ≠ []) ∧ 1 ≤ css.flatten.length ∧ css.flatten.length ≤ 12 ∧ css.flatten.Perm (upto css.flatten.length)
theorem upto_nodup (n : Nat) : (upto n).Nodup := by
  unfold upto List.Nodup
  exact List.Pairwise.map _ (fun a b h e => h (Int.ofNat.inj e)) List.nodup_range
theorem upto_sorted (n : Nat) : (upto n).Pairwise (· ≤ ·) := by
  unfold upto
  exact List.Pairwise.map _ (fun a b h => Int.ofNat_le.mpr h) List.pairwise_le_range
theorem sorted_upto {ms l : List Int} {n : Nat} (h : ms.Perm l) (hs : ms.Pairwise (· ≤ ·)) : ms = upto n ↔ l.Perm (upto n) := by
  constructor
  · intro e
    rw [← e]
    exact h.symm
  · intro q
    exact List.Perm.eq_of_pairwise (le := (· ≤ ·)) (fun a b _ _ h1 h2 => Int.le_antisymm h1 h2) hs (upto_sorted n) (h.trans q)
theorem sh1_nodup (ms : List Int) (i : Nat) (k : Int) : (sh1 ms i k).Nodup := by
  unfold sh1 List.Nodup
  exact List.Pairwise.map _ (fun a b h e => h (Int.ofNat.inj e)) (List.Pairwise.filter _ List.nodup_range)
theorem mem_shs {ns c : List Int} : c ∈ shs ns ↔ ∃ k : Nat, k < (fr ns).toNat ∧ c = sh1 ns ns.length (k : Int) := by
  unfold shs
  rw [List.mem_map]
  constructor
  · rintro ⟨k, hk, rfl⟩
    exact ⟨k, List.mem_range.mp hk, rfl⟩
  · rintro ⟨k, hk, rfl⟩
    exact ⟨k, List.mem_range.mpr hk, rfl⟩
theorem shs_ne {ns : List Int} (h : Can ns) : ∀ c ∈ shs ns, c ≠ [] := by
  intro c hc
  obtain ⟨k, hk, rfl⟩ := mem_shs.mp hc
  have hm := can_has h (k := (k : Int)) (by omega) (by omega)
  obtain ⟨t, ht, e⟩ := mem_ix hm
  intro z
  have : ((t : Nat) : Int) ∈ sh1 ns ns.length (k : Int) := mem_sh1.mpr ⟨t, rfl, ht, e⟩
  rw [z] at this
  simp at this
theorem shs_nodup (ns : List Int) : (shs ns).flatten.Nodup := by
  unfold List.Nodup
  rw [List.pairwise_flatten]
  constructor
  · intro c hc
    obtain ⟨k, hk, rfl⟩ := mem_shs.mp hc
    exact sh1_nodup _ _ _
  · unfold shs
    rw [List.pairwise_map]
    refine List.Pairwise.imp (fun {a b} hab x hx y hy e => ?_) (List.nodup_range (n := (fr ns).toNat))
    subst e
    obtain ⟨t, e1, h1, h2⟩ := mem_sh1.mp hx
    obtain ⟨t', e1', h1', h2'⟩ := mem_sh1.mp hy
    have : t = t' := by omega
    subst this
    rw [h2] at h2'
    have := Option.some.inj h2'
    exact hab (by omega)
theorem mem_flat {ns : List Int} (h : Can ns) {x : Int} : x ∈ (shs ns).flatten ↔ x ∈ upto ns.length := by
  rw [List.mem_flatten, mem_upto]
  constructor
  · rintro ⟨c, hc, hx⟩
    obtain ⟨k, hk, rfl⟩ := mem_shs.mp hc
    obtain ⟨t, e1, h1, h2⟩ := mem_sh1.mp hx
    omega
  · rintro ⟨h0, h1⟩
    have ht : x.toNat < ns.length := by omega
    have e := List.getElem?_eq_getElem ht
    have z0 := can_nonneg h _ (List.getElem_mem ht)
    have z1 := lt_fr _ (List.getElem_mem ht)
    refine ⟨_, mem_shs.mpr ⟨(ns[x.toNat]).toNat, by omega, rfl⟩, mem_sh1.mpr ⟨x.toNat, by omega, ht, ?_⟩⟩
    rw [e]
    congr 1
    omega
theorem shs_flat {ns : List Int} (h : Can ns) : (shs ns).flatten.Perm (upto ns.length) :=
  (List.perm_ext_iff_of_nodup (shs_nodup ns) (upto_nodup _)).mpr fun x => mem_flat h
def Labs (css : List (List Int)) (labs : List Int) : Prop := labs.length = css.flatten.length ∧ ∀ (t k : Nat) (c : List Int), css[k]? = some c → (t : Int) ∈ c → labs[t]? = some (k : Int)
end Sh

namespace Sh
def gS : Nat → Int
  | 0 => 1
  | 1 => 1
  | m + 2 => gS (m + 1) * (-((m + 1 : Nat) : Int))
def prodI : List Int → Int
  | [] => 1
  | x :: r => x * prodI r
def mu (row : List Int) : Int := prodI ((List.range (fr row).toNat).map fun (k : Nat) => gS (row.count (k : Int)))
end Sh

namespace Sh
end Sh

namespace Sh
def W : Nat → Int → Int
  | 0, _ => 1
  | f + 1, s => s * W f s + W f (s + 1)
def num : Int → List Int → Int
  | _, [] => 0
  | s, m :: r => m * W r.length s + num (max s (m + 1)) r
end Sh

namespace Sh
inductive PC (ps : List (Nat × Nat)) : Nat → Nat → Prop
  | refl (i : Nat) : PC ps i i
  | pair {p : Nat × Nat} : p ∈ ps → PC ps p.1 p.2
  | symm {i j : Nat} : PC ps i j → PC ps j i
  | trans {i j k : Nat} : PC ps i j → PC ps j k → PC ps i k
theorem PC.le {ps : List (Nat × Nat)} {R : Nat → Nat → Prop} (h1 : ∀ i, R i i) (h2 : ∀ i j, R i j → R j i) (h3 : ∀ i j k, R i j → R j k → R i k) (h : ∀ p ∈ ps, R p.1 p.2) {i j : Nat} (q : PC ps i j) : R i j := by
  induction q with
  | refl i => exact h1 i
  | pair hp => exact h _ hp
  | symm _ ih => exact h2 _ _ ih
  | trans _ _ a b => exact h3 _ _ _ a b
theorem PC.mono {ps qs : List (Nat × Nat)} (h : ∀ p ∈ ps, p ∈ qs) {i j : Nat} (q : PC ps i j) : PC qs i j :=
  PC.le (R := PC qs) .refl (fun _ _ => .symm) (fun _ _ _ => .trans) (fun p hp => .pair (h p hp)) q
structure ShP (n : Nat) (ps : List (Nat × Nat)) (r : List Int) : Prop where
  can : Can r
  len : r.length = n
  rel : ∀ i j, i < n → j < n → (Rel r i j ↔ PC ps i j)
theorem upto_get {n i : Nat} (h : i < n) : (upto n)[i]? = some (i : Int) := by
  unfold upto
  rw [List.getElem?_map, List.getElem?_range h]
  rfl
theorem can_uptoN (n : Nat) : Can (upto n) := by
  induction n with
  | zero => exact can_nil
  | succ n ih =>
    rw [upto_succ, can_snoc]
    refine ⟨ih, by omega, ?_⟩
    have : ∀ n : Nat, fr (upto n) = n := by
      intro n
      induction n with
      | zero => rfl
      | succ n ih => rw [upto_succ, fr_snoc, ih]; omega
    rw [this]
    exact Int.le_refl _
theorem ShP.start (n : Nat) : ShP n [] (upto n) := by
  refine ⟨can_uptoN n, length_upto n, fun i j hi hj => ?_⟩
  unfold Rel
  rw [upto_get hi, upto_get hj]
  constructor
  · intro e
    have : i = j := by have := Option.some.inj e; omega
    rw [this]
    exact .refl j
  · intro q
    have := PC.le (R := fun i j => i = j) (fun _ => rfl) (fun _ _ => Eq.symm) (fun _ _ _ => Eq.trans) (fun p hp => by simp at hp) q
    rw [this]
theorem ShP.step {n : Nat} {ps : List (Nat × Nat)} {r : List Int} {p : Nat × Nat} {x y : Int} (h : ShP n ps r) (hb : ∀ q ∈ ps, q.1 < n ∧ q.2 < n) (h1 : p.1 < n) (h2 : p.2 < n) (hx : r[p.1]? = some x) (hy : r[p.2]? = some y) : ShP n (ps ++ [p]) (stp r x y) := by
  have hl := h.len
  refine ⟨can_stp _ _ _, by rw [length_stp, hl], fun i j hi hj => ?_⟩
  have mo : ∀ {i j : Nat}, PC ps i j → PC (ps ++ [p]) i j := fun q => q.mono fun a ha => List.mem_append_left _ ha
  have pp : PC (ps ++ [p]) p.1 p.2 := .pair (by simp)
  have rx : ∀ i, i < n → r[i]? = some x → PC (ps ++ [p]) i p.1 := fun i hi e => mo ((h.rel i p.1 hi h1).mp (by unfold Rel; rw [e, hx]))
  have ry : ∀ i, i < n → r[i]? = some y → PC (ps ++ [p]) i p.1 := fun i hi e => (mo ((h.rel i p.2 hi h2).mp (by unfold Rel; rw [e, hy]))).trans pp.symm
  constructor
  · intro q
    rw [rel_stp (by omega) (by omega)] at q
    have gi := List.getElem?_eq_getElem (show i < r.length by omega)
    have gj := List.getElem?_eq_getElem (show j < r.length by omega)
    unfold sub at q
    split at q
    · rename_i c1
      split at q
      · rename_i c2
        exact (ry i hi (by rw [gi, c1])).trans (ry j hj (by rw [gj, c2])).symm
      · exact (ry i hi (by rw [gi, c1])).trans (rx j hj (by rw [gj, q])).symm
    · split at q
      · rename_i c2
        exact (rx i hi (by rw [gi, q])).trans (ry j hj (by rw [gj, c2])).symm
      · exact mo ((h.rel i j hi hj).mp (by unfold Rel; rw [gi, gj, q]))
  · intro q
    refine PC.le (R := Rel (stp r x y)) (fun _ => rfl) (fun _ _ => Rel.symm) (fun _ _ _ => Rel.trans) (fun a ha => ?_) q
    rcases List.mem_append.mp ha with ha | ha
    · obtain ⟨b1, b2⟩ := hb a ha
      exact stp_mono (by omega) (by omega) ((h.rel _ _ b1 b2).mpr (.pair ha))
    · rw [List.mem_singleton] at ha
      subst ha
      exact (stp_joins hx hy).symm
structure NmP (n : Nat) (ps : List (Nat × Nat)) (ns : List Int) : Prop where
  len : ns.length = n
  ok : ∀ (i : Nat) (c : Int), ns[i]? = some c → 0 ≤ c ∧ c < n ∧ PC ps i c.toNat
theorem NmP.start (n : Nat) (ps : List (Nat × Nat)) : NmP n ps (upto n) := by
  refine ⟨length_upto n, fun i c e => ?_⟩
  have hi : i < n := by
    have := (List.getElem?_eq_some_iff.mp e).1
    rw [length_upto] at this
    exact this
  rw [upto_get hi] at e
  have := Option.some.inj e
  subst this
  exact ⟨by omega, by omega, by rw [Int.toNat_natCast]; exact .refl i⟩
theorem NmP.set {n : Nat} {ps : List (Nat × Nat)} {ns : List Int} {t : Nat} {c : Int} (h : NmP n ps ns) (h0 : 0 ≤ c) (h1 : c < n) (hp : PC ps t c.toNat) : NmP n ps (ns.set t c) := by
  refine ⟨by rw [List.length_set, h.len], fun i d e => ?_⟩
  rw [List.getElem?_set] at e
  split at e
  · rename_i et
    subst et
    split at e
    · cases e
      exact ⟨h0, h1, hp⟩
    · cases e
  · exact h.ok i d e
theorem NmP.done {n : Nat} {ps : List (Nat × Nat)} {ns : List Int} (h : NmP n ps ns) (hb : ∀ p ∈ ps, ns[p.1]? = ns[p.2]?) : ShP n ps (Sh.mk ns) := by
  refine ⟨can_mk _, by rw [length_mk, h.len], fun i j hi hj => ?_⟩
  rw [rel_mk ns (by rw [h.len]; exact hi) (by rw [h.len]; exact hj)]
  constructor
  · intro e
    have hi' : i < ns.length := by rw [h.len]; exact hi
    have hj' : j < ns.length := by rw [h.len]; exact hj
    have gi := List.getElem?_eq_getElem hi'
    have gj := List.getElem?_eq_getElem hj'
    have e' : ns[i] = ns[j] := by rw [gi, gj] at e; exact Option.some.inj e
    have a := (h.ok i _ gi).2.2
    have b := (h.ok j _ gj).2.2
    rw [e'] at a
    exact a.trans b.symm
  · exact PC.le (R := fun i j => ns[i]? = ns[j]?) (fun _ => rfl) (fun _ _ => Eq.symm) (fun _ _ _ => Eq.trans) hb
def walk (ps : List (Nat × Nat)) : Nat → List Nat → Option Nat
  | t, [] => some t
  | t, k :: w => match ps[k]? with
    | none => none
    | some p => if p.1 = t then walk ps p.2 w else if p.2 = t then walk ps p.1 w else none
end Sh

namespace L2
open PySem
def capt (cells : List (Str × Addr)) : List (Str × NameKind) → List (Str × Addr) → List (Str × Addr)
  | [], acc => acc
  | y :: r, acc => capt cells r (if (y.2 == NameKind.free) = true then (y.1, (cells.lookup y.1).getD 0) :: acc else acc)
theorem capt_closure {scope : Scope} {env : Env} (h : ∀ y ∈ scope.names, y.2 = .free → ∃ c, env.cells.lookup y.1 = some c) : closureFor scope env = pure (capt env.cells scope.names []) := by
  unfold closureFor
  simp only []
  have key : ∀ (names : List (Str × NameKind)) (acc : List (Str × Addr)), (∀ y ∈ names, y.2 = .free → ∃ c, env.cells.lookup y.1 = some c) →
      (forIn names acc fun (x : Str × NameKind) (r : List (Str × Addr)) => if (x.snd == NameKind.free) = true then do
              let a ← cellOf env x.fst
              pure (ForInStep.yield ((x.fst, a) :: r))
            else (pure (ForInStep.yield r) : Sem _)) = pure (capt env.cells names acc) := by
    intro names
    induction names with
    | nil => intro acc _; rfl
    | cons y r ih =>
      intro acc hy
      rw [List.forIn_cons]
      have ihr := fun acc' => ih acc' fun z hz => hy z (List.mem_cons_of_mem _ hz)
      by_cases e : (y.2 == NameKind.free) = true
      · have e' : y.2 = .free := by simpa using e
        obtain ⟨c, hc⟩ := hy y List.mem_cons_self e'
        have hcell : cellOf env y.1 = pure c := by unfold cellOf; rw [hc]
        rw [if_pos e, hcell]
        show (forIn r ((y.1, c) :: acc) _ : Sem _) = _
        rw [ihr]
        show pure (capt env.cells r ((y.1, c) :: acc)) = pure (capt env.cells r (if (y.2 == NameKind.free) = true then (y.1, (env.cells.lookup y.1).getD 0) :: acc else acc))
        rw [if_pos e, hc]
        rfl
      · rw [if_neg e]
        show (forIn r acc _ : Sem _) = _
        rw [ihr]
        show pure (capt env.cells r acc) = pure (capt env.cells r (if (y.2 == NameKind.free) = true then (y.1, (env.cells.lookup y.1).getD 0) :: acc else acc))
        rw [if_neg e]
  rw [key scope.names [] h]
  rfl
theorem capt_has (cells : List (Str × Addr)) : ∀ (names : List (Str × NameKind)) (acc : List (Str × Addr)) (x : Str), ((x, NameKind.free) ∈ names ∨ ∃ c, acc.lookup x = some c) → ∃ c, (capt cells names acc).lookup x = some c
  | [], acc, x, h => by
    rcases h with h | h
    · simp at h
    · exact h
  | y :: r, acc, x, h => by
    unfold capt
    refine capt_has cells r _ x ?_
    rcases h with h | ⟨c, h⟩
    · rcases List.mem_cons.mp h with e | h
      · subst e
        exact .inr ⟨(cells.lookup x).getD 0, by simp⟩
      · exact .inl h
    · right
      split
      · by_cases e : x == y.1
        · exact ⟨(cells.lookup y.1).getD 0, by rw [List.lookup_cons, e]⟩
        · exact ⟨c, by rw [List.lookup_cons]; simp [e, h]⟩
      · exact ⟨c, h⟩
theorem capt_eq (cells : List (Str × Addr)) : ∀ (names : List (Str × NameKind)) (acc : List (Str × Addr)), (∀ y c, acc.lookup y = some c → c = (cells.lookup y).getD 0) → ∀ y c, (capt cells names acc).lookup y = some c → c = (cells.lookup y).getD 0
  | [], acc, h, y, c, e => h y c e
  | z :: r, acc, h, y, c, e => by
    unfold capt at e
    refine capt_eq cells r _ (fun y' c' e' => ?_) y c e
    split at e'
    · rw [List.lookup_cons] at e'
      split at e'
      · rename_i q
        have q' : y' = z.1 := by simpa using q
        rw [q']
        exact (Option.some.inj e').symm
      · exact h y' c' e'
    · exact h y' c' e'
theorem capt_from (cells : List (Str × Addr)) : ∀ (names : List (Str × NameKind)) (acc : List (Str × Addr)) (y : Str) (c : Addr), (capt cells names acc).lookup y = some c → (∃ c', acc.lookup y = some c') ∨ (y, NameKind.free) ∈ names
  | [], acc, y, c, e => .inl ⟨c, e⟩
  | z :: r, acc, y, c, e => by
    unfold capt at e
    rcases capt_from cells r _ y c e with ⟨c', h⟩ | h
    · split at h
      · rename_i hz
        rw [List.lookup_cons] at h
        split at h
        · rename_i q
          right
          have q' : y = z.1 := by simpa using q
          have hz' : z.2 = .free := by simpa using hz
          rw [q', ← hz']
          exact List.mem_cons_self
        · exact .inl ⟨c', h⟩
      · exact .inl ⟨c', h⟩
    · exact .inr (List.mem_cons_of_mem _ h)
theorem relabel_free {env : Env} : ∀ {names : List (Str × NameKind)} {x : Str}, names.lookup x = some .free →
    (names.map fun (n, k) => if (k == NameKind.free && env.scope.kind == .function && env.kindOf n == some .cell) then (n, NameKind.cell) else (n, k)).lookup x = some .cell ∨
    (names.map fun (n, k) => if (k == NameKind.free && env.scope.kind == .function && env.kindOf n == some .cell) then (n, NameKind.cell) else (n, k)).lookup x = some .free
  | [], _, h => by simp at h
  | (n, k) :: r, x, h => by
    have ih := @relabel_free env r x
    show List.lookup x ((if (k == NameKind.free && env.scope.kind == .function && env.kindOf n == some .cell) = true then (n, NameKind.cell) else (n, k)) :: _) = _ ∨ List.lookup x ((if (k == NameKind.free && env.scope.kind == .function && env.kindOf n == some .cell) = true then (n, NameKind.cell) else (n, k)) :: _) = _
    cases hx : x == n with
    | true =>
      simp only [List.lookup_cons, hx] at h
      cases h
      split
      · left; simp [List.lookup_cons, hx]
      · right; simp [List.lookup_cons, hx]
    | false =>
      simp only [List.lookup_cons, hx] at h
      by_cases hc : (k == NameKind.free && env.scope.kind == .function && env.kindOf n == some .cell) = true
      · rw [if_pos hc]; simp only [List.lookup_cons, hx]; exact ih h
      · rw [if_neg hc]; simp only [List.lookup_cons, hx]; exact ih h
theorem of_relabel {env : Env} : ∀ {names : List (Str × NameKind)} {x : Str} {k : NameKind}, (∀ y ∈ names, y.2 ≠ .cell) → (k = .cell ∨ k = .free) →
    (names.map fun (n, k) => if (k == NameKind.free && env.scope.kind == .function && env.kindOf n == some .cell) then (n, NameKind.cell) else (n, k)).lookup x = some k → (x, NameKind.free) ∈ names
  | [], _, _, _, _, h => by simp at h
  | (n, k') :: r, x, k, hn, hk, h => by
    have ih := @of_relabel env r x k (fun y hy => hn y (List.mem_cons_of_mem _ hy)) hk
    have h' : List.lookup x ((if (k' == NameKind.free && env.scope.kind == .function && env.kindOf n == some .cell) = true then (n, NameKind.cell) else (n, k')) :: (r.map fun (n, k) => if (k == NameKind.free && env.scope.kind == .function && env.kindOf n == some .cell) then (n, NameKind.cell) else (n, k))) = some k := h
    cases hx : x == n with
    | true =>
      have e : x = n := by simpa using hx
      subst e
      by_cases hc : (k' == NameKind.free && env.scope.kind == .function && env.kindOf x == some .cell) = true
      · have : k' = .free := by
          simp only [Bool.and_eq_true] at hc
          simpa using hc.1.1
        subst this
        exact List.mem_cons_self
      · rw [if_neg hc] at h'
        simp only [List.lookup_cons, hx] at h'
        have e2 : k' = k := Option.some.inj h'
        subst e2
        rcases hk with hk | hk
        · exact absurd hk (hn (x, k') List.mem_cons_self)
        · subst hk; exact List.mem_cons_self
    | false =>
      refine List.mem_cons_of_mem _ (ih ?_)
      by_cases hc : (k' == NameKind.free && env.scope.kind == .function && env.kindOf n == some .cell) = true
      · rw [if_pos hc] at h'; simp only [List.lookup_cons, hx] at h'; exact h'
      · rw [if_neg hc] at h'; simp only [List.lookup_cons, hx] at h'; exact h'
def compOk (sc out : Scope) (N N' : List Str) (ix : List (Option Nat)) : Bool :=
  decide (sc.kind = .function) && sc.names.all (fun y => decide (y.2 ≠ .cell)) && sc.names.all (fun y => decide (y.2 = .local → sc.names.lookup y.1 = some .local))
    && sc.names.all (fun y => decide (y.2 = .free → out.names.lookup y.1 = some .cell ∨ out.names.lookup y.1 = some .free))
    && decide (ix.length = N'.length) && (ix.zip N').all fun p => match p.1 with
      | none => true
      | some i => decide (N[i]? = some p.2 ∧ sc.names.lookup p.2 = some .free)
structure CompOk (sc out : Scope) (N N' : List Str) (ix : List (Option Nat)) : Prop where
  kind : sc.kind = .function
  nocell : ∀ y ∈ sc.names, y.2 ≠ .cell
  names : ∀ y ∈ sc.names, y.2 = .local → sc.names.lookup y.1 = some .local
  out : ∀ y ∈ sc.names, y.2 = .free → out.names.lookup y.1 = some .cell ∨ out.names.lookup y.1 = some .free
  len : ix.length = N'.length
  cap : ∀ (j i : Nat) (x : Str), ix[j]? = some (some i) → N'[j]? = some x → N[i]? = some x ∧ sc.names.lookup x = some .free
theorem compOk_of {sc out : Scope} {N N' : List Str} {ix : List (Option Nat)} (h : compOk sc out N N' ix = true) : CompOk sc out N N' ix := by
  unfold compOk at h
  simp only [Bool.and_eq_true, List.all_eq_true, decide_eq_true_eq] at h
  obtain ⟨⟨⟨⟨⟨h1, h2⟩, h3⟩, h4⟩, h5⟩, h6⟩ := h
  refine ⟨h1, h2, h3, h4, h5, fun j i x e1 e2 => ?_⟩
  have q : (some i, x) ∈ ix.zip N' := by
    have : (ix.zip N')[j]? = some (some i, x) := by
      rw [List.getElem?_zip_eq_some]
      exact ⟨e1, e2⟩
    exact List.mem_of_getElem? this
  have := h6 _ q
  simpa using this
end L2

namespace ZL
open PySem
open Sem (wp)
section
variable {prog : Program} {w : World} {A : Around} {E : Value → Shared → Prop} {s : Shared}
abbrev IsZipO (h : Heap) (z TI TO : Addr) (f0 : Value) (b : Bool) : Prop :=
  h.get? z = some { cls := .type "zip", dict := none, data := .fields #[f0, .bool b, .bool false, .ref TI, .ref TO], slots := #[] }
def ZSt (z TI TO i1 i2 l1 l2 : Addr) (xs ys : Array Value) (i : Nat) (h : Heap) : Prop :=
  ((IsZip h z TI TO .none ∧ i = 0) ∨ ∃ (T : Addr) (oT : Obj) (b : Bool), IsZipO h z TI TO (rawInt T) b ∧ h.get? T = some oT ∧ T ≠ z ∧ T ≠ i1 ∧ T ≠ i2) ∧ IsPair h TI (.ref i1) (.ref i2) ∧ (∃ a b, IsPair h TO a b) ∧
    h.IsListIter i1 l1 i ∧ h.IsListIter i2 l2 i ∧ h.IsList l1 xs ∧ h.IsList l2 ys
theorem ZSt.type {z TI TO i1 i2 l1 l2 : Addr} {xs ys : Array Value} {i : Nat} (h : ZSt z TI TO i1 i2 l1 l2 xs ys i s.heap) : s.TypeIs (.ref z) "zip" := by
  rcases h.1 with ⟨hz, _⟩ | ⟨T, oT, b, hz, _⟩
  · exact ⟨_, hz, rfl⟩
  · exact ⟨_, hz, rfl⟩
theorem ZSt.keeps {z TI TO i1 i2 l1 l2 : Addr} {xs ys : Array Value} {i : Nat} {h h' : Heap} (st : ZSt z TI TO i1 i2 l1 l2 xs ys i h) (S : Addr) (hS : S ≠ z ∧ S ≠ TI ∧ S ≠ TO ∧ S ≠ i1 ∧ S ≠ i2 ∧ S ≠ l1 ∧ S ≠ l2)
    (hT : ∀ (T : Addr) (oT : Obj) (b : Bool), IsZipO h z TI TO (rawInt T) b → h.get? T = some oT → ∃ o', h'.get? T = some o')
    (k : ∀ b o, b ≠ S → h.get? b = some o → h'.get? b = some o) : ZSt z TI TO i1 i2 l1 l2 xs ys i h' := by
  obtain ⟨hz, hTI, ⟨a, b, hTO⟩, h1, h2, hl1, hl2⟩ := st
  obtain ⟨n1, n2, n3, n4, n5, n6, n7⟩ := hS
  refine ⟨?_, k _ _ n2.symm hTI, ⟨a, b, k _ _ n3.symm hTO⟩, h1.at fun o e => k _ o n4.symm e, h2.at fun o e => k _ o n5.symm e, hl1.at fun o e => k _ o n6.symm e, hl2.at fun o e => k _ o n7.symm e⟩
  rcases hz with ⟨hz, e⟩ | ⟨T, oT, bb, hz, hT', t1, t2, t3⟩
  · exact .inl ⟨k _ _ n1.symm hz, e⟩
  · obtain ⟨o', ho'⟩ := hT T oT bb hz hT'
    exact .inr ⟨T, o', bb, k _ _ n1.symm hz, ho', t1, t2, t3⟩
def Got (xs ys : Array Value) (lo : Nat) (S : Addr) (h : Heap) (i : Nat) (Ts : List Addr) : Prop :=
  Ts.length = i ∧ Ts.Nodup ∧ ∀ (j : Nat) (T : Addr), Ts[j]? = some T → lo ≤ T ∧ T < h.objs.size ∧ T ≠ S ∧ ∃ x y, xs[j]? = some x ∧ ys[j]? = some y ∧ IsPair h T x y
theorem Got.keeps {xs ys : Array Value} {lo : Nat} {S : Addr} {h h' : Heap} {i : Nat} {Ts : List Addr} (g : Got xs ys lo S h i Ts) (k : ∀ (T : Addr) o, T ∈ Ts → h.get? T = some o → h'.get? T = some o) (hs : h.objs.size ≤ h'.objs.size) : Got xs ys lo S h' i Ts := by
  obtain ⟨g1, g2, g3⟩ := g
  refine ⟨g1, g2, fun j T e => ?_⟩
  obtain ⟨a1, a2, a3, x, y, b1, b2, b3⟩ := g3 j T e
  exact ⟨a1, Nat.lt_of_lt_of_le a2 hs, a3, x, y, b1, b2, k T _ (List.mem_of_getElem? e) b3⟩
theorem ZSt.self {z TI TO i1 i2 l1 l2 : Addr} {xs ys : Array Value} {i : Nat} {Q : Value → Shared → Prop} (st : ZSt z TI TO i1 i2 l1 l2 xs ys i s.heap) (h : Q (.ref z) s) : wpAny (model prog w) A (pyIter (.ref z)) Q E s := by
  have hT := st.type
  refine wpAny_pyIter_slot hT F.slot_zip_iter (wpAny_call_entry F.slot_zip_iter hT F.entry_zip_iter ?_ (F.args_zip_iter_1 _))
  show wpAny _ _ (ret (.ref z)) _ _ s
  exact wpAny_pure ⟨_, rfl, "zip", _, hT, F.slot_zip_next.lookup, h⟩
end
end ZL

namespace ZR
open PySem
open Sem (wp)
section
variable {prog : Program} {w : World} {A : Around} {E : Value → Shared → Prop} {s : Shared}
end
end ZR

namespace DL
open PySem
section
variable {prog : Program} {w : World} {K : Type} [DecidableEq K] {knd : HeapKind prog w K} {A : Around} {E : Value → Shared → Prop} {s : Shared}
theorem dictSetDefault_heap {d a : Addr} {xs : List (K × Addr × Value)} {k : K} {v : Value} {Q : Value → Shared → Prop} (hu : knd.room A) (hkey : knd.is s.heap k a) (hm : s.heap.DictOfH knd d xs)
    (h1 : ∀ p, atKey xs k = some p → Q p.2 { s with toks := s.toks + knd.draws k })
    (h2 : atKey xs k = none → ∀ h', h'.DictOfH knd d (storedH xs k a v) → Heap.SameBut d s.heap h' → Q v { s with heap := h', toks := s.toks + knd.draws k })
    (hsz : xs.length ≤ sizeLine) :
    wpAny (model prog w) A (dictSetDefault d (.ref a) v) Q E s := by
  obtain ⟨o, es, ep, ho, hc, hd, he, his, hn⟩ := hm
  unfold dictSetDefault
  try with_reducible refine wpAny_holding ?_
  refine wpAny_bind (knd.pyHash hu hkey ?_)
  refine wpAny_bind (wpAny_dictFind_heap (s := { s with toks := s.toks + knd.draws k }) hu hkey ho hd he his hn ?_ ?_)
  · intro hno
    have hnot : k ∉ xs.map (·.1) := not_mem_keys_of_get hno
    refine wpAny_bind (wpAny_rule (wpAny_bind (wpAny_updateDictKeys (hz := by have e := size_of_entries he; omega) (s := { s with toks := s.toks + knd.draws k }) ho hd (wpAny_pure (h2 (atKey_none_of_get hno) _ ⟨_, _, ep + 1, Heap.get?_update_self _ ho (Obj.isFreed_of_dict (Obj.data_mapDictKeys hd _)),
      hc.mapDictKeys _, Obj.data_mapDictKeys hd _, ?_, ?_, ?_⟩ (Heap.SameBut.update ..))))))
    · rw [storedH_new (atKey_none_of_get hno)]
      simp [he, entryOfKey]
    · rw [storedH_new (atKey_none_of_get hno)]
      intro x hx
      rcases List.mem_append.mp hx with hx | hx
      · exact knd.keeps (his x hx) ho hd (Heap.SameBut.update ..)
      · simp only [List.mem_singleton] at hx
        subst hx
        exact knd.keeps hkey ho hd (Heap.SameBut.update ..)
    · rw [storedH_new (atKey_none_of_get hno)]
      rw [List.map_append, List.nodup_append]
      refine ⟨hn, by simp, ?_⟩
      intro x hx y hy
      simp only [List.map_cons, List.map_nil, List.mem_singleton] at hy
      subst hy
      exact fun e => hnot (e ▸ hx)
  · intro j p hj
    refine wpAny_bind (wpAny_dictEntries (s := { s with toks := s.toks + knd.draws k }) ho hd ?_)
    rw [entry_at he j, hj]
    exact wpAny_bind (wpAny_rule (wpAny_pure (h1 p (atKey_of_get hn hj))))
theorem meetsH_setdefault (knd : HeapKind prog w K) (d a : Addr) (hd : (d == sysModules) = false) (dflt : Value) :
    MeetsIn prog w (Builtin.«dict.setdefault» ⟨[.ref d, .ref a, dflt], []⟩) (fun A R s => knd.room A.in1 ∧ ∃ k xs, knd.is s.heap k a ∧ s.heap.DictOfH knd d xs ∧ xs.length ≤ sizeLine ∧
      (∀ p, atKey xs k = some p → R (.ok (.ret p.2)) { s with toks := s.toks + knd.draws k }) ∧
      (atKey xs k = none → ∀ h', h'.DictOfH knd d (storedH xs k a dflt) → Heap.SameBut d s.heap h' → R (.ok (.ret dflt)) { s with heap := h', toks := s.toks + knd.draws k })) :=
  .of_wp fun A R s ⟨hu, k, xs, hkey, hm, hz, h1, h2⟩ => by
    unfold Builtin.«dict.setdefault»
    refine wpAny_bind ?_
    unfold Builtin.Dict.keyAndDefault
    refine wpAny_bind (wpAny_notOrdered_dict hm.typeIs ?_)
    show wpAny _ _ (pure (d, Value.ref a, some dflt)) _ _ s
    refine wpAny_pure ?_
    show wpAny _ _ (if (d == sysModules) = true then _ else (dictSetDefault d (.ref a) dflt >>= _)) _ _ s
    rw [if_neg (by rw [hd]; exact Bool.false_ne_true)]
    exact wpAny_bind (dictSetDefault_heap hu hkey hm (fun p hp => wpAny_pure ⟨p.2, rfl, h1 p hp⟩) (fun hn h' hm' hs' => wpAny_pure ⟨dflt, rfl, h2 hn h' hm' hs'⟩) hz)
end
end DL

namespace DL
open PySem
section
variable {prog : Program} {w : World} {K : Type} [DecidableEq K] {knd : HeapKind prog w K} {A : Around} {E : Value → Shared → Prop} {s : Shared}
theorem meetsH_len (knd : HeapKind prog w K) (d : Addr) (hd : (d == sysModules) = false) :
    MeetsIn prog w (Builtin.«dict.__len__» ⟨[.ref d], []⟩) (fun _ R s => ∃ xs, s.heap.DictOfH knd d xs ∧ R (.ok (.ret (.int xs.length s.toks))) { s with toks := s.toks + 1 }) :=
  .of_wp fun A R s ⟨xs, hm, h⟩ => by
    obtain ⟨o, es, ep, ho, hc, hdd, he, _⟩ := id hm
    have hsz : es.size = xs.length := size_of_entries he
    show wpAny _ _ (dictSize d >>= _) _ _ s
    unfold dictSize
    refine wpAny_bind (wpAny_bind (wpAny_dictEntries ho hdd (wpAny_pure ?_)))
    show wpAny _ _ (Builtin.Dict.pendingCount d >>= _) _ _ s
    refine wpAny_bind (wpAny_pendingCount_other hd ?_)
    refine wpAny_ret_mkInt ?_
    rw [Nat.add_zero, hsz]; exact h
theorem call_len_heap {d : Addr} {xs : List (K × Addr × Value)} {Q : Value → Shared → Prop} (hd : (d == sysModules) = false) (hm : s.heap.DictOfH knd d xs) (hfit : (xs.length : Int) < 2 ^ 63)
    (h : Q (.int xs.length (s.toks + 1)) { s with toks := s.toks + 1 + 1 }) : wpAny (model prog w) A (call (.builtin "len") [.ref d]) Q E s := by
  refine Calls.call_function_entry kind_len plain_len entry_len (args_len1 _) ?_
  unfold Builtin.«len»
  refine wpAny_bind (m := oneArg "len" _) (wpAny_pure ?_)
  refine wpAny_bind (m := callSpecial? (.ref d) (Str.ofString "__len__")) (wpAny_callSpecial?_slot (name := Str.ofString "__len__") hm.typeIs F.slot_dict_len
    (call_meetsIn F.slot_dict_len hm.typeIs F.entry_dict_len (F.args_dict_len_1 _) (meetsH_len knd d hd) ⟨xs, hm, ?_⟩))
  show wpAny _ _ _ _ _ { s with toks := s.toks + 1 }
  refine wpAny_bind (wpAny_holding (wpAny_pure ?_))
  refine wpAny_bind (wpAny_letGo ?_)
  show wpAny _ _ (if ((xs.length : Nat) : Int) < 0 then _ else _) _ _ _
  rw [if_neg (by omega)]
  show wpAny _ _ (if ((xs.length : Nat) : Int) ≥ 2 ^ 63 then _ else _) _ _ _
  rw [if_neg (by omega)]
  exact wpAny_bind (wpAny_mkInt (wpAny_pure ⟨_, rfl, h⟩))
end
end DL

set_option Elab.async false
namespace XC
open PySem PySem.W PySem.Calls PyProof.Rows PySem.Builtin PySem.Builtin.ObjectAttr PySem.Builtin.Getset_descriptor
def ExcAt (h : Heap) (x D : Addr) : Prop := ∃ ox vs, h.get? x = some ox ∧ ox.cls = .ref D ∧ ox.data = .fields vs
theorem ExcAt.type {M : Model} {h : Heap} {x D : Addr} (p : ExcAt h x D) : Looks M h (typeOf (.ref x)) (.ref D) := by
  obtain ⟨o, _, h1, h2, _⟩ := p
  exact h2 ▸ (Looks.ld h1).andThen .now
section
variable {prog : Program} {w : World} {A : Around} {E : Value → Shared → Prop} {s : Shared} {K : Frag} {x D : Addr}
theorem check_ga {nameV : Value} {Q : Unit → Shared → Prop} (X : K.In s.heap) (I : ExcAt s.heap x D) (hb : mroIn K D (.type "BaseException") = some true) (h : Q () s) :
    wpAny (model prog w) A (checkBuiltinCall "BaseException.__getattribute__" ⟨[.ref x, nameV], []⟩) Q E s := by
  obtain ⟨hh, g, dr, t, os⟩ := s
  have L0 := I.type (M := model prog w)
  have L1 := looks_mroIn (M := model prog w) X hb
  have hk : builtinKind "BaseException.__getattribute__" = some .slot := by decide +kernel
  have hsplit : splitId "BaseException.__getattribute__" = some ("BaseException", "__getattribute__") := by decide +kernel
  have ha := F.args_bexc_ga (.ref x) nameV
  simp only [checkBuiltinCall, hk, hsplit]
  unfold isInstance
  repeat lk
  exact h
theorem slot_bga : Slot "BaseException" "__getattribute__" "BaseException.__getattribute__" :=
  .of (owner := "BaseException") (n := "__getattribute__") (by rw [typeLookup_type, builtinLookup_eq_fast]; kernel_rfl) (by decide +kernel) (by decide +kernel) (by decide +kernel)
    (by first | exact .inl (by decide +kernel) | exact .inr (by decide +kernel)) (by rw [isSubtype_type]; kernel_rfl)
theorem cls_get {R : Result → Shared → Prop} {tp : Value} (X : K.In s.heap) (I : ExcAt s.heap x D) (hm : mroIn K D (.type "object") = some true)
    (h : R (.ok (.ret (.ref D))) s) : codeAny (model prog w) A (.call (.builtin "getset_descriptor.__get__") ⟨[.builtin "object.__class__", .ref x, tp], []⟩) R s := by
  obtain ⟨hh, g, dr, t, os⟩ := s
  have L0 := I.type (M := model prog w)
  have L1 := looks_mroIn (M := model prog w) X hm
  refine codeAny_call_builtin KF.slot_gs.plain KF.entry_gs (KF.slot_gs.check _ _ _ _ _ _ _ _ KF.type_class (KF.args_gs _ _ _) ?_)
  unfold Builtin.«getset_descriptor.__get__» descrGet
  rw [dga_obj]
  refine wpAny_bind (wpAny_pure ?_)
  unfold descrGetter descrCheckInstance descrNameAndClass isInstance
  simp only [KF.owner_class]
  repeat lk
  refine ⟨Code.quiet_builtin _ (by decide +kernel), codeAny_builtin KF.entry_class ?_⟩
  unfold Builtin.«object.__class__» shownTypeOf
  repeat lk
  exact h
structure ExcCls (K : Frag) (D : Addr) : Prop where
  cls : (clsIn K D).isSome = true
  ga : findIn K (.ref D) "__getattribute__" = some (some (.builtin "BaseException.__getattribute__"))
  gn : findIn K (.ref D) "__getattr__" = some none
  bb : mroIn K D (.type "BaseException") = some true
  ob : mroIn K D (.type "object") = some true
  ca : findIn K (.ref D) "__class__" = some (some (.builtin "object.__class__"))
  cg : specialIn K (.builtin "object.__class__") "__get__" = some (some (.builtin "getset_descriptor.__get__"))
  ct : takesIn K (.builtin "object.__class__") = some true
theorem looks_class {M : Model} {h : Heap} (X : K.In h) (C : ExcCls K D) : Looks M h (Builtin.ObjectAttr.find (.ref x) (.ref D) "__class__") (.bind (.builtin "getset_descriptor.__get__") (.builtin "object.__class__")) := by
  have L1 := looks_findIn (M := M) X C.ca
  have L2 : Looks M h (Builtin.ObjectAttr.getOf (some (.builtin "object.__class__"))) (some (.builtin "getset_descriptor.__get__")) := looks_specialIn X C.cg
  have L3 := looks_takesIn (M := M) X C.ct
  exact L1.andThen (L2.andThen ((show Looks M h (Builtin.ObjectAttr.dataDescriptor? (some (.builtin "object.__class__")) (some (.builtin "getset_descriptor.__get__"))) (some (.builtin "getset_descriptor.__get__", .builtin "object.__class__")) from L3.andThen .now).andThen (Looks.tag .now)))
theorem exc_class {Q : Option Value → Shared → Prop} (X : K.In s.heap) (I : ExcAt s.heap x D) (C : ExcCls K D)
    (h : Q (some (.ref D)) { s with toks := s.toks + 1 }) : wpAny (model prog w) A (getAttr? (.ref x) "__class__") Q E s := by
  obtain ⟨hh, g, d, t, os⟩ := s
  have L0 := I.type (M := model prog w)
  have L1 := looks_findIn (M := model prog w) X C.ga
  have L2 := looks_findIn (M := model prog w) X C.gn
  have L3 := looks_class (M := model prog w) (x := x) X C
  have f3 := slot_bga.bind (.ref x)
  unfold getAttr? getAttrBy? getAttrBy
  refine wpAny_bind (wpAny_mkText (wpAny_bind (wpAny_attempt (wpAny_holding (wpAny_bind (L0.at (wpAny_bind (L1.at ?_))))))))
  show wpAny _ _ (getAttrByItsOwn _ _ _ _ _ _) _ _ _
  unfold getAttrByItsOwn hookBefore
  refine wpAny_bind (L2.at ?_)
  refine wpAny_bind (wpAny_attempt (wpAny_holding ?_))
  show wpAny _ _ (boundAndCalled (.builtin "BaseException.__getattribute__") (.ref x) (.str "__class__" t)) _ _ _
  unfold boundAndCalled
  refine wpAny_bind ?_
  refine wpAny_of_eq f3 ?_
  show wpAny _ _ (call (.builtin "BaseException.__getattribute__") [.ref x, .str "__class__" t]) _ _ _
  refine wpAny_call (codeAny_call_builtin slot_bga.plain F.entry_bexc_ga (check_ga (s := ⟨hh, g, d, t + 1, os⟩) X I C.bb ?_))
  unfold Builtin.«object.__getattribute__»
  repeat ((fail_if_success (with_reducible show wpAny _ _ (call _ _) _ _ _)); lk)
  refine wpAny_call (cls_get (s := ⟨hh, g, d, t + 1, os⟩) X I C.ob ?_)
  repeat lk
  exact h
theorem kitx_exc (C : ExcCls K D) : KitX K (.ref x) (.ref D) (fun h => ExcAt h x D) where
  ty := fun _ _ _ I => I.type
  it := fun _ _ X _ => by
    obtain ⟨cdD, hcD⟩ := Option.isSome_iff_exists.mp C.cls
    unfold clsIn at hcD
    split at hcD
    · rename_i c' d' cd' sl' ho
      intro A' Q' E' s' k q
      unfold isType loadHead
      exact wpAny_bind (wpAny_loadPart (k _ _ (X _ _ ho)) (wpAny_pure q))
    · cases hcD
  ne := fun h tp dd its n sl X htp => by
    obtain ⟨cdD, hcD⟩ := Option.isSome_iff_exists.mp C.cls
    refine Bool.eq_false_iff.mpr fun q => ?_
    have e : D = tp := Value.ref.inj (beq_iff_eq.mp q)
    subst e
    unfold clsIn at hcD
    split at hcD
    · rename_i c' d' cd' sl' ho
      have z := (X _ _ ho).symm.trans htp
      cases z
    · cases hcD
  ca := fun X I k => exc_class X I C k
theorem exc_matches {e : Addr} {c : Value} {b : Bool} {Q : Bool → Shared → Prop} (X : K.In s.heap) (I : ExcAt s.heap e D) (hc : kitCls K (.ref D) c = some b) (hs : kitCls K c (.type "BaseException") = some true) (h : Q b s) :
    wpAny (model prog w) A (excMatches (.ref e) c) Q E s := by
  obtain ⟨hh, g, d, t, os⟩ := s
  have L0 := I.type (M := model prog w)
  obtain ⟨L1, L2, L3⟩ := kit_cls (M := model prog w) X hc
  obtain ⟨_, _, L4⟩ := kit_cls (M := model prog w) X hs
  have L5 : Looks (model prog w) hh (isSubtype (.type "type") (.type "tuple")) false := Looks.of_pure tc_notTuple
  unfold excMatches isInstance isExcClass
  repeat ((fail_if_success (with_reducible show Q _ _)); lk)
  cases b with
  | true => rw [if_pos rfl]; repeat ((fail_if_success (with_reducible show Q _ _)); lk)
            exact h
  | false => rw [if_neg Bool.false_ne_true]; repeat ((fail_if_success (with_reducible show Q _ _)); lk)
             exact h
end
end XC

namespace L2
open PySem PySem.Spec PyProof.Rows
def Cx.comp (X : Cx) (scope : Scope) (N' : List Str) (C : Addr) (fp : List Addr) (s : Shared) (H : Hp) : Cx :=
  { X with env := compEnvC scope (capt X.env.cells scope.names []) C X.env, N := N', s₀ := s, H₀ := H, outer := X.stack, stack := X.stack, ex := fp, fn := fun _ => false, pn := [], xe := fun _ _ => False }
def capSt (ix : List (Option Nat)) (σ : St) : St := ix.map fun o => match o with
  | none => none
  | some i => (σ[i]?).getD none
section
variable {X : Cx} {scope : Scope} {N' : List Str} {ix : List (Option Nat)} {fp : List Addr} {pins : List (Addr × Obj)} {σ : St} {H : Hp} {s : Shared} {C : Addr}
theorem comp_cells (I : Inv X pins σ H s) (hk : CompOk scope X.env.scope X.N N' ix) : ∀ y c, (capt X.env.cells scope.names []).lookup y = some c → X.env.cells.lookup y = some c := fun y c e => by
  rcases capt_from _ _ _ y c e with ⟨c', q⟩ | q
  · simp at q
  · have h1 := capt_eq X.env.cells scope.names [] (fun _ _ z => by simp at z) y c e
    obtain ⟨c2, h2⟩ := I.ok.has y (hk.out (y, .free) q rfl)
    rw [h2] at h1 ⊢
    exact congrArg some h1.symm
theorem inv_comp {h₁ : Heap} {m : Str → Option Value} {tk : Nat} (hk : CompOk scope X.env.scope X.N N' ix) (I : Inv X pins σ H s) (f2 : ∀ b ∈ fp, FpOk X pins H b) (f3 : ∀ b ∈ fp, b < s.heap.objs.size)
    (hC : s.heap.objs.size ≤ C) (hn : h₁.Ns C m) (old : ∀ b o, s.heap.get? b = some o → h₁.get? b = some o) :
    Inv (X.comp scope N' C fp s H) [] (capSt ix σ) H { s with heap := h₁, toks := tk } := by
  have cells := comp_cells I hk
  refine ⟨⟨I.ok.mod, hk.kind, I.ok.glob, I.ok.blt, hC, fun x y c h1 h2 => I.ok.inj x y c (cells x c h1) (cells y c h2), fun x hx => ?_, fun x c hf => absurd (show false = true from hf) (by decide), I.ok.hd, I.ok.frames, .inl rfl, fun b hb => ⟨?_, fun x c e => (f2 b hb).2.2.2.2.1 x c (cells x c e)⟩, I.bs, Nat.le_trans I.ok.bsz I.sz, fun b o e hb => ?_, fun b hb hz => ?_, I.stack, I.stkFree⟩,
    rfl, I.bare, Un.kept old, ⟨m, hn, fun j x v e1 e2 e3 => ?_⟩, fun x c e => ?_, I.hok.fresh hC, fun x c e => I.freeC x c (cells x c e), fun p hp => absurd (show p ∈ ([] : List (Addr × Obj)) from hp) (by simp), I.hok.kept old, ?_⟩
  · refine capt_has _ _ _ _ (.inl ?_)
    rcases hx with hx | hx
    · exact of_relabel (env := X.env) hk.nocell (.inl rfl) hx
    · exact of_relabel (env := X.env) hk.nocell (.inr rfl) hx
  · exact Nat.ne_of_lt (Nat.lt_of_lt_of_le (f3 b hb) hC)
  · rcases (f2 b hb).2.2.2.1 with z | z
    · exact I.ok.noex b o e z
    · exact absurd (Nat.lt_of_lt_of_le (Heap.lt_size (I.ok.bs b o e).1) z) (Nat.lt_irrefl _)
  · rcases List.mem_cons.mp (I.stkSub b hz) with e | e
    · exact (f2 b hb).2.1 e
    · exact (f2 b hb).2.2.1 e
  · have e2' : (ix.map fun o => match o with
        | none => none
        | some i => (σ[i]?).getD none)[j]? = some (some v) := e2
    rw [List.getElem?_map] at e2'
    cases q : ix[j]? with
    | none => rw [q] at e2'; cases e2'
    | some o =>
      rw [q] at e2'
      cases o with
      | none => exact nomatch (show some none = some (some v) from e2')
      | some i =>
        have e4 : some ((σ[i]?).getD none) = some (some v) := e2'
        have e5 : σ[i]? = some (some v) := by
          cases r : σ[i]? with
          | none => rw [r] at e4; exact nomatch (show some none = some (some v) from e4)
          | some z => rw [r] at e4; rw [show z = some v from Option.some.inj e4]
        obtain ⟨hN, hf⟩ := hk.cap j i x q e1
        have hm := PySem.mem_of_lookup hf
        have ho := hk.out (x, .free) hm rfl
        obtain ⟨m0, hn0, hl0⟩ := I.loc
        obtain ⟨u, r, l⟩ := hl0 i x v hN e5 (by rcases ho with z | z; exact .inr (.inl z); exact .inr (.inr z))
        refine ⟨u, r, .inr ⟨relabel_free (env := X.env) hf, ?_⟩⟩
        rcases l with ⟨hl, _⟩ | ⟨_, c, e, o, ho', hd⟩
        · have hl' : X.env.scope.names.lookup x = some .local := hl
          rcases ho with z | z
          · rw [hl'] at z; cases z
          · rw [hl'] at z; cases z
        · obtain ⟨c', hc'⟩ := capt_has X.env.cells scope.names [] x (.inl hm)
          have hc := cells x c' hc'
          rw [e] at hc
          cases hc
          exact ⟨c, hc', o, old c o ho', hd⟩
  · obtain ⟨v, o, ho, hd⟩ := I.cell x c (cells x c e)
    exact ⟨v, o, old c o ho, hd⟩
  · show (ix.map _).length = N'.length
    rw [List.length_map]
    exact hk.len
theorem Inv.adopt {a : Addr} {o : HO} (I : Inv X pins σ H s) (f : FpOk X pins H a) (hx : X.s₀.heap.objs.size ≤ a) (new : ObjOk X.prog X.w (upd H a o) s.heap a o) : Inv X pins σ (upd H a o) s := by
  obtain ⟨hn, hL, hf, _, hc, hp⟩ := f
  have lt : ∀ b ob, X.s₀.heap.get? b = some ob → b ≠ a := fun b ob e => Nat.ne_of_lt (Nat.lt_of_lt_of_le (Heap.lt_size e) hx)
  refine ⟨I.ok, I.os, I.bare, ⟨I.base.keep, I.base.slot, fun b ob e n hx => ?_, I.base.there, fun b xs e => ?_, fun b ob u e => ?_, fun b ps e => ?_⟩, I.loc, I.cell, ?_, fun x c e => ?_, fun p hp' => ?_, fun b u e => ?_, I.len⟩
  · rw [upd_ne (lt b ob e)]; exact I.base.free b ob e n hx
  · have q := I.base.tups b xs e
    rw [upd_ne (ne_of_none q hn)]; exact q
  · have q := I.base.frzs b ob u e
    rw [upd_ne (ne_of_none q hn)]; exact q
  · obtain ⟨more, q⟩ := I.base.tbls b ps e
    exact ⟨more, by rw [upd_ne (ne_of_none q hn)]; exact q⟩
  · rw [upd_ne hL.symm]; exact I.free
  · rw [upd_ne (hc x c e)]; exact I.freeC x c e
  · obtain ⟨q1, q2, q3⟩ := I.pin p hp'
    exact ⟨q1, by rw [upd_ne (hp p hp')]; exact q2, q3⟩
  · by_cases hb : b = a
    · subst hb; rw [upd_same] at e; cases e; exact new
    · rw [upd_ne hb] at e
      exact (I.hok b u e).stay (fun _ _ _ q => q) (fun c q => by rw [upd_ne (ne_of_none q hn)]; exact q) fun c xs q => by rw [upd_ne (ne_of_none q hn)]; exact q
end
section
variable {prog : Program} {w : World} {A : Around} {R : Result → Shared → Prop} {s : Shared}
theorem compLoop_go {elt target iter : Expr} {ifs : List Expr} {scope : Scope} {pos : Pos} {it acc : Value} {env : Env} (I : Nat → Shared → Prop)
    (turn : ∀ n s, I n s → wpAny (model prog w) A (pyNext it) (fun r s₁ => match r with
      | none => R (.ok .next) s₁
      | some v => wpAny (model prog w) A (letOwnedTupleGo target it v) (fun _ s1' => wpAny (model prog w) A (assign target env v) (fun _ s₂ =>
          wpAny (model prog w) A (forIn ifs true fun c r => if r = true then do let ok ← isTrue c env (eval c env); pure (ForInStep.yield ok) else pure (ForInStep.yield r)) (fun ok s₃ =>
            if ok = true then wpAny (model prog w) A (eval elt env) (fun x s₄ => wpAny (model prog w) A (call (.builtin "list.append") [acc, x]) (fun _ s₅ => ∃ m, m < n ∧ I m s₅) (fun _ _ => False) s₄) (fun _ _ => False) s₃
            else ∃ m, m < n ∧ I m s₃) (fun _ _ => False) s₂) (fun _ _ => False) s1') (fun _ _ => False) s₁) (fun _ _ => False) s)
    (n : Nat) (h : I n s) : codeAny (model prog w) A (.compLoop (.ListComp elt [⟨target, iter, ifs, 0⟩] scope pos) 0 it acc env) R s := by
  refine codeAny_loop rfl I (fun n s hI => ?_) n h
  show wpAny _ A ((compTurn (.ListComp elt [⟨target, iter, ifs, 0⟩] scope pos) 0 it acc env).onRaise (fun x => do noteFrame x env; theTreesLotGoes x)) _ _ s
  refine wpAny_noted (wpAny_mono (E := fun _ _ => False) ?_ (fun _ _ q => q) fun _ _ f => f.elim)
  rw [compTurn_list]
  refine wpAny_bind (wpAny_standAt (wpAny_bind (thn (turn n s hI) fun r s₁ h₁ => ?_)))
  cases r with
  | none => exact wpAny_pure h₁
  | some v =>
    refine wpAny_bind (thn h₁ fun _ s1' h1' => wpAny_bind (thn h1' fun _ s₂ h₂ => wpAny_bind (thn h₂ fun ok s₃ h₃ => ?_)))
    cases ok with
    | false => exact wpAny_pure ⟨rfl, h₃⟩
    | true => exact wpAny_bind (wpAny_bind (thn h₃ fun x s₄ h₄ => wpAny_bind (thn h₄ fun _ s₅ h₅ => wpAny_pure (wpAny_pure ⟨rfl, h₅⟩))))
end
def PTs (X : Cx) (ifs : List Expr) (t : TT) : Prop :=
  ∀ (pins : List (Addr × Obj)) (s : Shared) (σ : St) (H : Hp) (Q : Bool → Hp → Prop), Inv X pins σ H s → t σ H Q →
    wpAny (model X.prog X.w) X.A (forIn ifs true fun c r => if r = true then do let ok ← isTrue c X.env (eval c X.env); pure (ForInStep.yield ok) else pure (ForInStep.yield r)) (TP X pins σ Q) X.xe s
def tTrue : TT := fun _ H Q => Q true H
theorem pts_nil {X : Cx} : PTs X [] tTrue := fun _ _ _ H _ I h => wpAny_tests_nil ⟨H, I, h⟩
theorem pts_one {X : Cx} {c : Expr} {tc : TT} (hc : PT X c tc) : PTs X [c] tc := fun pins s σ H Q I h => wpAny_tests_one (hc pins s σ H Q I h)

section
variable {X : Cx} {tg elt iter : Expr} {ifs : List Expr} {scope : Scope} {pos : Pos} {N' : List Str} {ix : List (Option Nat)} {g : TG} {tc : TT} {te : TE} {pins : List (Addr × Obj)} {σ : St} {H : Hp} {s : Shared}
theorem comp_core {E : Value → Shared → Prop} (hk : CompOk scope X.env.scope X.N N' ix) (hc : X.calm = true) (hg : ∀ C fp s H, PG (X.comp scope N' C fp s H) tg g) (ht : ∀ C fp s H, PTs (X.comp scope N' C fp s H) ifs tc)
    (he : ∀ C fp s H, PE (X.comp scope N' C fp s H) elt te) {it : Addr} {fp : List Addr} {tn : Nat → Heap → Prop} {J : It} (I2 : Inv X pins σ H s) (T : Turn X.prog X.w X.K tg J fp it tn) (st : tn 0 s.heap) (f2 : ∀ b ∈ fp, FpOk X pins H b)
    {Qe : List V → Hp → Prop} {W : Nat → Nat → List V → St → Hp → Prop} {m0 : Nat} (w0 : W 0 m0 [] (capSt ix σ) H)
    (turn : ∀ i m ys τ H, W i m ys τ H → (J.stop i H ∧ Qe ys H) ∨ (J.go i H ∧ ys.length < sizeLine ∧ ∃ N : List V → St → Hp → Prop, (∀ zs τ' H', N zs τ' H' → ∃ m', m' < m ∧ W (i + 1) m' zs τ' H') ∧ ∀ x H', J.yld i H x H' → g x τ H' fun τ1 H1 => tc τ1 H1 fun b H2 =>
      if b = true then te τ1 H2 fun y H3 => N (ys ++ [y]) τ1 H3 else N ys τ1 H2))
    {RR : Value → Addr → Result → Shared → Prop}
    (fin : ∀ (D C : Addr) (ys : List V) (its : List Value) (n : Nat) (H' : Hp) (s' : Shared) (m : Str → Option Value), s.heap.objs.size ≤ D → s.heap.objs.size ≤ C → D ≠ C → s'.heap.Ns C m → H' D = none → H' C = none → ys.length ≤ sizeLine →
      Vals ys its → s'.heap.get? D = some { cls := .type "list", data := .seq its.toArray n } → Inv X pins σ H' s' → Qe ys H' → RR (.ref D) C (.ok .next) s') :
    wpAny (model X.prog X.w) X.A (newList []) (fun acc s₃ => wpAny (model X.prog X.w) X.A (newFunctionEnv scope X.env.globals (capt X.env.cells scope.names []) [] X.env.qual none .none (some X.env)) (fun cenv s₄ =>
      codeAny (model X.prog X.w) X.A (.compStart (.ListComp elt [⟨tg, iter, ifs, 0⟩] scope pos) 0 (.ref it) acc { cenv with scope := relabel scope X.env }) (RR acc cenv.locals) s₄) E s₃) E s := by
  have f3 : ∀ b ∈ fp, b < s.heap.objs.size := fun b hb => let ⟨o, e, _⟩ := T.obj 0 _ st b hb; Heap.lt_size e
  refine wpAny_newObj_type (wpAny_newFunctionEnv hk.nocell (by intro y hy; simp at hy) (fun h₁ hns₁ hsb₁ => ?_) hk.kind)
  dsimp only at hns₁ hsb₁ ⊢
  generalize hH2 : s.heap.push { cls := .type "list", dict := none, data := .seq ([] : List Value).toArray } = G2 at hns₁ hsb₁ ⊢
  have hCs : G2.objs.size = s.heap.objs.size + 1 := by rw [← hH2, Heap.size_push]
  generalize hCC : G2.objs.size = C at hns₁ hsb₁ hCs ⊢
  generalize hDD : s.heap.objs.size = D at hCs ⊢
  have hDC : D ≠ C := by rw [hCs]; exact Nat.ne_of_lt (Nat.lt_succ_self _)
  have hsC : s.heap.objs.size ≤ C := by rw [hCs, hDD]; exact Nat.le_succ _
  have hsD : s.heap.objs.size ≤ D := Nat.le_of_eq hDD
  have old : ∀ b o, s.heap.get? b = some o → h₁.get? b = some o := fun b o e => hsb₁.extBut b o (Nat.ne_of_lt (Nat.lt_of_lt_of_le (Heap.lt_size e) hsC)) (Heap.get?_push_of_some _ (hH2 ▸ Heap.get?_push_of_some _ e))
  have hacc : h₁.get? D = some { cls := .type "list", data := .seq ([] : List Value).toArray } := hsb₁.extBut _ _ hDC (Heap.get?_push_of_some _ (hH2 ▸ hDD ▸ Heap.get?_push_size _ rfl))
  have frD : H D = none := I2.hok.fresh hsD
  have nD : ∀ b, b < s.heap.objs.size → b ≠ D := fun b hb => Nat.ne_of_lt (Nat.lt_of_lt_of_le hb hsD)
  have dfs : D ∉ frs X.stack := fun hb => by
    rcases List.mem_cons.mp (I2.stkSub D hb) with e | e
    · exact absurd I2.lt (by rw [← e]; exact Nat.not_lt.mpr hsD)
    · exact I2.nofs hsD e
  have cellD : ∀ x c, (capt X.env.cells scope.names []).lookup x = some c → c ≠ D := fun x c e => by
    obtain ⟨v, q⟩ := I2.cell x c (comp_cells I2 hk x c e)
    exact nD c q.lt
  have pinD : ∀ {τ : St} {H' : Hp} {s' : Shared} {o : Obj}, Inv (X.comp scope N' C fp s H) [] τ H' s' → s'.heap.get? D = some o → H' D = none → (∀ v, o.data ≠ .cell v) → Inv (X.comp scope N' C fp s H) [(D, o)] τ H' s' := fun I e n d =>
    I.pins_of fun p hp => by
      rw [List.mem_singleton] at hp
      subst hp
      exact ⟨e, n, hDC, dfs, d⟩
  have stat : ∀ {H' : Hp} {o : Obj}, (∀ b ∈ fp, H' b = none) → ∀ b ∈ fp, FpOk (X.comp scope N' C fp s H) [(D, o)] H' b := fun {H' o} hn b hb => by
    obtain ⟨_, q1, q2, _, q4, _⟩ := f2 b hb
    refine ⟨hn b hb, Nat.ne_of_lt (Nat.lt_of_lt_of_le (f3 b hb) hsC), fun z => ?_, .inl hb, fun x c e => q4 x c (comp_cells I2 hk x c e), fun p hp => ?_⟩
    · rcases List.mem_cons.mp (I2.stkSub b z) with e | e
      · exact q1 e
      · exact q2 e
    · have hp' : p ∈ [(D, o)] := hp
      rw [List.mem_singleton] at hp'
      subst hp'
      exact (nD b (f3 b hb)).symm
  have loop : ∀ s₃ : Shared, s₃ = { s with heap := h₁, toks := s.toks + ([] : List (Str × Value)).length } →
      codeAny (model X.prog X.w) X.A (.compLoop (.ListComp elt [⟨tg, iter, ifs, 0⟩] scope pos) 0 (.ref it) (.ref D) (compEnvC scope (capt X.env.cells scope.names []) C X.env)) (RR (.ref D) C) s₃ := by
    rintro s₃ rfl
    refine compLoop_go (fun n s' => ∃ i ys its no τ H', Inv (X.comp scope N' C fp s H) [] τ H' s' ∧ tn i s'.heap ∧ (∀ b ∈ fp, H' b = none) ∧ H' D = none ∧ ys.length ≤ sizeLine ∧ Vals ys its ∧
      s'.heap.get? D = some { cls := .type "list", data := .seq its.toArray no } ∧ W i n ys τ H') ?_ m0
      ⟨0, [], [], 0, capSt ix σ, H, inv_comp hk I2 f2 f3 hsC hns₁ old, T.keep _ _ _ st fun b _ o e => old b o e, fun b hb => (f2 b hb).1, frD, Nat.zero_le _, .nil, hacc, w0⟩
    rintro n s3 ⟨i, ys, its, no, τ, H3, I3, st3, fr3, hD3, hz, rv, hd, w3⟩
    have I3' := pinD I3 hd hD3 (fun v z => by
      have z' : Data.seq _ _ = Data.cell v := z
      cases z')
    rcases turn i n ys τ H3 w3 with ⟨stop, qe⟩ | ⟨go, hlt, N, hN, step⟩
    · refine thn (T.done (X.comp scope N' C fp s H) rfl rfl rfl hc i _ s3 τ H3 _ I3' (stat fr3) st3 stop) fun r s4 ⟨hr, I4⟩ => ?_
      subst hr
      obtain ⟨m, hm, _⟩ := I4.loc
      obtain ⟨p1, p2, _⟩ := I4.pin (D, _) (List.mem_singleton.mpr rfl)
      refine fin D C ys its no H3 s4 m hsD hsC hDC hm p2 I4.free hz rv p1 ?_ qe
      exact I2.call' (ch := fp) I4.os I4.base I4.hok I4.bare fun b hb => let ⟨_, q1, _, q3, q4, q5⟩ := f2 b hb; ⟨q3, q1, q4, q5⟩
    · refine thn (T.item (X.comp scope N' C fp s H) rfl rfl rfl hc i _ s3 τ H3 _ I3' (stat fr3) st3 go) fun r s4 ⟨u, hr, h4⟩ => ?_
      subst hr
      refine thn h4 fun _ s5 ⟨x, H5, I5, r5, y5, st5, fr5⟩ => ?_
      have I5' := I5.pinned (fp := fp) (stat fr5) (T.obj _ _ st5)
      refine thn (hg C fp s H _ s5 τ H5 x u _ I5' r5 (step x H5 y5)) fun _ s6 ⟨τ6, H6, I6, q6⟩ => ?_
      refine thn (ht C fp s H _ s6 τ6 H6 _ I6 q6) fun b s7 ⟨H7, I7, q7⟩ => ?_
      have back : ∀ {τ' : St} {H' : Hp} {s' : Shared}, Inv (X.comp scope N' C fp s H) ([(D, { cls := .type "list", data := .seq its.toArray no })] ++ pinsAt fp s5.heap) τ' H' s' →
          tn (i + 1) s'.heap ∧ (∀ b ∈ fp, H' b = none) ∧ H' D = none ∧ s'.heap.get? D = some { cls := .type "list", data := .seq its.toArray no } ∧ Inv (X.comp scope N' C fp s H) [] τ' H' s' := fun {τ' H' s'} I' => by
        have pD := I'.pin (D, { cls := .type "list", data := .seq its.toArray no }) (List.mem_append_right _ (List.mem_append_left _ (List.mem_singleton.mpr rfl)))
        refine ⟨T.keep _ _ _ st5 fun b hb o e => (I'.pin (b, o) (List.mem_append_right _ (List.mem_append_right _ (mem_pinsAt hb e)))).1, fun b hb => ?_, pD.2.1, pD.1, I'.pins_of fun p hp => by simp at hp⟩
        obtain ⟨o, e, d⟩ := T.obj _ _ st5 b hb
        exact (I'.pin (b, o) (List.mem_append_right _ (List.mem_append_right _ (mem_pinsAt hb e)))).2.1
      cases b with
      | false =>
        obtain ⟨m', hm, w7⟩ := hN _ _ _ q7
        obtain ⟨a1, a2, a3, a4, a5⟩ := back I7
        exact ⟨m', hm, i + 1, ys, its, no, τ6, H7, a5, a1, a2, a3, hz, rv, a4, w7⟩
      | true =>
        refine thn (he C fp s H _ s7 τ6 H7 _ I7 q7) fun v s8 ⟨y, H8, I8, r8, q8⟩ => ?_
        obtain ⟨m', hm, w8⟩ := hN _ _ _ q8
        obtain ⟨a1, a2, a3, a4, a5⟩ := back I8
        have hl := rv.length
        refine call_meets F.slot_list_append ⟨_, a4, rfl⟩ F.entry_list_append (F.args_list_append_2 _ _) (PySem.list_append D its.toArray no v (by rw [List.size_toArray]; omega)) ⟨a4, ?_⟩
        have e9 := PySem.IsL.update a4 (·.push v)
        have e10 : its.toArray.push v = (its ++ [v]).toArray := by simp
        rw [e10] at e9
        refine ⟨m', hm, i + 1, ys ++ [y], its ++ [v], _, τ6, H8, a5.turned (it := D) (fun b o hb e => (Heap.get?_update_other s8.heap _ (Ne.symm hb)).trans e) a3 hDC (.inr hsD) cellD (fun p hp => absurd (show p ∈ ([] : List (Addr × Obj)) from hp) (by simp)),
          T.keep _ _ _ a1 fun b hb o e => (Heap.get?_update_other s8.heap _ (Ne.symm (nD b (f3 b hb)))).trans e, a2, a3, ?_, rv.append (.cons r8 .nil), e9, w8⟩
        rw [List.length_append, List.length_singleton]
        omega
  exact codeAny_compStart_list (loop _ rfl) (T.self _ _ _ _ _ (T.keep _ _ _ st fun b _ o e => old b o e) (loop _ rfl))

def CompEnd (J : It) (g : TG) (tc : TT) (te : TE) (Q : VK) (τ0 : St) (H : Hp) : Prop := ∃ W : Nat → Nat → List V → St → Hp → Prop, (∃ m, W 0 m [] τ0 H) ∧ ∀ i m ys τ H, W i m ys τ H →
  (J.stop i H ∧ ∀ D, H D = none → Q (.ref D) (upd H D (.lst ys))) ∨ (J.go i H ∧ ys.length < sizeLine ∧ ∃ N : List V → St → Hp → Prop, (∀ zs τ' H', N zs τ' H' → ∃ m', m' < m ∧ W (i + 1) m' zs τ' H') ∧ ∀ x H', J.yld i H x H' → g x τ H' fun τ1 H1 => tc τ1 H1 fun b H2 =>
    if b = true then te τ1 H2 fun y H3 => N (ys ++ [y]) τ1 H3 else N ys τ1 H2)
def tComp (ix : List (Option Nat)) (wi : TI) (g : TG) (tc : TT) (te : TE) : TE := fun σ H Q => wi σ H fun J H1 => CompEnd J g tc te Q (capSt ix σ) H1
variable {wi : TI}
theorem pe_comp (N' : List Str) (ix : List (Option Nat)) (hk : compOk scope X.env.scope X.N N' ix = true) (hc : X.calm = true) (hi : PI X tg iter wi) (hg : ∀ C fp s H, PG (X.comp scope N' C fp s H) tg g)
    (ht : ∀ C fp s H, PTs (X.comp scope N' C fp s H) ifs tc) (he : ∀ C fp s H, PE (X.comp scope N' C fp s H) elt te) (hs : ∀ x, foldedSetIterable iter X.env x = pure x := by intro _; rfl) :
    PE X (.ListComp elt [⟨tg, iter, ifs, 0⟩] scope pos) (tComp ix wi g tc te) := by
  intro pins s σ H Q I h
  have hk := compOk_of hk
  rw [eval_ListComp]
  refine wpAny_comprehension_free (use := none) rfl hs (capt_closure fun y hy hf => I.ok.has y.1 (hk.out y hy hf)) hk.kind hk.names (thn (hi pins s σ H _ I h) fun v s1 h1 => thn h1 fun itv s2 h2 => ?_)
  obtain ⟨it, fp, tn, J, H2, e, I2, T, st2, f2, W, ⟨m0, w0⟩, turn⟩ := h2
  subst e
  refine comp_core (RR := fun acc C => compPost (model X.prog X.w) X.A X.xe none (EP X pins σ Q) acc C) hk hc hg ht he I2 T st2 f2 w0 turn fun D C ys its n H' s' m hD hC hDC hn hHD hHC hz rv hd I' q => ?_
  refine ⟨m, hn, fun h' hs' => ?_⟩
  obtain ⟨_, c1, c2, c3, c4, c5⟩ := I2.fpOk hC hHC
  have I3 : Inv X pins σ H' { s' with heap := h' } := I'.turned (it := C) (t' := s'.toks) (fun b o hb e => (hs'.2 b hb).trans e) hHC c1 c3 c4 c5
  refine ⟨.ref D, _, I3.adopt (o := .lst ys) (I2.fpOk hD hHD) (Nat.le_trans I2.sz hD) ⟨hz, its, n, rv, (hs'.2 D hDC).trans hd⟩, rfl, q D hHD⟩
theorem ps_comp {k : Nat} {y : Str} {py spos : Pos} (N' : List Str) (ix : List (Option Nat)) (hk : compOk scope X.env.scope X.N N' ix = true) (hc : X.calm = true) (hN : X.N.Nodup) (hky : X.N[k]? = some y) (hx : Loc X.env.scope y) (hi : PI X tg iter wi)
    (hg : ∀ C fp s H, PG (X.comp scope N' C fp s H) tg g) (ht : ∀ C fp s H, PTs (X.comp scope N' C fp s H) ifs tc) (he : ∀ C fp s H, PE (X.comp scope N' C fp s H) elt te)
    (hsw : swapsWith (.ListComp elt [⟨tg, iter, ifs, 0⟩] scope pos) (some (.Name y py)) spos.line X.env = pure true := by rfl) (hs : ∀ x, foldedSetIterable iter X.env x = pure x := by intro _; rfl)
    (hf : X.fn y = true ∨ X.env.scope.names.lookup y = some .local := by first | exact .inl rfl | exact .inr rfl | assumption) :
    PS X (.Assign [.Name y py] (.ListComp elt [⟨tg, iter, ifs, 0⟩] scope pos) spos) (tAsg (tComp ix wi g tc te) (gName k)) := by
  intro pins s σ H D' I h
  have hk := compOk_of hk
  rw [exec_Assign_Name_used _ _ _ _ hsw]
  refine wpAny_bind (wpAny_standAt (wpAny_bind ?_))
  show wpAny _ X.A (do let _ ← comprehension (.ListComp elt [⟨tg, iter, ifs, 0⟩] scope pos) scope X.env _ (newList []) false (eval iter X.env) (some (assign (.Name y py) X.env))) _ _ s
  refine wpAny_bind (thn (wpAny_comprehension_free (use := some (assign (.Name y py) X.env)) (Q := fun _ s' => SP X pins D' .next s') rfl hs (capt_closure fun y hy hf => I.ok.has y.1 (hk.out y hy hf)) hk.kind hk.names
    (thn (hi pins s σ H _ I h) fun v s1 h1 => thn h1 fun itv s2 h2 => ?_)) fun _ s' hq => wpAny_pure (wpAny_pure hq))
  obtain ⟨it, fp, tn, J, H2, e, I2, T, st2, f2, W, ⟨m0, w0⟩, turn⟩ := h2
  subst e
  refine comp_core (RR := fun acc C => compPost (model X.prog X.w) X.A X.xe (some (assign (.Name y py) X.env)) (fun _ s' => SP X pins D' .next s') acc C) hk hc hg ht he I2 T st2 f2 w0 turn fun D C ys its n H' s' m hD hC hDC hn hHD hHC hz rv hd I' q => ?_
  have I3 := I'.adopt (o := .lst ys) (I2.fpOk hD hHD) (Nat.le_trans I2.sz hD) ⟨hz, its, n, rv, hd⟩
  refine wpAny_assign_Name (store_ok2 I3 hN hky hx (v := .ref D) rfl (fun s'' I4 ⟨a, hsb, ha⟩ => ?_) hf)
  obtain ⟨_, c1, c2, c3, c4, c5⟩ := I2.fpOk hC hHC
  have hCa : C ≠ a := by
    rcases ha with e | e
    · rw [e]; exact c1
    · exact (c4 _ _ e).symm
  refine ⟨m, hn.sameBut hsb hCa, fun h' hs' => ⟨_, _, I4.turned (it := C) (t' := s''.toks) (fun b o hb e => (hs'.2 b hb).trans e) (by rw [upd_ne hDC.symm]; exact hHC) c1 c3 c4 c5, q D hHD⟩⟩
end
theorem comp_list {K : PySem.W.Frag} {a : Addr} {xs : List V} {g : TG} {tc : TT} {te : TE} {Q : VK} {τ0 : St} {H : Hp} (Pv : Nat → List V → St → Hp → Prop) (h0 : Pv 0 [] τ0 H) (hl : ∀ i ys τ H, i ≤ xs.length → Pv i ys τ H → SqL K H a xs ∧ ys.length < sizeLine)
    (hs : ∀ i x ys τ H, xs[i]? = some x → Pv i ys τ H → g x τ H fun τ1 H1 => tc τ1 H1 fun b H2 => if b = true then te τ1 H2 fun y H3 => Pv (i + 1) (ys ++ [y]) τ1 H3 else Pv (i + 1) ys τ1 H2)
    (hd : ∀ ys τ H, Pv xs.length ys τ H → ∀ D, H D = none → Q (.ref D) (upd H D (.lst ys))) : CompEnd (Itl K a) g tc te Q τ0 H := by
  refine ⟨fun i m ys τ H => m = xs.length - i ∧ i ≤ xs.length ∧ Pv i ys τ H, ⟨xs.length, by simp, Nat.zero_le _, h0⟩, ?_⟩
  rintro i m ys τ H ⟨rfl, hi, p⟩
  obtain ⟨q, z⟩ := hl i ys τ H hi p
  by_cases hlt : i < xs.length
  · refine .inr ⟨⟨xs, xs[i], q, by simp [hlt]⟩, z, Pv (i + 1), fun zs τ' H' p' => ⟨xs.length - (i + 1), by omega, rfl, hlt, p'⟩, fun x H' y => ?_⟩
    obtain ⟨e, y⟩ := y
    subst e
    exact hs i x ys τ _ (y xs q) p
  · have e : i = xs.length := by omega
    subst e
    exact .inl ⟨⟨xs, q, Nat.le_refl _⟩, hd ys τ H p⟩
theorem comp_range {lo : Int} {n : Nat} {g : TG} {tc : TT} {te : TE} {Q : VK} {τ0 : St} {H : Hp} (Pv : Nat → List V → St → Hp → Prop) (h0 : Pv 0 [] τ0 H) (hl : ∀ i ys τ H, i ≤ n → Pv i ys τ H → ys.length < sizeLine)
    (hs : ∀ i ys τ H, i < n → Pv i ys τ H → g (.int (lo + i)) τ H fun τ1 H1 => tc τ1 H1 fun b H2 => if b = true then te τ1 H2 fun y H3 => Pv (i + 1) (ys ++ [y]) τ1 H3 else Pv (i + 1) ys τ1 H2)
    (hd : ∀ ys τ H, Pv n ys τ H → ∀ D, H D = none → Q (.ref D) (upd H D (.lst ys))) : CompEnd (Itr lo n) g tc te Q τ0 H := by
  refine ⟨fun i m ys τ H => m = n - i ∧ i ≤ n ∧ Pv i ys τ H, ⟨n, by simp, Nat.zero_le _, h0⟩, ?_⟩
  rintro i m ys τ H ⟨rfl, hi, p⟩
  have z := hl i ys τ H hi p
  by_cases hlt : i < n
  · refine .inr ⟨hlt, z, Pv (i + 1), fun zs τ' H' p' => ⟨n - (i + 1), by omega, rfl, hlt, p'⟩, fun x H' y => ?_⟩
    obtain ⟨e, y⟩ := y
    subst e y
    exact hs i ys τ _ hlt p
  · have e : i = n := by omega
    subst e
    exact .inl ⟨Nat.le_refl _, hd ys τ H p⟩
def tCut (R : St → Hp → Prop) (t u : TS) : TS := fun D σ H => (∀ σ' H', R σ' H' → u D σ' H') ∧ t { D with nx := R } σ H
theorem pss_cut {X : Cx} {st : Stmt} {rest : List Stmt} {t u : TS} (R : St → Hp → Prop) (h1 : PS X st t) (h2 : PSs X rest u) : PSs X (st :: rest) (tCut R t u) := by
  intro pins s σ H D I h
  refine wpAny_execs_cons (thn (h1 pins s σ H { D with nx := R } I h.2) fun f s1 q => ?_)
  cases f with
  | next =>
    obtain ⟨σ', H', I', q⟩ := q
    exact h2 pins s1 σ' H' D I' (h.1 σ' H' q)
  | ret v => exact q
  | brk => exact q
  | cont => exact q
end L2

namespace L2
open PySem PySem.Spec PyProof.Rows
section
variable {X : Cx} {pins : List (Addr × Obj)} {σ : St} {s : Shared}
end
theorem same_upd {H : Hp} {p : Addr} (h : H p = none) (o : HO) : Same H (upd H p o) := fun b u q => by rw [upd_ne (ne_of_none q h)]; exact q
section
variable {X : Cx} {a b : Expr} {ta : TA} {p p1 pos pos1 : Pos}
end
end L2

namespace L2
open PySem PySem.Spec PyProof.Rows
theorem vals_int {ns : List Int} {its : List Value} (r : Vals (ns.map V.int) its) {j : Nat} {n : Int} (e : ns[j]? = some n) : ∃ t, its[j]? = some (.int n t) := by
  obtain ⟨u, hu, t, rfl⟩ := r.get (i := j) (x := .int n) (by rw [List.getElem?_map, e]; rfl)
  exact ⟨t, hu⟩
theorem all_range {α : Type} [DecidableEq α] {ns ms : List α} (h : ns.length = ms.length) {e : Nat → Bool} (he : ∀ j (h1 : j < ns.length) (h2 : j < ms.length), e j = decide (ns[j] = ms[j])) : (List.range ns.length).all e = decide (ns = ms) := by
  rw [Bool.eq_iff_iff, List.all_eq_true, decide_eq_true_iff]
  constructor
  · intro q
    apply List.ext_getElem h
    intro j h1 h2
    have := q j (List.mem_range.mpr h1)
    rw [he j h1 h2] at this
    exact of_decide_eq_true this
  · rintro rfl j hj
    have hj' := List.mem_range.mp hj
    rw [he j hj' hj']
    simp
section
variable {X : Cx} {pins : List (Addr × Obj)} {σ : St} {H : Hp} {s : Shared} {A : Around}
theorem items_int (I : Inv X pins σ H s) {a : Addr} {ns : List Int} (h : SqL X.K H a (ns.map V.int)) : ∃ its : Array Value, s.heap.IsList a its ∧ its.size = ns.length ∧ ∀ j (h1 : j < its.size) (h2 : j < ns.length), ∃ t, its[j] = .int ns[j] t := by
  obtain ⟨its, r, p, _⟩ := I.list h
  have hl := r.length
  rw [List.length_map] at hl
  refine ⟨its.toArray, p.isList, by rw [List.size_toArray]; exact hl.symm, fun j h1 h2 => ?_⟩
  obtain ⟨t, e⟩ := vals_int r (List.getElem?_eq_getElem h2)
  rw [List.size_toArray] at h1
  rw [List.getElem?_eq_getElem h1] at e
  exact ⟨t, by simpa using Option.some.inj e⟩
theorem rc_ints (I : Inv X pins σ H s) {a b : Addr} {ns ms : List Int} (ha : SqL X.K H a (ns.map V.int)) (hb : SqL X.K H b (ms.map V.int)) (hu : A.units < cLine) :
    SeqAt.RcAt A s (.ref a) (.ref b) (decide (ns = ms)) ∧ SeqAt.RcNeAt A s (.ref a) (.ref b) (!decide (ns = ms)) := by
  obtain ⟨i1, l1, z1, g1⟩ := items_int I ha
  obtain ⟨i2, l2, z2, g2⟩ := items_int I hb
  by_cases hl : ns.length = ms.length
  · have he : ∀ j (h1 : j < i1.size) (h2 : j < i2.size), SeqAt.EqAt A.in1 s i1[j] i2[j] (decide (ns.getD j 0 = ms.getD j 0)) := fun j h1 h2 => by
      obtain ⟨t, e1⟩ := g1 j h1 (by omega)
      obtain ⟨u, e2⟩ := g2 j h2 (by omega)
      rw [e1, e2]
      have := SeqAt.EqAt.int_int (A := A.in1) (s := s) (ns[j]'(by omega)) t (ms[j]'(by omega)) u
      have q : decide (ns.getD j 0 = ms.getD j 0) = ((ns[j]'(by omega)) == (ms[j]'(by omega))) := by
        rw [List.getD_eq_getElem?_getD, List.getD_eq_getElem?_getD, List.getElem?_eq_getElem (by omega : j < ns.length), List.getElem?_eq_getElem (by omega : j < ms.length)]
        rfl
      rw [q]
      exact this
    have al : (List.range i1.size).all (fun j => decide (ns.getD j 0 = ms.getD j 0)) = decide (ns = ms) := by
      rw [z1]
      refine all_range hl fun j h1 h2 => ?_
      rw [List.getD_eq_getElem?_getD, List.getD_eq_getElem?_getD, List.getElem?_eq_getElem h1, List.getElem?_eq_getElem h2]
      rfl
    have q1 := SeqAt.RcAt.lists l1 l2 (by omega) hu he
    have q2 := SeqAt.RcNeAt.lists l1 l2 (by omega) hu he
    rw [al] at q1 q2
    exact ⟨q1, q2⟩
  · have hd : decide (ns = ms) = false := decide_eq_false fun e => hl (by rw [e])
    rw [hd]
    have hne : (i1.size != i2.size) = true := by
      rw [z1, z2]
      simpa using hl
    exact ⟨SeqAt.RcAt.lists_lengths l1 l2 hne hu, SeqAt.RcNeAt.lists_lengths l1 l2 hne hu⟩
end
def rEqLI (K : PySem.W.Frag) (neg : Bool) : R2 := fun x y H Q => ∃ (a b : Addr) (ns ms : List Int), x = .ref a ∧ y = .ref b ∧ SqL K H a (ns.map V.int) ∧ SqL K H b (ms.map V.int) ∧ Q (.bl (if neg then !decide (ns = ms) else decide (ns = ms))) H
section
variable {X : Cx}
theorem op_eqLI (hu : X.A.units < cLine) : OpR X (compareOp .Eq) (rEqLI X.K false) := by
  intro pins s σ H x y v u Q I rx ry h
  obtain ⟨a, b, ns, ms, rfl, rfl, ha, hb, q⟩ := h
  cases rx
  cases ry
  exact (rc_ints I ha hb hu).1 _ _ _ _ ⟨.bl _, H, I, rfl, q⟩
end
structure Lab (K : PySem.W.Frag) (α : Type) [DecidableEq α] where
  rel : Hp → V → α → Prop
  mono : ∀ {H H' : Hp} {x : V} {a : α}, Same H H' → rel H x a → rel H' x a
  fn : ∀ {H : Hp} {x : V} {a b : α}, rel H x a → rel H x b → a = b
  eqAt : ∀ {X : Cx} {pins : List (Addr × Obj)} {σ : St} {H : Hp} {s : Shared} {A : Around} {x y : V} {u v : Value} {a b : α}, X.K = K → Inv X pins σ H s → RelV x u → RelV y v → rel H x a → rel H y b → A.units < cLine → SeqAt.EqAt A s u v (decide (a = b))
def labInt (K : PySem.W.Frag) : Lab K Int where
  rel := fun _ x a => x = .int a
  mono := fun _ h => h
  fn := fun h1 h2 => by
    rw [h1] at h2
    injection h2
  eqAt := fun {X pins σ H s A x y u v a b} _ _ rx ry hx hy _ => by
    subst hx hy
    obtain ⟨t, rfl⟩ := rx
    obtain ⟨t', rfl⟩ := ry
    have q : decide (a = b) = (a == b) := rfl
    rw [q]
    exact SeqAt.EqAt.int_int a t b t'
def LabsAt {K : PySem.W.Frag} {α : Type} [DecidableEq α] (L : Lab K α) (H : Hp) (xs : List V) (as : List α) : Prop := xs.length = as.length ∧ ∀ (j : Nat) (x : V) (a : α), xs[j]? = some x → as[j]? = some a → L.rel H x a
theorem LabsAt.mono {K : PySem.W.Frag} {α : Type} [DecidableEq α] {L : Lab K α} {H H' : Hp} {xs : List V} {as : List α} (h : LabsAt L H xs as) (q : Same H H') : LabsAt L H' xs as := ⟨h.1, fun j x a e1 e2 => L.mono q (h.2 j x a e1 e2)⟩
theorem labs_int {K : PySem.W.Frag} {H : Hp} (ns : List Int) : LabsAt (labInt K) H (ns.map V.int) ns := ⟨List.length_map _, fun j x a e1 e2 => by
  rw [List.getElem?_map, e2] at e1
  exact (Option.some.inj e1).symm⟩
theorem LabsAt.snoc {K : PySem.W.Frag} {α : Type} [DecidableEq α] {L : Lab K α} {H : Hp} {xs : List V} {as : List α} {x : V} {a : α} (h : LabsAt L H xs as) (q : L.rel H x a) : LabsAt L H (xs ++ [x]) (as ++ [a]) := by
  refine ⟨by rw [List.length_append, List.length_append, h.1]; rfl, fun j y b e1 e2 => ?_⟩
  by_cases hj : j < xs.length
  · rw [List.getElem?_append_left hj] at e1
    rw [List.getElem?_append_left (by rw [← h.1]; exact hj)] at e2
    exact h.2 j y b e1 e2
  · have hj' : j < (xs ++ [x]).length := (List.getElem?_eq_some_iff.mp e1).1
    have ej : j = xs.length := by rw [List.length_append, List.length_singleton] at hj'; omega
    subst ej
    rw [List.getElem?_append_right (Nat.le_refl _), Nat.sub_self] at e1
    rw [h.1, List.getElem?_append_right (Nat.le_refl _), Nat.sub_self] at e2
    have e1' : x = y := by simpa using e1
    have e2' : a = b := by simpa using e2
    subst e1' e2'
    exact q
section
variable {X : Cx} {K : PySem.W.Frag} {α : Type} [DecidableEq α]
noncomputable def labE (L : Lab K α) (H : Hp) (a : α) (u : Value) : Bool := @decide (∃ x, RelV x u ∧ L.rel H x a) (Classical.propDecidable _)
theorem labE_eq {L : Lab K α} {H : Hp} {x : V} {u : Value} {a b : α} (r : RelV x u) (h : L.rel H x b) : labE L H a u = decide (b = a) := by
  unfold labE
  by_cases e : b = a
  · subst e
    rw [decide_eq_true rfl]
    exact @decide_eq_true _ (Classical.propDecidable _) ⟨x, r, h⟩
  · rw [decide_eq_false e]
    refine @decide_eq_false _ (Classical.propDecidable _) ?_
    rintro ⟨y, ry, hy⟩
    have : y = x := ry.inj r
    subst this
    exact e (L.fn h hy)
theorem items_lab {L : Lab K α} {H : Hp} {xs : List V} {its : List Value} {as : List α} (r : Vals xs its) (h : LabsAt L H xs as) : its.length = as.length ∧ ∀ (j : Nat) (h1 : j < its.length) (h2 : j < as.length), ∃ x, RelV x its[j] ∧ L.rel H x as[j] := by
  have hl := r.length
  refine ⟨by rw [← hl, h.1], fun j h1 h2 => ?_⟩
  have hx : j < xs.length := by omega
  obtain ⟨u, hu, ru⟩ := r.get (List.getElem?_eq_getElem hx)
  rw [List.getElem?_eq_getElem h1] at hu
  cases hu
  exact ⟨_, ru, h.2 j _ _ (List.getElem?_eq_getElem hx) (List.getElem?_eq_getElem h2)⟩
theorem eqAt_lab {L : Lab K α} {pins : List (Addr × Obj)} {σ : St} {H : Hp} {s : Shared} {A : Around} {xs : List V} {its : List Value} {as : List α} {x : V} {a : α} {v : Value} (hK : X.K = K) (I : Inv X pins σ H s) (r : Vals xs its) (h : LabsAt L H xs as) (rx : RelV x v) (hx : L.rel H x a) (hu : A.units < cLine) :
    (∀ y, y ∈ its.toArray → SeqAt.EqAt A s y v (labE L H a y)) ∧ its.toArray.any (labE L H a) = decide (a ∈ as) := by
  obtain ⟨hl, hi⟩ := items_lab r h
  constructor
  · intro y hy
    obtain ⟨j, hj, e⟩ := List.getElem_of_mem (by simpa using hy : y ∈ its)
    obtain ⟨z, rz, hz⟩ := hi j hj (by omega)
    rw [e] at rz
    rw [labE_eq rz hz]
    exact L.eqAt hK I rz rx hz hx hu
  · rw [Bool.eq_iff_iff, decide_eq_true_iff, Array.any_eq_true]
    constructor
    · rintro ⟨j, hj, e⟩
      have hj' : j < its.length := by simpa using hj
      obtain ⟨z, rz, hz⟩ := hi j hj' (by omega)
      have e' : labE L H a its[j] = true := by simpa using e
      rw [labE_eq rz hz] at e'
      have := of_decide_eq_true e'
      rw [← this]
      exact List.getElem_mem _
    · intro ha
      obtain ⟨j, hj, e⟩ := List.getElem_of_mem ha
      obtain ⟨z, rz, hz⟩ := hi j (by omega) hj
      refine ⟨j, by simpa using (by omega : j < its.length), ?_⟩
      have : labE L H a (its[j]'(by omega)) = true := by
        rw [labE_eq rz hz, e]
        exact decide_eq_true rfl
      simpa using this
def rInLab (L : Lab K α) (neg : Bool) : R2 := fun x y H Q => ∃ p xs as a, y = .ref p ∧ SqL K H p xs ∧ LabsAt L H xs as ∧ L.rel H x a ∧ Q (.bl (if neg then !decide (a ∈ as) else decide (a ∈ as))) H
theorem op_notInLab (L : Lab K α) (hu : X.A.units + 1 < cLine) (hK : X.K = K := by rfl) : OpR X (compareOp .NotIn) (rInLab L true) := by
  intro pins s σ H x y v u Q I rx ry h
  obtain ⟨p, xs, as, a, rfl, hs, hl, hx, q⟩ := h
  cases ry
  obtain ⟨its, r, pl, _⟩ := I.list (hK ▸ hs)
  obtain ⟨h1, h2⟩ := eqAt_lab (A := X.A.in1) hK I r hl rx hx hu
  refine SeqAt.notIn_listAt (labE L H a) pl.isList h1 ?_
  rw [h2]
  exact ⟨.bl _, H, I, rfl, q⟩
def rIndex (L : Lab K α) : V → List V → Hp → VK → Prop := fun x vs H Q => ∃ p xs as a y, x = .ref p ∧ vs = [y] ∧ SqL K H p xs ∧ LabsAt L H xs as ∧ L.rel H y a ∧ a ∈ as ∧ Q (.int ((as.idxOf a : Nat) : Int)) H
theorem mt_index (L : Lab K α) (hu : X.A.units + 1 < cLine) (hK : X.K = K := by rfl) : MtM X "list.index" (rIndex L) := by
  intro pins s σ H x vs v us Q I rx rv h
  obtain ⟨p, xs, as, a, y, rfl, rfl, hs, hl, hy, ha, q⟩ := h
  cases rx
  obtain ⟨u, rfl, ru⟩ := rv.one
  obtain ⟨its, r, ⟨o, n, ho, hc, hd, hs'⟩, hz⟩ := I.list (hK ▸ hs)
  obtain ⟨h1, _⟩ := eqAt_lab (A := X.A.in1) hK I r hl ru hy hu
  obtain ⟨hlen, hi⟩ := items_lab r hl
  have hlx := r.length
  have hj : as.idxOf a < as.length := List.idxOf_lt_length_of_mem ha
  have hit : as[as.idxOf a] = a := List.getElem_idxOf hj
  have hlt63 : (as.idxOf a : Int) < 2 ^ 63 - 1 := by
    have := line63
    omega
  obtain ⟨cls, dd, data, sl⟩ := o
  simp only at hc hd hs'
  subst hc hs'
  refine call_meets F.slot_list_index ⟨_, ho, rfl⟩ F.entry_list_index (F.args_list_index_2 _ _)
    (SeqAt.list_indexAt p its.toArray n dd sl u (labE L H a) (as.idxOf a) (by rw [List.size_toArray]; omega) hlt63 ?_ ?_) ⟨ho, h1, ?_⟩
  · obtain ⟨z, rz, hz'⟩ := hi (as.idxOf a) (by omega) hj
    have := labE_eq (a := a) rz hz'
    rw [hit, decide_eq_true rfl] at this
    simpa using this
  · intro m hm hmj
    have hm' : m < its.length := by simpa using hm
    obtain ⟨z, rz, hz'⟩ := hi m hm' (by omega)
    have := labE_eq (a := a) rz hz'
    have ne : ¬ as[m]'(by omega) = a := by
      have := List.not_of_lt_findIdx (p := (· == a)) (xs := as) hmj
      simpa using this
    rw [decide_eq_false ne] at this
    simpa using this
  · exact ⟨.int _, H, I.tok _, ⟨_, rfl⟩, q⟩
end
def rSetD : V → List V → Hp → VK → Prop := fun x vs H Q => ∃ a y z, x = .ref a ∧ vs = [y, z] ∧
  ((∃ kvs k, H a = some (.dK kvs) ∧ y = kV k ∧ kvs.length < sizeLine ∧ (∀ v, valV kvs k = some v → Q v H) ∧ (valV kvs k = none → Q z (upd H a (.dK (kvs ++ [(k, z)]))))) ∨
   ∃ kvs k b, H a = some (.dT kvs) ∧ y = .ref b ∧ H b = some (.tup (k.map kV)) ∧ kvs.length < sizeLine ∧ (∀ v, valV kvs k = some v → Q v H) ∧ (valV kvs k = none → Q z (upd H a (.dT (kvs ++ [(k, z)])))))
section
variable {X : Cx}
theorem mt_setdefault (hu : X.A.units + 1 < cLine) : MtM X "dict.setdefault" rSetD := by
  intro pins s σ H x vs v us Q I rx rv h
  obtain ⟨a, y, z, rfl, rfl, h⟩ := h
  cases rx
  obtain ⟨u, r, rfl, ry, rz⟩ := rv.two
  rcases h with ⟨kvs, k, e, rfl, hl, q1, q2⟩ | ⟨kvs, k, b, e, rfl, eb, hl, q1, q2⟩
  · obtain ⟨zz, hd, ws, rel, dd⟩ := dk_of I.hok e
    have hz : ws.length ≤ sizeLine := by rw [← rel.length]; exact zz
    refine call_meetsIn PySem.F.slot_dict_setdefault dd.typeIs PySem.F.entry_dict_setdefault (PySem.F.args_dict_setdefault_3 _ _ _) (kt_meets_setdefault (mixKind X.prog X.w) a (kV_is ry) hd r) ⟨ws, dd, hz, fun w' hw => ?_, fun hn h' dd' hs => ?_⟩
    · have q := rel.val k
      rw [hw] at q
      cases ev : valV kvs k with
      | none => rw [ev] at q; exact (show False from q).elim
      | some v' =>
        rw [ev] at q
        exact ⟨v', H, I.tok _, q, q1 v' ev⟩
    · have q := rel.val k
      rw [hn] at q
      have ev : valV kvs k = none := by
        cases ev : valV kvs k with
        | none => rfl
        | some v' => rw [ev] at q; exact (show False from q).elim
      have hp : KV (kvs ++ [(k, z)]) (stored ws k r) := by
        have := rel.put k rz
        rwa [putK_new z ev] at this
      have he : ∃ q, h'.get? a = some q := let ⟨q, _, _, hq, _⟩ := dd'; ⟨q, hq⟩
      have hl' : (kvs ++ [(k, z)]).length ≤ sizeLine := by rw [List.length_append, List.length_singleton]; omega
      exact ⟨z, _, d_write I (by rw [e]; exact True.intro) hs he (dk_new hl' hd hp dd'), rz, q2 ev⟩
  · cases (show u = Value.ref b from ry)
    obtain ⟨zz, hd, ws, rel, dd⟩ := dt_of I.hok e
    have hz : ws.length ≤ sizeLine := by rw [← Paired.length rel]; exact zz
    refine call_meetsIn PySem.F.slot_dict_setdefault dd.typeIs PySem.F.entry_dict_setdefault (PySem.F.args_dict_setdefault_3 _ _ _) (DL.meetsH_setdefault (tupleKind (mixKind X.prog X.w)) a b hd r)
      ⟨tupleKind_room_in1 hu, k, ws, key_of I.hok eb, dd, hz, fun w' hw => ?_, fun hn h' dd' hs => ?_⟩
    · have q := rel.val k
      rw [hw] at q
      cases ev : valV kvs k with
      | none => rw [ev] at q; exact (show False from q).elim
      | some v' =>
        rw [ev] at q
        exact ⟨v', H, I.tok _, q, q1 v' ev⟩
    · have q := rel.val k
      rw [hn] at q
      have ev : valV kvs k = none := by
        cases ev : valV kvs k with
        | none => rfl
        | some v' => rw [ev] at q; exact (show False from q).elim
      have hp : KT H (kvs ++ [(k, z)]) (storedH ws k b r) := by
        have := rel.put k eb rz
        rwa [putK_new z ev] at this
      obtain ⟨qo, es, ep, hq, h2, h3, h4, _, h5⟩ := dd'
      have hl' : (kvs ++ [(k, z)]).length ≤ sizeLine := by rw [List.length_append, List.length_singleton]; omega
      refine ⟨z, _, d_write (ob := .dT (kvs ++ [(k, z)])) I (by rw [e]; exact True.intro) hs ⟨qo, hq⟩ ⟨hl', hd, _, hp.keeps fun c ys ec => ?_, qo, es, ep, hq, h2, h3, h4, h5⟩, rz, q2 ev⟩
      rw [upd_ne (ne_of ec e (fun z => nomatch z))]
      exact ec
theorem call_lenDD : CallR X (.builtin "len") (fun xs H Q => ∃ a n, xs = [V.ref a] ∧ ((∃ kvs, H a = some (.dK kvs) ∧ kvs.length = n) ∨ ∃ kvs, H a = some (.dT kvs) ∧ kvs.length = n) ∧ Q (.int (n : Nat)) H) := by
  intro pins s σ H xs us Q I r h
  obtain ⟨a, n, rfl, h, q⟩ := h
  obtain ⟨u, rfl, ru⟩ := vals1 r
  cases ru
  rcases h with ⟨kvs, e, rfl⟩ | ⟨kvs, e, rfl⟩
  · exact d_len I (.inl e) fun t s' I' => ⟨.int kvs.length, H, I', ⟨t, rfl⟩, q⟩
  · obtain ⟨z, hd, ws, rel, dd⟩ := dt_of I.hok e
    refine DL.call_len_heap hd dd (by rw [← Paired.length rel]; rw [sizeLine_eq] at z; omega) ?_
    rw [← Paired.length rel]
    exact ⟨.int _, H, I.tok _, ⟨_, rfl⟩, q⟩
theorem call_isinst : CallR X (.builtin "isinstance") (fun xs H Q => ∃ x c t b, xs = [x, .ty c] ∧ TyOf X.K H x t ∧ PySem.W.kitOne X.K t (.type c) = some b ∧ Q (.bl b) H) := by
  intro pins s σ H xs us Q I r h
  obtain ⟨x, c, t, b, rfl, ty, e, q⟩ := h
  obtain ⟨u, v, rfl, ru, rv⟩ := r.two
  cases rv
  exact isinst_ok I ru ty e fun tk => ⟨.bl b, H, I.tok _, rfl, q⟩
end
end L2

namespace L2
open PySem PySem.Spec PyProof.Rows
def Fn (P : Program) (w : World) (K : PySem.W.Frag) (mg : Str → Option Value) (base : Heap) (x : Str) (ps : List Str) (k : Nat) (sp : Sp) : Prop :=
  ∃ (f : Addr) (fd : FuncData), mg x = some (.ref f) ∧ PySem.W.keepIn K (.ref f) = true ∧ Binds K fd ps [] ∧ FnOk P w K mg base CX0 k f fd ps sp
section
variable {X : Cx} {x : Str} {ps : List Str} {k : Nat} {sp : Sp} {p pos : Pos} {e : Expr} {es : List Expr} {t : TA}
theorem pe_fn (G : Fn X.prog X.w X.K X.mg X.base x ps k sp) (hr : Room k X.A) (ha : PA X (e :: es) t) (hg : Gl X x := by rfl) (hdb : (x == ("__debug__" : Str)) = false := by decide)
    (he : starEach (e :: es) X.env = (false, eval e X.env) :: starEach es X.env := by rfl) (hpl : (backTo pos (starEach es X.env)).any (·.1) = false := by rfl) : PE X (.Call (.Name x p) (e :: es) [] pos) (tCall sp [] E0 t) := by
  obtain ⟨f, fd, m, kp, b, F⟩ := G
  exact pe_call F hr hg m kp b .nil pass0 ha hdb he hpl
end
section
variable {X : Cx} {K : PySem.W.Frag}
theorem ix_listK (hK : X.K = K := by rfl) : IxR X (rIxL K) := by subst hK; exact ix_list
variable {o e : Expr} {es : List Expr} {to : TE} {t : TA} {name : Str} {apos cpos : Pos} {T id : String} {r : V → List V → Hp → VK → Prop}
theorem pe_bmK (pa : PlainAttrs T) (slot : Slot T name id) (hty : typeOf (.builtin id) = pure (.type "method_descriptor")) (hm : MtM X id r) (ho : PE X o to) (ha : PA X (e :: es) t) (hK : X.K = K := by rfl)
    (hbase : attributeBase o name X.env (eval o X.env) = eval o X.env := by rfl)
    (hfew : ((backTo cpos (starEach (e :: es) X.env)).all (fun x => !x.1) && (backToKw cpos (keywordEach [] X.env)).all (fun x => x.1.isSome)
      && decide ((e :: es).length + ([] : List Keyword).length + (if ([] : List Keyword).isEmpty then 0 else 1) < 30)) = true := by rfl)
    (hline : (apos.endLine == cpos.line) = true := by rfl) (hs : starEach (e :: es) X.env = (false, eval e X.env) :: starEach es X.env := by rfl) (hplain : (backTo cpos (starEach es X.env)).any (·.1) = false := by rfl) :
    PE X (.Call (.Attribute o name apos) (e :: es) [] cpos) (tBM K T r to t) := by
  subst hK
  exact pe_bm pa slot hty hm ho ha hbase hfew hline hs hplain
end
theorem Same.upd2 {H H' : Hp} {l : Addr} {o : HO} (h : Same H H') (hl : H l = none) : Same H (upd H' l o) := fun b u q => by
  rw [upd_ne (ne_of_none q hl)]
  exact h b u q
theorem ints_get {ns : List Int} {i : Nat} {x : V} (h : (ns.map V.int)[i]? = some x) : ∃ z, ns[i]? = some z ∧ x = .int z := by
  rw [List.getElem?_map] at h
  cases e : ns[i]? with
  | none => rw [e] at h; cases h
  | some z => rw [e] at h; exact ⟨z, rfl, (Option.some.inj h).symm⟩
theorem small {n : Nat} (h : n ≤ 1000) : n ≤ sizeLine := Nat.le_of_lt (small1000 h)
def kvOf {α κ : Type} (key : α → κ) (as : List α) : List (κ × V) := as.mapIdx fun i a => (key a, V.int ((i : Nat) : Int))
theorem kvOf_snoc {α κ : Type} (key : α → κ) (as : List α) (a : α) : kvOf key (as ++ [a]) = kvOf key as ++ [(key a, V.int ((as.length : Nat) : Int))] := by
  unfold kvOf
  rw [List.mapIdx_concat]
theorem kvOf_len {α κ : Type} (key : α → κ) (as : List α) : (kvOf key as).length = as.length := by simp [kvOf]
theorem kvOf_val {α κ : Type} [DecidableEq α] [DecidableEq κ] (key : α → κ) (hk : ∀ a b, key a = key b → a = b) (as : List α) (nd : as.Nodup) (a : α) :
    valV (kvOf key as) (key a) = if a ∈ as then some (V.int ((as.idxOf a : Nat) : Int)) else none := by
  induction as using Sh.snoc_ind with
  | h0 => rfl
  | h1 l x ih =>
    rw [List.nodup_append] at nd
    obtain ⟨nd1, _, nd2⟩ := nd
    have hx : ¬ x ∈ l := fun q => nd2 x q x (by simp) rfl
    have none_x : valV (kvOf key l) (key x) = none := by
      have : ∀ l : List α, ¬ x ∈ l → valV (kvOf key l) (key x) = none := by
        intro l
        induction l using Sh.snoc_ind with
        | h0 => intro _; rfl
        | h1 l y ih' =>
          intro hxl
          rw [kvOf_snoc]
          have h1 : ¬ x ∈ l := fun q => hxl (List.mem_append_left _ q)
          have h2 : ¬ key y = key x := fun q => hxl (by rw [hk _ _ q]; simp)
          have e := ih' h1
          -- valV of a snoc whose key is another one
          have gen : ∀ (kvs : List (κ × V)) (k j : κ) (v : V), ¬ k = j → valV (kvs ++ [(k, v)]) j = valV kvs j := by
            intro kvs k j v hkj
            induction kvs with
            | nil => exact valV_neg (p := (k, v)) hkj
            | cons p r ihr =>
              rw [List.cons_append]
              by_cases c : p.1 = j
              · rw [valV_pos c, valV_pos c]
              · rw [valV_neg c, valV_neg c, ihr]
          rw [gen _ _ _ _ h2]
          exact e
      exact this l hx
    rw [kvOf_snoc, valV_snoc _ _ _ _ none_x]
    by_cases c : a = x
    · subst c
      rw [if_pos rfl, if_pos (by simp), Sh.idx_snoc_new hx]
    · rw [if_neg (fun q => c (hk _ _ q)), ih nd1]
      by_cases ha : a ∈ l
      · rw [if_pos ha, if_pos (List.mem_append_left _ ha), Sh.idx_snoc_mem ha]
      · rw [if_neg ha, if_neg]
        intro q
        rcases List.mem_append.mp q with q | q
        · exact ha q
        · exact c (List.mem_singleton.mp q)
structure DLab (K : PySem.W.Frag) (α : Type) [DecidableEq α] where
  L : Lab K α
  dOf : List α → HO
  setd : ∀ {H : Hp} {d : Addr} {y : V} {as : List α} {a : α} {Q : VK}, H d = some (dOf as) → L.rel H y a → as.Nodup → as.length < sizeLine → (a ∈ as → Q (.int ((as.idxOf a : Nat) : Int)) H) →
    (¬ a ∈ as → Q (.int ((as.length : Nat) : Int)) (upd H d (dOf (as ++ [a])))) → rSetD (.ref d) [y, .int ((as.length : Nat) : Int)] H Q
  lenD : ∀ {H : Hp} {d : Addr} {as : List α}, H d = some (dOf as) → (∃ kvs, H d = some (.dK kvs) ∧ kvs.length = as.length) ∨ ∃ kvs, H d = some (.dT kvs) ∧ kvs.length = as.length
  newD : ∀ {X : Cx} {pos : Pos}, PE X (.Dict [] [] pos) (fun _ H Q => ∀ p, H p = none → Q (.ref p) (upd H p (dOf [])))
def dlInt (K : PySem.W.Frag) : DLab K Int where
  L := labInt K
  dOf := fun as => .dK (kvOf (fun a => (Sum.inl a : Key)) as)
  setd := fun {H d y as a Q} hd hr nd hl h1 h2 => by
    have hr' : y = .int a := hr
    subst hr'
    have hv := kvOf_val (fun a => (Sum.inl a : Key)) (fun a b e => Sum.inl.inj e) as nd a
    refine ⟨d, _, _, rfl, rfl, .inl ⟨_, Sum.inl a, hd, rfl, by rw [kvOf_len]; exact hl, fun v e => ?_, fun e => ?_⟩⟩
    · rw [hv] at e
      split at e
      · rename_i c
        rw [← Option.some.inj e]
        exact h1 c
      · cases e
    · rw [hv] at e
      split at e
      · cases e
      · rename_i c
        have := h2 c
        rw [kvOf_snoc] at this
        exact this
  lenD := fun h => .inl ⟨_, h, kvOf_len _ _⟩
  newD := pe_dnewK
end L2

namespace L2
open PySem PySem.Spec PyProof.Rows
section
variable {X : Cx} {pins : List (Addr × Obj)} {σ : St} {H : Hp} {s : Shared}
theorem Inv.turnedL {t' : Nat} {fp : List Addr} {h' : Heap} (I : Inv X pins σ H s) (k : ∀ b o, b ∉ fp → s.heap.get? b = some o → h'.get? b = some o) (hf : ∀ b ∈ fp, FpOk X pins H b) : Inv X pins σ H { s with heap := h', toks := t' } := by
  have nit : ∀ b u, H b = some u → b ∉ fp := fun b u e z => by rw [(hf b z).1] at e; cases e
  refine I.step (g' := s.gens) (d' := s.drawn) (ch := fp) (fun b hb => let ⟨_, q1, _, q3, q4, q5⟩ := hf b hb; ⟨q3, q1, q4, q5⟩) (fun b o _ _ hc e _ => k b o hc e) (fun b o _ _ hc e _ => ⟨o.slots, k b o hc e⟩) (fun _ _ _ _ n => n)
    (fun b o hc e => ⟨o, k b o hc e⟩) (fun _ _ e => e) (fun _ _ _ e => e) (fun b ps e => ⟨#[], by rw [e]; simp⟩) (fun m hm => ?_) (fun b u e => ?_) I.bare
  · obtain ⟨o, es, ep, ho, r⟩ := hm
    exact ⟨o, es, ep, k _ o (fun z => (hf _ z).2.1 rfl) ho, r⟩
  · refine (I.hok b u e).stay (fun c v hc q => k c v ?_ q) (fun _ q => q) fun _ _ q => q
    rcases hc with z | z
    · rw [z]; exact nit b u e
    · exact nit c _ z
end
def Ite (K : PySem.W.Frag) (a : Addr) : It :=
  ⟨fun i H => ∃ xs x, SqL K H a xs ∧ xs[i]? = some x, fun i H v H' => ∃ p x, v = .ref p ∧ H p = none ∧ H' = upd H p (.tup [.int ((i : Nat) : Int), x]) ∧ ∀ xs, SqL K H a xs → xs[i]? = some x, fun i H => ∃ xs, SqL K H a xs ∧ xs.length ≤ i⟩
theorem turn_enum {P : Program} {w : World} {K : PySem.W.Frag} {elts : List Expr} {k : Nat} {pos : Pos} (a it e : Addr) (hne : e ≠ it) :
    Turn P w K (.Tuple elts k pos) (Ite K a) [e, it] e (fun i h => (∃ old, IsEnum h e it ((i : Nat) : Int) old) ∧ h.IsListIter it a i) where
  mem := by simp
  obj := fun i h st b hb => by
    obtain ⟨⟨old, he⟩, hi⟩ := st
    rcases List.mem_cons.mp hb with rfl | hb
    · exact ⟨_, he, fun v z => by
        have z' : Data.fields _ = Data.cell v := z
        cases z'⟩
    · rw [List.mem_singleton.mp hb]
      obtain ⟨o, e, c, d⟩ := hi
      exact ⟨o, e, fun v z => by rw [d] at z; cases z⟩
  keep := fun i h h' st k => ⟨let ⟨old, he⟩ := st.1; ⟨old, k e (by simp) _ he⟩, st.2.at fun o q => k it (by simp) o q⟩
  item := by
    intro X hP hw hK hc i pins s σ H E I hf st hg
    subst hP hw hK
    obtain ⟨xs, x, hq, hx⟩ := hg
    obtain ⟨its, rv, p, hz⟩ := I.list hq
    obtain ⟨u, hu, ru⟩ := rv.get hx
    obtain ⟨⟨old, he⟩, hi⟩ := st
    refine wpAny_pyNext_enum_item he hi p.isList (x := u) (by simpa using hu) hne fun h' a1 a2 a3 a4 a5 => ?_
    have I1 : Inv X pins σ H { s with heap := h', toks := s.toks + 1 } := I.turnedL (fp := [e, it]) (fun b o hb q => a5 b o (fun z => hb (by simp [z])) (fun z => hb (by simp [z])) q) hf
    refine ⟨_, rfl, wpAny_letOwnedTupleGo_enum a1 fun h'' b1 b2 => ?_⟩
    have I2 : Inv X pins σ H { s with heap := h'', toks := s.toks + 1 } := I1.turnedL (fp := [e]) (t' := s.toks + 1) (fun b o hb q => (b2.2 b (fun z => hb (by simp [z]))).trans q) (fun b hb => hf b (by rw [List.mem_singleton.mp hb]; simp))
    have hnew : H s.heap.objs.size = none := I.hok.fresh (Nat.le_refl _)
    have elt : e < s.heap.objs.size := Heap.lt_size he
    have ilt : it < s.heap.objs.size := by obtain ⟨_, q, _⟩ := hi; exact Heap.lt_size q
    have tup := (b2.2 s.heap.objs.size (Nat.ne_of_gt elt)).trans a3
    have I3 := I2.adopt (o := .tup [.int ((i : Nat) : Int), x]) (I.fpOk (Nat.le_refl _) hnew) I.sz ⟨(by show 2 ≤ sizeLine; decide), [.int ((i : Nat) : Int) s.toks, u], .cons ⟨_, rfl⟩ (.cons ru .nil), ⟨_, tup, rfl, _, rfl⟩⟩
    refine ⟨.ref s.heap.objs.size, _, I3, rfl, ⟨_, x, rfl, hnew, rfl, fun ys hy => by rw [I.list_inj hy hq]; exact hx⟩, ⟨⟨u, by simpa using b1⟩, a2.at fun o q => (b2.2 it hne.symm).trans q⟩, fun b hb => ?_⟩
    have hb' : b < s.heap.objs.size := by
      rcases List.mem_cons.mp hb with rfl | hb
      · exact elt
      · rw [List.mem_singleton.mp hb]; exact ilt
    rw [upd_ne (Nat.ne_of_lt hb')]
    exact (hf b hb).1
  done := by
    intro X hP hw hK hc i pins s σ H E I hf st hg
    subst hP hw hK
    obtain ⟨xs, hq, hx⟩ := hg
    obtain ⟨its, rv, p, hz⟩ := I.list hq
    obtain ⟨⟨old, he⟩, hi⟩ := st
    have hl := rv.length
    exact wpAny_pyNext_enum_end (I.ok.hd hc) he hi p.isList (by simp; omega) fun h' eb => ⟨rfl, I.turnedL (fp := [e, it]) (t' := s.toks) (fun b o hb q => eb b o (fun z => hb (by simp [z])) q) hf⟩
  self := fun _ _ _ _ _ st h => let ⟨_, he⟩ := st.1; wpAny_pyIter_enum he h
section
variable {X : Cx}
def iEnum (K : PySem.W.Frag) (ta : TA) : TI := fun σ H R => ta σ H fun vs H1 => ∃ a, vs = [.ref a] ∧ (∃ xs, SqL K H1 a xs) ∧ R (Ite K a) H1
theorem pi_enum {a : Expr} {elts : List Expr} {k : Nat} {tpos : Pos} {ta : TA} {p pos : Pos} (hg : Gl X "enumerate") (hm : X.mg "enumerate" = none) (ha : PA X [a] ta) (hs : starEach [a] X.env = [(false, eval a X.env)] := by rfl) :
    PI X (.Tuple elts k tpos) (.Call (.Name "enumerate" p) [a] [] pos) (iEnum X.K ta) := by
  intro pins s σ H R I h
  refine Call_ (ld_blt I hg hm boot_enumerate (PyProof.Rows.callWith_type1 (thn (ha pos pins s σ H _ I h) fun us s1 ⟨vs, H1, I1, r1, q1⟩ => ?_) hs rfl))
  obtain ⟨l, rfl, ⟨xs, hq⟩, q⟩ := q1
  obtain ⟨u, rfl, ru⟩ := r1.one
  cases ru
  obtain ⟨its, rv, pl, hz⟩ := I1.list hq
  refine call_enumerate_list pl.isList fun h' hE hI hsz hk => wpAny_pyIter_enum hE ?_
  have n1 : s1.heap.objs.size ≤ s1.heap.objs.size + 1 := Nat.le_succ _
  refine ⟨s1.heap.objs.size + 1, [s1.heap.objs.size + 1, s1.heap.objs.size], _, _, H1, rfl, I1.kept (t' := s1.toks) hk, turn_enum l _ _ (Nat.succ_ne_self _), ⟨⟨.none, hE⟩, hI⟩, fun b hb => ?_, q⟩
  rcases List.mem_cons.mp hb with rfl | hb
  · exact I1.fpOk n1 (I1.hok.fresh n1)
  · rw [List.mem_singleton.mp hb]
    exact I1.fpOk (Nat.le_refl _) (I1.hok.fresh (Nat.le_refl _))
theorem for_enum {K : PySem.W.Frag} {a : Addr} {xs : List V} {g : TG} {tb : TS} {D : Ends} {σ : St} {H : Hp} (Pv : Nat → St → Hp → Prop) (h0 : Pv 0 σ H) (hl : ∀ i σ H, i ≤ xs.length → Pv i σ H → SqL K H a xs)
    (hs : ∀ i x σ H p, xs[i]? = some x → H p = none → Pv i σ H → g (.ref p) σ (upd H p (.tup [.int ((i : Nat) : Int), x])) fun σ2 H2 => tb { D with nx := Pv (i + 1), ct := Pv (i + 1), bk := D.nx } σ2 H2) (hd : ∀ σ H, Pv xs.length σ H → D.nx σ H) :
    ∃ W : Nat → Nat → St → Hp → Prop, (∃ m, W 0 m σ H) ∧ ∀ i m σ H, W i m σ H →
      ((Ite K a).stop i H ∧ D.nx σ H) ∨ ((Ite K a).go i H ∧ ∃ N : St → Hp → Prop, (∀ σ' H', N σ' H' → ∃ m', m' < m ∧ W (i + 1) m' σ' H') ∧ ∀ x H', (Ite K a).yld i H x H' → g x σ H' fun σ2 H2 => tb { D with nx := N, ct := N, bk := D.nx } σ2 H2) := by
  refine ⟨fun i m σ H => m = xs.length - i ∧ i ≤ xs.length ∧ Pv i σ H, ⟨xs.length, by simp, Nat.zero_le _, h0⟩, ?_⟩
  rintro i m σ H ⟨rfl, hi, p⟩
  have q := hl i σ H hi p
  by_cases hlt : i < xs.length
  · refine .inr ⟨⟨xs, xs[i], q, by simp [hlt]⟩, Pv (i + 1), fun σ' H' p' => ⟨xs.length - (i + 1), by omega, rfl, hlt, p'⟩, fun v H' y => ?_⟩
    obtain ⟨pp, x, rfl, hn, rfl, y⟩ := y
    exact hs i x σ H pp (y xs q) hn p
  · have e : i = xs.length := by omega
    subst e
    exact .inl ⟨⟨xs, q, Nat.le_refl _⟩, hd σ H p⟩
theorem ints_are {ns : List Int} {its : List Value} (r : Vals (ns.map V.int) its) : IntsAre its ns := intsAre_of r
theorem call_maxL (hc : X.calm = true) : CallR X (.builtin "max") (fun xs H Q => ∃ (a : Addr) (ns : List Int), xs = [.ref a] ∧ SqL X.K H a (ns.map V.int) ∧ ns ≠ [] ∧ ∀ M : Int, M ∈ ns → (∀ b, b ∈ ns → b ≤ M) → Q (.int M) H) := by
  intro pins s σ H xs us Q I r h
  obtain ⟨a, ns, rfl, hS, hne, q⟩ := h
  obtain ⟨u, rfl, ru⟩ := r.one
  cases ru
  obtain ⟨its, rv, pl, hz⟩ := I.list hS
  have hi := ints_are rv
  obtain ⟨ys, e⟩ := hi.allInts.items
  have hns : ns = ys.toList.map (·.1) := by rw [← hi.numsOf, ← nums_intItems, ← e]
  have hsz : 0 < ys.size := by
    have h3 := List.length_pos_iff.mpr hne
    rw [hns, List.length_map, Array.length_toList] at h3
    exact h3
  have hl := pl.isList
  rw [e] at hl
  refine max_intList (I.ok.hd hc) hl hsz fun v h' tk hv hk => ?_
  obtain ⟨t, rfl⟩ := intItems_at hv
  obtain ⟨h1, h2⟩ := argBest_gt (numAt ys) (ys.size - 1)
  refine ⟨.int _, H, I.kept hk, ⟨t, rfl⟩, q _ ?_ fun b hb => ?_⟩
  · rw [hns, numAt_eq]; exact getD_mem (by rw [List.length_map, Array.length_toList]; omega)
  · rw [hns] at hb
    obtain ⟨j, hj, rfl⟩ := mem_getD hb
    rw [List.length_map, Array.length_toList] at hj
    rw [← numAt_eq]; exact h2 j (by omega)
theorem vals_of_ints : ∀ {vs : List Value} {ns : List Int}, IntsAre vs ns → Vals (ns.map V.int) vs := vals_ints
theorem call_sortedL : CallR X (.builtin "sorted") (fun xs H Q => ∃ (a : Addr) (ns : List Int), xs = [.ref a] ∧ SqL X.K H a (ns.map V.int) ∧ ns.length < 64 ∧ ∀ (p : Addr) (ms : List Int), H p = none → ms.Perm ns → ms.Pairwise (· ≤ ·) → Q (.ref p) (upd H p (.lst (ms.map V.int)))) := by
  intro pins s σ H xs us Q I r h
  obtain ⟨a, ns, rfl, hS, hlen, q⟩ := h
  obtain ⟨u, rfl, ru⟩ := r.one
  cases ru
  obtain ⟨its, rv, pl, hz⟩ := I.list hS
  have hl := rv.length
  rw [List.length_map] at hl
  refine sorted_ints pl.isList (ints_are rv) (by omega) fun out ns' a1 a2 a3 => ?_
  obtain ⟨e, he⟩ := sortedAll_at s.heap its out
  have hn : H (s.heap.objs.size + 1) = none := I.hok.fresh (Nat.le_succ _)
  refine ⟨.ref (s.heap.objs.size + 1), _, I.laid (a := s.heap.objs.size + 1) (o := .lst (ns'.map V.int)) (t' := s.toks) (fun _ _ z => sortedAll_old z) (Nat.le_succ _) ⟨?_, out.toList, e, vals_of_ints a1, by simpa using he⟩, rfl, q _ ns' hn a2 a3⟩
  rw [List.length_map, a2.length_eq]
  exact small (by omega)
end
end L2

namespace L2
open PySem PyProof.Rows
def tLR (ta : TA) : TE := fun σ H Q => ta σ H fun vs H1 => ∃ n : Nat, vs = [.int (n : Int)] ∧ n ≤ 1000 ∧ ∀ D : Addr, H1 D = none → Q (.ref D) (upd H1 D (.lst ((Sh.upto n).map V.int)))
theorem vals_upto : ∀ (us : List Value) (lo : Nat), (∀ (i : Nat) (v : Value), us[i]? = some v → ∃ t, v = .int ((lo + i : Nat) : Int) t) → Vals (((List.range us.length).map fun i => Int.ofNat (lo + i)).map V.int) us
  | [], lo, h => .nil
  | u :: us, lo, h => by
    rw [List.length_cons, List.range_succ_eq_map, List.map_cons, List.map_cons, List.map_map (g := fun i => Int.ofNat (lo + i))]
    refine .cons (h 0 u rfl) ?_
    have q := vals_upto us (lo + 1) fun i v e => by
      obtain ⟨t, e⟩ := h (i + 1) v e
      exact ⟨t, by rw [e]; congr 2; omega⟩
    have e : ((List.range us.length).map ((fun i => Int.ofNat (lo + i)) ∘ Nat.succ)) = (List.range us.length).map fun i => Int.ofNat (lo + 1 + i) := by
      apply List.map_congr_left
      intro i _
      show Int.ofNat (lo + (i + 1)) = Int.ofNat (lo + 1 + i)
      congr 1
      omega
    rw [e]
    exact q
section
variable {X : Cx} {a : Expr} {ta : TA} {p p1 pos pos1 : Pos}
theorem pe_listrange (hc : X.calm = true) (hgL : Gl X "list") (hmL : X.mg "list" = none) (hgR : Gl X "range") (hmR : X.mg "range" = none) (ha : PA X [a] ta)
    (he : starEach [.Call (.Name "range" p1) [a] [] pos1] X.env = [(false, eval (.Call (.Name "range" p1) [a] [] pos1) X.env)] := by rfl)
    (hs : starEach [a] X.env = [(false, eval a X.env)] := by rfl) :
    PE X (.Call (.Name "list" p) [.Call (.Name "range" p1) [a] [] pos1] [] pos) (tLR ta) := by
  intro pins s σ H Q I h
  refine wpAny_Call_Name_kw (ld_blt I hgL hmL boot_list ?_)
  refine PyProof.Rows.callWith_type1 ?_ he rfl
  rw [he]
  show wpAny _ _ (spliced ((false, eval (.Call (.Name "range" p1) [a] [] pos1) X.env) :: [])) _ _ s
  refine Calls.spliced_cons ?_
  refine wpAny_Call_Name_kw (ld_blt I hgR hmR boot_range ?_)
  refine PyProof.Rows.callWith_type1 (thn (ha pos1 pins s σ H _ I h) fun us s1 ⟨vs, H1, I1, r1, q1⟩ => ?_) hs rfl
  obtain ⟨n, rfl, hn, q⟩ := q1
  cases r1 with
  | cons r rr =>
    cases rr
    obtain ⟨t, rfl⟩ := r
    refine call_range_1 ?_
    refine Calls.spliced_nil ?_
    have hsz : Builtin.Range.rangeSize 0 (n : Int) 1 = (n : Int) := by rw [rangeSize_one]; split <;> omega
    refine call_list_range (n := n) (I1.ok.hd hc) (IsRange.new ..) (small_one (by omega) (by omega) (by omega) (by omega)) hsz (by omega) fun h' tk acc c hk hD hI => ?_
    have hle : ∀ o : Obj, s1.heap.objs.size ≤ (s1.heap.push o).objs.size := fun o => by
      show s1.heap.objs.size ≤ (s1.heap.objs.push _).size
      rw [Array.size_push]
      exact Nat.le_succ _
    refine ⟨.ref _, _, I1.laid (o := .lst ((Sh.upto n).map V.int)) (t' := tk) (fun b o e => hk b o (Heap.get?_push_of_some _ e)) (hle _) ⟨?_, acc.toList, c, ?_, by simpa using hD⟩, rfl, q _ (I1.hok.fresh (hle _))⟩
    · rw [List.length_map, Sh.length_upto]
      exact small hn
    · have z := vals_upto acc.toList 0 fun i v e => by
        obtain ⟨t, e⟩ := hI.2 i v (by rw [← e, Array.getElem?_toList])
        exact ⟨t, by rw [e]; congr 1; omega⟩
      have e : acc.toList.length = n := by rw [Array.length_toList]; exact hI.1
      rw [e] at z
      have e2 : Sh.upto n = (List.range n).map fun i => Int.ofNat (0 + i) := by
        unfold Sh.upto
        apply List.map_congr_left
        intro i _
        rw [Nat.zero_add]
      rw [e2]
      exact z
end
end L2

namespace L2
open PySem PyProof.Rows
section
variable {X : Cx} {a : Expr} {ta : TA} {p p1 pos pos1 : Pos} {K : PySem.W.Frag}
end
end L2

namespace L2
open PySem PyProof.Rows
theorem firstMet_dd (val : Nat → Int) : ∀ n : Nat, firstMet val n = Sh.dd ((List.range n).map val)
  | 0 => rfl
  | n + 1 => by
    rw [firstMet_succ, firstMet_dd val n, List.range_succ, List.map_append]
    show _ = Sh.dd ((List.range n).map val ++ [val n])
    rw [Sh.dd_snoc]
    unfold step_dedup
    by_cases h : val n ∈ Sh.dd ((List.range n).map val)
    · rw [if_pos h, if_pos (by rw [List.any_eq_true]; exact ⟨val n, h, by simp⟩)]
    · have hn : ¬ ((Sh.dd ((List.range n).map val)).any (· == val n)) = true := by
        rw [List.any_eq_true]
        rintro ⟨x, hx, e⟩
        have : x = val n := by simpa using e
        exact h (by rw [← this]; exact hx)
      rw [if_neg h, if_neg hn]
theorem range_getD (ns : List Int) : (List.range ns.length).map (fun i => ns.getD i 0) = ns := by
  apply List.ext_getElem?
  intro i
  rw [List.getElem?_map]
  by_cases h : i < ns.length
  · rw [List.getElem?_range h, List.getElem?_eq_getElem h]
    simp [h]
  · rw [List.getElem?_eq_none (by rw [List.length_range]; omega), List.getElem?_eq_none (by omega)]
    rfl
def tLS (K : PySem.W.Frag) (ta : TA) : TE := fun σ H Q => ta σ H fun vs H1 => ∃ (l : Addr) (ns : List Int), vs = [.ref l] ∧ SqL K H1 l (ns.map V.int) ∧ ns.length ≤ 30 ∧ Q (.int ((Sh.dd ns).length : Int)) H1
section
variable {X : Cx} {a : Expr} {ta : TA} {p p1 pos pos1 : Pos}
theorem pe_lenset (hc : X.calm = true) (hgL : Gl X "len") (hmL : X.mg "len" = none) (hgS : Gl X "set") (hmS : X.mg "set" = none) (ha : PA X [a] ta)
    (he : starEach [.Call (.Name "set" p1) [a] [] pos1] X.env = [(false, eval (.Call (.Name "set" p1) [a] [] pos1) X.env)] := by rfl)
    (hs : starEach [a] X.env = [(false, eval a X.env)] := by rfl) :
    PE X (.Call (.Name "len" p) [.Call (.Name "set" p1) [a] [] pos1] [] pos) (tLS X.K ta) := by
  intro pins s σ H Q I h
  refine wpAny_Call_Name_kw (ld_blt I hgL hmL boot_len ?_)
  refine PyProof.Rows.callWith_builtin1 ?_ he rfl
  rw [he]
  show wpAny _ _ (spliced ((false, eval (.Call (.Name "set" p1) [a] [] pos1) X.env) :: [])) _ _ s
  refine Calls.spliced_cons ?_
  refine wpAny_Call_Name_kw (ld_blt I hgS hmS boot_set ?_)
  refine PyProof.Rows.callWith_type1 (thn (ha pos1 pins s σ H _ I h) fun us s1 ⟨vs, H1, I1, r1, q1⟩ => ?_) hs rfl
  obtain ⟨l, ns, rfl, hS, hlen, q⟩ := q1
  obtain ⟨u, rfl, ru⟩ := r1.one
  cases ru
  obtain ⟨its, rv, pl, hz⟩ := I1.list hS
  have hl := rv.length
  rw [List.length_map] at hl
  have hsb : its.toArray.size + 1 < scanBound := by
    have : (31 : Nat) < scanBound := by decide
    rw [List.size_toArray]
    omega
  refine call_set_list (items := its.toArray) (ns := ns) (I1.ok.hd hc) pl.isList (by simpa using ints_are rv) hsb fun h' tk hset hk => ?_
  refine Calls.spliced_nil ?_
  have I2 : Inv X pins σ H1 { s1 with heap := h', toks := tk } := I1.kept fun b o e => hk b o (Heap.lt_size e) e
  obtain ⟨o, es, ep, t, e1, e2, e3, e4, e5, e6, e7, e8⟩ := hset
  have hsz : its.toArray.size = ns.length := by rw [List.size_toArray, hl]
  rw [firstMet_dd, hsz, range_getD] at e8
  refine call_len_set (s := { s1 with heap := h', toks := tk }) e1 e2 e3 e7 (by rw [e8]; have := Sh.length_dd_le ns; omega) ?_
  refine ⟨.int ((Sh.dd ns).length : Int), H1, I2.tok _, ⟨_, by rw [e8]⟩, q⟩
end
end L2

namespace L2
open PySem PyProof.Rows
section
variable {X : Cx}
end
section
variable {X : Cx} {a b : Expr} {ta : TA} {p p1 pos pos1 : Pos}
end
end L2

namespace L2
open PySem PyProof.Rows
theorem vals_bl : ∀ {bs : List Bool} {us : List Value}, Vals (bs.map V.bl) us → us = bs.map Value.bool
  | [], _, .nil => rfl
  | b :: bs, _, .cons r t => by
    cases r
    rw [vals_bl t]
    rfl
def rEqTB (K : PySem.W.Frag) : R2 := fun x y H Q => ∃ (a b : Addr) (bs : List Bool), x = .ref a ∧ y = .ref b ∧ SqT K H a (bs.map V.bl) ∧ SqT K H b (bs.map V.bl) ∧ Q (.bl true) H
section
variable {X : Cx}
theorem op_eqTB (hu : X.A.units < cLine) : OpR X (compareOp .Eq) (rEqTB X.K) := by
  intro pins s σ H x y v u Q I rx ry h
  obtain ⟨a, b, bs, rfl, rfl, ha, hb, q⟩ := h
  cases rx
  cases ry
  obtain ⟨i1, r1, t1, _⟩ := I.tuple ha
  obtain ⟨i2, r2, t2, _⟩ := I.tuple hb
  have e1 := vals_bl r1
  have e2 := vals_bl r2
  subst e1 e2
  have z := SeqAt.RcAt.tuples (A := X.A) (s := s) (e := fun _ => true) t1 t2 hu (fun j h1 h2 => SeqAt.EqAt.same _)
  have al : ((List.range (min (bs.map Value.bool).toArray.size (bs.map Value.bool).toArray.size)).all (fun _ => true) && (bs.map Value.bool).toArray.size == (bs.map Value.bool).toArray.size) = true := by simp
  rw [al] at z
  exact z _ _ _ _ ⟨.bl true, H, I, rfl, q⟩
end
end L2

namespace L2
open PySem PySem.Spec PyProof.Rows PySem.W
theorem ObjOk.isThere {P : Program} {w : World} {H : Hp} {h : Heap} {a : Addr} {o : HO} (x : ObjOk P w H h a o) : ∃ ob, h.get? a = some ob := by
  cases o with
  | lst xs => obtain ⟨_, _, _, _, e⟩ := x; exact ⟨_, e⟩
  | tup xs => obtain ⟨_, _, _, o, e, _⟩ := x; exact ⟨_, e⟩
  | dK kvs => obtain ⟨_, _, _, _, o, _, _, e, _⟩ := x; exact ⟨_, e⟩
  | dT kvs => obtain ⟨_, _, _, _, o, _, _, e, _⟩ := x; exact ⟨_, e⟩
  | set S n => obtain ⟨o, _, _, _, e, _⟩ := x; exact ⟨_, e⟩
  | ins C dx fs => obtain ⟨_, _, _, e, _⟩ := x; exact ⟨_, e⟩
  | own y => obtain ⟨_, e⟩ := x; exact ⟨_, e⟩
  | xd fs => obtain ⟨_, ⟨_, _, _, e, _⟩, _⟩ := x; exact ⟨_, e⟩
  | rng lo hi => obtain ⟨_, _, _, e⟩ := x; exact ⟨_, e⟩
  | frz ob u => obtain ⟨e, _⟩ := x; exact ⟨_, e⟩
  | tbl ps => exact ⟨_, (show h.get? a = some _ from x)⟩
  | met f y => exact ⟨_, (show h.get? a = some _ from x)⟩
  | ext φ => obtain ⟨_, ⟨_, e⟩, _⟩ := x; exact ⟨_, e⟩
structure Fly (P : Program) (w : World) (outer : List Env) (H : Hp) (s : Shared) (ea D : Addr) (H' : Hp) (s' : Shared) : Prop where
  os : s'.os = s.os
  bare : AllBare s'.gens
  un : Un (frs outer) [] H H' s.heap s'.heap
  hok : HOk P w H' s'.heap
  fly : ∃ (B : Heap) (a0 : Value), Heap.FlyingW B outer ea (.ref D) a0 s'.heap ∧ (∀ b o, s.heap.get? b = some o → b ∉ frs outer → ∃ o', B.get? b = some o') ∧ ∀ b u, H' b = some u → ∃ o, B.get? b = some o
def CX1 (P : Program) (w : World) : CXT := fun outer H s E e s' => ∃ (ea D : Addr) (H' : Hp), e = .ref ea ∧ Fly P w outer H s ea D H' s' ∧ E (.ref D) none H'
section
variable {P : Program} {w : World} {K : PySem.W.Frag} {mg : Str → Option Value} {base : Heap} {N : List Str} {qual : Str} {scope : Scope} {f : Addr} {cd : Value} {A : Around} {outer : List Env} {s s1 : Shared} {H H1 : Hp} {E : XK} {pins : List (Addr × Obj)} {σ : St}
theorem xe_made {h' : Heap} {e D : Addr} {vs : List Value} (I : Inv (cxOf (CX1 P w) P w K mg base N qual scope f cd A outer s H E) pins σ H1 s1) (hx : Heap.MadeExcOf s1.heap h' e (.ref D) vs) (he : E (.ref D) none H1) :
    (cxOf (CX1 P w) P w K mg base N qual scope f cd A outer s H E).xe (.ref e) { s1 with heap := h' } := by
  have fr : frs (envOfC qual scope s.heap.objs.size f cd :: outer) = s.heap.objs.size :: frs outer := rfl
  have stk := I.stack
  have nst : ∀ b u, H1 b = some u → b ∉ frs (envOfC qual scope s.heap.objs.size f cd :: outer) := fun b u q hb => by rw [I.stkFree b hb] at q; cases q
  have old : ∀ b o, s.heap.get? b = some o → b ∉ frs outer → b ∉ frs (envOfC qual scope s.heap.objs.size f cd :: outer) := fun b o q hb z => by
    rw [fr] at z
    rcases List.mem_cons.mp z with z | z
    · exact absurd (Heap.lt_size q) (by rw [z]; exact Nat.lt_irrefl _)
    · exact hb z
  refine wpAny_leaves_madeW (base := hideAll s1.heap (frs (envOfC qual scope s.heap.objs.size f cd :: outer))) (h := s1.heap) I.ok.frames rfl (fun b o q => of_hideAll _ q) (funFrames_hide stk fun env he a hf => List.mem_filterMap.mpr ⟨env, he, hf⟩) hx fun h'' t x1 x2 x3 x4 => ?_
  have inB : ∀ b o, s1.heap.get? b = some o → b ∉ frs (envOfC qual scope s.heap.objs.size f cd :: outer) → h''.get? b = some o := fun b o q hb => x1.1 b o (hideAll_get _ q hb)
  have slot : ∀ b o, s1.heap.get? b = some o → b ∈ frs (envOfC qual scope s.heap.objs.size f cd :: outer) → ∃ sl, h''.get? b = some { o with slots := sl } := fun b o q hb => by
    obtain ⟨_, o', q', nf⟩ := stk.mem hb
    rw [q] at q'
    cases q'
    exact x4 b o (hx.keeps b o q) nf
  refine ⟨e, D, H1, rfl, ⟨I.os, I.bare, ⟨fun b o q n hb hz => ?_, fun b o q n hb hz => ?_, I.base.free, fun b o q hz => ?_, I.base.tups, I.base.frzs, I.base.tbls⟩, fun a u ea => ?_, _, _, x1, fun b o q hb => ?_, fun b u q => ?_⟩, he⟩
  · exact inB b o (I.base.keep b o q n hb hz) (old b o q hb)
  · obtain ⟨sl, q1⟩ := I.base.slot b o q n hb hz
    obtain ⟨sl', q2⟩ := slot b _ q1 (by rw [fr]; exact List.mem_cons_of_mem _ hb)
    exact ⟨sl', q2⟩
  · obtain ⟨o', q1⟩ := I.base.there b o q hz
    by_cases hb : b ∈ frs (envOfC qual scope s.heap.objs.size f cd :: outer)
    · obtain ⟨sl, q2⟩ := slot b _ q1 hb
      exact ⟨_, q2⟩
    · exact ⟨o', inB b o' q1 hb⟩
  · refine (I.hok a u ea).stay (fun b v hb q => inB b v q ?_) (fun _ q => q) fun _ _ q => q
    rcases hb with z | z
    · rw [z]; exact nst a u ea
    · exact nst b _ z
  · obtain ⟨o', q1⟩ := I.base.there b o q (show b ∉ ([] : List Addr) from List.not_mem_nil)
    exact ⟨o', hideAll_get _ q1 (old b o q hb)⟩
  · obtain ⟨ob, q1⟩ := (I.hok b u q).isThere
    exact ⟨ob, hideAll_get _ q1 (nst b u q)⟩
theorem pass1 : Passes (CX1 P w) (cxOf (CX1 P w) P w K mg base N qual scope f cd A outer s H E) E := by
  rintro pins σ H1 s1 e s' I ⟨ea, D, H', rfl, F, he⟩
  have fr : frs (envOfC qual scope s.heap.objs.size f cd :: outer) = s.heap.objs.size :: frs outer := rfl
  obtain ⟨os, bare, un, hok, B, a0, fly, in2, in1⟩ := F
  have old : ∀ b o, s.heap.get? b = some o → b ∉ frs outer → b ∉ frs (envOfC qual scope s.heap.objs.size f cd :: outer) := fun b o q hb z => by
    rw [fr] at z
    rcases List.mem_cons.mp z with z | z
    · exact absurd (Heap.lt_size q) (by rw [z]; exact Nat.lt_irrefl _)
    · exact hb z
  refine wpAny_leaves_onW (base := B) I.ok.frames rfl fly fun h'' y1 y2 => ?_
  have toH : ∀ b o, s'.heap.get? b = some o → (∃ o', B.get? b = some o') → h''.get? b = some o := fun b o q ⟨o', q'⟩ => by
    have := fly.1 b o' q'
    rw [q] at this
    cases this
    exact y1.1 b o q'
  have slot : ∀ b o, s1.heap.get? b = some o → H1 b = none → b ∈ frs (envOfC qual scope s.heap.objs.size f cd :: outer) → ∃ sl, h''.get? b = some { o with slots := sl } := fun b o q n hb => by
    obtain ⟨sl, q1⟩ := un.slot b o q n hb (by simp)
    obtain ⟨_, o', q', nf⟩ := fly.2.2.1.mem hb
    rw [q1] at q'
    cases q'
    obtain ⟨sl', q2⟩ := y2 b _ q1 nf
    exact ⟨sl', q2⟩
  refine ⟨ea, D, H', rfl, ⟨os.trans I.os, bare, ⟨fun b o q n hb hz => ?_, fun b o q n hb hz => ?_, fun b o q n hz => ?_, fun b o q hz => ?_, fun b xs q => un.tups b xs (I.base.tups b xs q), fun b o u q => un.frzs b o u (I.base.frzs b o u q), fun b ps q => ?_⟩, fun a u ea => ?_, B, a0, y1, fun b o q hb => ?_, in1⟩, he⟩
  · have q1 := I.base.keep b o q n hb hz
    have n1 := I.base.free b o q n hz
    exact toH b o (un.keep b o q1 n1 (old b o q hb) hz) (in2 b o q1 (old b o q hb))
  · obtain ⟨sl, q1⟩ := I.base.slot b o q n hb hz
    obtain ⟨sl', q2⟩ := slot b _ q1 (I.base.free b o q n hz) (by rw [fr]; exact List.mem_cons_of_mem _ hb)
    exact ⟨sl', q2⟩
  · obtain ⟨o', q1⟩ := I.base.there b o q hz
    exact un.free b o' q1 (I.base.free b o q n hz) hz
  · obtain ⟨o', q1⟩ := I.base.there b o q hz
    by_cases hb : b ∈ frs (envOfC qual scope s.heap.objs.size f cd :: outer)
    · obtain ⟨sl, q2⟩ := slot b _ q1 (I.stkFree b hb) hb
      exact ⟨_, q2⟩
    · obtain ⟨o2, q2⟩ := un.there b o' q1 hz
      exact ⟨o2, toH b o2 q2 (in2 b o' q1 hb)⟩
  · obtain ⟨m1, e1⟩ := I.base.tbls b ps q
    obtain ⟨m2, e2⟩ := un.tbls b _ e1
    exact ⟨m1 ++ m2, by rw [e2, Array.append_assoc]⟩
  · refine (hok a u ea).stay (fun b v hb q => toH b v q ?_) (fun _ q => q) fun _ _ q => q
    rcases hb with z | z
    · rw [z]; exact in1 a u ea
    · exact in1 b _ z
  · obtain ⟨o', q1⟩ := I.base.there b o q (show b ∉ ([] : List Addr) from List.not_mem_nil)
    exact in2 b o' q1 (old b o q hb)
end
end L2

namespace L2
open PySem PySem.Spec PyProof.Rows PySem.W
abbrev bmVE : List Value := [.type "ValueError", .type "Exception", .type "BaseException", .type "object"]
theorem exc_obj {K : Frag} {h : Heap} {C : Addr} (X : K.In h) (q : excIn K C bmVE "ValueError.__new__" = true) :
    ∃ bm N nm qn bs hdct sn sub ab col dd k0 k1 k2 k3 k5 mN, h.get? C = some (excClassObj nm qn C N bs bm hdct sn sub ab col dd k0 k1 k2 k3 k5 "ValueError.__new__") ∧ h.Ns N mN ∧ mN "__init__" = none ∧ OwnTail h bmVE bm := by
  unfold excIn at q
  cases hl : K.lookup C with
  | none => rw [hl] at q; cases q
  | some o =>
    obtain ⟨oc, od, dat, sl⟩ := o
    rw [hl] at q
    split at q
    · rename_i dd cd sl' ho
      cases ho
      split at q
      · rename_i C' bm k0 k1 k2 k3 n k5 hm hs
        simp only [Bool.and_eq_true, beq_iff_eq, Bool.not_eq_true'] at q
        obtain ⟨⟨⟨⟨⟨q1, q2⟩, q3⟩, q4⟩, q5⟩, q6⟩ := q
        subst q1 q2
        obtain ⟨nm, bs, mro, ns, qn, hd, sn, sub, ab, col, del⟩ := cd
        have hsl : sl = #[k0, k1, k2, k3, some (.builtin "ValueError.__new__"), k5] := by
          rw [← hs]
        cases hm
        cases q3
        subst hsl
        exact ⟨bm, ns, nm, qn, bs, hd, sn, sub, ab, col, od, k0, k1, k2, k3, k5, _, X _ _ hl, .of_isNs (isNs_of_in X q5), nsMap_none_of_in X q5 q6, tail_of_in X q4⟩
      · cases q
    · cases q
section
variable {P : Program} {w : World} {K : PySem.W.Frag} {mg : Str → Option Value} {base : Heap} {N : List Str} {qual : Str} {scope : Scope} {f : Addr} {cd : Value} {A : Around} {outer : List Env} {s : Shared} {H : Hp} {E : XK} {C : Addr} {x : Str} {np cpos pos : Pos} {e₀ : Expr} {t : TA}
def tRaise (C : Addr) (E : XK) (t : TA) : TS := fun _ σ H => t σ H fun vs H1 => vs.length ≤ sizeLine ∧ E (.ref C) none H1
theorem ps_raise (hq : excIn K C bmVE "ValueError.__new__" = true) (hg : Gl (cxOf (CX1 P w) P w K mg base N qual scope f cd A outer s H E) x) (hm : mg x = some (.ref C)) (ha : PA (cxOf (CX1 P w) P w K mg base N qual scope f cd A outer s H E) [e₀] t)
    (hs : starEach [e₀] (cxOf (CX1 P w) P w K mg base N qual scope f cd A outer s H E).env = [(false, eval e₀ (cxOf (CX1 P w) P w K mg base N qual scope f cd A outer s H E).env)] := by rfl) (hd : (x == ("__debug__" : Str)) = false := by decide) :
    PS (cxOf (CX1 P w) P w K mg base N qual scope f cd A outer s H E) (.Raise (some (.Call (.Name x np) [e₀] [] cpos)) none pos) (tRaise C E t) := by
  intro pins s1 σ H1 D I h
  obtain ⟨bm, Ns, nm, qn, bs, hdct, sn, sub, ab, col, dd, k0, k1, k2, k3, k5, mN, hC, hN, hni, T⟩ := exc_obj I.ok.mod.kin hq
  refine wpAny_Raise_call_subT (C := C) (nm := nm) (q := qn) (N := Ns) (bs := bs) (bm := bm) (hdct := hdct) (sn := sn) (sub := sub) (ab := ab) (col := col) (dd := dd) (k0 := k0) (k1 := k1) (k2 := k2) (k3 := k3) (k5 := k5)
    F.excBase_ValueError (mN := mN) (T.hasType (by decide +kernel)) (I.ok.hd rfl) (by rw [hs]; rfl) hni (ld_glob I hg hm ⟨rfl, ?_⟩ hd)
  have hA := ha cpos pins s1 σ H1 _ I h
  rw [hs] at hA ⊢
  refine Calls.evalArgs_plain (wpAny_mono hA (fun us s2 h2 => ?_) fun _ _ y => y)
  obtain ⟨vs, H2, I2, r2, hl, q2⟩ := h2
  refine ⟨rfl, ?_, I2.bk _ _ hC, hN.keeps I2.bk, T.keeps I2.bk, fun h' e hx => xe_made I2 hx q2⟩
  rw [← r2.length]
  exact hl
end
end L2

namespace L2
open PySem PySem.Spec PyProof.Rows PySem.W
abbrev Cx.suite (X : Cx) (ea : Addr) (E : Value → Shared → Prop) : Cx := { X with A := X.A.mark (some (.ref ea)), calm := false, xe := E }
section
variable {X : Cx} {pins : List (Addr × Obj)} {σ : St} {H : Hp} {s : Shared} {ea : Addr} {E : Value → Shared → Prop}
theorem Inv.suite (I : Inv X pins σ H s) (ea : Addr) (E : Value → Shared → Prop) : Inv (X.suite ea E) pins σ H s :=
  ⟨⟨I.ok.mod, I.ok.kind, I.ok.glob, I.ok.blt, I.ok.above, I.ok.inj, I.ok.has, I.ok.cab, fun z => (nomatch z), I.ok.frames, I.ok.stk, I.ok.exf, I.ok.bs, I.ok.bsz, I.ok.noex, I.ok.exfs, I.ok.funs, I.ok.frf⟩, I.os, I.bare, I.base, I.loc, I.cell, I.free, I.freeC, I.pin, I.hok, I.len⟩
theorem Inv.unsuite (ok : X.Ok) (I : Inv (X.suite ea E) pins σ H s) : Inv X pins σ H s := ⟨ok, I.os, I.bare, I.base, I.loc, I.cell, I.free, I.freeC, I.pin, I.hok, I.len⟩
theorem name_goes {M : Model} {A : Around} {E' : Value → Shared → Prop} {i : Nat} {x : Str} {pos : Pos} {Q : Unit → Shared → Prop} (I : Inv X pins σ H s) (hN : X.N.Nodup) (hi : X.N[i]? = some x) (hk : X.env.scope.names.lookup x = some .local)
    (h : ∀ s', Inv X pins (σ.set i none) H s' → Q () s') : wpAny M A (do bindName X.env x .none; unbindBehindTheSuite X.env x pos) Q E' s := by
  obtain ⟨m, hn, hl⟩ := id I.loc
  have hcls : (X.env.scope.kind == .class || (X.env.scope.kind == .module && X.env.locals != X.env.globals)) = false := by rw [I.ok.kind]; rfl
  have hiσ : i < σ.length := by rw [I.len]; exact (List.getElem?_eq_some_iff.mp hi).1
  refine wpAny_nameGoes_keeps hk hn hcls fun h' v hn' hs => h _ ?_
  have lo : ∀ b o, X.s₀.heap.get? b = some o → b ≠ X.env.locals := fun b o e => Nat.ne_of_lt (Nat.lt_of_lt_of_le (Heap.lt_size e) I.ok.above)
  refine ⟨I.ok, I.os, I.bare, ⟨fun b o e n hb hx => (hs.2 b (lo b o e)).trans (I.base.keep b o e n hb hx), fun b o e n hb hx => ?_, I.base.free, fun b o e hx => ?_, I.base.tups, I.base.frzs, I.base.tbls⟩, ⟨_, hn', fun j y v' e1 e2 e3 => ?_⟩, fun y c e => ?_, I.free, I.freeC, fun p hp => ?_, fun b ob e => ?_, by rw [List.length_set]; exact I.len⟩
  · obtain ⟨sl, e1⟩ := I.base.slot b o e n hb hx
    exact ⟨sl, (hs.2 b (lo b o e)).trans e1⟩
  · obtain ⟨o', e1⟩ := I.base.there b o e hx
    exact ⟨o', (hs.2 b (lo b o e)).trans e1⟩
  · by_cases hj : j = i
    · subst hj
      rw [List.getElem?_set_self hiσ] at e2
      cases e2
    · rw [List.getElem?_set_ne (Ne.symm hj)] at e2
      obtain ⟨u', r', q⟩ := hl j y v' e1 e2 e3
      refine ⟨u', r', ?_⟩
      rcases q with ⟨k, e⟩ | ⟨k, c, e, z⟩
      · have ne : y ≠ x := fun e => hj (nodup_ix hN e1 (by rw [e]; exact hi))
        exact .inl ⟨k, by simp [ne, e]⟩
      · exact .inr ⟨k, c, e, z.sameBut hs (I.cne y c e)⟩
  · obtain ⟨w', z⟩ := I.cell y c e
    exact ⟨w', z.sameBut hs (I.cne y c e)⟩
  · obtain ⟨e, n, ne, nf, d⟩ := I.pin p hp
    exact ⟨(hs.2 p.1 ne).trans e, n, ne, nf, d⟩
  · refine (I.hok b ob e).stay (fun c w' hc q => (hs.2 c ?_).trans q) (fun _ q => q) fun _ _ q => q
    rintro rfl
    rcases hc with z | z
    · rw [← z, I.free] at e; cases e
    · rw [I.free] at z; cases z
theorem Inv.adoptX {a : Addr} {o : HO} (I : Inv X pins σ H s) (hn : H a = none) (hL : a ≠ X.env.locals) (hc : ∀ x c, X.env.cells.lookup x = some c → c ≠ a) (hp : ∀ p ∈ X.pn ++ pins, p.1 ≠ a) (hx : X.s₀.heap.get? a = none) (new : ObjOk X.prog X.w (upd H a o) s.heap a o) : Inv X pins σ (upd H a o) s := by
  have lt : ∀ b ob, X.s₀.heap.get? b = some ob → b ≠ a := fun b ob e z => by rw [z, hx] at e; cases e
  refine ⟨I.ok, I.os, I.bare, ⟨I.base.keep, I.base.slot, fun b ob e n hz => ?_, I.base.there, fun b xs e => ?_, fun b ob u e => ?_, fun b ps e => ?_⟩, I.loc, I.cell, ?_, fun x c e => ?_, fun p hp' => ?_, fun b u e => ?_, I.len⟩
  · rw [upd_ne (lt b ob e)]; exact I.base.free b ob e n hz
  · have q := I.base.tups b xs e
    rw [upd_ne (ne_of_none q hn)]; exact q
  · have q := I.base.frzs b ob u e
    rw [upd_ne (ne_of_none q hn)]; exact q
  · obtain ⟨more, q⟩ := I.base.tbls b ps e
    exact ⟨more, by rw [upd_ne (ne_of_none q hn)]; exact q⟩
  · rw [upd_ne hL.symm]; exact I.free
  · rw [upd_ne (hc x c e)]; exact I.freeC x c e
  · obtain ⟨q1, q2, q3⟩ := I.pin p hp'
    exact ⟨q1, by rw [upd_ne (hp p hp')]; exact q2, q3⟩
  · by_cases hb : b = a
    · subst hb; rw [upd_same] at e; cases e; exact new
    · rw [upd_ne hb] at e
      exact (I.hok b u e).stay (fun _ _ _ q => q) (fun c q => by rw [upd_ne (ne_of_none q hn)]; exact q) fun c xs q => by rw [upd_ne (ne_of_none q hn)]; exact q
end
theorem Fly.land {P : Program} {w : World} {outer : List Env} {H H' : Hp} {s s' : Shared} {ea D : Addr} (os : s'.os = s.os) (un : Un (frs outer) [] H H' s.heap s'.heap) (hok : HOk P w H' s'.heap) {B : Heap} {a0 : Value} (fly : Heap.FlyingW B outer ea (.ref D) a0 s'.heap)
    (in2 : ∀ b o, s.heap.get? b = some o → b ∉ frs outer → ∃ o', B.get? b = some o') (in1 : ∀ b u, H' b = some u → ∃ o, B.get? b = some o) {h5 : Heap} (stay : B.StaysIn h5) (sm : s'.heap.UpToSlots h5) :
    Un (frs outer) [] H H' s.heap h5 ∧ HOk P w H' h5 := by
  have toH : ∀ b o, s'.heap.get? b = some o → (∃ o', B.get? b = some o') → h5.get? b = some o := fun b o q ⟨o', q'⟩ => by
    have := fly.1 b o' q'
    rw [q] at this
    cases this
    exact stay b o q'
  have fr : ∀ b o, s'.heap.get? b = some o → b ∈ frs outer → ∃ sl, h5.get? b = some { o with slots := sl } := fun b o q hb => by
    obtain ⟨_, o', q', nf⟩ := fly.2.2.1.mem hb
    rw [q] at q'
    cases q'
    exact sm b o q nf
  refine ⟨⟨fun b o q n hb hz => toH b o (un.keep b o q n hb hz) (in2 b o q hb), fun b o q n hb hz => ?_, un.free, fun b o q hz => ?_, un.tups, un.frzs, un.tbls⟩, fun a u e => ?_⟩
  · obtain ⟨sl, q1⟩ := un.slot b o q n hb hz
    obtain ⟨sl', q2⟩ := fr b _ q1 hb
    exact ⟨sl', q2⟩
  · obtain ⟨o', q1⟩ := un.there b o q hz
    by_cases hb : b ∈ frs outer
    · obtain ⟨sl, q2⟩ := fr b _ q1 hb
      exact ⟨_, q2⟩
    · exact ⟨o', toH b o' q1 (in2 b o q hb)⟩
  · refine (hok a u e).stay (fun b v hb q => toH b v q ?_) (fun _ q => q) fun _ _ q => q
    rcases hb with z | z
    · rw [z]; exact in1 a u e
    · exact in1 b _ z
end L2

namespace L2
open PySem PySem.Spec PyProof.Rows PySem.W
def endsBut (D : Ends) (i : Nat) : Ends := { nx := fun σ H => D.nx (σ.set i none) H, rt := D.rt, bk := fun σ H => D.bk (σ.set i none) H, ct := fun σ H => D.ct (σ.set i none) H }
section
variable {X : Cx} {pins : List (Addr × Obj)} {σ : St} {H H' : Hp} {s s' : Shared} {ea D C : Addr} {x n : Str} {np hpos : Pos} {ni : Nat} {b₀ : Stmt} {suite : List Stmt} {ts : TS} {Ds : Ends}
theorem exc_at {B h : Heap} {l : List Env} {a0 : Value} (f : Heap.FlyingW B l ea (.ref D) a0 h) : XC.ExcAt h ea D := by
  obtain ⟨_, _, _, oe, vs, _, _, _, h1, h2, h3, _⟩ := f
  exact ⟨oe, vs, h1, h2.1, h3⟩
theorem caught (I : Inv X pins σ H s) (hst : X.stack = X.env :: X.outer) (hfr : X.env.frame = some X.env.locals) (hex : X.ex = []) (F : Fly X.prog X.w X.stack H s ea D H' s') (hg : Gl X x) (hm : X.mg x = some (.ref C)) (hc : kitCls X.K (.ref D) (.ref C) = some true) (hs : kitCls X.K (.ref C) (.type "BaseException") = some true)
    (hN : X.N.Nodup) (hi : X.N[ni]? = some n) (hk : X.env.scope.names.lookup n = some .local) (hsuite : ∀ ea E, PSs (X.suite ea E) (b₀ :: suite) ts) (hd : (x == ("__debug__" : Str)) = false)
    (q : H' ea = none → ts (endsBut Ds ni) (σ.set ni (some (.ref ea))) (upd H' ea (.ext fun h => XC.ExcAt h ea D))) :
    wpAny (model X.prog X.w) X.A (noteFrame (.ref ea) X.env) (fun _ s₂ => wpAny (model X.prog X.w) X.A (setFlight (.ref ea) none) (fun _ s₃ =>
      wpAny (model X.prog X.w) X.A (handleBy (.ref ea) X.env [.ExceptHandler (some (.Name x np)) (some n) (b₀ :: suite) hpos]) (SP X pins Ds) X.xe s₃) X.xe s₂) X.xe s' := by
  obtain ⟨os, bare, un, hok, B, a0, fly, in2, in1⟩ := F
  have fly' := fly
  rw [hst] at fly'
  have frm := I.ok.frames
  rw [hst] at frm
  have hne : s.heap.get? ea = none := by
    cases z : s.heap.get? ea with
    | none => rfl
    | some o =>
      by_cases hb : ea ∈ frs X.stack
      · obtain ⟨_, o', e1, nf⟩ := fly.2.2.1.mem hb
        obtain ⟨oe, vs, e2, _, e3⟩ := exc_at fly
        rw [e1] at e2
        cases e2
        exact absurd e3 (nf vs)
      · obtain ⟨o', e1⟩ := in2 ea o z hb
        rw [fly.2.1] at e1
        cases e1
  have hn : H' ea = none := by
    cases z : H' ea with
    | none => rfl
    | some u =>
      obtain ⟨o, e1⟩ := in1 ea u z
      rw [fly.2.1] at e1
      cases e1
  refine wpAny_looks_onW frm hfr fly' fun h4 held sm4 => ?_
  refine wpAny_landsW held fun h5 fly5 sm5 => ?_
  obtain ⟨un5, hok5⟩ := Fly.land os un hok fly in2 in1 fly5.1 (sm4.trans sm5)
  have I5 : Inv X pins σ H' { s' with heap := h5 } := I.call' (ch := []) os un5 hok5 bare fun b z => absurd z List.not_mem_nil
  refine wpAny_handleBy_cons (codeAny_handlers_test (ld_glob (X := X.suite ea fun _ _ => False) (I5.suite ea _) hg hm ?_ hd)) (by intro q; cases q)
  refine XC.exc_matches (K := X.K) I5.kIn (exc_at fly5) hc hs ?_
  refine codeAny_handlers_suite_as ?_
  refine lands_againW fly5 fun h6 fly6 sm6 => ?_
  obtain ⟨un6, hok6⟩ := Fly.land os un hok fly in2 in1 fly6.1 ((sm4.trans sm5).trans sm6)
  have I6 : Inv X pins σ H' { s' with heap := h6 } := I.call' (ch := []) os un6 hok6 bare fun b z => absurd z List.not_mem_nil
  have ex6 := exc_at fly6
  have I7 : Inv X pins σ (upd H' ea (.ext fun h => XC.ExcAt h ea D)) { s' with heap := h6 } := by
    refine I6.adoptX hn (fun z => ?_) (fun y c e z => ?_) (fun p hp z => ?_) ?_ ⟨ex6, ?_, fun h1 h2 z k => ?_⟩
    · obtain ⟨m, ⟨o, _, _, ho, _⟩, _⟩ := I.loc
      rw [← z, hne] at ho
      cases ho
    · obtain ⟨w', o, ho, _⟩ := I.cell y c e
      rw [z, hne] at ho
      cases ho
    · have := (I.pin p hp).1
      rw [z, hne] at this
      cases this
    · cases z : X.s₀.heap.get? ea with
      | none => rfl
      | some o =>
        obtain ⟨o', e1⟩ := I.base.there ea o z (by rw [hex]; exact List.not_mem_nil)
        rw [hne] at e1
        cases e1
    · obtain ⟨oe, vs, e1, _⟩ := ex6
      exact ⟨oe, e1⟩
    · obtain ⟨oe, vs, e1, e2⟩ := z
      exact ⟨oe, vs, k _ e1, e2⟩
  refine store_ok (v := .ref ea) I7 hN hi (.inl hk) rfl (fun s8 I8 => ?_) (.inr hk)
  refine wpAny_mono (hsuite ea _ pins s8 _ _ (endsBut Ds ni) (I8.suite ea _) (q hn)) (fun f s9 h9 => ?_) (fun e s9 z => z)
  cases f with
  | next =>
    obtain ⟨σ', H9, I9, q9⟩ := h9
    exact name_goes (I9.unsuite I.ok) hN hi hk fun s10 I10 => ⟨_, _, I10, q9⟩
  | brk =>
    obtain ⟨σ', H9, I9, q9⟩ := h9
    exact name_goes (I9.unsuite I.ok) hN hi hk fun s10 I10 => ⟨_, _, I10, q9⟩
  | cont =>
    obtain ⟨σ', H9, I9, q9⟩ := h9
    exact name_goes (I9.unsuite I.ok) hN hi hk fun s10 I10 => ⟨_, _, I10, q9⟩
  | ret u =>
    obtain ⟨v, σ', H9, I9, r9, q9⟩ := h9
    exact name_goes (I9.unsuite I.ok) hN hi hk fun s10 I10 => ⟨v, _, _, I10, r9, q9⟩
variable {CX : CXT} {k : Nat} {f : Addr} {fd : FuncData} {ps : List Str} {sp : Sp} {y fx : Str} {yi : Nat} {py p cpos apos pos : Pos} {e : Expr} {es : List Expr} {t : TA}
def Fn1 (P : Program) (w : World) (K : PySem.W.Frag) (mg : Str → Option Value) (base : Heap) (x : Str) (ps : List Str) (k : Nat) (sp : Sp) : Prop :=
  ∃ (f : Addr) (fd : FuncData), mg x = some (.ref f) ∧ PySem.W.keepIn K (.ref f) = true ∧ Binds K fd ps [] ∧ FnOk P w K mg base (CX1 P w) k f fd ps sp
def tTry (K : PySem.W.Frag) (C : Addr) (yi ni : Nat) (sp : Sp) (t : TA) (ts : TS) : TS := fun D σ H => t σ H fun vs H1 => sp vs H1 (fun v H2 => D.nx (σ.set yi (some v)) H2)
  fun Dv _ H2 => ∃ Da : Addr, Dv = .ref Da ∧ kitCls K (.ref Da) (.ref C) = some true ∧ ∀ ea, H2 ea = none → ts (endsBut D ni) (σ.set ni (some (.ref ea))) (upd H2 ea (.ext fun h => XC.ExcAt h ea Da))
theorem ps_trycall (G : Fn1 X.prog X.w X.K X.mg X.base fx ps k sp) (hr : Room k X.A) (hst : X.stack = X.env :: X.outer) (hfr : X.env.frame = some X.env.locals) (hex : X.ex = []) (hg : Gl X x) (hm : X.mg x = some (.ref C)) (hs : kitCls X.K (.ref C) (.type "BaseException") = some true)
    (hN : X.N.Nodup) (hi : X.N[ni]? = some n) (hk : X.env.scope.names.lookup n = some .local) (hyi : X.N[yi]? = some y) (hy : Loc X.env.scope y) (ha : PA X.nox (e :: es) t) (hsuite : ∀ ea E, PSs (X.suite ea E) (b₀ :: suite) ts) (hgf : Gl X fx := by rfl)
    (hd : (x == ("__debug__" : Str)) = false := by decide) (hdf : (fx == ("__debug__" : Str)) = false := by decide) (he : starEach (e :: es) X.env = (false, eval e X.env) :: starEach es X.env := by rfl) (hpl : (backTo cpos (starEach es X.env)).any (·.1) = false := by rfl)
    (hsw : swapsWith (.Call (.Name fx p) (e :: es) [] cpos) (some (.Name y py)) apos.line X.env = pure false := by rfl) (hf : X.fn y = true ∨ X.env.scope.names.lookup y = some .local := by first | exact .inl rfl | exact .inr rfl | assumption) :
    PS X (.Try [.Assign [.Name y py] (.Call (.Name fx p) (e :: es) [] cpos) apos] [.ExceptHandler (some (.Name x np)) (some n) (b₀ :: suite) hpos] [] [] pos) (tTry X.K C yi ni sp t ts) := by
  intro pins s σ H D I h
  obtain ⟨f, fd, hmf, hkf, hb, F⟩ := G
  refine wpAny_Try_except (wpAny_execs_cons ?_)
  refine wpAny_Assign_Name ?_ hsw
  refine wpAny_Call_Name_kw (ld_glob I hgf hmf ?_ hdf)
  refine PySem.W.callWith_K (h₀ := X.base) I.ok.mod.kin hkf (wpAny_mono (ha cpos pins s σ H _ (I.wish _) h) (fun us s1 h1 => ?_) fun _ _ z => False.elim z) he hpl
  obtain ⟨vs, H1, I1, r, q⟩ := h1
  have I1 := I1.unwish
  refine ⟨I1.kIn, ?_⟩
  have hl : us.length = ps.length := by rw [← r.length]; exact F.len _ _ _ _ q
  have r2 : Vals vs (us ++ []) := by rw [List.append_nil]; exact r
  refine wpAny_call (codeAny_mono (F.run X.A X.stack s1 H1 ⟨us, []⟩ (us ++ []) vs _ _ hr I1.env0 (hb s1 us I1.kIn (by rw [List.append_nil]; exact hl)) r2 q) fun r s' hq => ?_)
  cases r with
  | error e' =>
    obtain ⟨ea, Da, H', rfl, fl, Da', ed, hc, q'⟩ := hq
    cases ed
    exact caught I1 hst hfr hex fl hg hm hc hs hN hi hk hsuite hd fun z => q' ea z
  | ok fl =>
    cases fl with
    | ret u =>
      obtain ⟨v, H', I', rv, q'⟩ := I1.after hq
      refine store_ok I' hN hyi hy rv (fun s2 I2 => ?_) hf
      refine wpAny_execs_nil ?_
      exact wpAny_execs_nil ⟨_, _, I2, q'⟩
    | next => exact False.elim hq
    | brk => exact False.elim hq
    | cont => exact False.elim hq
end
end L2

namespace L2
open PySem PySem.Spec PyProof.Rows PySem.W
theorem PS.nox {X : Cx} {st : Stmt} {t : TS} (h : PS X.nox st t) : PS X st t := fun pins s σ H D I hw =>
  wpAny_mono (h pins s σ H D (I.wish _) hw) (fun _ _ q => SP.unwish q) fun _ _ z => False.elim z
section
variable {P : Program} {w : World} {K : PySem.W.Frag} {mg : Str → Option Value} {base : Heap}
theorem Fun.ok1 {x qual : Str} {st : Stmt} {f : Addr} {fd : FuncData} {N ps : List Str} {k : Nat} {sp : Sp} (F : Fun K x qual st f fd) (S : FnScope N ps (defScope st)) (len : ∀ vs H Q E, sp vs H Q E → vs.length = ps.length)
    (hbody : ∀ (cdv : Value) (A : Around) (outer : List Env) (s : Shared) (H : Hp) (vs : List V) (Q : VK) (E : XK), Room k (A.deeper (envOfC qual (defScope st) s.heap.objs.size f cdv)) → sp vs H Q E →
      ∃ t, PSs (cxOf (CX1 P w) P w K mg base N qual (defScope st) f cdv A outer s H E) (defBody st) t ∧ t { nx := fun _ H' => Q .non H', rt := Q } (start N vs) H) : FnOk P w K mg base (CX1 P w) (k + 1) f fd ps sp := by
  obtain ⟨oc, od, kV, doc, pm, an, cdv, ct, osl, rfl, lk, hcd⟩ := F.ex
  exact fn_of lk hcd S len fun A outer s H vs Q E hr hsp => hbody cdv A outer s H vs Q E hr hsp
end
section
variable {P : Program} {w : World} {K : PySem.W.Frag} {mg : Str → Option Value} {base : Heap} {N : List Str} {qual : Str} {scope : Scope} {f : Addr} {cd : Value} {A : Around} {outer : List Env} {s : Shared} {H : Hp} {E : XK} {x : Str} {ps : List Str} {k : Nat} {sp : Sp} {e : Expr} {es : List Expr} {t : TA} {p pos : Pos}
theorem pe_fn1 (G : Fn1 P w K mg base x ps k sp) (hr : Room k (cxOf (CX1 P w) P w K mg base N qual scope f cd A outer s H E).A) (ha : PA (cxOf (CX1 P w) P w K mg base N qual scope f cd A outer s H E) (e :: es) t) (hg : Gl (cxOf (CX1 P w) P w K mg base N qual scope f cd A outer s H E) x := by rfl) (hdb : (x == ("__debug__" : Str)) = false := by decide)
    (he : starEach (e :: es) (cxOf (CX1 P w) P w K mg base N qual scope f cd A outer s H E).env = (false, eval e (cxOf (CX1 P w) P w K mg base N qual scope f cd A outer s H E).env) :: starEach es (cxOf (CX1 P w) P w K mg base N qual scope f cd A outer s H E).env := by rfl) (hpl : (backTo pos (starEach es (cxOf (CX1 P w) P w K mg base N qual scope f cd A outer s H E).env)).any (·.1) = false := by rfl) :
    PE (cxOf (CX1 P w) P w K mg base N qual scope f cd A outer s H E) (.Call (.Name x p) (e :: es) [] pos) (tCall sp [] E t) := by
  obtain ⟨g, fd, hm, hk, hb, F⟩ := G
  exact pe_call F hr hg hm hk hb .nil pass1 ha hdb he hpl
end
section
variable {X : Cx} {K : PySem.W.Frag}
inductive ClsV : V → Value → Prop
  | own (C : Addr) : ClsV (.ref C) (.ref C)
  | ty (T : String) : ClsV (.ty T) (.type T)
theorem call_isinstE (hK : X.K = K := by rfl) : CallR X (.builtin "isinstance") (fun xs H Q => ∃ (ea D : Addr) (c : V) (cv : Value) (b : Bool), xs = [.ref ea, c] ∧ ClsV c cv ∧ H ea = some (.ext fun h => XC.ExcAt h ea D) ∧ XC.ExcCls K D ∧ kitOne K (.ref D) cv = some b ∧ Q (.bl b) H) := by
  subst hK
  intro pins s σ H xs us Q I r h
  obtain ⟨ea, D, c, cv, b, rfl, hc, he, C, hk, q⟩ := h
  cases r with
  | cons r1 rr =>
    cases rr with
    | cons r2 rr =>
      cases rr
      cases r1
      have ex : XC.ExcAt s.heap ea D := (I.hok ea _ he).1
      cases hc with
      | own C' => cases r2; exact PySem.W.kia_one (XC.kitx_exc C) I.kIn ex hk (fun z => nomatch z) fun tk => ⟨.bl b, H, I.tok _, rfl, q⟩
      | ty T => cases r2; exact PySem.W.kia_one (XC.kitx_exc C) I.kIn ex hk (fun z => nomatch z) fun tk => ⟨.bl b, H, I.tok _, rfl, q⟩
end
end L2

namespace L2
open PySem PySem.Spec PyProof.Rows PySem.W
section
variable {M : Model} {A : Around} {E : Value → Shared → Prop} {s : Shared}
theorem leaves_any {B : Heap} {env : Env} {outer : List Env} {L e : Addr} {cls a0 fl : Value} {Q : Unit → Shared → Prop} (hfr : A.frames = some (env :: outer)) (hf : env.frame = some L) (st : B.StaysIn s.heap) (en : B.get? e = none) (ff : s.heap.FunFrames B (env :: outer))
    (tr : s.heap.TracedAtW B e cls a0 fl) (hfl : fl = .none ∨ ∃ L' : Addr, fl = rawInt L') (hQ : ∀ h', Heap.FlyingW B outer e cls a0 h' → s.heap.UpToSlots h' → Q () { s with heap := h' }) : wpAny M A (leaving env (.ref e)) Q E s := by
  rcases hfl with rfl | ⟨L', rfl⟩
  · exact wpAny_leaves_onW hfr hf ⟨st, en, ff, tr⟩ hQ
  · by_cases eL : L' = L
    · subst eL
      unfold leaving
      refine wpAny_bind (wpAny_noteFrame_againW hf tr ?_)
      refine wpAny_landsW ⟨st, en, ff, tr⟩ fun h' hfl up => ?_
      obtain ⟨k1, k2, ⟨_, _, k3⟩, k4⟩ := hfl
      exact hQ h' ⟨k1, k2, k3, k4⟩ up
    · obtain ⟨oE, ws, U, oU, us, gE, ⟨hc, w0⟩, dE, w1, nU, neU, gU, dU, u3⟩ := tr
      subst hc
      unfold leaving noteFrame
      simp only [hf]
      refine wpAny_bind (wpAny_bind (wpAny_field gE dE w1 ?_))
      rw [if_pos (show (Value.ref U != Value.none) = true by simp)]
      refine wpAny_bind (wpAny_field gU dU u3 ?_)
      rw [if_neg (show ¬ ((rawInt (L' : Int) == rawInt (L : Int)) = true) by simp [rawInt]; exact fun z => eL (by exact_mod_cast z))]
      have lt3 : 3 < us.size := (Array.getElem?_eq_some_iff.mp u3).1
      refine wpAny_bind (wpAny_setField gU dU lt3 ?_)
      have oth : ∀ b, b ≠ U → (s.heap.update U (Obj.mapFields (·.setIfInBounds 3 Value.none))).get? b = s.heap.get? b := fun b hb => Heap.get?_update_other _ _ (Ne.symm hb)
      have neR : ∀ b o, s.heap.get? b = some o → (∀ vs, o.data ≠ .fields vs) → b ≠ U := fun b o hb hnf q => by
        subst q
        rw [gU] at hb
        cases hb
        exact hnf us dU
      refine wpAny_entryW (base := B) hfr (ff.of_keeps fun b o hb hnf => ⟨o, (oth b (neR b o hb hnf)).trans hb, rfl⟩) hf ((oth e (Ne.symm neU)).trans gE)
        (fun b o hb => (oth b fun q => by subst q; rw [nU] at hb; cases hb).trans (st b o hb)) en dE (Array.getElem?_eq_some_iff.mp w1).1 w0 fun h1 ⟨x1, x2, x3, x4⟩ => ?_
      refine wpAny_landsW (base := B) (L := L) ⟨x1, en, x2, x3⟩ fun h' hfl up => ?_
      obtain ⟨k1, k2, ⟨_, _, k3⟩, k4⟩ := hfl
      refine hQ h' ⟨k1, k2, k3, k4⟩ fun b o hb hnf => ?_
      obtain ⟨sl, q⟩ := x4 b o ((oth b (neR b o hb hnf)).trans hb) hnf
      obtain ⟨sl', q'⟩ := up b _ q hnf
      exact ⟨sl', q'⟩
end
section
variable {P : Program} {w : World} {K : PySem.W.Frag} {mg : Str → Option Value} {base : Heap} {N : List Str} {qual : Str} {scope : Scope} {f : Addr} {cd : Value} {A : Around} {outer : List Env} {s s1 : Shared} {H H1 : Hp} {E : XK} {pins : List (Addr × Obj)} {σ : St}
theorem pass1g {fl a0 : Value} {ea D C : Addr} {H' : Hp} {s3 : Shared} {B : Heap} (I : Inv (cxOf (CX1 P w) P w K mg base N qual scope f cd A outer s H E) pins σ H1 s1) (os : s3.os = s1.os) (bare : AllBare s3.gens) (un : Un (frs (envOfC qual scope s.heap.objs.size f cd :: outer)) [C] H1 H' s1.heap s3.heap) (hok : HOk P w H' s3.heap)
    (hC : s.heap.get? C = none) (st : B.StaysIn s3.heap) (en : B.get? ea = none) (ff : s3.heap.FunFrames B (envOfC qual scope s.heap.objs.size f cd :: outer)) (tr : s3.heap.TracedAtW B ea (.ref D) a0 fl) (hfl : fl = .none ∨ ∃ L' : Addr, fl = rawInt L')
    (in2 : ∀ b o, s1.heap.get? b = some o → b ∉ frs (envOfC qual scope s.heap.objs.size f cd :: outer) → b ≠ C → ∃ o', B.get? b = some o') (in1 : ∀ b u, H' b = some u → ∃ o, B.get? b = some o) (he : E (.ref D) none H') :
    (cxOf (CX1 P w) P w K mg base N qual scope f cd A outer s H E).xe (.ref ea) s3 := by
  have fr : frs (envOfC qual scope s.heap.objs.size f cd :: outer) = s.heap.objs.size :: frs outer := rfl
  have old : ∀ b o, s.heap.get? b = some o → b ∉ frs outer → b ∉ frs (envOfC qual scope s.heap.objs.size f cd :: outer) := fun b o q hb z => by
    rw [fr] at z
    rcases List.mem_cons.mp z with z | z
    · exact absurd (Heap.lt_size q) (by rw [z]; exact Nat.lt_irrefl _)
    · exact hb z
  have neC : ∀ b o, s.heap.get? b = some o → b ≠ C := fun b o q e => by subst e; rw [hC] at q; cases q
  have noC : ∀ b o, s.heap.get? b = some o → b ∉ [C] := fun b o q e => neC b o q (List.mem_singleton.mp e)
  refine leaves_any (B := B) I.ok.frames rfl st en ff tr hfl fun h'' y1 y2 => ?_
  have toH : ∀ b o, s3.heap.get? b = some o → (∃ o', B.get? b = some o') → h''.get? b = some o := fun b o q ⟨o', q'⟩ => by
    have := st b o' q'
    rw [q] at this
    cases this
    exact y1.1 b o q'
  have slot : ∀ b o, s1.heap.get? b = some o → H1 b = none → b ∈ frs (envOfC qual scope s.heap.objs.size f cd :: outer) → b ∉ [C] → ∃ sl, h''.get? b = some { o with slots := sl } := fun b o q n hb hc => by
    obtain ⟨sl, q1⟩ := un.slot b o q n hb hc
    obtain ⟨_, o', q', nf⟩ := ff.mem hb
    rw [q1] at q'
    cases q'
    obtain ⟨sl', q2⟩ := y2 b _ q1 nf
    exact ⟨sl', q2⟩
  refine ⟨ea, D, H', rfl, ⟨os.trans I.os, bare, ⟨fun b o q n hb hz => ?_, fun b o q n hb hz => ?_, fun b o q n hz => ?_, fun b o q hz => ?_, fun b xs q => un.tups b xs (I.base.tups b xs q), fun b o u q => un.frzs b o u (I.base.frzs b o u q), fun b ps q => ?_⟩, fun a u ea => ?_, B, a0, y1, fun b o q hb => ?_, in1⟩, he⟩
  · have q1 := I.base.keep b o q n hb hz
    have n1 := I.base.free b o q n hz
    exact toH b o (un.keep b o q1 n1 (old b o q hb) (noC b o q)) (in2 b o q1 (old b o q hb) (neC b o q))
  · obtain ⟨sl, q1⟩ := I.base.slot b o q n hb hz
    obtain ⟨sl', q2⟩ := slot b _ q1 (I.base.free b o q n hz) (by rw [fr]; exact List.mem_cons_of_mem _ hb) (noC b o q)
    exact ⟨sl', q2⟩
  · obtain ⟨o', q1⟩ := I.base.there b o q hz
    exact un.free b o' q1 (I.base.free b o q n hz) (noC b o q)
  · obtain ⟨o', q1⟩ := I.base.there b o q hz
    by_cases hb : b ∈ frs (envOfC qual scope s.heap.objs.size f cd :: outer)
    · obtain ⟨sl, q2⟩ := slot b _ q1 (I.stkFree b hb) hb (noC b o q)
      exact ⟨_, q2⟩
    · obtain ⟨o2, q2⟩ := un.there b o' q1 (noC b o q)
      exact ⟨o2, toH b o2 q2 (in2 b o' q1 hb (neC b o q))⟩
  · obtain ⟨m1, e1⟩ := I.base.tbls b ps q
    obtain ⟨m2, e2⟩ := un.tbls b _ e1
    exact ⟨m1 ++ m2, by rw [e2, Array.append_assoc]⟩
  · refine (hok a u ea).stay (fun b v hb q => toH b v q ?_) (fun _ q => q) fun _ _ q => q
    rcases hb with z | z
    · rw [z]; exact in1 a u ea
    · exact in1 b _ z
  · obtain ⟨o', q1⟩ := I.base.there b o q (show b ∉ ([] : List Addr) from List.not_mem_nil)
    exact in2 b o' q1 (old b o q hb) (neC b o q)
end
end L2

namespace L2
open PySem PySem.Spec PyProof.Rows PySem.W
def Cx.comp1 (X : Cx) (scope : Scope) (N' : List Str) (C : Addr) (fp : List Addr) (s : Shared) (H : Hp) (EX : XK) : Cx :=
  (X.comp scope N' C fp s H).wish fun e s' => ∃ (pins' : List (Addr × Obj)) (τ : St) (Hc : Hp) (sc : Shared), Inv (X.comp scope N' C fp s H) pins' τ Hc sc ∧ CX1 X.prog X.w X.stack Hc sc EX e s'
section
variable {prog : Program} {w : World} {A : Around} {R : Result → Shared → Prop} {s : Shared}
theorem compLoop_go1 {elt target iter : Expr} {ifs : List Expr} {scope : Scope} {pos : Pos} {it acc : Value} {env : Env} (xc : Value → Shared → Prop) (I : Nat → Shared → Prop)
    (turn : ∀ n s, I n s → wpAny (model prog w) A (pyNext it) (fun r s₁ => match r with
      | none => R (.ok .next) s₁
      | some v => wpAny (model prog w) A (letOwnedTupleGo target it v) (fun _ s1' => wpAny (model prog w) A (assign target env v) (fun _ s₂ =>
          wpAny (model prog w) A (forIn ifs true fun c r => if r = true then do let ok ← isTrue c env (eval c env); pure (ForInStep.yield ok) else pure (ForInStep.yield r)) (fun ok s₃ =>
            if ok = true then wpAny (model prog w) A (eval elt env) (fun x s₄ => wpAny (model prog w) A (call (.builtin "list.append") [acc, x]) (fun _ s₅ => ∃ m, m < n ∧ I m s₅) (fun _ _ => False) s₄) xc s₃
            else ∃ m, m < n ∧ I m s₃) (fun _ _ => False) s₂) (fun _ _ => False) s1') (fun _ _ => False) s₁) (fun _ _ => False) s)
    (n : Nat) (h : I n s) (err : ∀ e s', xc e s' → wpAny (model prog w) A (noteFrame e env) (fun _ s'' => R (.error e) s'') (fun e' s'' => R (.error e') s'') s') : codeAny (model prog w) A (.compLoop (.ListComp elt [⟨target, iter, ifs, 0⟩] scope pos) 0 it acc env) R s := by
  refine codeAny_loop rfl I (fun n s hI => ?_) n h
  show wpAny _ A ((compTurn (.ListComp elt [⟨target, iter, ifs, 0⟩] scope pos) 0 it acc env).onRaise (fun x => do noteFrame x env; theTreesLotGoes x)) _ _ s
  refine wpAny_noted (wpAny_mono (E := xc) ?_ (fun _ _ q => q) fun e s' q => err e s' q)
  rw [compTurn_list]
  refine wpAny_bind (wpAny_standAt (wpAny_bind (wpAny_mono (turn n s hI) (fun r s₁ h₁ => ?_) fun _ _ z => z.elim)))
  cases r with
  | none => exact wpAny_pure h₁
  | some v =>
    refine wpAny_bind (wpAny_mono h₁ (fun _ s1' h1' => wpAny_bind (wpAny_mono h1' (fun _ s₂ h₂ => wpAny_bind (wpAny_mono h₂ (fun ok s₃ h₃ => ?_) fun _ _ z => z.elim)) fun _ _ z => z.elim)) fun _ _ z => z.elim)
    cases ok with
    | false => exact wpAny_pure ⟨rfl, h₃⟩
    | true => exact wpAny_bind (wpAny_bind (thn h₃ fun x s₄ h₄ => wpAny_bind (wpAny_mono h₄ (fun _ s₅ h₅ => wpAny_pure (wpAny_pure ⟨rfl, h₅⟩)) fun _ _ z => z.elim)))
end
section
variable {X : Cx} {tg elt iter : Expr} {ifs : List Expr} {scope : Scope} {pos : Pos} {N' : List Str} {ix : List (Option Nat)} {g : TG} {tc : TT} {te : TE} {pins : List (Addr × Obj)} {σ : St} {H : Hp} {s : Shared}
theorem comp_core1 {E : Value → Shared → Prop} {EX : XK} (hk : CompOk scope X.env.scope X.N N' ix) (hc : X.calm = true) (hg : ∀ C fp s H, PG (X.comp scope N' C fp s H) tg g) (ht : ∀ C fp s H, PTs (X.comp scope N' C fp s H) ifs tc)
    (he : ∀ C fp s H, PE (X.comp1 scope N' C fp s H EX) elt te) {it : Addr} {fp : List Addr} {tn : Nat → Heap → Prop} {J : It} (I2 : Inv X pins σ H s) (T : Turn X.prog X.w X.K tg J fp it tn) (st : tn 0 s.heap) (f2 : ∀ b ∈ fp, FpOk X pins H b)
    {Qe : List V → Hp → Prop} {W : Nat → Nat → List V → St → Hp → Prop} {m0 : Nat} (w0 : W 0 m0 [] (capSt ix σ) H)
    (turn : ∀ i m ys τ H, W i m ys τ H → (J.stop i H ∧ Qe ys H) ∨ (J.go i H ∧ ys.length < sizeLine ∧ ∃ N : List V → St → Hp → Prop, (∀ zs τ' H', N zs τ' H' → ∃ m', m' < m ∧ W (i + 1) m' zs τ' H') ∧ ∀ x H', J.yld i H x H' → g x τ H' fun τ1 H1 => tc τ1 H1 fun b H2 =>
      if b = true then te τ1 H2 fun y H3 => N (ys ++ [y]) τ1 H3 else N ys τ1 H2))
    {RR : Value → Addr → Result → Shared → Prop}
    (fin : ∀ (D C : Addr) (ys : List V) (its : List Value) (n : Nat) (H' : Hp) (s' : Shared) (m : Str → Option Value), s.heap.objs.size ≤ D → s.heap.objs.size ≤ C → D ≠ C → s'.heap.Ns C m → H' D = none → H' C = none → ys.length ≤ sizeLine →
      Vals ys its → s'.heap.get? D = some { cls := .type "list", data := .seq its.toArray n } → Inv X pins σ H' s' → Qe ys H' → RR (.ref D) C (.ok .next) s')
    (err : ∀ (D C : Addr), s.heap.objs.size ≤ D → s.heap.objs.size ≤ C → D ≠ C → ∀ e s', (X.comp1 scope N' C fp s H EX).xe e s' → wpAny (model X.prog X.w) X.A (noteFrame e (compEnvC scope (capt X.env.cells scope.names []) C X.env)) (fun _ s'' => RR (.ref D) C (.error e) s'') (fun e' s'' => RR (.ref D) C (.error e') s'') s') :
    wpAny (model X.prog X.w) X.A (newList []) (fun acc s₃ => wpAny (model X.prog X.w) X.A (newFunctionEnv scope X.env.globals (capt X.env.cells scope.names []) [] X.env.qual none .none (some X.env)) (fun cenv s₄ =>
      codeAny (model X.prog X.w) X.A (.compStart (.ListComp elt [⟨tg, iter, ifs, 0⟩] scope pos) 0 (.ref it) acc { cenv with scope := relabel scope X.env }) (RR acc cenv.locals) s₄) E s₃) E s := by
  have f3 : ∀ b ∈ fp, b < s.heap.objs.size := fun b hb => let ⟨o, e, _⟩ := T.obj 0 _ st b hb; Heap.lt_size e
  refine wpAny_newObj_type (wpAny_newFunctionEnv hk.nocell (by intro y hy; simp at hy) (fun h₁ hns₁ hsb₁ => ?_) hk.kind)
  dsimp only at hns₁ hsb₁ ⊢
  generalize hH2 : s.heap.push { cls := .type "list", dict := none, data := .seq ([] : List Value).toArray } = G2 at hns₁ hsb₁ ⊢
  have hCs : G2.objs.size = s.heap.objs.size + 1 := by rw [← hH2, Heap.size_push]
  generalize hCC : G2.objs.size = C at hns₁ hsb₁ hCs ⊢
  generalize hDD : s.heap.objs.size = D at hCs ⊢
  have hDC : D ≠ C := by rw [hCs]; exact Nat.ne_of_lt (Nat.lt_succ_self _)
  have hsC : s.heap.objs.size ≤ C := by rw [hCs, hDD]; exact Nat.le_succ _
  have hsD : s.heap.objs.size ≤ D := Nat.le_of_eq hDD
  have old : ∀ b o, s.heap.get? b = some o → h₁.get? b = some o := fun b o e => hsb₁.extBut b o (Nat.ne_of_lt (Nat.lt_of_lt_of_le (Heap.lt_size e) hsC)) (Heap.get?_push_of_some _ (hH2 ▸ Heap.get?_push_of_some _ e))
  have hacc : h₁.get? D = some { cls := .type "list", data := .seq ([] : List Value).toArray } := hsb₁.extBut _ _ hDC (Heap.get?_push_of_some _ (hH2 ▸ hDD ▸ Heap.get?_push_size _ rfl))
  have frD : H D = none := I2.hok.fresh hsD
  have nD : ∀ b, b < s.heap.objs.size → b ≠ D := fun b hb => Nat.ne_of_lt (Nat.lt_of_lt_of_le hb hsD)
  have dfs : D ∉ frs X.stack := fun hb => by
    rcases List.mem_cons.mp (I2.stkSub D hb) with e | e
    · exact absurd I2.lt (by rw [← e]; exact Nat.not_lt.mpr hsD)
    · exact I2.nofs hsD e
  have cellD : ∀ x c, (capt X.env.cells scope.names []).lookup x = some c → c ≠ D := fun x c e => by
    obtain ⟨v, q⟩ := I2.cell x c (comp_cells I2 hk x c e)
    exact nD c q.lt
  have pinD : ∀ {τ : St} {H' : Hp} {s' : Shared} {o : Obj}, Inv (X.comp scope N' C fp s H) [] τ H' s' → s'.heap.get? D = some o → H' D = none → (∀ v, o.data ≠ .cell v) → Inv (X.comp scope N' C fp s H) [(D, o)] τ H' s' := fun I e n d =>
    I.pins_of fun p hp => by
      rw [List.mem_singleton] at hp
      subst hp
      exact ⟨e, n, hDC, dfs, d⟩
  have stat : ∀ {H' : Hp} {o : Obj}, (∀ b ∈ fp, H' b = none) → ∀ b ∈ fp, FpOk (X.comp scope N' C fp s H) [(D, o)] H' b := fun {H' o} hn b hb => by
    obtain ⟨_, q1, q2, _, q4, _⟩ := f2 b hb
    refine ⟨hn b hb, Nat.ne_of_lt (Nat.lt_of_lt_of_le (f3 b hb) hsC), fun z => ?_, .inl hb, fun x c e => q4 x c (comp_cells I2 hk x c e), fun p hp => ?_⟩
    · rcases List.mem_cons.mp (I2.stkSub b z) with e | e
      · exact q1 e
      · exact q2 e
    · have hp' : p ∈ [(D, o)] := hp
      rw [List.mem_singleton] at hp'
      subst hp'
      exact (nD b (f3 b hb)).symm
  have loop : ∀ s₃ : Shared, s₃ = { s with heap := h₁, toks := s.toks + ([] : List (Str × Value)).length } →
      codeAny (model X.prog X.w) X.A (.compLoop (.ListComp elt [⟨tg, iter, ifs, 0⟩] scope pos) 0 (.ref it) (.ref D) (compEnvC scope (capt X.env.cells scope.names []) C X.env)) (RR (.ref D) C) s₃ := by
    rintro s₃ rfl
    refine compLoop_go1 (X.comp1 scope N' C fp s H EX).xe (fun n s' => ∃ i ys its no τ H', Inv (X.comp scope N' C fp s H) [] τ H' s' ∧ tn i s'.heap ∧ (∀ b ∈ fp, H' b = none) ∧ H' D = none ∧ ys.length ≤ sizeLine ∧ Vals ys its ∧
      s'.heap.get? D = some { cls := .type "list", data := .seq its.toArray no } ∧ W i n ys τ H') ?_ m0
      ⟨0, [], [], 0, capSt ix σ, H, inv_comp hk I2 f2 f3 hsC hns₁ old, T.keep _ _ _ st fun b _ o e => old b o e, fun b hb => (f2 b hb).1, frD, Nat.zero_le _, .nil, hacc, w0⟩ (err D C hsD hsC hDC)
    rintro n s3 ⟨i, ys, its, no, τ, H3, I3, st3, fr3, hD3, hz, rv, hd, w3⟩
    have I3' := pinD I3 hd hD3 (fun v z => by
      have z' : Data.seq _ _ = Data.cell v := z
      cases z')
    rcases turn i n ys τ H3 w3 with ⟨stop, qe⟩ | ⟨go, hlt, N, hN, step⟩
    · refine thn (T.done (X.comp scope N' C fp s H) rfl rfl rfl hc i _ s3 τ H3 _ I3' (stat fr3) st3 stop) fun r s4 ⟨hr, I4⟩ => ?_
      subst hr
      obtain ⟨m, hm, _⟩ := I4.loc
      obtain ⟨p1, p2, _⟩ := I4.pin (D, _) (List.mem_singleton.mpr rfl)
      refine fin D C ys its no H3 s4 m hsD hsC hDC hm p2 I4.free hz rv p1 ?_ qe
      exact I2.call' (ch := fp) I4.os I4.base I4.hok I4.bare fun b hb => let ⟨_, q1, _, q3, q4, q5⟩ := f2 b hb; ⟨q3, q1, q4, q5⟩
    · refine thn (T.item (X.comp scope N' C fp s H) rfl rfl rfl hc i _ s3 τ H3 _ I3' (stat fr3) st3 go) fun r s4 ⟨u, hr, h4⟩ => ?_
      subst hr
      refine thn h4 fun _ s5 ⟨x, H5, I5, r5, y5, st5, fr5⟩ => ?_
      have I5' := I5.pinned (fp := fp) (stat fr5) (T.obj _ _ st5)
      refine thn (hg C fp s H _ s5 τ H5 x u _ I5' r5 (step x H5 y5)) fun _ s6 ⟨τ6, H6, I6, q6⟩ => ?_
      refine thn (ht C fp s H _ s6 τ6 H6 _ I6 q6) fun b s7 ⟨H7, I7, q7⟩ => ?_
      have back : ∀ {τ' : St} {H' : Hp} {s' : Shared}, Inv (X.comp scope N' C fp s H) ([(D, { cls := .type "list", data := .seq its.toArray no })] ++ pinsAt fp s5.heap) τ' H' s' →
          tn (i + 1) s'.heap ∧ (∀ b ∈ fp, H' b = none) ∧ H' D = none ∧ s'.heap.get? D = some { cls := .type "list", data := .seq its.toArray no } ∧ Inv (X.comp scope N' C fp s H) [] τ' H' s' := fun {τ' H' s'} I' => by
        have pD := I'.pin (D, { cls := .type "list", data := .seq its.toArray no }) (List.mem_append_right _ (List.mem_append_left _ (List.mem_singleton.mpr rfl)))
        refine ⟨T.keep _ _ _ st5 fun b hb o e => (I'.pin (b, o) (List.mem_append_right _ (List.mem_append_right _ (mem_pinsAt hb e)))).1, fun b hb => ?_, pD.2.1, pD.1, I'.pins_of fun p hp => by simp at hp⟩
        obtain ⟨o, e, d⟩ := T.obj _ _ st5 b hb
        exact (I'.pin (b, o) (List.mem_append_right _ (List.mem_append_right _ (mem_pinsAt hb e)))).2.1
      cases b with
      | false =>
        obtain ⟨m', hm, w7⟩ := hN _ _ _ q7
        obtain ⟨a1, a2, a3, a4, a5⟩ := back I7
        exact ⟨m', hm, i + 1, ys, its, no, τ6, H7, a5, a1, a2, a3, hz, rv, a4, w7⟩
      | true =>
        refine thn (he C fp s H _ s7 τ6 H7 _ (I7.wish _) q7) fun v s8 ⟨y, H8, I8w, r8, q8⟩ => ?_
        have I8 := I8w.unwish
        obtain ⟨m', hm, w8⟩ := hN _ _ _ q8
        obtain ⟨a1, a2, a3, a4, a5⟩ := back I8
        have hl := rv.length
        refine call_meets F.slot_list_append ⟨_, a4, rfl⟩ F.entry_list_append (F.args_list_append_2 _ _) (PySem.list_append D its.toArray no v (by rw [List.size_toArray]; omega)) ⟨a4, ?_⟩
        have e9 := PySem.IsL.update a4 (·.push v)
        have e10 : its.toArray.push v = (its ++ [v]).toArray := by simp
        rw [e10] at e9
        refine ⟨m', hm, i + 1, ys ++ [y], its ++ [v], _, τ6, H8, a5.turned (it := D) (fun b o hb e => (Heap.get?_update_other s8.heap _ (Ne.symm hb)).trans e) a3 hDC (.inr hsD) cellD (fun p hp => absurd (show p ∈ ([] : List (Addr × Obj)) from hp) (by simp)),
          T.keep _ _ _ a1 fun b hb o e => (Heap.get?_update_other s8.heap _ (Ne.symm (nD b (f3 b hb)))).trans e, a2, a3, ?_, rv.append (.cons r8 .nil), e9, w8⟩
        rw [List.length_append, List.length_singleton]
        omega
  exact codeAny_compStart_list (loop _ rfl) (T.self _ _ _ _ _ (T.keep _ _ _ st fun b _ o e => old b o e) (loop _ rfl))

end
section
variable {X : Cx} {x : Str} {ps : List Str} {k : Nat} {sp : Sp} {p pos : Pos} {e : Expr} {es : List Expr} {t : TA} {scope : Scope} {N' : List Str} {C : Addr} {fp : List Addr} {s : Shared} {H : Hp} {EX : XK}
theorem passC : Passes (CX1 X.prog X.w) (X.comp1 scope N' C fp s H EX) EX := fun pins σ H s e s' I h => ⟨pins, σ, H, s, I.unwish, h⟩
theorem pe_fn1c {P : Program} {w : World} {K : PySem.W.Frag} {mg : Str → Option Value} {base : Heap} (G : Fn1 P w K mg base x ps k sp) (hr : Room k X.A) (ha : PA (X.comp1 scope N' C fp s H EX) (e :: es) t) (hP : X.prog = P := by rfl) (hw : X.w = w := by rfl) (hK : X.K = K := by rfl) (hm' : X.mg = mg := by rfl) (hb' : X.base = base := by rfl) (hg : Gl (X.comp1 scope N' C fp s H EX) x := by rfl) (hdb : (x == ("__debug__" : Str)) = false := by decide)
    (he : starEach (e :: es) (X.comp1 scope N' C fp s H EX).env = (false, eval e (X.comp1 scope N' C fp s H EX).env) :: starEach es (X.comp1 scope N' C fp s H EX).env := by rfl) (hpl : (backTo pos (starEach es (X.comp1 scope N' C fp s H EX).env)).any (·.1) = false := by rfl) :
    PE (X.comp1 scope N' C fp s H EX) (.Call (.Name x p) (e :: es) [] pos) (tCall sp [] EX t) := by
  subst hP hw hK hm' hb'
  obtain ⟨g, fd, hm, hk, hb, F⟩ := G
  exact pe_call F hr hg hm hk hb .nil passC ha hdb he hpl
end
end L2

namespace L2
open PySem PySem.Spec PyProof.Rows PySem.W
section
variable {P : Program} {w : World} {K : PySem.W.Frag} {mg : Str → Option Value} {base : Heap} {N : List Str} {qual : Str} {scope0 : Scope} {f : Addr} {cd : Value} {A : Around} {outer : List Env} {s0 : Shared} {H0 : Hp} {E : XK}
variable {tg elt iter : Expr} {ifs : List Expr} {scope : Scope} {pos : Pos} {N' : List Str} {ix : List (Option Nat)} {g : TG} {tc : TT} {te : TE} {wi : TI}
theorem ff_but {h h' B : Heap} : ∀ {l : List Env}, h.FunFrames B l → (∀ b ∈ frs l, ∀ o, h.get? b = some o → (∀ vs, o.data ≠ .fields vs) → ∃ o', h'.get? b = some o' ∧ o'.data = o.data) → h'.FunFrames B l
  | [], _, _ => True.intro
  | env :: rest, ⟨a1, ⟨L, o, e1, e2, e3, e4⟩, a3⟩, k => by
    have hm : ∀ b, b ∈ frs rest → b ∈ frs (env :: rest) := fun b hb => by
      unfold frs at hb ⊢
      rw [List.filterMap_cons, e1]
      exact List.mem_cons_of_mem _ hb
    obtain ⟨o', q1, q2⟩ := k L (by unfold frs; rw [List.filterMap_cons, e1]; exact List.mem_cons_self ..) o e3 e4
    exact ⟨a1, ⟨L, o', e1, e2, q1, fun vs z => e4 vs (by rw [← q2]; exact z)⟩, ff_but a3 fun b hb => k b (hm b hb)⟩
theorem comp_err {pins : List (Addr × Obj)} {σ : St} {H2 : Hp} {s2 : Shared} {fp : List Addr} {C : Addr} {e : Value} {s' : Shared} {use : Option (Value → Sem Unit)} {Q : Value → Shared → Prop} {acc : Value} (I2 : Inv (cxOf (CX1 P w) P w K mg base N qual scope0 f cd A outer s0 H0 E) pins σ H2 s2) (f2 : ∀ b ∈ fp, FpOk (cxOf (CX1 P w) P w K mg base N qual scope0 f cd A outer s0 H0 E) pins H2 b) (hC : s2.heap.objs.size ≤ C)
    (hx : ((cxOf (CX1 P w) P w K mg base N qual scope0 f cd A outer s0 H0 E).comp1 scope N' C fp s2 H2 E).xe e s') :
    wpAny (model P w) (cxOf (CX1 P w) P w K mg base N qual scope0 f cd A outer s0 H0 E).A (noteFrame e (compEnvC scope (capt (cxOf (CX1 P w) P w K mg base N qual scope0 f cd A outer s0 H0 E).env.cells scope.names []) C (cxOf (CX1 P w) P w K mg base N qual scope0 f cd A outer s0 H0 E).env))
      (fun _ s'' => compPost (model P w) (cxOf (CX1 P w) P w K mg base N qual scope0 f cd A outer s0 H0 E).A (cxOf (CX1 P w) P w K mg base N qual scope0 f cd A outer s0 H0 E).xe use Q acc C (.error e) s'')
      (fun e' s'' => compPost (model P w) (cxOf (CX1 P w) P w K mg base N qual scope0 f cd A outer s0 H0 E).A (cxOf (CX1 P w) P w K mg base N qual scope0 f cd A outer s0 H0 E).xe use Q acc C (.error e') s'') s' := by
  obtain ⟨pins', τ, Hc, sc, Ic, ea, D, H', rfl, F, hE⟩ := hx
  have IX := I2.call' (ch := fp) Ic.os Ic.base Ic.hok Ic.bare fun b hb => let ⟨_, q1, _, q3, q4, q5⟩ := f2 b hb; ⟨q3, q1, q4, q5⟩
  obtain ⟨os, bare, un, hok, B, a0, fly, in2, in1⟩ := F
  obtain ⟨m, hm, _⟩ := Ic.loc
  have freeC : Hc C = none := Ic.free
  have nfr : C ∉ frs (envOfC qual scope0 s0.heap.objs.size f cd :: outer) := fun hb => by
    rcases List.mem_cons.mp (I2.stkSub C hb) with e | e
    · exact absurd I2.lt (by rw [← e]; exact Nat.not_lt.mpr hC)
    · exact I2.nofs hC e
  obtain ⟨oC, es, ep, gC, dC, rC⟩ := hm
  have gC' : s'.heap.get? C = some oC := un.keep C oC gC freeC nfr (by simp)
  have sub : (hideAll B [C]).StaysIn B := fun b o h => of_hideAll [C] h
  have none_of : ∀ b, B.get? b = none → (hideAll B [C]).get? b = none := fun b h => by
    cases q : (hideAll B [C]).get? b with
    | none => rfl
    | some o => rw [sub b o q] at h; cases h
  have hidC : (hideAll B [C]).get? C = none := hideAll_none [C] (by simp)
  have fly' : Heap.FlyingW (hideAll B [C]) (envOfC qual scope0 s0.heap.objs.size f cd :: outer) ea (.ref D) a0 s'.heap := by
    obtain ⟨f1, f2', f3, oE, ws, U, oU, us, gE, hc, dE, w1, nU, neU, gU, dU, u3⟩ := fly
    exact ⟨fun b o h => f1 b o (sub b o h), none_of _ f2', funFrames_base sub f3, oE, ws, U, oU, us, gE, hc, dE, w1, none_of _ nU, neU, gU, dU, u3⟩
  show wpAny _ _ (noteFrame (.ref ea) (envOfC qual scope0 s0.heap.objs.size f cd)) _ _ s'
  refine wpAny_looks_onW (base := hideAll B [C]) I2.ok.frames rfl fly' fun h1 hh up => ?_
  have nsC : h1.Ns C m := up.ns ⟨oC, es, ep, gC', dC, rC⟩
  refine ⟨m, nsC, fun h2 hs2 cenv hcv => ?_⟩
  obtain ⟨oC1, es1, ep1, gC1, dC1, _⟩ := nsC
  obtain ⟨k1, k2, k3, oE, ws, U, oU, us, gE, hc, dE, w1, nU, neU, gU, dU, u3⟩ := hh
  have neE : ea ≠ C := fun e => by subst e; rw [gE] at gC1; cases gC1; rw [dE] at dC1; cases dC1
  have neU' : U ≠ C := fun e => by subst e; rw [gU] at gC1; cases gC1; rw [dU] at dC1; cases dC1
  have g2 : ∀ b o, b ≠ C → h1.get? b = some o → h2.get? b = some o := fun b o hb q => (hs2.2 b hb).trans q
  have gE2 := g2 ea oE neE gE
  have gU2 := g2 U oU neU' gU
  have lt3 : 3 < us.size := (Array.getElem?_eq_some_iff.mp u3).1
  have inB : ∀ b, (∃ o, B.get? b = some o) → b ≠ C → ∃ o, (hideAll B [C]).get? b = some o := fun b ⟨o, q⟩ hb => ⟨o, hideAll_get [C] q (fun z => hb (List.mem_singleton.mp z))⟩
  have freeC' : H' C = none := un.free C oC gC freeC (by simp)
  have neH : ∀ b u, H' b = some u → b ≠ C := fun b u q e => by subst e; rw [freeC'] at q; cases q
  unfold PySem.passOn
  refine wpAny_bind (wpAny_field gE2 dE w1 ?_)
  dsimp only
  rw [if_neg (show ¬ ((Value.ref U == Value.none) = true) by simp)]
  unfold setFlight
  refine wpAny_bind (wpAny_bind (wpAny_field gE2 dE w1 ?_))
  rw [if_pos (show (Value.ref U != Value.none) = true by simp)]
  refine wpAny_setField gU2 dU lt3 ?_
  refine wpAny_throw ?_
  generalize hfl : (cenv.frame.elim Value.none fun f => rawInt f) = fl
  have hfl' : fl = .none ∨ ∃ L' : Addr, fl = rawInt L' := by
    rw [← hfl]
    cases cenv.frame with
    | none => exact .inl rfl
    | some L' => exact .inr ⟨L', rfl⟩
  have oth : ∀ b, b ≠ U → (h2.update U (Obj.mapFields (·.setIfInBounds 3 fl))).get? b = h2.get? b := fun b hb => Heap.get?_update_other _ _ (Ne.symm hb)
  have gU3 : (h2.update U (Obj.mapFields (·.setIfInBounds 3 fl))).get? U = some (Obj.mapFields (·.setIfInBounds 3 fl) oU) := Heap.get?_update_self _ gU2 (Obj.isFreed_of_fields (Obj.data_mapFields dU _))
  generalize h2.update U (Obj.mapFields (·.setIfInBounds 3 fl)) = h3 at oth gU3 ⊢
  have st3 : (hideAll B [C]).StaysIn h3 := fun b o q => by
    have b1 : b ≠ C := fun e => by subst e; rw [hidC] at q; cases q
    have b2 : b ≠ U := fun e => by subst e; rw [nU] at q; cases q
    rw [oth b b2]
    exact g2 b o b1 (k1 b o q)
  have toH : ∀ b o, s'.heap.get? b = some o → (∃ o', (hideAll B [C]).get? b = some o') → h3.get? b = some o := fun b o q ⟨o', q'⟩ => by
    have := fly'.1 b o' q'
    rw [q] at this
    cases this
    exact st3 b o q'
  have slot1 : ∀ b o, h1.get? b = some o → (∀ vs, o.data ≠ .fields vs) → b ≠ C → h3.get? b = some o := fun b o q nf hb => by
    have b2 : b ≠ U := fun e => by subst e; rw [gU] at q; cases q; exact nf us dU
    rw [oth b b2]
    exact g2 b o hb q
  have nfrC : ∀ b, b ∈ frs (envOfC qual scope0 s0.heap.objs.size f cd :: outer) → b ≠ C := fun b hb e => nfr (e ▸ hb)
  have slot : ∀ b o, sc.heap.get? b = some o → Hc b = none → b ∈ frs (envOfC qual scope0 s0.heap.objs.size f cd :: outer) → ∃ sl, h3.get? b = some { o with slots := sl } := fun b o q n hb => by
    obtain ⟨sl, q1⟩ := un.slot b o q n hb (by simp)
    obtain ⟨_, o', q', nf⟩ := fly'.2.2.1.mem hb
    rw [q1] at q'
    cases q'
    obtain ⟨sl', q2⟩ := up b _ q1 nf
    exact ⟨sl', slot1 b _ q2 nf (nfrC b hb)⟩
  refine pass1g (fl := fl) (C := C) (B := hideAll B [C]) (a0 := a0) IX os bare ⟨fun b o q n hb hz => ?_, fun b o q n hb _ => slot b o q n hb, fun b o q n _ => un.free b o q n (by simp), fun b o q hz => ?_, un.tups, un.frzs, un.tbls⟩ (fun a u ha => ?_) ?_ st3 k2 (ff_but k3 fun b hb o q nf => ⟨o, slot1 b o q nf (nfrC b hb), rfl⟩) ?_ hfl' (fun b o q hb hc => inB b (in2 b o q hb) hc) (fun b u q => inB b (in1 b u q) (neH b u q)) hE
  · have bC : b ≠ C := fun e => hz (by rw [e]; simp)
    exact toH b o (un.keep b o q n hb (by simp)) (inB b (in2 b o q hb) bC)
  · have bC : b ≠ C := fun e => hz (by rw [e]; simp)
    by_cases hb : b ∈ frs (envOfC qual scope0 s0.heap.objs.size f cd :: outer)
    · obtain ⟨sl, q2⟩ := slot b o q (IX.stkFree b hb) hb
      exact ⟨_, q2⟩
    · obtain ⟨o2, q2⟩ := un.there b o q (by simp)
      exact ⟨o2, toH b o2 q2 (inB b (in2 b o q hb) bC)⟩
  · refine (hok a u ha).stay (fun b v hb q => toH b v q ?_) (fun _ q => q) fun _ _ q => q
    rcases hb with z | z
    · rw [z]; exact inB a (in1 a u ha) (neH a u ha)
    · exact inB b (in1 b _ z) (neH b _ z)
  · cases q : s0.heap.get? C with
    | none => rfl
    | some o => exact absurd (Heap.lt_size q) (Nat.not_lt.mpr (Nat.le_trans I2.sz hC))
  · exact ⟨oE, ws, U, _, _, (oth ea (Ne.symm neU)).trans gE2, hc, dE, w1, nU, neU, gU3, Obj.data_mapFields dU _, by simp [lt3]⟩
end
end L2

namespace L2
open PySem PySem.Spec PyProof.Rows PySem.Builtin PySem.Builtin.Str
theorem vals_strs : ∀ (l : List (Str × Tok)), Vals ((l.map (·.1)).map V.str) (strValues l)
  | [] => .nil
  | p :: l => .cons ⟨p.2, rfl⟩ (vals_strs l)
theorem strs_of_vals : ∀ {ts : List Str} {us : List Value}, Vals (ts.map V.str) us → ∃ l : List (Str × Tok), us = strValues l ∧ l.map (·.1) = ts
  | [], us, r => by cases r; exact ⟨[], rfl, rfl⟩
  | t :: ts, us, r => by
    rw [List.map_cons] at r
    cases r with
    | cons h tl =>
      obtain ⟨k, rfl⟩ := h
      obtain ⟨l, rfl, e⟩ := strs_of_vals tl
      exact ⟨(t, k) :: l, rfl, by rw [List.map_cons, e]⟩
section
variable {X : Cx}
def rSplit : V → List V → Hp → VK → Prop := fun x vs H Q => ∃ (a b : Str), x = .str a ∧ vs = [.str b] ∧ b.length ≠ 0 ∧ a.length ≤ 900 ∧ ∀ D, H D = none → Q (.ref D) (upd H D (.lst ((Txt.split a b).map V.str)))
theorem mt_split : MtM X "str.split" rSplit := by
  intro pins s σ H x vs v us Q I rx rv h
  obtain ⟨a, b, rfl, rfl, hb, ha, q⟩ := h
  obtain ⟨t, rfl⟩ := rx
  obtain ⟨u', rfl, ru⟩ := rv.one
  obtain ⟨u, rfl⟩ := ru
  have hy : (b.length == 0) = false := by simpa using hb
  have hx : a.length ≤ sizeLine := small (by omega)
  have hn : (partsBetween a (occurrences a b 0 a.length (a.length + 1)) b.length).length ≤ sizeLine := by
    rw [len_partsBetween]
    have := StrLaws.occ_length_le a b 0 a.length (a.length + 1)
    exact small (by omega)
  have fin : ∀ (l : List (Str × Tok)) (k : Nat), l.map (·.1) = Txt.split a b → l.length ≤ sizeLine → EP X pins σ Q (.ref s.heap.objs.size) { s with heap := s.heap.push { cls := .type "list", data := .seq (strValues l).toArray }, toks := k } := fun l k e hl =>
    ⟨.ref s.heap.objs.size, _, I.lnew (t' := k) (vals_strs l) (by rw [List.length_map, List.length_map]; exact hl), rfl, by rw [e]; exact q _ I.fresh⟩
  cases h1 : (decide (a.length < b.length) || decide (strKind a < strKind b)) with
  | false =>
    cases hf : (occurrences a b 0 a.length (a.length + 1)).isEmpty with
    | false =>
      refine call_meets F.slot_str_split (typeIs_str _ _ _) F.entry_str_split (F.args_str_split_2 _ _) (meets_str_split_sep a b t u h1 hy hf hx hn) ?_
      rw [strsFrom_eq]
      have e : Txt.split a b = partsBetween a (occurrences a b 0 a.length (a.length + 1)) b.length := (if_neg (ne_true_of_eq_false h1)).trans (if_neg (ne_true_of_eq_false hf))
      exact fin _ _ ((numbered_texts _ _).trans e.symm) (by have := congrArg List.length (numbered_texts s.toks (partsBetween a (occurrences a b 0 a.length (a.length + 1)) b.length)); rw [List.length_map] at this; omega)
    | true =>
      refine call_meets F.slot_str_split (typeIs_str _ _ _) F.entry_str_split (F.args_str_split_2 _ _) (meets_str_split_not_found a b t u h1 hy hf) ?_
      exact fin [(a, t)] s.toks ((if_neg (ne_true_of_eq_false h1)).trans (if_pos hf)).symm (by show 1 ≤ sizeLine; decide)
  | true =>
    refine call_meets F.slot_str_split (typeIs_str _ _ _) F.entry_str_split (F.args_str_split_2 _ _) (meets_str_split_cannot_occur a b t u h1) ?_
    exact fin [(a, t)] s.toks (if_pos h1).symm (by show 1 ≤ sizeLine; decide)
theorem fold_len (sep : Str) : ∀ (ts : List Str) (k : Nat), ts.foldl (· + ·.length + sep.length) k = k + (ts.map (·.length)).sum + ts.length * sep.length
  | [], k => by simp
  | t :: ts, k => by
    rw [List.foldl_cons, fold_len sep ts, List.map_cons, List.sum_cons, List.length_cons, Nat.succ_mul]
    omega
def rJoin (K : PySem.W.Frag) : V → List V → Hp → VK → Prop := fun x vs H Q => ∃ (sep : Str) (l : Addr) (ts : List Str), x = .str sep ∧ vs = [.ref l] ∧ SqL K H l (ts.map V.str) ∧ (ts.map (·.length)).sum + ts.length * sep.length ≤ 1000 ∧ Q (.str (Str.join sep ts)) H
theorem mt_join : MtM X "str.join" (rJoin X.K) := by
  intro pins s σ H x vs v us Q I rx rv h
  obtain ⟨sep, l, ts, rfl, rfl, hS, hz, q⟩ := h
  obtain ⟨t, rfl⟩ := rx
  obtain ⟨u', rfl, ru⟩ := rv.one
  cases ru
  obtain ⟨its, r, pl, _⟩ := I.list hS
  obtain ⟨ps, rfl, e⟩ := strs_of_vals r
  refine SC.join pl.isList e ?_ fun t' k => ?_
  · unfold JoinOk tooLong
    rw [List.foldl_toArray, fold_len]
    have : (0 + (ts.map (·.length)).sum + ts.length * sep.length) ≤ sizeLine := small (by omega)
    simp only [Bool.not_eq_true', decide_eq_false_iff_not, Nat.not_lt, gt_iff_lt]
    exact this
  · rw [show Txt.join sep ts = Str.join sep ts from StrLaws.glued_eq_join sep ts]
    exact ⟨.str _, H, I.tok _, ⟨_, rfl⟩, q⟩
def labStr (K : PySem.W.Frag) : Lab K Str where
  rel := fun _ x a => x = .str a
  mono := fun _ h => h
  fn := fun h1 h2 => by
    rw [h1] at h2
    injection h2
  eqAt := fun {X pins σ H s A x y u v a b} _ _ rx ry hx hy _ => by
    subst hx hy
    obtain ⟨t, rfl⟩ := rx
    obtain ⟨t', rfl⟩ := ry
    have q : decide (a = b) = (a == b) := by
      by_cases c : a = b
      · rw [decide_eq_true c, c]; simp
      · rw [decide_eq_false c]; simp [c]
    rw [q]
    exact SeqAt.EqAt.str_str a t b t'
theorem labs_str {K : PySem.W.Frag} {H : Hp} (ts : List Str) : LabsAt (labStr K) H (ts.map V.str) ts := ⟨by rw [List.length_map], fun i x a e1 e2 => by
  rw [List.getElem?_map, e2] at e1
  exact (Option.some.inj e1).symm⟩
end
end L2

namespace L2
open PySem PySem.Spec PyProof.Rows PySem.W
section
variable {X : Cx} {pins : List (Addr × Obj)} {σ : St} {H H' : Hp} {s s' : Shared} {ea D C : Addr} {x n : Str} {np hpos : Pos} {ni : Nat} {b₀ : Stmt} {suite : List Stmt} {ts : TS} {Ds : Ends}
variable {CX : CXT} {k : Nat} {f : Addr} {fd : FuncData} {ps : List Str} {sp : Sp} {y fx : Str} {yi : Nat} {py p cpos apos pos : Pos} {e : Expr} {es : List Expr} {t : TA}
end
section
variable {X : Cx}
end
end L2

namespace L2
open PySem PySem.Spec PyProof.Rows PySem.W
section
variable {P : Program} {w : World} {K : PySem.W.Frag} {mg : Str → Option Value} {base : Heap} {N : List Str} {qual : Str} {scope0 : Scope} {f : Addr} {cd : Value} {A : Around} {outer : List Env} {s0 : Shared} {H0 : Hp} {E : XK}
variable {tg elt iter : Expr} {ifs : List Expr} {scope : Scope} {pos : Pos} {N' : List Str} {ix : List (Option Nat)} {g : TG} {tc : TT} {te : TE} {wi : TI}
theorem ps_comp1 {k : Nat} {y : Str} {py spos : Pos} (N' : List Str) (ix : List (Option Nat)) (hk : compOk scope (cxOf (CX1 P w) P w K mg base N qual scope0 f cd A outer s0 H0 E).env.scope (cxOf (CX1 P w) P w K mg base N qual scope0 f cd A outer s0 H0 E).N N' ix = true) (hN : (cxOf (CX1 P w) P w K mg base N qual scope0 f cd A outer s0 H0 E).N.Nodup) (hky : (cxOf (CX1 P w) P w K mg base N qual scope0 f cd A outer s0 H0 E).N[k]? = some y) (hx : Loc (cxOf (CX1 P w) P w K mg base N qual scope0 f cd A outer s0 H0 E).env.scope y) (hi : PI (cxOf (CX1 P w) P w K mg base N qual scope0 f cd A outer s0 H0 E) tg iter wi)
    (hg : ∀ C fp s H, PG ((cxOf (CX1 P w) P w K mg base N qual scope0 f cd A outer s0 H0 E).comp scope N' C fp s H) tg g) (ht : ∀ C fp s H, PTs ((cxOf (CX1 P w) P w K mg base N qual scope0 f cd A outer s0 H0 E).comp scope N' C fp s H) ifs tc) (he : ∀ C fp s H, PE ((cxOf (CX1 P w) P w K mg base N qual scope0 f cd A outer s0 H0 E).comp1 scope N' C fp s H E) elt te)
    (hsw : swapsWith (.ListComp elt [⟨tg, iter, ifs, 0⟩] scope pos) (some (.Name y py)) spos.line (cxOf (CX1 P w) P w K mg base N qual scope0 f cd A outer s0 H0 E).env = pure true := by rfl) (hs : ∀ x, foldedSetIterable iter (cxOf (CX1 P w) P w K mg base N qual scope0 f cd A outer s0 H0 E).env x = pure x := by intro _; rfl)
    (hf : (cxOf (CX1 P w) P w K mg base N qual scope0 f cd A outer s0 H0 E).fn y = true ∨ (cxOf (CX1 P w) P w K mg base N qual scope0 f cd A outer s0 H0 E).env.scope.names.lookup y = some .local := by first | exact .inl rfl | exact .inr rfl | assumption) :
    PS (cxOf (CX1 P w) P w K mg base N qual scope0 f cd A outer s0 H0 E) (.Assign [.Name y py] (.ListComp elt [⟨tg, iter, ifs, 0⟩] scope pos) spos) (tAsg (tComp ix wi g tc te) (gName k)) := by
  intro pins s σ H D' I h
  have hk := compOk_of hk
  rw [exec_Assign_Name_used _ _ _ _ hsw]
  refine wpAny_bind (wpAny_standAt (wpAny_bind ?_))
  show wpAny _ (cxOf (CX1 P w) P w K mg base N qual scope0 f cd A outer s0 H0 E).A (do let _ ← comprehension (.ListComp elt [⟨tg, iter, ifs, 0⟩] scope pos) scope (cxOf (CX1 P w) P w K mg base N qual scope0 f cd A outer s0 H0 E).env _ (newList []) false (eval iter (cxOf (CX1 P w) P w K mg base N qual scope0 f cd A outer s0 H0 E).env) (some (assign (.Name y py) (cxOf (CX1 P w) P w K mg base N qual scope0 f cd A outer s0 H0 E).env))) _ _ s
  refine wpAny_bind (thn (wpAny_comprehension_free (use := some (assign (.Name y py) (cxOf (CX1 P w) P w K mg base N qual scope0 f cd A outer s0 H0 E).env)) (Q := fun _ s' => SP (cxOf (CX1 P w) P w K mg base N qual scope0 f cd A outer s0 H0 E) pins D' .next s') rfl hs (capt_closure fun y hy hf => I.ok.has y.1 (hk.out y hy hf)) hk.kind hk.names
    (thn (hi pins s σ H _ I h) fun v s1 h1 => thn h1 fun itv s2 h2 => ?_)) fun _ s' hq => wpAny_pure (wpAny_pure hq))
  obtain ⟨it, fp, tn, J, H2, e, I2, T, st2, f2, W, ⟨m0, w0⟩, turn⟩ := h2
  subst e
  refine comp_core1 (RR := fun acc C => compPost (model (cxOf (CX1 P w) P w K mg base N qual scope0 f cd A outer s0 H0 E).prog (cxOf (CX1 P w) P w K mg base N qual scope0 f cd A outer s0 H0 E).w) (cxOf (CX1 P w) P w K mg base N qual scope0 f cd A outer s0 H0 E).A (cxOf (CX1 P w) P w K mg base N qual scope0 f cd A outer s0 H0 E).xe (some (assign (.Name y py) (cxOf (CX1 P w) P w K mg base N qual scope0 f cd A outer s0 H0 E).env)) (fun _ s' => SP (cxOf (CX1 P w) P w K mg base N qual scope0 f cd A outer s0 H0 E) pins D' .next s') acc C) hk rfl hg ht he I2 T st2 f2 w0 turn (fun D C ys its n H' s' m hD hC hDC hn hHD hHC hz rv hd I' q => ?_) (fun D C hD hC hDC e s' hx => comp_err I2 f2 hC hx)
  have I3 := I'.adopt (o := .lst ys) (I2.fpOk hD hHD) (Nat.le_trans I2.sz hD) ⟨hz, its, n, rv, hd⟩
  refine wpAny_assign_Name (store_ok2 I3 hN hky hx (v := .ref D) rfl (fun s'' I4 ⟨a, hsb, ha⟩ => ?_) hf)
  obtain ⟨_, c1, c2, c3, c4, c5⟩ := I2.fpOk hC hHC
  have hCa : C ≠ a := by
    rcases ha with e | e
    · rw [e]; exact c1
    · exact (c4 _ _ e).symm
  refine ⟨m, hn.sameBut hsb hCa, fun h' hs' => ⟨_, _, I4.turned (it := C) (t' := s''.toks) (fun b o hb e => (hs'.2 b hb).trans e) (by rw [upd_ne hDC.symm]; exact hHC) c1 c3 c4 c5, q D hHD⟩⟩
end
end L2

namespace L2
open PySem PyProof.Rows PySem.W
section
variable {X : Cx} {es : List Expr} {t : TA} {pos : Pos}
def tLstW (t : TA) : TE := fun σ H Q => t σ H fun xs H1 => xs.length ≤ sizeLine ∧ ∀ p H2, Same H1 H2 → H2 p = some (.lst xs) → Q (.ref p) H2
theorem pe_lstW (h : PA X es t) : PE X (.List es pos) (tLstW t) := by
  intro pins s σ H Q I hq
  refine wpAny_List_spliced (thn (h pos pins s σ H _ I hq) fun us s1 ⟨xs, H1, I1, r, z, q⟩ => ⟨by rw [← r.length]; exact z, ?_⟩)
  have hf : H1 s1.heap.objs.size = none := I1.hok.fresh (Nat.le_refl _)
  refine ⟨.ref s1.heap.objs.size, upd H1 s1.heap.objs.size (.lst xs), I1.laid (t' := s1.toks) (fun b u e => Heap.get?_push_of_some _ e) (Nat.le_refl _) ?_, rfl, q _ _ (same_upd hf _) upd_same⟩
  exact ⟨z, us, 0, r, Heap.get?_push_size _ rfl⟩
end
end L2

namespace LQ
open PySem L2 PyProof.Rows PySem.W
structure QE (X : Cx) (e : Expr) (t : TE) : Prop where
  h : PE X e t
structure QA (X : Cx) (es : List Expr) (t : TA) : Prop where
  h : PA X es t
structure QT (X : Cx) (e : Expr) (t : TT) : Prop where
  h : PT X e t
structure QS (X : Cx) (st : Stmt) (t : TS) : Prop where
  h : PS X st t
structure QSs (X : Cx) (st : List Stmt) (t : TS) : Prop where
  h : PSs X st t
section
variable {X : Cx} {a b e : Expr} {es : List Expr} {ta tb te : TE} {t : TA} {pos : Pos} {st : Stmt} {rest : List Stmt} {u v : TS}
theorem pss_cons (h1 : QS X st u) (h2 : QSs X rest v) : QSs X (st :: rest) (tSeq u v) := ⟨L2.pss_cons h1.h h2.h⟩
theorem pss_one (h1 : QS X st u) : QSs X [st] u := ⟨L2.pss_one h1.h⟩
theorem pss_nil : QSs X [] tNext := ⟨L2.pss_nil⟩
theorem pss_cut (R : L2.St → Hp → Prop) (h1 : QS X st u) (h2 : QSs X rest v) : QSs X (st :: rest) (tCut R u v) := ⟨L2.pss_cut R h1.h h2.h⟩
theorem ps_set {i : Nat} {x : Str} {pos' : Pos} (hN : X.N.Nodup) (hi : X.N[i]? = some x) (hx : Loc X.env.scope x) (he : QE X e te) (hs : swapsWith e (some (.Name x pos')) pos.line X.env = pure false := by rfl) (hf : X.fn x = true ∨ X.env.scope.names.lookup x = some .local := by first | exact .inl rfl | exact .inr rfl | assumption) :
    QS X (.Assign [.Name x pos'] e pos) (tAsg te (gName i)) := ⟨L2.ps_set hN hi hx he.h hs hf⟩
theorem ps_if {c : Expr} {l l' : List Stmt} {tc : TT} (hc : QT X c tc) (ha : QSs X l u) (hb : QSs X l' v) : QS X (.If c l l' pos) (tIfS tc u v) := ⟨L2.ps_if hc.h ha.h hb.h⟩
theorem ps_expr (he : QE X e te) (hs : swapsWith e none pos.line X.env = pure false := by rfl) : QS X (.Expr e pos) (tDrop te) := ⟨L2.ps_expr he.h hs⟩
theorem ps_ret (he : QE X e te) : QS X (.Return (some e) pos) (tRet te) := ⟨L2.ps_ret he.h⟩
theorem pt_cmpR {op : CmpOp} {r : R2} (ho : OpR X (compareOp op) r) (ha : QE X a ta) (hb : QE X b tb) (hm : behindInMarks op b = false) : QT X (.Compare a [op] [b] pos) (tTest (tOp r ta tb)) := ⟨L2.pt_cmpR ho ha.h hb.h hm⟩
theorem pe_op {op : Operator} {r : R2} (ho : OpR X (binaryOp op) r) (ha : QE X a ta) (hb : QE X b tb) : QE X (.BinOp a op b pos) (tOp r ta tb) := ⟨L2.pe_op ho ha.h hb.h⟩
theorem pe_ix {r : R2} (hr : IxR X r) (ha : QE X a ta) (hb : QE X b tb) (hs : PlainIx b) : QE X (.Subscript a b pos) (tOp r ta tb) := ⟨L2.pe_ix hr ha.h hb.h hs⟩
theorem pe_int {i j} : QE X (.Constant (.int i) j pos) (tC (.int i)) := ⟨L2.pe_int⟩
theorem pe_str {x j} : QE X (.Constant (.str x) j pos) (tC (.str x)) := ⟨L2.pe_str⟩
theorem pe_bl {b j} : QE X (.Constant (.bool b) j pos) (tC (.bl b)) := ⟨L2.pe_bl⟩
theorem pe_non {j} : QE X (.Constant .none j pos) (tC .non) := ⟨L2.pe_non⟩
theorem pv (i : Nat) {x : Str} (hN : X.N[i]? = some x := by rfl) (hv : Vis X.env.scope x := by first | exact Or.inl rfl | exact Or.inr (Or.inl rfl) | exact Or.inr (Or.inr rfl)) (hd : (x == ("__debug__" : Str)) = false := by decide)
    (hcd : (x == ("__classdict__" : Str)) = false := by decide) : QE X (.Name x pos) (tVar i) := ⟨L2.pv i hN hv hd hcd⟩
theorem pa_nil : QA X [] tNil := ⟨L2.pa_nil⟩
theorem pa_cons (ha : QE X e te) (hr : QA X es t) (hs : starEach (e :: es) X.env = (false, eval e X.env) :: starEach es X.env := by rfl) : QA X (e :: es) (tCons te t) := ⟨L2.pa_cons ha.h hr.h hs⟩
theorem pe_tup {x1} (h : QA X es t) : QE X (.Tuple es x1 pos) (tTup t) := ⟨L2.pe_tup h.h⟩
theorem pe_lst (h : QA X es t) : QE X (.List es pos) (tLst t) := ⟨L2.pe_lst h.h⟩
theorem pe_lstW (h : QA X es t) : QE X (.List es pos) (tLstW t) := ⟨L2.pe_lstW h.h⟩
end
section
variable {P : Program} {w : World} {K : PySem.W.Frag} {mg : Str → Option Value} {base : Heap} {N : List Str} {qual : Str} {scope : Scope} {f : Addr} {cd : Value} {A : Around} {outer : List Env} {s : Shared} {H : Hp} {E : XK} {x : Str} {ps : List Str} {k : Nat} {sp : Sp} {e : Expr} {es : List Expr} {t : TA} {p pos : Pos}
theorem pe_fn1 (G : Fn1 P w K mg base x ps k sp) (hr : Room k (cxOf (CX1 P w) P w K mg base N qual scope f cd A outer s H E).A) (ha : QA (cxOf (CX1 P w) P w K mg base N qual scope f cd A outer s H E) (e :: es) t) (hg : Gl (cxOf (CX1 P w) P w K mg base N qual scope f cd A outer s H E) x := by rfl) (hdb : (x == ("__debug__" : Str)) = false := by decide)
    (he : starEach (e :: es) (cxOf (CX1 P w) P w K mg base N qual scope f cd A outer s H E).env = (false, eval e (cxOf (CX1 P w) P w K mg base N qual scope f cd A outer s H E).env) :: starEach es (cxOf (CX1 P w) P w K mg base N qual scope f cd A outer s H E).env := by rfl) (hpl : (backTo pos (starEach es (cxOf (CX1 P w) P w K mg base N qual scope f cd A outer s H E).env)).any (·.1) = false := by rfl) :
    QE (cxOf (CX1 P w) P w K mg base N qual scope f cd A outer s H E) (.Call (.Name x p) (e :: es) [] pos) (tCall sp [] E t) := ⟨L2.pe_fn1 G hr ha.h hg hdb he hpl⟩
theorem ok1 {x qual : Str} {st : Stmt} {f : Addr} {fd : FuncData} {N ps : List Str} {k : Nat} {sp : Sp} (F : Fun K x qual st f fd) (S : FnScope N ps (defScope st)) (len : ∀ vs H Q E, sp vs H Q E → vs.length = ps.length)
    (hbody : ∀ (cdv : Value) (A : Around) (outer : List Env) (s : Shared) (H : Hp) (vs : List V) (Q : VK) (E : XK), Room k (A.deeper (envOfC qual (defScope st) s.heap.objs.size f cdv)) → sp vs H Q E →
      ∃ t, QSs (cxOf (CX1 P w) P w K mg base N qual (defScope st) f cdv A outer s H E) (defBody st) t ∧ t { nx := fun _ H' => Q .non H', rt := Q } (start N vs) H) : FnOk P w K mg base (CX1 P w) (k + 1) f fd ps sp :=
  F.ok1 S len fun cdv A outer s H vs Q E hr h => let ⟨t, ht, q⟩ := hbody cdv A outer s H vs Q E hr h; ⟨t, ht.h, q⟩
end
section
variable {X : Cx} {x : Str} {p pos : Pos} {a b e : Expr} {es : List Expr} {t : TA} {ta tb : TE} {id : String} {r : List V → Hp → VK → Prop}
theorem pe_callB (hc : CallR X (.builtin id) r) (hg : Gl X x) (hm : X.mg x = none) (hv : bootBuiltins x = some (.builtin id)) (ha : QA X (e :: es) t) (hn : x ≠ "__name__" := by decide) (hdb : (x == ("__debug__" : Str)) = false := by decide)
    (he : starEach (e :: es) X.env = (false, eval e X.env) :: starEach es X.env := by rfl) (hpl : (backTo pos (starEach es X.env)).any (·.1) = false := by rfl) : QE X (.Call (.Name x p) (e :: es) [] pos) (tCB r t) := ⟨L2.pe_callB hc hg hm hv ha.h hn hdb he hpl⟩
theorem pe_glob {v : V} {u : Value} (hg : Gl X x) (hm : X.mg x = some u) (r : RelV v u) (hd : (x == ("__debug__" : Str)) = false := by decide) : QE X (.Name x pos) (tC v) := ⟨L2.pe_glob hg hm r hd⟩
theorem pe_bltn {v : V} {u : Value} (hg : Gl X x) (hm : X.mg x = none) (hv : bootBuiltins x = some u) (r : RelV v u) (hn : x ≠ "__name__" := by decide) (hd : (x == ("__debug__" : Str)) = false := by decide) : QE X (.Name x pos) (tC v) := ⟨L2.pe_bltn hg hm hv r hn hd⟩
theorem pe_cmpR {op : CmpOp} {r : R2} (ho : OpR X (compareOp op) r) (ha : QE X a ta) (hb : QE X b tb) (hm : behindInMarks op b = false) : QE X (.Compare a [op] [b] pos) (tOp r ta tb) := ⟨L2.pe_cmpR ho ha.h hb.h hm⟩
theorem pe_fn {k : Nat} {ps : List Str} {sp : Sp} (G : Fn X.prog X.w X.K X.mg X.base x ps k sp) (hr : Room k X.A) (ha : QA X (e :: es) t) (hg : Gl X x := by rfl) (hdb : (x == ("__debug__" : Str)) = false := by decide)
    (he : starEach (e :: es) X.env = (false, eval e X.env) :: starEach es X.env := by rfl) (hpl : (backTo pos (starEach es X.env)).any (·.1) = false := by rfl) : QE X (.Call (.Name x p) (e :: es) [] pos) (tCall sp [] E0 t) := ⟨L2.pe_fn G hr ha.h hg hdb he hpl⟩
end
section
variable {P : Program} {w : World} {K : PySem.W.Frag} {mg : Str → Option Value} {base : Heap}
theorem ok0 {x qual : Str} {st : Stmt} {f : Addr} {fd : FuncData} {N ps : List Str} {k : Nat} {sp : Sp} (F : Fun K x qual st f fd) (S : FnScope N ps (defScope st)) (len : ∀ vs H Q E, sp vs H Q E → vs.length = ps.length)
    (hbody : ∀ (cdv : Value) (A : Around) (outer : List Env) (s : Shared) (H : Hp) (vs : List V) (Q : VK) (E : XK), Room k (A.deeper (envOfC qual (defScope st) s.heap.objs.size f cdv)) → sp vs H Q E →
      ∃ t, QSs (cxOf CX0 P w K mg base N qual (defScope st) f cdv A outer s H E).nox (defBody st) t ∧ t { nx := fun _ H' => Q .non H', rt := Q } (start N vs) H) : FnOk P w K mg base CX0 (k + 1) f fd ps sp :=
  F.ok S len fun cdv A outer s H vs Q E hr h => let ⟨t, ht, q⟩ := hbody cdv A outer s H vs Q E hr h; ⟨t, ht.h, q⟩
end
end LQ

namespace L2
open PySem PyProof.Rows PySem.W
def rSlS : V → Option Int → Option Int → Hp → VK → Prop := fun x lo hi H Q => ∃ z : Str, x = .str z ∧ z.length ≤ sizeLine ∧ Q (.str (Txt.slice z lo hi)) H
theorem sl_str {X : Cx} : SlR X rSlS := by
  intro pins s σ H x v vl vu lo hi sl Q I rx hs pl pu h
  obtain ⟨z, rfl, hz, q⟩ := h
  obtain ⟨t, rfl⟩ := rx
  refine ⟨"str", _, PySem.F.slot_str_getitem.lookup, typeIs_str _ _ _, ?_⟩
  have fin : ∀ (t' : Tok) (k : Nat), EP X pins σ Q (.str (Txt.slice z lo hi) t') { s with toks := k } := fun t' k => ⟨.str (Txt.slice z lo hi), H, I.tok k, ⟨_, rfl⟩, q⟩
  cases pl <;> cases pu
  · exact wpAny_getItem_str_slice (l := none) (u := none) (st := none) hs rfl (post_val_or_str ⟨Nat.le_trans (Txt.slice_le z _ _) hz, fin⟩)
  · rename_i j uj
    exact wpAny_getItem_str_slice (l := none) (u := some (j, uj)) (st := none) hs rfl (post_val_or_str ⟨Nat.le_trans (Txt.slice_le z _ _) hz, fin⟩)
  · rename_i i ui
    exact wpAny_getItem_str_slice (l := some (i, ui)) (u := none) (st := none) hs rfl (post_val_or_str ⟨Nat.le_trans (Txt.slice_le z _ _) hz, fin⟩)
  · rename_i i ui j uj
    exact wpAny_getItem_str_slice (l := some (i, ui)) (u := some (j, uj)) (st := none) hs rfl (post_val_or_str ⟨Nat.le_trans (Txt.slice_le z _ _) hz, fin⟩)
end L2
namespace LQ
open PySem L2 PyProof.Rows PySem.W
structure QW (X : Cx) (e : Expr) (t : TT) : Prop where
  h : PW X e t
structure QI (X : Cx) (tg : Expr) (e : Expr) (t : TI) : Prop where
  h : PI X tg e t
structure QO (X : Cx) (e : Option Expr) (t : TO) : Prop where
  h : PO X e t
section
variable {X : Cx} {a b e o i value : Expr} {es rest : List Expr} {ta tb te td ty tv : TE} {t : TA} {pos pos' p : Pos} {tA tB' : TT}
theorem pw_or1 (ha : QT X a tA) : QW X (.BoolOp .Or [a] pos) tA := ⟨L2.pw_or1 ha.h⟩
theorem pw_or (ha : QT X a tA) (hb : QW X (.BoolOp .Or (b :: rest) pos) tB') : QW X (.BoolOp .Or (a :: b :: rest) pos) (tOr tA tB') := ⟨L2.pw_or ha.h hb.h⟩
theorem pt_w (h : QW X a tA) : QT X a tA := ⟨h.h.pt⟩
theorem pt_not (ha : QT X a tA) : QT X (.UnaryOp .Not a pos) (tNot tA) := ⟨L2.pt_not ha.h⟩
theorem pt_val (h : QE X e te) (he : ∀ whole, isTrue e X.env whole = (do let v ← whole; standAt e.pos; holding [v] (truthy v)) := by intro _; rfl) : QT X e (tB te) := ⟨L2.pt_val h.h he⟩
theorem pt_din (hu : X.A.units + 1 < cLine) (hi : QE X i ty) (ho : QE X o td) (h1 : behindInMarks .In o = false := by first | exact nobehind _ (by decide) (by decide) | rfl) : QT X (.Compare i [.In] [o] pos) (tB (tDIn ty td)) := ⟨L2.pt_cmp (L2.pc_din hu hi.h ho.h) h1⟩
theorem pt_dnotin (hu : X.A.units + 1 < cLine) (hi : QE X i ty) (ho : QE X o td) (h1 : behindInMarks .NotIn o = false := by first | exact nobehind _ (by decide) (by decide) | rfl) : QT X (.Compare i [.NotIn] [o] pos) (tB (tDNotIn ty td)) := ⟨L2.pt_cmp (L2.pc_dnotin hu hi.h ho.h) h1⟩
theorem ps_dput (hu : X.A.units + 1 < cLine) (ho : QE X o td) (hi : QE X i ty) (hv : QE X value tv) (hs : swapsWith value (some (.Subscript o i pos')) pos.line X.env = pure false) : QS X (.Assign [.Subscript o i pos'] value pos) (sDPut td ty tv) := ⟨L2.ps_dput hu ho.h hi.h hv.h hs⟩
theorem pe_dget (hu : X.A.units + 1 < cLine) (ho : QE X o td) (hi : QE X i ty) (hs : NoSl i) : QE X (.Subscript o i pos) (tDGet td ty) := ⟨L2.pe_dget hu ho.h hi.h hs⟩
theorem ps_for {tg iter : Expr} {body : List Stmt} {wi : TI} {g : TG} {tb : TS} (hp : PassesOwn (model X.prog X.w) X.A X.env X.xe) (hc : X.calm = true) (hi : QI X tg iter wi) (hg : PG X tg g) (hb : QSs X body tb)
    (hs : ∀ x, foldedSetIterable iter X.env x = pure x := by intro _; rfl) : QS X (.For tg iter body [] pos) (tFor wi g tb) := ⟨L2.ps_for hp hc hi.h hg hb.h hs⟩
theorem pi_list {tg : Expr} (hl : QE X e te) : QI X tg e (iList X.K te) := ⟨L2.pi_list hl.h⟩
theorem pi_range1 {tg : Expr} (hg : Gl X "range") (hm : X.mg "range" = none) (ha : QA X [a] t) (hs : starEach [a] X.env = [(false, eval a X.env)] := by rfl) : QI X tg (.Call (.Name "range" p) [a] [] pos) (iRng1 t) := ⟨L2.pi_range1 hg hm ha.h hs⟩
theorem po_none : QO X none tNoPart := ⟨L2.po_none⟩
theorem po_some (h : QE X e te) : QO X (some e) (tPart te) := ⟨L2.po_some h.h⟩
theorem pe_slice {lo hi : Option Expr} {tl th : TO} {p2 : Pos} {r : V → Option Int → Option Int → Hp → VK → Prop} (hr : SlR X r) (he : QE X e te) (hl : QO X lo tl) (hu : QO X hi th) : QE X (.Subscript e (.Slice lo hi none p2) pos) (tSl r te tl th) := ⟨L2.pe_slice hr he.h hl.h hu.h⟩
theorem pe_callTy {T : String} {x : Str} {r : List V → Hp → VK → Prop} (hc : CallR X (.type T) r) (hg : Gl X x) (hm : X.mg x = none) (hv : bootBuiltins x = some (.type T)) (ha : QA X (e :: es) t) (hn : x ≠ "__name__" := by decide) (hdb : (x == ("__debug__" : Str)) = false := by decide)
    (he : starEach (e :: es) X.env = (false, eval e X.env) :: starEach es X.env := by rfl) (hpl : (backTo pos (starEach es X.env)).any (·.1) = false := by rfl) : QE X (.Call (.Name x p) (e :: es) [] pos) (tCB r t) := ⟨L2.pe_callTy hc hg hm hv ha.h hn hdb he hpl⟩
end
end LQ

namespace K
open PySem L2 PyProof.Rows
def top (i : Nat) : Stmt := PySem.Challenge.pw_sharings_k13_texts.main.body.getD i (.Pass ⟨0, 0, 0, 0⟩)
abbrev sMany : Stmt := top 7
abbrev sIs : Stmt := top 8
abbrev sAsk : Stmt := top 9
abbrev sMarked : Stmt := top 10
abbrev sShares : Stmt := top 11
abbrev sAre : Stmt := top 12
abbrev sMarksOf : Stmt := top 13
abbrev sShown : Stmt := top 15
abbrev sShownS : Stmt := top 16
abbrev sRead : Stmt := top 17
abbrev sReadS : Stmt := top 18
abbrev sCell : Stmt := top 20
abbrev sWhole : Stmt := top 21
abbrev sNums : Stmt := top 22
abbrev sLMarks : Stmt := top 23
abbrev sLShares : Stmt := top 24
abbrev sNamed : Stmt := top 25
abbrev sLText : Stmt := top 26
abbrev sLChanged : Stmt := top 27
abbrev sLRead : Stmt := top 28
abbrev sLAsked : Stmt := top 29
abbrev sLaw : Stmt := top 30
def spIs (K : PySem.W.Frag) : Sp := fun vs H Q _ => ∃ (a : Addr) (ns : List Int), vs = [.ref a] ∧ SqL K H a (ns.map V.int) ∧ Q (.bl (Sh.isSh ns)) H
def spAsk (K : PySem.W.Frag) : Sp := fun vs H Q _ => ∃ (a : Addr) (ns : List Int), vs = [.ref a] ∧ SqL K H a (ns.map V.int) ∧ Sh.isSh ns = true ∧ Q .non H
def spMarked {K : PySem.W.Frag} {α : Type} [DecidableEq α] (L : Lab K α) : Sp := fun vs H Q _ => ∃ (a : Addr) (xs : List V) (as : List α), vs = [.ref a] ∧ SqL K H a xs ∧ LabsAt L H xs as ∧ as.length ≤ 1000 ∧
  ∀ (D : Addr) (H' : Hp), Same H H' → H D = none → H' D = some (.lst ((Sh.mk as).map V.int)) → Q (.ref D) H'
def spCell (K : PySem.W.Frag) : Sp := fun vs H Q _ => ∃ (a : Addr) (ns : List Int) (k : Int), vs = [.ref a, .int k] ∧ SqL K H a (ns.map V.int) ∧ 0 ≤ k ∧ Q (.int (Sh.cell ns k)) H
def spLMarks (K : PySem.W.Frag) : Sp := fun vs H Q _ => ∃ (a : Addr) (ns : List Int) (k n : Int), vs = [.ref a, .int k, .int n] ∧ SqL K H a (ns.map V.int) ∧ 0 ≤ k ∧ 0 ≤ n ∧ n ≤ 100 ∧
  ∀ (D : Addr) (ms : List Int) (H' : Hp), Same H H' → H D = none → Sh.Can ms → (ms.length : Int) = n → H' D = some (.lst (ms.map V.int)) → Q (.ref D) H'
def spLaw (K : PySem.W.Frag) : Sp := fun vs H Q _ => ∃ (a : Addr) (ns : List Int), vs = [.ref a] ∧ SqL K H a (ns.map V.int) ∧ ns.length ≤ 63 ∧ ∀ H', Q (.bl true) H'
def spMany (K : PySem.W.Frag) : Sp := fun vs H Q _ => ∃ n : Int, vs = [.int n] ∧ Q (.bl (decide (1 ≤ n ∧ n ≤ 12))) H
section
variable {P : Program} {w : World} {K : PySem.W.Frag} {mg : Str → Option Value} {base : Heap}
theorem scMany : FnScope ["number"] ["number"] (defScope sMany) := ⟨rfl, rfl, rfl, by decide +kernel, rfl, by decide +kernel, by decide +kernel⟩
theorem ok_many {f : Addr} {fd : FuncData} (F : Fun K "is_many_things" "is_many_things" sMany f fd) {tk : Tok} (mt : mg "MOST_THINGS" = some (.int 12 tk)) : FnOk P w K mg base CX0 1 f fd ["number"] (spMany K) := by
  refine F.ok scMany (fun vs H Q E h => ?_) (fun cdv A outer s H vs Q E hr h => ?_)
  · obtain ⟨n, rfl, _⟩ := h
    rfl
  obtain ⟨n, rfl, q⟩ := h
  refine ⟨_, pss_one (ps_ret (pe_and (pe_cmpR op_ge (pv 0) pe_int (nomark _)) (pe_one (pe_cmpR op_le (pv 0) (pe_glob (v := .int 12) rfl mt ⟨_, rfl⟩) (nomark _))))), ?_⟩
  refine ⟨_, rfl, _, _, rfl, rfl, _, rfl, ?_⟩
  refine ite2 (fun c => ?_) (fun c => ?_)
  · have c' := of_decide_eq_true c
    refine ⟨_, rfl, _, _, rfl, rfl, ?_⟩
    have e : decide (n ≤ 12) = decide (1 ≤ n ∧ n ≤ 12) := by
      by_cases h : n ≤ 12
      · rw [decide_eq_true h, decide_eq_true ⟨by omega, h⟩]
      · rw [decide_eq_false h, decide_eq_false (fun z => h z.2)]
    show Q (.bl (decide (n ≤ 12))) H
    rw [e]
    exact q
  · have c' : ¬ (1 ≤ n) := fun z => c (decide_eq_true z)
    rw [decide_eq_false (fun z => c' z.1)] at q
    exact q
end
section
variable {P : Program} {w : World} {K : PySem.W.Frag} {mg : Str → Option Value} {base : Heap}
theorem scIs : FnScope ["one", "shares_ahead", "mark"] ["one"] (defScope sIs) := ⟨rfl, rfl, rfl, by decide +kernel, rfl, by decide +kernel, by decide +kernel⟩
theorem ok_is {f : Addr} {fd : FuncData} (F : Fun K "is_sharing" "is_sharing" sIs f fd) (GY : Fn P w K mg base "is_many_things" ["number"] 1 (spMany K)) (ml : mg "len" = none) : FnOk P w K mg base CX0 2 f fd ["one"] (spIs K) := by
  refine F.ok scIs (fun vs H Q E h => ?_) (fun cdv A outer s H vs Q E hr h => ?_)
  · obtain ⟨a, ns, rfl, _⟩ := h
    rfl
  obtain ⟨a, ns, rfl, hS, q⟩ := h
  refine ⟨_, pss_cons (ps_if (pt_not (pt_val (pe_fn GY hr (pa_cons (pe_callB call_len_seq rfl ml PySem.boot_len (pa_cons (pv 0) pa_nil)) pa_nil)))) (pss_one (ps_ret pe_bl)) pss_nil)
    (pss_cons (ps_set (i := 1) scIs.nd rfl (Or.inl rfl) pe_int)
    (pss_cons (ps_for PassesOwn.never rfl (pi_list (pv 0)) (pg_name (i := 2) scIs.nd rfl (Or.inl rfl))
      (pss_cons (ps_if (PW.pt (pw_or (pt_cmpR op_lt (pv 2) pe_int (nomark _)) (pw_or1 (pt_cmpR op_gt (pv 2) (pv 1) (nomark _))))) (pss_one (ps_ret pe_bl)) pss_nil)
      (pss_one (ps_if (pt_cmpR op_eq (pv 2) (pv 1) (nomark _)) (pss_one (ps_aug (i := 1) scIs.nd rfl (Or.inl rfl) pe_int ip_add)) pss_nil))))
    (pss_one (ps_ret pe_bl)))), ?_⟩
  have ll : (((ns.map V.int).length : Nat) : Int) = (ns.length : Int) := by rw [List.length_map]
  refine ⟨_, rfl, a, _, rfl, .inl hS, _, rfl, _, rfl, ?_⟩
  rw [ll]
  refine ite2 (fun c => ?_) (fun c => ?_)
  · have c' : ¬ (1 ≤ (ns.length : Int) ∧ (ns.length : Int) ≤ 12) := fun z => by rw [decide_eq_true z] at c; exact absurd c (by decide)
    have e : Sh.isSh ns = false := by
      unfold Sh.isSh
      rw [decide_eq_false (by omega), Bool.false_and]
    rw [e] at q
    exact q
  have c1 : 1 ≤ (ns.length : Int) ∧ (ns.length : Int) ≤ 12 := Classical.byContradiction fun z => c (by rw [decide_eq_false z]; rfl)
  have e0 : Sh.isSh ns = Sh.goodB 0 ns := by
    unfold Sh.isSh
    rw [decide_eq_true (by omega), Bool.true_and]
  rw [e0] at q
  refine ⟨_, rfl, a, rfl, ⟨_, hS⟩, for_list (K := K) (a := a) (xs := ns.map V.int) (fun i σ H2 => ∃ (fr : Int) (v : Option V), σ = [some (.ref a), some (.int fr), v] ∧ H2 = H ∧ Sh.goodB 0 ns = Sh.goodB fr (ns.drop i)) ⟨0, none, rfl, rfl, rfl⟩ (fun i σ H2 _ ⟨_, _, _, e, _⟩ => by rw [e]; exact hS) ?_ ?_⟩
  · rintro i x σ H2 hi ⟨fr, v, rfl, rfl, e⟩
    obtain ⟨z, hz, rfl⟩ := ints_get hi
    have hil : i < ns.length := (List.getElem?_eq_some_iff.mp hz).1
    have hd : ns.drop i = z :: ns.drop (i + 1) := by
      rw [List.drop_eq_getElem_cons hil]
      rw [List.getElem?_eq_getElem hil] at hz
      rw [Option.some.inj hz]
    rw [hd] at e
    rw [Sh.goodB_cons] at e
    refine ⟨_, rfl, _, _, rfl, rfl, _, rfl, ?_⟩
    refine ite2 (fun c => ?_) (fun c => ?_)
    · have c' := of_decide_eq_true c
      rw [if_pos (.inl c')] at e
      rw [e] at q
      exact iteT q
    have c1 : ¬ z < 0 := fun y => c (decide_eq_true y)
    refine ⟨_, rfl, _, rfl, _, _, rfl, rfl, _, rfl, ?_⟩
    refine ite2 (fun c => ?_) (fun c => ?_)
    · have c' := of_decide_eq_true c
      rw [if_pos (.inr c')] at e
      rw [e] at q
      exact q
    have c2 : ¬ fr < z := fun y => c (decide_eq_true y)
    rw [if_neg (by omega)] at e
    refine ⟨_, rfl, _, rfl, rfl, _, rfl, ?_⟩
    refine ite2 (fun c => ?_) (fun c => ?_)
    · have c' : z = fr := by
        have := of_decide_eq_true c
        injection this
      refine ⟨_, rfl, _, _, rfl, rfl, fr + 1, _, rfl, rfl, ?_⟩
      rw [if_pos c'] at e
      exact e
    · have c' : ¬ z = fr := fun y => c (decide_eq_true (by rw [y]))
      rw [if_neg c'] at e
      exact ⟨fr, _, rfl, rfl, e⟩
  · rintro σ H2 ⟨fr, v, rfl, rfl, e⟩
    rw [List.length_map, List.drop_length] at e
    have e' : Sh.goodB 0 ns = true := e
    rw [e'] at q
    exact q
end
section
variable {P : Program} {w : World} {K : PySem.W.Frag} {mg : Str → Option Value} {base : Heap}
theorem scAsk : FnScope ["one"] ["one"] (defScope sAsk) := ⟨rfl, rfl, rfl, by decide +kernel, rfl, by decide +kernel, by decide +kernel⟩
theorem ok_ask {f : Addr} {fd : FuncData} (F : Fun K "ask_sharing" "ask_sharing" sAsk f fd) (G : Fn P w K mg base "is_sharing" ["one"] 2 (spIs K)) : FnOk P w K mg base CX0 3 f fd ["one"] (spAsk K) := by
  refine F.ok scAsk (fun vs H Q E h => ?_) (fun cdv A outer s H vs Q E hr h => ?_)
  · obtain ⟨a, ns, rfl, _⟩ := h
    rfl
  obtain ⟨a, ns, rfl, hS, hg, q⟩ := h
  refine ⟨_, pss_one (ps_if (pt_not (pt_val (pe_fn G hr (pa_cons (pv 0) pa_nil)))) pss_never pss_nil), ?_⟩
  refine ⟨_, rfl, a, ns, rfl, hS, _, rfl, ?_⟩
  rw [hg]
  exact iteF q
end
section
variable {P : Program} {w : World} {K : PySem.W.Frag} {mg : Str → Option Value} {base : Heap}
theorem scMarked : FnScope ["labels", "marks_given", "marks", "label"] ["labels"] (defScope sMarked) := ⟨rfl, rfl, rfl, by decide +kernel, rfl, by decide +kernel, by decide +kernel⟩
theorem ok_marked {α : Type} [DecidableEq α] (D : DLab K α) {f : Addr} {fd : FuncData} (F : Fun K "marked" "marked" sMarked f fd) (ml : mg "len" = none) : FnOk P w K mg base CX0 1 f fd ["labels"] (spMarked D.L) := by
  refine F.ok scMarked (fun vs H Q E h => ?_) (fun cdv A outer s H vs Q E hr h => ?_)
  · obtain ⟨a, xs, as, rfl, _⟩ := h
    rfl
  obtain ⟨a, xs, as, rfl, hS, hL, hz, q⟩ := h
  have hu := hu_of hr
  refine ⟨_, pss_cons (ps_set (i := 1) scMarked.nd rfl (Or.inl rfl) D.newD)
    (pss_cons (ps_set (i := 2) scMarked.nd rfl (Or.inl rfl) (pe_lst pa_nil))
    (pss_cons (ps_for PassesOwn.never rfl (pi_list (pv 0)) (pg_name (i := 3) scMarked.nd rfl (Or.inl rfl))
      (pss_one (ps_expr (pe_bm PySem.F.plainAttrs_list PySem.F.slot_list_append PySem.F.type_list_append mt_append (pv 2)
        (pa_cons (pe_bm PySem.F.plainAttrs_dict PySem.F.slot_dict_setdefault PySem.F.type_dict_setdefault (mt_setdefault hu) (pv 1) (pa_cons (pv 3) (pa_cons (pe_callB call_lenDD rfl ml PySem.boot_len (pa_cons (pv 1) pa_nil)) pa_nil))) pa_nil)))))
    (pss_one (ps_ret (pv 2))))), ?_⟩
  intro d hd
  refine ⟨(by show 0 ≤ sizeLine; decide), fun l hl => ?_⟩
  have ndl : d ≠ l := fun e => by subst e; rw [upd_same] at hl; cases hl
  have hl0 : H l = none := by rw [upd_ne ndl.symm] at hl; exact hl
  have s0 : Same H (upd (upd H d (D.dOf [])) l (.lst [])) := (same_upd hd _).upd2 hl0
  refine ⟨_, rfl, a, rfl, ⟨_, s0.seq hS⟩, for_list (K := K) (a := a) (xs := xs) (fun i σ H2 => ∃ (v : Option V), σ = [some (.ref a), some (.ref d), some (.ref l), v] ∧ Same H H2 ∧ H2 d = some (D.dOf (Sh.dd (as.take i))) ∧ H2 l = some (.lst ((Sh.mk (as.take i)).map V.int)))
    ⟨none, rfl, s0, by rw [upd_ne ndl, upd_same]; rfl, by rw [upd_same]; rfl⟩ (fun i σ H2 _ ⟨_, _, s2, _⟩ => s2.seq hS) ?_ ?_⟩
  · rintro i x σ H2 hi ⟨v, rfl, s2, h1, h2⟩
    have hil : i < xs.length := (List.getElem?_eq_some_iff.mp hi).1
    have hia : i < as.length := by rw [← hL.1]; exact hil
    have ea := List.getElem?_eq_getElem hia
    have rel := D.L.mono s2 (hL.2 i x _ hi ea)
    have et : as.take (i + 1) = as.take i ++ [as[i]] := by rw [List.take_add_one, ea]; rfl
    have lt : (as.take i).length ≤ 1000 := by rw [List.length_take]; omega
    have ldd : (Sh.dd (as.take i)).length ≤ 1000 := Nat.le_trans (Sh.length_dd_le _) lt
    refine ⟨_, rfl, .inl ⟨rfl, _, SqL.of h2⟩, _, rfl, ?_, _, rfl, _, rfl, d, _, rfl, D.lenD h1, ?_⟩
    · refine .inr (.inr (.inl ⟨rfl, ?_⟩))
      rcases D.lenD h1 with ⟨kvs, e, _⟩ | ⟨kvs, e, _⟩
      · exact .inl ⟨kvs, e⟩
      · exact .inr ⟨kvs, e⟩
    · refine D.setd h1 rel (Sh.nodup_dd _) (small1000 ldd) (fun hm => ?_) (fun hm => ?_)
      · refine ⟨l, _, _, rfl, rfl, h2, small1000 (by rw [List.length_map, Sh.length_mk]; exact lt), _, rfl, s2.upd2 hl0, ?_, ?_⟩
        · rw [upd_ne ndl, h1, et, Sh.dd_snoc, if_pos hm]
        · rw [upd_same, et]
          congr 2
          unfold Sh.mk
          rw [Sh.nm_snoc, if_pos hm, List.map_append, List.map_append]
          rfl
      · refine ⟨l, _, _, rfl, rfl, by rw [upd_ne ndl.symm]; exact h2, small1000 (by rw [List.length_map, Sh.length_mk]; exact lt), _, rfl, (s2.upd2 hd).upd2 hl0, ?_, ?_⟩
        · rw [upd_ne ndl, upd_same, et, Sh.dd_snoc, if_neg hm]
        · rw [upd_same, et]
          congr 2
          unfold Sh.mk
          rw [Sh.nm_snoc, if_neg hm, List.map_append, List.map_append]
          rfl
  · rintro σ H2 ⟨v, rfl, s2, h1, h2⟩
    rw [hL.1, List.take_length] at h2
    exact ⟨_, rfl, q l H2 s2 hl0 h2⟩
end
def LL (H : Hp) (as : List Addr) (cs : List (List Int)) : Prop := as.length = cs.length ∧ ∀ (k : Nat) (p : Addr) (c : List Int), as[k]? = some p → cs[k]? = some c → H p = some (.lst (c.map V.int))
theorem LL.mono {H H' : Hp} {as : List Addr} {cs : List (List Int)} (h : LL H as cs) (s : Same H H') : LL H' as cs := ⟨h.1, fun k p c e1 e2 => s _ _ (h.2 k p c e1 e2)⟩
theorem LL.snoc {H : Hp} {as : List Addr} {cs : List (List Int)} {p : Addr} {c : List Int} (h : LL H as cs) (hp : H p = some (.lst (c.map V.int))) : LL H (as ++ [p]) (cs ++ [c]) := by
  refine ⟨by rw [List.length_append, List.length_append, h.1]; rfl, fun k q d e1 e2 => ?_⟩
  by_cases hk : k < as.length
  · rw [List.getElem?_append_left hk] at e1
    rw [List.getElem?_append_left (by rw [← h.1]; exact hk)] at e2
    exact h.2 k q d e1 e2
  · have hk' : k < (as ++ [p]).length := (List.getElem?_eq_some_iff.mp e1).1
    have ek : k = as.length := by rw [List.length_append, List.length_singleton] at hk'; omega
    subst ek
    rw [List.getElem?_append_right (Nat.le_refl _), Nat.sub_self] at e1
    rw [h.1, List.getElem?_append_right (Nat.le_refl _), Nat.sub_self] at e2
    have e1' : p = q := by simpa using e1
    have e2' : c = d := by simpa using e2
    subst e1' e2'
    exact hp
def spShares (K : PySem.W.Frag) : Sp := fun vs H Q _ => ∃ (a : Addr) (ns : List Int), vs = [.ref a] ∧ SqL K H a (ns.map V.int) ∧ Sh.isSh ns = true ∧
  ∀ (D : Addr) (as : List Addr) (H' : Hp), Same H H' → H D = none → H' D = some (.lst (as.map V.ref)) → as.Nodup → ¬ D ∈ as → (∀ p, p ∈ as → H p = none) → LL H' as (Sh.shs ns) → Q (.ref D) H'
section
variable {P : Program} {w : World} {K : PySem.W.Frag} {mg : Str → Option Value} {base : Heap}
theorem nd_mark : (["mark"] : List Str).Nodup := by decide +kernel
theorem scShares : FnScope ["one", "shares", "thing", "mark"] ["one"] (defScope sShares) := ⟨rfl, rfl, rfl, by decide +kernel, rfl, by decide +kernel, by decide +kernel⟩
theorem ok_shares {f : Addr} {fd : FuncData} (F : Fun K "shares_of" "shares_of" sShares f fd) (G : Fn P w K mg base "ask_sharing" ["one"] 3 (spAsk K)) (mr : mg "range" = none) (mm : mg "max" = none) (me : mg "enumerate" = none) :
    FnOk P w K mg base CX0 4 f fd ["one"] (spShares K) := by
  refine F.ok scShares (fun vs H Q E h => ?_) (fun cdv A outer s H vs Q E hr h => ?_)
  · obtain ⟨a, ns, rfl, _⟩ := h
    rfl
  obtain ⟨a, ns, rfl, hS, hg, q⟩ := h
  obtain ⟨hcan, l1, l2⟩ := Sh.isSh_can hg
  have hne : ns ≠ [] := by intro e; rw [e] at l1; simp at l1
  refine ⟨_, pss_cons (ps_expr (pe_fn G hr (pa_cons (pv 0) pa_nil)))
    (pss_cons (ps_comp (k := 1) ["mark"] [none] rfl rfl scShares.nd rfl (Or.inl rfl) (pi_range1 rfl mr (pa_cons (pe_op op_add (pe_callB (call_maxL rfl) rfl mm boot_max (pa_cons (pv 0) pa_nil)) pe_int) pa_nil))
      (fun _ _ _ _ => pg_name (i := 0) nd_mark rfl (Or.inl rfl)) (fun _ _ _ _ => pts_nil) (fun _ _ _ _ => pe_lst pa_nil))
    (pss_cons (ps_for PassesOwn.never rfl (pi_enum rfl me (pa_cons (pv 0) pa_nil)) (pg_tup rfl (pgs_cons (pg_name (i := 2) scShares.nd rfl (Or.inl rfl)) (pgs_cons (pg_name (i := 3) scShares.nd rfl (Or.inl rfl)) pgs_nil)))
      (pss_one (ps_expr (pe_bm PySem.F.plainAttrs_list PySem.F.slot_list_append PySem.F.type_list_append mt_append (pe_ix ix_list (pv 1) (pv 3) (fun _ _ => rfl)) (pa_cons (pv 2) pa_nil)))))
    (pss_one (ps_ret (pv 1))))), ?_⟩
  refine ⟨_, rfl, a, ns, rfl, hS, hg, ?_⟩
  refine ⟨_, rfl, a, ns, rfl, hS, hne, fun M hM hle => ?_⟩
  have hM0 := Sh.can_nonneg hcan M hM
  have hfr := Sh.fr_max hM hle hM0
  have hfl : Sh.fr ns ≤ 12 := by
    have := (Sh.fr_mk ns).1
    rw [Sh.mk_can hcan] at this
    have := Sh.length_dd_le ns
    omega
  refine ⟨_, _, rfl, rfl, _, rfl, by omega, by omega, comp_range (lo := 0) (n := (M + 1).toNat) (fun i ys τ H2 => ∃ (as : List Addr) (v : Option V), ys = as.map V.ref ∧ as.length = i ∧ as.Nodup ∧ τ = [v] ∧ Same H H2 ∧ ∀ p, p ∈ as → H p = none ∧ H2 p = some (.lst []))
    ⟨[], none, rfl, rfl, List.nodup_nil, rfl, Same.refl _, fun p h => by simp at h⟩ ?_ ?_ ?_⟩
  · rintro i ys τ H2 hi ⟨as, v, rfl, hl, _⟩
    exact small1000 (by rw [List.length_map]; omega)
  · rintro i ys τ H2 hi ⟨as, v, rfl, hl, nd, rfl, s2, hp⟩
    refine ⟨(by show 0 ≤ sizeLine; decide), fun p hpn => ?_⟩
    refine ⟨as ++ [p], _, by rw [List.map_append]; rfl, by rw [List.length_append, hl]; rfl, ?_, rfl, s2.upd2 (s2.free hpn), fun r hr' => ?_⟩
    · rw [List.nodup_append]
      refine ⟨nd, by simp, fun x hx y hy => ?_⟩
      rw [List.mem_singleton] at hy
      subst hy
      exact ne_of_none (hp x hx).2 hpn
    · rcases List.mem_append.mp hr' with h | h
      · refine ⟨(hp r h).1, ?_⟩
        rw [upd_ne (ne_of_none (hp r h).2 hpn)]
        exact (hp r h).2
      · rw [List.mem_singleton] at h
        subst h
        exact ⟨s2.free hpn, upd_same⟩
  · rintro ys τ H2 ⟨as, v, rfl, hl, nd, rfl, s2, hp⟩ D hD
    have hDas : ¬ D ∈ as := fun z => by have := (hp D z).2; rw [hD] at this; cases this
    have s3 : Same H (upd H2 D (.lst (as.map V.ref))) := s2.upd2 (s2.free hD)
    refine ⟨_, rfl, a, rfl, ⟨_, s3.seq hS⟩, for_enum (K := K) (a := a) (xs := ns.map V.int) (fun i σ H3 => ∃ v2 v3, σ = [some (.ref a), some (.ref D), v2, v3] ∧ Same H H3 ∧ H3 D = some (.lst (as.map V.ref)) ∧ ∀ (k : Nat) (p : Addr), as[k]? = some p → H3 p = some (.lst ((Sh.sh1 ns i (k : Int)).map V.int)))
      ⟨none, none, rfl, s3, upd_same, fun k p e => ?_⟩ (fun i σ H3 _ ⟨_, _, _, s4, _⟩ => s4.seq hS) ?_ ?_⟩
    · rw [upd_ne (fun (z : p = D) => hDas (by rw [← z]; exact List.mem_of_getElem? e))]
      exact (hp p (List.mem_of_getElem? e)).2
    · rintro i x σ H3 t hi ht ⟨v2, v3, rfl, s4, d4, l4⟩
      obtain ⟨z, hz, rfl⟩ := ints_get hi
      have z0 := Sh.can_nonneg hcan z (List.mem_of_getElem? hz)
      have z1 := Sh.lt_fr z (List.mem_of_getElem? hz)
      have ez : z = ((z.toNat : Nat) : Int) := by omega
      have hzl : z.toNat < as.length := by omega
      have e0 := List.getElem?_eq_getElem hzl
      have hla := l4 _ _ e0
      have nDt : D ≠ t := ne_of_none d4 ht
      have nat : as[z.toNat] ≠ t := ne_of_none hla ht
      refine ⟨t, _, rfl, SqT.of upd_same, rfl, _, _, rfl, _, _, rfl, rfl, ?_⟩
      refine ⟨_, rfl, _, rfl, D, as.map V.ref, z, .ref as[z.toNat], rfl, rfl, SqL.of (by rw [upd_ne nDt]; exact d4), ?_, .inl ⟨rfl, _, SqL.of (by rw [upd_ne nat]; exact hla)⟩, _, rfl, as[z.toNat], _, _, rfl, rfl, (by rw [upd_ne nat]; exact hla), small1000 ?_, ?_⟩
      · have q1 : atI (as.map V.ref) ((z.toNat : Nat) : Int) = some (.ref as[z.toNat]) := atI_nat (by rw [List.getElem?_map, e0]; rfl)
        rw [← ez] at q1
        exact q1
      · rw [List.length_map]
        unfold Sh.sh1
        rw [List.length_map]
        have := List.length_filter_le (fun t => decide (ns[t]? = some ((z.toNat : Nat) : Int))) (List.range i)
        rw [List.length_range] at this
        have : i < ns.length := (List.getElem?_eq_some_iff.mp hz).1
        omega
      · have hH : H as[z.toNat] = none := (hp _ (List.getElem_mem hzl)).1
        refine ⟨_, _, rfl, (s4.upd2 (s4.free ht)).upd2 hH, ?_, fun k p e => ?_⟩
        · rw [upd_ne (fun (e : D = as[z.toNat]) => hDas (by rw [e]; exact List.getElem_mem hzl)), upd_ne nDt]
          exact d4
        · rw [Sh.sh1_succ]
          by_cases ek : k = z.toNat
          · subst ek
            rw [e0] at e
            cases e
            rw [upd_same, ← ez, if_pos hz, List.map_append]
            rfl
          · have np : p ≠ as[z.toNat] := fun e' => by
              subst e'
              obtain ⟨hk1, hk2⟩ := List.getElem?_eq_some_iff.mp e
              exact ek ((List.getElem_inj nd).mp hk2)
            have hk := l4 k p e
            rw [upd_ne np, upd_ne (ne_of_none hk ht), if_neg (fun e' => ek (by rw [hz] at e'; have := Option.some.inj e'; omega)), List.append_nil]
            exact hk
    · rintro σ H3 ⟨v2, v3, rfl, s4, d4, l4⟩
      rw [List.length_map] at l4
      refine ⟨_, rfl, q D as H3 s4 (s2.free hD) d4 nd hDas (fun p h => (hp p h).1) ⟨by rw [Sh.shs_len]; omega, fun k p c e1 e2 => ?_⟩⟩
      have hk : k < (Sh.fr ns).toNat := by
        have := (List.getElem?_eq_some_iff.mp e1).1
        omega
      rw [Sh.shs_get hk] at e2
      rw [← Option.some.inj e2]
      exact l4 k p e1
end
def spAre (K : PySem.W.Frag) : Sp := fun vs H Q _ => ∃ (a : Addr) (as : List Addr) (css : List (List Int)), vs = [.ref a] ∧ H a = some (.lst (as.map V.ref)) ∧ LL H as css ∧ css.flatten.length ≤ 1000 ∧
  ∀ (b : Bool) (H' : Hp), (b = true ↔ Sh.Shs css) → Same H H' → Q (.bl b) H'
def spMarks1 (K : PySem.W.Frag) (CN : Addr) : Sp := fun vs H Q E => ∃ (a : Addr) (as : List Addr) (css : List (List Int)), vs = [.ref a] ∧ H a = some (.lst (as.map V.ref)) ∧ LL H as css ∧ css.flatten.length ≤ 1000 ∧
  (Sh.Shs css → ∀ (D : Addr) (labs : List Int) (H' : Hp), Same H H' → H D = none → Sh.Labs css labs → H' D = some (.lst ((Sh.mk labs).map V.int)) → Q (.ref D) H') ∧ (¬ Sh.Shs css → ∀ H', Same H H' → E (.ref CN) none H')
section
variable {P : Program} {w : World} {K : PySem.W.Frag} {mg : Str → Option Value} {base : Heap}
theorem LL.at {H : Hp} {as : List Addr} {cs : List (List Int)} (h : LL H as cs) {i : Nat} {x : V} (e : (as.map V.ref)[i]? = some x) : ∃ p c, x = .ref p ∧ as[i]? = some p ∧ cs[i]? = some c ∧ H p = some (.lst (c.map V.int)) := by
  rw [List.getElem?_map] at e
  cases eT : as[i]? with
  | none => rw [eT] at e; cases e
  | some p =>
    rw [eT] at e
    cases e
    have hi : i < cs.length := by rw [← h.1]; exact (List.getElem?_eq_some_iff.mp eT).1
    exact ⟨p, cs[i], rfl, rfl, List.getElem?_eq_getElem hi, h.2 i p _ eT (List.getElem?_eq_getElem hi)⟩
theorem take_flat {css : List (List Int)} {i : Nat} {c : List Int} (h : css[i]? = some c) : (css.take (i + 1)).flatten = (css.take i).flatten ++ c := by
  rw [List.take_add_one, h, List.flatten_append]
  simp
theorem take_flat_le (css : List (List Int)) (i : Nat) : (css.take i).flatten.length ≤ css.flatten.length := by
  have : css.flatten = (css.take i).flatten ++ (css.drop i).flatten := by rw [← List.flatten_append, List.take_append_drop]
  rw [this, List.length_append]
  omega
theorem scAre : FnScope ["shares", "things", "share"] ["shares"] (defScope sAre) := ⟨rfl, rfl, rfl, by decide +kernel, rfl, by decide +kernel, by decide +kernel⟩
theorem ok_are {f : Addr} {fd : FuncData} (F : Fun K "are_shares" "are_shares" sAre f fd) (ml : mg "len" = none) (mr : mg "range" = none) (mlst : mg "list" = none) (ms : mg "sorted" = none) (GY : Fn P w K mg base "is_many_things" ["number"] 1 (spMany K)) :
    FnOk P w K mg base CX0 2 f fd ["shares"] (spAre K) := by
  refine F.ok scAre (fun vs H Q E h => ?_) (fun cdv A outer s H vs Q E hr h => ?_)
  · obtain ⟨a, as, css, rfl, _⟩ := h
    rfl
  obtain ⟨a, as, css, rfl, hA, hL, hz, q⟩ := h
  have hu := hu_of hr
  refine ⟨_, pss_cons (ps_set (i := 1) scAre.nd rfl (Or.inl rfl) (pe_lst pa_nil))
    (pss_cons (ps_for PassesOwn.never rfl (pi_list (pv 0)) (pg_name (i := 2) scAre.nd rfl (Or.inl rfl))
      (pss_cons (ps_if (pt_cmpR op_eq (pe_callB call_len_seq rfl ml PySem.boot_len (pa_cons (pv 2) pa_nil)) pe_int (nomark _)) (pss_one (ps_ret pe_bl)) pss_nil)
      (pss_one (ps_expr (pe_bm PySem.F.plainAttrs_list PySem.F.slot_list_extend PySem.F.type_list_extend mt_extend (pv 1) (pa_cons (pv 2) pa_nil))))))
    (pss_cons (ps_if (pt_not (pt_val (pe_fn GY hr (pa_cons (pe_callB call_len_seq rfl ml PySem.boot_len (pa_cons (pv 1) pa_nil)) pa_nil)))) (pss_one (ps_ret pe_bl)) pss_nil)
    (pss_one (ps_ret (pe_cmpR (op_eqLI (Nat.lt_of_succ_lt hu)) (pe_callB call_sortedL rfl ms boot_sorted (pa_cons (pv 1) pa_nil)) (pe_listrange rfl rfl mlst rfl mr (pa_cons (pe_callB call_len_seq rfl ml PySem.boot_len (pa_cons (pv 1) pa_nil)) pa_nil)) (nomark _)))))), ?_⟩
  refine ⟨(by show 0 ≤ sizeLine; decide), fun l hl => ?_⟩
  have s0 : Same H (upd H l (.lst [])) := same_upd hl _
  refine ⟨_, rfl, a, rfl, ⟨_, SqL.of (s0 _ _ hA)⟩, for_list (K := K) (a := a) (xs := as.map V.ref) (fun i σ H2 => ∃ v, σ = [some (.ref a), some (.ref l), v] ∧ Same H H2 ∧ H2 l = some (.lst ((css.take i).flatten.map V.int)) ∧ ∀ c, c ∈ css.take i → c ≠ [])
    ⟨none, rfl, s0, upd_same, fun c h => by simp at h⟩ (fun i σ H2 _ ⟨_, _, s2, _⟩ => SqL.of (s2 _ _ hA)) ?_ ?_⟩
  · rintro i x σ H2 hi ⟨v, rfl, s2, h2, hne⟩
    obtain ⟨p, c, rfl, e1, e2, e3⟩ := hL.at hi
    have e3' := s2 _ _ e3
    refine ⟨_, rfl, p, _, rfl, .inl (SqL.of e3'), rfl, _, rfl, ?_⟩
    refine ite2 (fun z => ?_) (fun z => ?_)
    · have z' : c = [] := by
        have := of_decide_eq_true z
        injection this with this
        rw [List.length_map] at this
        exact List.eq_nil_of_length_eq_zero (by omega)
      refine q false H2 ⟨fun h => (nomatch h), fun h => absurd z' (h.1 c (List.mem_of_getElem? e2))⟩ s2
    · have z' : c ≠ [] := fun e => z (by rw [e]; rfl)
      refine ⟨_, rfl, .inl ⟨rfl, _, SqL.of h2⟩, _, rfl, l, p, _, _, rfl, rfl, h2, e3', ?_, ?_⟩
      · have h1 := take_flat_le css (i + 1)
        rw [take_flat e2, List.length_append] at h1
        rw [List.length_map, List.length_map]
        exact small (by omega)
      · refine ⟨_, rfl, s2.upd2 hl, ?_, fun d hd => ?_⟩
        · rw [upd_same, take_flat e2, List.map_append]
        · rw [List.take_add_one, e2] at hd
          rcases List.mem_append.mp hd with hd | hd
          · exact hne d hd
          · have : d = c := by simpa using hd
            rw [this]
            exact z'
  · rintro σ H2 ⟨v, rfl, s2, h2, hne⟩
    rw [List.length_map, hL.1, List.take_length] at h2 hne
    have ll : ((css.flatten.map V.int).length : Int) = (css.flatten.length : Int) := by rw [List.length_map]
    refine ⟨_, rfl, l, _, rfl, .inl (SqL.of h2), _, rfl, _, rfl, ?_⟩
    rw [ll]
    refine ite2 (fun c => ?_) (fun c => ?_)
    · have c' : ¬ (1 ≤ (css.flatten.length : Int) ∧ (css.flatten.length : Int) ≤ 12) := fun z => by rw [decide_eq_true z] at c; exact absurd c (by decide)
      exact q false H2 ⟨fun h => (nomatch h), fun h => by have := h.2.1; have := h.2.2.1; omega⟩ s2
    have c1 : 1 ≤ (css.flatten.length : Int) ∧ (css.flatten.length : Int) ≤ 12 := Classical.byContradiction fun z => c (by rw [decide_eq_false z]; rfl)
    refine ⟨_, rfl, l, css.flatten, rfl, SqL.of h2, by omega, fun p ms hp hperm hsort => ?_⟩
    have s3 := same_upd hp (.lst (ms.map V.int))
    refine ⟨_, rfl, l, _, rfl, .inl (SqL.of (s3 _ _ h2)), (css.flatten.map V.int).length, rfl, by rw [List.length_map]; omega, fun D hD => ?_⟩
    rw [List.length_map]
    have s4 := same_upd hD (.lst ((Sh.upto css.flatten.length).map V.int))
    refine ⟨p, D, ms, _, rfl, rfl, SqL.of (s4 _ _ upd_same), SqL.of upd_same, ?_⟩
    refine q _ _ ?_ (s2.trans (s3.trans s4))
    show decide (ms = Sh.upto css.flatten.length) = true ↔ _
    rw [decide_eq_true_iff, Sh.sorted_upto hperm hsort]
    exact ⟨fun h => ⟨hne, by omega, by omega, h⟩, fun h => h.2.2.2⟩
end
section
variable {P : Program} {w : World} {K : PySem.W.Frag} {mg : Str → Option Value} {base : Heap}
theorem nd_ts : (["thing", "share_numbers"] : List Str).Nodup := by decide +kernel
theorem scMarksOf : FnScope ["shares", "share_numbers", "number", "share", "thing"] ["shares"] (defScope sMarksOf) := ⟨rfl, rfl, rfl, by decide +kernel, rfl, by decide +kernel, by decide +kernel⟩
structure Num (css : List (List Int)) (i : Nat) (more : List Int) (kvs : List (Key × V)) : Prop where
  len : kvs.length = (css.take i).flatten.length + more.length
  old : ∀ (k : Nat) (c : List Int) (t : Int), k < i → css[k]? = some c → t ∈ c → valV kvs (Sum.inl t : Key) = some (.int (k : Int))
  new : ∀ t : Int, t ∈ more → valV kvs (Sum.inl t : Key) = some (.int (i : Int))
  out : ∀ t : Int, ¬ t ∈ (css.take i).flatten → ¬ t ∈ more → valV kvs (Sum.inl t : Key) = none
theorem Num.put {css : List (List Int)} {i : Nat} {more : List Int} {kvs : List (Key × V)} (h : Num css i more kvs) {t : Int} (h1 : ¬ t ∈ (css.take i).flatten) (h2 : ¬ t ∈ more) : Num css i (more ++ [t]) (putK kvs (Sum.inl t : Key) (.int (i : Int))) := by
  have hn := h.out t h1 h2
  refine ⟨by rw [putK_new _ hn, List.length_append, List.length_append, h.len]; simp; omega, fun k c t' hk hc ht' => ?_, fun t' ht' => ?_, fun t' ha hb => ?_⟩
  · rw [valV_put, if_neg]
    · exact h.old k c t' hk hc ht'
    · intro e
      have e' : t' = t := Sum.inl.inj e
      subst e'
      exact h1 (List.mem_flatten.mpr ⟨c, by
        have hlt := (List.getElem?_eq_some_iff.mp hc).1
        exact List.mem_of_getElem? (i := k) (by rw [List.getElem?_take, if_pos hk]; exact hc), ht'⟩)
  · rw [valV_put]
    by_cases e : t' = t
    · rw [e, if_pos rfl]
    · rw [if_neg (fun z => e (Sum.inl.inj z))]
      refine h.new t' ?_
      rcases List.mem_append.mp ht' with z | z
      · exact z
      · exact absurd (List.mem_singleton.mp z) e
  · have e : t' ≠ t := fun e => hb (by rw [e]; simp)
    rw [valV_put, if_neg (fun z => e (Sum.inl.inj z))]
    exact h.out t' ha fun z => hb (List.mem_append_left _ z)
theorem Num.next {css : List (List Int)} {i : Nat} {c : List Int} {kvs : List (Key × V)} (h : Num css i c kvs) (hc : css[i]? = some c) : Num css (i + 1) [] kvs := by
  refine ⟨by rw [take_flat hc, List.length_append, h.len]; simp, fun k c' t hk hc' ht => ?_, fun t ht => by simp at ht, fun t ht _ => ?_⟩
  · by_cases e : k = i
    · subst e
      rw [hc] at hc'
      cases hc'
      exact h.new t ht
    · exact h.old k c' t (by omega) hc' ht
  · rw [take_flat hc] at ht
    exact h.out t (fun z => ht (List.mem_append_left _ z)) fun z => ht (List.mem_append_right _ z)
theorem ok_marksof1 {CN : Addr} (hq : PySem.W.excIn K CN bmVE "ValueError.__new__" = true) (mN : mg "NoShares" = some (.ref CN)) {f : Addr} {fd : FuncData} (F : Fun K "marks_of" "marks_of" sMarksOf f fd) (GA : Fn P w K mg base "are_shares" ["shares"] 2 (spAre K)) (GM : Fn P w K mg base "marked" ["labels"] 1 (spMarked (labInt K))) (ml : mg "len" = none) (mr : mg "range" = none) (me : mg "enumerate" = none) :
    FnOk P w K mg base (CX1 P w) 3 f fd ["shares"] (spMarks1 K CN) := by
  refine F.ok1 scMarksOf (fun vs H Q E h => ?_) (fun cdv A outer s H vs Q E hr h => ?_)
  · obtain ⟨a, as, css, rfl, _⟩ := h
    rfl
  obtain ⟨a, as, css, rfl, hA, hL, hlen, q, qE⟩ := h
  have hu := hu_of hr
  refine ⟨_, pss_cons (ps_if (pt_not (pt_val (pe_fn GA hr (pa_cons (pv 0) pa_nil)))) (pss_one (ps_raise hq rfl mN (pa_cons pe_str pa_nil))) pss_nil)
    (pss_cons (ps_set (i := 1) scMarksOf.nd rfl (Or.inr rfl) pe_dnewK)
    (pss_cons (PS.nox (ps_for PassesOwn.never rfl (pi_enum rfl me (pa_cons (pv 0) pa_nil)) (pg_tup rfl (pgs_cons (pg_name (i := 2) scMarksOf.nd rfl (Or.inl rfl)) (pgs_cons (pg_name (i := 3) scMarksOf.nd rfl (Or.inl rfl)) pgs_nil)))
      (pss_one (ps_for PassesOwn.never rfl (pi_list (pv 3)) (pg_name (i := 4) scMarksOf.nd rfl (Or.inl rfl))
        (pss_one (ps_dput hu (pv 1) (pv 4) (pv 2) rfl))))))
    (pss_one (ps_ret (pe_fn GM (hr.mono (by decide)) (pa_cons (pe_comp ["thing", "share_numbers"] [none, some 1] rfl rfl (pi_range1 rfl mr (pa_cons (pe_callB call_lenD rfl ml PySem.boot_len (pa_cons (pv 1) pa_nil)) pa_nil)) (fun _ _ _ _ => pg_name (i := 0) nd_ts rfl (Or.inl rfl)) (fun _ _ _ _ => pts_nil)
      (fun _ _ _ _ => pe_dget hu (pv 1) (pv 0) (fun _ _ => rfl))) pa_nil)))))), ?_⟩
  refine ⟨_, rfl, a, as, css, rfl, hA, hL, hlen, fun b H1 hb s1 => ⟨_, rfl, ?_⟩⟩
  refine ite2 (fun cb => ?_) (fun cb => ?_)
  · have nb : ¬ Sh.Shs css := fun z => by rw [hb.mpr z] at cb; cases cb
    exact ⟨(by show 1 ≤ sizeLine; decide), qE nb H1 s1⟩
  have hshs : Sh.Shs css := hb.mp (by cases b with | true => rfl | false => exact absurd rfl cb)
  have q := q hshs
  obtain ⟨z1, z2, z3, z4⟩ := id hshs
  have nd : css.flatten.Nodup := z4.symm.nodup (Sh.upto_nodup _)
  intro d hd
  have sd : Same H (upd H1 d (.dK [])) := s1.upd2 (s1.free hd)
  have hd0 := s1.free hd
  refine ⟨_, rfl, a, rfl, ⟨_, SqL.of (sd _ _ hA)⟩, for_enum (K := K) (a := a) (xs := as.map V.ref) (fun i σ H2 => ∃ v2 v3 v4 kvs, σ = [some (.ref a), some (.ref d), v2, v3, v4] ∧ Same H H2 ∧ H2 d = some (.dK kvs) ∧ Num css i [] kvs)
    ⟨none, none, none, [], rfl, sd, upd_same, rfl, fun k c t hk => absurd hk (Nat.not_lt_zero _), fun t ht => by simp at ht, fun t _ _ => rfl⟩ (fun i σ H2 _ ⟨_, _, _, _, _, s2, _⟩ => SqL.of (s2 _ _ hA)) ?_ ?_⟩
  · rintro i x σ H2 t hi ht ⟨v2, v3, v4, kvs, rfl, s2, hd2, num⟩
    obtain ⟨p, c, rfl, e1, e2, e3⟩ := hL.at hi
    have nDt : d ≠ t := ne_of_none hd2 ht
    have s3 : Same H (upd H2 t (.tup [.int (i : Int), .ref p])) := s2.upd2 (s2.free ht)
    refine ⟨t, _, rfl, SqT.of upd_same, rfl, _, _, rfl, _, _, rfl, rfl, ?_⟩
    refine ⟨_, rfl, p, rfl, ⟨_, SqL.of (s3 _ _ e3)⟩, for_list (K := K) (a := p) (xs := c.map V.int) (fun j σ H3 => ∃ v4 kvs, σ = [some (.ref a), some (.ref d), some (.int (i : Int)), some (.ref p), v4] ∧ Same H H3 ∧ H3 d = some (.dK kvs) ∧ Num css i (c.take j) kvs)
      ⟨_, kvs, rfl, s3, by rw [upd_ne nDt]; exact hd2, num⟩ (fun j σ H3 _ ⟨_, _, _, s4, _⟩ => SqL.of (s4 _ _ e3)) ?_ ?_⟩
    · rintro j y σ H3 hj ⟨v4, kvs, rfl, s4, hd4, num4⟩
      obtain ⟨z, hz, rfl⟩ := ints_get hj
      have hjl := (List.getElem?_eq_some_iff.mp hz).1
      have split : css.flatten = (css.take i).flatten ++ (c.take j ++ z :: c.drop (j + 1)) ++ (css.drop (i + 1)).flatten := by
        have a1 : css.flatten = (css.take (i + 1)).flatten ++ (css.drop (i + 1)).flatten := by rw [← List.flatten_append, List.take_append_drop]
        have a2 : c = c.take j ++ z :: c.drop (j + 1) := by
          have b1 := (List.take_append_drop j c).symm
          rw [List.drop_eq_getElem_cons hjl] at b1
          have b2 : c[j] = z := by rw [List.getElem?_eq_getElem hjl] at hz; exact Option.some.inj hz
          rw [b2] at b1
          exact b1
        rw [a1, take_flat e2]
        exact congrArg (fun u => (css.take i).flatten ++ u ++ (css.drop (i + 1)).flatten) a2
      rw [split, List.append_assoc] at nd
      rw [List.nodup_append] at nd
      obtain ⟨_, nd2, nd3⟩ := nd
      rw [List.append_assoc, List.nodup_append] at nd2
      have n1 : ¬ z ∈ (css.take i).flatten := fun h => nd3 z h z (by simp) rfl
      have n2 : ¬ z ∈ c.take j := fun h => nd2.2.2 z h z (by simp) rfl
      refine ⟨_, rfl, _, rfl, _, rfl, d, _, rfl, DPut.k (k := Sum.inl z) hd4 ?_, ?_⟩
      · rw [num4.len]
        have h1 := take_flat_le css (i + 1)
        rw [take_flat e2, List.length_append] at h1
        have h2 : (c.take j).length ≤ c.length := by rw [List.length_take]; omega
        exact small1000 (by omega)
      · refine ⟨_, _, rfl, s4.upd2 hd0, upd_same, ?_⟩
        have := num4.put n1 n2
        rw [List.take_add_one, hz]
        exact this
    · rintro σ H3 ⟨v4, kvs, rfl, s4, hd4, num4⟩
      rw [List.length_map, List.take_length] at num4
      exact ⟨_, _, _, kvs, rfl, s4, hd4, num4.next e2⟩
  · rintro σ H2 ⟨v2, v3, v4, kvs, rfl, s2, hd2, num⟩
    rw [List.length_map, hL.1] at num
    have hlen : kvs.length = css.flatten.length := by rw [num.len, List.take_length]; simp
    refine ⟨_, rfl, d, kvs, rfl, hd2, _, rfl, by omega, by omega, ?_⟩
    rw [Int.toNat_natCast]
    refine comp_range (lo := 0) (n := kvs.length) (fun i zs τ H3 => ∃ (v : Option V) (labs : List Int), τ = [v, some (.ref d)] ∧ H3 = H2 ∧ zs = labs.map V.int ∧ labs.length = i ∧ ∀ (t k : Nat) (c : List Int), t < i → css[k]? = some c → (t : Int) ∈ c → labs[t]? = some (k : Int))
      ⟨none, [], rfl, rfl, rfl, rfl, fun t _ _ h => absurd h (Nat.not_lt_zero _)⟩ ?_ ?_ ?_
    · rintro i zs τ H3 hi ⟨v, labs, rfl, rfl, rfl, hl, _⟩
      exact small1000 (by rw [List.length_map]; omega)
    · rintro i zs τ H3 hi ⟨v, labs, rfl, rfl, rfl, hl, hlab⟩
      have hin : ((i : Nat) : Int) ∈ css.flatten := z4.mem_iff.mpr (Sh.mem_upto.mpr ⟨by omega, by omega⟩)
      obtain ⟨c, hc, hic⟩ := List.mem_flatten.mp hin
      obtain ⟨k, hk, ek⟩ := Sh.mem_ix hc
      have hv := num.old k c _ hk ek hic
      have hg := DGet.k (k := Sum.inl ((i : Nat) : Int)) hd2
      rw [hv] at hg
      refine ⟨_, rfl, _, rfl, d, _, rfl, (by rw [Int.zero_add]; exact hg), ?_⟩
      refine ⟨_, labs ++ [(k : Int)], rfl, rfl, by rw [List.map_append]; rfl, by rw [List.length_append, hl]; rfl, fun t k' c' ht ek' hc' => ?_⟩
      by_cases et : t = i
      · subst et
        have hv' := num.old k' c' _ ((List.getElem?_eq_some_iff.mp ek').1) ek' hc'
        rw [hv] at hv'
        have : (k : Int) = (k' : Int) := by
          have := Option.some.inj hv'
          injection this
        rw [← hl, List.getElem?_append_right (Nat.le_refl _), Nat.sub_self, ← this]
        rfl
      · rw [List.getElem?_append_left (by omega)]
        exact hlab t k' c' (by omega) ek' hc'
    · rintro zs τ H3 ⟨v, labs, rfl, rfl, rfl, hl, hlab⟩ D hD
      have s3 : Same H (upd H3 D (.lst (labs.map V.int))) := s2.upd2 (s2.free hD)
      refine ⟨D, _, labs, rfl, SqL.of upd_same, labs_int labs, by omega, fun D' H4 s4 f4 d4 => ?_⟩
      refine q D' labs H4 (s3.trans s4) (s3.free f4) ⟨by omega, fun t k c ek hc => ?_⟩ d4
      refine hlab t k c ?_ ek hc
      have : (t : Int) ∈ css.flatten := List.mem_flatten.mpr ⟨c, List.mem_of_getElem? ek, hc⟩
      have := (Sh.mem_upto.mp (z4.mem_iff.mp this)).2
      omega
end
def tS (i : Int) : Str := toString i
def shareT (c : List Int) : Str := Str.join " " (c.map tS)
def shownT (ns : List Int) : Str := Str.join "/" ((Sh.shs ns).map shareT)
def wr : List Str := (List.range 12).map fun (i : Nat) => tS (i : Int)
def rdW (x : Str) : Option Int := if x ∈ wr then some ((wr.idxOf x : Nat) : Int) else none
def RdS (p : Str) (c : List Int) : Prop := (Txt.split p " ").map rdW = c.map some
def RdA (t : Str) (css : List (List Int)) : Prop := (Txt.split t "/").length = css.length ∧ ∀ (i : Nat) (p : Str) (c : List Int), (Txt.split t "/")[i]? = some p → css[i]? = some c → RdS p c
theorem tS_len : ∀ i : Int, 0 ≤ i → i < 100 → (tS i).length ≤ 2 := fun i h0 h1 => by
  have g : ∀ k : _root_.Fin 100, (tS (k.val : Int)).length ≤ 2 := by decide +kernel
  have := g ⟨i.toNat, by omega⟩
  rw [show ((i.toNat : Nat) : Int) = i by omega] at this
  exact this
theorem share_len {c : List Int} (h : ∀ x ∈ c, 0 ≤ x ∧ x < 100) : ((c.map tS).map (·.length)).sum ≤ 2 * c.length := by
  induction c with
  | nil => simp
  | cons x c ih =>
    have h1 := tS_len x (h x (List.mem_cons_self ..)).1 (h x (List.mem_cons_self ..)).2
    have h2 := ih fun y hy => h y (List.mem_cons_of_mem _ hy)
    rw [List.map_cons, List.map_cons, List.sum_cons, List.length_cons]
    omega
theorem shareT_len {c : List Int} (h : ∀ x ∈ c, 0 ≤ x ∧ x < 100) : (shareT c).length ≤ 3 * c.length := by
  have h1 := StrLaws.join_length_le " " (c.map tS)
  have h2 := share_len h
  rw [List.length_map] at h1
  have : ((" " : Str).length) = 1 := by decide
  unfold shareT
  rw [this] at h1
  omega
theorem shares_lt {ns : List Int} (h12 : ns.length ≤ 12) : ∀ c ∈ Sh.shs ns, ∀ x ∈ c, 0 ≤ x ∧ x < 100 := fun c hc x hx => by
  obtain ⟨k, hk, rfl⟩ := Sh.mem_shs.mp hc
  obtain ⟨t, rfl, ht, _⟩ := Sh.mem_sh1.mp hx
  exact ⟨by omega, by omega⟩
theorem sum_shares : ∀ {css : List (List Int)}, (∀ c ∈ css, ∀ x ∈ c, 0 ≤ x ∧ x < 100) → ((css.map shareT).map (·.length)).sum ≤ 3 * css.flatten.length
  | [], _ => by simp
  | c :: css, h => by
    have h1 := shareT_len (h c (List.mem_cons_self ..))
    have h2 := sum_shares (css := css) fun d hd => h d (List.mem_cons_of_mem _ hd)
    rw [List.map_cons, List.map_cons, List.sum_cons, List.flatten_cons, List.length_append]
    omega
def spShownS (K : PySem.W.Frag) : Sp := fun vs H Q _ => ∃ (a : Addr) (c : List Int), vs = [.ref a] ∧ SqL K H a (c.map V.int) ∧ (∀ x ∈ c, 0 ≤ x ∧ x < 100) ∧ c.length ≤ 100 ∧ ∀ H', Same H H' → Q (.str (shareT c)) H'
def spShown (K : PySem.W.Frag) : Sp := fun vs H Q _ => ∃ (a : Addr) (ns : List Int), vs = [.ref a] ∧ SqL K H a (ns.map V.int) ∧ Sh.isSh ns = true ∧ ∀ H', Same H H' → Q (.str (shownT ns)) H'
def spReadS1 (K : PySem.W.Frag) (CR : Addr) : Sp := fun vs H Q E => ∃ p : Str, vs = [.str p] ∧ p.length ≤ 200 ∧ (∀ (c : List Int) (D : Addr) (H' : Hp), RdS p c → Same H H' → H D = none → H' D = some (.lst (c.map V.int)) → Q (.ref D) H') ∧ ((¬ ∃ c, RdS p c) → ∀ H', Same H H' → E (.ref CR) none H')
def spRead1 (K : PySem.W.Frag) (CR : Addr) : Sp := fun vs H Q E => ∃ t : Str, vs = [.str t] ∧ t.length ≤ 200 ∧ (∀ (css : List (List Int)) (labs : List Int) (D : Addr) (H' : Hp), RdA t css → Sh.Shs css → Sh.Labs css labs → shownT (Sh.mk labs) = t → Same H H' → H D = none → H' D = some (.lst ((Sh.mk labs).map V.int)) → Q (.ref D) H') ∧
  ((¬ ∃ css labs, RdA t css ∧ Sh.Shs css ∧ Sh.Labs css labs ∧ shownT (Sh.mk labs) = t) → ∀ H', Same H H' → E (.ref CR) none H')
section
variable {P : Program} {w : World} {K : PySem.W.Frag} {mg : Str → Option Value} {base : Heap}
theorem nd_th : (["thing"] : List Str).Nodup := by decide +kernel
theorem nd_sh' : (["share"] : List Str).Nodup := by decide +kernel
theorem nd_pt : (["part"] : List Str).Nodup := by decide +kernel
theorem boot_str1 : bootBuiltins "str" = some (.type "str") := by decide +kernel
theorem log_small {i : Int} (h0 : 0 ≤ i) (h : i < 100) : i.natAbs.log2 < 1920 := by
  have h1 : i.natAbs < 2 ^ 7 := by omega
  by_cases z : i.natAbs = 0
  · rw [z]; decide
  · have := (Nat.log2_lt z).mpr h1
    omega
theorem scShownS : FnScope ["share"] ["share"] (defScope sShownS) := ⟨rfl, rfl, rfl, by decide +kernel, rfl, by decide +kernel, by decide +kernel⟩
theorem ok_showns {f : Addr} {fd : FuncData} (F : Fun K "shown_share" "shown_share" sShownS f fd) (mst : mg "str" = none) : FnOk P w K mg base CX0 1 f fd ["share"] (spShownS K) := by
  refine F.ok scShownS (fun vs H Q E h => ?_) (fun cdv A outer s H vs Q E hr h => ?_)
  · obtain ⟨a, c, rfl, _⟩ := h
    rfl
  obtain ⟨a, c, rfl, hS, hc, hl, q⟩ := h
  refine ⟨_, pss_one (ps_ret (pe_bm PySem.F.plainAttrs_str PySem.F.slot_str_join PySem.F.type_str_join mt_join pe_str (pa_cons (pe_comp ["thing"] [none] rfl rfl (pi_list (pv 0)) (fun _ _ _ _ => pg_name (i := 0) nd_th rfl (Or.inl rfl)) (fun _ _ _ _ => pts_nil)
    (fun _ _ _ _ => pe_callTy call_str_int rfl mst boot_str1 (pa_cons (pv 0) pa_nil))) pa_nil))), ?_⟩
  refine ⟨rfl, _, rfl, a, rfl, ⟨_, hS⟩, comp_list (K := K) (a := a) (xs := c.map V.int) (fun i zs τ H2 => ∃ v, τ = [v] ∧ H2 = H ∧ zs = ((c.take i).map tS).map V.str) ⟨none, rfl, rfl, rfl⟩ ?_ ?_ ?_⟩
  · rintro i zs τ H2 hi ⟨v, rfl, rfl, rfl⟩
    exact ⟨hS, small1000 (by rw [List.length_map, List.length_map, List.length_take]; omega)⟩
  · rintro i x zs τ H2 hi ⟨v, rfl, rfl, rfl⟩
    obtain ⟨z, hz, rfl⟩ := ints_get hi
    obtain ⟨z0, z1⟩ := hc z (List.mem_of_getElem? hz)
    refine ⟨_, rfl, z, rfl, log_small z0 z1, _, rfl, rfl, ?_⟩
    rw [List.take_add_one, hz, List.map_append, List.map_append]
    rfl
  · rintro zs τ H2 ⟨v, rfl, rfl, rfl⟩ D hD
    rw [List.length_map, List.take_length]
    have h2 := share_len hc
    refine ⟨_, D, c.map tS, rfl, rfl, SqL.of upd_same, ?_, q _ (same_upd hD _)⟩
    rw [List.length_map, show ((" " : Str).length) = 1 by decide]
    omega
theorem scShown : FnScope ["one"] ["one"] (defScope sShown) := ⟨rfl, rfl, rfl, by decide +kernel, rfl, by decide +kernel, by decide +kernel⟩
theorem ok_shown {f : Addr} {fd : FuncData} (F : Fun K "shown" "shown" sShown f fd) (GS : Fn P w K mg base "shares_of" ["one"] 4 (spShares K)) (GH : Fn P w K mg base "shown_share" ["share"] 1 (spShownS K)) : FnOk P w K mg base CX0 5 f fd ["one"] (spShown K) := by
  refine F.ok scShown (fun vs H Q E h => ?_) (fun cdv A outer s H vs Q E hr h => ?_)
  · obtain ⟨a, ns, rfl, _⟩ := h
    rfl
  obtain ⟨a, ns, rfl, hS, hg, q⟩ := h
  obtain ⟨hc, l1, l12⟩ := Sh.isSh_can hg
  have hr1 : Room 1 _ := hr.mono (by decide)
  refine ⟨_, pss_one (ps_ret (pe_bm PySem.F.plainAttrs_str PySem.F.slot_str_join PySem.F.type_str_join mt_join pe_str (pa_cons (pe_comp ["share"] [none] rfl rfl (pi_list (pe_fn GS hr (pa_cons (pv 0) pa_nil))) (fun _ _ _ _ => pg_name (i := 0) nd_sh' rfl (Or.inl rfl)) (fun _ _ _ _ => pts_nil)
    (fun _ _ _ _ => pe_fn GH hr1 (pa_cons (pv 0) pa_nil))) pa_nil))), ?_⟩
  have hfl : (Sh.shs ns).length ≤ 12 := by
    rw [Sh.shs_len]
    have := (Sh.fr_mk ns).1
    rw [Sh.mk_can hc] at this
    have := Sh.length_dd_le ns
    omega
  have hflat : (Sh.shs ns).flatten.length ≤ 12 := by rw [(Sh.shs_flat hc).length_eq, Sh.length_upto]; omega
  refine ⟨rfl, _, rfl, a, ns, rfl, hS, hg, fun D as H1 s1 fD dD nd nDa fr ll => ?_⟩
  refine ⟨D, rfl, ⟨_, SqL.of dD⟩, comp_list (K := K) (a := D) (xs := as.map V.ref) (fun i zs τ H2 => ∃ v, τ = [v] ∧ Same H1 H2 ∧ zs = (((Sh.shs ns).take i).map shareT).map V.str) ⟨none, rfl, Same.refl H1, rfl⟩ ?_ ?_ ?_⟩
  · rintro i zs τ H2 hi ⟨v, rfl, s2, rfl⟩
    exact ⟨SqL.of (s2 _ _ dD), small1000 (by rw [List.length_map, List.length_map, List.length_take]; omega)⟩
  · rintro i x zs τ H2 hi ⟨v, rfl, s2, rfl⟩
    obtain ⟨p, c, rfl, e1, e2, e3⟩ := ll.at hi
    have hcm := List.mem_of_getElem? e2
    have hcl : c.length ≤ (Sh.shs ns).flatten.length := by
      have := (List.sublist_flatten_of_mem hcm).length_le
      exact this
    refine ⟨_, rfl, p, c, rfl, SqL.of (s2 _ _ e3), shares_lt l12 c hcm, by omega, fun H3 s3 => ?_⟩
    refine ⟨_, rfl, s2.trans s3, ?_⟩
    rw [List.take_add_one, e2, List.map_append, List.map_append]
    rfl
  · rintro zs τ H2 ⟨v, rfl, s2, rfl⟩ D2 hD2
    rw [List.length_map, ll.1, List.take_length]
    have hsum := sum_shares (shares_lt (ns := ns) l12)
    refine ⟨_, D2, (Sh.shs ns).map shareT, rfl, rfl, SqL.of upd_same, ?_, q _ (s1.trans (s2.trans (same_upd hD2 _)))⟩
    rw [List.length_map, show (("/" : Str).length) = 1 by decide]
    omega
theorem scReadS : FnScope ["part", "written", "share", "word"] ["part"] (defScope sReadS) := ⟨rfl, rfl, rfl, by decide +kernel, rfl, by decide +kernel, by decide +kernel⟩
theorem in_wr (x : Str) : inV (.str x) (wr.map V.str) = decide (x ∈ wr) := by
  unfold inV
  rw [Bool.eq_iff_iff, List.any_eq_true, decide_eq_true_iff]
  constructor
  · rintro ⟨y, hy, e⟩
    obtain ⟨z, hz, rfl⟩ := List.mem_map.mp hy
    have : z = x := by simpa [eqV] using e
    rw [← this]
    exact hz
  · intro h
    exact ⟨.str x, List.mem_map.mpr ⟨x, h, rfl⟩, by simp [eqV]⟩
theorem flat_strs (ts : List Str) : (ts.map V.str).all flatV = true := by
  rw [List.all_eq_true]
  intro x hx
  obtain ⟨z, _, rfl⟩ := List.mem_map.mp hx
  rfl
theorem ok_reads1 {CR : Addr} (hq : PySem.W.excIn K CR bmVE "ValueError.__new__" = true) (mR : mg "NotRead" = some (.ref CR)) {f : Addr} {fd : FuncData} (F : Fun K "read_share" "read_share" sReadS f fd) (mst : mg "str" = none) (mr : mg "range" = none) {tk : Tok} (mt : mg "MOST_THINGS" = some (.int 12 tk)) : FnOk P w K mg base (CX1 P w) 1 f fd ["part"] (spReadS1 K CR) := by
  refine F.ok1 scReadS (fun vs H Q E h => ?_) (fun cdv A outer s H vs Q E hr h => ?_)
  · obtain ⟨p, rfl, _⟩ := h
    rfl
  obtain ⟨p, rfl, hp, q, qE⟩ := h
  have hu := hu_of hr
  refine ⟨_, pss_cons (ps_comp (k := 1) ["thing"] [none] rfl rfl scReadS.nd rfl (Or.inl rfl) (pi_range1 rfl mr (pa_cons (pe_glob (v := .int 12) rfl mt ⟨_, rfl⟩) pa_nil)) (fun _ _ _ _ => pg_name (i := 0) nd_th rfl (Or.inl rfl)) (fun _ _ _ _ => pts_nil) (fun _ _ _ _ => pe_callTy call_str_int rfl mst boot_str1 (pa_cons (pv 0) pa_nil)))
    (pss_cons (ps_set (i := 2) scReadS.nd rfl (Or.inl rfl) (pe_lst pa_nil))
    (pss_cons (ps_for PassesOwn.leaving rfl (pi_list (pe_bm PySem.F.plainAttrs_str PySem.F.slot_str_split PySem.F.type_str_split mt_split (pv 0) (pa_cons pe_str pa_nil))) (pg_name (i := 3) scReadS.nd rfl (Or.inl rfl))
      (pss_cons (ps_if (pt_cmpR op_notIn_seq (pv 3) (pv 1) rfl) (pss_one (ps_raise hq rfl mR (pa_cons pe_str pa_nil))) pss_nil)
      (pss_one (ps_expr (pe_bm PySem.F.plainAttrs_list PySem.F.slot_list_append PySem.F.type_list_append mt_append (pv 2) (pa_cons (pe_bm PySem.F.plainAttrs_list PySem.F.slot_list_index PySem.F.type_list_index (mt_index (labStr K) hu) (pv 1) (pa_cons (pv 3) pa_nil)) pa_nil))))))
    (pss_one (ps_ret (pv 2))))), ?_⟩
  refine ⟨_, rfl, by decide, by decide, ?_⟩
  refine comp_range (lo := 0) (n := 12) (fun i zs τ H2 => ∃ v, τ = [v] ∧ H2 = H ∧ zs = ((List.range i).map fun (k : Nat) => tS (k : Int)).map V.str) ⟨none, rfl, rfl, rfl⟩ ?_ ?_ ?_
  · rintro i zs τ H2 hi ⟨v, rfl, rfl, rfl⟩
    exact small1000 (by rw [List.length_map, List.length_map, List.length_range]; omega)
  · rintro i zs τ H2 hi ⟨v, rfl, rfl, rfl⟩
    rw [Int.zero_add]
    refine ⟨_, rfl, (i : Int), rfl, log_small (by omega) (by omega), _, rfl, rfl, ?_⟩
    rw [List.range_succ, List.map_append, List.map_append]
    rfl
  rintro zs τ H2 ⟨v, rfl, rfl, rfl⟩ W hW
  refine ⟨(by show 0 ≤ sizeLine; decide), fun sh hsh => ?_⟩
  have s1 : Same H2 (upd (upd H2 W (.lst (wr.map V.str))) sh (.lst [])) := (same_upd hW _).trans (same_upd hsh _)
  have gW : (upd (upd H2 W (.lst (wr.map V.str))) sh (.lst [])) W = some (.lst (wr.map V.str)) := same_upd hsh _ _ _ upd_same
  have gs : (upd (upd H2 W (.lst (wr.map V.str))) sh (.lst [])) sh = some (.lst (([] : List Int).map V.int)) := upd_same
  have hsh0 : H2 sh = none := (same_upd hW (.lst (wr.map V.str))).free hsh
  have nWs : W ≠ sh := fun e => by subst e; rw [upd_same] at hsh; cases hsh
  have hsl := split_le p (" " : Str)
  refine ⟨_, rfl, rfl, p, (" " : Str), rfl, rfl, by decide, by omega, fun L hL => ?_⟩
  have sL := same_upd hL (.lst ((Txt.split p " ").map V.str))
  refine ⟨L, rfl, ⟨_, SqL.of upd_same⟩, for_list (K := K) (a := L) (xs := (Txt.split p " ").map V.str) (fun i σ H3 => ∃ (c : List Int) (v : Option V), σ = [some (.str p), some (.ref W), some (.ref sh), v] ∧ Same H2 H3 ∧ H3 L = some (.lst ((Txt.split p " ").map V.str)) ∧ H3 W = some (.lst (wr.map V.str)) ∧ H3 sh = some (.lst (c.map V.int)) ∧ ((Txt.split p " ").take i).map rdW = c.map some)
    ⟨[], none, rfl, s1.trans sL, upd_same, sL _ _ gW, sL _ _ gs, rfl⟩ (fun i σ H3 _ ⟨_, _, _, _, hl, _⟩ => SqL.of hl) ?_ ?_⟩
  · rintro i x σ H3 hi ⟨c, v, rfl, s3, hl3, hW3, hs3, hm⟩
    rw [List.getElem?_map] at hi
    cases ew : (Txt.split p " ")[i]? with
    | none => rw [ew] at hi; cases hi
    | some x' =>
      rw [ew] at hi
      cases hi
      have hil := (List.getElem?_eq_some_iff.mp ew).1
      have hcl : c.length = i := by
        have := congrArg List.length hm
        rw [List.length_map, List.length_map, List.length_take] at this
        omega
      refine ⟨_, rfl, _, rfl, W, _, rfl, .inl (SqL.of hW3), rfl, flat_strs wr, _, rfl, ?_⟩
      rw [in_wr]
      by_cases cw : x' ∈ wr
      · rw [decide_eq_true cw]
        refine iteF ?_
        have ei : rdW x' = some ((wr.idxOf x' : Nat) : Int) := if_pos cw
        refine ⟨_, rfl, .inl ⟨rfl, _, SqL.of hs3⟩, _, rfl, .inl ⟨rfl, _, SqL.of hW3⟩, _, rfl, W, _, wr, x', .str x', rfl, rfl, SqL.of hW3, labs_str wr, rfl, cw, ?_⟩
        refine ⟨sh, _, _, rfl, rfl, hs3, small1000 (by rw [List.length_map]; omega), ?_⟩
        have nLs : L ≠ sh := (ne_of_none gs hL).symm
        refine ⟨c ++ [((wr.idxOf x' : Nat) : Int)], _, rfl, s3.upd2 hsh0, by rw [upd_ne nLs]; exact hl3, by rw [upd_ne nWs]; exact hW3, by rw [upd_same, List.map_append]; rfl, ?_⟩
        rw [List.take_add_one, ew, List.map_append, List.map_append, hm]
        show _ ++ [rdW x'] = _ ++ [some _]
        rw [ei]
      · rw [decide_eq_false cw]
        refine iteT ?_
        refine ⟨(by show 1 ≤ sizeLine; decide), qE ?_ _ s3⟩
        rintro ⟨c', hc'⟩
        have h1 : (Txt.split p " ")[i]?.map rdW = c'[i]?.map some := by rw [← List.getElem?_map, ← List.getElem?_map, hc']
        rw [ew] at h1
        have h2 : rdW x' = none := if_neg cw
        cases e3 : c'[i]? with
        | none => rw [e3] at h1; cases h1
        | some y =>
          rw [e3] at h1
          have := Option.some.inj h1
          rw [h2] at this
          cases this
  · rintro σ H3 ⟨c, v, rfl, s3, hl3, hW3, hs3, hm⟩
    rw [List.length_map, List.take_length] at hm
    exact ⟨_, rfl, q c sh H3 hm s3 hsh0 hs3⟩
end
theorem flat_bound : ∀ (ps : List Str) (css : List (List Int)), ps.length = css.length → (∀ (i : Nat) (p : Str) (c : List Int), ps[i]? = some p → css[i]? = some c → RdS p c) → css.flatten.length ≤ (ps.map (·.length)).sum + ps.length
  | [], [], _, _ => by simp
  | [], _ :: _, h, _ => by simp at h
  | _ :: _, [], h, _ => by simp at h
  | p :: ps, c :: css, h, r => by
    have h1 := r 0 p c rfl rfl
    have h2 : c.length = (Txt.split p " ").length := by
      have := congrArg List.length h1
      rw [List.length_map, List.length_map] at this
      exact this.symm
    have h3 := split_weight p (" " : Str) (by decide)
    have h4 := flat_bound ps css (by simpa using h) fun i q d e1 e2 => r (i + 1) q d e1 e2
    rw [List.flatten_cons, List.length_append, List.map_cons, List.sum_cons, List.length_cons]
    omega
section
variable {P : Program} {w : World} {K : PySem.W.Frag} {mg : Str → Option Value} {base : Heap}
theorem scRead : FnScope ["text", "shares", "marks"] ["text"] (defScope sRead) := ⟨rfl, rfl, rfl, by decide +kernel, rfl, by decide +kernel, by decide +kernel⟩
theorem ok_read1 {CR CN : Addr} (hq : PySem.W.excIn K CR bmVE "ValueError.__new__" = true) (mR : mg "NotRead" = some (.ref CR)) {f : Addr} {fd : FuncData} (F : Fun K "read" "read" sRead f fd) (GS : Fn1 P w K mg base "read_share" ["part"] 1 (spReadS1 K CR)) (GA : Fn P w K mg base "are_shares" ["shares"] 2 (spAre K)) (GM : Fn1 P w K mg base "marks_of" ["shares"] 3 (spMarks1 K CN)) (GW : Fn P w K mg base "shown" ["one"] 5 (spShown K)) : FnOk P w K mg base (CX1 P w) 6 f fd ["text"] (spRead1 K CR) := by
  refine F.ok1 scRead (fun vs H Q E h => ?_) (fun cdv A outer s H vs Q E hr h => ?_)
  · obtain ⟨t, rfl, _⟩ := h
    rfl
  obtain ⟨t, rfl, ht, q, qE⟩ := h
  have hr1 : Room 1 _ := hr.mono (by decide)
  refine ⟨_, pss_cons (ps_comp1 (k := 1) ["part"] [none] rfl scRead.nd rfl (Or.inl rfl) (pi_list (pe_bm PySem.F.plainAttrs_str PySem.F.slot_str_split PySem.F.type_str_split mt_split (pv 0) (pa_cons pe_str pa_nil))) (fun _ _ _ _ => pg_name (i := 0) nd_pt rfl (Or.inl rfl)) (fun _ _ _ _ => pts_nil) (fun _ _ _ _ => pe_fn1c GS hr1 (pa_cons (pv 0) pa_nil)))
    (pss_cons (ps_if (pt_not (pt_val (pe_fn GA (hr.mono (by decide)) (pa_cons (pv 1) pa_nil)))) (pss_one (ps_raise hq rfl mR (pa_cons pe_str pa_nil))) pss_nil)
    (pss_cons (ps_set (i := 2) scRead.nd rfl (Or.inl rfl) (pe_fn1 GM (hr.mono (by decide)) (pa_cons (pv 1) pa_nil)))
    (pss_cons (ps_if (pt_cmpR op_ne (pe_fn GW hr (pa_cons (pv 2) pa_nil)) (pv 0) (nomark _)) (pss_one (ps_raise hq rfl mR (pa_cons pe_str pa_nil))) pss_nil)
    (pss_one (ps_ret (pv 2)))))), ?_⟩
  have hsl := split_weight t ("/" : Str) (by decide)
  refine ⟨_, rfl, rfl, t, ("/" : Str), rfl, rfl, by decide, by omega, fun L hL => ?_⟩
  have sL := same_upd hL (.lst ((Txt.split t "/").map V.str))
  refine ⟨L, rfl, ⟨_, SqL.of upd_same⟩, comp_list (K := K) (a := L) (xs := (Txt.split t "/").map V.str) (fun i zs τ H2 => ∃ (v : Option V) (as : List Addr) (css : List (List Int)), τ = [v] ∧ Same H H2 ∧ H2 L = some (.lst ((Txt.split t "/").map V.str)) ∧ zs = as.map V.ref ∧ LL H2 as css ∧ css.length = i ∧ ∀ (j : Nat) (p : Str) (c : List Int), (Txt.split t "/")[j]? = some p → css[j]? = some c → RdS p c)
    ⟨none, [], [], rfl, sL, upd_same, rfl, ⟨rfl, fun k p c e => by simp at e⟩, rfl, fun j p c _ e => by simp at e⟩ ?_ ?_ ?_⟩
  · rintro i zs τ H2 hi ⟨v, as, css, rfl, s2, hL2, rfl, ll, hc, hrd⟩
    rw [List.length_map] at hi
    exact ⟨SqL.of hL2, small1000 (by rw [List.length_map, ll.1]; omega)⟩
  · rintro i x zs τ H2 hi ⟨v, as, css, rfl, s2, hL2, rfl, ll, hc, hrd⟩
    rw [List.getElem?_map] at hi
    cases ep : (Txt.split t "/")[i]? with
    | none => rw [ep] at hi; cases hi
    | some p =>
      rw [ep] at hi
      cases hi
      have hpl := part_short (List.mem_of_getElem? ep)
      refine ⟨_, rfl, p, rfl, by omega, fun c D H3 rd s3 f3 d3 => ?_, fun nr H3 s3 => ?_⟩
      · refine ⟨_, as ++ [D], css ++ [c], rfl, s2.trans s3, s3 _ _ hL2, by rw [List.map_append]; rfl, (ll.mono s3).snoc d3, by rw [List.length_append, hc]; rfl, fun j p' c' e1 e2 => ?_⟩
        by_cases hj : j < css.length
        · rw [List.getElem?_append_left hj] at e2
          exact hrd j p' c' e1 e2
        · have hj' : j < (css ++ [c]).length := (List.getElem?_eq_some_iff.mp e2).1
          have ej : j = css.length := by rw [List.length_append, List.length_singleton] at hj'; omega
          subst ej
          rw [List.getElem?_append_right (Nat.le_refl _), Nat.sub_self] at e2
          have e2' : c = c' := by simpa using e2
          rw [hc, ep] at e1
          cases e1
          subst e2'
          exact rd
      · refine qE ?_ H3 (s2.trans s3)
        rintro ⟨css', labs, ⟨hl, hr'⟩, _⟩
        have hi' := (List.getElem?_eq_some_iff.mp ep).1
        exact nr ⟨_, hr' i p _ ep (List.getElem?_eq_getElem (by omega))⟩
  rintro zs τ H2 ⟨v, as, css, rfl, s2, hL2, rfl, ll, hc, hrd⟩ D hD
  rw [List.length_map] at hc
  have rdA : RdA t css := ⟨hc.symm, hrd⟩
  have hflat := flat_bound _ css hc.symm hrd
  have sD := same_upd hD (.lst (as.map V.ref))
  have llD := ll.mono sD
  have s3 := s2.trans sD
  refine ⟨_, rfl, D, as, css, rfl, upd_same, llD, by omega, fun b H4 hb s4 => ⟨_, rfl, ?_⟩⟩
  refine ite2 (fun c => ?_) (fun c => ?_)
  · have nb : ¬ Sh.Shs css := fun z => by rw [hb.mpr z] at c; cases c
    refine ⟨(by show 1 ≤ sizeLine; decide), qE ?_ H4 (s3.trans s4)⟩
    rintro ⟨css', labs, ⟨hl, hr'⟩, hs', _⟩
    have e : css' = css := by
      refine List.ext_getElem? fun i => ?_
      by_cases hi : i < css.length
      · have hp : i < (Txt.split t "/").length := by omega
        have e1 := hr' i _ _ (List.getElem?_eq_getElem hp) (List.getElem?_eq_getElem (by omega))
        have e2 := hrd i _ _ (List.getElem?_eq_getElem hp) (List.getElem?_eq_getElem hi)
        unfold RdS at e1 e2
        rw [e1] at e2
        rw [List.getElem?_eq_getElem hi, List.getElem?_eq_getElem (by omega)]
        congr 1
        exact (List.map_inj_right (fun a b h => Option.some.inj h)).mp e2
      · rw [List.getElem?_eq_none (by omega), List.getElem?_eq_none (by omega)]
    rw [e] at hs'
    exact nb hs'
  · have hsh : Sh.Shs css := hb.mp (by cases b with | true => rfl | false => exact absurd rfl c)
    refine ⟨_, rfl, D, as, css, rfl, s4 _ _ upd_same, llD.mono s4, by omega, fun _ M labs H5 s5 f5 lab d5 => ?_, fun nsh => absurd hsh nsh⟩
    obtain ⟨z1, z2, z3, z4⟩ := id hsh
    have l1 : labs.length = css.flatten.length := lab.1
    have ish : Sh.isSh (Sh.mk labs) = true := Sh.isSh_of (Sh.can_mk labs) (by rw [Sh.length_mk]; omega) (by rw [Sh.length_mk]; omega)
    refine ⟨_, rfl, M, Sh.mk labs, rfl, SqL.of d5, ish, fun H6 s6 => ?_⟩
    refine ⟨_, rfl, rfl, _, rfl, ?_⟩
    have fM : H M = none := (s3.trans s4).free f5
    by_cases e : shownT (Sh.mk labs) = t
    · rw [decide_eq_true (by rw [e])]
      refine iteF ?_
      exact ⟨_, rfl, q css labs M H6 rdA hsh lab e (s3.trans (s4.trans (s5.trans s6))) fM (s6 _ _ d5)⟩
    · rw [decide_eq_false (fun z => e (by injection z))]
      refine iteT ?_
      refine ⟨(by show 1 ≤ sizeLine; decide), qE ?_ H6 (s3.trans (s4.trans (s5.trans s6)))⟩
      rintro ⟨css', labs', ⟨hl, hr'⟩, hs', lab', e'⟩
      have ec : css' = css := by
        refine List.ext_getElem? fun i => ?_
        by_cases hi : i < css.length
        · have hp : i < (Txt.split t "/").length := by omega
          have e1 := hr' i _ _ (List.getElem?_eq_getElem hp) (List.getElem?_eq_getElem (by omega))
          have e2 := hrd i _ _ (List.getElem?_eq_getElem hp) (List.getElem?_eq_getElem hi)
          unfold RdS at e1 e2
          rw [e1] at e2
          rw [List.getElem?_eq_getElem hi, List.getElem?_eq_getElem (by omega)]
          congr 1
          exact (List.map_inj_right (fun a b h => Option.some.inj h)).mp e2
        · rw [List.getElem?_eq_none (by omega), List.getElem?_eq_none (by omega)]
      subst ec
      have el : labs' = labs := by
        refine List.ext_getElem? fun i => ?_
        by_cases hi : i < css'.flatten.length
        · have hin : ((i : Nat) : Int) ∈ css'.flatten := z4.mem_iff.mpr (Sh.mem_upto.mpr ⟨by omega, by omega⟩)
          obtain ⟨c, hc', hic⟩ := List.mem_flatten.mp hin
          obtain ⟨k, hk, ek⟩ := Sh.mem_ix hc'
          rw [lab.2 i k c ek hic, lab'.2 i k c ek hic]
        · rw [List.getElem?_eq_none (by rw [lab'.1]; omega), List.getElem?_eq_none (by omega)]
      rw [el] at e'
      exact e e'
end
theorem cut_inj {c : Nat} : ∀ {a b X Y : List Nat}, ¬ c ∈ a → ¬ c ∈ b → a ++ c :: X = b ++ c :: Y → a = b ∧ X = Y
  | [], [], X, Y, _, _, h => ⟨rfl, (List.cons.inj h).2⟩
  | [], y :: b, X, Y, _, hb, h => absurd (List.mem_cons.mpr (.inl (List.cons.inj h).1)) hb
  | x :: a, [], X, Y, ha, _, h => absurd (List.mem_cons.mpr (.inl (List.cons.inj h).1.symm)) ha
  | x :: a, y :: b, X, Y, ha, hb, h => by
    obtain ⟨e1, e2⟩ := List.cons.inj h
    obtain ⟨e3, e4⟩ := cut_inj (fun z => ha (List.mem_cons_of_mem _ z)) (fun z => hb (List.mem_cons_of_mem _ z)) e2
    exact ⟨by rw [e1, e3], e4⟩
def jl (c : Nat) : List (List Nat) → List Nat
  | [] => []
  | [a] => a
  | a :: b :: r => a ++ c :: jl c (b :: r)
theorem jl_mem {c d : Nat} : ∀ {A : List (List Nat)}, d ∈ jl c A → d = c ∨ ∃ a ∈ A, d ∈ a
  | [], h => by simp [jl] at h
  | [a], h => .inr ⟨a, by simp, h⟩
  | a :: b :: r, h => by
    rcases List.mem_append.mp h with h | h
    · exact .inr ⟨a, by simp, h⟩
    · rcases List.mem_cons.mp h with h | h
      · exact .inl h
      · rcases jl_mem h with h | ⟨x, hx, hd⟩
        · exact .inl h
        · exact .inr ⟨x, List.mem_cons_of_mem _ hx, hd⟩
theorem jl_inj {c : Nat} : ∀ {A B : List (List Nat)}, A ≠ [] → B ≠ [] → (∀ a ∈ A, ¬ c ∈ a) → (∀ b ∈ B, ¬ c ∈ b) → jl c A = jl c B → A = B
  | [], _, h, _, _, _, _ => absurd rfl h
  | _, [], _, h, _, _, _ => absurd rfl h
  | [a], [b], _, _, _, _, e => by rw [show a = b from e]
  | [a], b :: b' :: r, _, _, ha, _, e => absurd (by rw [show a = b ++ c :: jl c (b' :: r) from e]; simp) (ha a (by simp))
  | a :: a' :: r, [b], _, _, _, hb, e => absurd (by rw [show b = a ++ c :: jl c (a' :: r) from e.symm]; simp) (hb b (by simp))
  | a :: a' :: r, b :: b' :: r', _, _, ha, hb, e => by
    obtain ⟨e1, e2⟩ := cut_inj (ha a (by simp)) (hb b (by simp)) e
    have := jl_inj (A := a' :: r) (B := b' :: r') (by simp) (by simp) (fun x hx => ha x (List.mem_cons_of_mem _ hx)) (fun x hx => hb x (List.mem_cons_of_mem _ hx)) e2
    rw [e1, this]
def cl1 (p : Str) : List Nat := p.cps.toList
theorem join_jl (c : Nat) : ∀ ps : List Str, cl1 (Str.join ⟨#[c]⟩ ps) = jl c (ps.map cl1)
  | [] => rfl
  | [a] => rfl
  | a :: b :: r => by
    have ih := join_jl c (b :: r)
    show cl1 (a ++ ⟨#[c]⟩ ++ Str.join ⟨#[c]⟩ (b :: r)) = cl1 a ++ c :: jl c ((b :: r).map cl1)
    rw [← ih]
    show (a.cps ++ #[c] ++ (Str.join ⟨#[c]⟩ (b :: r)).cps).toList = _
    rw [Array.toList_append, Array.toList_append]
    show a.cps.toList ++ [c] ++ (Str.join ⟨#[c]⟩ (b :: r)).cps.toList = a.cps.toList ++ c :: (Str.join ⟨#[c]⟩ (b :: r)).cps.toList
    simp
theorem cl1_inj {a b : Str} (h : cl1 a = cl1 b) : a = b := Str.ext' (by rw [← Array.toList_inj]; exact h)
theorem split_ne (x y : Str) : Txt.split x y ≠ [] := by
  intro e
  have h := StrLaws.join_split x y
  unfold Txt.split at e
  split at e
  · cases e
  · split at e
    · cases e
    · rw [StrLaws.partsBetween_eq] at e
      obtain ⟨p, r, e'⟩ := StrLaws.partsFrom_ne x y.length 0 _
      rw [e'] at e
      cases e
theorem split_join {c : Nat} {ps : List Str} (hne : ps ≠ []) (hf : ∀ p ∈ ps, ¬ c ∈ cl1 p) : Txt.split (Str.join ⟨#[c]⟩ ps) ⟨#[c]⟩ = ps := by
  have h1 := StrLaws.join_split (Str.join ⟨#[c]⟩ ps) ⟨#[c]⟩
  have h2 := StrLaws.split_free (Str.join ⟨#[c]⟩ ps) c
  have h3 := congrArg cl1 h1
  rw [join_jl, join_jl] at h3
  have h4 := jl_inj (by intro z; exact split_ne _ _ (List.map_eq_nil_iff.mp z)) (by intro z; exact hne (List.map_eq_nil_iff.mp z))
    (by intro a ha; obtain ⟨p, hp, rfl⟩ := List.mem_map.mp ha; exact h2 p hp) (by intro a ha; obtain ⟨p, hp, rfl⟩ := List.mem_map.mp ha; exact hf p hp) h3
  exact (List.map_inj_right fun a b e => cl1_inj e).mp h4
theorem sl_eq : ("/" : Str) = ⟨#[47]⟩ := by decide +kernel
theorem sp_eq : (" " : Str) = ⟨#[32]⟩ := by decide +kernel
theorem tS_free {i : Int} (h0 : 0 ≤ i) (h1 : i < 12) : ¬ 32 ∈ cl1 (tS i) ∧ ¬ 47 ∈ cl1 (tS i) ∧ rdW (tS i) = some i := by
  have g : ∀ k : _root_.Fin 12, ¬ 32 ∈ cl1 (tS (k.val : Int)) ∧ ¬ 47 ∈ cl1 (tS (k.val : Int)) ∧ rdW (tS (k.val : Int)) = some (k.val : Int) := by decide +kernel
  have := g ⟨i.toNat, by omega⟩
  rw [show ((i.toNat : Nat) : Int) = i by omega] at this
  exact this
theorem rdS_share {c : List Int} (hne : c ≠ []) (hb : ∀ x ∈ c, 0 ≤ x ∧ x < 12) : RdS (shareT c) c := by
  unfold RdS shareT
  rw [sp_eq, split_join (by intro z; exact hne (List.map_eq_nil_iff.mp z)) (by intro p hp; obtain ⟨x, hx, rfl⟩ := List.mem_map.mp hp; exact (tS_free (hb x hx).1 (hb x hx).2).1), List.map_map]
  exact List.map_congr_left fun x hx => (tS_free (hb x hx).1 (hb x hx).2).2.2
theorem shareT_free {c : List Int} (hb : ∀ x ∈ c, 0 ≤ x ∧ x < 12) : ¬ 47 ∈ cl1 (shareT c) := fun z => by
  unfold shareT at z
  rw [sp_eq, join_jl] at z
  rcases jl_mem z with h | ⟨a, ha, hd⟩
  · cases h
  · obtain ⟨p, hp, rfl⟩ := List.mem_map.mp ha
    obtain ⟨x, hx, rfl⟩ := List.mem_map.mp hp
    exact (tS_free (hb x hx).1 (hb x hx).2).2.1 hd
theorem rdA_shown {ns : List Int} (h : Sh.isSh ns = true) : RdA (shownT ns) (Sh.shs ns) := by
  obtain ⟨hcan, l1, l2⟩ := Sh.isSh_can h
  have hb : ∀ c ∈ Sh.shs ns, ∀ x ∈ c, 0 ≤ x ∧ x < 12 := fun c hc x hx => by
    obtain ⟨k, hk, rfl⟩ := Sh.mem_shs.mp hc
    obtain ⟨t, rfl, ht, _⟩ := Sh.mem_sh1.mp hx
    exact ⟨by omega, by omega⟩
  have hne : Sh.shs ns ≠ [] := fun z => by
    have := (Sh.shs_flat hcan).length_eq
    rw [z, Sh.length_upto] at this
    simp at this
    omega
  have e : Txt.split (shownT ns) "/" = (Sh.shs ns).map shareT := by
    unfold shownT
    rw [sl_eq]
    exact split_join (by intro z; exact hne (List.map_eq_nil_iff.mp z)) (by intro p hp; obtain ⟨c, hc, rfl⟩ := List.mem_map.mp hp; exact shareT_free (hb c hc))
  refine ⟨by rw [e, List.length_map], fun i p c e1 e2 => ?_⟩
  rw [e, List.getElem?_map, e2] at e1
  cases e1
  have hc := List.mem_of_getElem? e2
  exact rdS_share (Sh.shs_ne hcan c hc) (hb c hc)
def rdC (t : Str) : List (List (Option Int)) := (Txt.split t "/").map fun p => (Txt.split p " ").map rdW
theorem rdC_of {t : Str} {css : List (List Int)} (h : RdA t css) : rdC t = css.map fun c => c.map some := by
  unfold rdC
  refine List.ext_getElem? fun i => ?_
  rw [List.getElem?_map, List.getElem?_map]
  cases e1 : (Txt.split t "/")[i]? with
  | none =>
    have : css[i]? = none := by
      rw [List.getElem?_eq_none_iff] at e1 ⊢
      rw [← h.1]
      exact e1
    rw [this]
    rfl
  | some p =>
    have hi : i < css.length := by rw [← h.1]; exact (List.getElem?_eq_some_iff.mp e1).1
    have e2 : css[i]? = some css[i] := List.getElem?_eq_getElem hi
    rw [e2]
    exact congrArg some (h.2 i p _ e1 e2)
theorem css_inj {css dss : List (List Int)} (h : (css.map fun c => c.map some) = dss.map fun c => c.map some) : css = dss :=
  (List.map_inj_right fun x y e => (List.map_inj_right fun a b e' => Option.some.inj e').mp e).mp h
theorem rdA_uniq {t : Str} {css dss : List (List Int)} (h1 : RdA t css) (h2 : RdA t dss) : css = dss := css_inj ((rdC_of h1).symm.trans (rdC_of h2))
theorem labs_shs {ns labs : List Int} (hc : Sh.Can ns) (hl : Sh.Labs (Sh.shs ns) labs) : labs = ns := by
  obtain ⟨hlen, hlab⟩ := hl
  rw [(Sh.shs_flat hc).length_eq, Sh.length_upto] at hlen
  refine List.ext_getElem? fun t => ?_
  by_cases ht : t < ns.length
  · have e : ns[t]? = some ns[t] := List.getElem?_eq_getElem ht
    have h0 := Sh.can_nonneg hc ns[t] (List.getElem_mem ht)
    have hlt : ns[t] < Sh.fr ns := Sh.lt_fr _ (List.getElem_mem ht)
    have e2 := Sh.shs_get (ms := ns) (k := ns[t].toNat) (by omega)
    have := hlab t ns[t].toNat _ e2 (Sh.mem_sh1.mpr ⟨t, rfl, ht, by rw [e]; congr 1; omega⟩)
    rw [this, e]
    congr 1
    omega
  · rw [List.getElem?_eq_none (by omega), List.getElem?_eq_none (by omega)]
theorem good_iff {t : Str} {css : List (List Int)} {labs : List Int} (h : RdA t css) (hs : Sh.Shs css) (hl : Sh.Labs css labs) : shownT (Sh.mk labs) = t ↔ (shownT labs = t ∧ Sh.mk labs = labs) := by
  constructor
  · intro e
    have hlen : labs.length = css.flatten.length := hl.1
    have hsh : Sh.isSh (Sh.mk labs) = true := Sh.isSh_of (Sh.can_mk labs) (by rw [Sh.length_mk]; have := hs.2.1; omega) (by rw [Sh.length_mk]; have := hs.2.2.1; omega)
    have h2 := rdA_shown hsh
    rw [e] at h2
    have e3 := rdA_uniq h h2
    subst e3
    have e4 := labs_shs (Sh.can_mk labs) hl
    exact ⟨by rw [← e4] at e; exact e, e4.symm⟩
  · rintro ⟨e1, e2⟩
    rw [e2]
    exact e1
section
variable {P : Program} {w : World} {K : PySem.W.Frag} {mg : Str → Option Value} {base : Heap}
theorem scCell : FnScope ["script", "k"] ["script", "k"] (defScope sCell) := ⟨rfl, rfl, rfl, by decide +kernel, rfl, by decide +kernel, by decide +kernel⟩
theorem ok_cell {f : Addr} {fd : FuncData} (F : Fun K "_law_cell_at" "_law_cell_at" sCell f fd) (ml : mg "len" = none) : FnOk P w K mg base CX0 1 f fd ["script", "k"] (spCell K) := by
  refine F.ok scCell (fun vs H Q E h => ?_) (fun cdv A outer s H vs Q E hr h => ?_)
  · obtain ⟨a, ns, k, rfl, _⟩ := h
    rfl
  obtain ⟨a, ns, k, rfl, hS, h0, q⟩ := h
  refine ⟨_, pss_cons (ps_if (pt_cmpR op_lt (pv 1) (pe_callB call_len_seq rfl ml PySem.boot_len (pa_cons (pv 0) pa_nil)) (nomark _)) (pss_one (ps_ret (pe_ix ix_list (pv 0) (pv 1) (fun _ _ => rfl)))) pss_nil) (pss_one (ps_ret pe_int)), ?_⟩
  refine ⟨_, rfl, _, rfl, a, _, rfl, .inl hS, _, _, rfl, rfl, _, rfl, ?_⟩
  refine ite2 (fun c => ?_) (fun c => ?_)
  · have c' := of_decide_eq_true c
    rw [List.length_map] at c'
    have hk : k.toNat < ns.length := by omega
    have ek : k = ((k.toNat : Nat) : Int) := by omega
    have ha : atI (ns.map V.int) k = some (.int (Sh.cell ns k)) := by
      have z : atI (ns.map V.int) ((k.toNat : Nat) : Int) = some (.int (Sh.cell ns k)) := atI_nat (by
        rw [List.getElem?_map, List.getElem?_eq_getElem hk]
        unfold Sh.cell
        rw [List.getD_eq_getElem?_getD, List.getElem?_eq_getElem hk]
        rfl)
      rw [← ek] at z
      exact z
    exact ⟨_, rfl, _, rfl, a, _, _, _, rfl, rfl, hS, ha, q⟩
  · have c' : ¬ k < (ns.length : Int) := fun z => c (by rw [List.length_map]; exact decide_eq_true z)
    have e : Sh.cell ns k = 0 := by
      unfold Sh.cell
      rw [List.getD_eq_getElem?_getD, List.getElem?_eq_none (by omega)]
      rfl
    rw [e] at q
    exact q
theorem scLM : FnScope ["script", "at", "things", "found", "free", "k", "cell", "mark"] ["script", "at", "things"] (defScope sLMarks) := ⟨rfl, rfl, rfl, by decide +kernel, rfl, by decide +kernel, by decide +kernel⟩
theorem ok_lmarks {f : Addr} {fd : FuncData} (F : Fun K "_law_marks" "_law_marks" sLMarks f fd) (G : Fn P w K mg base "_law_cell_at" ["script", "k"] 1 (spCell K)) (mr : mg "range" = none) (mm : mg "max" = none) : FnOk P w K mg base CX0 2 f fd ["script", "at", "things"] (spLMarks K) := by
  refine F.ok scLM (fun vs H Q E h => ?_) (fun cdv A outer s H vs Q E hr h => ?_)
  · obtain ⟨a, ns, k, n, rfl, _⟩ := h
    rfl
  obtain ⟨a, ns, k, n, rfl, hS, h0, hn0, hn, q⟩ := h
  refine ⟨_, pss_cons (ps_set (i := 3) scLM.nd rfl (Or.inl rfl) (pe_lst pa_nil))
    (pss_cons (ps_set (i := 4) scLM.nd rfl (Or.inl rfl) pe_int)
    (pss_cons (ps_for PassesOwn.never rfl (pi_range1 rfl mr (pa_cons (pv 2) pa_nil)) (pg_name (i := 5) scLM.nd rfl (Or.inl rfl))
      (pss_cons (ps_set (i := 6) scLM.nd rfl (Or.inl rfl) (pe_fn G hr (pa_cons (pv 0) (pa_cons (pe_op op_add (pv 1) (pv 5)) pa_nil))))
      (pss_cons (ps_set (i := 7) scLM.nd rfl (Or.inl rfl) (pe_ix ix_list (pe_lst (pa_cons (pe_op op_mod (pv 6) (pe_op op_add (pv 4) pe_int)) (pa_cons pe_int (pa_cons (pv 4) (pa_cons (pe_op op_mod (pe_op op_mod (pv 6) pe_int) (pe_op op_add (pv 4) pe_int)) pa_nil)))))
        (pe_op op_mod (pe_op op_fdiv (pv 6) pe_int) pe_int) (fun _ _ => rfl)))
      (pss_cons (ps_expr (pe_bm PySem.F.plainAttrs_list PySem.F.slot_list_append PySem.F.type_list_append mt_append (pv 3) (pa_cons (pv 7) pa_nil)))
      (pss_one (ps_set (i := 4) scLM.nd rfl (Or.inl rfl) (pe_callB (call_max2 rfl) rfl mm boot_max (pa_cons (pv 4) (pa_cons (pe_op op_add (pv 7) pe_int) pa_nil)))))))))
    (pss_one (ps_ret (pv 3))))), ?_⟩
  refine ⟨(by show 0 ≤ sizeLine; decide), fun l hl => ?_⟩
  have s0 : Same H (upd H l (.lst [])) := same_upd hl _
  refine ⟨_, rfl, n, rfl, by omega, by omega, for_range (lo := 0) (n := n.toNat) (fun i σ H2 => ∃ (ms : List Int) (v5 v6 v7 : Option V), σ = [some (.ref a), some (.int k), some (.int n), some (.ref l), some (.int (Sh.fr ms)), v5, v6, v7] ∧ Same H H2 ∧ Sh.Can ms ∧ ms.length = i ∧ H2 l = some (.lst (ms.map V.int)))
    ⟨[], none, none, none, rfl, s0, Sh.can_nil, rfl, upd_same⟩ ?_ ?_⟩
  · rintro i σ H2 hi ⟨ms, v5, v6, v7, rfl, s2, hc, hlen, hd⟩
    have hf := Sh.fr_nonneg ms
    refine ⟨_, rfl, _, rfl, _, rfl, _, _, rfl, rfl, a, ns, _, rfl, s2.seq hS, by omega, ?_⟩
    refine ⟨_, rfl, _, rfl, _, _, rfl, rfl, _, _, rfl, rfl, (by show (0 : Int) < Sh.fr ms + 1; omega), _, rfl, _, rfl, _, _, rfl, rfl, (by show (0 : Int) < 3; decide), _, rfl, _, _, rfl, rfl, _, _, rfl, rfl, (by show (0 : Int) < Sh.fr ms + 1; omega), (by show 4 ≤ sizeLine; decide), fun p hp => ?_⟩
    generalize hcell : Sh.cell ns (k + (0 + (i : Int))) = c
    refine ⟨_, rfl, _, _, rfl, rfl, ⟨by decide, by decide⟩, _, _, rfl, rfl, (by show (0 : Int) < 4; decide), ?_⟩
    have i1 := Int.emod_nonneg (c / 13) (by decide : (4 : Int) ≠ 0)
    have i2 := Int.emod_lt_of_pos (c / 13) (by decide : (0 : Int) < 4)
    obtain ⟨j, hj⟩ : ∃ j : Nat, c / 13 % 4 = (j : Int) := ⟨(c / 13 % 4).toNat, by omega⟩
    have hj4 : j < [c % (Sh.fr ms + 1), 0, Sh.fr ms, c % 3 % (Sh.fr ms + 1)].length := by show j < 4; omega
    have hx := List.getElem?_eq_getElem hj4
    obtain ⟨x1, x2⟩ := Sh.pick_ok hf hx
    generalize [c % (Sh.fr ms + 1), 0, Sh.fr ms, c % 3 % (Sh.fr ms + 1)][j] = x at hx x1 x2
    have nlp : l ≠ p := ne_of_none hd hp
    refine ⟨p, _, _, .int x, rfl, rfl, SqL.of upd_same, ?_, ?_⟩
    · rw [hj]
      refine atI_nat ?_
      have : (([c % (Sh.fr ms + 1), 0, Sh.fr ms, c % 3 % (Sh.fr ms + 1)] : List Int).map V.int)[j]? = some (.int x) := by rw [List.getElem?_map, hx]; rfl
      exact this
    refine ⟨_, rfl, .inl ⟨rfl, _, SqL.of (by rw [upd_ne nlp]; exact hd)⟩, _, rfl, l, _, _, rfl, rfl, (by rw [upd_ne nlp]; exact hd), small1000 (by rw [List.length_map]; omega), ?_⟩
    refine ⟨_, rfl, _, rfl, _, _, rfl, rfl, _, _, rfl, ?_⟩
    refine ⟨ms ++ [x], some (.int (0 + (i : Int))), some (.int c), some (.int x), ?_, (s2.upd2 (s2.free hp)).upd2 hl, Sh.can_snoc.mpr ⟨hc, x1, x2⟩, by rw [List.length_append, hlen]; rfl, by rw [upd_same, List.map_append]; rfl⟩
    have : (if x + 1 > Sh.fr ms then x + 1 else Sh.fr ms) = Sh.fr (ms ++ [x]) := by
      rw [Sh.fr_snoc]
      split <;> omega
    show [_, _, _, _, some (V.int (if x + 1 > Sh.fr ms then x + 1 else Sh.fr ms)), _, _, _] = _
    rw [this]
  · rintro σ H2 ⟨ms, v5, v6, v7, rfl, s2, hc, hlen, hd⟩
    exact ⟨_, rfl, q l ms H2 s2 hl hc (by omega) hd⟩
end
def spWhole (K : PySem.W.Frag) : Sp := fun vs H Q _ => ∃ n : Int, vs = [.int n] ∧ Q (.bl true) H
def spNums (K : PySem.W.Frag) : Sp := fun vs H Q _ => ∃ (a b : Addr) (ns ms : List Int), vs = [.ref a, .ref b] ∧ H a = some (.lst (ns.map V.int)) ∧ SqL K H b (ms.map V.int) ∧ Q (.bl (decide (ns = ms))) H
section
variable {P : Program} {w : World} {K : PySem.W.Frag} {mg : Str → Option Value} {base : Heap}
theorem scWhole : FnScope ["found"] ["found"] (defScope sWhole) := ⟨rfl, rfl, rfl, by decide +kernel, rfl, by decide +kernel, by decide +kernel⟩
theorem ok_whole {f : Addr} {fd : FuncData} (F : Fun K "_law_whole" "_law_whole" sWhole f fd) (mi : mg "isinstance" = none) (mn : mg "int" = none) (mb : mg "bool" = none) : FnOk P w K mg base CX0 1 f fd ["found"] (spWhole K) := by
  refine F.ok scWhole (fun vs H Q E h => ?_) (fun cdv A outer s H vs Q E hr h => ?_)
  · obtain ⟨n, rfl, _⟩ := h
    rfl
  obtain ⟨n, rfl, q⟩ := h
  refine ⟨_, pss_one (ps_ret (pe_and (pe_callB call_isinst rfl mi boot_isinstance (pa_cons (pv 0) (pa_cons (pe_bltn (v := .ty "int") rfl mn boot_int rfl) pa_nil)))
    (pe_one (pe_not (pe_callB call_isinst rfl mi boot_isinstance (pa_cons (pv 0) (pa_cons (pe_bltn (v := .ty "bool") rfl mb boot_bool rfl) pa_nil))))))), ?_⟩
  refine ⟨_, rfl, _, "int", _, true, rfl, .int _, rfl, _, rfl, ?_⟩
  refine iteT ?_
  exact ⟨_, rfl, _, "bool", _, false, rfl, .int _, rfl, _, rfl, q⟩
theorem scNums : FnScope ["found", "due", "x"] ["found", "due"] (defScope sNums) := ⟨rfl, rfl, rfl, by decide +kernel, rfl, by decide +kernel, by decide +kernel⟩
theorem ok_nums {f : Addr} {fd : FuncData} (F : Fun K "_law_numbers" "_law_numbers" sNums f fd) (GW : Fn P w K mg base "_law_whole" ["found"] 1 (spWhole K)) (ml : mg "len" = none) (mi : mg "isinstance" = none) (mlst : mg "list" = none) : FnOk P w K mg base CX0 2 f fd ["found", "due"] (spNums K) := by
  refine F.ok scNums (fun vs H Q E h => ?_) (fun cdv A outer s H vs Q E hr h => ?_)
  · obtain ⟨a, b, ns, ms, rfl, _⟩ := h
    rfl
  obtain ⟨a, b, ns, ms, rfl, hA, hB, q⟩ := h
  have hu := hu_of hr
  refine ⟨_, pss_cons (ps_if (PW.pt (pw_or (pt_not (pt_val (pe_callB call_isinst rfl mi boot_isinstance (pa_cons (pv 0) (pa_cons (pe_bltn (v := .ty "list") rfl mlst boot_list rfl) pa_nil)))))
      (pw_or1 (pt_cmpR op_ne (pe_callB call_len_seq rfl ml PySem.boot_len (pa_cons (pv 0) pa_nil)) (pe_callB call_len_seq rfl ml PySem.boot_len (pa_cons (pv 1) pa_nil)) (nomark _))))) (pss_one (ps_ret pe_bl)) pss_nil)
    (pss_cons (ps_for PassesOwn.never rfl (pi_list (pv 0)) (pg_name (i := 2) scNums.nd rfl (Or.inl rfl))
      (pss_one (ps_if (pt_not (pt_val (pe_fn GW hr (pa_cons (pv 2) pa_nil)))) (pss_one (ps_ret pe_bl)) pss_nil)))
    (pss_one (ps_ret (pe_cmpR (op_eqLI (Nat.lt_of_succ_lt hu)) (pv 0) (pv 1) (nomark _))))), ?_⟩
  refine ⟨_, rfl, _, "list", _, true, rfl, .lst hA, rfl, _, rfl, ?_⟩
  refine iteF ?_
  refine ⟨_, rfl, a, _, rfl, .inl (SqL.of hA), _, rfl, b, _, rfl, .inl hB, rfl, _, rfl, ?_⟩
  refine ite2 (fun c => ?_) (fun c => ?_)
  · have e : decide (ns = ms) = false := decide_eq_false fun e => by
      rw [e] at c
      simp at c
    rw [e] at q
    exact q
  refine ⟨_, rfl, a, rfl, ⟨_, SqL.of hA⟩, for_list (K := K) (a := a) (xs := ns.map V.int) (fun i σ H2 => ∃ (v : Option V), σ = [some (.ref a), some (.ref b), v] ∧ H2 = H) ⟨none, rfl, rfl⟩ (fun i σ H2 _ ⟨_, _, e⟩ => by rw [e]; exact SqL.of hA) ?_ ?_⟩
  · rintro i x σ H2 hi ⟨v, rfl, rfl⟩
    obtain ⟨z, hz, rfl⟩ := ints_get hi
    refine ⟨_, rfl, z, rfl, _, rfl, ?_⟩
    exact iteF ⟨_, rfl, rfl⟩
  · rintro σ H2 ⟨v, rfl, rfl⟩
    exact ⟨_, rfl, _, rfl, a, b, ns, ms, rfl, rfl, SqL.of hA, hB, q⟩
end
section
variable {P : Program} {w : World} {K : PySem.W.Frag} {mg : Str → Option Value} {base : Heap}
theorem scNamed : FnScope ["names", "seen", "name"] ["names"] (defScope sNamed) := ⟨rfl, rfl, rfl, by decide +kernel, rfl, by decide +kernel, by decide +kernel⟩
theorem nd_ns : (["name", "seen"] : List Str).Nodup := by decide +kernel
theorem ok_named {α : Type} [DecidableEq α] (L : Lab K α) {f : Addr} {fd : FuncData} (F : Fun K "_law_named" "_law_named" sNamed f fd) : FnOk P w K mg base CX0 1 f fd ["names"] (spMarked L) := by
  refine F.ok scNamed (fun vs H Q E h => ?_) (fun cdv A outer s H vs Q E hr h => ?_)
  · obtain ⟨a, xs, as, rfl, _⟩ := h
    rfl
  obtain ⟨a, xs, as, rfl, hS, hL, hz, q⟩ := h
  have hu := hu_of hr
  refine ⟨_, pss_cons (ps_set (i := 1) scNamed.nd rfl (Or.inr rfl) (pe_lst pa_nil))
    (pss_cons (ps_for PassesOwn.never rfl (pi_list (pv 0)) (pg_name (i := 2) scNamed.nd rfl (Or.inl rfl))
      (pss_one (ps_if (pt_cmpR (op_notInLab L hu) (pv 2) (pv 1) rfl) (pss_one (ps_expr (pe_bm PySem.F.plainAttrs_list PySem.F.slot_list_append PySem.F.type_list_append mt_append (pv 1) (pa_cons (pv 2) pa_nil)))) pss_nil)))
    (pss_one (ps_ret (pe_comp ["name", "seen"] [none, some 1] rfl rfl (pi_list (pv 0)) (fun _ _ _ _ => pg_name (i := 0) nd_ns rfl (Or.inl rfl)) (fun _ _ _ _ => pts_nil)
      (fun _ _ _ _ => pe_bmK (K := K) PySem.F.plainAttrs_list PySem.F.slot_list_index PySem.F.type_list_index (mt_index L hu) (pv 1) (pa_cons (pv 0) pa_nil)))))), ?_⟩
  refine ⟨(by show 0 ≤ sizeLine; decide), fun l hl => ?_⟩
  have s0 : Same H (upd H l (.lst [])) := same_upd hl _
  refine ⟨_, rfl, a, rfl, ⟨_, s0.seq hS⟩, for_list (K := K) (a := a) (xs := xs) (fun i σ H2 => ∃ (v : Option V) (ys : List V), σ = [some (.ref a), some (.ref l), v] ∧ Same H H2 ∧ H2 l = some (.lst ys) ∧ LabsAt L H ys (Sh.dd (as.take i)))
    ⟨none, [], rfl, s0, upd_same, rfl, fun j x b e => by simp at e⟩ (fun i σ H2 _ ⟨_, _, _, s2, _⟩ => s2.seq hS) ?_ ?_⟩
  · rintro i x σ H2 hi ⟨v, ys, rfl, s2, h1, h2⟩
    have hil : i < xs.length := (List.getElem?_eq_some_iff.mp hi).1
    have hia : i < as.length := by rw [← hL.1]; exact hil
    have ea := List.getElem?_eq_getElem hia
    have rel := L.mono s2 (hL.2 i x _ hi ea)
    have et : as.take (i + 1) = as.take i ++ [as[i]] := by rw [List.take_add_one, ea]; rfl
    have lt : (as.take i).length ≤ 1000 := by rw [List.length_take]; omega
    have ldd : (Sh.dd (as.take i)).length ≤ 1000 := Nat.le_trans (Sh.length_dd_le _) lt
    refine ⟨_, rfl, _, rfl, l, ys, _, _, rfl, SqL.of h1, h2.mono s2, rel, _, rfl, ?_⟩
    refine ite2 (fun c => ?_) (fun c => ?_)
    · have c' : ¬ as[i] ∈ Sh.dd (as.take i) := by simpa using c
      refine ⟨_, rfl, .inl ⟨rfl, _, SqL.of h1⟩, _, rfl, l, ys, x, rfl, rfl, h1, small1000 (by rw [h2.1]; exact ldd), ?_⟩
      refine ⟨_, ys ++ [x], rfl, s2.upd2 hl, upd_same, ?_⟩
      rw [et, Sh.dd_snoc, if_neg c']
      exact h2.snoc (hL.2 i x _ hi ea)
    · have c' : as[i] ∈ Sh.dd (as.take i) := by simpa using c
      refine ⟨_, ys, rfl, s2, h1, ?_⟩
      rw [et, Sh.dd_snoc, if_pos c']
      exact h2
  · rintro σ H2 ⟨v, ys, rfl, s2, h1, h2⟩
    rw [hL.1, List.take_length] at h2
    refine ⟨_, rfl, a, rfl, ⟨_, s2.seq hS⟩, comp_list (K := K) (a := a) (xs := xs) (fun i zs τ H3 => ∃ v, τ = [v, some (.ref l)] ∧ H3 = H2 ∧ zs = (((as.take i).map fun x => (((Sh.dd as).idxOf x : Nat) : Int)).map V.int)) ⟨none, rfl, rfl, rfl⟩ ?_ ?_ ?_⟩
    · rintro i zs τ H3 hi ⟨v, rfl, rfl, rfl⟩
      refine ⟨s2.seq hS, small1000 ?_⟩
      rw [List.length_map, List.length_map, List.length_take]
      omega
    · rintro i x zs τ H3 hi ⟨v, rfl, rfl, rfl⟩
      have hil : i < xs.length := (List.getElem?_eq_some_iff.mp hi).1
      have hia : i < as.length := by rw [← hL.1]; exact hil
      have ea := List.getElem?_eq_getElem hia
      have rel := L.mono s2 (hL.2 i x _ hi ea)
      refine ⟨_, rfl, .inl ⟨rfl, _, SqL.of h1⟩, _, rfl, l, ys, Sh.dd as, as[i], x, rfl, rfl, SqL.of h1, h2.mono s2, rel, Sh.mem_dd.mpr (List.getElem_mem hia), _, rfl, rfl, ?_⟩
      rw [List.take_add_one, ea, Option.toList_some, List.map_append, List.map_append]
      rfl
    · rintro zs τ H3 ⟨v, rfl, rfl, rfl⟩ D hD
      refine q D _ (s2.upd2 (s2.free hD)) (s2.free hD) ?_
      have e : (as.map fun x => (((Sh.dd as).idxOf x : Nat) : Int)) = Sh.mk as := by
        unfold Sh.mk Sh.nm
        rw [List.map_map]
        rfl
      rw [upd_same, hL.1, List.take_length, e]
end
def spLShares (K : PySem.W.Frag) : Sp := fun vs H Q _ => ∃ (a : Addr) (ns : List Int), vs = [.ref a] ∧ SqL K H a (ns.map V.int) ∧ (ns ≠ [] ∧ ns.length ≤ 12 ∧ ∀ x ∈ ns, 0 ≤ x ∧ x < 12) ∧
  ∀ (D : Addr) (as : List Addr) (H' : Hp), Same H H' → H D = none → H' D = some (.lst (as.map V.ref)) → as.Nodup → ¬ D ∈ as → (∀ p, p ∈ as → H p = none) → LL H' as (Sh.shs ns) → Q (.ref D) H'
section
variable {P : Program} {w : World} {K : PySem.W.Frag} {mg : Str → Option Value} {base : Heap}
theorem atzV {xs : List V} {i : Nat} {x : V} (h : xs[i]? = some x) : atI xs (0 + (i : Int)) = some x := by
  rw [Int.zero_add]
  exact atI_nat h
theorem nd_kom : (["k", "one", "mark"] : List Str).Nodup := by decide +kernel
theorem scLS : FnScope ["one", "found", "mark"] ["one"] (defScope sLShares) := ⟨rfl, rfl, rfl, by decide +kernel, rfl, by decide +kernel, by decide +kernel⟩
theorem ok_lshares {f : Addr} {fd : FuncData} (F : Fun K "_law_shares" "_law_shares" sLShares f fd) (ml : mg "len" = none) (mr : mg "range" = none) (mm : mg "max" = none) : FnOk P w K mg base CX0 1 f fd ["one"] (spLShares K) := by
  refine F.ok scLS (fun vs H Q E h => ?_) (fun cdv A outer s H vs Q E hr h => ?_)
  · obtain ⟨a, ns, rfl, _⟩ := h
    rfl
  obtain ⟨a, ns, rfl, hS, hg, q⟩ := h
  obtain ⟨hne, l2, hbd⟩ := hg
  refine ⟨_, pss_cons (ps_set (i := 1) scLS.nd rfl (Or.inl rfl) (pe_lst pa_nil))
    (pss_cons (ps_for PassesOwn.never rfl (pi_range1 rfl mr (pa_cons (pe_op op_add (pe_callB (call_maxL rfl) rfl mm boot_max (pa_cons (pv 0) pa_nil)) pe_int) pa_nil)) (pg_name (i := 2) scLS.nd rfl (Or.inr rfl))
      (pss_one (ps_expr (pe_bm PySem.F.plainAttrs_list PySem.F.slot_list_append PySem.F.type_list_append mt_append (pv 1) (pa_cons
        (pe_comp ["k", "one", "mark"] [none, some 0, some 2] rfl rfl (pi_range1 rfl mr (pa_cons (pe_callB call_len_seq rfl ml PySem.boot_len (pa_cons (pv 0) pa_nil)) pa_nil)) (fun _ _ _ _ => pg_name (i := 0) nd_kom rfl (Or.inl rfl))
          (fun _ _ _ _ => pts_one (pt_cmpR op_eq (pe_ix (ix_listK (K := K)) (pv 1) (pv 0) (fun _ _ => rfl)) (pv 2) (nomark _))) (fun _ _ _ _ => pv 0)) pa_nil)))))
    (pss_one (ps_ret (pv 1)))), ?_⟩
  refine ⟨(by show 0 ≤ sizeLine; decide), fun l hl => ?_⟩
  have s0 : Same H (upd H l (.lst [])) := same_upd hl _
  refine ⟨_, rfl, a, ns, rfl, s0.seq hS, hne, fun M hM hle => ?_⟩
  have hM0 := (hbd M hM).1
  have hfr := Sh.fr_max hM hle hM0
  have hM2 := (hbd M hM).2
  have hfl : Sh.fr ns ≤ 12 := by omega
  refine ⟨_, _, rfl, rfl, _, rfl, by omega, by omega, for_range (lo := 0) (n := (M + 1).toNat) (fun i σ H2 => ∃ (as : List Addr) (v : Option V), σ = [some (.ref a), some (.ref l), v] ∧ Same H H2 ∧ H2 l = some (.lst (as.map V.ref)) ∧ as.Nodup ∧ ¬ l ∈ as ∧ (∀ p, p ∈ as → H p = none) ∧ LL H2 as ((Sh.shs ns).take i))
    ⟨[], none, rfl, s0, upd_same, List.nodup_nil, by simp, fun p h => by simp at h, rfl, fun k p c e => by simp at e⟩ ?_ ?_⟩
  · rintro i σ H2 hi ⟨as, v, rfl, s2, h2, nd, nl, fr, ll⟩
    have hi' : i < (Sh.fr ns).toNat := by omega
    have esh := Sh.shs_get hi'
    have hlen : as.length = i := by rw [ll.1, List.length_take, Sh.shs_len]; omega
    refine ⟨_, rfl, .inl ⟨rfl, _, SqL.of h2⟩, _, rfl, a, _, rfl, .inl (s2.seq hS), _, rfl, by rw [List.length_map]; omega, by rw [List.length_map]; omega, ?_⟩
    rw [List.length_map, Int.toNat_natCast]
    refine comp_range (lo := 0) (n := ns.length) (fun j zs τ H3 => ∃ v, τ = [v, some (.ref a), some (.int (0 + (i : Int)))] ∧ H3 = H2 ∧ zs = (Sh.sh1 ns j (i : Int)).map V.int) ⟨none, rfl, rfl, rfl⟩ ?_ ?_ ?_
    · rintro j zs τ H3 hj ⟨v, rfl, rfl, rfl⟩
      refine small1000 ?_
      rw [List.length_map]
      unfold Sh.sh1
      rw [List.length_map]
      have := List.length_filter_le (fun t => decide (ns[t]? = some (i : Int))) (List.range j)
      rw [List.length_range] at this
      omega
    · rintro j zs τ H3 hj ⟨v, rfl, rfl, rfl⟩
      have ej := List.getElem?_eq_getElem hj
      refine ⟨_, rfl, _, rfl, a, _, _, _, rfl, rfl, s2.seq hS, atzV (by rw [List.getElem?_map, ej]; rfl), _, rfl, rfl, _, rfl, ?_⟩
      refine ite2 (fun c => ?_) (fun c => ?_)
      · have c' : ns[j] = (i : Int) := by
          have := of_decide_eq_true c
          injection this with this
          omega
        refine ⟨_, rfl, _, rfl, rfl, ?_⟩
        rw [Sh.sh1_succ, if_pos (by rw [ej, c']), List.map_append, Int.zero_add]
        rfl
      · have c' : ¬ ns[j] = (i : Int) := fun e => c (decide_eq_true (by rw [e, Int.zero_add]))
        refine ⟨_, rfl, rfl, ?_⟩
        rw [Sh.sh1_succ, if_neg (by rw [ej]; intro e; exact c' (Option.some.inj e)), List.append_nil]
    · rintro zs τ H3 ⟨v, rfl, rfl, rfl⟩ p hp
      have npl : l ≠ p := ne_of_none h2 hp
      have s3 : Same H3 (upd H3 p (.lst ((Sh.sh1 ns ns.length (i : Int)).map V.int))) := same_upd hp _
      have npa : ¬ p ∈ as := fun h => by
        obtain ⟨k, hk, ek⟩ := Sh.mem_ix h
        have hk' : k < ((Sh.shs ns).take i).length := by rw [← ll.1]; exact hk
        have := ll.2 k p _ ek (List.getElem?_eq_getElem hk')
        rw [hp] at this
        cases this
      refine ⟨l, _, _, rfl, rfl, s3 _ _ h2, small1000 (by rw [List.length_map]; omega), ?_⟩
      refine ⟨as ++ [p], _, rfl, (s2.trans s3).upd2 hl, ?_, ?_, ?_, ?_, ?_⟩
      · rw [upd_same, List.map_append]
        rfl
      · rw [List.nodup_append]
        refine ⟨nd, by simp, fun x hx y hy e => ?_⟩
        rw [List.mem_singleton] at hy
        subst hy
        subst e
        exact npa hx
      · intro h
        rcases List.mem_append.mp h with h | h
        · exact nl h
        · exact npl (List.mem_singleton.mp h)
      · intro p' h
        rcases List.mem_append.mp h with h | h
        · exact fr p' h
        · rw [List.mem_singleton.mp h]
          exact s2.free hp
      · rw [List.take_add_one, esh]
        have q1 : LL (upd H3 p (.lst ((Sh.sh1 ns ns.length (i : Int)).map V.int))) (as ++ [p]) ((Sh.shs ns).take i ++ [Sh.sh1 ns ns.length (i : Int)]) := (ll.mono s3).snoc upd_same
        refine ⟨q1.1, fun k p' c e1 e2 => ?_⟩
        rw [upd_ne]
        · exact q1.2 k p' c e1 e2
        · intro e
          subst e
          rcases List.mem_append.mp (List.mem_of_getElem? e1) with h | h
          · exact nl h
          · exact npl (List.mem_singleton.mp h)
  · rintro σ H2 ⟨as, v, rfl, s2, h2, nd, nl, fr, ll⟩
    have e : (Sh.shs ns).take (M + 1).toNat = Sh.shs ns := by
      rw [List.take_of_length_le]
      rw [Sh.shs_len]
      omega
    rw [e] at ll
    exact ⟨_, rfl, q l as H2 s2 hl h2 nd nl fr ll⟩
end
def spLChanged (K : PySem.W.Frag) : Sp := fun vs H Q _ => ∃ (t : Str) (cell : Int), vs = [.str t, .int cell] ∧ t.length ≤ 90 ∧ ∀ (t' : Str) (H' : Hp), t'.length ≤ 200 → Same H H' → Q (.str t') H'
section
variable {P : Program} {w : World} {K : PySem.W.Frag} {mg : Str → Option Value} {base : Heap}
theorem scLChg : FnScope ["text", "cell", "at", "sign", "some"] ["text", "cell"] (defScope sLChanged) := ⟨rfl, rfl, rfl, by decide +kernel, rfl, by decide +kernel, by decide +kernel⟩
theorem at_someN {α : Type} {xs : List α} {p : Int} (h0 : 0 ≤ p) (h1 : p < xs.length) : ∃ (k : Nat) (v : α), p = (k : Int) ∧ xs[k]? = some v ∧ atI xs p = some v := by
  have hk : p.toNat < xs.length := by omega
  refine ⟨p.toNat, xs[p.toNat], by omega, List.getElem?_eq_getElem hk, ?_⟩
  have : atI xs ((p.toNat : Nat) : Int) = some xs[p.toNat] := atI_nat (List.getElem?_eq_getElem hk)
  rw [show ((p.toNat : Nat) : Int) = p by omega] at this
  exact this
def signs : Str := "0123456789 /\t\n-+_x"
def oddT : List Str := ["", "/", " ", "0/", "/0", "0//1", "0 1 ", "1/0", "0 2 1", "00", "0 01", "1", "0/0", "0 1/2/3 12", "0\n1", "0 1 2 3 4 5 6 7 8 9 10 11 12", "0/1/2/3/4/5/6/7/8/9/10/11/12"]
theorem oddT_len : ∀ x ∈ oddT, x.length ≤ 200 := by decide +kernel
theorem ok_lchanged {f : Addr} {fd : FuncData} (F : Fun K "_law_changed" "_law_changed" sLChanged f fd) (ml : mg "len" = none) : FnOk P w K mg base CX0 1 f fd ["text", "cell"] (spLChanged K) := by
  refine LQ.ok0 F scLChg (fun vs H Q E h => ?_) (fun cdv A outer s H vs Q E hr h => ?_)
  · obtain ⟨t, cell, rfl, _⟩ := h
    rfl
  obtain ⟨t, cell, rfl, ht, q⟩ := h
  refine ⟨_, LQ.pss_cons (LQ.ps_set (i := 2) scLChg.nd rfl (Or.inl rfl) (LQ.pe_op op_mod (LQ.pe_op op_fdiv (LQ.pv 1) LQ.pe_int) (LQ.pe_op op_add (LQ.pe_callB call_len_str rfl ml PySem.boot_len (LQ.pa_cons (LQ.pv 0) LQ.pa_nil)) LQ.pe_int))) (LQ.pss_cons (LQ.ps_set (i := 3) scLChg.nd rfl (Or.inl rfl) (LQ.pe_ix ix_str LQ.pe_str (LQ.pe_op op_mod (LQ.pe_op op_fdiv (LQ.pv 1) LQ.pe_int) LQ.pe_int) (fun _ _ => rfl))) (LQ.pss_cons (LQ.ps_if (LQ.pt_cmpR op_eq (LQ.pe_op op_mod (LQ.pv 1) LQ.pe_int) LQ.pe_int (nomark _)) (LQ.pss_one (LQ.ps_ret (LQ.pe_op op_add_str (LQ.pe_slice sl_str (LQ.pv 0) LQ.po_none (LQ.po_some (LQ.pv 2))) (LQ.pe_slice sl_str (LQ.pv 0) (LQ.po_some (LQ.pe_op op_add (LQ.pv 2) LQ.pe_int)) LQ.po_none)))) LQ.pss_nil) (LQ.pss_cons (LQ.ps_if (LQ.pt_cmpR op_eq (LQ.pe_op op_mod (LQ.pv 1) LQ.pe_int) LQ.pe_int (nomark _)) (LQ.pss_one (LQ.ps_ret (LQ.pe_op op_add_str (LQ.pe_op op_add_str (LQ.pe_slice sl_str (LQ.pv 0) LQ.po_none (LQ.po_some (LQ.pv 2))) (LQ.pv 3)) (LQ.pe_slice sl_str (LQ.pv 0) (LQ.po_some (LQ.pv 2)) LQ.po_none)))) LQ.pss_nil) (LQ.pss_cons (LQ.ps_if (LQ.pt_cmpR op_eq (LQ.pe_op op_mod (LQ.pv 1) LQ.pe_int) LQ.pe_int (nomark _)) (LQ.pss_one (LQ.ps_ret (LQ.pe_op op_add_str (LQ.pe_op op_add_str (LQ.pe_slice sl_str (LQ.pv 0) LQ.po_none (LQ.po_some (LQ.pv 2))) (LQ.pv 3)) (LQ.pe_slice sl_str (LQ.pv 0) (LQ.po_some (LQ.pe_op op_add (LQ.pv 2) LQ.pe_int)) LQ.po_none)))) LQ.pss_nil) (LQ.pss_cons (LQ.ps_set (i := 4) scLChg.nd rfl (Or.inl rfl) (LQ.pe_lstW (LQ.pa_cons LQ.pe_str (LQ.pa_cons LQ.pe_str (LQ.pa_cons LQ.pe_str (LQ.pa_cons LQ.pe_str (LQ.pa_cons LQ.pe_str (LQ.pa_cons LQ.pe_str (LQ.pa_cons LQ.pe_str (LQ.pa_cons LQ.pe_str (LQ.pa_cons LQ.pe_str (LQ.pa_cons LQ.pe_str (LQ.pa_cons LQ.pe_str (LQ.pa_cons LQ.pe_str (LQ.pa_cons LQ.pe_str (LQ.pa_cons LQ.pe_str (LQ.pa_cons LQ.pe_str LQ.pa_nil))))))))))))))))) (LQ.pss_cons (LQ.ps_set (i := 4) scLChg.nd rfl (Or.inl rfl) (LQ.pe_op op_cat (LQ.pv 4) (LQ.pe_lstW (LQ.pa_cons LQ.pe_str (LQ.pa_cons LQ.pe_str LQ.pa_nil))))) (LQ.pss_one (LQ.ps_ret (LQ.pe_ix ix_list (LQ.pv 4) (LQ.pe_op op_mod (LQ.pe_op op_fdiv (LQ.pv 1) LQ.pe_int) LQ.pe_int) (fun _ _ => rfl)))))))))) , ?_⟩
  have z63 : (1000 : Nat) ≤ sizeLine := by decide
  have hsl : ∀ a b, (Txt.slice t a b).length ≤ t.length := Txt.slice_le t
  refine ⟨_, rfl, _, _, rfl, rfl, ⟨by decide, by decide⟩, _, rfl, t, rfl, by have : (1000 : Nat) ≤ sizeLine := (by decide); omega, _, _, rfl, rfl, _, _, rfl, rfl, (by show (0 : Int) < (t.length : Int) + 1; omega), ?_⟩
  have m0 := Int.emod_nonneg (cell / 400) (by decide : (18 : Int) ≠ 0)
  have m1 := Int.emod_lt_of_pos (cell / 400) (by decide : (0 : Int) < 18)
  obtain ⟨j, ch, ej, ev, ea⟩ := at_someN (xs := signs.cps.toList) m0 m1
  refine ⟨_, rfl, _, _, rfl, rfl, ⟨by decide, by decide⟩, _, _, rfl, rfl, (by show (0 : Int) < 18; decide), signs, _, ch, rfl, rfl, by decide, ea, ?_⟩
  have l1 : (⟨#[ch]⟩ : Str).length = 1 := rfl
  have cat2 : ∀ {a b c d : Option Int}, (Txt.slice t a b ++ Txt.slice t c d).length ≤ 200 := fun {a b c d} => by
    rw [Str.length_append]
    have := hsl a b
    have := hsl c d
    omega
  have cat2' : ∀ {a b c d : Option Int}, (Txt.slice t a b).length + (Txt.slice t c d).length ≤ 1000 := fun {a b c d} => by
    have := hsl a b
    have := hsl c d
    omega
  have cat1' : ∀ {a b : Option Int}, (Txt.slice t a b).length + (⟨#[ch]⟩ : Str).length ≤ 1000 := fun {a b} => by
    rw [l1]
    have := hsl a b
    omega
  have cat3' : ∀ {a b c d : Option Int}, (Txt.slice t a b ++ ⟨#[ch]⟩).length + (Txt.slice t c d).length ≤ 1000 := fun {a b c d} => by
    rw [Str.length_append, l1]
    have := hsl a b
    have := hsl c d
    omega
  have cat3 : ∀ {a b c d : Option Int}, (Txt.slice t a b ++ ⟨#[ch]⟩ ++ Txt.slice t c d).length ≤ 200 := fun {a b c d} => by
    rw [Str.length_append, Str.length_append, l1]
    have := hsl a b
    have := hsl c d
    omega
  refine ⟨_, rfl, _, _, rfl, rfl, (by show (0 : Int) < 4; decide), rfl, _, rfl, ?_⟩
  refine ite2 (fun _ => ?_) (fun _ => ?_)
  · refine ⟨_, rfl, _, rfl, _, rfl, t, rfl, by omega, _, rfl, _, rfl, _, _, rfl, rfl, _, rfl, t, rfl, by omega, _, _, rfl, rfl, ?_, ?_⟩
    · exact Nat.le_trans cat2' z63
    · exact q _ _ cat2 (Same.refl _)
  refine ⟨_, rfl, _, _, rfl, rfl, (by show (0 : Int) < 4; decide), rfl, _, rfl, ?_⟩
  refine ite2 (fun _ => ?_) (fun _ => ?_)
  · refine ⟨_, rfl, _, rfl, _, rfl, t, rfl, by omega, _, rfl, _, _, rfl, rfl, ?_, _, rfl, _, rfl, _, rfl, t, rfl, by omega, _, _, rfl, rfl, ?_, ?_⟩
    · exact Nat.le_trans cat1' z63
    · exact Nat.le_trans cat3' z63
    · exact q _ _ cat3 (Same.refl _)
  refine ⟨_, rfl, _, _, rfl, rfl, (by show (0 : Int) < 4; decide), rfl, _, rfl, ?_⟩
  refine ite2 (fun _ => ?_) (fun _ => ?_)
  · refine ⟨_, rfl, _, rfl, _, rfl, t, rfl, by omega, _, rfl, _, _, rfl, rfl, ?_, _, rfl, _, rfl, _, _, rfl, rfl, _, rfl, t, rfl, by omega, _, _, rfl, rfl, ?_, ?_⟩
    · exact Nat.le_trans cat1' z63
    · exact Nat.le_trans cat3' z63
    · exact q _ _ cat3 (Same.refl _)
  refine ⟨(by show 15 ≤ sizeLine; decide), fun a1 H1 s1 p1 => ?_⟩
  refine ⟨_, rfl, (by show 2 ≤ sizeLine; decide), fun a2 H2 s2 p2 => ?_⟩
  refine ⟨a1, a2, _, _, rfl, rfl, s2 _ _ p1, p2, (by show 17 ≤ sizeLine; decide), fun a3 h3 => ?_⟩
  have n0 := Int.emod_nonneg (cell / 4) (by decide : (17 : Int) ≠ 0)
  have n1 := Int.emod_lt_of_pos (cell / 4) (by decide : (0 : Int) < 17)
  obtain ⟨j2, v, ej2, ev2, ea2⟩ := at_someN (xs := oddT.map V.str) n0 n1
  obtain ⟨x, hx, rfl⟩ : ∃ x ∈ oddT, v = .str x := by
    rw [List.getElem?_map] at ev2
    cases e : oddT[j2]? with
    | none => rw [e] at ev2; cases ev2
    | some x => rw [e] at ev2; cases ev2; exact ⟨x, List.mem_of_getElem? e, rfl⟩
  refine ⟨_, rfl, _, rfl, _, _, rfl, rfl, ⟨by decide, by decide⟩, _, _, rfl, rfl, (by show (0 : Int) < 17; decide), a3, _, _, _, rfl, rfl, SqL.of (xs := oddT.map V.str) upd_same, ea2, ?_⟩
  exact q x _ (oddT_len x hx) (s1.trans (s2.trans (same_upd h3 _)))
end
theorem sub_len : ∀ {u l : List Int}, u.Nodup → (∀ x ∈ u, x ∈ l) → u.length ≤ l.length
  | [], _, _, _ => Nat.zero_le _
  | x :: u, l, nd, h => by
    have hx := h x (by simp)
    have h1 := sub_len (u := u) (l := l.erase x) (List.nodup_cons.mp nd).2 fun y hy => by
      have ne : y ≠ x := fun e => (List.nodup_cons.mp nd).1 (by rw [← e]; exact hy)
      exact (List.mem_erase_of_ne ne).mpr (h y (List.mem_cons_of_mem _ hy))
    rw [List.length_erase_of_mem hx] at h1
    have := List.length_pos_of_mem hx
    rw [List.length_cons]
    omega
theorem perm_sub : ∀ {u l : List Int}, u.Nodup → (∀ x ∈ u, x ∈ l) → l.length ≤ u.length → u.Perm l
  | [], l, _, _, hl => by
    have : l = [] := List.length_eq_zero_iff.mp (by simpa using hl)
    rw [this]
  | x :: u, l, nd, h, hl => by
    have hx := h x (by simp)
    have h1 := perm_sub (u := u) (l := l.erase x) (List.nodup_cons.mp nd).2 (fun y hy => by
      have ne : y ≠ x := fun e => (List.nodup_cons.mp nd).1 (by rw [← e]; exact hy)
      exact (List.mem_erase_of_ne ne).mpr (h y (List.mem_cons_of_mem _ hy))) (by
      rw [List.length_erase_of_mem hx]
      rw [List.length_cons] at hl
      omega)
    exact (h1.cons x).trans (List.perm_cons_erase hx).symm
def kS (x : Int) : Key := Sum.inr (tS x)
def pr (L : List (Int × Nat)) : List (Key × V) := L.map fun p => (kS p.1, V.int (p.2 : Int))
def B12 (l : List Int) : Prop := ∀ x ∈ l, 0 ≤ x ∧ x < 12
theorem tS_inj {x y : Int} (hx : 0 ≤ x ∧ x < 12) (hy : 0 ≤ y ∧ y < 12) (h : tS x = tS y) : x = y := by
  have h1 := (tS_free hx.1 hx.2).2.2
  have h2 := (tS_free hy.1 hy.2).2.2
  rw [h, h2] at h1
  exact (Option.some.inj h1).symm
theorem val_none {x : Int} (hx : 0 ≤ x ∧ x < 12) : ∀ {L : List (Int × Nat)}, B12 (L.map (·.1)) → (valV (pr L) (kS x) = none ↔ ¬ x ∈ L.map (·.1))
  | [], _ => by simp [pr, valV_nil]
  | p :: L, hb => by
    have ih := val_none hx (L := L) fun y hy => hb y (List.mem_cons_of_mem _ hy)
    have hp := hb p.1 (by simp)
    by_cases e : p.1 = x
    · have : valV (pr (p :: L)) (kS x) = some (V.int (p.2 : Int)) := valV_pos (by show kS p.1 = kS x; rw [e])
      rw [this]
      simp [e]
    · have ne : ¬ kS p.1 = kS x := fun z => e (tS_inj hp hx (Sum.inr.inj z))
      have : valV (pr (p :: L)) (kS x) = valV (pr L) (kS x) := valV_neg ne
      rw [this, ih, List.map_cons, List.mem_cons]
      constructor
      · rintro h (z | z)
        · exact e z.symm
        · exact h z
      · exact fun h z => h (.inr z)
theorem val_some {x : Int} {k : Nat} : ∀ {L : List (Int × Nat)}, B12 (L.map (·.1)) → (L.map (·.1)).Nodup → (x, k) ∈ L → valV (pr L) (kS x) = some (V.int (k : Int))
  | [], _, _, h => by simp at h
  | p :: L, hb, nd, h => by
    rcases List.mem_cons.mp h with h | h
    · subst h
      exact valV_pos rfl
    · have hx : x ∈ L.map (·.1) := List.mem_map.mpr ⟨_, h, rfl⟩
      have ne : ¬ p.1 = x := fun e => (List.nodup_cons.mp nd).1 (by show p.1 ∈ _; rw [e]; exact hx)
      have hxb := hb x (List.mem_cons_of_mem _ hx)
      have hpb := hb p.1 (by simp)
      have nk : ¬ kS p.1 = kS x := fun z => ne (tS_inj hpb hxb (Sum.inr.inj z))
      have : valV (pr (p :: L)) (kS x) = valV (pr L) (kS x) := valV_neg nk
      rw [this]
      exact val_some (fun y hy => hb y (List.mem_cons_of_mem _ hy)) (List.nodup_cons.mp nd).2 h
theorem rdW_some {x : Str} {i : Int} (h : rdW x = some i) : x = tS i ∧ 0 ≤ i ∧ i < 12 := by
  unfold rdW at h
  split at h
  · rename_i hx
    have e := Option.some.inj h
    subst e
    have h1 : wr.idxOf x < wr.length := List.idxOf_lt_length_of_mem hx
    have h2 : wr.length = 12 := by decide +kernel
    have h3 : wr[wr.idxOf x]? = some x := by rw [List.getElem?_eq_getElem h1]; congr 1; exact List.getElem_idxOf h1
    refine ⟨?_, by omega, by omega⟩
    have h4 : ∀ k : Nat, k < 12 → wr[k]? = some (tS (k : Int)) := fun k hk => by
      unfold wr
      rw [List.getElem?_map, List.getElem?_range hk]
      rfl
    rw [h4 _ (by omega)] at h3
    exact (Option.some.inj h3).symm
  · cases h
theorem rdS_len {p : Str} {c : List Int} (h : RdS p c) : c.length = (Txt.split p " ").length := by
  have := congrArg List.length h
  rw [List.length_map, List.length_map] at this
  exact this.symm
theorem rdS_ne {p : Str} {c : List Int} (h : RdS p c) : c ≠ [] := fun e => by
  have := rdS_len h
  rw [e] at this
  exact split_ne p " " (List.length_eq_zero_iff.mp this.symm)
def RdP (ps : List Str) (i : Nat) (css : List (List Int)) : Prop := css.length = i ∧ ∀ (k : Nat) (p : Str) (c : List Int), ps[k]? = some p → css[k]? = some c → RdS p c
theorem map_some_inj {a b : List Int} (h : a.map some = b.map some) : a = b := (List.map_inj_right fun x y e => Option.some.inj e).mp h
theorem read_pre {t : Str} {css css' : List (List Int)} {i : Nat} (h : RdP (Txt.split t "/") i css) (h' : RdA t css') (hi : i ≤ (Txt.split t "/").length) : css'.take i = css := by
  refine List.ext_getElem? fun k => ?_
  by_cases hk : k < i
  · rw [List.getElem?_take_of_lt hk]
    have k1 : k < (Txt.split t "/").length := by omega
    have k2 : k < css.length := by rw [h.1]; exact hk
    have k3 : k < css'.length := by rw [← h'.1]; exact k1
    have e1 := List.getElem?_eq_getElem k1
    have e2 := List.getElem?_eq_getElem k2
    have e3 := List.getElem?_eq_getElem k3
    have r1 := h.2 k _ _ e1 e2
    have r2 := h'.2 k _ _ e1 e3
    rw [e2, e3]
    exact congrArg some (map_some_inj (r2.symm.trans r1))
  · rw [List.getElem?_eq_none (by rw [List.length_take]; omega), List.getElem?_eq_none (by rw [h.1]; omega)]
theorem read_dup {t p w : Str} {css css' : List (List Int)} {i j : Nat} {c0 : List Int} {x : Int} (h : RdP (Txt.split t "/") i css) (h' : RdA t css') (ep : (Txt.split t "/")[i]? = some p) (hc : ((Txt.split p " ").take j).map rdW = c0.map some)
    (ew : (Txt.split p " ")[j]? = some w) (hx : rdW w = some x) (hd : x ∈ css.flatten ++ c0) : ¬ css'.flatten.Nodup := by
  have hi := (List.getElem?_eq_some_iff.mp ep).1
  have i' : i < css'.length := by rw [← h'.1]; exact hi
  have e' : css'[i]? = some css'[i] := List.getElem?_eq_getElem i'
  have r := h'.2 i p _ ep e'
  have tk := read_pre h h' (Nat.le_of_lt hi)
  have hjl := (List.getElem?_eq_some_iff.mp ew).1
  have hc1 : css'[i].take j = c0 := by
    refine map_some_inj ?_
    rw [← hc, List.map_take, ← r, List.map_take]
  have hx1 : css'[i][j]? = some x := by
    have : (css'[i].map some)[j]? = some (some x) := by rw [← r, List.getElem?_map, ew]; show some (rdW w) = _; rw [hx]
    rw [List.getElem?_map] at this
    cases e : css'[i][j]? with
    | none => rw [e] at this; cases this
    | some y => rw [e] at this; exact Option.some.inj this
  have dec : css'.flatten = css.flatten ++ (c0 ++ x :: css'[i].drop (j + 1)) ++ (css'.drop (i + 1)).flatten := by
    have h1 : css' = css ++ css'[i] :: css'.drop (i + 1) := by
      rw [← tk]
      have h0 : css'.take i ++ css'.drop i = css' := List.take_append_drop i css'
      have h2 : css'.drop i = css'[i] :: css'.drop (i + 1) := List.drop_eq_getElem_cons i'
      rw [← h2, tk, ← tk, h0]
    have h3 : css'[i] = c0 ++ x :: css'[i].drop (j + 1) := by
      have jl : j < css'[i].length := (List.getElem?_eq_some_iff.mp hx1).1
      have h4 : css'[i].drop j = css'[i][j] :: css'[i].drop (j + 1) := List.drop_eq_getElem_cons jl
      have h5 : css'[i][j] = x := by rw [List.getElem?_eq_getElem jl] at hx1; exact Option.some.inj hx1
      rw [h5] at h4
      rw [← h4, ← hc1]
      exact (List.take_append_drop j _).symm
    calc css'.flatten = (css ++ css'[i] :: css'.drop (i + 1)).flatten := congrArg List.flatten h1
      _ = css.flatten ++ (css'[i] ++ (css'.drop (i + 1)).flatten) := by rw [List.flatten_append, List.flatten_cons]
      _ = css.flatten ++ (c0 ++ x :: css'[i].drop (j + 1)) ++ (css'.drop (i + 1)).flatten := by rw [← h3, List.append_assoc]
  intro nd
  rw [dec] at nd
  have nd1 : (css.flatten ++ (c0 ++ x :: css'[i].drop (j + 1))).Nodup := nd.sublist (List.sublist_append_left _ _)
  rw [← List.append_assoc, List.nodup_append] at nd1
  exact nd1.2.2 x hd x (by simp) rfl
def spLRead (K : PySem.W.Frag) : Sp := fun vs H Q _ => ∃ t : Str, vs = [.str t] ∧ t.length ≤ 200 ∧
  (∀ (css : List (List Int)) (labs : List Int) (D : Addr) (H' : Hp), RdA t css → Sh.Shs css → Sh.Labs css labs → Same H H' → H D = none → H' D = some (.lst (labs.map V.int)) → Q (.ref D) H') ∧
  ((¬ ∃ css, RdA t css ∧ Sh.Shs css) → ∀ H', Same H H' → Q .non H')
section
variable {P : Program} {w : World} {K : PySem.W.Frag} {mg : Str → Option Value} {base : Heap}
theorem scLRead : FnScope ["text", "names", "pieces", "k", "word", "marks", "thing"] ["text"] (defScope sLRead) := ⟨rfl, rfl, rfl, by decide +kernel, rfl, by decide +kernel, by decide +kernel⟩
theorem ok_lread {f : Addr} {fd : FuncData} (F : Fun K "_law_read" "_law_read" sLRead f fd) (ml : mg "len" = none) (mr : mg "range" = none) (mst : mg "str" = none) : FnOk P w K mg base CX0 1 f fd ["text"] (spLRead K) := by
  refine LQ.ok0 F scLRead (fun vs H Q E h => ?_) (fun cdv A outer s H vs Q E hr h => ?_)
  · obtain ⟨t, rfl, _⟩ := h
    rfl
  obtain ⟨t, rfl, ht, q, qN⟩ := h
  have hu := hu_of hr
  refine ⟨_, (LQ.pss_cons (LQ.ps_set (i := 1) scLRead.nd rfl (Or.inl rfl) (LQ.QE.mk pe_dnewK)) (LQ.pss_cons (LQ.ps_set (i := 2) scLRead.nd rfl (Or.inl rfl) (LQ.QE.mk (pe_bm PySem.F.plainAttrs_str PySem.F.slot_str_split PySem.F.type_str_split mt_split (pv 0) (pa_cons pe_str pa_nil)))) (LQ.pss_cons (LQ.ps_for PassesOwn.never rfl (LQ.pi_range1 rfl mr (LQ.pa_cons (LQ.pe_callB call_len_seq rfl ml PySem.boot_len (LQ.pa_cons (LQ.pv 2) LQ.pa_nil)) LQ.pa_nil)) (pg_name (i := 3) scLRead.nd rfl (Or.inl rfl)) (LQ.pss_one (LQ.ps_for PassesOwn.never rfl (LQ.pi_list (LQ.QE.mk (pe_bm PySem.F.plainAttrs_str PySem.F.slot_str_split PySem.F.type_str_split mt_split (pe_ix ix_list (pv 2) (pv 3) (fun _ _ => rfl)) (pa_cons pe_str pa_nil)))) (pg_name (i := 4) scLRead.nd rfl (Or.inl rfl)) (LQ.pss_cons (LQ.ps_if (LQ.pt_w (LQ.pw_or (LQ.pt_cmpR op_notIn_seq (LQ.pv 4) (LQ.pe_lstW (LQ.pa_cons LQ.pe_str (LQ.pa_cons LQ.pe_str (LQ.pa_cons LQ.pe_str (LQ.pa_cons LQ.pe_str (LQ.pa_cons LQ.pe_str (LQ.pa_cons LQ.pe_str (LQ.pa_cons LQ.pe_str (LQ.pa_cons LQ.pe_str (LQ.pa_cons LQ.pe_str (LQ.pa_cons LQ.pe_str (LQ.pa_cons LQ.pe_str (LQ.pa_cons LQ.pe_str LQ.pa_nil))))))))))))) rfl) (LQ.pw_or1 (LQ.pt_din hu (LQ.pv 4) (LQ.pv 1))))) (LQ.pss_one (LQ.ps_ret LQ.pe_non)) LQ.pss_nil) (LQ.pss_one (LQ.ps_dput hu (LQ.pv 1) (LQ.pv 4) (LQ.pv 3) rfl)))))) (LQ.pss_cons (LQ.ps_set (i := 5) scLRead.nd rfl (Or.inl rfl) (LQ.pe_lst LQ.pa_nil)) (LQ.pss_cons (LQ.ps_for PassesOwn.never rfl (LQ.pi_range1 rfl mr (LQ.pa_cons (LQ.pe_callB call_lenD rfl ml PySem.boot_len (LQ.pa_cons (LQ.pv 1) LQ.pa_nil)) LQ.pa_nil)) (pg_name (i := 6) scLRead.nd rfl (Or.inl rfl)) (LQ.pss_cons (LQ.ps_if (LQ.pt_dnotin hu (LQ.pe_callTy call_str_int rfl mst boot_str1 (LQ.pa_cons (LQ.pv 6) LQ.pa_nil)) (LQ.pv 1)) (LQ.pss_one (LQ.ps_ret LQ.pe_non)) LQ.pss_nil) (LQ.pss_one (LQ.ps_expr (LQ.QE.mk (pe_bm PySem.F.plainAttrs_list PySem.F.slot_list_append PySem.F.type_list_append mt_append (pv 5) (pa_cons (pe_dget hu (pv 1) (pe_callTy call_str_int rfl mst boot_str1 (pa_cons (pv 6) pa_nil)) (fun _ _ => rfl)) pa_nil))))))) (LQ.pss_one (LQ.ps_ret (LQ.pv 5)))))))), ?_⟩
  intro d hd
  have s0 := same_upd hd (.dK [])
  have hsl := split_le t ("/" : Str)
  refine ⟨_, rfl, rfl, t, ("/" : Str), rfl, rfl, by decide, by omega, fun pc hpc => ?_⟩
  have s1 := same_upd hpc (.lst ((Txt.split t "/").map V.str))
  have gd : upd (upd H d (.dK [])) pc (.lst ((Txt.split t "/").map V.str)) d = some (.dK []) := s1 _ _ upd_same
  have gp : upd (upd H d (.dK [])) pc (.lst ((Txt.split t "/").map V.str)) pc = some (.lst ((Txt.split t "/").map V.str)) := upd_same
  have sA := s0.trans s1
  have npd : pc ≠ d := fun e => by subst e; rw [upd_same] at hpc; cases hpc
  generalize upd (upd H d (.dK [])) pc (.lst ((Txt.split t "/").map V.str)) = H1 at *
  refine ⟨_, rfl, pc, _, rfl, .inl (SqL.of gp), _, rfl, (by rw [List.length_map]; omega), (by rw [List.length_map]; omega), ?_⟩
  rw [List.length_map, Int.toNat_natCast]
  have B12n : ∀ {l : List Int}, l.Nodup → B12 l → l.length ≤ 12 := fun nd hb => by
    have := sub_len (l := Sh.upto 12) nd fun x hx => by
      have := hb x hx
      exact Sh.mem_upto.mpr (by omega)
    rw [Sh.length_upto] at this
    exact this
  refine for_range (lo := 0) (n := (Txt.split t "/").length) (fun i σ H2 => ∃ (css : List (List Int)) (L : List (Int × Nat)) (v3 v4 : Option V), σ = [some (.str t), some (.ref d), some (.ref pc), v3, v4, none, none] ∧ Same H H2 ∧ H2 pc = some (.lst ((Txt.split t "/").map V.str)) ∧ H2 d = some (.dK (pr L)) ∧ RdP (Txt.split t "/") i css ∧ L.map (·.1) = css.flatten ∧ css.flatten.Nodup ∧ B12 css.flatten ∧ ∀ (k : Nat) (c : List Int) (x : Int), css[k]? = some c → x ∈ c → (x, k) ∈ L)
    ⟨[], [], none, none, rfl, sA, gp, gd, ⟨rfl, fun k p c _ e => by simp at e⟩, rfl, List.nodup_nil, fun x hx => by simp at hx, fun k c x e => by simp at e⟩ ?_ ?_
  · rintro i σ H2 hi ⟨css, L, v3, v4, rfl, s2, hp2, hd2, hrd, hLf, hnd, hb, hlab⟩
    rw [Int.zero_add]
    have ep := List.getElem?_eq_getElem hi
    generalize hpp : (Txt.split t "/")[i] = p at ep
    have hpl : p.length ≤ 200 := Nat.le_trans (part_short (List.mem_of_getElem? ep)) ht
    have hsp := split_le p (" " : Str)
    refine ⟨_, rfl, _, rfl, pc, _, _, .str p, rfl, rfl, SqL.of hp2, atI_nat (by rw [List.getElem?_map, ep]; rfl), rfl, p, (" " : Str), rfl, rfl, by decide, by omega, fun wl hwl => ?_⟩
    have s3 := same_upd hwl (.lst ((Txt.split p " ").map V.str))
    have gw : upd H2 wl (.lst ((Txt.split p " ").map V.str)) wl = some (.lst ((Txt.split p " ").map V.str)) := upd_same
    have nwd : wl ≠ d := fun e => by subst e; rw [hd2] at hwl; cases hwl
    have hp3 := s3 _ _ hp2
    have hd3 := s3 _ _ hd2
    have s23 := s2.trans s3
    generalize upd H2 wl (.lst ((Txt.split p " ").map V.str)) = H3 at *
    refine ⟨wl, rfl, ⟨_, SqL.of gw⟩, for_list (K := K) (a := wl) (xs := (Txt.split p " ").map V.str) (fun j σ H4 => ∃ (c0 : List Int) (v4 : Option V), σ = [some (.str t), some (.ref d), some (.ref pc), some (.int (i : Int)), v4, none, none] ∧ Same H H4 ∧ H4 wl = some (.lst ((Txt.split p " ").map V.str)) ∧ H4 pc = some (.lst ((Txt.split t "/").map V.str)) ∧ H4 d = some (.dK (pr (L ++ c0.map fun x => (x, i)))) ∧ ((Txt.split p " ").take j).map rdW = c0.map some ∧ (css.flatten ++ c0).Nodup ∧ B12 (css.flatten ++ c0))
      ⟨[], v4, rfl, s23, gw, hp3, (by rw [List.map_nil, List.append_nil]; exact hd3), rfl, (by rw [List.append_nil]; exact hnd), (by rw [List.append_nil]; exact hb)⟩ (fun j σ H4 _ ⟨_, _, _, _, hl, _⟩ => SqL.of hl) ?_ ?_⟩
    · rintro j y σ H4 hj ⟨c0, v4, rfl, s4, hw4, hp4, hd4, hc0, nd4, hb4⟩
      rw [List.getElem?_map] at hj
      cases ew : (Txt.split p " ")[j]? with
      | none => rw [ew] at hj; cases hj
      | some y' =>
        rw [ew] at hj
        cases hj
        refine ⟨_, rfl, (by show 12 ≤ sizeLine; decide), fun wd H5 s5 p5 => ?_⟩
        have ewr : ([V.str "0", V.str "1", V.str "2", V.str "3", V.str "4", V.str "5", V.str "6", V.str "7", V.str "8", V.str "9", V.str "10", V.str "11"] : List V) = wr.map V.str := by
          have : (["0", "1", "2", "3", "4", "5", "6", "7", "8", "9", "10", "11"] : List Str) = wr := by decide +kernel
          rw [← this]
          rfl
        rw [ewr] at p5
        have eL : (L ++ c0.map fun x => (x, i)).map (·.1) = css.flatten ++ c0 := by
          rw [List.map_append, hLf, List.map_map]
          congr 1
          exact List.map_id _
        refine ⟨wd, _, rfl, .inl (SqL.of p5), rfl, flat_strs wr, _, rfl, ?_⟩
        rw [in_wr]
        by_cases cw : y' ∈ wr
        · rw [decide_eq_true cw]
          refine iteF ?_
          have ei : rdW y' = some ((wr.idxOf y' : Nat) : Int) := if_pos cw
          obtain ⟨ey, hx0, hx1⟩ := rdW_some ei
          generalize ((wr.idxOf y' : Nat) : Int) = x at *
          subst ey
          have hd5 := s5 _ _ hd4
          have gx := DGet.k (k := kS x) hd5
          refine ⟨_, rfl, _, rfl, d, _, rfl, gx, _, rfl, ?_⟩
          cases ev : valV (pr (L ++ c0.map fun x => (x, i))) (kS x) with
          | some v =>
            refine iteT ?_
            refine qN ?_ _ (s4.trans s5)
            rintro ⟨css', h', hs'⟩
            have hxm : x ∈ css.flatten ++ c0 := by
              rw [← eL]
              refine Classical.byContradiction fun z => ?_
              rw [(val_none ⟨hx0, hx1⟩ (by rw [eL]; exact hb4)).mpr z] at ev
              cases ev
            exact read_dup hrd h' ep hc0 ew ei hxm (hs'.2.2.2.symm.nodup (Sh.upto_nodup _))
          | none =>
            refine iteF ?_
            have hxn := (val_none ⟨hx0, hx1⟩ (by rw [eL]; exact hb4)).mp ev
            rw [eL] at hxn
            have len12 : (L ++ c0.map fun x => (x, i)).length ≤ 12 := by
              have := B12n nd4 hb4
              rw [← eL, List.length_map] at this
              exact this
            refine ⟨_, rfl, _, rfl, _, rfl, d, _, rfl, DPut.k (k := kS x) hd5 (small1000 (by unfold pr; rw [List.length_map]; omega)), ?_⟩
            rw [putK_new _ ev]
            have hdn : H d = none := hd
            refine ⟨c0 ++ [x], some (.str (tS x)), rfl, (s4.trans s5).upd2 hdn, by rw [upd_ne nwd]; exact s5 _ _ hw4, by rw [upd_ne npd]; exact s5 _ _ hp4, ?_, ?_, ?_, ?_⟩
            · rw [upd_same]
              congr 2
              unfold pr
              rw [List.map_append (l₂ := [x]), ← List.append_assoc, List.map_append (l₂ := List.map _ [x])]
              rfl
            · rw [List.take_add_one, ew, List.map_append, List.map_append, hc0]
              show _ ++ [rdW (tS x)] = _ ++ [some x]
              rw [ei]
            · rw [← List.append_assoc, List.nodup_append]
              refine ⟨nd4, by simp, fun a ha b hb' e => ?_⟩
              rw [List.mem_singleton] at hb'
              subst hb'
              subst e
              exact hxn ha
            · intro z hz
              rw [← List.append_assoc, List.mem_append] at hz
              rcases hz with hz | hz
              · exact hb4 z hz
              · rw [List.mem_singleton] at hz
                subst hz
                exact ⟨hx0, hx1⟩
        · rw [decide_eq_false cw]
          refine iteT ?_
          refine qN ?_ _ (s4.trans s5)
          rintro ⟨css', h', _⟩
          have i' : i < css'.length := by rw [← h'.1]; exact hi
          have r := h'.2 i p _ ep (List.getElem?_eq_getElem i')
          have h1 : ((Txt.split p " ").map rdW)[j]? = (css'[i].map some)[j]? := by rw [r]
          rw [List.getElem?_map, List.getElem?_map, ew] at h1
          have h2 : rdW y' = none := if_neg cw
          cases e3 : css'[i][j]? with
          | none => rw [e3] at h1; cases h1
          | some z =>
            rw [e3] at h1
            have := Option.some.inj h1
            rw [h2] at this
            cases this
    · rintro σ H4 ⟨c0, v4, rfl, s4, hw4, hp4, hd4, hc0, nd4, hb4⟩
      rw [List.length_map, List.take_length] at hc0
      refine ⟨css ++ [c0], L ++ c0.map fun x => (x, i), _, _, rfl, s4, hp4, hd4, ⟨by rw [List.length_append, hrd.1]; rfl, fun k p' c e1 e2 => ?_⟩, ?_, ?_, ?_, ?_⟩
      · by_cases hk : k < css.length
        · rw [List.getElem?_append_left hk] at e2
          exact hrd.2 k p' c e1 e2
        · rw [List.getElem?_append_right (by omega)] at e2
          have k0 : k - css.length = 0 := by
            cases z : k - css.length with
            | zero => rfl
            | succ n => rw [z] at e2; simp at e2
          rw [k0] at e2
          cases e2
          have : k = i := by have := hrd.1; omega
          subst this
          rw [ep] at e1
          cases e1
          exact hc0
      · rw [List.flatten_append, List.map_append, hLf, List.map_map]
        congr 1
        show c0.map (fun x => x) = [c0].flatten
        simp
      · rw [List.flatten_append]
        simpa using nd4
      · rw [List.flatten_append]
        intro x hx
        exact hb4 x (by simpa using hx)
      · intro k c x e1 hx
        by_cases hk : k < css.length
        · rw [List.getElem?_append_left hk] at e1
          exact List.mem_append.mpr (.inl (hlab k c x e1 hx))
        · rw [List.getElem?_append_right (by omega)] at e1
          have k0 : k - css.length = 0 := by
            cases z : k - css.length with
            | zero => rfl
            | succ n => rw [z] at e1; simp at e1
          rw [k0] at e1
          cases e1
          have : k = i := by have := hrd.1; omega
          subst this
          exact List.mem_append.mpr (.inr (List.mem_map.mpr ⟨x, hx, rfl⟩))
  · rintro σ H2 ⟨css, L, v3, v4, rfl, s2, hp2, hd2, hrd, hLf, hnd, hb, hlab⟩
    have hA : RdA t css := ⟨hrd.1.symm, hrd.2⟩
    refine ⟨(by show 0 ≤ sizeLine; decide), fun mk hmk => ?_⟩
    have s3 := same_upd hmk (.lst [])
    have gm : upd H2 mk (.lst []) mk = some (.lst (([] : List Int).map V.int)) := upd_same
    have hd3 := s3 _ _ hd2
    have hmk0 : H mk = none := s2.free hmk
    have nmd : d ≠ mk := fun e => by subst e; rw [hd2] at hmk; cases hmk
    have s23 := s2.trans s3
    generalize upd H2 mk (.lst []) = H3 at *
    have len12 := B12n hnd hb
    have eLl : (pr L).length = css.flatten.length := by unfold pr; rw [List.length_map, ← hLf, List.length_map]
    refine ⟨_, rfl, d, _, rfl, hd3, _, rfl, (by rw [eLl]; omega), (by rw [eLl]; omega), ?_⟩
    rw [Int.toNat_natCast, eLl]
    refine for_range (lo := 0) (n := css.flatten.length) (fun i σ H4 => ∃ (labs : List Int) (v6 : Option V), σ = [some (.str t), some (.ref d), some (.ref pc), v3, v4, some (.ref mk), v6] ∧ Same H H4 ∧ H4 d = some (.dK (pr L)) ∧ H4 mk = some (.lst (labs.map V.int)) ∧ labs.length = i ∧ ∀ u : Nat, u < i → ∃ k : Nat, ((u : Int), k) ∈ L ∧ labs[u]? = some (k : Int))
      ⟨[], none, rfl, s23, hd3, gm, rfl, fun u hu' => absurd hu' (Nat.not_lt_zero _)⟩ ?_ ?_
    · rintro i σ H4 hi ⟨labs, v6, rfl, s4, hd4, hm4, hll, hlu⟩
      rw [Int.zero_add]
      have hib : 0 ≤ (i : Int) ∧ (i : Int) < 12 := ⟨by omega, by omega⟩
      have gx := DGet.k (k := kS (i : Int)) hd4
      refine ⟨_, rfl, (i : Int), rfl, log_small (by omega) (by omega), _, rfl, d, _, rfl, gx, _, rfl, ?_⟩
      have vn := val_none hib (L := L) (by rw [hLf]; exact hb)
      cases ev : valV (pr L) (kS (i : Int)) with
      | none =>
        refine iteT ?_
        refine qN ?_ _ s4
        rintro ⟨css', h', hs'⟩
        have e := rdA_uniq hA h'
        subst e
        have := vn.mp ev
        rw [hLf] at this
        exact this (hs'.2.2.2.symm.mem_iff.mp (Sh.mem_upto.mpr (by omega)))
      | some v =>
        refine iteF ?_
        have him : (i : Int) ∈ L.map (·.1) := by
          refine Classical.byContradiction fun z => ?_
          rw [vn.mpr z] at ev
          cases ev
        obtain ⟨⟨x, k⟩, hxk, ex⟩ := List.mem_map.mp him
        have ex : x = (i : Int) := ex
        subst ex
        have ev2 := val_some (by rw [hLf]; exact hb) (by rw [hLf]; exact hnd) hxk
        rw [ev2] at gx
        refine ⟨_, rfl, .inl ⟨rfl, _, SqL.of hm4⟩, _, rfl, _, rfl, (i : Int), rfl, log_small (by omega) (by omega), d, _, rfl, gx, mk, _, _, rfl, rfl, hm4, small1000 (by rw [List.length_map]; omega), ?_⟩
        refine ⟨labs ++ [(k : Int)], _, rfl, s4.upd2 hmk0, by rw [upd_ne nmd]; exact hd4, by rw [upd_same, List.map_append]; rfl, by rw [List.length_append, hll]; rfl, fun u hu' => ?_⟩
        by_cases hui : u < i
        · obtain ⟨k', h1, h2⟩ := hlu u hui
          exact ⟨k', h1, by rw [List.getElem?_append_left (by omega)]; exact h2⟩
        · have : u = i := by omega
          subst this
          exact ⟨k, hxk, by rw [List.getElem?_append_right (by omega), hll, Nat.sub_self]; rfl⟩
    · rintro σ H4 ⟨labs, v6, rfl, s4, hd4, hm4, hll, hlu⟩
      have hall : ∀ x ∈ Sh.upto css.flatten.length, x ∈ css.flatten := fun x hx => by
        obtain ⟨h0, h1⟩ := Sh.mem_upto.mp hx
        obtain ⟨k, hk, _⟩ := hlu x.toNat (by omega)
        rw [← hLf]
        exact List.mem_map.mpr ⟨_, hk, by show ((x.toNat : Nat) : Int) = x; omega⟩
      have hperm := (perm_sub (Sh.upto_nodup _) hall (by rw [Sh.length_upto]; exact Nat.le_refl _)).symm
      have hne : ∀ c ∈ css, c ≠ [] := fun c hc => by
        obtain ⟨k, hk, ek⟩ := Sh.mem_ix hc
        have k1 : k < (Txt.split t "/").length := by rw [← hrd.1]; exact hk
        exact rdS_ne (hrd.2 k _ c (List.getElem?_eq_getElem k1) ek)
      have h1 : 1 ≤ css.flatten.length := by
        have hc0 : css ≠ [] := fun e => by
          have := hrd.1
          rw [e] at this
          exact split_ne t "/" (List.length_eq_zero_iff.mp this.symm)
        cases css with
        | nil => exact absurd rfl hc0
        | cons c r =>
          have := List.length_pos_iff.mpr (hne c (by simp))
          rw [List.flatten_cons, List.length_append]
          omega
      refine ⟨_, rfl, q css labs mk H4 hA ⟨hne, h1, len12, hperm⟩ ⟨hll, fun u k c e1 hu' => ?_⟩ s4 hmk0 hm4⟩
      have hm : ((u : Int), k) ∈ L := hlab k c _ e1 hu'
      have hub : (u : Int) ∈ css.flatten := by rw [← hLf]; exact List.mem_map.mpr ⟨_, hm, rfl⟩
      have hul := (Sh.mem_upto.mp (hperm.mem_iff.mp hub)).2
      obtain ⟨k', h2, h3⟩ := hlu u (by omega)
      have v1 := val_some (by rw [hLf]; exact hb) (by rw [hLf]; exact hnd) hm
      have v2 := val_some (by rw [hLf]; exact hb) (by rw [hLf]; exact hnd) h2
      rw [v1] at v2
      have := Option.some.inj v2
      injection this with this
      rw [h3, this]
end
theorem cl1_app (a b : Str) : cl1 (a ++ b) = cl1 a ++ cl1 b := by
  show (a.cps ++ b.cps).toList = _
  rw [Array.toList_append]
  rfl
def gl (c : Nat) (ps : List Str) : Str := ps.foldl (fun t p => t ++ ⟨#[c]⟩ ++ p) ""
theorem gl_snoc (c : Nat) (ps : List Str) (p : Str) : gl c (ps ++ [p]) = gl c ps ++ ⟨#[c]⟩ ++ p := by
  unfold gl
  rw [List.foldl_append]
  rfl
theorem gl_from (c : Nat) : ∀ (ps : List Str) (x : Str), cl1 (ps.foldl (fun t p => t ++ ⟨#[c]⟩ ++ p) x) = cl1 x ++ (if ps = [] then [] else c :: jl c (ps.map cl1))
  | [], x => by simp
  | [p], x => by
    show cl1 (x ++ ⟨#[c]⟩ ++ p) = _
    rw [cl1_app, cl1_app]
    show cl1 x ++ [c] ++ cl1 p = cl1 x ++ c :: cl1 p
    simp
  | p :: p' :: r, x => by
    show cl1 ((p' :: r).foldl _ (x ++ ⟨#[c]⟩ ++ p)) = _
    rw [gl_from c (p' :: r) _, if_neg (by simp), if_neg (by simp), cl1_app, cl1_app]
    show cl1 x ++ [c] ++ cl1 p ++ c :: jl c ((p' :: r).map cl1) = cl1 x ++ c :: (cl1 p ++ c :: jl c ((p' :: r).map cl1))
    simp
theorem sliceIx1 (n : Nat) : Builtin.Str.strSliceIndices (some 1) none 1 n = (List.range (n - 1)).map (fun k => 1 + k) := by
  by_cases h : 1 ≤ n
  · have e := StrLaws.strSliceIndices_plain (a := 1) (b := n) (len := n) h (Nat.le_refl n)
    rw [← e]
    unfold Builtin.Str.strSliceIndices
    have e2 : max (0 : Int) (min (n : Int) (n : Int)) = n := by omega
    have h2 : ¬ ((n : Int) < 0) := by omega
    simp [h2, e2]
    try omega
  · have : n = 0 := by omega
    subst this
    decide
theorem slice1 (z : Str) : cl1 (Txt.slice z (some 1) none) = (cl1 z).drop 1 := by
  unfold Txt.slice
  have hl : z.length = (cl1 z).length := by unfold cl1 Str.length; simp
  rw [sliceIx1]
  by_cases h : z.length = 0
  · have e : ((1 : Int) == 1 && ((List.range (z.length - 1)).map fun k => 1 + k).length == z.length) = true := by rw [h]; rfl
    rw [if_pos e]
    have : cl1 z = [] := List.length_eq_zero_iff.mp (by omega)
    rw [this]
    rfl
  · have e : ¬ ((1 : Int) == 1 && ((List.range (z.length - 1)).map fun k => 1 + k).length == z.length) = true := by
      rw [List.length_map, List.length_range]
      simp
      omega
    rw [if_neg e]
    show (List.filterMap _ _) = _
    have := StrLaws.picks (cl1 z) (z.length - 1) 1 (by omega)
    have e2 : ((cl1 z).drop 1).take (z.length - 1) = (cl1 z).drop 1 := List.take_of_length_le (by rw [List.length_drop]; omega)
    rw [e2] at this
    rw [← this]
    unfold cl1
    simp
theorem gl_join (c : Nat) (ps : List Str) : Txt.slice (gl c ps) (some 1) none = Str.join ⟨#[c]⟩ ps := by
  refine cl1_inj ?_
  rw [slice1, join_jl]
  unfold gl
  rw [gl_from]
  have e : cl1 ("" : Str) = [] := by decide
  rw [e, List.nil_append]
  split
  · rename_i h; rw [h]; rfl
  · rfl
theorem gl_len {c b : Nat} : ∀ {ps : List Str}, (∀ p ∈ ps, p.length ≤ b) → (gl c ps).length ≤ (b + 1) * ps.length := fun {ps} => by
  suffices h : ∀ (ps : List Str) (x : Str), (∀ p ∈ ps, p.length ≤ b) → (ps.foldl (fun t p => t ++ ⟨#[c]⟩ ++ p) x).length ≤ x.length + (b + 1) * ps.length by
    intro hp
    have := h ps "" hp
    have e : ("" : Str).length = 0 := by decide
    unfold gl
    omega
  intro ps
  induction ps with
  | nil => intro x _; simp
  | cons p ps ih =>
    intro x hp
    have h1 := ih (x ++ ⟨#[c]⟩ ++ p) fun y hy => hp y (List.mem_cons_of_mem _ hy)
    rw [Str.length_append, Str.length_append] at h1
    have h2 := hp p (by simp)
    have e : (⟨#[c]⟩ : Str).length = 1 := rfl
    rw [e] at h1
    show (ps.foldl (fun t p => t ++ ⟨#[c]⟩ ++ p) (x ++ ⟨#[c]⟩ ++ p)).length ≤ _
    rw [List.length_cons, Nat.mul_add]
    omega
def spLText (K : PySem.W.Frag) : Sp := fun vs H Q _ => ∃ (a : Addr) (ns : List Int), vs = [.ref a] ∧ SqL K H a (ns.map V.int) ∧ (ns ≠ [] ∧ ns.length ≤ 12 ∧ ∀ x ∈ ns, 0 ≤ x ∧ x < 12) ∧ ∀ H', Same H H' → Q (.str (shownT ns)) H'
section
variable {P : Program} {w : World} {K : PySem.W.Frag} {mg : Str → Option Value} {base : Heap}
theorem scLText : FnScope ["one", "text", "share", "part", "thing"] ["one"] (defScope sLText) := ⟨rfl, rfl, rfl, by decide +kernel, rfl, by decide +kernel, by decide +kernel⟩
theorem ok_ltext {f : Addr} {fd : FuncData} (F : Fun K "_law_text" "_law_text" sLText f fd) (GS : Fn P w K mg base "_law_shares" ["one"] 1 (spLShares K)) (mst : mg "str" = none) : FnOk P w K mg base CX0 2 f fd ["one"] (spLText K) := by
  refine F.ok scLText (fun vs H Q E h => ?_) (fun cdv A outer s H vs Q E hr h => ?_)
  · obtain ⟨a, ns, rfl, _⟩ := h
    rfl
  obtain ⟨a, ns, rfl, hS, hbd, q⟩ := h
  refine ⟨_, pss_cons (ps_set (i := 1) scLText.nd rfl (Or.inl rfl) pe_str)
    (pss_cons (ps_for PassesOwn.never rfl (pi_list (pe_fn GS hr (pa_cons (pv 0) pa_nil))) (pg_name (i := 2) scLText.nd rfl (Or.inl rfl))
      (pss_cons (ps_set (i := 3) scLText.nd rfl (Or.inl rfl) pe_str)
      (pss_cons (ps_for PassesOwn.never rfl (pi_list (pv 2)) (pg_name (i := 4) scLText.nd rfl (Or.inl rfl))
        (pss_one (ps_set (i := 3) scLText.nd rfl (Or.inl rfl) (pe_op op_add_str (pe_op op_add_str (pv 3) pe_str) (pe_callTy call_str_int rfl mst boot_str1 (pa_cons (pv 4) pa_nil))))))
      (pss_one (ps_set (i := 1) scLText.nd rfl (Or.inl rfl) (pe_op op_add_str (pe_op op_add_str (pv 1) pe_str) (pe_slice sl_str (pv 3) (po_some pe_int) po_none)))))))
    (pss_one (ps_ret (pe_slice sl_str (pv 1) (po_some pe_int) po_none)))), ?_⟩
  refine ⟨_, rfl, a, ns, rfl, hS, hbd, fun D as H1 s1 hD h1 nd nD hfr ll => ?_⟩
  have hsh : ∀ c ∈ Sh.shs ns, c.length ≤ 12 ∧ ∀ x ∈ c, 0 ≤ x ∧ x < 100 := fun c hc => by
    obtain ⟨k, hk, rfl⟩ := Sh.mem_shs.mp hc
    refine ⟨?_, fun x hx => ?_⟩
    · unfold Sh.sh1
      rw [List.length_map]
      have := List.length_filter_le (fun t => decide (ns[t]? = some ((k : Nat) : Int))) (List.range ns.length)
      rw [List.length_range] at this
      have := hbd.2.1
      omega
    · obtain ⟨t, rfl, ht, _⟩ := Sh.mem_sh1.mp hx
      have := hbd.2.1
      exact ⟨by omega, by omega⟩
  have hfrl : (Sh.shs ns).length ≤ 12 := by
    rw [Sh.shs_len]
    have : Sh.fr ns ≤ 12 := Sh.fr_le (by decide) fun x hx => (hbd.2.2 x hx).2
    omega
  have lenS : ∀ c ∈ Sh.shs ns, (shareT c).length ≤ 36 := fun c hc => by
    have h1 := shareT_len (hsh c hc).2
    have h2 := (hsh c hc).1
    omega
  have z63 : (1000 : Nat) ≤ sizeLine := by decide
  refine ⟨D, rfl, ⟨_, SqL.of h1⟩, for_list (K := K) (a := D) (xs := as.map V.ref) (fun i σ H2 => ∃ (v2 v3 v4 : Option V), σ = [some (.ref a), some (.str (gl 47 (((Sh.shs ns).take i).map shareT))), v2, v3, v4] ∧ Same H1 H2)
    ⟨none, none, none, rfl, Same.refl H1⟩ (fun i σ H2 _ ⟨_, _, _, _, s2⟩ => SqL.of (s2 _ _ h1)) ?_ ?_⟩
  · rintro i x σ H2 hi ⟨v2, v3, v4, rfl, s2⟩
    obtain ⟨p, c, rfl, ep, ec, hp⟩ := ll.at hi
    have hcm := List.mem_of_getElem? ec
    obtain ⟨hcl, hcb⟩ := hsh c hcm
    have hil := (List.getElem?_eq_some_iff.mp ec).1
    refine ⟨_, rfl, p, rfl, ⟨_, SqL.of (s2 _ _ hp)⟩, for_list (K := K) (a := p) (xs := c.map V.int) (fun j σ H3 => ∃ (v4 : Option V), σ = [some (.ref a), some (.str (gl 47 (((Sh.shs ns).take i).map shareT))), some (.ref p), some (.str (gl 32 ((c.take j).map tS))), v4] ∧ H3 = H2)
      ⟨v4, rfl, rfl⟩ (fun j σ H3 _ ⟨_, _, e⟩ => by rw [e]; exact SqL.of (s2 _ _ hp)) ?_ ?_⟩
    · rintro j y σ H3 hj ⟨v4, rfl, rfl⟩
      rw [List.getElem?_map] at hj
      cases ey : c[j]? with
      | none => rw [ey] at hj; cases hj
      | some y' =>
        rw [ey] at hj
        cases hj
        have hyb := hcb y' (List.mem_of_getElem? ey)
        have hjl := (List.getElem?_eq_some_iff.mp ey).1
        have hgl : (gl 32 ((c.take j).map tS)).length ≤ 36 := by
          have := gl_len (c := 32) (b := 2) (ps := (c.take j).map tS) (fun q hq => by obtain ⟨u, hu, rfl⟩ := List.mem_map.mp hq; have := hcb u (List.mem_of_mem_take hu); exact tS_len u this.1 this.2)
          rw [List.length_map, List.length_take] at this
          omega
        have hsp : (" " : Str).length = 1 := by decide
        have hty := tS_len y' hyb.1 hyb.2
        refine ⟨_, rfl, _, _, rfl, rfl, by omega, _, rfl, y', rfl, log_small hyb.1 hyb.2, _, _, rfl, rfl, (by rw [Str.length_append, hsp]; show _ + 1 + (tS y').length ≤ _; omega), ?_⟩
        refine ⟨some (.int y'), ?_, rfl⟩
        rw [List.take_add_one, ey, List.map_append]
        show _ = [_, _, _, some (V.str (gl 32 ((c.take j).map tS ++ [tS y']))), _]
        rw [gl_snoc, ← sp_eq]
        rfl
    · rintro σ H3 ⟨v4, rfl, rfl⟩
      rw [List.length_map, List.take_length]
      have hgl : (gl 32 (c.map tS)).length ≤ 36 := by
        have := gl_len (c := 32) (b := 2) (ps := c.map tS) (fun q hq => by obtain ⟨u, hu, rfl⟩ := List.mem_map.mp hq; have := hcb u hu; exact tS_len u this.1 this.2)
        rw [List.length_map] at this
        omega
      have hgt : (gl 47 (((Sh.shs ns).take i).map shareT)).length ≤ 444 := by
        have := gl_len (c := 47) (b := 36) (ps := ((Sh.shs ns).take i).map shareT) (fun q hq => by obtain ⟨u, hu, rfl⟩ := List.mem_map.mp hq; exact lenS u (List.mem_of_mem_take hu))
        rw [List.length_map, List.length_take] at this
        have h3 : (36 + 1) * min i (Sh.shs ns).length ≤ 37 * 12 := Nat.mul_le_mul (Nat.le_refl _) (by omega)
        omega
      have hslp : ("/" : Str).length = 1 := by decide
      have ecut : Txt.slice (gl 32 (c.map tS)) (some 1) none = shareT c := by rw [gl_join, ← sp_eq]; rfl
      refine ⟨_, rfl, _, _, rfl, rfl, by omega, _, rfl, _, rfl, _, rfl, by omega, _, _, rfl, rfl, ?_, ?_⟩
      · rw [ecut, Str.length_append, hslp]
        have := lenS c hcm
        omega
      · rw [ecut]
        refine ⟨some (.ref p), some (.str (gl 32 (c.map tS))), v4, ?_, s2⟩
        rw [List.take_add_one, ec, List.map_append]
        show _ = [_, some (V.str (gl 47 (((Sh.shs ns).take i).map shareT ++ [shareT c]))), _, _, _]
        rw [gl_snoc, ← sl_eq]
        rfl
  · rintro σ H2 ⟨v2, v3, v4, rfl, s2⟩
    have hlen : (as.map V.ref).length = (Sh.shs ns).length := by rw [List.length_map]; exact ll.1
    rw [hlen, List.take_length]
    have hgt : (gl 47 ((Sh.shs ns).map shareT)).length ≤ 444 := by
      have := gl_len (c := 47) (b := 36) (ps := (Sh.shs ns).map shareT) (fun q hq => by obtain ⟨u, hu, rfl⟩ := List.mem_map.mp hq; exact lenS u hu)
      rw [List.length_map] at this
      have h3 : (36 + 1) * (Sh.shs ns).length ≤ 37 * 12 := Nat.mul_le_mul (Nat.le_refl _) hfrl
      omega
    have ecut : Txt.slice (gl 47 ((Sh.shs ns).map shareT)) (some 1) none = shownT ns := by rw [gl_join, ← sl_eq]; rfl
    refine ⟨_, rfl, _, rfl, _, rfl, by omega, ?_⟩
    rw [ecut]
    exact q H2 (s1.trans s2)
end
def Rdd (t : Str) : Prop := ∃ css labs, RdA t css ∧ Sh.Shs css ∧ Sh.Labs css labs ∧ shownT (Sh.mk labs) = t
theorem labs_uniq {css : List (List Int)} {a b : List Int} (hs : Sh.Shs css) (ha : Sh.Labs css a) (hb : Sh.Labs css b) : a = b := by
  refine List.ext_getElem? fun u => ?_
  by_cases hu : u < css.flatten.length
  · have hm : (u : Int) ∈ css.flatten := hs.2.2.2.symm.mem_iff.mp (Sh.mem_upto.mpr (by omega))
    obtain ⟨c, hc, hx⟩ := List.mem_flatten.mp hm
    obtain ⟨k, hk, ek⟩ := Sh.mem_ix hc
    rw [ha.2 u k c ek hx, hb.2 u k c ek hx]
  · rw [List.getElem?_eq_none (by rw [ha.1]; omega), List.getElem?_eq_none (by rw [hb.1]; omega)]
theorem labs_b {css : List (List Int)} {a : List Int} (hs : Sh.Shs css) (ha : Sh.Labs css a) : a ≠ [] ∧ a.length ≤ 12 ∧ ∀ x ∈ a, 0 ≤ x ∧ x < 12 := by
  have h1 := hs.2.1
  have h2 := hs.2.2.1
  refine ⟨fun e => ?_, by rw [ha.1]; exact h2, fun x hx => ?_⟩
  · have := ha.1
    rw [e] at this
    simp only [List.length_nil] at this
    omega
  · obtain ⟨u, hu, eu⟩ := Sh.mem_ix hx
    rw [ha.1] at hu
    have hm : (u : Int) ∈ css.flatten := hs.2.2.2.symm.mem_iff.mp (Sh.mem_upto.mpr (by omega))
    obtain ⟨c, hc, hxc⟩ := List.mem_flatten.mp hm
    obtain ⟨k, hk, ek⟩ := Sh.mem_ix hc
    have := ha.2 u k c ek hxc
    rw [eu] at this
    have e := Option.some.inj this
    have hlen : css.length ≤ css.flatten.length := by
      have : ∀ l : List (List Int), (∀ c ∈ l, c ≠ []) → l.length ≤ l.flatten.length := fun l => by
        induction l with
        | nil => simp
        | cons c r ih =>
          intro h
          have := ih fun d hd => h d (List.mem_cons_of_mem _ hd)
          have := List.length_pos_iff.mpr (h c (by simp))
          rw [List.flatten_cons, List.length_append, List.length_cons]
          omega
      exact this css hs.1
    omega
def spLAsk (K : PySem.W.Frag) : Sp := fun vs H Q _ => ∃ t : Str, vs = [.str t] ∧ t.length ≤ 200 ∧ (∀ (css : List (List Int)) (labs : List Int) (D : Addr) (H' : Hp), RdA t css → Sh.Shs css → Sh.Labs css labs → shownT (Sh.mk labs) = t → Same H H' → H D = none → H' D = some (.lst ((Sh.mk labs).map V.int)) → Q (.ref D) H') ∧
  (¬ Rdd t → ∀ (T : Addr) (H' : Hp), Same H H' → H' T = some (.tup [.bl true, .bl true, .bl false]) → Q (.ref T) H')
section
variable {P : Program} {w : World} {K : PySem.W.Frag} {mg : Str → Option Value} {base : Heap}
theorem boot_VE : bootBuiltins "ValueError" = some (.type "ValueError") := by decide +kernel
theorem scLAsked : FnScope ["text", "told", "e"] ["text"] (defScope sLAsked) := ⟨rfl, rfl, rfl, by decide +kernel, rfl, by decide +kernel, by decide +kernel⟩
theorem ok_lasked {CS CR CT : Addr} (mS : mg "ShareError" = some (.ref CS)) (mR : mg "NotRead" = some (.ref CR)) (mT : mg "NoShares" = some (.ref CT)) (kS : PySem.W.kitCls K (.ref CS) (.type "BaseException") = some true) (kR : PySem.W.kitCls K (.ref CR) (.ref CS) = some true) (xR : XC.ExcCls K CR)
    (i1 : PySem.W.kitOne K (.ref CR) (.ref CR) = some true) (i2 : PySem.W.kitOne K (.ref CR) (.type "ValueError") = some true) (i3 : PySem.W.kitOne K (.ref CR) (.ref CT) = some false)
    {f : Addr} {fd : FuncData} (F : Fun K "_law_asked" "_law_asked" sLAsked f fd) (G : Fn1 P w K mg base "read" ["text"] 6 (spRead1 K CR)) (mi : mg "isinstance" = none) (mv : mg "ValueError" = none) : FnOk P w K mg base CX0 7 f fd ["text"] (spLAsk K) := by
  refine F.ok scLAsked (fun vs H Q E h => ?_) (fun cdv A outer s H vs Q E hr h => ?_)
  · obtain ⟨t, rfl, _⟩ := h
    rfl
  obtain ⟨t, rfl, ht, q, qE⟩ := h
  refine ⟨_, pss_cons (ps_set (i := 1) scLAsked.nd rfl (Or.inl rfl) pe_non)
    (pss_cons (ps_trycall (C := CS) (ni := 2) (yi := 1) G hr rfl rfl rfl rfl mS kS scLAsked.nd rfl rfl rfl (Or.inl rfl) (pa_cons (pv 0) pa_nil)
      (fun _ _ => pss_one (ps_set (i := 1) scLAsked.nd rfl (Or.inl rfl) (pe_tup (pa_cons (pe_callB (call_isinstE (K := K)) rfl mi boot_isinstance (pa_cons (pv 2) (pa_cons (pe_glob (v := .ref CR) rfl mR rfl) pa_nil)))
        (pa_cons (pe_callB (call_isinstE (K := K)) rfl mi boot_isinstance (pa_cons (pv 2) (pa_cons (pe_bltn (v := .ty "ValueError") rfl mv boot_VE rfl) pa_nil)))
        (pa_cons (pe_callB (call_isinstE (K := K)) rfl mi boot_isinstance (pa_cons (pv 2) (pa_cons (pe_glob (v := .ref CT) rfl mT rfl) pa_nil))) pa_nil)))))))
    (pss_one (ps_ret (pv 1)))), ?_⟩
  refine ⟨_, rfl, t, rfl, ht, fun css labs D H' h1 h2 h3 h4 s1 f1 d1 => ⟨_, rfl, q css labs D H' h1 h2 h3 h4 s1 f1 d1⟩, fun hc H1 s1 => ?_⟩
  refine ⟨CR, rfl, kR, fun ea hea => ?_⟩
  have t1 := same_upd hea (.ext fun h => XC.ExcAt h ea CR)
  refine ⟨_, rfl, ea, CR, _, _, true, rfl, .own CR, upd_same, xR, i1, ?_⟩
  refine ⟨_, rfl, ea, CR, _, _, true, rfl, .ty "ValueError", upd_same, xR, i2, ?_⟩
  refine ⟨_, rfl, ea, CR, _, _, false, rfl, .own CT, upd_same, xR, i3, ?_⟩
  refine ⟨(by show 3 ≤ sizeLine; decide), fun T hT => ?_⟩
  exact ⟨_, rfl, qE hc T _ (s1.trans (t1.trans (same_upd hT _))) upd_same⟩
theorem scLaw : FnScope ["script", "one", "text", "due", "good", "found"] ["script"] (defScope sLaw) := ⟨rfl, rfl, rfl, by decide +kernel, rfl, by decide +kernel, by decide +kernel⟩
theorem ok_law {f : Addr} {fd : FuncData} (F : Fun K "law" "law" sLaw f fd) (GC : Fn P w K mg base "_law_cell_at" ["script", "k"] 1 (spCell K)) (GM : Fn P w K mg base "_law_marks" ["script", "at", "things"] 2 (spLMarks K)) (GH : Fn P w K mg base "shown" ["one"] 5 (spShown K)) (GT : Fn P w K mg base "_law_text" ["one"] 2 (spLText K)) (GX : Fn P w K mg base "_law_changed" ["text", "cell"] 1 (spLChanged K)) (GR : Fn P w K mg base "_law_read" ["text"] 1 (spLRead K)) (GN : Fn P w K mg base "_law_named" ["names"] 1 (spMarked (labInt K)))
    (GA : Fn P w K mg base "_law_asked" ["text"] 7 (spLAsk K)) (GU : Fn P w K mg base "_law_numbers" ["found", "due"] 2 (spNums K)) (mlst : mg "list" = none) (mi : mg "isinstance" = none) (mst : mg "str" = none) (mm : mg "max" = none) (ml : mg "len" = none) (mset : mg "set" = none) : FnOk P w K mg base CX0 8 f fd ["script"] (spLaw K) := by
  refine F.ok scLaw (fun vs H Q E h => ?_) (fun cdv A outer s H vs Q E hr h => ?_)
  · obtain ⟨a, ns, rfl, _⟩ := h
    rfl
  obtain ⟨a, ns, rfl, hS, hl63, q⟩ := h
  have hu := hu_of hr
  have hu' := Nat.lt_of_succ_lt hu
  have hr1 : Room 1 _ := hr.mono (by decide)
  have hr2 : Room 2 _ := hr.mono (by decide)
  have hr5 : Room 5 _ := hr.mono (by decide)
  have hr7 : Room 7 _ := hr
  refine ⟨_, pss_cons (ps_set (i := 1) scLaw.nd rfl (Or.inl rfl) (pe_fn GM hr2 (pa_cons (pv 0) (pa_cons pe_int (pa_cons (pe_op op_add pe_int (pe_op op_mod (pe_fn GC hr1 (pa_cons (pv 0) (pa_cons pe_int pa_nil))) pe_int)) pa_nil)))))
    (pss_cons (ps_set (i := 2) scLaw.nd rfl (Or.inl rfl) (pe_fn GH hr5 (pa_cons (pe_callTy call_list_of rfl mlst boot_list (pa_cons (pv 1) pa_nil)) pa_nil)))
    (pss_cons (ps_if (PW.pt (pw_or (pt_not (pt_val (pe_callB call_isinst rfl mi boot_isinstance (pa_cons (pv 2) (pa_cons (pe_bltn (v := .ty "str") rfl mst boot_str1 rfl) pa_nil))))) (pw_or1 (pt_cmpR op_ne (pv 2) (pe_fn GT hr2 (pa_cons (pv 1) pa_nil)) (nomark _))))) (pss_one (ps_ret pe_bl)) pss_nil)
    (pss_cut (fun σ H' => ∃ (o : Addr) (t : Str), σ = [some (.ref a), some (.ref o), some (.str t), none, none, none] ∧ t.length ≤ 200 ∧ Same H H') (ps_if (pt_cmpR op_eq (pe_op op_mod (pe_fn GC hr1 (pa_cons (pv 0) (pa_cons pe_int pa_nil))) pe_int) pe_int (nomark _)) (pss_one (ps_set (i := 2) scLaw.nd rfl (Or.inl rfl) (pe_fn GX hr1 (pa_cons (pv 2) (pa_cons (pe_fn GC hr1 (pa_cons (pv 0) (pa_cons pe_int pa_nil))) pa_nil))))) pss_nil)
    (pss_cons (ps_set (i := 3) scLaw.nd rfl (Or.inl rfl) (pe_fn GR hr1 (pa_cons (pv 2) pa_nil)))
    (pss_cons (ps_set (i := 4) scLaw.nd rfl (Or.inl rfl) (pe_and (pe_cmpR op_notN (pv 3) pe_non (nomark _)) (pe_one (pe_cmpR op_eq (pe_op op_add (pe_callB (call_maxL rfl) rfl mm boot_max (pa_cons (pv 3) pa_nil)) pe_int) (pe_lenset rfl rfl ml rfl mset (pa_cons (pv 3) pa_nil)) (nomark _)))))
    (pss_cons (ps_set (i := 4) scLaw.nd rfl (Or.inl rfl) (pe_and (pv 4) (pe_and (pe_cmpR op_eq (pe_fn GT hr2 (pa_cons (pv 3) pa_nil)) (pv 2) (nomark _)) (pe_one (pe_cmpR (op_eqLI hu') (pe_fn GN hr1 (pa_cons (pv 3) pa_nil)) (pv 3) (nomark _))))))
    (pss_cons (ps_set (i := 5) scLaw.nd rfl (Or.inl rfl) (pe_fn GA hr7 (pa_cons (pv 2) pa_nil)))
    (pss_cons (ps_if (pt_not (pt_val (pv 4))) (pss_one (ps_ret (pe_cmpR (op_eqTB hu') (pv 5) (pe_tup (pa_cons pe_bl (pa_cons pe_bl (pa_cons pe_bl pa_nil)))) (nomark _)))) pss_nil)
    (pss_cons (ps_if (pt_not (pt_val (pe_fn GU hr2 (pa_cons (pv 5) (pa_cons (pv 3) pa_nil))))) (pss_one (ps_ret pe_bl)) pss_nil)
    (pss_cons (ps_expr (pe_bm PySem.F.plainAttrs_list PySem.F.slot_list_append PySem.F.type_list_append mt_append (pv 5) (pa_cons pe_int pa_nil)))
    (pss_one (ps_ret (pe_fn GU hr2 (pa_cons (pe_fn GA hr7 (pa_cons (pv 2) pa_nil)) (pa_cons (pv 3) pa_nil))))))))))))))), ?_⟩
  have m0 := Int.emod_nonneg (Sh.cell ns 0) (by decide : (12 : Int) ≠ 0)
  have m1 := Int.emod_lt_of_pos (Sh.cell ns 0) (by decide : (0 : Int) < 12)
  refine ⟨_, rfl, _, rfl, a, ns, 0, rfl, hS, by decide, _, _, rfl, rfl, (by show (0 : Int) < 12; decide), _, _, rfl, rfl, a, ns, 1, 1 + Sh.cell ns 0 % 12, rfl, hS, by decide, by omega, by omega, fun o ms H1 s1 f1 c1 l1 d1 => ?_⟩
  have hsh : Sh.isSh ms = true := Sh.isSh_of c1 (by omega) (by omega)
  refine ⟨_, rfl, o, _, rfl, .inl (SqL.of d1), fun o2 ho2 => ?_⟩
  have s2 := same_upd ho2 (.lst (ms.map V.int))
  refine ⟨o2, ms, rfl, SqL.of upd_same, hsh, fun H2 s3 => ?_⟩
  have s13 := s1.trans (s2.trans s3)
  have d2 := s3 _ _ (s2 _ _ d1)
  have hmb : ms ≠ [] ∧ ms.length ≤ 12 ∧ ∀ x ∈ ms, 0 ≤ x ∧ x < 12 := ⟨fun e => by rw [e] at l1; simp at l1; omega, by omega, fun x hx => ⟨Sh.can_nonneg c1 x hx, by
    have h1 := Sh.lt_fr x hx
    have h2 := (Sh.fr_mk ms).1
    rw [Sh.mk_can c1] at h2
    have h3 := Sh.length_dd_le ms
    omega⟩⟩
  refine ⟨_, rfl, _, "str", _, true, rfl, .str _, rfl, _, rfl, ?_⟩
  refine iteF ?_
  refine ⟨_, rfl, _, rfl, o, ms, rfl, SqL.of d2, hmb, fun H3 s4 => ⟨rfl, _, rfl, ?_⟩⟩
  refine iteNS rfl ?_
  have hS3 := (s13.trans s4).seq hS
  have sH3 := s13.trans s4
  have hlen : (shownT ms).length ≤ 90 := by
    have h1 := StrLaws.join_length_le "/" ((Sh.shs ms).map shareT)
    have h2 := sum_shares (shares_lt (ns := ms) (by omega))
    have h3 := (Sh.shs_flat c1).length_eq
    rw [Sh.length_upto] at h3
    have h4 : (Sh.shs ms).length ≤ 12 := by
      rw [Sh.shs_len]
      have : Sh.fr ms ≤ 12 := Sh.fr_le (by decide) fun x hx => (hmb.2.2 x hx).2
      omega
    have h5 : (("/" : Str).length) = 1 := by decide
    rw [h5, List.length_map] at h1
    unfold shownT
    omega
  refine ⟨?_, ?_⟩
  · clear hS3 sH3 hlen d2 s13 d1 hsh hmb s4 s3 ho2 s2 f1 s1
    rintro σ H4 ⟨o, t, rfl, ht, sH⟩
    have hnR : ∀ {css : List (List Int)} {labs : List Int}, RdA t css → Sh.Shs css → Sh.Labs css labs → ¬ shownT (Sh.mk labs) = t → ¬ Rdd t := fun {css labs} h1 h2 h3 h4 => by
      rintro ⟨css', labs', g1, g2, g3, g4⟩
      have e := rdA_uniq h1 g1
      subst e
      have e := labs_uniq h2 h3 g3
      subst e
      exact h4 g4
    refine ⟨_, rfl, t, rfl, ht, fun css labs D H5 h1 h2 h3 s5 f5 d5 => ?_, fun hn H5 s5 => ?_⟩
    · obtain ⟨b1, b2, b3⟩ := labs_b h2 h3
      refine ⟨_, rfl, rfl, _, rfl, ?_⟩
      refine iteT ?_
      refine ⟨_, rfl, D, labs, rfl, SqL.of d5, b1, fun M hM hle => ?_⟩
      refine ⟨_, _, rfl, rfl, _, rfl, D, labs, rfl, SqL.of d5, by omega, rfl, ?_⟩
      have hb1 : shownT (Sh.mk labs) = t → M + 1 = ((Sh.dd labs).length : Int) := fun e => by
        have e2 := ((good_iff h1 h2 h3).mp e).2
        have hc : Sh.Can labs := by rw [← e2]; exact Sh.can_mk labs
        have h5 := Sh.fr_max hM hle (Sh.can_nonneg hc M hM)
        have h6 := (Sh.fr_mk labs).1
        rw [e2] at h6
        omega
      refine ⟨_, rfl, _, rfl, ?_⟩
      refine ite2 (fun cg => ?_) (fun cg => ?_)
      · refine ⟨_, rfl, D, labs, rfl, SqL.of d5, ⟨b1, b2, b3⟩, fun H6 s6 => ?_⟩
        refine ⟨_, rfl, rfl, _, rfl, ?_⟩
        refine ite2 (fun c2 => ?_) (fun c2 => ?_)
        · have e2 : shownT labs = t := by
            have := of_decide_eq_true c2
            injection this
          have d6 := s6 _ _ d5
          refine ⟨_, rfl, D, _, labs, rfl, SqL.of d6, labs_int labs, by omega, fun E1 H7 s7 f7 d7 => ?_⟩
          refine ⟨_, rfl, E1, D, Sh.mk labs, labs, rfl, rfl, SqL.of d7, SqL.of (s7 _ _ d6), ?_⟩
          have d7' := s7 _ _ d6
          have s57 := s6.trans s7
          refine ⟨_, rfl, t, rfl, ht, fun css' labs' D2 H8 g1 g2 g3 g4 s8 f8 d8 => ?_, fun hnr T H8 s8 d8 => ?_⟩
          · have e := rdA_uniq h1 g1
            subst e
            have e := labs_uniq h2 h3 g3
            subst e
            have em := ((good_iff h1 h2 h3).mp g4).2
            rw [em] at d8
            refine ⟨_, rfl, _, rfl, ?_⟩
            rw [if_neg (by decide), decide_eq_true em]
            refine iteF ?_
            refine ⟨_, rfl, _, rfl, D2, D, labs, labs, rfl, d8, SqL.of (s8 _ _ d7'), _, rfl, ?_⟩
            rw [decide_eq_true rfl]
            refine iteF ?_
            refine ⟨_, rfl, .inl ⟨rfl, _, SqL.of d8⟩, D2, _, _, rfl, rfl, d8, small1000 (by rw [List.length_map]; omega), ?_⟩
            have nD : D ≠ D2 := ne_of_none d7' f8
            have d9 : upd H8 D2 (.lst (labs.map V.int ++ [V.int 0])) D = some (.lst (labs.map V.int)) := by rw [upd_ne nD]; exact s8 _ _ d7'
            refine ⟨_, rfl, t, rfl, ht, fun css' labs' D3 H9 k1 k2 k3 k4 s9 f9 p9 => ?_, fun hnr => absurd ⟨css, labs, h1, h2, h3, g4⟩ hnr⟩
            have e := rdA_uniq h1 k1
            subst e
            have e := labs_uniq h2 h3 k3
            subst e
            rw [em] at p9
            refine ⟨_, rfl, D3, D, labs, labs, rfl, p9, SqL.of (s9 _ _ d9), ?_⟩
            rw [decide_eq_true rfl]
            exact q _
          · have em : ¬ Sh.mk labs = labs := fun e => hnr ⟨css, labs, h1, h2, h3, (good_iff h1 h2 h3).mpr ⟨e2, e⟩⟩
            refine ⟨_, rfl, _, rfl, ?_⟩
            rw [if_neg (by decide), decide_eq_false em]
            refine iteT ?_
            refine ⟨_, rfl, (by show 3 ≤ sizeLine; decide), fun tp htp => ?_⟩
            exact ⟨T, tp, [true, true, false], rfl, rfl, SqT.of (same_upd htp _ _ _ d8), SqT.of upd_same, q _⟩
        · have hnr : ¬ Rdd t := hnR h1 h2 h3 fun e => c2 (decide_eq_true (by rw [((good_iff h1 h2 h3).mp e).1]))
          refine ⟨_, rfl, t, rfl, ht, fun css' labs' D2 H8 g1 g2 g3 g4 => absurd ⟨css', labs', g1, g2, g3, g4⟩ hnr, fun _ T H8 s8 d8 => ?_⟩
          refine ⟨_, rfl, _, rfl, ?_⟩
          refine iteT ?_
          refine ⟨_, rfl, (by show 3 ≤ sizeLine; decide), fun tp htp => ?_⟩
          exact ⟨T, tp, [true, true, false], rfl, rfl, SqT.of (same_upd htp _ _ _ d8), SqT.of upd_same, q _⟩
      · have hnr : ¬ Rdd t := hnR h1 h2 h3 fun e => cg (decide_eq_true (by show V.int (M + 1) = _; rw [hb1 e]))
        refine ⟨_, rfl, t, rfl, ht, fun css' labs' D2 H8 g1 g2 g3 g4 => absurd ⟨css', labs', g1, g2, g3, g4⟩ hnr, fun _ T H8 s8 d8 => ?_⟩
        refine ⟨_, rfl, _, rfl, ?_⟩
        refine iteT ?_
        refine ⟨_, rfl, (by show 3 ≤ sizeLine; decide), fun tp htp => ?_⟩
        exact ⟨T, tp, [true, true, false], rfl, rfl, SqT.of (same_upd htp _ _ _ d8), SqT.of upd_same, q _⟩
    · have hnr : ¬ Rdd t := fun ⟨css', labs', g1, g2, _⟩ => hn ⟨css', g1, g2⟩
      refine ⟨_, rfl, rfl, _, rfl, ?_⟩
      refine iteF ?_
      refine ⟨_, rfl, _, rfl, ?_⟩
      refine iteF ?_
      refine ⟨_, rfl, t, rfl, ht, fun css' labs' D2 H8 g1 g2 g3 g4 => absurd ⟨css', labs', g1, g2, g3, g4⟩ hnr, fun _ T H8 s8 d8 => ?_⟩
      refine ⟨_, rfl, _, rfl, ?_⟩
      refine iteT ?_
      refine ⟨_, rfl, (by show 3 ≤ sizeLine; decide), fun tp htp => ?_⟩
      exact ⟨T, tp, [true, true, false], rfl, rfl, SqT.of (same_upd htp _ _ _ d8), SqT.of upd_same, q _⟩
  · refine ⟨_, rfl, a, ns, 13, rfl, hS3, by decide, _, _, rfl, rfl, (by show (0 : Int) < 2; decide), rfl, _, rfl, ?_⟩
    refine ite2 (fun c => ?_) (fun c => ?_)
    · refine ⟨_, rfl, _, rfl, a, ns, 14, rfl, hS3, by decide, shownT ms, _, rfl, hlen, fun t' H4 ht' s5 => ?_⟩
      exact ⟨o, t', rfl, ht', sH3.trans s5⟩
    · exact ⟨o, shownT ms, rfl, by omega, sH3⟩
end
theorem all_mk {l : PySem.W.OpenLaw} {w : World} {K : PySem.W.Frag} {h : Heap} {mg : Str → Option Value} {fa f1 f2 f3 f4 f5 f6 f7 f8 f9 f10 f11 f12 f13 f14 f15 f16 f17 f18 f19 f20 f21 f22 : Addr} (X : K.In h) (G : h.Ns mainGlobals mg) (hfa : mg "law" = some (.ref fa))
    {od1 an1 od2 an2 od3 an3 od4 an4 od5 an5 od6 an6 od7 an7 od8 an8 od9 an9 od10 an10 od11 an11 od12 an12 od13 an13 od14 an14 od15 an15 od16 an16 od17 an17 od18 an18 od19 an19 od20 an20 od21 an21 od22 an22 : Option Addr} {sl1 sl2 sl3 sl4 sl5 sl6 sl7 sl8 sl9 sl10 sl11 sl12 sl13 sl14 sl15 sl16 sl17 sl18 sl19 sl20 sl21 sl22 : Array (Option Value)} {oc1 kV1 dc1 pm1 cd1 ct1 oc2 kV2 dc2 pm2 cd2 ct2 oc3 kV3 dc3 pm3 cd3 ct3 oc4 kV4 dc4 pm4 cd4 ct4 oc5 kV5 dc5 pm5 cd5 ct5 oc6 kV6 dc6 pm6 cd6 ct6 oc7 kV7 dc7 pm7 cd7 ct7 oc8 kV8 dc8 pm8 cd8 ct8 oc9 kV9 dc9 pm9 cd9 ct9 oc10 kV10 dc10 pm10 cd10 ct10 oc11 kV11 dc11 pm11 cd11 ct11 oc12 kV12 dc12 pm12 cd12 ct12 oc13 kV13 dc13 pm13 cd13 ct13 oc14 kV14 dc14 pm14 cd14 ct14 oc15 kV15 dc15 pm15 cd15 ct15 oc16 kV16 dc16 pm16 cd16 ct16 oc17 kV17 dc17 pm17 cd17 ct17 oc18 kV18 dc18 pm18 cd18 ct18 oc19 kV19 dc19 pm19 cd19 ct19 oc20 kV20 dc20 pm20 cd20 ct20 oc21 kV21 dc21 pm21 cd21 ct21 oc22 kV22 dc22 pm22 cd22 ct22 : Value} {tk0 : Tok}
    (a1 : PySem.W.nsIn K mainGlobals "is_many_things" = some (some (.ref f1))) (l1 : K.lookup f1 = some ⟨oc1, od1, .func (PySem.W.fnOf "is_many_things" "is_many_things" (defArgs sMany) (defBody sMany) (defScope sMany) .none kV1 dc1 pm1 an1 cd1 ct1), sl1⟩) (c1 : PySem.W.codeIn K cd1 "is_many_things" = true) (k1 : PySem.W.keepIn K (.ref f1) = true)
    (a2 : PySem.W.nsIn K mainGlobals "is_sharing" = some (some (.ref f2))) (l2 : K.lookup f2 = some ⟨oc2, od2, .func (PySem.W.fnOf "is_sharing" "is_sharing" (defArgs sIs) (defBody sIs) (defScope sIs) .none kV2 dc2 pm2 an2 cd2 ct2), sl2⟩) (c2 : PySem.W.codeIn K cd2 "is_sharing" = true) (k2 : PySem.W.keepIn K (.ref f2) = true)
    (a3 : PySem.W.nsIn K mainGlobals "ask_sharing" = some (some (.ref f3))) (l3 : K.lookup f3 = some ⟨oc3, od3, .func (PySem.W.fnOf "ask_sharing" "ask_sharing" (defArgs sAsk) (defBody sAsk) (defScope sAsk) .none kV3 dc3 pm3 an3 cd3 ct3), sl3⟩) (c3 : PySem.W.codeIn K cd3 "ask_sharing" = true) (k3 : PySem.W.keepIn K (.ref f3) = true)
    (a4 : PySem.W.nsIn K mainGlobals "marked" = some (some (.ref f4))) (l4 : K.lookup f4 = some ⟨oc4, od4, .func (PySem.W.fnOf "marked" "marked" (defArgs sMarked) (defBody sMarked) (defScope sMarked) .none kV4 dc4 pm4 an4 cd4 ct4), sl4⟩) (c4 : PySem.W.codeIn K cd4 "marked" = true) (k4 : PySem.W.keepIn K (.ref f4) = true)
    (a5 : PySem.W.nsIn K mainGlobals "shares_of" = some (some (.ref f5))) (l5 : K.lookup f5 = some ⟨oc5, od5, .func (PySem.W.fnOf "shares_of" "shares_of" (defArgs sShares) (defBody sShares) (defScope sShares) .none kV5 dc5 pm5 an5 cd5 ct5), sl5⟩) (c5 : PySem.W.codeIn K cd5 "shares_of" = true) (k5 : PySem.W.keepIn K (.ref f5) = true)
    (a6 : PySem.W.nsIn K mainGlobals "are_shares" = some (some (.ref f6))) (l6 : K.lookup f6 = some ⟨oc6, od6, .func (PySem.W.fnOf "are_shares" "are_shares" (defArgs sAre) (defBody sAre) (defScope sAre) .none kV6 dc6 pm6 an6 cd6 ct6), sl6⟩) (c6 : PySem.W.codeIn K cd6 "are_shares" = true) (k6 : PySem.W.keepIn K (.ref f6) = true)
    (a7 : PySem.W.nsIn K mainGlobals "marks_of" = some (some (.ref f7))) (l7 : K.lookup f7 = some ⟨oc7, od7, .func (PySem.W.fnOf "marks_of" "marks_of" (defArgs sMarksOf) (defBody sMarksOf) (defScope sMarksOf) .none kV7 dc7 pm7 an7 cd7 ct7), sl7⟩) (c7 : PySem.W.codeIn K cd7 "marks_of" = true) (k7 : PySem.W.keepIn K (.ref f7) = true)
    (a8 : PySem.W.nsIn K mainGlobals "shown" = some (some (.ref f8))) (l8 : K.lookup f8 = some ⟨oc8, od8, .func (PySem.W.fnOf "shown" "shown" (defArgs sShown) (defBody sShown) (defScope sShown) .none kV8 dc8 pm8 an8 cd8 ct8), sl8⟩) (c8 : PySem.W.codeIn K cd8 "shown" = true) (k8 : PySem.W.keepIn K (.ref f8) = true)
    (a9 : PySem.W.nsIn K mainGlobals "shown_share" = some (some (.ref f9))) (l9 : K.lookup f9 = some ⟨oc9, od9, .func (PySem.W.fnOf "shown_share" "shown_share" (defArgs sShownS) (defBody sShownS) (defScope sShownS) .none kV9 dc9 pm9 an9 cd9 ct9), sl9⟩) (c9 : PySem.W.codeIn K cd9 "shown_share" = true) (k9 : PySem.W.keepIn K (.ref f9) = true)
    (a10 : PySem.W.nsIn K mainGlobals "read" = some (some (.ref f10))) (l10 : K.lookup f10 = some ⟨oc10, od10, .func (PySem.W.fnOf "read" "read" (defArgs sRead) (defBody sRead) (defScope sRead) .none kV10 dc10 pm10 an10 cd10 ct10), sl10⟩) (c10 : PySem.W.codeIn K cd10 "read" = true) (k10 : PySem.W.keepIn K (.ref f10) = true)
    (a11 : PySem.W.nsIn K mainGlobals "read_share" = some (some (.ref f11))) (l11 : K.lookup f11 = some ⟨oc11, od11, .func (PySem.W.fnOf "read_share" "read_share" (defArgs sReadS) (defBody sReadS) (defScope sReadS) .none kV11 dc11 pm11 an11 cd11 ct11), sl11⟩) (c11 : PySem.W.codeIn K cd11 "read_share" = true) (k11 : PySem.W.keepIn K (.ref f11) = true)
    (a12 : PySem.W.nsIn K mainGlobals "_law_cell_at" = some (some (.ref f12))) (l12 : K.lookup f12 = some ⟨oc12, od12, .func (PySem.W.fnOf "_law_cell_at" "_law_cell_at" (defArgs sCell) (defBody sCell) (defScope sCell) .none kV12 dc12 pm12 an12 cd12 ct12), sl12⟩) (c12 : PySem.W.codeIn K cd12 "_law_cell_at" = true) (k12 : PySem.W.keepIn K (.ref f12) = true)
    (a13 : PySem.W.nsIn K mainGlobals "_law_whole" = some (some (.ref f13))) (l13 : K.lookup f13 = some ⟨oc13, od13, .func (PySem.W.fnOf "_law_whole" "_law_whole" (defArgs sWhole) (defBody sWhole) (defScope sWhole) .none kV13 dc13 pm13 an13 cd13 ct13), sl13⟩) (c13 : PySem.W.codeIn K cd13 "_law_whole" = true) (k13 : PySem.W.keepIn K (.ref f13) = true)
    (a14 : PySem.W.nsIn K mainGlobals "_law_numbers" = some (some (.ref f14))) (l14 : K.lookup f14 = some ⟨oc14, od14, .func (PySem.W.fnOf "_law_numbers" "_law_numbers" (defArgs sNums) (defBody sNums) (defScope sNums) .none kV14 dc14 pm14 an14 cd14 ct14), sl14⟩) (c14 : PySem.W.codeIn K cd14 "_law_numbers" = true) (k14 : PySem.W.keepIn K (.ref f14) = true)
    (a15 : PySem.W.nsIn K mainGlobals "_law_marks" = some (some (.ref f15))) (l15 : K.lookup f15 = some ⟨oc15, od15, .func (PySem.W.fnOf "_law_marks" "_law_marks" (defArgs sLMarks) (defBody sLMarks) (defScope sLMarks) .none kV15 dc15 pm15 an15 cd15 ct15), sl15⟩) (c15 : PySem.W.codeIn K cd15 "_law_marks" = true) (k15 : PySem.W.keepIn K (.ref f15) = true)
    (a16 : PySem.W.nsIn K mainGlobals "_law_shares" = some (some (.ref f16))) (l16 : K.lookup f16 = some ⟨oc16, od16, .func (PySem.W.fnOf "_law_shares" "_law_shares" (defArgs sLShares) (defBody sLShares) (defScope sLShares) .none kV16 dc16 pm16 an16 cd16 ct16), sl16⟩) (c16 : PySem.W.codeIn K cd16 "_law_shares" = true) (k16 : PySem.W.keepIn K (.ref f16) = true)
    (a17 : PySem.W.nsIn K mainGlobals "_law_named" = some (some (.ref f17))) (l17 : K.lookup f17 = some ⟨oc17, od17, .func (PySem.W.fnOf "_law_named" "_law_named" (defArgs sNamed) (defBody sNamed) (defScope sNamed) .none kV17 dc17 pm17 an17 cd17 ct17), sl17⟩) (c17 : PySem.W.codeIn K cd17 "_law_named" = true) (k17 : PySem.W.keepIn K (.ref f17) = true)
    (a18 : PySem.W.nsIn K mainGlobals "_law_text" = some (some (.ref f18))) (l18 : K.lookup f18 = some ⟨oc18, od18, .func (PySem.W.fnOf "_law_text" "_law_text" (defArgs sLText) (defBody sLText) (defScope sLText) .none kV18 dc18 pm18 an18 cd18 ct18), sl18⟩) (c18 : PySem.W.codeIn K cd18 "_law_text" = true) (k18 : PySem.W.keepIn K (.ref f18) = true)
    (a19 : PySem.W.nsIn K mainGlobals "_law_changed" = some (some (.ref f19))) (l19 : K.lookup f19 = some ⟨oc19, od19, .func (PySem.W.fnOf "_law_changed" "_law_changed" (defArgs sLChanged) (defBody sLChanged) (defScope sLChanged) .none kV19 dc19 pm19 an19 cd19 ct19), sl19⟩) (c19 : PySem.W.codeIn K cd19 "_law_changed" = true) (k19 : PySem.W.keepIn K (.ref f19) = true)
    (a20 : PySem.W.nsIn K mainGlobals "_law_read" = some (some (.ref f20))) (l20 : K.lookup f20 = some ⟨oc20, od20, .func (PySem.W.fnOf "_law_read" "_law_read" (defArgs sLRead) (defBody sLRead) (defScope sLRead) .none kV20 dc20 pm20 an20 cd20 ct20), sl20⟩) (c20 : PySem.W.codeIn K cd20 "_law_read" = true) (k20 : PySem.W.keepIn K (.ref f20) = true)
    (a21 : PySem.W.nsIn K mainGlobals "_law_asked" = some (some (.ref f21))) (l21 : K.lookup f21 = some ⟨oc21, od21, .func (PySem.W.fnOf "_law_asked" "_law_asked" (defArgs sLAsked) (defBody sLAsked) (defScope sLAsked) .none kV21 dc21 pm21 an21 cd21 ct21), sl21⟩) (c21 : PySem.W.codeIn K cd21 "_law_asked" = true) (k21 : PySem.W.keepIn K (.ref f21) = true)
    (a22 : PySem.W.nsIn K mainGlobals "law" = some (some (.ref f22))) (l22 : K.lookup f22 = some ⟨oc22, od22, .func (PySem.W.fnOf "law" "law" (defArgs sLaw) (defBody sLaw) (defScope sLaw) .none kV22 dc22 pm22 an22 cd22 ct22), sl22⟩) (c22 : PySem.W.codeIn K cd22 "law" = true) (k22 : PySem.W.keepIn K (.ref f22) = true)
    (z0 : PySem.W.nsIn K mainGlobals "len" = some none)
    (z1 : PySem.W.nsIn K mainGlobals "range" = some none)
    (z2 : PySem.W.nsIn K mainGlobals "max" = some none)
    (z3 : PySem.W.nsIn K mainGlobals "enumerate" = some none)
    (z4 : PySem.W.nsIn K mainGlobals "list" = some none)
    (z5 : PySem.W.nsIn K mainGlobals "sorted" = some none)
    (z6 : PySem.W.nsIn K mainGlobals "str" = some none)
    (z7 : PySem.W.nsIn K mainGlobals "isinstance" = some none)
    (z8 : PySem.W.nsIn K mainGlobals "int" = some none)
    (z9 : PySem.W.nsIn K mainGlobals "bool" = some none)
    (z10 : PySem.W.nsIn K mainGlobals "ValueError" = some none)
    (z11 : PySem.W.nsIn K mainGlobals "set" = some none)
    (q0 : PySem.W.nsIn K mainGlobals "MOST_THINGS" = some (some (.int 12 tk0)))
    {CS : Addr} (nCS : PySem.W.nsIn K mainGlobals "ShareError" = some (some (.ref CS)))
    {CR : Addr} (nCR : PySem.W.nsIn K mainGlobals "NotRead" = some (some (.ref CR)))
    {CT : Addr} (nCT : PySem.W.nsIn K mainGlobals "NoShares" = some (some (.ref CT)))
    (xVCR : PySem.W.excIn K CR bmVE "ValueError.__new__" = true)
    (xVCT : PySem.W.excIn K CT bmVE "ValueError.__new__" = true)
    (kS : PySem.W.kitCls K (.ref CS) (.type "BaseException") = some true)
    (kR : PySem.W.kitCls K (.ref CR) (.ref CS) = some true)
    (xR : XC.ExcCls K CR)
    (i1 : PySem.W.kitOne K (.ref CR) (.ref CR) = some true)
    (i2 : PySem.W.kitOne K (.ref CR) (.type "ValueError") = some true)
    (i3 : PySem.W.kitOne K (.ref CR) (.ref CT) = some false)
    : ∃ fd : FuncData, (∀ (s : Shared) (v : Value), BindsTo s fd ⟨[v], []⟩ [("script", v)]) ∧ ∀ base : Heap, K.In base → base.Ns mainGlobals mg → FnOk l.prog w K mg base CX0 8 fa fd ["script"] (spLaw K) := by
  have e := hfa.symm.trans (PySem.W.mg_of X G a22)
  cases e
  have F1 := fun_mk (st := sMany) l1 c1 k1
  have b1 := F1.binds (ps := ["number"]) fun _ _ _ _ _ _ us hl => match us, hl with | [_], _ => rfl
  have m1 := PySem.W.mg_of X G a1
  have F2 := fun_mk (st := sIs) l2 c2 k2
  have b2 := F2.binds (ps := ["one"]) fun _ _ _ _ _ _ us hl => match us, hl with | [_], _ => rfl
  have m2 := PySem.W.mg_of X G a2
  have F3 := fun_mk (st := sAsk) l3 c3 k3
  have b3 := F3.binds (ps := ["one"]) fun _ _ _ _ _ _ us hl => match us, hl with | [_], _ => rfl
  have m3 := PySem.W.mg_of X G a3
  have F4 := fun_mk (st := sMarked) l4 c4 k4
  have b4 := F4.binds (ps := ["labels"]) fun _ _ _ _ _ _ us hl => match us, hl with | [_], _ => rfl
  have m4 := PySem.W.mg_of X G a4
  have F5 := fun_mk (st := sShares) l5 c5 k5
  have b5 := F5.binds (ps := ["one"]) fun _ _ _ _ _ _ us hl => match us, hl with | [_], _ => rfl
  have m5 := PySem.W.mg_of X G a5
  have F6 := fun_mk (st := sAre) l6 c6 k6
  have b6 := F6.binds (ps := ["shares"]) fun _ _ _ _ _ _ us hl => match us, hl with | [_], _ => rfl
  have m6 := PySem.W.mg_of X G a6
  have F7 := fun_mk (st := sMarksOf) l7 c7 k7
  have b7 := F7.binds (ps := ["shares"]) fun _ _ _ _ _ _ us hl => match us, hl with | [_], _ => rfl
  have m7 := PySem.W.mg_of X G a7
  have F8 := fun_mk (st := sShown) l8 c8 k8
  have b8 := F8.binds (ps := ["one"]) fun _ _ _ _ _ _ us hl => match us, hl with | [_], _ => rfl
  have m8 := PySem.W.mg_of X G a8
  have F9 := fun_mk (st := sShownS) l9 c9 k9
  have b9 := F9.binds (ps := ["share"]) fun _ _ _ _ _ _ us hl => match us, hl with | [_], _ => rfl
  have m9 := PySem.W.mg_of X G a9
  have F10 := fun_mk (st := sRead) l10 c10 k10
  have b10 := F10.binds (ps := ["text"]) fun _ _ _ _ _ _ us hl => match us, hl with | [_], _ => rfl
  have m10 := PySem.W.mg_of X G a10
  have F11 := fun_mk (st := sReadS) l11 c11 k11
  have b11 := F11.binds (ps := ["part"]) fun _ _ _ _ _ _ us hl => match us, hl with | [_], _ => rfl
  have m11 := PySem.W.mg_of X G a11
  have F12 := fun_mk (st := sCell) l12 c12 k12
  have b12 := F12.binds (ps := ["script", "k"]) fun _ _ _ _ _ _ us hl => match us, hl with | [_, _], _ => rfl
  have m12 := PySem.W.mg_of X G a12
  have F13 := fun_mk (st := sWhole) l13 c13 k13
  have b13 := F13.binds (ps := ["found"]) fun _ _ _ _ _ _ us hl => match us, hl with | [_], _ => rfl
  have m13 := PySem.W.mg_of X G a13
  have F14 := fun_mk (st := sNums) l14 c14 k14
  have b14 := F14.binds (ps := ["found", "due"]) fun _ _ _ _ _ _ us hl => match us, hl with | [_, _], _ => rfl
  have m14 := PySem.W.mg_of X G a14
  have F15 := fun_mk (st := sLMarks) l15 c15 k15
  have b15 := F15.binds (ps := ["script", "at", "things"]) fun _ _ _ _ _ _ us hl => match us, hl with | [_, _, _], _ => rfl
  have m15 := PySem.W.mg_of X G a15
  have F16 := fun_mk (st := sLShares) l16 c16 k16
  have b16 := F16.binds (ps := ["one"]) fun _ _ _ _ _ _ us hl => match us, hl with | [_], _ => rfl
  have m16 := PySem.W.mg_of X G a16
  have F17 := fun_mk (st := sNamed) l17 c17 k17
  have b17 := F17.binds (ps := ["names"]) fun _ _ _ _ _ _ us hl => match us, hl with | [_], _ => rfl
  have m17 := PySem.W.mg_of X G a17
  have F18 := fun_mk (st := sLText) l18 c18 k18
  have b18 := F18.binds (ps := ["one"]) fun _ _ _ _ _ _ us hl => match us, hl with | [_], _ => rfl
  have m18 := PySem.W.mg_of X G a18
  have F19 := fun_mk (st := sLChanged) l19 c19 k19
  have b19 := F19.binds (ps := ["text", "cell"]) fun _ _ _ _ _ _ us hl => match us, hl with | [_, _], _ => rfl
  have m19 := PySem.W.mg_of X G a19
  have F20 := fun_mk (st := sLRead) l20 c20 k20
  have b20 := F20.binds (ps := ["text"]) fun _ _ _ _ _ _ us hl => match us, hl with | [_], _ => rfl
  have m20 := PySem.W.mg_of X G a20
  have F21 := fun_mk (st := sLAsked) l21 c21 k21
  have b21 := F21.binds (ps := ["text"]) fun _ _ _ _ _ _ us hl => match us, hl with | [_], _ => rfl
  have m21 := PySem.W.mg_of X G a21
  have F22 := fun_mk (st := sLaw) l22 c22 k22
  have y0 := PySem.W.mg_none_of X G z0
  have y1 := PySem.W.mg_none_of X G z1
  have y2 := PySem.W.mg_none_of X G z2
  have y3 := PySem.W.mg_none_of X G z3
  have y4 := PySem.W.mg_none_of X G z4
  have y5 := PySem.W.mg_none_of X G z5
  have y6 := PySem.W.mg_none_of X G z6
  have y7 := PySem.W.mg_none_of X G z7
  have y8 := PySem.W.mg_none_of X G z8
  have y9 := PySem.W.mg_none_of X G z9
  have y10 := PySem.W.mg_none_of X G z10
  have y11 := PySem.W.mg_none_of X G z11
  have w0 := PySem.W.mg_of X G q0
  have mCS := PySem.W.mg_of X G nCS
  have mCR := PySem.W.mg_of X G nCR
  have mCT := PySem.W.mg_of X G nCT
  refine ⟨PySem.W.fnOf "law" "law" (defArgs sLaw) (defBody sLaw) (defScope sLaw) .none kV22 dc22 pm22 an22 cd22 ct22, fun s v => .of_eq rfl, fun base _ _ => ?_⟩
  have g1 : Fn l.prog w K mg base "is_many_things" ["number"] 1 (spMany K) := ⟨_, _, m1, k1, b1, ok_many F1 w0⟩
  have g2 : Fn l.prog w K mg base "is_sharing" ["one"] 2 (spIs K) := ⟨_, _, m2, k2, b2, ok_is F2 g1 y0⟩
  have g3 : Fn l.prog w K mg base "ask_sharing" ["one"] 3 (spAsk K) := ⟨_, _, m3, k3, b3, ok_ask F3 g2⟩
  have g4 : Fn l.prog w K mg base "marked" ["labels"] 1 (spMarked (labInt K)) := ⟨_, _, m4, k4, b4, ok_marked (dlInt K) F4 y0⟩
  have g5 : Fn l.prog w K mg base "shares_of" ["one"] 4 (spShares K) := ⟨_, _, m5, k5, b5, ok_shares F5 g3 y1 y2 y3⟩
  have g6 : Fn l.prog w K mg base "are_shares" ["shares"] 2 (spAre K) := ⟨_, _, m6, k6, b6, ok_are F6 y0 y1 y4 y5 g1⟩
  have g7 : Fn1 l.prog w K mg base "marks_of" ["shares"] 3 (spMarks1 K CT) := ⟨_, _, m7, k7, b7, ok_marksof1 xVCT mCT F7 g6 g4 y0 y1 y3⟩
  have g8 : Fn l.prog w K mg base "shown_share" ["share"] 1 (spShownS K) := ⟨_, _, m9, k9, b9, ok_showns F9 y6⟩
  have g9 : Fn l.prog w K mg base "shown" ["one"] 5 (spShown K) := ⟨_, _, m8, k8, b8, ok_shown F8 g5 g8⟩
  have g10 : Fn1 l.prog w K mg base "read_share" ["part"] 1 (spReadS1 K CR) := ⟨_, _, m11, k11, b11, ok_reads1 xVCR mCR F11 y6 y1 w0⟩
  have g11 : Fn1 l.prog w K mg base "read" ["text"] 6 (spRead1 K CR) := ⟨_, _, m10, k10, b10, ok_read1 xVCR mCR F10 g10 g6 g7 g9⟩
  have g12 : Fn l.prog w K mg base "_law_cell_at" ["script", "k"] 1 (spCell K) := ⟨_, _, m12, k12, b12, ok_cell F12 y0⟩
  have g13 : Fn l.prog w K mg base "_law_marks" ["script", "at", "things"] 2 (spLMarks K) := ⟨_, _, m15, k15, b15, ok_lmarks F15 g12 y1 y2⟩
  have g14 : Fn l.prog w K mg base "_law_whole" ["found"] 1 (spWhole K) := ⟨_, _, m13, k13, b13, ok_whole F13 y7 y8 y9⟩
  have g15 : Fn l.prog w K mg base "_law_numbers" ["found", "due"] 2 (spNums K) := ⟨_, _, m14, k14, b14, ok_nums F14 g14 y0 y7 y4⟩
  have g16 : Fn l.prog w K mg base "_law_shares" ["one"] 1 (spLShares K) := ⟨_, _, m16, k16, b16, ok_lshares F16 y0 y1 y2⟩
  have g17 : Fn l.prog w K mg base "_law_named" ["names"] 1 (spMarked (labInt K)) := ⟨_, _, m17, k17, b17, ok_named (labInt K) F17⟩
  have g18 : Fn l.prog w K mg base "_law_text" ["one"] 2 (spLText K) := ⟨_, _, m18, k18, b18, ok_ltext F18 g16 y6⟩
  have g19 : Fn l.prog w K mg base "_law_changed" ["text", "cell"] 1 (spLChanged K) := ⟨_, _, m19, k19, b19, ok_lchanged F19 y0⟩
  have g20 : Fn l.prog w K mg base "_law_read" ["text"] 1 (spLRead K) := ⟨_, _, m20, k20, b20, ok_lread F20 y0 y1 y6⟩
  have g21 : Fn l.prog w K mg base "_law_asked" ["text"] 7 (spLAsk K) := ⟨_, _, m21, k21, b21, ok_lasked mCS mCR mCT kS kR xR i1 i2 i3 F21 g11 y7 y10⟩
  exact ok_law F22 g12 g13 g9 g18 g19 g20 g17 g21 g15 y4 y7 y6 y2 y0 y11
theorem walk {l : PySem.W.OpenLaw} {q : Program} {loose : List Str} {XP : (Str → Option Value) → Heap → Prop} {YP : World → Heap → Prop} {d : DefRec} {K : Params → PySem.W.Frag} (hn : l.most = some 63) (hdf : d.params.defaults = [])
    (hY : ∀ (w : World) (h : Heap), YP w h → (K w.params).In h)
    (F : ∀ (w : World) (mg : Str → Option Value) (fa : Addr) (h : Heap), (K w.params).In h → h.Ns mainGlobals mg → mg d.name = some (.ref fa) →
      ∃ fd : FuncData, (∀ (s : Shared) (u : Value), BindsTo s fd ⟨[u], []⟩ [("script", u)]) ∧ ∀ base : Heap, (K w.params).In base → base.Ns mainGlobals mg → FnOk l.prog w (K w.params) mg base CX0 8 fa fd ["script"] (spLaw (K w.params))) :
    PySem.W.WalkO q loose XP YP l.row.toRowW d [] (fun f vs => PySem.call f vs) :=
  L2.walk_of (n := 63) (k := 8) (x := "script") (CX := fun _ => CX0) (sp := fun w => spLaw (K w.params)) hn (by decide) hdf ⟨rfl, by decide, by decide⟩ hY F (fun _ _ a ns hl _ hS => ⟨a, ns, rfl, hS, hl, fun _ => rfl⟩) fun _ _ _ _ _ z => z
end K
open PySem PySem.W PyProof.Rows
set_option maxRecDepth 100000 in
set_option maxHeartbeats 0 in
theorem PySem.Challenge.cw_sharings_k13_texts_holds : PySem.Challenge.rw_sharings_k13_texts.Holds := by
  w_on; o_law; k_head; (case hw => w_witness2)
  k_fill
  refine K.walk (l := PySem.Challenge.rw_sharings_k13_texts) rfl rfl (fun w h Y => PySem.W.kIn_of Y) ?F
  case F =>
    intro w mg fa h KX G hmg
    refine' K.all_mk KX G hmg ?a1 ?l1 ?c1 ?k1 ?a2 ?l2 ?c2 ?k2 ?a3 ?l3 ?c3 ?k3 ?a4 ?l4 ?c4 ?k4 ?a5 ?l5 ?c5 ?k5 ?a6 ?l6 ?c6 ?k6 ?a7 ?l7 ?c7 ?k7 ?a8 ?l8 ?c8 ?k8 ?a9 ?l9 ?c9 ?k9 ?a10 ?l10 ?c10 ?k10 ?a11 ?l11 ?c11 ?k11 ?a12 ?l12 ?c12 ?k12 ?a13 ?l13 ?c13 ?k13 ?a14 ?l14 ?c14 ?k14 ?a15 ?l15 ?c15 ?k15 ?a16 ?l16 ?c16 ?k16 ?a17 ?l17 ?c17 ?k17 ?a18 ?l18 ?c18 ?k18 ?a19 ?l19 ?c19 ?k19 ?a20 ?l20 ?c20 ?k20 ?a21 ?l21 ?c21 ?k21 ?a22 ?l22 ?c22 ?k22 ?z0 ?z1 ?z2 ?z3 ?z4 ?z5 ?z6 ?z7 ?z8 ?z9 ?z10 ?z11 ?q0 ?nCS ?nCR ?nCT ?xVCR ?xVCT ?kS ?kR ?xR ?i1 ?i2 ?i3
    (case a1 => k_is)
    (case l1 => k_is)
    (case c1 => k_is)
    (case k1 => k_is)
    (case a2 => k_is)
    (case l2 => k_is)
    (case c2 => k_is)
    (case k2 => k_is)
    (case a3 => k_is)
    (case l3 => k_is)
    (case c3 => k_is)
    (case k3 => k_is)
    (case a4 => k_is)
    (case l4 => k_is)
    (case c4 => k_is)
    (case k4 => k_is)
    (case a5 => k_is)
    (case l5 => k_is)
    (case c5 => k_is)
    (case k5 => k_is)
    (case a6 => k_is)
    (case l6 => k_is)
    (case c6 => k_is)
    (case k6 => k_is)
    (case a7 => k_is)
    (case l7 => k_is)
    (case c7 => k_is)
    (case k7 => k_is)
    (case a8 => k_is)
    (case l8 => k_is)
    (case c8 => k_is)
    (case k8 => k_is)
    (case a9 => k_is)
    (case l9 => k_is)
    (case c9 => k_is)
    (case k9 => k_is)
    (case a10 => k_is)
    (case l10 => k_is)
    (case c10 => k_is)
    (case k10 => k_is)
    (case a11 => k_is)
    (case l11 => k_is)
    (case c11 => k_is)
    (case k11 => k_is)
    (case a12 => k_is)
    (case l12 => k_is)
    (case c12 => k_is)
    (case k12 => k_is)
    (case a13 => k_is)
    (case l13 => k_is)
    (case c13 => k_is)
    (case k13 => k_is)
    (case a14 => k_is)
    (case l14 => k_is)
    (case c14 => k_is)
    (case k14 => k_is)
    (case a15 => k_is)
    (case l15 => k_is)
    (case c15 => k_is)
    (case k15 => k_is)
    (case a16 => k_is)
    (case l16 => k_is)
    (case c16 => k_is)
    (case k16 => k_is)
    (case a17 => k_is)
    (case l17 => k_is)
    (case c17 => k_is)
    (case k17 => k_is)
    (case a18 => k_is)
    (case l18 => k_is)
    (case c18 => k_is)
    (case k18 => k_is)
    (case a19 => k_is)
    (case l19 => k_is)
    (case c19 => k_is)
    (case k19 => k_is)
    (case a20 => k_is)
    (case l20 => k_is)
    (case c20 => k_is)
    (case k20 => k_is)
    (case a21 => k_is)
    (case l21 => k_is)
    (case c21 => k_is)
    (case k21 => k_is)
    (case a22 => k_is)
    (case l22 => k_is)
    (case c22 => k_is)
    (case k22 => k_is)
    (case z0 => k_is)
    (case z1 => k_is)
    (case z2 => k_is)
    (case z3 => k_is)
    (case z4 => k_is)
    (case z5 => k_is)
    (case z6 => k_is)
    (case z7 => k_is)
    (case z8 => k_is)
    (case z9 => k_is)
    (case z10 => k_is)
    (case z11 => k_is)
    (case q0 => k_is)
    (case nCS => k_is)
    (case nCR => k_is)
    (case nCT => k_is)
    (case xVCR => (show PySem.W.excIn _ _ [.type "ValueError", .type "Exception", .type "BaseException", .type "object"] _ = true; k_exc))
    (case xVCT => (show PySem.W.excIn _ _ [.type "ValueError", .type "Exception", .type "BaseException", .type "object"] _ = true; k_exc))
    (case kS => first | k_is | rfl | decide +kernel)
    (case kR => first | k_is | rfl | decide +kernel)
    (case xR => constructor <;> first | k_is | rfl | decide +kernel)
    (case i1 => first | k_is | rfl | decide +kernel)
    (case i2 => first | k_is | rfl | decide +kernel)
    (case i3 => first | k_is | rfl | decide +kernel)
