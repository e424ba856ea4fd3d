import PyProof.Rows.All
import Wide.All
import OpenK.AllK
import Wide.FinOn
import Lean
import PyProof.EqAt
import PyProof.EqKinds
import PyProof.TupleCall
import PyProof.CompFree
import PyProof.ZipIter
import PyProof.ListNew
import PyProof.ListRange
import PyProof.CollectIter
import KE.KRevIter
import PyProof.Rows.SortRev
import PyProof.Rows.SetFrom
import PyProof.SetRoads
import PyProof.ExcArgsOwn
import PyProof.ExcBaseAll.ValueError
import PyProof.NsDelKeeps
import PyProof.RulesAs
import PyProof.StrCalls2
import PyProof.StrLaws
import PyProof.Rows.StrItems
import PyProof.StrLawsChain
import PyProof.StrLawsTight
import PyProof.StrBlockG
import KE.KDictList
import PyProof.TupleOfGen
import PySem.Challenge.RW_sharings_k09_whole_rises

set_option Elab.async false
set_option linter.all false
set_option maxRecDepth 100000
namespace L2
open PySem PySem.Spec PyProof.Rows

abbrev Key := Sum Int Str
def keyIs : Key → Value → Bool
  | .inl k, v => Value.isInt k v
  | .inr x, v => Value.isStrOf x v
def keyH (w : World) : Key → Int
  | .inl k => hashInt k
  | .inr x => hashStr w x
theorem keyIs_shape : ∀ {k : Key} {v : Value}, keyIs k v = true → (∃ i t, k = Sum.inl i ∧ v = Value.int i t) ∨ (∃ x t, k = Sum.inr x ∧ v = Value.str x t)
  | .inl i, v, h => by
    obtain ⟨t, e⟩ := Value.isInt_shape (k := i) (v := v) h
    exact .inl ⟨i, t, rfl, e⟩
  | .inr x, v, h => by
    obtain ⟨t, e⟩ := Value.isStrOf_shape (x := x) (v := v) h
    exact .inr ⟨x, t, rfl, e⟩
theorem keyIs_int (i : Int) (t : Tok) : keyIs (.inl i) (.int i t) = true := by simp [keyIs, Value.isInt]
theorem keyIs_str (x : Str) (t : Tok) : keyIs (.inr x) (.str x t) = true := by simp [keyIs, Value.isStrOf]
theorem key_ll (a b : Int) : decide ((Sum.inl a : Key) = Sum.inl b) = (a == b) := by
  by_cases e : a = b
  · subst e; simp
  · have h : ¬ (Sum.inl a : Key) = Sum.inl b := fun q => e (Sum.inl.inj q)
    rw [decide_eq_false h]
    exact (beq_eq_false_iff_ne.mpr e).symm
theorem key_rr (a b : Str) : decide ((Sum.inr a : Key) = Sum.inr b) = decide (a = b) := by
  by_cases e : a = b
  · subst e; simp
  · have h : ¬ (Sum.inr a : Key) = Sum.inr b := fun q => e (Sum.inr.inj q)
    rw [decide_eq_false h, decide_eq_false e]
theorem key_lr (a : Int) (b : Str) : decide ((Sum.inl a : Key) = Sum.inr b) = false := decide_eq_false (fun q => nomatch q)
theorem key_rl (a : Str) (b : Int) : decide ((Sum.inr a : Key) = Sum.inl b) = false := decide_eq_false (fun q => nomatch q)

def mixKind (prog : Program) (w : World) : PySem.KeyKind prog w Key where
  is := keyIs
  hash := keyH w
  inj := fun v a b ha hb => by
    rcases keyIs_shape ha with ⟨i, t, rfl, rfl⟩ | ⟨x, t, rfl, rfl⟩
    · rcases keyIs_shape hb with ⟨j, u, rfl, e⟩ | ⟨y, u, rfl, e⟩
      · injection e with e1 _; rw [e1]
      · exact nomatch e
    · rcases keyIs_shape hb with ⟨j, u, rfl, e⟩ | ⟨y, u, rfl, e⟩
      · exact nomatch e
      · injection e with e1 _; rw [e1]
  byValue := fun k v h => by
    rcases keyIs_shape h with ⟨i, t, rfl, rfl⟩ | ⟨x, t, rfl, rfl⟩ <;> rfl
  pyHash := fun hv h => by
    rcases keyIs_shape hv with ⟨i, t, rfl, rfl⟩ | ⟨x, t, rfl, rfl⟩
    · exact wpAny_pyHash_int h
    · exact wpAny_pyHash_str h
  eqBool := fun hu hv h => by
    rcases keyIs_shape hu with ⟨i, t, rfl, rfl⟩ | ⟨x, t, rfl, rfl⟩
    · rcases keyIs_shape hv with ⟨j, u, rfl, rfl⟩ | ⟨y, u, rfl, rfl⟩
      · rw [key_ll] at h; exact wpAny_eqBool_int h
      · rw [key_lr] at h; exact SeqAt.EqAt.int_str i t y u _ _ _ _ h
    · rcases keyIs_shape hv with ⟨j, u, rfl, rfl⟩ | ⟨y, u, rfl, rfl⟩
      · rw [key_rl] at h; exact SeqAt.EqAt.str_int x t j u _ _ _ _ h
      · rw [key_rr] at h; exact wpAny_eqBool_str h
  «strs» := fun k x t v h => by
    rcases keyIs_shape h with ⟨i, u, rfl, e⟩ | ⟨y, u, rfl, e⟩
    · exact nomatch e
    · injection e with e1 _
      subst e1
      cases v <;> rfl

theorem mixKind_int (prog : Program) (w : World) (i : Int) (t : Tok) : (mixKind prog w).is (.inl i) (.int i t) = true := keyIs_int i t
theorem mixKind_str (prog : Program) (w : World) (x : Str) (t : Tok) : (mixKind prog w).is (.inr x) (.str x t) = true := keyIs_str x t
end L2

namespace L2
open PySem PySem.Spec PyProof.Rows

inductive V where
  | non | bl (b : Bool) | int (i : Int) | str (x : Str) | byt (b : Array UInt8) | flt (b : UInt64) | ref (a : Addr) | ty (n : String)
  deriving DecidableEq

def RelV : V → Value → Prop
  | .non, u => u = Value.none
  | .bl b, u => u = Value.bool b
  | .int i, u => ∃ t, u = Value.int i t
  | .str x, u => ∃ t, u = Value.str x t
  | .byt b, u => ∃ t, u = Value.bytes b t
  | .flt b, u => ∃ t, u = Value.float b t
  | .ref a, u => u = Value.ref a
  | .ty n, u => u = Value.type n

abbrev Vals : List V → List Value → Prop := Paired RelV
theorem Vals.length {xs : List V} {us : List Value} (r : Vals xs us) : xs.length = us.length := Paired.length r
theorem Vals.get : ∀ {xs : List V} {us : List Value} {i : Nat} {x : V}, Vals xs us → xs[i]? = some x → ∃ u, us[i]? = some u ∧ RelV x u
  | _, _, _, _, .nil, e => by simp at e
  | _, _, 0, _, .cons r _, e => by simp at e; subst e; exact ⟨_, rfl, r⟩
  | _, _, i + 1, x, .cons _ t, e => by
    obtain ⟨u, h1, h2⟩ := Vals.get (i := i) (x := x) t (by simpa using e)
    exact ⟨u, by simpa using h1, h2⟩
theorem Vals.append : ∀ {xs ys : List V} {us ws : List Value}, Vals xs us → Vals ys ws → Vals (xs ++ ys) (us ++ ws)
  | _, _, _, _, .nil, s => s
  | _, _, _, _, .cons r t, s => .cons r (Vals.append t s)
theorem Vals.take : ∀ {xs : List V} {us : List Value} (n : Nat), Vals xs us → Vals (xs.take n) (us.take n)
  | _, _, 0, _ => .nil
  | _, _, _ + 1, .nil => .nil
  | _, _, n + 1, .cons r t => .cons r (Vals.take n t)
theorem Vals.drop : ∀ {xs : List V} {us : List Value} (n : Nat), Vals xs us → Vals (xs.drop n) (us.drop n)
  | _, _, 0, r => r
  | _, _, _ + 1, .nil => .nil
  | _, _, n + 1, .cons _ t => Vals.drop n t
def RelO : Option V → Option Value → Prop
  | some v, some u => RelV v u
  | none, none => True
  | _, _ => False
def KV {κ : Type} : List (κ × V) → List (κ × Value) → Prop := Paired fun (p : κ × V) (q : κ × Value) => p.1 = q.1 ∧ RelV p.2 q.2

def kV : Key → V
  | .inl i => .int i
  | .inr x => .str x

inductive HO where
  /-- a list -/
  | lst (xs : List V)
  /-- a tuple (never changes) -/
  | tup (xs : List V)
  /-- a dict whose keys are ints and texts; one whose keys are tuples of ints and texts (the empty one is both) -/
  | dK (kvs : List (Key × V)) | dT (kvs : List (List Key × V))
  /-- a set of ints: its members, its size -/
  | set (S : Int → Bool) (n : Nat)
  /-- an instance of the class at C, its dict at dx, its attributes -/
  | ins (C dx : Addr) (fs : List (Str × V))
  /-- the dict of the instance at x -/
  | own (x : Addr)
  /-- the dict of an exception -/
  | xd (fs : List (Str × V))
  /-- a bound method, f of x -/
  | met (f x : Addr)
  /-- a range object lo, lo + 1, .. below hi -/
  | rng (lo hi : Int)
  /-- a thing that is known to the object (the script; a dict while a loop walks it): read, never written while it is so -/
  | frz (o : Obj) (u : HO)
  /-- a code object's table -/
  | tbl (ps : Array Value)
  /-- any other thing, by what is true of its one object (a def of one's own: SetO a S n := HO.ext fun h => ..) -/
  | ext (φ : Heap → Prop)

abbrev Hp := Addr → Option HO
def upd (H : Hp) (a : Addr) (o : HO) : Hp := fun b => if b = a then some o else H b
theorem upd_same {H : Hp} {a : Addr} {o : HO} : upd H a o a = some o := by unfold upd; rw [if_pos rfl]
theorem upd_ne {H : Hp} {a b : Addr} {o : HO} (h : b ≠ a) : upd H a o b = H b := by unfold upd; rw [if_neg h]
theorem ne_of {H : Hp} {a b : Addr} {o u : HO} (h : H a = some o) (h' : H b = some u) (d : o ≠ u) : a ≠ b := by
  intro e; subst e; rw [h] at h'; exact d (Option.some.inj h')
theorem ne_of_none {H : Hp} {a b : Addr} {o : HO} (h : H a = some o) (h' : H b = none) : a ≠ b := by
  intro e; subst e; rw [h] at h'; cases h'

section
variable (P : Program) (w : World)
def ObjOk (H : Hp) (h : Heap) (a : Addr) : HO → Prop
  | .lst xs => xs.length ≤ sizeLine ∧ ∃ (its : List Value) (n : Nat), Vals xs its ∧ h.get? a = some { cls := .type "list", data := .seq its.toArray n }
  | .tup xs => xs.length ≤ sizeLine ∧ ∃ its : List Value, Vals xs its ∧ IsTup h a its.toArray
  | .dK kvs => kvs.length ≤ sizeLine ∧ (a == sysModules) = false ∧ ∃ vs, KV kvs vs ∧ h.DictOf (mixKind P w) a vs
  | .dT kvs => kvs.length ≤ sizeLine ∧ (a == sysModules) = false ∧ ∃ xs : List (List Key × Addr × Value),
      Paired (fun (p : List Key × V) (q : List Key × Addr × Value) => p.1 = q.1 ∧ H q.2.1 = some (.tup (p.1.map kV)) ∧ RelV p.2 q.2.2) kvs xs ∧
      ∃ o es ep, h.get? a = some o ∧ o.ExactDict ∧ o.data = .dict es ep ∧ es.toList = xs.map (entryOfKey (tupleKind (mixKind P w))) ∧ (xs.map (·.1)).Nodup
  | .set S n => h.SetOf (intKind P w) a S n
  | .ins C dx fs => H dx = some (.own a) ∧ fs.length ≤ 1000 ∧ dx ≠ a ∧ h.get? a = some (PySem.W.instObj C dx) ∧
      ∃ mA, h.Ns1 dx mA ∧ (∀ f, RelO (fs.lookup f) (mA f)) ∧ PySem.Within mA (fs.map (·.1))
  | .own _ => ∃ o, h.get? a = some o
  | .xd fs => ∃ mA, h.Ns1 a mA ∧ ∀ f, RelO (fs.lookup f) (mA f)
  | .rng lo hi => ∃ t u v, h.get? a = some { cls := .type "range", data := .fields #[.int lo t, .int hi u, .int 1 v] }
  | .frz o u => h.get? a = some o ∧ ObjOk H h a u
  | .tbl ps => h.get? a = some { cls := .none, data := .fields ps }
  | .met f x => h.get? a = some (PySem.W.methodObj (.ref f) (.ref x))
  | .ext φ => φ h ∧ (∃ o, h.get? a = some o) ∧ ∀ h1 h2 : Heap, φ h1 → (∀ o, h1.get? a = some o → h2.get? a = some o) → φ h2
def HOk (H : Hp) (h : Heap) : Prop := ∀ a o, H a = some o → ObjOk P w H h a o
end

section
variable {P : Program} {w : World} {H H' : Hp} {h h' : Heap} {a : Addr} {o : HO}
theorem ObjOk.lt (x : ObjOk P w H h a o) : a < h.objs.size := by
  cases o with
  | lst xs => obtain ⟨_, _, _, _, e⟩ := x; exact Heap.lt_size e
  | tup xs => obtain ⟨_, _, _, p⟩ := x; exact p.lt
  | dK kvs => obtain ⟨_, _, _, _, o, _, _, e, _⟩ := x; exact Heap.lt_size e
  | dT kvs => obtain ⟨_, _, _, _, o, _, _, e, _⟩ := x; exact Heap.lt_size e
  | set S n => obtain ⟨o, _, _, _, e, _⟩ := x; exact Heap.lt_size e
  | ins C dx fs => obtain ⟨_, _, _, e, _⟩ := x; exact Heap.lt_size e
  | own y => obtain ⟨_, e⟩ := x; exact Heap.lt_size e
  | xd fs => obtain ⟨_, ⟨_, _, _, e, _⟩, _⟩ := x; exact Heap.lt_size e
  | rng lo hi => obtain ⟨_, _, _, e⟩ := x; exact Heap.lt_size e
  | frz ob u => obtain ⟨e, _⟩ := x; exact Heap.lt_size e
  | tbl ps => exact Heap.lt_size (show h.get? a = some _ from x)
  | met f y => exact Heap.lt_size (show h.get? a = some _ from x)
  | ext φ => obtain ⟨_, ⟨_, e⟩, _⟩ := x; exact Heap.lt_size e
theorem Paired.mapP {α β : Type} {F G : α → β → Prop} : ∀ {l₁ : List α} {l₂ : List β}, Paired F l₁ l₂ → (∀ a b, F a b → G a b) → Paired G l₁ l₂
  | _, _, .nil, _ => .nil
  | _, _, .cons r t, f => .cons (f _ _ r) (Paired.mapP t f)
theorem ObjOk.stay (x : ObjOk P w H h a o) (k : ∀ b u, (b = a ∨ H b = some (.own a)) → h.get? b = some u → h'.get? b = some u)
    (ho : ∀ b, H b = some (.own a) → H' b = some (.own a)) (ht : ∀ b xs, H b = some (.tup xs) → H' b = some (.tup xs)) : ObjOk P w H' h' a o := by
  induction o with
  | lst xs => obtain ⟨z, its, n, r, e⟩ := x; exact ⟨z, its, n, r, k _ _ (.inl rfl) e⟩
  | tup xs => obtain ⟨z, its, r, ob, e, c⟩ := x; exact ⟨z, its, r, ob, k _ _ (.inl rfl) e, c⟩
  | dK kvs => obtain ⟨z, y, vs, r, ob, es, ep, e, c⟩ := x; exact ⟨z, y, vs, r, ob, es, ep, k _ _ (.inl rfl) e, c⟩
  | dT kvs =>
    obtain ⟨z, y, xs, r, ob, es, ep, e, c⟩ := x
    exact ⟨z, y, xs, Paired.mapP r fun p q z => ⟨z.1, ht _ _ z.2.1, z.2.2⟩, ob, es, ep, k _ _ (.inl rfl) e, c⟩
  | set S n => obtain ⟨ob, es, ep, t, e, c⟩ := x; exact ⟨ob, es, ep, t, k _ _ (.inl rfl) e, c⟩
  | ins C dx fs =>
    obtain ⟨d, z, ne, e, mA, ⟨od, es, ep, e2, c⟩, r⟩ := x
    exact ⟨ho _ d, z, ne, k _ _ (.inl rfl) e, mA, ⟨od, es, ep, k _ _ (.inr d) e2, c⟩, r⟩
  | own y => obtain ⟨ob, e⟩ := x; exact ⟨ob, k _ _ (.inl rfl) e⟩
  | xd fs => obtain ⟨mA, ⟨od, es, ep, e, c⟩, r⟩ := x; exact ⟨mA, ⟨od, es, ep, k _ _ (.inl rfl) e, c⟩, r⟩
  | rng lo hi => obtain ⟨t, u, v, e⟩ := x; exact ⟨t, u, v, k _ _ (.inl rfl) e⟩
  | frz ob u ih => obtain ⟨e, q⟩ := x; exact ⟨k _ _ (.inl rfl) e, ih q⟩
  | tbl ps =>
    have e : h.get? a = some { cls := .none, data := .fields ps } := x
    show h'.get? a = some { cls := .none, data := .fields ps }
    exact k a _ (.inl rfl) e
  | met f y =>
    have e : h.get? a = some (PySem.W.methodObj (.ref f) (.ref y)) := x
    show h'.get? a = some (PySem.W.methodObj (.ref f) (.ref y))
    exact k a _ (.inl rfl) e
  | ext φ => obtain ⟨p, ⟨o, e⟩, st⟩ := x; exact ⟨st _ _ p fun o q => k _ _ (.inl rfl) q, ⟨o, k _ _ (.inl rfl) e⟩, st⟩
theorem HOk.lt (x : HOk P w H h) (e : H a = some o) : a < h.objs.size := (x a o e).lt
theorem HOk.fresh (x : HOk P w H h) (e : h.objs.size ≤ a) : H a = none := by
  cases q : H a with
  | none => rfl
  | some u => exact absurd (Nat.lt_of_lt_of_le (x.lt q) e) (Nat.lt_irrefl _)
theorem HOk.kept (x : HOk P w H h) (k : ∀ b u, h.get? b = some u → h'.get? b = some u) : HOk P w H h' := fun a o e =>
  (x a o e).stay (fun b u _ q => k b u q) (fun _ q => q) fun _ _ q => q
theorem HOk.laid (x : HOk P w H h) (k : ∀ b u, h.get? b = some u → h'.get? b = some u) (hp : h.objs.size ≤ a) (new : ObjOk P w (upd H a o) h' a o) : HOk P w (upd H a o) h' := fun b u e => by
  have hn := x.fresh hp
  by_cases hb : b = a
  · subst hb; rw [upd_same] at e; cases e; exact new
  · rw [upd_ne hb] at e
    exact (x b u e).stay (fun c v _ q => k c v q) (fun c q => by rw [upd_ne (ne_of_none q hn)]; exact q) fun c xs q => by rw [upd_ne (ne_of_none q hn)]; exact q
end

def Rd (H : Hp) (a : Addr) (u : HO) : Prop := H a = some u ∨ ∃ o, H a = some (.frz o u)
theorem Rd.ok {P : Program} {w : World} {H : Hp} {h : Heap} {a : Addr} {u : HO} (r : Rd H a u) (x : HOk P w H h) : ObjOk P w H h a u := by
  rcases r with r | ⟨o, r⟩
  · exact x a u r
  · obtain ⟨_, q⟩ := x a _ r
    exact q
def Mut : Option HO → Prop
  | some (.lst _) => True
  | some (.dK _) => True
  | some (.dT _) => True
  | some (.set _ _) => True
  | some (.ins _ _ _) => True
  | some (.ext _) => True
  | _ => False
section
variable {P : Program} {w : World} {H : Hp} {h h' : Heap} {x e : Addr} {o' : HO}
theorem HOk.write (ok : HOk P w H h) (mu : Mut (H x)) (he : e = x ∨ H e = some (.own x)) (k : ∀ b u, b ≠ e → h.get? b = some u → h'.get? b = some u) (heo : ∃ u, h'.get? e = some u)
    (new : ObjOk P w (upd H x o') h' x o') : HOk P w (upd H x o') h' := fun b u q => by
  have nown : ∀ c y, H c = some (.own y) → c ≠ x := fun c y r z => by subst z; rw [r] at mu; exact mu
  have ntup : ∀ c xs, H c = some (.tup xs) → c ≠ x := fun c xs r z => by subst z; rw [r] at mu; exact mu
  by_cases hb : b = x
  · subst hb; rw [upd_same] at q; cases q; exact new
  · rw [upd_ne hb] at q
    by_cases hbe : b = e
    · have q' : H b = some (.own x) := by
        rcases he with z | z
        · exact absurd (hbe.trans z) hb
        · rw [hbe]; exact z
      rw [q] at q'; cases q'
      obtain ⟨v, hv⟩ := heo
      exact ⟨v, by rw [hbe]; exact hv⟩
    · refine (ok b u q).stay (fun c v hc r => k c v ?_ r) (fun c r => by rw [upd_ne (nown c b r)]; exact r) fun c xs r => by rw [upd_ne (ntup c xs r)]; exact r
      rcases hc with rfl | hc
      · exact hbe
      · rintro rfl
        rcases he with z | z
        · exact nown c b hc z
        · rw [hc] at z; cases z; exact hb rfl
end

structure Un (fs ex : List Addr) (H H' : Hp) (h h' : Heap) : Prop where
  keep : ∀ b o, h.get? b = some o → H b = none → b ∉ fs → b ∉ ex → h'.get? b = some o
  slot : ∀ b o, h.get? b = some o → H b = none → b ∈ fs → b ∉ ex → ∃ sl, h'.get? b = some { o with slots := sl }
  free : ∀ b o, h.get? b = some o → H b = none → b ∉ ex → H' b = none
  there : ∀ b o, h.get? b = some o → b ∉ ex → ∃ o', h'.get? b = some o'
  tups : ∀ b xs, H b = some (.tup xs) → H' b = some (.tup xs)
  frzs : ∀ b o u, H b = some (.frz o u) → H' b = some (.frz o u)
  tbls : ∀ b ps, H b = some (.tbl ps) → ∃ more, H' b = some (.tbl (ps ++ more))
section
variable {fs fs' ex ex' : List Addr} {H H1 H2 : Hp} {h h1 h2 h' : Heap} {a x e : Addr} {o : HO}
theorem Un.any (u : Un fs ex H H1 h h1) {b : Addr} {ob : Obj} (q : h.get? b = some ob) (n : H b = none) (hx : b ∉ ex) : ∃ sl, h1.get? b = some { ob with slots := sl } := by
  by_cases hb : b ∈ fs
  · exact u.slot b ob q n hb hx
  · exact ⟨ob.slots, u.keep b ob q n hb hx⟩
theorem Un.trans (a : Un fs ex H H1 h h1) (b : Un fs ex H1 H2 h1 h2) : Un fs ex H H2 h h2 where
  keep := fun c ob q n hc hx => b.keep c ob (a.keep c ob q n hc hx) (a.free c ob q n hx) hc hx
  slot := fun c ob q n hc hx => by
    obtain ⟨sl, e1⟩ := a.slot c ob q n hc hx
    obtain ⟨sl', e2⟩ := b.slot c _ e1 (a.free c ob q n hx) hc hx
    exact ⟨sl', e2⟩
  free := fun c ob q n hx => by
    obtain ⟨o', e1⟩ := a.there c ob q hx
    exact b.free c o' e1 (a.free c ob q n hx) hx
  there := fun c ob q hx => by
    obtain ⟨o', e1⟩ := a.there c ob q hx
    exact b.there c o' e1 hx
  tups := fun c xs q => b.tups c xs (a.tups c xs q)
  frzs := fun c ob xs q => b.frzs c ob xs (a.frzs c ob xs q)
  tbls := fun c ps q => by
    obtain ⟨m1, e1⟩ := a.tbls c ps q
    obtain ⟨m2, e2⟩ := b.tbls c _ e1
    exact ⟨m1 ++ m2, by rw [e2, Array.append_assoc]⟩
theorem Un.kept (k : ∀ b u, h.get? b = some u → h'.get? b = some u) : Un fs ex H H h h' :=
  ⟨fun b ob q _ _ _ => k b ob q, fun b ob q _ _ _ => ⟨ob.slots, k b ob q⟩, fun _ _ _ n _ => n, fun b ob q _ => ⟨ob, k b ob q⟩, fun _ _ q => q, fun _ _ _ q => q, fun _ ps q => ⟨#[], by rw [q]; simp⟩⟩
theorem Un.refl : Un fs ex H H h h := Un.kept fun _ _ q => q
theorem Un.laid (k : ∀ b u, h.get? b = some u → h'.get? b = some u) (hp : h.objs.size ≤ a) (hn : H a = none) : Un fs ex H (upd H a o) h h' where
  keep := fun b u q _ _ _ => k b u q
  slot := fun b u q _ _ _ => ⟨u.slots, k b u q⟩
  free := fun b u q n _ => by rw [upd_ne (Nat.ne_of_lt (Nat.lt_of_lt_of_le (Heap.lt_size q) hp))]; exact n
  there := fun b u q _ => ⟨u, k b u q⟩
  tups := fun b xs q => by rw [upd_ne (ne_of_none q hn)]; exact q
  frzs := fun b u xs q => by rw [upd_ne (ne_of_none q hn)]; exact q
  tbls := fun b ps q => ⟨#[], by rw [upd_ne (ne_of_none q hn), q]; simp⟩
theorem Un.write (mu : Mut (H x)) (he : e = x ∨ H e = some (.own x)) (k : ∀ b u, b ≠ e → h.get? b = some u → h'.get? b = some u) (heo : ∃ u, h'.get? e = some u) : Un fs ex H (upd H x o) h h' := by
  have hx : ∀ b, H b = none → b ≠ x := fun b n z => by subst z; rw [n] at mu; exact mu
  have hb : ∀ b, H b = none → b ≠ e := fun b n z => by
    subst z
    rcases he with r | r
    · exact hx b n r
    · rw [n] at r; cases r
  have hm : ∀ b u, H b = some u → ¬ Mut (some u) → b ≠ x := fun b u q nm z => by subst z; rw [q] at mu; exact nm mu
  refine ⟨fun b u q n _ _ => k b u (hb b n) q, fun b u q n _ _ => ⟨u.slots, k b u (hb b n) q⟩, fun b u q n _ => by rw [upd_ne (hx b n)]; exact n, fun b u q _ => ?_,
    fun b xs q => by rw [upd_ne (hm b _ q fun z => z)]; exact q, fun b u xs q => by rw [upd_ne (hm b _ q fun z => z)]; exact q, fun b ps q => ⟨#[], by rw [upd_ne (hm b _ q fun z => z), q]; simp⟩⟩
  by_cases hbe : b = e
  · subst hbe; exact heo
  · exact ⟨u, k b u hbe q⟩
theorem Un.mono (u : Un fs ex H H1 h h1) (hs : ∀ b ∈ fs, b ∈ fs') (hx : ∀ b ∈ ex, b ∈ ex') : Un fs' ex' H H1 h h1 :=
  ⟨fun b ob q n hb he => u.keep b ob q n (fun z => hb (hs b z)) fun z => he (hx b z), fun _ _ q n _ he => u.any q n fun z => he (hx _ z), fun b ob q n he => u.free b ob q n fun z => he (hx b z), fun b ob q he => u.there b ob q fun z => he (hx b z), u.tups, u.frzs, u.tbls⟩
end

def trk (h : Heap) (H : Hp) : List Addr := (List.range h.objs.size).filter fun a => (H a).isSome
def hidT (h : Heap) (H : Hp) : Heap := PySem.W.hideAll h (trk h H)
theorem hidT_size (h : Heap) (H : Hp) : (hidT h H).objs.size = h.objs.size := PySem.W.hideAll_size _ _
theorem hidT_get {h : Heap} {H : Hp} {b : Addr} {o : Obj} (e : h.get? b = some o) (n : H b = none) : (hidT h H).get? b = some o :=
  PySem.W.hideAll_get _ e fun hm => by
    have q : (H b).isSome = true := (List.mem_filter.mp hm).2
    rw [n] at q; simp at q
theorem of_hidT {h : Heap} {H : Hp} {b : Addr} {o : Obj} (e : (hidT h H).get? b = some o) : h.get? b = some o ∧ H b = none := by
  have e' : h.get? b = some o := PySem.W.of_hideAll (trk h H) e
  refine ⟨e', ?_⟩
  cases q : H b with
  | none => rfl
  | some x =>
    have hm : b ∈ trk h H := List.mem_filter.mpr ⟨List.mem_range.mpr (Heap.lt_size e'), by simp [q]⟩
    have z : (hidT h H).get? b = none := PySem.W.hideAll_none (trk h H) hm
    rw [z] at e; cases e

def allNews (g h : Heap) (L : Addr) : List (Addr × Obj) := (List.range h.objs.size).filterMap fun a => if a = L ∨ (g.get? a).isSome = true then none else (h.get? a).map fun o => (a, o)
def rest (g h : Heap) (L d : Addr) : List (Addr × Obj) := (allNews g h L).filter fun p => decide (p.1 ≠ d)
end L2

namespace L2
open PySem PySem.Spec PyProof.Rows

structure Mod (K : PySem.W.Frag) (mg : Str → Option Value) (base : Heap) : Prop where
  kin : K.In base
  glob : base.Ns mainGlobals mg
  blt : ∃ mb, base.Ns builtinsNs mb ∧ ∀ x : Str, x ≠ "__name__" → mb x = bootBuiltins x
  nolimit : base.NoLimit

structure Cx where
  prog : Program
  w : World
  K : PySem.W.Frag
  mg : Str → Option Value
  base : Heap
  A : Around
  N : List Str
  s₀ : Shared
  H₀ : Hp
  env : Env
  outer : List Env
  stack : List Env
  ex : List Addr
  fn : Str → Bool
  calm : Bool
  pn : List (Addr × Obj)
  xe : Value → Shared → Prop
def frs (l : List Env) : List Addr := l.filterMap (·.frame)
abbrev Cx.fs (X : Cx) : List Addr := frs X.outer

def Vis (sc : Scope) (x : Str) : Prop := sc.names.lookup x = some .local ∨ sc.names.lookup x = some .cell ∨ sc.names.lookup x = some .free
def Loc (sc : Scope) (x : Str) : Prop := sc.names.lookup x = some .local ∨ sc.names.lookup x = some .cell
def Look (env : Env) (h : Heap) (m : Str → Option Value) (x : Str) (u : Value) : Prop :=
  (env.kindOf x = some .local ∧ m x = some u) ∨ ((env.kindOf x = some .cell ∨ env.kindOf x = some .free) ∧ ∃ c, env.cells.lookup x = some c ∧ h.IsCell c (some u))

structure Cx.Ok (X : Cx) : Prop where
  mod : Mod X.K X.mg X.base
  kind : X.env.scope.kind = .function
  glob : X.env.globals = mainGlobals
  blt : X.env.builtins = builtinsNs
  above : X.s₀.heap.objs.size ≤ X.env.locals
  inj : ∀ x y c, X.env.cells.lookup x = some c → X.env.cells.lookup y = some c → x = y
  has : ∀ x, (X.env.kindOf x = some .cell ∨ X.env.kindOf x = some .free) → ∃ c, X.env.cells.lookup x = some c
  cab : ∀ x c, X.fn x = true → X.env.cells.lookup x = some c → X.s₀.heap.objs.size ≤ c
  hd : X.calm = true → X.A.handled = none
  frames : X.A.frames = some X.stack
  stk : X.stack = X.outer ∨ (X.stack = X.env :: X.outer ∧ X.env.frame = some X.env.locals)
  exf : ∀ b ∈ X.ex, b ≠ X.env.locals ∧ ∀ x c, X.env.cells.lookup x = some c → c ≠ b
  bs : ∀ b o, X.base.get? b = some o → X.s₀.heap.get? b = some o ∧ X.H₀ b = none
  bsz : X.base.objs.size ≤ X.s₀.heap.objs.size
  noex : ∀ b o, X.base.get? b = some o → b ∉ X.ex
  exfs : ∀ b ∈ X.ex, b ∉ X.fs
  funs : X.s₀.heap.FunFrames X.base X.outer
  frf : ∀ b ∈ X.fs, X.H₀ b = none

structure Inv (X : Cx) (pins : List (Addr × Obj)) (σ : List (Option V)) (H : Hp) (s : Shared) : Prop where
  ok : X.Ok
  os : s.os = X.s₀.os
  bare : AllBare s.gens
  base : Un X.fs X.ex X.H₀ H X.s₀.heap s.heap
  loc : ∃ m, s.heap.Ns X.env.locals m ∧ ∀ (i : Nat) (x : Str) (v : V), X.N[i]? = some x → σ[i]? = some (some v) → Vis X.env.scope x → ∃ u, RelV v u ∧ Look X.env s.heap m x u
  cell : ∀ x c, X.env.cells.lookup x = some c → ∃ v, s.heap.IsCell c v
  free : H X.env.locals = none
  freeC : ∀ x c, X.env.cells.lookup x = some c → H c = none
  pin : ∀ p ∈ X.pn ++ pins, s.heap.get? p.1 = some p.2 ∧ H p.1 = none ∧ p.1 ≠ X.env.locals ∧ p.1 ∉ X.fs ∧ ∀ v, p.2.data ≠ .cell v
  hok : HOk X.prog X.w H s.heap
  len : σ.length = X.N.length

section
variable {X : Cx} {pins : List (Addr × Obj)} {σ : List (Option V)} {H H' : Hp} {s : Shared} {h' : Heap}

theorem Cx.Ok.nofr (ok : X.Ok) {b : Addr} {o : Obj} (e : X.base.get? b = some o) : b ∉ X.fs := fun hb => by
  have := (ok.funs.mem hb).1
  rw [e] at this; cases this
theorem Inv.bs (I : Inv X pins σ H s) : ∀ b o, X.base.get? b = some o → s.heap.get? b = some o ∧ H b = none := fun b o e =>
  ⟨I.base.keep b o (I.ok.bs b o e).1 (I.ok.bs b o e).2 (I.ok.nofr e) (I.ok.noex b o e), I.base.free b o (I.ok.bs b o e).1 (I.ok.bs b o e).2 (I.ok.noex b o e)⟩
theorem Inv.bk (I : Inv X pins σ H s) : ∀ b o, X.base.get? b = some o → s.heap.get? b = some o := fun b o e => (I.bs b o e).1
theorem Inv.mod (I : Inv X pins σ H s) : Mod X.K X.mg X.base := I.ok.mod
theorem Inv.kIn (I : Inv X pins σ H s) : X.K.In s.heap := I.ok.mod.kin.keeps I.bk
theorem Inv.nolimit (I : Inv X pins σ H s) : s.heap.NoLimit := I.ok.mod.nolimit.keeps I.bk
theorem Inv.lt (I : Inv X pins σ H s) : X.env.locals < s.heap.objs.size := let ⟨_, hn, _⟩ := I.loc; hn.lt
theorem Inv.sz (I : Inv X pins σ H s) : X.s₀.heap.objs.size ≤ s.heap.objs.size := Nat.le_trans I.ok.above (Nat.le_of_lt I.lt)
theorem Inv.nofs (I : Inv X pins σ H s) {a : Addr} (h : s.heap.objs.size ≤ a) : a ∉ X.fs := fun hb => by
  obtain ⟨_, o, ho, _⟩ := I.ok.funs.mem hb
  exact absurd (Nat.lt_of_lt_of_le (Heap.lt_size ho) (Nat.le_trans I.sz h)) (Nat.lt_irrefl _)
theorem Inv.cne (I : Inv X pins σ H s) : ∀ x c, X.env.cells.lookup x = some c → c ≠ X.env.locals := fun x c e z => by
  obtain ⟨v, o, ho, hd⟩ := I.cell x c e
  obtain ⟨m, ⟨o', es, ep, ho', hd', _⟩, _⟩ := I.loc
  rw [z, ho'] at ho; cases ho; rw [hd'] at hd; cases hd
theorem Inv.funs (I : Inv X pins σ H s) : s.heap.FunFrames X.base X.outer := by
  have all : ∀ (l : List Env), (∀ b ∈ frs l, b ∈ X.fs) → X.s₀.heap.FunFrames X.base l → s.heap.FunFrames X.base l := by
    intro l
    induction l with
    | nil => intro _ _; trivial
    | cons env r ih =>
      intro hs hl
      obtain ⟨hk, ⟨L, o, hf, hn, ho, hd⟩, hr⟩ := hl
      have hL : L ∈ X.fs := hs L (by unfold frs; rw [List.filterMap_cons, hf]; exact List.mem_cons_self)
      obtain ⟨sl, e⟩ := I.base.slot L o ho (I.ok.frf L hL) hL fun z => I.ok.exfs L z hL
      exact ⟨hk, ⟨L, _, hf, hn, e, hd⟩, ih (fun b hb => hs b (by unfold frs; rw [List.filterMap_cons, hf]; exact List.mem_cons_of_mem _ hb)) hr⟩
  exact all X.outer (fun _ hb => hb) I.ok.funs

theorem Inv.stack (I : Inv X pins σ H s) : s.heap.FunFrames X.base X.stack := by
  rcases I.ok.stk with e | ⟨e, hf⟩
  · rw [e]; exact I.funs
  · rw [e]
    obtain ⟨m, hn, _⟩ := I.loc
    refine .cons (by rw [I.ok.kind]; decide) hf hn ?_ I.funs
    exact Heap.get?_none_of_le (Nat.le_trans I.ok.bsz I.ok.above)
theorem Inv.stkSub (I : Inv X pins σ H s) : ∀ b ∈ frs X.stack, b ∈ X.env.locals :: X.fs := fun b hb => by
  rcases I.ok.stk with e | ⟨e, hf⟩
  · rw [e] at hb; exact List.mem_cons_of_mem _ hb
  · rw [e] at hb
    unfold frs at hb
    rw [List.filterMap_cons, hf] at hb
    exact hb
theorem Inv.stkFree (I : Inv X pins σ H s) : ∀ b ∈ frs X.stack, H b = none := fun b hb => by
  rcases List.mem_cons.mp (I.stkSub b hb) with e | hb
  · rw [e]; exact I.free
  · obtain ⟨_, o, ho, _⟩ := I.ok.funs.mem hb
    exact I.base.free b o ho (I.ok.frf b hb) fun z => I.ok.exfs b z hb

theorem Inv.step {g' : Array GenState} {t' : Nat} {d' : Drawn} {ch : List Addr} (I : Inv X pins σ H s)
    (hch : ∀ b ∈ ch, (b ∈ X.ex ∨ X.s₀.heap.objs.size ≤ b) ∧ b ≠ X.env.locals ∧ (∀ x c, X.env.cells.lookup x = some c → c ≠ b) ∧ ∀ p ∈ X.pn ++ pins, p.1 ≠ b)
    (keep : ∀ b o, b ≠ X.env.locals → b ∉ X.fs → b ∉ ch → s.heap.get? b = some o → H b = none → h'.get? b = some o)
    (slot : ∀ b o, b ≠ X.env.locals → b ∈ X.fs → b ∉ ch → s.heap.get? b = some o → H b = none → ∃ sl, h'.get? b = some { o with slots := sl }) (free : ∀ b o, b ∉ ch → s.heap.get? b = some o → H b = none → H' b = none)
    (there : ∀ b o, b ∉ ch → s.heap.get? b = some o → ∃ o', h'.get? b = some o')
    (tups : ∀ b xs, H b = some (.tup xs) → H' b = some (.tup xs)) (frzs : ∀ b o u, H b = some (.frz o u) → H' b = some (.frz o u)) (tbls : ∀ b ps, H b = some (.tbl ps) → ∃ more, H' b = some (.tbl (ps ++ more)))
    (ns : ∀ m, s.heap.Ns X.env.locals m → h'.Ns X.env.locals m) (hok : HOk X.prog X.w H' h') (hg : AllBare g') :
    Inv X pins σ H' { s with heap := h', gens := g', drawn := d', toks := t' } := by
  have neL : ∀ b o, X.s₀.heap.get? b = some o → b ≠ X.env.locals := fun b o e => Nat.ne_of_lt (Nat.lt_of_lt_of_le (Heap.lt_size e) I.ok.above)
  have neC : ∀ b o, X.s₀.heap.get? b = some o → b ∉ X.ex → b ∉ ch := fun b o e hx hb => by
    rcases (hch b hb).1 with z | z
    · exact hx z
    · exact absurd (Nat.lt_of_lt_of_le (Heap.lt_size e) z) (Nat.lt_irrefl _)
  have cellK : ∀ x c, X.env.cells.lookup x = some c → ∀ v, s.heap.IsCell c v → h'.IsCell c v := fun x c e v ⟨o, ho, hd⟩ => by
    have nch : c ∉ ch := fun z => (hch c z).2.2.1 x c e rfl
    by_cases hc : c ∈ X.fs
    · obtain ⟨sl, q⟩ := slot c o (I.cne x c e) hc nch ho (I.freeC x c e)
      exact ⟨_, q, hd⟩
    · exact ⟨o, keep c o (I.cne x c e) hc nch ho (I.freeC x c e), hd⟩
  refine ⟨I.ok, I.os, hg, ⟨fun b o e n hb hx => ?_, fun b o e n hb hx => ?_, fun b o e n hx => ?_, fun b o e hx => ?_, fun b xs e => tups b xs (I.base.tups b xs e), fun b o xs e => frzs b o xs (I.base.frzs b o xs e), fun b ps e => ?_⟩, ?_, fun x c e => ?_, ?_, fun x c e => ?_, fun p hp => ?_, hok, I.len⟩
  · exact keep b o (neL b o e) hb (neC b o e hx) (I.base.keep b o e n hb hx) (I.base.free b o e n hx)
  · obtain ⟨sl, e1⟩ := I.base.slot b o e n hb hx
    obtain ⟨sl', e2⟩ := slot b _ (neL b o e) hb (neC b o e hx) e1 (I.base.free b o e n hx)
    exact ⟨sl', e2⟩
  · obtain ⟨o', e1⟩ := I.base.there b o e hx
    exact free b o' (neC b o e hx) e1 (I.base.free b o e n hx)
  · obtain ⟨o', e1⟩ := I.base.there b o e hx
    exact there b o' (neC b o e hx) e1
  · obtain ⟨m1, e1⟩ := I.base.tbls b ps e
    obtain ⟨m2, e2⟩ := tbls b _ e1
    exact ⟨m1 ++ m2, by rw [e2, Array.append_assoc]⟩
  · obtain ⟨m, hn, hl⟩ := I.loc
    refine ⟨m, ns m hn, fun i x v e1 e2 e3 => ?_⟩
    obtain ⟨u, r, l⟩ := hl i x v e1 e2 e3
    refine ⟨u, r, ?_⟩
    rcases l with l | ⟨k, c, e, z⟩
    · exact .inl l
    · exact .inr ⟨k, c, e, cellK x c e _ z⟩
  · obtain ⟨v, z⟩ := I.cell x c e
    exact ⟨v, cellK x c e v z⟩
  · obtain ⟨m, ⟨o, _, _, ho, _⟩, _⟩ := I.loc
    exact free _ o (fun z => (hch _ z).2.1 rfl) ho I.free
  · obtain ⟨v, o, ho, hd⟩ := I.cell x c e
    exact free c o (fun z => (hch c z).2.2.1 x c e rfl) ho (I.freeC x c e)
  · obtain ⟨e, n, ne, nf, d⟩ := I.pin p hp
    have nch : p.1 ∉ ch := fun z => (hch p.1 z).2.2.2 p hp rfl
    exact ⟨keep p.1 p.2 ne nf nch e n, free p.1 p.2 nch e n, ne, nf, d⟩
theorem Inv.un {t' : Nat} (I : Inv X pins σ H s) (u : Un X.fs [] H H' s.heap h') (hok : HOk X.prog X.w H' h') : Inv X pins σ H' { s with heap := h', toks := t' } := by
  obtain ⟨m, ⟨o, es, ep, ho, r⟩, _⟩ := id I.loc
  obtain ⟨sl, hL⟩ := u.any ho I.free (by simp)
  exact I.step (g' := s.gens) (d' := s.drawn) (ch := []) (fun _ z => nomatch z) (fun b o _ hb _ e n => u.keep b o e n hb (by simp)) (fun b o _ hb _ e n => u.slot b o e n hb (by simp)) (fun b o _ e n => u.free b o e n (by simp)) (fun b o _ e => u.there b o e (by simp)) u.tups u.frzs u.tbls (fun m' hm => by
    obtain ⟨o', es', ep', ho', r'⟩ := hm
    rw [ho] at ho'; cases ho'
    exact ⟨_, es', ep', hL, r'⟩) hok I.bare
theorem Inv.call {g' : Array GenState} {t' : Nat} {d' : Drawn} {ch : List Addr} (I : Inv X pins σ H s) (u : Un (frs X.stack) ch H H' s.heap h') (hok : HOk X.prog X.w H' h') (hg : AllBare g')
    (hch : ∀ b ∈ ch, (b ∈ X.ex ∨ X.s₀.heap.objs.size ≤ b) ∧ b ≠ X.env.locals ∧ (∀ x c, X.env.cells.lookup x = some c → c ≠ b) ∧ ∀ p ∈ X.pn ++ pins, p.1 ≠ b) :
    Inv X pins σ H' { s with heap := h', gens := g', drawn := d', toks := t' } := by
  obtain ⟨m, ⟨o, es, ep, ho, r⟩, _⟩ := id I.loc
  obtain ⟨sl, hL⟩ := u.any ho I.free fun z => (hch _ z).2.1 rfl
  exact I.step (ch := ch) hch (fun b o hL hb hc e n => u.keep b o e n (fun z => (List.mem_cons.mp (I.stkSub b z)).elim hL hb) hc) (fun b o _ _ hc e n => u.any e n hc) (fun b o hc e n => u.free b o e n hc) (fun b o hc e => u.there b o e hc) u.tups u.frzs u.tbls (fun m' hm => by
    obtain ⟨o', es', ep', ho', r'⟩ := hm
    rw [ho] at ho'; cases ho'
    exact ⟨_, es', ep', hL, r'⟩) hok hg
theorem Inv.turned {t' : Nat} {it : Addr} (I : Inv X pins σ H s) (k : ∀ b o, b ≠ it → s.heap.get? b = some o → h'.get? b = some o) (hn : H it = none) (hL : it ≠ X.env.locals)
    (h1 : it ∈ X.ex ∨ X.s₀.heap.objs.size ≤ it) (h2 : ∀ x c, X.env.cells.lookup x = some c → c ≠ it) (h3 : ∀ p ∈ X.pn ++ pins, p.1 ≠ it) : Inv X pins σ H { s with heap := h', toks := t' } := by
  have nit : ∀ b u, H b = some u → b ≠ it := fun b u e z => by rw [z, hn] at e; cases e
  refine I.step (g' := s.gens) (d' := s.drawn) (ch := [it]) (fun b hb => ?_) (fun b o _ _ hc e _ => k b o (fun z => hc (by simp [z])) e) (fun b o _ _ hc e _ => ⟨o.slots, k b o (fun z => hc (by simp [z])) e⟩) (fun _ _ _ _ n => n)
    (fun b o hc e => ⟨o, k b o (fun z => hc (by simp [z])) e⟩) (fun _ _ e => e) (fun _ _ _ e => e) (fun b ps e => ⟨#[], by rw [e]; simp⟩) (fun m hm => ?_) (fun b u e => ?_) I.bare
  · have e : b = it := by simpa using hb
    subst e
    exact ⟨h1, hL, h2, h3⟩
  · obtain ⟨o, es, ep, ho, r⟩ := hm
    exact ⟨o, es, ep, k _ o (Ne.symm hL) ho, r⟩
  · refine (I.hok b u e).stay (fun c v hc q => k c v ?_ q) (fun _ q => q) fun _ _ q => q
    rcases hc with z | z
    · rw [z]; exact nit b u e
    · exact nit c _ z
theorem Inv.tok (I : Inv X pins σ H s) (t : Nat) : Inv X pins σ H { s with toks := t } := I.un (h' := s.heap) (t' := t) Un.refl I.hok
theorem Inv.kept {t' : Nat} (I : Inv X pins σ H s) (k : ∀ b u, s.heap.get? b = some u → h'.get? b = some u) : Inv X pins σ H { s with heap := h', toks := t' } := I.un (Un.kept k) (I.hok.kept k)
theorem Inv.laid {a : Addr} {o : HO} {t' : Nat} (I : Inv X pins σ H s) (k : ∀ b u, s.heap.get? b = some u → h'.get? b = some u) (hp : s.heap.objs.size ≤ a) (new : ObjOk X.prog X.w (upd H a o) h' a o) :
    Inv X pins σ (upd H a o) { s with heap := h', toks := t' } := I.un (Un.laid k hp (I.hok.fresh hp)) (I.hok.laid k hp new)
theorem Inv.write {x e : Addr} {o : HO} {t' : Nat} (I : Inv X pins σ H s) (mu : Mut (H x)) (he : e = x ∨ H e = some (.own x)) (k : ∀ b u, b ≠ e → s.heap.get? b = some u → h'.get? b = some u) (heo : ∃ u, h'.get? e = some u)
    (new : ObjOk X.prog X.w (upd H x o) h' x o) : Inv X pins σ (upd H x o) { s with heap := h', toks := t' } := I.un (Un.write mu he k heo) (I.hok.write mu he k heo new)
theorem Inv.pins_of {pins' : List (Addr × Obj)} (I : Inv X pins σ H s) (h : ∀ p ∈ pins', s.heap.get? p.1 = some p.2 ∧ H p.1 = none ∧ p.1 ≠ X.env.locals ∧ p.1 ∉ X.fs ∧ ∀ v, p.2.data ≠ .cell v) : Inv X pins' σ H s :=
  ⟨I.ok, I.os, I.bare, I.base, I.loc, I.cell, I.free, I.freeC, fun p hp => (List.mem_append.mp hp).elim (fun z => I.pin p (List.mem_append_left _ z)) (h p), I.hok, I.len⟩

theorem nodup_ix {N : List Str} (hN : N.Nodup) {i j : Nat} {x : Str} (a : N[i]? = some x) (b : N[j]? = some x) : i = j := by
  obtain ⟨h1, e1⟩ := List.getElem?_eq_some_iff.mp a
  obtain ⟨h2, e2⟩ := List.getElem?_eq_some_iff.mp b
  exact (List.getElem_inj hN).mp (e1.trans e2.symm)

theorem store_ok2 {M : Model} {A : Around} {E : Value → Shared → Prop} {i : Nat} {x : Str} {v : V} {u : Value} {Q : Unit → Shared → Prop} (I : Inv X pins σ H s) (hN : X.N.Nodup) (hi : X.N[i]? = some x) (hx : Loc X.env.scope x) (r : RelV v u)
    (h : ∀ s', Inv X pins (σ.set i (some v)) H s' → (∃ a, Heap.SameBut a s.heap s'.heap ∧ (a = X.env.locals ∨ X.env.cells.lookup x = some a)) → Q () s') (hf : X.fn x = true ∨ X.env.scope.names.lookup x = some .local := by first | exact .inl rfl | exact .inr rfl | assumption) : wpAny M A (storeName X.env x u) Q E s := by
  obtain ⟨m, hn, hl⟩ := id I.loc
  have hcls : (X.env.scope.kind == .class || (X.env.scope.kind == .module && X.env.locals != X.env.globals)) = false := by rw [I.ok.kind]; rfl
  have hiσ : i < σ.length := by rw [I.len]; exact (List.getElem?_eq_some_iff.mp hi).1
  have cne := I.cne
  have tracked : ∀ {a : Addr} {h' : Heap}, (∃ o, s.heap.get? a = some o ∧ H a = none) → Heap.SameBut a s.heap h' → HOk X.prog X.w H h' := fun {a h'} ha hs b ob e => by
    obtain ⟨_, _, hfree⟩ := ha
    refine (I.hok b ob e).stay (fun c w' hc q => (hs.2 c ?_).trans q) (fun _ q => q) fun _ _ q => q
    rintro rfl
    rcases hc with rfl | hc
    · rw [hfree] at e; cases e
    · rw [hfree] at hc; cases hc
  rcases hx with hk | hk
  · refine wpAny_storeName_local hk hn (fun h' hn' hs => ?_) hcls
    obtain ⟨oL, _, _, hoL, _⟩ := id hn
    refine h _ ⟨I.ok, I.os, I.bare, ⟨fun b o e n hb hx => ?_, fun b o e n hb hx => ?_, I.base.free, fun b o e hx => ?_, I.base.tups, I.base.frzs, I.base.tbls⟩, ⟨_, hn', fun j y v' e1 e2 e3 => ?_⟩, fun y c e => ?_, I.free, I.freeC, fun p hp => ?_, tracked ⟨oL, hoL, I.free⟩ hs, by simpa using I.len⟩ ⟨_, hs, .inl rfl⟩
    · exact (hs.2 b (Nat.ne_of_lt (Nat.lt_of_lt_of_le (Heap.lt_size e) I.ok.above))).trans (I.base.keep b o e n hb hx)
    · obtain ⟨sl, e1⟩ := I.base.slot b o e n hb hx
      exact ⟨sl, (hs.2 b (Nat.ne_of_lt (Nat.lt_of_lt_of_le (Heap.lt_size e) I.ok.above))).trans e1⟩
    · obtain ⟨o', e1⟩ := I.base.there b o e hx
      exact ⟨o', (hs.2 b (Nat.ne_of_lt (Nat.lt_of_lt_of_le (Heap.lt_size e) I.ok.above))).trans e1⟩
    · by_cases hj : j = i
      · subst hj
        rw [hi] at e1; cases e1
        rw [List.getElem?_set_self hiσ] at e2
        cases e2
        exact ⟨u, r, .inl ⟨hk, by simp⟩⟩
      · rw [List.getElem?_set_ne (Ne.symm hj)] at e2
        obtain ⟨u', r', q⟩ := hl j y v' e1 e2 e3
        refine ⟨u', r', ?_⟩
        rcases q with ⟨k, e⟩ | ⟨k, c, e, z⟩
        · refine .inl ⟨k, ?_⟩
          have : y ≠ x := fun e => hj (nodup_ix hN e1 (e ▸ hi))
          simp [this, e]
        · exact .inr ⟨k, c, e, z.sameBut hs (cne y c e)⟩
    · obtain ⟨w', z⟩ := I.cell y c e
      exact ⟨w', z.sameBut hs (cne y c e)⟩
    · obtain ⟨e, n, ne, nf, d⟩ := I.pin p hp
      exact ⟨(hs.2 p.1 ne).trans e, n, ne, nf, d⟩
  · have hfn : X.fn x = true := by
      rcases hf with z | z
      · exact z
      · rw [z] at hk; cases hk
    obtain ⟨c, hc⟩ := I.ok.has x (.inl hk)
    obtain ⟨w', z⟩ := I.cell x c hc
    refine wpAny_storeName_cell I.ok.kind hk hc z (fun h' hc' hs => ?_)
    obtain ⟨oc, hoc, hocd⟩ := id z
    refine h { s with heap := h' } ⟨I.ok, I.os, I.bare, ⟨fun b o e n hb hx => ?_, fun b o e n hb hx => ?_, I.base.free, fun b o e hx => ?_, I.base.tups, I.base.frzs, I.base.tbls⟩, ⟨m, hn.sameBut hs (Ne.symm (cne x c hc)), fun j y v' e1 e2 e3 => ?_⟩, fun y c' e => ?_, I.free, I.freeC, fun p hp => ?_, tracked ⟨oc, hoc, I.freeC x c hc⟩ hs, by simpa using I.len⟩ ⟨c, hs, .inr hc⟩
    · exact (hs.2 b (Nat.ne_of_lt (Nat.lt_of_lt_of_le (Heap.lt_size e) (I.ok.cab x c hfn hc)))).trans (I.base.keep b o e n hb hx)
    · obtain ⟨sl, e1⟩ := I.base.slot b o e n hb hx
      exact ⟨sl, (hs.2 b (Nat.ne_of_lt (Nat.lt_of_lt_of_le (Heap.lt_size e) (I.ok.cab x c hfn hc)))).trans e1⟩
    · obtain ⟨o', e1⟩ := I.base.there b o e hx
      exact ⟨o', (hs.2 b (Nat.ne_of_lt (Nat.lt_of_lt_of_le (Heap.lt_size e) (I.ok.cab x c hfn hc)))).trans e1⟩
    · by_cases hj : j = i
      · subst hj
        rw [hi] at e1; cases e1
        rw [List.getElem?_set_self hiσ] at e2
        cases e2
        exact ⟨u, r, .inr ⟨.inl hk, c, hc, hc'⟩⟩
      · rw [List.getElem?_set_ne (Ne.symm hj)] at e2
        obtain ⟨u', r', q⟩ := hl j y v' e1 e2 e3
        refine ⟨u', r', ?_⟩
        rcases q with q | ⟨k, c', e, z'⟩
        · exact .inl q
        · refine .inr ⟨k, c', e, z'.sameBut hs ?_⟩
          rintro rfl
          exact hj (nodup_ix hN e1 (I.ok.inj _ _ _ e hc ▸ hi))
    · by_cases hcc : c' = c
      · subst hcc; exact ⟨_, hc'⟩
      · obtain ⟨w2, z2⟩ := I.cell y c' e
        exact ⟨w2, z2.sameBut hs hcc⟩
    · obtain ⟨e, n, ne, nf, d⟩ := I.pin p hp
      refine ⟨(hs.2 p.1 ?_).trans e, n, ne, nf, d⟩
      intro q
      rw [q, hoc] at e
      have q' : oc = p.2 := Option.some.inj e
      exact d w' (by rw [← q']; exact hocd)
theorem store_ok {M : Model} {A : Around} {E : Value → Shared → Prop} {i : Nat} {x : Str} {v : V} {u : Value} {Q : Unit → Shared → Prop} (I : Inv X pins σ H s) (hN : X.N.Nodup) (hi : X.N[i]? = some x) (hx : Loc X.env.scope x) (r : RelV v u)
    (h : ∀ s', Inv X pins (σ.set i (some v)) H s' → Q () s') (hf : X.fn x = true ∨ X.env.scope.names.lookup x = some .local := by first | exact .inl rfl | exact .inr rfl | assumption) : wpAny M A (storeName X.env x u) Q E s :=
  store_ok2 I hN hi hx r (fun s' I' _ => h s' I') hf
theorem Inv.call' {s' : Shared} {ch : List Addr} (I : Inv X pins σ H s) (ho : s'.os = s.os) (u : Un (frs X.stack) ch H H' s.heap s'.heap) (hok : HOk X.prog X.w H' s'.heap) (hg : AllBare s'.gens)
    (hch : ∀ b ∈ ch, (b ∈ X.ex ∨ X.s₀.heap.objs.size ≤ b) ∧ b ≠ X.env.locals ∧ (∀ x c, X.env.cells.lookup x = some c → c ≠ b) ∧ ∀ p ∈ X.pn ++ pins, p.1 ≠ b) : Inv X pins σ H' s' := by
  obtain ⟨h', g', d', t', o'⟩ := s'
  have e : o' = s.os := ho
  subst e
  exact I.call (g' := g') (t' := t') (d' := d') u hok hg hch
end

abbrev XK := Value → Option Addr → Hp → Prop
abbrev St := List (Option V)
abbrev VK := V → Hp → Prop
abbrev TE := St → Hp → VK → Prop
abbrev TT := St → Hp → (Bool → Hp → Prop) → Prop
abbrev TA := St → Hp → (List V → Hp → Prop) → Prop
structure Ends where
  nx : St → Hp → Prop
  rt : VK
  bk : St → Hp → Prop := fun _ _ => False
  ct : St → Hp → Prop := fun _ _ => False
abbrev TS := Ends → St → Hp → Prop

def EP (X : Cx) (pins : List (Addr × Obj)) (σ : St) (Q : VK) (u : Value) (s' : Shared) : Prop := ∃ v H', Inv X pins σ H' s' ∧ RelV v u ∧ Q v H'
def TP (X : Cx) (pins : List (Addr × Obj)) (σ : St) (Q : Bool → Hp → Prop) (b : Bool) (s' : Shared) : Prop := ∃ H', Inv X pins σ H' s' ∧ Q b H'
def AP (X : Cx) (pins : List (Addr × Obj)) (σ : St) (Q : List V → Hp → Prop) (us : List Value) (s' : Shared) : Prop := ∃ vs H', Inv X pins σ H' s' ∧ Vals vs us ∧ Q vs H'
def SP (X : Cx) (pins : List (Addr × Obj)) (D : Ends) (f : Flow) (s' : Shared) : Prop :=
  match f with
  | .next => ∃ σ' H', Inv X pins σ' H' s' ∧ D.nx σ' H'
  | .brk => ∃ σ' H', Inv X pins σ' H' s' ∧ D.bk σ' H'
  | .cont => ∃ σ' H', Inv X pins σ' H' s' ∧ D.ct σ' H'
  | .ret u => ∃ v σ' H', Inv X pins σ' H' s' ∧ RelV v u ∧ D.rt v H'

def PE (X : Cx) (e : Expr) (t : TE) : Prop :=
  ∀ (pins : List (Addr × Obj)) (s : Shared) (σ : St) (H : Hp) (Q : VK), Inv X pins σ H s → t σ H Q → wpAny (model X.prog X.w) X.A (eval e X.env) (EP X pins σ Q) X.xe s
def PT (X : Cx) (e : Expr) (t : TT) : Prop :=
  ∀ (pins : List (Addr × Obj)) (s : Shared) (σ : St) (H : Hp) (Q : Bool → Hp → Prop), Inv X pins σ H s → t σ H Q → wpAny (model X.prog X.w) X.A (isTrue e X.env (eval e X.env)) (TP X pins σ Q) X.xe s
def PW (X : Cx) (e : Expr) (t : TT) : Prop :=
  ∀ (whole : Sem Value) (pins : List (Addr × Obj)) (s : Shared) (σ : St) (H : Hp) (Q : Bool → Hp → Prop), Inv X pins σ H s → t σ H Q → wpAny (model X.prog X.w) X.A (isTrue e X.env whole) (TP X pins σ Q) X.xe s
theorem PW.pt {X : Cx} {e : Expr} {t : TT} (h : PW X e t) : PT X e t := h _
def PA (X : Cx) (es : List Expr) (t : TA) : Prop :=
  ∀ (pos : Pos) (pins : List (Addr × Obj)) (s : Shared) (σ : St) (H : Hp) (Q : List V → Hp → Prop), Inv X pins σ H s → t σ H Q → wpAny (model X.prog X.w) X.A (spliced (backTo pos (starEach es X.env))) (AP X pins σ Q) X.xe s
def PS (X : Cx) (st : Stmt) (t : TS) : Prop :=
  ∀ (pins : List (Addr × Obj)) (s : Shared) (σ : St) (H : Hp) (D : Ends), Inv X pins σ H s → t D σ H → wpAny (model X.prog X.w) X.A (exec st X.env) (SP X pins D) X.xe s
def PSs (X : Cx) (st : List Stmt) (t : TS) : Prop :=
  ∀ (pins : List (Addr × Obj)) (s : Shared) (σ : St) (H : Hp) (D : Ends), Inv X pins σ H s → t D σ H → wpAny (model X.prog X.w) X.A (execs st X.env) (SP X pins D) X.xe s
theorem thn {α : Type} {t : Sem α} {Q Q' : α → Shared → Prop} {M : Model} {A : Around} {E : Value → Shared → Prop} {s : Shared} (h : wpAny M A t Q E s) (hQ : ∀ a s, Q a s → Q' a s) : wpAny M A t Q' E s := wpAny_mono h hQ fun _ _ x => x
end L2

namespace L2
open PySem PySem.Spec PyProof.Rows
section
variable {X : Cx}

theorem bin {a b : Expr} {ta tb : TE} (ha : PE X a ta) (hb : PE X b tb) {pins : List (Addr × Obj)} {s : Shared} {σ : St} {H : Hp} {R : V → V → Hp → Prop} (I : Inv X pins σ H s) (h : ta σ H fun x H1 => tb σ H1 fun y H2 => R x y H2)
    {α : Type} {Q : α → Shared → Prop} {f : Value → Value → Sem α}
    (hf : ∀ v u s2 x y H2, Inv X pins σ H2 s2 → RelV x v → RelV y u → R x y H2 → wpAny (model X.prog X.w) X.A (f v u) Q X.xe s2) :
    wpAny (model X.prog X.w) X.A (eval a X.env) (fun v s₁ => wpAny (model X.prog X.w) X.A (eval b X.env) (fun u s₂ => wpAny (model X.prog X.w) X.A (f v u) Q X.xe s₂) X.xe s₁) X.xe s := by
  refine thn (ha pins s σ H _ I h) fun v s1 ⟨x, H1, I1, r1, q1⟩ => ?_
  refine thn (hb pins s1 σ H1 _ I1 q1) fun u s2 ⟨y, H2, I2, r2, q2⟩ => ?_
  exact hf v u s2 x y H2 I2 r1 r2 q2

def tVar (i : Nat) : TE := fun σ H Q => ∃ v, σ[i]? = some (some v) ∧ Q v H
def tC (v : V) : TE := fun _ H Q => Q v H
theorem pe_var {i : Nat} {x : Str} {pos : Pos} (hN : X.N[i]? = some x) (hv : Vis X.env.scope x) (hd : (x == ("__debug__" : Str)) = false := by decide) (hcd : (x == ("__classdict__" : Str)) = false := by decide) : PE X (.Name x pos) (tVar i) := by
  intro pins s σ H Q I h
  obtain ⟨v, e, h⟩ := h
  obtain ⟨m, hn, hl⟩ := I.loc
  obtain ⟨u, r, l⟩ := hl i x v hN e hv
  have fin : EP X pins σ Q u s := ⟨v, H, I, r, h⟩
  rcases l with ⟨hk, hm⟩ | ⟨hk, c, hc, hcell⟩
  · exact wpAny_Name (wpAny_loadName_local I.ok.kind hk hn hm fin) hd
  · rcases hk with hk | hk
    · exact wpAny_Name (wpAny_loadName_cell I.ok.kind hk hc hcell fin) hd
    · exact wpAny_Name (wpAny_loadName_free I.ok.kind hk hc hcell fin hcd) hd
theorem pe_int {i j pos} : PE X (.Constant (.int i) j pos) (tC (.int i)) := fun _ _ _ H _ I h => wpAny_Constant_int ⟨.int i, H, I.tok _, ⟨_, rfl⟩, h⟩
theorem pe_bl {b j pos} : PE X (.Constant (.bool b) j pos) (tC (.bl b)) := fun _ _ _ H _ I h => Constant_bool ⟨.bl b, H, I, rfl, h⟩
def Gl (X : Cx) (x : Str) : Prop := X.env.kindOf x = some .globalImplicit
theorem ld_glob {E : Value → Shared → Prop} {pins : List (Addr × Obj)} {s : Shared} {σ : St} {H : Hp} {x : Str} {u : Value} {pos : Pos} {Q : Value → Shared → Prop} (I : Inv X pins σ H s) (hg : Gl X x) (hm : X.mg x = some u) (h : Q u s)
    (hd : (x == ("__debug__" : Str)) = false := by decide) : wpAny (model X.prog X.w) X.A (eval (.Name x pos) X.env) Q E s :=
  Calls.Name_function_global I.ok.kind hg (Calls.loadGlobal_global (by rw [I.ok.glob]; exact I.mod.glob.keeps I.bk) hm h) hd
theorem ld_blt {E : Value → Shared → Prop} {pins : List (Addr × Obj)} {s : Shared} {σ : St} {H : Hp} {x : Str} {u : Value} {pos : Pos} {Q : Value → Shared → Prop} (I : Inv X pins σ H s) (hg : Gl X x) (hm : X.mg x = none) (hv : bootBuiltins x = some u) (h : Q u s)
    (hn : x ≠ "__name__" := by decide) (hd : (x == ("__debug__" : Str)) = false := by decide) : wpAny (model X.prog X.w) X.A (eval (.Name x pos) X.env) Q E s := by
  obtain ⟨mb, h1, h2⟩ := I.mod.blt
  exact Calls.Name_function_global I.ok.kind hg (Calls.loadGlobal_builtin (by rw [I.ok.glob]; exact I.mod.glob.keeps I.bk) hm (by rw [I.ok.blt]; exact h1.keeps I.bk) ((h2 x hn).trans hv) h) hd
theorem pe_glob {x : Str} {v : V} {u : Value} {pos : Pos} (hg : Gl X x) (hm : X.mg x = some u) (r : RelV v u) (hd : (x == ("__debug__" : Str)) = false := by decide) : PE X (.Name x pos) (tC v) :=
  fun _ _ _ H _ I h => ld_glob I hg hm ⟨v, H, I, r, h⟩ hd
theorem pe_bltn {x : Str} {v : V} {u : Value} {pos : Pos} (hg : Gl X x) (hm : X.mg x = none) (hv : bootBuiltins x = some u) (r : RelV v u) (hn : x ≠ "__name__" := by decide) (hd : (x == ("__debug__" : Str)) = false := by decide) : PE X (.Name x pos) (tC v) :=
  fun _ _ _ H _ I h => ld_blt I hg hm hv ⟨v, H, I, r, h⟩ hn hd

variable {a b : Expr} {ta tb : TE} {pos : Pos}
def PC (X : Cx) (op : CmpOp) (a b : Expr) (t : TE) : Prop :=
  ∀ (pins : List (Addr × Obj)) (s : Shared) (σ : St) (H : Hp) (Q : VK), Inv X pins σ H s → t σ H Q →
    wpAny (model X.prog X.w) X.A (eval a X.env) (fun v s₁ => wpAny (model X.prog X.w) X.A (eval b X.env) (fun u s₂ => wpAny (model X.prog X.w) X.A (compareOp op v u) (EP X pins σ Q) X.xe s₂) X.xe s₁) X.xe s
theorem nobehind (b : Expr) {op : CmpOp} (h : op ≠ .In) (h2 : op ≠ .NotIn) : behindInMarks op b = false := by
  have e1 : (op == CmpOp.In) = false := by cases op <;> first | rfl | exact absurd rfl h
  have e2 : (op == CmpOp.NotIn) = false := by cases op <;> first | rfl | exact absurd rfl h2
  cases b <;> simp [behindInMarks, e1, e2]
def tB (t : TE) : TT := fun σ H Q => t σ H fun x H1 => ∃ c, x = .bl c ∧ Q c H1
theorem pt_cmp {op : CmpOp} {t : TE} (h : PC X op a b t) (h1 : behindInMarks op b = false := by first | exact nobehind _ (by decide) (by decide) | rfl) : PT X (.Compare a [op] [b] pos) (tB t) := by
  intro pins s σ H Q I hw
  refine wpAny_isTrue_Compare1 (thn (h pins s σ H _ I hw) fun v s1 h1 => thn h1 fun u s2 h2 => thn h2 fun c s3 ⟨x, H1, I1, r1, q1⟩ => ?_) h1
  obtain ⟨d, rfl, q⟩ := q1
  cases r1
  exact wpAny_truthy_bool ⟨H1, I1, q⟩
theorem pt_val {e : Expr} {t : TE} (h : PE X e t) (he : ∀ whole, isTrue e X.env whole = (do let v ← whole; standAt e.pos; holding [v] (truthy v)) := by intro _; rfl) : PT X e (tB t) := by
  intro pins s σ H Q I hw
  refine isTrue_plain (thn (h pins s σ H _ I hw) fun v s1 ⟨x, H1, I1, r1, q1⟩ => ?_) (he _)
  obtain ⟨d, rfl, q⟩ := q1
  cases r1
  exact wpAny_truthy_bool ⟨H1, I1, q⟩

variable {tA tB' : TT} {rest : List Expr}
def tAnd (t u : TT) : TT := fun σ H Q => t σ H fun c H1 => if c = true then u σ H1 Q else Q false H1
def tOr (t u : TT) : TT := fun σ H Q => t σ H fun c H1 => if c = true then Q true H1 else u σ H1 Q
def tNot (t : TT) : TT := fun σ H Q => t σ H fun c H1 => Q (!c) H1
theorem pw_and1 (ha : PT X a tA) : PW X (.BoolOp .And [a] pos) tA := by
  intro wh pins s σ H Q I h
  refine isTrue_and (thn (ha pins s σ H Q I h) fun c s1 e => ?_)
  cases c with
  | true => exact isTrue_and_nil e
  | false => exact e
theorem pw_or1 (ha : PT X a tA) : PW X (.BoolOp .Or [a] pos) tA := by
  intro wh pins s σ H Q I h
  refine isTrue_or (thn (ha pins s σ H Q I h) fun c s1 e => ?_)
  cases c with
  | false => exact isTrue_or_nil e
  | true => exact e
theorem pw_and (ha : PT X a tA) (hb : PW X (.BoolOp .And (b :: rest) pos) tB') : PW X (.BoolOp .And (a :: b :: rest) pos) (tAnd tA tB') := by
  intro wh pins s σ H Q I h
  refine isTrue_and (thn (ha pins s σ H _ I h) fun c s1 ⟨H1, I1, q1⟩ => ?_)
  cases c with
  | true => exact hb wh pins s1 σ H1 Q I1 q1
  | false => exact ⟨H1, I1, q1⟩
theorem pw_or (ha : PT X a tA) (hb : PW X (.BoolOp .Or (b :: rest) pos) tB') : PW X (.BoolOp .Or (a :: b :: rest) pos) (tOr tA tB') := by
  intro wh pins s σ H Q I h
  refine isTrue_or (thn (ha pins s σ H _ I h) fun c s1 ⟨H1, I1, q1⟩ => ?_)
  cases c with
  | true => exact ⟨H1, I1, q1⟩
  | false => exact hb wh pins s1 σ H1 Q I1 q1
theorem pt_not (ha : PT X a tA) : PT X (.UnaryOp .Not a pos) (tNot tA) := by
  intro pins s σ H Q I h
  exact isTrue_not (ha pins s σ H (fun c H1 => Q (!c) H1) I h)
def tAndV (ta tb : TE) : TE := fun σ H Q => ta σ H fun x H1 => ∃ c, x = .bl c ∧ if c = true then tb σ H1 Q else Q (.bl false) H1
def tNotV (ta : TE) : TE := fun σ H Q => ta σ H fun x H1 => ∃ c, x = .bl c ∧ Q (.bl (!c)) H1
theorem pe_one {op} {t : TE} (h : PE X a t) : PE X (.BoolOp op [a] pos) t := fun pins s σ H Q I hw => BoolOp_one (h pins s σ H Q I hw)
theorem pe_and (ha : PE X a ta) (hb : PE X (.BoolOp .And (b :: rest) pos) tb) : PE X (.BoolOp .And (a :: b :: rest) pos) (tAndV ta tb) := by
  intro pins s σ H Q I h
  refine BoolOp_and (thn (ha pins s σ H _ I h) fun v s1 ⟨x, H1, I1, r1, q1⟩ => ?_)
  obtain ⟨c, rfl, q1⟩ := q1
  cases r1
  refine wpAny_truthy_bool ?_
  cases c with
  | true => exact hb pins s1 σ H1 Q I1 q1
  | false => exact ⟨.bl false, H1, I1, rfl, q1⟩
theorem pe_not (ha : PE X a ta) : PE X (.UnaryOp .Not a pos) (tNotV ta) := by
  intro pins s σ H Q I h
  refine UnaryOp_ (thn (ha pins s σ H _ I h) fun v s1 ⟨x, H1, I1, r1, q1⟩ => ?_)
  obtain ⟨c, rfl, q1⟩ := q1
  cases r1
  exact not_of (wpAny_truthy_bool ⟨.bl (!c), H1, I1, rfl, q1⟩)
def tIf (t : TT) (ta tb : TE) : TE := fun σ H Q => t σ H fun c H1 => if c = true then ta σ H1 Q else tb σ H1 Q
theorem pe_ifExp {c : Expr} (hc : PT X c tA) (ha : PE X a ta) (hb : PE X b tb) : PE X (.IfExp c a b pos) (tIf tA ta tb) := by
  intro pins s σ H Q I h
  refine wpAny_IfExp (thn (hc pins s σ H _ I h) fun d s1 ⟨H1, I1, q1⟩ => ?_)
  cases d with
  | true => exact ha pins s1 σ H1 Q I1 q1
  | false => exact hb pins s1 σ H1 Q I1 q1
end
end L2

namespace L2
open PySem PySem.Spec PyProof.Rows

def SqL (K : PySem.W.Frag) (H : Hp) (a : Addr) (xs : List V) : Prop :=
  Rd H a (.lst xs) ∨
    ∃ (o : Obj) (its : Array Value) (n : Nat), K.lookup a = some o ∧ o.cls = .type "list" ∧ o.dict = none ∧ o.data = .seq its n ∧ its.size ≤ sizeLine ∧ Vals xs its.toList
def SqT (K : PySem.W.Frag) (H : Hp) (a : Addr) (xs : List V) : Prop :=
  Rd H a (.tup xs) ∨
    ∃ (o : Obj) (its : Array Value) (n : Nat), K.lookup a = some o ∧ o.cls = .type "tuple" ∧ o.data = .seq its n ∧ its.size ≤ sizeLine ∧ Vals xs its.toList
def absV : Value → Option V
  | .none => some .non
  | .bool b => some (.bl b)
  | .int i _ => some (.int i)
  | .str x _ => some (.str x)
  | .bytes b _ => some (.byt b)
  | .float b _ => some (.flt b)
  | .ref a => some (.ref a)
  | .type n => some (.ty n)
  | _ => none
theorem RelV.abs {x : V} {u : Value} (r : RelV x u) : absV u = some x := by
  cases x with
  | non => cases r; rfl
  | bl _ => cases r; rfl
  | int _ => obtain ⟨t, rfl⟩ := r; rfl
  | str _ => obtain ⟨t, rfl⟩ := r; rfl
  | byt _ => obtain ⟨t, rfl⟩ := r; rfl
  | flt _ => obtain ⟨t, rfl⟩ := r; rfl
  | ref _ => cases r; rfl
  | ty _ => cases r; rfl
theorem RelV.inj {x y : V} {u : Value} (r : RelV x u) (q : RelV y u) : x = y := Option.some.inj (r.abs.symm.trans q.abs)
theorem Vals.inj : ∀ {xs ys : List V} {us : List Value}, Vals xs us → Vals ys us → xs = ys
  | _, _, _, .nil, .nil => rfl
  | _, _, _, .cons r t, .cons r' t' => by rw [r.inj r', Vals.inj t t']
section
variable {X : Cx} {pins : List (Addr × Obj)} {σ : St} {H : Hp} {s : Shared} {a : Addr} {xs ys : List V}
theorem SqL.of {K : PySem.W.Frag} (h : H a = some (.lst xs)) : SqL K H a xs := .inl (.inl h)
theorem SqT.of {K : PySem.W.Frag} (h : H a = some (.tup xs)) : SqT K H a xs := .inl (.inl h)
theorem Inv.list (I : Inv X pins σ H s) (h : SqL X.K H a xs) : ∃ its : List Value, Vals xs its ∧ PlainL s.heap a its.toArray ∧ xs.length ≤ sizeLine := by
  rcases h with h | ⟨o, its, n, hk, hc, hd, hs, hz, r⟩
  · obtain ⟨z, its, n, r, e⟩ := h.ok I.hok
    exact ⟨its, r, ⟨_, n, e, rfl, rfl, rfl⟩, z⟩
  · refine ⟨its.toList, r, ⟨o, n, I.kIn a o hk, hc, hd, by simpa using hs⟩, ?_⟩
    have e := r.length
    simp only [Array.length_toList] at e
    omega
theorem Inv.tuple (I : Inv X pins σ H s) (h : SqT X.K H a xs) : ∃ its : List Value, Vals xs its ∧ IsTup s.heap a its.toArray ∧ xs.length ≤ sizeLine := by
  rcases h with h | ⟨o, its, n, hk, hc, hs, hz, r⟩
  · obtain ⟨z, its, r, p⟩ := h.ok I.hok
    exact ⟨its, r, p, z⟩
  · refine ⟨its.toList, r, ⟨o, I.kIn a o hk, hc, n, by simpa using hs⟩, ?_⟩
    have e := r.length
    simp only [Array.length_toList] at e
    omega
theorem Inv.list_inj (I : Inv X pins σ H s) (h : SqL X.K H a xs) (h' : SqL X.K H a ys) : xs = ys := by
  obtain ⟨its, r, ⟨o, n, e, _, _, d⟩, _⟩ := I.list h
  obtain ⟨its', r', ⟨o', n', e', _, _, d'⟩, _⟩ := I.list h'
  rw [e] at e'; cases e'
  rw [d] at d'
  injection d' with d1 _
  have : its = its' := by simpa using congrArg Array.toList d1
  subst this
  exact r.inj r'
theorem Inv.tuple_inj (I : Inv X pins σ H s) (h : SqT X.K H a xs) (h' : SqT X.K H a ys) : xs = ys := by
  obtain ⟨its, r, ⟨o, e, _, n, d⟩, _⟩ := I.tuple h
  obtain ⟨its', r', ⟨o', e', _, n', d'⟩, _⟩ := I.tuple h'
  rw [e] at e'; cases e'
  rw [d] at d'
  injection d' with d1 _
  have : its = its' := by simpa using congrArg Array.toList d1
  subst this
  exact r.inj r'
end

abbrev Cx.wish (X : Cx) (E : Value → Shared → Prop) : Cx := { X with xe := E }
abbrev Cx.nox (X : Cx) : Cx := X.wish fun _ _ => False
theorem Cx.Ok.wish {X : Cx} (ok : X.Ok) (E : Value → Shared → Prop) : (X.wish E).Ok :=
  ⟨ok.mod, ok.kind, ok.glob, ok.blt, ok.above, ok.inj, ok.has, ok.cab, ok.hd, ok.frames, ok.stk, ok.exf, ok.bs, ok.bsz, ok.noex, ok.exfs, ok.funs, ok.frf⟩
theorem Cx.Ok.unwish {X : Cx} {E : Value → Shared → Prop} (ok : (X.wish E).Ok) : X.Ok :=
  ⟨ok.mod, ok.kind, ok.glob, ok.blt, ok.above, ok.inj, ok.has, ok.cab, ok.hd, ok.frames, ok.stk, ok.exf, ok.bs, ok.bsz, ok.noex, ok.exfs, ok.funs, ok.frf⟩
section
variable {X : Cx} {pins : List (Addr × Obj)} {σ : St} {H : Hp} {s : Shared} {E : Value → Shared → Prop}
theorem Inv.wish (I : Inv X pins σ H s) (E : Value → Shared → Prop) : Inv (X.wish E) pins σ H s := ⟨I.ok.wish E, I.os, I.bare, I.base, I.loc, I.cell, I.free, I.freeC, I.pin, I.hok, I.len⟩
theorem Inv.unwish (I : Inv (X.wish E) pins σ H s) : Inv X pins σ H s := ⟨I.ok.unwish, I.os, I.bare, I.base, I.loc, I.cell, I.free, I.freeC, I.pin, I.hok, I.len⟩
theorem SP.unwish {D : Ends} {f : Flow} {s' : Shared} (h : SP (X.wish E) pins D f s') : SP X pins D f s' := by
  cases f with
  | next => obtain ⟨σ', H', I, q⟩ := h; exact ⟨σ', H', I.unwish, q⟩
  | brk => obtain ⟨σ', H', I, q⟩ := h; exact ⟨σ', H', I.unwish, q⟩
  | cont => obtain ⟨σ', H', I, q⟩ := h; exact ⟨σ', H', I.unwish, q⟩
  | ret u => obtain ⟨v, σ', H', I, r, q⟩ := h; exact ⟨v, σ', H', I.unwish, r, q⟩
theorem PSs.nox {st : List Stmt} {t : TS} (h : PSs X.nox st t) : PSs X st t := fun pins s σ H D I hw =>
  wpAny_mono (h pins s σ H D (I.wish _) hw) (fun _ _ q => q.unwish) fun _ _ z => False.elim z
end

section
variable {X : Cx} {st : Stmt} {rest : List Stmt} {t u : TS} {e : Expr} {te : TE} {pos : Pos}
def tNext : TS := fun D σ H => D.nx σ H
def tSeq (t u : TS) : TS := fun D σ H => t { D with nx := u D } σ H
theorem pss_nil : PSs X [] tNext := fun _ _ σ H _ I h => wpAny_execs_nil ⟨σ, H, I, h⟩
theorem pss_cons (h1 : PS X st t) (h2 : PSs X rest u) : PSs X (st :: rest) (tSeq t u) := by
  intro pins s σ H D I h
  refine wpAny_execs_cons (thn (h1 pins s σ H { D with nx := u D } I h) fun f s1 q => ?_)
  cases f with
  | next =>
    obtain ⟨σ', H', I', q⟩ := q
    exact h2 pins s1 σ' H' D I' q
  | ret v => exact q
  | brk => exact q
  | cont => exact q
theorem pss_one (h1 : PS X st t) : PSs X [st] t := by
  intro pins s σ H D I h
  refine wpAny_execs_cons (thn (h1 pins s σ H D I h) fun f s1 q => ?_)
  cases f with
  | next => exact wpAny_execs_nil q
  | ret v => exact q
  | brk => exact q
  | cont => exact q
theorem Inv.quiet {pins : List (Addr × Obj)} {σ : St} {H : Hp} {s : Shared} (I : Inv X pins σ H s) : interactive X.env = false := by simp [interactive, I.ok.kind]
def tDrop (te : TE) : TS := fun D σ H => te σ H fun _ H1 => D.nx σ H1
theorem ps_expr (he : PE X e te) (hs : swapsWith e none pos.line X.env = pure false := by rfl) : PS X (.Expr e pos) (tDrop te) := by
  intro pins s σ H D I h
  exact wpAny_Expr_any (thn (he pins s σ H _ I h) fun v s1 ⟨x, H1, I1, r1, q1⟩ => ⟨σ, H1, I1, q1⟩) I.quiet hs
def tRet (te : TE) : TS := fun D σ H => te σ H D.rt
theorem ps_ret (he : PE X e te) : PS X (.Return (some e) pos) (tRet te) := by
  intro pins s σ H D I h
  exact wpAny_Return_some (thn (he pins s σ H _ I h) fun v s1 ⟨x, H1, I1, r1, q1⟩ => ⟨x, σ, H1, I1, r1, q1⟩)
def tIfS (c : TT) (t u : TS) : TS := fun D σ H => c σ H fun b H1 => if b = true then t D σ H1 else u D σ H1
theorem ps_if {c : Expr} {a b : List Stmt} {tc : TT} (hc : PT X c tc) (ha : PSs X a t) (hb : PSs X b u) : PS X (.If c a b pos) (tIfS tc t u) := by
  intro pins s σ H D I h
  refine wpAny_If (thn (hc pins s σ H _ I h) fun d s1 ⟨H1, I1, q1⟩ => ?_)
  cases d with
  | true => exact ha pins s1 σ H1 D I1 q1
  | false => exact hb pins s1 σ H1 D I1 q1
def tNever : TS := fun _ _ _ => False
theorem pss_never {sts : List Stmt} : PSs X sts tNever := fun _ _ _ _ _ _ h => h.elim
end

abbrev TG := V → St → Hp → (St → Hp → Prop) → Prop
abbrev TGs := List V → St → Hp → (St → Hp → Prop) → Prop
def PG (X : Cx) (target : Expr) (t : TG) : Prop :=
  ∀ (pins : List (Addr × Obj)) (s : Shared) (σ : St) (H : Hp) (v : V) (u : Value) (Q : St → Hp → Prop), Inv X pins σ H s → RelV v u → t v σ H Q →
    wpAny (model X.prog X.w) X.A (assign target X.env u) (fun _ s' => ∃ σ' H', Inv X pins σ' H' s' ∧ Q σ' H') X.xe s
def PGs (X : Cx) (ts : List Expr) (t : TGs) : Prop :=
  ∀ (pins : List (Addr × Obj)) (s : Shared) (σ : St) (H : Hp) (vs : List V) (us : List Value) (Q : St → Hp → Prop), Inv X pins σ H s → Vals vs us → t vs σ H Q →
    wpAny (model X.prog X.w) X.A (assignInOrder ((assignEach ts X.env).map (·.2)) us) (fun _ s' => ∃ σ' H', Inv X pins σ' H' s' ∧ Q σ' H') X.xe s
abbrev TIp := V → V → Hp → VK → Prop
def PIp (X : Cx) (op : Operator) (t : TIp) : Prop :=
  ∀ (pins : List (Addr × Obj)) (s : Shared) (σ : St) (H : Hp) (x y : V) (v u : Value) (Q : VK), Inv X pins σ H s → RelV x v → RelV y u → t x y H Q →
    wpAny (model X.prog X.w) X.A (inplaceOp op v u) (EP X pins σ Q) X.xe s
section
variable {X : Cx} {pos : Pos}
def gName (i : Nat) : TG := fun v σ H Q => Q (σ.set i (some v)) H
theorem pg_name {i : Nat} {x : Str} (hN : X.N.Nodup) (hi : X.N[i]? = some x) (hx : Loc X.env.scope x) (hf : X.fn x = true ∨ X.env.scope.names.lookup x = some .local := by first | exact .inl rfl | exact .inr rfl | assumption) : PG X (.Name x pos) (gName i) := by
  intro pins s σ H v u Q I r h
  exact wpAny_assign_Name (store_ok I hN hi hx r (fun s' I' => ⟨_, H, I', h⟩) hf)
def gNil : TGs := fun vs σ H Q => vs = [] ∧ Q σ H
def gCons (t : TG) (u : TGs) : TGs := fun vs σ H Q => ∃ v r, vs = v :: r ∧ t v σ H fun σ' H' => u r σ' H' Q
theorem pgs_nil : PGs X [] gNil := by
  intro pins s σ H vs us Q I r h
  obtain ⟨e, h⟩ := h
  subst e
  cases r
  exact assignInOrder_nil ⟨σ, H, I, h⟩
theorem pgs_cons {e : Expr} {es : List Expr} {t : TG} {u : TGs} (h1 : PG X e t) (h2 : PGs X es u)
    (hs : (assignEach (e :: es) X.env).map (·.2) = assign e X.env :: (assignEach es X.env).map (·.2) := by rfl) : PGs X (e :: es) (gCons t u) := by
  intro pins s σ H vs us Q I r h
  obtain ⟨v, vr, e1, h⟩ := h
  subst e1
  cases r with
  | cons r rr =>
    rw [hs]
    refine assignInOrder_cons (thn (h1 pins s σ H _ _ _ I r h) fun _ s1 ⟨σ1, H1, I1, q1⟩ => ?_)
    exact h2 pins s1 σ1 H1 _ _ Q I1 rr q1
def gTup (K : PySem.W.Frag) (n : Nat) (t : TGs) : TG := fun v σ H Q => ∃ a xs, v = .ref a ∧ SqT K H a xs ∧ xs.length = n ∧ t xs σ H Q
theorem pg_tup {es : List Expr} {k : Nat} {t : TGs} {n : Nat} (hc : X.calm = true) (h : PGs X es t)
    (hn : (assignEach es X.env).length = n := by rfl) (hst : (assignEach es X.env).findIdx? (·.1) = none := by rfl) : PG X (.Tuple es k pos) (gTup X.K n t) := by
  intro pins s σ H v u Q I r hw
  obtain ⟨a, xs, e1, hq, hl, hw⟩ := hw
  subst e1
  cases r
  obtain ⟨its, rv, ht, hz⟩ := I.tuple hq
  refine assign_Tuple_tuple (I.ok.hd hc) ht (by simp [hn, ← hl, rv.length]) hst fun h' hx => ?_
  have I1 : Inv X pins σ H { s with heap := h' } := I.kept (t' := s.toks) fun b o e => hx b o (Nat.ne_of_lt (Heap.lt_size e)) e
  exact h pins _ σ H xs _ Q I1 (by simpa using rv) hw
def tAsg (te : TE) (g : TG) : TS := fun D σ H => te σ H fun x H1 => g x σ H1 D.nx
theorem ps_set {i : Nat} {x : Str} {e : Expr} {te : TE} {pos' : Pos} (hN : X.N.Nodup) (hi : X.N[i]? = some x) (hx : Loc X.env.scope x) (he : PE X e te) (hs : swapsWith e (some (.Name x pos')) pos.line X.env = pure false := by rfl) (hf : X.fn x = true ∨ X.env.scope.names.lookup x = some .local := by first | exact .inl rfl | exact .inr rfl | assumption) :
    PS X (.Assign [.Name x pos'] e pos) (tAsg te (gName i)) := by
  intro pins s σ H D I h
  refine wpAny_Assign_Name (thn (he pins s σ H _ I h) fun v s1 ⟨y, H1, I1, r1, q1⟩ => ?_) hs
  exact store_ok I1 hN hi hx r1 (fun s2 I2 => ⟨_, H1, I2, q1⟩) hf
def tAug (i : Nat) (te : TE) (ti : TIp) : TS := fun D σ H => ∃ x, σ[i]? = some (some x) ∧ te σ H fun y H1 => ti x y H1 fun z H2 => D.nx (σ.set i (some z)) H2
theorem ps_aug {i : Nat} {x : Str} {e : Expr} {te : TE} {op : Operator} {ti : TIp} {pos' : Pos} (hN : X.N.Nodup) (hi : X.N[i]? = some x) (hx : Loc X.env.scope x) (he : PE X e te) (ho : PIp X op ti) (hf : X.fn x = true ∨ X.env.scope.names.lookup x = some .local := by first | exact .inl rfl | exact .inr rfl | assumption) :
    PS X (.AugAssign (.Name x pos') op e pos) (tAug i te ti) := by
  intro pins s σ H D I h
  obtain ⟨v, e1, h⟩ := h
  obtain ⟨m, hn, hl⟩ := I.loc
  have vis : Vis X.env.scope x := by rcases hx with k | k; exact .inl k; exact .inr (.inl k)
  obtain ⟨u, r, l⟩ := hl i x v hi e1 vis
  refine wpAny_AugAssign_Name ?_
  have go : wpAny (model X.prog X.w) X.A (eval e X.env) (fun w s₂ => wpAny (model X.prog X.w) X.A (inplaceOp op u w) (fun r s₃ => wpAny (model X.prog X.w) X.A (storeName X.env x r) (fun _ => SP X pins D .next) X.xe s₃) X.xe s₂) X.xe s := by
    refine thn (he pins s σ H _ I h) fun w s1 ⟨y, H1, I1, r1, q1⟩ => ?_
    refine thn (ho pins s1 σ H1 v y u w _ I1 r r1 q1) fun z s2 ⟨zv, H2, I2, r2, q2⟩ => ?_
    exact store_ok I2 hN hi hx r2 (fun s3 I3 => ⟨_, H2, I3, q2⟩) hf
  rcases l with ⟨hk, hm⟩ | ⟨hk, c, hc, hcell⟩
  · exact wpAny_loadName_local I.ok.kind hk hn hm go
  · rcases hk with hk | hk
    · exact wpAny_loadName_cell I.ok.kind hk hc hcell go
    · rcases hx with k | k
      · have : X.env.scope.names.lookup x = some .free := hk
        rw [k] at this; cases this
      · have : X.env.scope.names.lookup x = some .free := hk
        rw [k] at this; cases this
def ipI (f : Int → Int → Int) : TIp := fun x y H Q => ∃ i j, x = .int i ∧ y = .int j ∧ Q (.int (f i j)) H
theorem ip_add : PIp X .Add (ipI fun i j => i + j) := by
  intro pins s σ H x y v u Q I r1 r2 h
  obtain ⟨i, j, e1, e2, q⟩ := h
  subst e1; subst e2
  obtain ⟨t, rfl⟩ := r1
  obtain ⟨t', rfl⟩ := r2
  exact iadd_int ⟨.int _, H, I.tok _, ⟨_, rfl⟩, q⟩
end

section
variable {X : Cx} {pos : Pos}
end

structure It where
  go : Nat → Hp → Prop
  yld : Nat → Hp → V → Hp → Prop
  stop : Nat → Hp → Prop
def FpOk (X : Cx) (pins : List (Addr × Obj)) (H : Hp) (b : Addr) : Prop :=
  H b = none ∧ b ≠ X.env.locals ∧ b ∉ X.fs ∧ (b ∈ X.ex ∨ X.s₀.heap.objs.size ≤ b) ∧ (∀ x c, X.env.cells.lookup x = some c → c ≠ b) ∧ ∀ p ∈ X.pn ++ pins, p.1 ≠ b
theorem Inv.fpOk {X : Cx} {pins : List (Addr × Obj)} {σ : St} {H H' : Hp} {s : Shared} {b : Addr} (I : Inv X pins σ H s) (hb : s.heap.objs.size ≤ b) (hn : H' b = none) : FpOk X pins H' b := by
  refine ⟨hn, Nat.ne_of_gt (Nat.lt_of_lt_of_le I.lt hb), I.nofs hb, .inr (Nat.le_trans I.sz hb), fun x c e z => ?_, fun p hp z => ?_⟩
  · obtain ⟨v, q⟩ := I.cell x c e
    exact absurd (Nat.lt_of_lt_of_le q.lt (by rw [z]; exact hb)) (Nat.lt_irrefl _)
  · exact absurd (Nat.lt_of_lt_of_le (Heap.lt_size (I.pin p hp).1) (by rw [z]; exact hb)) (Nat.lt_irrefl _)
structure Turn (P : Program) (w : World) (K : PySem.W.Frag) (tg : Expr) (J : It) (fp : List Addr) (it : Addr) (tn : Nat → Heap → Prop) : Prop where
  mem : it ∈ fp
  obj : ∀ i h, tn i h → ∀ b ∈ fp, ∃ o, h.get? b = some o ∧ ∀ v, o.data ≠ .cell v
  keep : ∀ i h h', tn i h → (∀ b ∈ fp, ∀ o, h.get? b = some o → h'.get? b = some o) → tn i h'
  item : ∀ (X : Cx), X.prog = P → X.w = w → X.K = K → X.calm = true → ∀ (i : Nat) (pins : List (Addr × Obj)) (s : Shared) (σ : St) (H : Hp) (E : Value → Shared → Prop), Inv X pins σ H s → (∀ b ∈ fp, FpOk X pins H b) → tn i s.heap → J.go i H →
    wpAny (model P w) X.A (pyNext (.ref it)) (fun r s1 => ∃ u, r = some u ∧
      wpAny (model P w) X.A (letOwnedTupleGo tg (.ref it) u) (fun _ s2 => ∃ x H', Inv X pins σ H' s2 ∧ RelV x u ∧ J.yld i H x H' ∧ tn (i + 1) s2.heap ∧ ∀ b ∈ fp, H' b = none) E s1) E s
  done : ∀ (X : Cx), X.prog = P → X.w = w → X.K = K → X.calm = true → ∀ (i : Nat) (pins : List (Addr × Obj)) (s : Shared) (σ : St) (H : Hp) (E : Value → Shared → Prop), Inv X pins σ H s → (∀ b ∈ fp, FpOk X pins H b) → tn i s.heap → J.stop i H →
    wpAny (model P w) X.A (pyNext (.ref it)) (fun r s1 => r = none ∧ Inv X pins σ H s1) E s
  self : ∀ (A : Around) (i : Nat) (s : Shared) (Q : Value → Shared → Prop) (E : Value → Shared → Prop), tn i s.heap → Q (.ref it) s → wpAny (model P w) A (pyIter (.ref it)) Q E s
abbrev TI := St → Hp → (It → Hp → Prop) → Prop
def PIE (X : Cx) (pins : List (Addr × Obj)) (σ : St) (tg : Expr) (R : It → Hp → Prop) (itv : Value) (s2 : Shared) : Prop :=
  ∃ (it : Addr) (fp : List Addr) (tn : Nat → Heap → Prop) (J : It) (H' : Hp), itv = .ref it ∧ Inv X pins σ H' s2 ∧ Turn X.prog X.w X.K tg J fp it tn ∧ tn 0 s2.heap ∧ (∀ b ∈ fp, FpOk X pins H' b) ∧ R J H'
def PI (X : Cx) (tg iter : Expr) (wi : TI) : Prop :=
  ∀ (pins : List (Addr × Obj)) (s : Shared) (σ : St) (H : Hp) (R : It → Hp → Prop), Inv X pins σ H s → wi σ H R →
    wpAny (model X.prog X.w) X.A (eval iter X.env) (fun v s1 => wpAny (model X.prog X.w) X.A (pyIter v) (PIE X pins σ tg R) X.xe s1) X.xe s

theorem go_of {M : Model} {A : Around} {E : Value → Shared → Prop} {s : Shared} {tg : Expr} {it : Addr} {u : Value} {o : Obj} {n : String} {vs : Array Value} {Q : Unit → Shared → Prop} (ho : s.heap.get? it = some o) (hc : o.cls = .type n) (hd : o.data = .fields vs)
    (hn : ["enumerate", "zip", "dict_itemiterator", "dict_reverseitemiterator", "odict_iterator", "itertools.zip_longest", "itertools.pairwise"].contains n = false) (hQ : Q () s) : wpAny M A (letOwnedTupleGo tg (.ref it) u) Q E s := by
  unfold letOwnedTupleGo
  cases tg <;> first
    | exact wpAny_pure hQ
    | (cases u <;> first
        | exact wpAny_pure hQ
        | (refine wpAny_bind (wpAny_load ho ?_)
           rw [hc, hd]
           show wpAny M A (if (["enumerate", "zip", "dict_itemiterator", "dict_reverseitemiterator", "odict_iterator", "itertools.zip_longest", "itertools.pairwise"].contains n && vs[0]? == some (rawInt _)) = true then _ else _) Q E s
           rw [if_neg (by intro h; rw [hn, Bool.false_and] at h; cases h)]
           exact wpAny_pure hQ))

def Itl (K : PySem.W.Frag) (a : Addr) : It :=
  ⟨fun i H => ∃ xs x, SqL K H a xs ∧ xs[i]? = some x, fun i H x H' => H' = H ∧ ∀ xs, SqL K H a xs → xs[i]? = some x, fun i H => ∃ xs, SqL K H a xs ∧ xs.length ≤ i⟩
def Itt (K : PySem.W.Frag) (a : Addr) : It :=
  ⟨fun i H => ∃ xs x, SqT K H a xs ∧ xs[i]? = some x, fun i H x H' => H' = H ∧ ∀ xs, SqT K H a xs → xs[i]? = some x, fun i H => ∃ xs, SqT K H a xs ∧ xs.length ≤ i⟩
def Itr (lo : Int) (n : Nat) : It := ⟨fun i _ => i < n, fun i H x H' => H' = H ∧ x = .int (lo + i), fun i _ => n ≤ i⟩
theorem turn_list {P : Program} {w : World} {K : PySem.W.Frag} {tg : Expr} (a it : Addr) : Turn P w K tg (Itl K a) [it] it (fun i h => h.IsListIter it a i) where
  mem := by simp
  obj := fun i h st b hb => by
    have e : b = it := by simpa using hb
    subst e
    obtain ⟨o, e, c, d⟩ := st
    exact ⟨o, e, fun v z => by rw [d] at z; cases z⟩
  keep := fun i h h' st k => st.at fun o e => k it (by simp) o e
  item := by
    intro X hP hw hK hc i pins s σ H E I hf st hg
    subst hP hw hK
    obtain ⟨xs, x, hq, hx⟩ := hg
    obtain ⟨its, rv, p, hz⟩ := I.list hq
    obtain ⟨u, hu, ru⟩ := rv.get hx
    obtain ⟨f0, f1, f2, f3, f4, f5⟩ := hf it (by simp)
    refine wpAny_pyNext_list_item st p.isList (x := u) (by simpa using hu) fun h' st' sb => ?_
    have I1 : Inv X pins σ H { s with heap := h' } := I.turned (t' := s.toks) (fun b o hb e => (sb.2 b hb).trans e) f0 f1 f3 f4 f5
    obtain ⟨o, e, c, d⟩ := id st'
    exact ⟨u, rfl, go_of (s := { s with heap := h' }) e c d (by decide) ⟨x, H, I1, ru, ⟨rfl, fun ys hy => by rw [I.list_inj hy hq]; exact hx⟩, st', fun b hb => (hf b hb).1⟩⟩
  done := by
    intro X hP hw hK hc i pins s σ H E I hf st hg
    subst hP hw hK
    obtain ⟨xs, hq, hx⟩ := hg
    obtain ⟨its, rv, p, hz⟩ := I.list hq
    obtain ⟨f0, f1, f2, f3, f4, f5⟩ := hf it (by simp)
    have hl := rv.length
    exact wpAny_pyNext_list_end (I.ok.hd hc) st p.isList (by simp; omega) fun h' eb => ⟨rfl, I.turned (t' := s.toks) (fun b o hb e => eb b o hb e) f0 f1 f3 f4 f5⟩
  self := fun _ _ _ _ _ st h => wpAny_pyIter_listiter st h
theorem turn_tuple {P : Program} {w : World} {K : PySem.W.Frag} {tg : Expr} (a it : Addr) : Turn P w K tg (Itt K a) [it] it (fun i h => h.IsTupleIter it a i) where
  mem := by simp
  obj := fun i h st b hb => by
    have e : b = it := by simpa using hb
    subst e
    obtain ⟨o, e, c, d⟩ := st
    exact ⟨o, e, fun v z => by rw [d] at z; cases z⟩
  keep := fun i h h' st k => st.at fun o e => k it (by simp) o e
  item := by
    intro X hP hw hK hc i pins s σ H E I hf st hg
    subst hP hw hK
    obtain ⟨xs, x, hq, hx⟩ := hg
    obtain ⟨its, rv, p, hz⟩ := I.tuple hq
    obtain ⟨u, hu, ru⟩ := rv.get hx
    obtain ⟨f0, f1, f2, f3, f4, f5⟩ := hf it (by simp)
    refine wpAny_pyNext_tuple_item st (show s.heap.IsTuple a its.toArray from p) (x := u) (by simpa using hu) fun h' st' sb => ?_
    have I1 : Inv X pins σ H { s with heap := h' } := I.turned (t' := s.toks) (fun b o hb e => (sb.2 b hb).trans e) f0 f1 f3 f4 f5
    obtain ⟨o, e, c, d⟩ := id st'
    exact ⟨u, rfl, go_of (s := { s with heap := h' }) e c d (by decide) ⟨x, H, I1, ru, ⟨rfl, fun ys hy => by rw [I.tuple_inj hy hq]; exact hx⟩, st', fun b hb => (hf b hb).1⟩⟩
  done := by
    intro X hP hw hK hc i pins s σ H E I hf st hg
    subst hP hw hK
    obtain ⟨xs, hq, hx⟩ := hg
    obtain ⟨its, rv, p, hz⟩ := I.tuple hq
    obtain ⟨f0, f1, f2, f3, f4, f5⟩ := hf it (by simp)
    have hl := rv.length
    exact wpAny_pyNext_tuple_end (I.ok.hd hc) st (show s.heap.IsTuple a its.toArray from p) (by simp; omega) fun h' eb => ⟨rfl, I.turned (t' := s.toks) (fun b o hb e => eb b o hb e) f0 f1 f3 f4 f5⟩
  self := fun _ _ _ _ _ st h => wpAny_pyIter_tupleiter st h
theorem turn_range {P : Program} {w : World} {K : PySem.W.Frag} {tg : Expr} (it : Addr) (lo : Int) (n : Nat) : Turn P w K tg (Itr lo n) [it] it (fun i h => IsRangeIter h it (lo + (i : Nat) * 1) ((n : Int) - (i : Nat)) 1) where
  mem := by simp
  obj := fun i h st b hb => by
    have e : b = it := by simpa using hb
    subst e
    exact ⟨_, st, fun v z => by
      have z' : Data.fields _ = Data.cell v := z
      cases z'⟩
  keep := fun i h h' st k => k it (by simp) _ st
  item := by
    intro X hP hw hK hc i pins s σ H E I hf st hg
    subst hP hw hK
    obtain ⟨f0, f1, f2, f3, f4, f5⟩ := hf it (by simp)
    have W := Walks.range (prog := X.prog) (w := X.w) (I.ok.hd hc) it lo 1 n
    refine W.item i s _ _ hg st fun v h' tk hv st' kk => ?_
    obtain ⟨t, rfl⟩ := hv
    have I1 : Inv X pins σ H { s with heap := h', toks := tk } := I.turned (fun b o hb e => kk b o (by simpa using hb) e) f0 f1 f3 f4 f5
    refine ⟨_, rfl, go_of (s := { s with heap := h', toks := tk }) (n := "range_iterator") st' rfl rfl (by decide) ⟨.int (lo + i), H, I1, ⟨t, ?_⟩, ⟨rfl, rfl⟩, st', fun b hb => (hf b hb).1⟩⟩
    rw [Int.mul_one]
  done := by
    intro X hP hw hK hc i pins s σ H E I hf st hg
    subst hP hw hK
    obtain ⟨f0, f1, f2, f3, f4, f5⟩ := hf it (by simp)
    exact wpAny_pyNext_range_end (I.ok.hd hc) st (by have : n ≤ i := hg; omega) fun h' eb => ⟨rfl, I.turned (t' := s.toks) (fun b o hb e => eb b o hb e) f0 f1 f3 f4 f5⟩
  self := fun _ _ _ _ _ st h => wpAny_pyIter_rangeiter st h
end L2

namespace L2
open PySem PySem.Spec PyProof.Rows
section
variable {X : Cx} {tg : Expr}
def iList (K : PySem.W.Frag) (tl : TE) : TI := fun σ H R => tl σ H fun x H1 => ∃ a, x = .ref a ∧ (∃ xs, SqL K H1 a xs) ∧ R (Itl K a) H1
def iTup (K : PySem.W.Frag) (tl : TE) : TI := fun σ H R => tl σ H fun x H1 => ∃ a, x = .ref a ∧ (∃ xs, SqT K H1 a xs) ∧ R (Itt K a) H1
theorem pi_list {l : Expr} {tl : TE} (hl : PE X l tl) : PI X tg l (iList X.K tl) := by
  intro pins s σ H R I h
  refine thn (hl pins s σ H _ I h) fun v s1 ⟨x, H1, I1, r1, q1⟩ => ?_
  obtain ⟨a, e, ⟨xs, hq⟩, q⟩ := q1
  subst e
  cases r1
  obtain ⟨its, rv, p, hz⟩ := I1.list hq
  refine wpAny_pyIter_list p.isList ?_
  refine ⟨s1.heap.objs.size, [s1.heap.objs.size], _, _, H1, rfl, I1.kept (t' := s1.toks) fun b o e => Heap.get?_push_of_some _ e, turn_list a _, ⟨_, Heap.get?_push_size _ rfl, rfl, rfl⟩, fun b hb => ?_, q⟩
  have e : b = s1.heap.objs.size := by simpa using hb
  subst e
  exact I1.fpOk (Nat.le_refl _) (I1.hok.fresh (Nat.le_refl _))
theorem pi_tup {l : Expr} {tl : TE} (hl : PE X l tl) : PI X tg l (iTup X.K tl) := by
  intro pins s σ H R I h
  refine thn (hl pins s σ H _ I h) fun v s1 ⟨x, H1, I1, r1, q1⟩ => ?_
  obtain ⟨a, e, ⟨xs, hq⟩, q⟩ := q1
  subst e
  cases r1
  obtain ⟨its, rv, p, hz⟩ := I1.tuple hq
  refine wpAny_pyIter_tuple (show s1.heap.IsTuple a its.toArray from p) ?_
  refine ⟨s1.heap.objs.size, [s1.heap.objs.size], _, _, H1, rfl, I1.kept (t' := s1.toks) fun b o e => Heap.get?_push_of_some _ e, turn_tuple a _, ⟨_, Heap.get?_push_size _ rfl, rfl, rfl⟩, fun b hb => ?_, q⟩
  have e : b = s1.heap.objs.size := by simpa using hb
  subst e
  exact I1.fpOk (Nat.le_refl _) (I1.hok.fresh (Nat.le_refl _))
theorem range_it {pins : List (Addr × Obj)} {σ : St} {H : Hp} {s : Shared} {R : It → Hp → Prop} {E : Value → Shared → Prop} {lo hi : Int} {t u v : Tok} {tk : Nat} (I : Inv X pins σ H s) (h1 : -(2 ^ 62) ≤ lo) (h2 : lo < 2 ^ 62) (h3 : -(2 ^ 62) ≤ hi) (h4 : hi < 2 ^ 62)
    (q : R (Itr lo (hi - lo).toNat) H) : wpAny (model X.prog X.w) X.A (pyIter (.ref s.heap.objs.size)) (PIE X pins σ tg R) E { s with heap := s.heap.push { cls := .type "range", data := .fields #[.int lo t, .int hi u, .int 1 v] }, toks := tk } := by
  refine wpAny_pyIter_range (IsRange.new ..) (small_one h1 h2 h3 h4) ?_
  have I1 : Inv X pins σ H { s with heap := s.heap.push { cls := .type "range", data := .fields #[.int lo t, .int hi u, .int 1 v] }, toks := tk } := I.kept fun b o e => Heap.get?_push_of_some _ e
  refine ⟨(s.heap.push { cls := .type "range", data := .fields #[.int lo t, .int hi u, .int 1 v] }).objs.size, [(s.heap.push { cls := .type "range", data := .fields #[.int lo t, .int hi u, .int 1 v] }).objs.size], _, _, H, rfl,
    I1.kept (t' := tk) fun b o e => Heap.get?_push_of_some _ e, turn_range _ lo (hi - lo).toNat, ?_, fun b hb => ?_, q⟩
  · have e1 : lo + ((0 : Nat) : Int) * 1 = lo := by simp
    have e2 : (((hi - lo).toNat : Nat) : Int) - ((0 : Nat) : Int) = Builtin.Range.rangeSize lo hi 1 := by rw [rangeSize_one]; split <;> omega
    show IsRangeIter _ _ (lo + ((0 : Nat) : Int) * 1) ((((hi - lo).toNat : Nat) : Int) - ((0 : Nat) : Int)) 1
    rw [e1, e2]
    exact Heap.get?_push_size _ rfl
  · have e : b = (s.heap.push { cls := .type "range", data := .fields #[.int lo t, .int hi u, .int 1 v] }).objs.size := by simpa using hb
    subst e
    exact I1.fpOk (Nat.le_refl _) (I1.hok.fresh (Nat.le_refl _))
def iRng1 (ta : TA) : TI := fun σ H R => ta σ H fun vs H1 => ∃ j : Int, vs = [.int j] ∧ -(2 ^ 62) ≤ j ∧ j < 2 ^ 62 ∧ R (Itr 0 j.toNat) H1
def iRng2 (ta : TA) : TI := fun σ H R => ta σ H fun vs H1 => ∃ i j : Int, vs = [.int i, .int j] ∧ (-(2 ^ 62) ≤ i ∧ i < 2 ^ 62 ∧ -(2 ^ 62) ≤ j ∧ j < 2 ^ 62) ∧ R (Itr i (j - i).toNat) H1
theorem pi_range1 {a : Expr} {ta : TA} {p pos : Pos} (hg : Gl X "range") (hm : X.mg "range" = none) (ha : PA X [a] ta) (hs : starEach [a] X.env = [(false, eval a X.env)] := by rfl) : PI X tg (.Call (.Name "range" p) [a] [] pos) (iRng1 ta) := by
  intro pins s σ H R I h
  refine Call_ (ld_blt I hg hm boot_range (PyProof.Rows.callWith_type1 (thn (ha pos pins s σ H _ I h) fun us s1 ⟨vs, H1, I1, r1, q1⟩ => ?_) hs rfl))
  obtain ⟨j, e, q1, q2, q⟩ := q1
  subst e
  cases r1 with
  | cons r rr =>
    cases rr
    obtain ⟨t, rfl⟩ := r
    exact call_range_1 (range_it I1 (by omega) (by omega) q1 q2 (by simpa using q))
theorem pi_range2 {a b : Expr} {ta : TA} {p pos : Pos} (hg : Gl X "range") (hm : X.mg "range" = none) (ha : PA X [a, b] ta) (hs : starEach [a, b] X.env = [(false, eval a X.env), (false, eval b X.env)] := by rfl) (hs2 : starEach [b] X.env = [(false, eval b X.env)] := by rfl) :
    PI X tg (.Call (.Name "range" p) [a, b] [] pos) (iRng2 ta) := by
  intro pins s σ H R I h
  refine Call_ (ld_blt I hg hm boot_range (PyProof.Rows.callWith_type1 (thn (ha pos pins s σ H _ I h) fun us s1 ⟨vs, H1, I1, r1, q1⟩ => ?_) (by rw [hs, hs2]) (by rw [hs2]; rfl)))
  obtain ⟨i, j, e, ⟨q1, q2, q3, q4⟩, q⟩ := q1
  subst e
  cases r1 with
  | cons r rr =>
    cases rr with
    | cons r' rr =>
      cases rr
      obtain ⟨t, rfl⟩ := r
      obtain ⟨t', rfl⟩ := r'
      exact call_range_2 (range_it I1 q1 q2 q3 q4 q)

def tFor (wi : TI) (g : TG) (tb : TS) : TS := fun D σ H => wi σ H fun J H1 => ∃ W : Nat → Nat → St → Hp → Prop, (∃ m, W 0 m σ H1) ∧ ∀ i m σ H, W i m σ H →
  (J.stop i H ∧ D.nx σ H) ∨ (J.go i H ∧ ∃ N : St → Hp → Prop, (∀ σ' H', N σ' H' → ∃ m', m' < m ∧ W (i + 1) m' σ' H') ∧ ∀ x H', J.yld i H x H' → g x σ H' fun σ2 H2 => tb { D with nx := N, ct := N, bk := D.nx } σ2 H2)
def pinsAt (fp : List Addr) (h : Heap) : List (Addr × Obj) := fp.filterMap fun b => (h.get? b).map fun o => (b, o)
theorem mem_pinsAt {fp : List Addr} {h : Heap} {b : Addr} {o : Obj} (hb : b ∈ fp) (e : h.get? b = some o) : (b, o) ∈ pinsAt fp h := List.mem_filterMap.mpr ⟨b, hb, by rw [e]; rfl⟩
theorem of_pinsAt {fp : List Addr} {h : Heap} {p : Addr × Obj} (hp : p ∈ pinsAt fp h) : p.1 ∈ fp ∧ h.get? p.1 = some p.2 := by
  obtain ⟨b, hb, e⟩ := List.mem_filterMap.mp hp
  cases q : h.get? b with
  | none => rw [q] at e; cases e
  | some o =>
    rw [q] at e
    have e' : (b, o) = p := Option.some.inj e
    subst e'
    exact ⟨hb, q⟩
theorem Inv.pinned {pins : List (Addr × Obj)} {σ : St} {H : Hp} {s : Shared} {fp : List Addr} (I : Inv X pins σ H s) (hf : ∀ b ∈ fp, FpOk X pins H b) (ho : ∀ b ∈ fp, ∃ o, s.heap.get? b = some o ∧ ∀ v, o.data ≠ .cell v) : Inv X (pins ++ pinsAt fp s.heap) σ H s :=
  I.pins_of fun p hp => (List.mem_append.mp hp).elim (fun z => I.pin p (List.mem_append_right _ z)) fun z => by
    obtain ⟨hb, e⟩ := of_pinsAt z
    obtain ⟨f0, f1, f2, _⟩ := hf p.1 hb
    obtain ⟨o, e', d⟩ := ho p.1 hb
    rw [e] at e'; cases e'
    exact ⟨e, f0, f1, f2, d⟩
theorem Inv.unpinned {pins pl : List (Addr × Obj)} {σ : St} {H : Hp} {s : Shared} (I : Inv X (pins ++ pl) σ H s) : Inv X pins σ H s := I.pins_of fun p hp => I.pin p (List.mem_append_right _ (List.mem_append_left _ hp))
theorem ps_for {iter : Expr} {body : List Stmt} {wi : TI} {g : TG} {tb : TS} {pos : Pos} (hp : PassesOwn (model X.prog X.w) X.A X.env X.xe) (hc : X.calm = true) (hi : PI X tg iter wi) (hg : PG X tg g) (hb : PSs X body tb)
    (hs : ∀ x, foldedSetIterable iter X.env x = pure x := by intro _; rfl) : PS X (.For tg iter body [] pos) (tFor wi g tb) := by
  intro pins s σ H D I h
  refine wpAny_For (thn (hi pins s σ H _ I h) fun v s1 h1 => thn h1 fun itv s2 h2 => ?_) hs
  obtain ⟨it, fp, tn, J, H2, e, I2, T, st2, f2, W, ⟨m0, w0⟩, turn⟩ := h2
  subst e
  -- what stays true of the iterator's objects through the loop
  have stat : ∀ {H' : Hp}, (∀ b ∈ fp, H' b = none) → ∀ b ∈ fp, FpOk X pins H' b := fun hn b hb => ⟨hn b hb, (f2 b hb).2⟩
  refine codeAny_forLoop_any (fun n s' => ∃ i σ' H', Inv X pins σ' H' s' ∧ tn i s'.heap ∧ (∀ b ∈ fp, H' b = none) ∧ W i n σ' H') ?_ m0 ⟨0, σ, H2, I2, st2, fun b hb => (f2 b hb).1, w0⟩
  rintro n s3 ⟨i, σ3, H3, I3, st3, fr3, w3⟩
  rcases turn i n σ3 H3 w3 with ⟨stop, qn⟩ | ⟨go, N, hN, step⟩
  · refine wpAny_passesOwn hp (thn (T.done X rfl rfl rfl hc i pins s3 σ3 H3 X.xe I3 (stat fr3) st3 stop) fun r s4 ⟨hr, I4⟩ => ?_)
    subst hr
    exact wpAny_execs_nil ⟨σ3, H3, I4, qn⟩
  · refine wpAny_passesOwn hp (thn (T.item X rfl rfl rfl hc i pins s3 σ3 H3 X.xe I3 (stat fr3) st3 go) fun r s4 ⟨u, hr, h4⟩ => ?_)
    subst hr
    refine wpAny_passesOwn hp (thn h4 fun _ s5 ⟨x, H5, I5, r5, y5, st5, fr5⟩ => ?_)
    have I5' := I5.pinned (stat fr5) (T.obj _ _ st5)
    refine wpAny_passesOwn hp (thn (hg _ s5 σ3 H5 x u _ I5' r5 (step x H5 y5)) fun _ s6 ⟨σ6, H6, I6, q6⟩ => ?_)
    refine wpAny_passesOwn hp (thn (hb _ s6 σ6 H6 _ I6 q6) fun f s7 q7 => ?_)
    have again : ∀ {σ7 : St} {H7 : Hp}, Inv X (pins ++ pinsAt fp s5.heap) σ7 H7 s7 → N σ7 H7 → ∃ m, m < n ∧ ∃ i σ' H', Inv X pins σ' H' s7 ∧ tn i s7.heap ∧ (∀ b ∈ fp, H' b = none) ∧ W i m σ' H' := fun {σ7 H7} I7 n7 => by
      obtain ⟨m', hm, w7⟩ := hN σ7 H7 n7
      refine ⟨m', hm, i + 1, σ7, H7, I7.unpinned, T.keep _ _ _ st5 fun b hb o e => (I7.pin (b, o) (List.mem_append_right _ (List.mem_append_right _ (mem_pinsAt hb e)))).1, fun b hb => ?_, w7⟩
      obtain ⟨o, e, d⟩ := T.obj _ _ st5 b hb
      exact (I7.pin (b, o) (List.mem_append_right _ (List.mem_append_right _ (mem_pinsAt hb e)))).2.1
    cases f with
    | next => obtain ⟨σ7, H7, I7, n7⟩ := q7; exact again I7 n7
    | cont => obtain ⟨σ7, H7, I7, n7⟩ := q7; exact again I7 n7
    | brk => obtain ⟨σ7, H7, I7, q7⟩ := q7; exact ⟨σ7, H7, I7.unpinned, q7⟩
    | ret v => obtain ⟨x7, σ7, H7, I7, r7, q7⟩ := q7; exact ⟨x7, σ7, H7, I7.unpinned, r7, q7⟩
end

theorem for_list {K : PySem.W.Frag} {a : Addr} {xs : List V} {g : TG} {tb : TS} {D : Ends} {σ : St} {H : Hp} (Pv : Nat → St → Hp → Prop) (h0 : Pv 0 σ H) (hl : ∀ i σ H, i ≤ xs.length → Pv i σ H → SqL K H a xs)
    (hs : ∀ i x σ H, xs[i]? = some x → Pv i σ H → g x σ H fun σ2 H2 => tb { D with nx := Pv (i + 1), ct := Pv (i + 1), bk := D.nx } σ2 H2) (hd : ∀ σ H, Pv xs.length σ H → D.nx σ H) :
    ∃ W : Nat → Nat → St → Hp → Prop, (∃ m, W 0 m σ H) ∧ ∀ i m σ H, W i m σ H →
      ((Itl K a).stop i H ∧ D.nx σ H) ∨ ((Itl K a).go i H ∧ ∃ N : St → Hp → Prop, (∀ σ' H', N σ' H' → ∃ m', m' < m ∧ W (i + 1) m' σ' H') ∧ ∀ x H', (Itl K a).yld i H x H' → g x σ H' fun σ2 H2 => tb { D with nx := N, ct := N, bk := D.nx } σ2 H2) := by
  refine ⟨fun i m σ H => m = xs.length - i ∧ i ≤ xs.length ∧ Pv i σ H, ⟨xs.length, by simp, Nat.zero_le _, h0⟩, ?_⟩
  rintro i m σ H ⟨rfl, hi, p⟩
  have q := hl i σ H hi p
  by_cases hlt : i < xs.length
  · refine .inr ⟨⟨xs, xs[i], q, by simp [hlt]⟩, Pv (i + 1), fun σ' H' p' => ⟨xs.length - (i + 1), by omega, rfl, hlt, p'⟩, fun x H' y => ?_⟩
    obtain ⟨e, y⟩ := y
    subst e
    exact hs i x σ _ (y xs q) p
  · have e : i = xs.length := by omega
    subst e
    exact .inl ⟨⟨xs, q, Nat.le_refl _⟩, hd σ H p⟩
theorem for_range {lo : Int} {n : Nat} {g : TG} {tb : TS} {D : Ends} {σ : St} {H : Hp} (Pv : Nat → St → Hp → Prop) (h0 : Pv 0 σ H)
    (hs : ∀ i σ H, i < n → Pv i σ H → g (.int (lo + i)) σ H fun σ2 H2 => tb { D with nx := Pv (i + 1), ct := Pv (i + 1), bk := D.nx } σ2 H2) (hd : ∀ σ H, Pv n σ H → D.nx σ H) :
    ∃ W : Nat → Nat → St → Hp → Prop, (∃ m, W 0 m σ H) ∧ ∀ i m σ H, W i m σ H →
      ((Itr lo n).stop i H ∧ D.nx σ H) ∨ ((Itr lo n).go i H ∧ ∃ N : St → Hp → Prop, (∀ σ' H', N σ' H' → ∃ m', m' < m ∧ W (i + 1) m' σ' H') ∧ ∀ x H', (Itr lo n).yld i H x H' → g x σ H' fun σ2 H2 => tb { D with nx := N, ct := N, bk := D.nx } σ2 H2) := by
  refine ⟨fun i m σ H => m = n - i ∧ i ≤ n ∧ Pv i σ H, ⟨n, by simp, Nat.zero_le _, h0⟩, ?_⟩
  rintro i m σ H ⟨rfl, hi, p⟩
  by_cases hlt : i < n
  · refine .inr ⟨hlt, Pv (i + 1), fun σ' H' p' => ⟨n - (i + 1), by omega, rfl, hlt, p'⟩, fun x H' y => ?_⟩
    obtain ⟨e, y⟩ := y
    subst e y
    exact hs i σ _ hlt p
  · have e : i = n := by omega
    subst e
    exact .inl ⟨Nat.le_refl _, hd σ H p⟩
end L2

namespace L2
open PySem PySem.Spec PyProof.Rows

abbrev R2 := V → V → Hp → VK → Prop
def OpR (X : Cx) (f : Value → Value → Sem Value) (r : R2) : Prop :=
  ∀ (pins : List (Addr × Obj)) (s : Shared) (σ : St) (H : Hp) (x y : V) (v u : Value) (Q : VK), Inv X pins σ H s → RelV x v → RelV y u → r x y H Q →
    wpAny (model X.prog X.w) X.A (f v u) (EP X pins σ Q) X.xe s
def UnR (X : Cx) (f : Value → Sem Value) (r : V → Hp → VK → Prop) : Prop :=
  ∀ (pins : List (Addr × Obj)) (s : Shared) (σ : St) (H : Hp) (x : V) (v : Value) (Q : VK), Inv X pins σ H s → RelV x v → r x H Q →
    wpAny (model X.prog X.w) X.A (f v) (EP X pins σ Q) X.xe s
def CallR (X : Cx) (f : Value) (r : List V → Hp → VK → Prop) : Prop :=
  ∀ (pins : List (Addr × Obj)) (s : Shared) (σ : St) (H : Hp) (xs : List V) (us : List Value) (Q : VK), Inv X pins σ H s → Vals xs us → r xs H Q →
    wpAny (model X.prog X.w) X.A (call f us) (EP X pins σ Q) X.xe s
def tOp (r : R2) (ta tb : TE) : TE := fun σ H Q => ta σ H fun x H1 => tb σ H1 fun y H2 => r x y H2 Q
def tUn (r : V → Hp → VK → Prop) (ta : TE) : TE := fun σ H Q => ta σ H fun x H1 => r x H1 Q
def rI (C : Int → Int → Prop) (g : Int → Int → V) : R2 := fun x y H Q => ∃ i j, x = .int i ∧ y = .int j ∧ C i j ∧ Q (g i j) H
def rI0 (g : Int → Int → V) : R2 := fun x y H Q => ∃ i j, x = .int i ∧ y = .int j ∧ Q (g i j) H
def rU (g : Int → V) : V → Hp → VK → Prop := fun x H Q => ∃ i, x = .int i ∧ Q (g i) H

section
variable {X : Cx} {a b c : Expr} {ta tb tc : TE} {pos : Pos}

theorem binT (ha : PE X a ta) (hb : PE X b tb) {pins : List (Addr × Obj)} {s : Shared} {σ : St} {H : Hp} {R : V → V → Hp → Prop} (I : Inv X pins σ H s)
    (h : ta σ H fun x H1 => tb σ H1 fun y H2 => R x y H2) {Q : Value → Shared → Prop} {f : Value → Value → Sem Value}
    (hf : ∀ v u s2 x y H2, Inv X pins σ H2 s2 → RelV x v → RelV y u → R x y H2 → wpAny (model X.prog X.w) X.A (f v u) Q X.xe s2) :
    wpAny (model X.prog X.w) X.A (eval a X.env) (fun v s₁ => wpAny (model X.prog X.w) X.A (eval b X.env) (fun u s₂ => wpAny (model X.prog X.w) X.A (f v u) Q X.xe s₂) X.xe s₁) X.xe s := by
  refine thn (ha pins s σ H _ I h) fun v s1 ⟨x, H1, I1, r1, q1⟩ => ?_
  refine thn (hb pins s1 σ H1 _ I1 q1) fun u s2 ⟨y, H2, I2, r2, q2⟩ => ?_
  exact hf v u s2 x y H2 I2 r1 r2 q2

theorem pe_op {op : Operator} {r : R2} (ho : OpR X (binaryOp op) r) (ha : PE X a ta) (hb : PE X b tb) : PE X (.BinOp a op b pos) (tOp r ta tb) := by
  intro pins s σ H Q I h
  exact wpAny_BinOp (binT ha hb I h fun v u s2 x y H2 I2 rx ry q => ho pins s2 σ H2 x y v u Q I2 rx ry q)
theorem pe_un {op : UnaryOp} {r : V → Hp → VK → Prop} (ho : UnR X (unaryOp op) r) (ha : PE X a ta) : PE X (.UnaryOp op a pos) (tUn r ta) := by
  intro pins s σ H Q I h
  exact UnaryOp_ (thn (ha pins s σ H _ I h) fun v s1 ⟨x, H1, I1, r1, q1⟩ => ho pins s1 σ H1 x v Q I1 r1 q1)
theorem opI {f : Value → Value → Sem Value} {C : Int → Int → Prop} {g : Int → Int → Int}
    (rule : ∀ (i j : Int) (t u : Tok) (s : Shared) (Q : Value → Shared → Prop) (E : Value → Shared → Prop), C i j → Q (.int (g i j) s.toks) { s with toks := s.toks + 1 } → wpAny (model X.prog X.w) X.A (f (.int i t) (.int j u)) Q E s) :
    OpR X f (rI C fun i j => .int (g i j)) := by
  intro pins s σ H x y v u Q I rx ry h
  obtain ⟨i, j, rfl, rfl, hc, q⟩ := h
  obtain ⟨t, rfl⟩ := rx
  obtain ⟨t', rfl⟩ := ry
  exact rule i j t t' s _ _ hc ⟨.int (g i j), H, I.tok _, ⟨_, rfl⟩, q⟩
theorem opI0 {f : Value → Value → Sem Value} {g : Int → Int → Int}
    (rule : ∀ (i j : Int) (t u : Tok) (s : Shared) (Q : Value → Shared → Prop) (E : Value → Shared → Prop), Q (.int (g i j) s.toks) { s with toks := s.toks + 1 } → wpAny (model X.prog X.w) X.A (f (.int i t) (.int j u)) Q E s) :
    OpR X f (rI0 fun i j => .int (g i j)) := by
  intro pins s σ H x y v u Q I rx ry h
  obtain ⟨i, j, rfl, rfl, q⟩ := h
  obtain ⟨t, rfl⟩ := rx
  obtain ⟨t', rfl⟩ := ry
  exact rule i j t t' s _ _ ⟨.int (g i j), H, I.tok _, ⟨_, rfl⟩, q⟩
theorem opB0 {f : Value → Value → Sem Value} {g : Int → Int → Bool}
    (rule : ∀ (i j : Int) (t u : Tok) (s : Shared) (Q : Value → Shared → Prop) (E : Value → Shared → Prop), Q (.bool (g i j)) s → wpAny (model X.prog X.w) X.A (f (.int i t) (.int j u)) Q E s) :
    OpR X f (rI0 fun i j => .bl (g i j)) := by
  intro pins s σ H x y v u Q I rx ry h
  obtain ⟨i, j, rfl, rfl, q⟩ := h
  obtain ⟨t, rfl⟩ := rx
  obtain ⟨t', rfl⟩ := ry
  exact rule i j t t' s _ _ ⟨.bl (g i j), H, I, rfl, q⟩

def CDiv (i j : Int) : Prop := 0 < j ∧ j < 1073741824
def CMul (i j : Int) : Prop := (-(2 ^ 64) < i ∧ i < 2 ^ 64) ∨ (-(2 ^ 64) < j ∧ j < 2 ^ 64)
theorem CMul.ok {i j : Int} (h : CMul i j) : IntMulOk i j := by
  rcases h with ⟨h1, h2⟩ | ⟨h1, h2⟩
  · exact .of_left (intBits_le_64 h1 h2)
  · exact .of_right (intBits_le_64 h1 h2)
theorem op_add : OpR X (binaryOp .Add) (rI0 fun i j => .int (i + j)) := opI0 fun _ _ _ _ _ _ _ q => add_int q
theorem op_sub : OpR X (binaryOp .Sub) (rI0 fun i j => .int (i - j)) := opI0 fun _ _ _ _ _ _ _ q => sub_int q
theorem op_mul : OpR X (binaryOp .Mult) (rI CMul fun i j => .int (i * j)) := opI fun _ _ _ _ _ _ _ hc q => mul_int q hc.ok
theorem op_fdiv : OpR X (binaryOp .FloorDiv) (rI CDiv fun i j => .int (i / j)) := opI fun i j _ _ _ _ _ hc q => by
  have h1 : (0 : Int) < j := hc.1
  have h2 : j < 1073741824 := hc.2
  exact floordiv_int (by omega) (by rw [Int.fdiv_eq_ediv_of_nonneg i (by omega)]; exact q) (.inl (PyProof.noPylong_small (by omega)))
theorem op_mod : OpR X (binaryOp .Mod) (rI (fun _ j => 0 < j) fun i j => .int (i % j)) := opI fun i j _ _ _ _ _ hc q => by
  have h1 : (0 : Int) < j := hc
  exact mod_int' (by omega) (by rw [Int.fmod_eq_emod_of_nonneg i (by omega)]; exact q)
theorem iop_mul : OpR X (inplaceOp .Mult) (rI CMul fun i j => .int (i * j)) := opI fun _ _ _ _ _ _ _ hc q => imul_int q hc.ok
theorem unI {f : Value → Sem Value} {g : Int → Int}
    (rule : ∀ (i : Int) (t : Tok) (s : Shared) (Q : Value → Shared → Prop) (E : Value → Shared → Prop), Q (.int (g i) s.toks) { s with toks := s.toks + 1 } → wpAny (model X.prog X.w) X.A (f (.int i t)) Q E s) :
    UnR X f (rU fun i => .int (g i)) := by
  intro pins s σ H x v Q I rx h
  obtain ⟨i, rfl, q⟩ := h
  obtain ⟨t, rfl⟩ := rx
  exact rule i t s _ _ ⟨.int (g i), H, I.tok _, ⟨_, rfl⟩, q⟩
theorem un_neg : UnR X (unaryOp .USub) (rU fun i => .int (-i)) := unI fun _ _ _ _ _ q => neg_int q
end

def scal : V → V → Bool
  | .non, .non => true | .non, .int _ => true | .int _, .non => true | .non, .bl _ => true | .bl _, .non => true | .non, .str _ => true | .str _, .non => true
  | .int _, .int _ => true | .bl _, .bl _ => true | .str _, .str _ => true | .byt _, .byt _ => true
  | .int _, .str _ => true | .str _, .int _ => true | .bl _, .str _ => true | .str _, .bl _ => true
  | _, _ => false
def rEq : R2 := fun x y H Q => scal x y = true ∧ Q (.bl (decide (x = y))) H
def rNe : R2 := fun x y H Q => scal x y = true ∧ Q (.bl (!decide (x = y))) H

theorem dec_int {i j : Int} : decide (V.int i = V.int j) = (i == j) := by
  rw [Bool.eq_iff_iff]
  simp
theorem dec_bl {i j : Bool} : decide (V.bl i = V.bl j) = (i == j) := by
  rw [Bool.eq_iff_iff]
  simp
theorem dec_str {i j : Str} : decide (V.str i = V.str j) = (i == j) := by
  rw [Bool.eq_iff_iff]
  simp
theorem dec_byt {i j : Array UInt8} : decide (V.byt i = V.byt j) = (i.toList == j.toList) := by
  rw [Bool.eq_iff_iff]
  cases i
  cases j
  simp

section
variable {X : Cx} {a b c : Expr} {ta tb tc : TE} {pos : Pos}
theorem fin_bl {pins : List (Addr × Obj)} {σ : St} {H : Hp} {s : Shared} {Q : VK} {k k' : Bool} (I : Inv X pins σ H s) (q : Q (.bl k) H) (e : k = k') : EP X pins σ Q (.bool k') s := by
  subst e
  exact ⟨.bl k, H, I, rfl, q⟩
theorem op_eq : OpR X (compareOp .Eq) rEq := by
  intro pins s σ H x y v u Q I rx ry h
  obtain ⟨hs, q⟩ := h
  cases x with
  | non =>
    cases rx
    cases y with
    | non => cases ry; exact PySem.EqNone.eq_none_none (fin_bl I q (by simp))
    | bl j => cases ry; exact PySem.EqNone.eq_none_bool (fin_bl I q (by simp))
    | int j => obtain ⟨t', rfl⟩ := ry; exact PySem.EqNone.eq_none_int (fin_bl I q (by simp))
    | str j => obtain ⟨t', rfl⟩ := ry; exact PySem.EqNone.eq_none_str (fin_bl I q (by simp))
    | _ => exact absurd (show false = true from hs) Bool.false_ne_true
  | bl i =>
    cases rx
    cases y with
    | non => cases ry; exact PySem.EqNone.eq_bool_none (fin_bl I q (by simp))
    | bl j => cases ry; exact eq_bool (fin_bl I q dec_bl)
    | str j => obtain ⟨t', rfl⟩ := ry; exact PySem.EqMixed.eq_bool_str (fin_bl I q (by simp))
    | _ => exact absurd (show false = true from hs) Bool.false_ne_true
  | int i =>
    obtain ⟨t, rfl⟩ := rx
    cases y with
    | non => cases ry; exact PySem.EqNone.eq_int_none (fin_bl I q (by simp))
    | int j => obtain ⟨t', rfl⟩ := ry; exact eq_int (fin_bl I q dec_int)
    | str j => obtain ⟨t', rfl⟩ := ry; exact PySem.EqMixed.eq_int_str (fin_bl I q (by simp))
    | _ => exact absurd (show false = true from hs) Bool.false_ne_true
  | str i =>
    obtain ⟨t, rfl⟩ := rx
    cases y with
    | non => cases ry; exact PySem.EqNone.eq_str_none (fin_bl I q (by simp))
    | bl j => cases ry; exact PySem.EqMixed.eq_str_bool (fin_bl I q (by simp))
    | int j => obtain ⟨t', rfl⟩ := ry; exact PySem.EqMixed.eq_str_int (fin_bl I q (by simp))
    | str j => obtain ⟨t', rfl⟩ := ry; exact eq_str (fin_bl I q dec_str)
    | _ => exact absurd (show false = true from hs) Bool.false_ne_true
  | byt i =>
    obtain ⟨t, rfl⟩ := rx
    cases y with
    | byt j => obtain ⟨t', rfl⟩ := ry; exact PySem.W.eq_bytes (fin_bl I q dec_byt)
    | _ => exact absurd (show false = true from hs) Bool.false_ne_true
  | _ => cases y <;> exact absurd (show false = true from hs) Bool.false_ne_true
theorem op_ne : OpR X (compareOp .NotEq) rNe := by
  intro pins s σ H x y v u Q I rx ry h
  obtain ⟨hs, q⟩ := h
  cases x with
  | non =>
    cases rx
    cases y with
    | non => cases ry; exact PySem.EqNone.ne_none_none (fin_bl I q (by simp))
    | bl j => cases ry; exact PySem.EqNone.ne_none_bool (fin_bl I q (by simp))
    | int j => obtain ⟨t', rfl⟩ := ry; exact PySem.EqNone.ne_none_int (fin_bl I q (by simp))
    | str j => obtain ⟨t', rfl⟩ := ry; exact PySem.EqNone.ne_none_str (fin_bl I q (by simp))
    | _ => exact absurd (show false = true from hs) Bool.false_ne_true
  | bl i =>
    cases rx
    cases y with
    | non => cases ry; exact PySem.EqNone.ne_bool_none (fin_bl I q (by simp))
    | bl j => cases ry; exact ne_bool (fin_bl I q (congrArg not dec_bl))
    | str j => obtain ⟨t', rfl⟩ := ry; exact PySem.EqMixed.ne_bool_str (fin_bl I q (by simp))
    | _ => exact absurd (show false = true from hs) Bool.false_ne_true
  | int i =>
    obtain ⟨t, rfl⟩ := rx
    cases y with
    | non => cases ry; exact PySem.EqNone.ne_int_none (fin_bl I q (by simp))
    | int j => obtain ⟨t', rfl⟩ := ry; exact ne_int (fin_bl I q (congrArg not dec_int))
    | str j => obtain ⟨t', rfl⟩ := ry; exact PySem.EqMixed.ne_int_str (fin_bl I q (by simp))
    | _ => exact absurd (show false = true from hs) Bool.false_ne_true
  | str i =>
    obtain ⟨t, rfl⟩ := rx
    cases y with
    | non => cases ry; exact PySem.EqNone.ne_str_none (fin_bl I q (by simp))
    | bl j => cases ry; exact PySem.EqMixed.ne_str_bool (fin_bl I q (by simp))
    | int j => obtain ⟨t', rfl⟩ := ry; exact PySem.EqMixed.ne_str_int (fin_bl I q (by simp))
    | str j => obtain ⟨t', rfl⟩ := ry; exact ne_str (fin_bl I q (congrArg not dec_str))
    | _ => exact absurd (show false = true from hs) Bool.false_ne_true
  | byt i =>
    obtain ⟨t, rfl⟩ := rx
    cases y with
    | byt j => obtain ⟨t', rfl⟩ := ry; exact PySem.W.ne_bytes (fin_bl I q (congrArg not dec_byt))
    | _ => exact absurd (show false = true from hs) Bool.false_ne_true
  | _ => cases y <;> exact absurd (show false = true from hs) Bool.false_ne_true

theorem op_lt : OpR X (compareOp .Lt) (rI0 fun i j => .bl (decide (i < j))) := opB0 fun _ _ _ _ _ _ _ q => lt_int q
theorem op_le : OpR X (compareOp .LtE) (rI0 fun i j => .bl (decide (i ≤ j))) := opB0 fun _ _ _ _ _ _ _ q => le_int q
theorem op_gt : OpR X (compareOp .Gt) (rI0 fun i j => .bl (decide (j < i))) := opB0 fun _ _ _ _ _ _ _ q => gt_int q
theorem op_ge : OpR X (compareOp .GtE) (rI0 fun i j => .bl (decide (j ≤ i))) := opB0 fun _ _ _ _ _ _ _ q => ge_int q
theorem nomark (b : Expr) {op : CmpOp} (h : op ≠ .In := by decide) (h2 : op ≠ .NotIn := by decide) : behindInMarks op b = false := by
  have e1 : (op == CmpOp.In) = false := by cases op <;> first | rfl | exact absurd rfl h
  have e2 : (op == CmpOp.NotIn) = false := by cases op <;> first | rfl | exact absurd rfl h2
  cases b <;> simp [behindInMarks, e1, e2]
theorem pe_cmpR {op : CmpOp} {r : R2} (ho : OpR X (compareOp op) r) (ha : PE X a ta) (hb : PE X b tb) (hm : behindInMarks op b = false) : PE X (.Compare a [op] [b] pos) (tOp r ta tb) := by
  intro pins s σ H Q I h
  exact wpAny_Compare1 (binT ha hb I h fun v u s2 x y H2 I2 rx ry q => ho pins s2 σ H2 x y v u Q I2 rx ry q) hm
def tTest (t : TE) : TT := fun σ H Q => t σ H fun x H' => ∃ k, x = .bl k ∧ Q k H'
theorem pt_cmpR {op : CmpOp} {r : R2} (ho : OpR X (compareOp op) r) (ha : PE X a ta) (hb : PE X b tb) (hm : behindInMarks op b = false) : PT X (.Compare a [op] [b] pos) (tTest (tOp r ta tb)) := by
  intro pins s σ H Q I h
  refine wpAny_isTrue_Compare1 (thn (ha pins s σ H _ I h) fun v s1 ⟨x, H1, I1, r1, q1⟩ => thn (hb pins s1 σ H1 _ I1 q1) fun u s2 ⟨y, H2, I2, r2, q2⟩ =>
    thn (ho pins s2 σ H2 x y v u _ I2 r1 r2 q2) fun c s3 ⟨z, H3, I3, r3, k, e, q3⟩ => ?_) hm
  subst e
  cases r3
  exact wpAny_truthy_bool ⟨H3, I3, q3⟩
theorem line63 : (sizeLine : Nat) < 2 ^ 63 := by rw [sizeLine_eq]; decide
theorem vals1 {x : V} {us : List Value} (r : Vals [x] us) : ∃ u, us = [u] ∧ RelV x u := by
  cases r with
  | cons r1 r2 => cases r2; exact ⟨_, rfl, r1⟩
theorem vals2 {x y : V} {us : List Value} (r : Vals [x, y] us) : ∃ u w', us = [u, w'] ∧ RelV x u ∧ RelV y w' := by
  cases r with
  | cons r1 r2 =>
    cases r2 with
    | cons r3 r4 => cases r4; exact ⟨_, _, rfl, r1, r3⟩
theorem call_max2 (hc : X.calm = true) : CallR X (.builtin "max") (fun xs H Q => ∃ i j, xs = [.int i, .int j] ∧ Q (.int (if j > i then j else i)) H) := by
  intro pins s σ H xs us Q I r h
  obtain ⟨i, j, rfl, q⟩ := h
  obtain ⟨u, w', rfl, ⟨t, rfl⟩, ⟨t', rfl⟩⟩ := vals2 r
  refine max_two_ints (I.ok.hd hc) fun h' tk k => ⟨_, H, I.kept k, ?_, q⟩
  by_cases hj : j > i
  · rw [if_pos hj, if_pos hj]; exact ⟨_, rfl⟩
  · rw [if_neg hj, if_neg hj]; exact ⟨_, rfl⟩
end
end L2

namespace L2
open PySem PySem.Spec PyProof.Rows

structure ObjM (h : Heap) (x dx C : Addr) (mA : Str → Option Value) : Prop where
  obj : h.get? x = some (PySem.W.instObj C dx)
  ns : h.Ns1 dx mA
  ne : dx ≠ x

theorem lookIn_ns {h : Heap} {dx : Addr} {mA : Str → Option Value} (n : h.Ns1 dx mA) : ∃ od, h.get? dx = some od ∧ ∀ name, PySem.W.lookIn name od = some (mA name) := by
  obtain ⟨o, es, ep, ho, hd, hk, _, hm⟩ := n
  refine ⟨o, ho, fun name => ?_⟩
  have e := hm name
  unfold nsFind findBy at e
  rw [← Array.find?_toList] at e
  unfold PySem.W.lookIn
  rw [hd]
  dsimp only
  split
  · rename_i y q
    rw [q] at e
    exact congrArg some e
  · rename_i q
    rw [q] at e
    have a : es.toList.any (·.refKey) = false := by
      rw [List.any_eq_false]
      intro y hy
      obtain ⟨z, t, hkey⟩ := hk y (Array.mem_toList_iff.mp hy)
      simp [DictEntry.refKey, hkey]
    have a' : ¬ es.toList.any (·.refKey) = true := by rw [a]; exact Bool.false_ne_true
    rw [if_neg a']
    exact congrArg some e

theorem ObjM.look {h : Heap} {x dx C : Addr} {mA : Str → Option Value} (I : ObjM h x dx C mA) : ∃ od, PySem.W.InstAt h x (PySem.W.instObj C dx) C (some od) ∧ ∀ name, PySem.W.lookIn name od = some (mA name) :=
  let ⟨od, ho, hl⟩ := lookIn_ns I.ns
  ⟨od, ⟨I.obj, rfl, rfl, ho⟩, hl⟩

section
variable {prog : Program} {w : World} {A : Around} {E : Value → Shared → Prop} {s : Shared} {K : PySem.W.Frag} {x dx C f : Addr} {mA : Str → Option Value} {name : Str} {v : Value}

end

theorem RelO.some_of {v : V} {o : Option Value} (r : RelO (some v) o) : ∃ u, o = some u ∧ RelV v u := by
  cases o with
  | none => exact (show False from r).elim
  | some u => exact ⟨u, rfl, r⟩
section
variable {P : Program} {w : World} {H H' : Hp} {h h' : Heap} {a C dx : Addr} {fs fs' : List (Str × V)}
theorem ins_get (hok : HOk P w H h) (e : H a = some (.ins C dx fs)) : ∃ mA, ObjM h a dx C mA ∧ (∀ f, RelO (fs.lookup f) (mA f)) ∧ PySem.Within mA (fs.map (·.1)) ∧ fs.length ≤ 1000 ∧ H dx = some (.own a) := by
  obtain ⟨d, z, ne, ob, mA, n, r, q⟩ := (show ObjOk P w H h a (.ins C dx fs) from hok a _ e)
  exact ⟨mA, ⟨ob, n, ne⟩, r, q, z, d⟩
end

structure Cls (K : PySem.W.Frag) (C : Addr) : Prop where
  pg : PySem.W.plainGet K C Str.empty = true
  hd : PySem.W.hasDictIn K C = true
  po : PySem.W.plainOver K C = true
  sa : PySem.W.findIn K (.ref C) "__setattr__" = some (some (.builtin "object.__setattr__"))
theorem Cls.get {K : PySem.W.Frag} {C : Addr} (c : Cls K C) (f : Str) : PySem.W.plainGet K C f = true := c.pg
section
variable {X : Cx} {pins : List (Addr × Obj)} {σ : St} {H : Hp} {s : Shared} {a C dx : Addr} {fs : List (Str × V)} {f : Str} {v : V} {A : Around} {E : Value → Shared → Prop}

theorem Inv.made (I : Inv X pins σ H s) : Inv X pins σ (upd (upd H s.heap.objs.size (.own (s.heap.objs.size + 1))) (s.heap.objs.size + 1) (.ins C s.heap.objs.size []))
    { s with heap := (s.heap.push PySem.W.emptyDict).push (PySem.W.instObj C s.heap.objs.size) } := by
  have e1 : (s.heap.push PySem.W.emptyDict).get? s.heap.objs.size = some PySem.W.emptyDict := Heap.get?_push_size s.heap rfl
  have e2 : ((s.heap.push PySem.W.emptyDict).push (PySem.W.instObj C s.heap.objs.size)).get? (s.heap.objs.size + 1) = some (PySem.W.instObj C s.heap.objs.size) := by
    have := Heap.get?_push_size (s.heap.push PySem.W.emptyDict) (o := PySem.W.instObj C s.heap.objs.size) rfl
    rwa [Heap.size_push] at this
  have e3 : (s.heap.push PySem.W.emptyDict).Ns s.heap.objs.size (fun _ => none) := ⟨PySem.W.emptyDict, #[], _, e1, rfl, (fun e he => absurd he (by simp)), fun _ => rfl⟩
  have I1 := I.laid (a := s.heap.objs.size) (o := .own (s.heap.objs.size + 1)) (h' := s.heap.push PySem.W.emptyDict) (t' := s.toks) (fun b u q => Heap.get?_push_of_some _ q) (Nat.le_refl _) ⟨_, e1⟩
  refine I1.laid (a := s.heap.objs.size + 1) (o := .ins C s.heap.objs.size []) (t' := s.toks) (fun b u q => Heap.get?_push_of_some _ q) (Nat.le_of_eq (Heap.size_push _ _)) ?_
  have ne : s.heap.objs.size ≠ s.heap.objs.size + 1 := Nat.ne_of_lt (Nat.lt_succ_self _)
  refine ⟨by rw [upd_ne ne, upd_same], Nat.zero_le _, ne, e2, fun _ => none, (Heap.Ns1.of_empty e3).at fun o q => Heap.get?_push_of_some _ q, fun _ => True.intro, fun y hy => absurd rfl hy⟩

end

section
variable {X : Cx} {o e value : Expr} {f : Str} {pos pos' tpos : Pos} {ta tv : TE}
end

section
variable {X : Cx} {pins : List (Addr × Obj)} {σ : St} {H : Hp} {s : Shared} {A : Around} {E : Value → Shared → Prop} {Q : Value → Shared → Prop} {c : Value} {b : Bool}
inductive TyOf (K : PySem.W.Frag) (H : Hp) : V → Value → Prop where
  | non : TyOf K H .non (.type "NoneType")
  | bl (x : Bool) : TyOf K H (.bl x) (.type "bool")
  | int (i : Int) : TyOf K H (.int i) (.type "int")
  | str (x : Str) : TyOf K H (.str x) (.type "str")
  | flt (x : UInt64) : TyOf K H (.flt x) (.type "float")
  | lst {a : Addr} {xs : List V} (e : H a = some (.lst xs)) : TyOf K H (.ref a) (.type "list")
  | frz {a : Addr} {o : Obj} {xs : List V} (e : H a = some (.frz o (.lst xs))) : TyOf K H (.ref a) (.type "list")
  | tup {a : Addr} {xs : List V} (e : H a = some (.tup xs)) : TyOf K H (.ref a) (.type "tuple")
  | dK {a : Addr} {kvs : List (Key × V)} (e : H a = some (.dK kvs)) : TyOf K H (.ref a) (.type "dict")
  | dT {a : Addr} {kvs : List (List Key × V)} (e : H a = some (.dT kvs)) : TyOf K H (.ref a) (.type "dict")
  | ins {a C dx : Addr} {fs : List (Str × V)} (e : H a = some (.ins C dx fs)) (cl : Cls K C) (ha : PySem.W.findIn K (.ref C) "__class__" = some (some (.builtin "object.__class__")))
      (hn : PySem.W.specialIn K (.builtin "object.__class__") "__get__" = some (some (.builtin "getset_descriptor.__get__"))) (htk : PySem.W.takesIn K (.builtin "object.__class__") = some true)
      (hm : PySem.W.mroIn K C (.type "object") = some true) : TyOf K H (.ref a) (.ref C)
theorem isinst_ok {x : V} {u t : Value} (I : Inv X pins σ H s) (rx : RelV x u) (ty : TyOf X.K H x t) (e : PySem.W.kitOne X.K t c = some b) (h : ∀ tk, Q (.bool b) { s with toks := tk }) :
    wpAny (model X.prog X.w) A (call (.builtin "isinstance") [u, c]) Q E s := by
  cases ty with
  | non => cases (show u = Value.none from rx); exact PySem.W.kia_one PySem.W.kitx_none I.kIn True.intro e (fun z => nomatch z) h
  | bl y => cases (show u = Value.bool y from rx); exact PySem.W.kia_one PySem.W.kitx_bool I.kIn True.intro e (fun z => nomatch z) h
  | int i => obtain ⟨t, q⟩ := (show ∃ t, u = Value.int i t from rx); cases q; exact PySem.W.kia_one PySem.W.kitx_int I.kIn True.intro e (fun z => nomatch z) h
  | str y => obtain ⟨t, q⟩ := (show ∃ t, u = Value.str y t from rx); cases q; exact PySem.W.kia_one PySem.W.kitx_str I.kIn True.intro e (fun z => nomatch z) h
  | flt y => obtain ⟨t, q⟩ := (show ∃ t, u = Value.float y t from rx); cases q; exact PySem.W.kia_one PySem.W.kitx_float I.kIn True.intro e (fun z => nomatch z) h
  | @lst a xs ea =>
    cases (show u = Value.ref a from rx)
    obtain ⟨_, _, n, _, h1⟩ := (show ObjOk X.prog X.w H s.heap a (.lst xs) from I.hok a _ ea)
    exact PySem.W.kia_one PySem.W.kitx_list I.kIn ⟨_, h1, rfl⟩ e (fun z => nomatch z) h
  | @frz a ob xs ea =>
    cases (show u = Value.ref a from rx)
    obtain ⟨_, _, _, n, _, h1⟩ := (show ObjOk X.prog X.w H s.heap a (.frz ob (.lst xs)) from I.hok a _ ea)
    exact PySem.W.kia_one PySem.W.kitx_list I.kIn ⟨_, h1, rfl⟩ e (fun z => nomatch z) h
  | @tup a xs ea =>
    cases (show u = Value.ref a from rx)
    obtain ⟨_, _, _, p⟩ := (show ObjOk X.prog X.w H s.heap a (.tup xs) from I.hok a _ ea)
    obtain ⟨o, h1, h2, _⟩ := p
    exact PySem.W.kia_one PySem.W.kitx_tuple I.kIn ⟨o, h1, h2⟩ e (fun z => nomatch z) h
  | @dK a kvs ea =>
    cases (show u = Value.ref a from rx)
    obtain ⟨_, _, vs, _, p⟩ := (show ObjOk X.prog X.w H s.heap a (.dK kvs) from I.hok a _ ea)
    obtain ⟨o, es, ep, h1, h2, _⟩ := p
    exact PySem.W.kia_one PySem.W.kitx_dict I.kIn ⟨o, h1, h2.1⟩ e (fun z => nomatch z) h
  | @dT a kvs ea =>
    cases (show u = Value.ref a from rx)
    obtain ⟨_, _, xs, _, o, es, ep, h1, h2, _⟩ := (show ObjOk X.prog X.w H s.heap a (.dT kvs) from I.hok a _ ea)
    exact PySem.W.kia_one PySem.W.kitx_dict I.kIn ⟨o, h1, h2.1⟩ e (fun z => nomatch z) h
  | @ins a C dx fs ea cl ha hn htk hm =>
    cases (show u = Value.ref a from rx)
    obtain ⟨mA, O, _⟩ := ins_get I.hok ea
    obtain ⟨od, J, _⟩ := O.look
    exact PySem.W.kia_one (PySem.W.kitx_own (cl.get _) cl.hd ha hn htk hm) I.kIn J e (fun z => nomatch z) h
end
end L2

namespace L2
open PySem PySem.Spec PyProof.Rows

structure Room (k : Nat) (A : Around) : Prop where
  hd : A.handled = none
  dp : A.depth + 3 * k + 5 < recursionLimit
  un : A.units + 16 * k + 200 < cLine
theorem Room.mono {j k : Nat} {A : Around} (r : Room k A) (h : j ≤ k) : Room j A := ⟨r.hd, by have := r.dp; omega, by have := r.un; omega⟩
theorem Room.deeper {k : Nat} {A : Around} (r : Room (k + 1) A) (env : Env) : Room k (A.deeper env) :=
  ⟨r.hd, by have := r.dp; show A.depth + 1 + 3 * k + 5 < _; omega, by have := r.un; show A.units + 3 + 16 * k + 200 < _; omega⟩
theorem Room.depth {k : Nat} {A : Around} (r : Room k A) : A.depth < recursionLimit := by have := r.dp; omega
theorem Room.units {k : Nat} {A : Around} (r : Room k A) : A.units + 64 < cLine := by have := r.un; omega
def tNil : TA := fun _ H Q => Q [] H
def tCons (ta : TE) (tr : TA) : TA := fun σ H Q => ta σ H fun x H1 => tr σ H1 fun xs H2 => Q (x :: xs) H2
section
variable {X : Cx} {e : Expr} {es : List Expr} {te : TE} {t : TA} {pos : Pos}
theorem pa_nil : PA X [] tNil := fun _ _ _ _ H Q I h => Calls.spliced_nil ⟨[], H, I, .nil, h⟩
theorem pa_cons (ha : PE X e te) (hr : PA X es t) (hs : starEach (e :: es) X.env = (false, eval e X.env) :: starEach es X.env := by rfl) : PA X (e :: es) (tCons te t) := by
  intro pos pins s σ H Q I h
  rw [hs]
  show wpAny _ _ (spliced ((false, eval e X.env) :: backTo pos (starEach es X.env))) _ _ s
  refine Calls.spliced_cons (thn (ha pins s σ H _ I h) fun u s1 ⟨x, H1, I1, r1, q1⟩ => ?_)
  exact thn (hr pos pins s1 σ H1 _ I1 q1) fun us s2 ⟨xs, H2, I2, r2, q2⟩ => ⟨x :: xs, H2, I2, .cons r1 r2, q2⟩

def tLst (t : TA) : TE := fun σ H Q => t σ H fun xs H1 => xs.length ≤ sizeLine ∧ ∀ p, H1 p = none → Q (.ref p) (upd H1 p (.lst xs))
theorem pe_lst (h : PA X es t) : PE X (.List es pos) (tLst t) := by
  intro pins s σ H Q I hq
  refine wpAny_List_spliced (thn (h pos pins s σ H _ I hq) fun us s1 ⟨xs, H1, I1, r, z, q⟩ => ⟨by rw [← r.length]; exact z, ?_⟩)
  have hf : H1 s1.heap.objs.size = none := I1.hok.fresh (Nat.le_refl _)
  refine ⟨.ref s1.heap.objs.size, upd H1 s1.heap.objs.size (.lst xs), I1.laid (t' := s1.toks) (fun b u e => Heap.get?_push_of_some _ e) (Nat.le_refl _) ?_, rfl, q _ hf⟩
  exact ⟨z, us, 0, r, Heap.get?_push_size _ rfl⟩
end

abbrev Sp := List V → Hp → VK → XK → Prop
abbrev CXT := List Env → Hp → Shared → XK → Value → Shared → Prop

structure Env0 (P : Program) (w : World) (K : PySem.W.Frag) (mg : Str → Option Value) (base : Heap) (A : Around) (outer : List Env) (s : Shared) (H : Hp) : Prop where
  frames : A.frames = some outer
  mod : Mod K mg base
  bs : ∀ b o, base.get? b = some o → s.heap.get? b = some o ∧ H b = none
  bsz : base.objs.size ≤ s.heap.objs.size
  funs : s.heap.FunFrames base outer
  frf : ∀ b ∈ frs outer, H b = none
  hok : HOk P w H s.heap
  bare : AllBare s.gens
def CE (outer : List Env) (P : Program) (w : World) (H : Hp) (s : Shared) (Q : VK) (u : Value) (s' : Shared) : Prop :=
  ∃ v H', s'.os = s.os ∧ AllBare s'.gens ∧ Un (frs outer) [] H H' s.heap s'.heap ∧ HOk P w H' s'.heap ∧ RelV v u ∧ Q v H'
def CR (CX : CXT) (outer : List Env) (P : Program) (w : World) (H : Hp) (s : Shared) (Q : VK) (E : XK) (r : Result) (s' : Shared) : Prop :=
  match r with
  | .ok (.ret u) => CE outer P w H s Q u s'
  | .ok _ => False
  | .error e => CX outer H s E e s'
structure FnOk (P : Program) (w : World) (K : PySem.W.Frag) (mg : Str → Option Value) (base : Heap) (CX : CXT) (k : Nat) (f : Addr) (fd : FuncData) (ps : List Str) (sp : Sp) : Prop where
  len : ∀ vs H Q E, sp vs H Q E → vs.length = ps.length
  run : ∀ (A : Around) (outer : List Env) (s : Shared) (H : Hp) (args : Args) (us : List Value) (vs : List V) (Q : VK) (E : XK), Room k A → Env0 P w K mg base A outer s H → BindsTo s fd args (ps.zip us) → Vals vs us → sp vs H Q E →
    codeAny (model P w) A (.call (.ref f) args) (CR CX outer P w H s Q E) s
theorem FnOk.mono {P : Program} {w : World} {K : PySem.W.Frag} {mg : Str → Option Value} {base : Heap} {CX : CXT} {j k : Nat} {f : Addr} {fd : FuncData} {ps : List Str} {sp : Sp} (F : FnOk P w K mg base CX j f fd ps sp) (h : j ≤ k) :
    FnOk P w K mg base CX k f fd ps sp := ⟨F.len, fun A outer s H args us vs Q E hr => F.run A outer s H args us vs Q E (hr.mono h)⟩
section
variable {X : Cx} {pins : List (Addr × Obj)} {σ : St} {H : Hp} {s s' : Shared}
theorem Inv.env0 (I : Inv X pins σ H s) : Env0 X.prog X.w X.K X.mg X.base X.A X.stack s H :=
  ⟨I.ok.frames, I.ok.mod, I.bs, Nat.le_trans I.ok.bsz I.sz, I.stack, I.stkFree, I.hok, I.bare⟩
theorem Inv.after {Q : VK} {u : Value} (I : Inv X pins σ H s) (h : CE X.stack X.prog X.w H s Q u s') : EP X pins σ Q u s' := by
  obtain ⟨v, H', os, bare, un, hok, r, q⟩ := h
  obtain ⟨hh, g, d, t, os'⟩ := s'
  obtain rfl : os' = s.os := os
  exact ⟨v, H', I.call (h' := hh) (g' := g) (d' := d) (t' := t) (ch := []) un hok bare (fun b z => absurd z (by simp)), r, q⟩
end

def tCall (sp : Sp) (dvs : List V) (E : XK) (t : TA) : TE := fun σ H Q => t σ H fun vs H1 => sp (vs ++ dvs) H1 Q E
def Binds (K : PySem.W.Frag) (fd : FuncData) (ps : List Str) (ds : List Value) : Prop :=
  ∀ (s : Shared) (us : List Value), K.In s.heap → (us ++ ds).length = ps.length → BindsTo s fd ⟨us, []⟩ (ps.zip (us ++ ds))
theorem Binds.all {K : PySem.W.Frag} {fd : FuncData} {ps : List Str} (h : ∀ us : List Value, us.length = ps.length → bindArgs fd ⟨us, []⟩ = pure (ps.zip us)) : Binds K fd ps [] := fun s us _ hl => by
  rw [List.append_nil] at hl ⊢
  exact .of_eq (h us hl)

def Passes (CX : CXT) (X : Cx) (E : XK) : Prop := ∀ (pins : List (Addr × Obj)) (σ : St) (H : Hp) (s : Shared) (e : Value) (s' : Shared), Inv X pins σ H s → CX X.stack H s E e s' → X.xe e s'

section
variable {X : Cx} {CX : CXT} {k : Nat} {f C : Addr} {fd : FuncData} {ps : List Str} {sp : Sp} {dvs : List V} {ds : List Value} {E : XK} {x m : Str} {p pos apos : Pos} {e o : Expr} {es : List Expr} {ta : TE} {t : TA}

theorem run_fn {pins : List (Addr × Obj)} {σ : St} {H : Hp} {s : Shared} {Q : VK} {us : List Value} {vs : List V} (F : FnOk X.prog X.w X.K X.mg X.base CX k f fd ps sp) (hr : Room k X.A) (hb : Binds X.K fd ps ds) (hd : Vals dvs ds) (hx : Passes CX X E)
    (I : Inv X pins σ H s) (r : Vals vs us) (h : sp (vs ++ dvs) H Q E) : wpAny (model X.prog X.w) X.A (call (.ref f) us) (EP X pins σ Q) X.xe s := by
  have r2 : Vals (vs ++ dvs) (us ++ ds) := r.append hd
  have hl : (us ++ ds).length = ps.length := by rw [← r2.length]; exact F.len _ _ _ _ h
  refine wpAny_call (codeAny_mono (F.run X.A X.stack s H ⟨us, []⟩ (us ++ ds) (vs ++ dvs) Q E hr I.env0 (hb s us I.kIn hl) r2 h) fun r s' hq => ?_)
  cases r with
  | error e => exact hx pins σ H s e s' I hq
  | ok fl =>
    cases fl with
    | ret u => exact I.after hq
    | next => exact False.elim hq
    | brk => exact False.elim hq
    | cont => exact False.elim hq

theorem pe_call (F : FnOk X.prog X.w X.K X.mg X.base CX k f fd ps sp) (hr : Room k X.A) (hg : Gl X x) (hm : X.mg x = some (.ref f)) (hk : PySem.W.keepIn X.K (.ref f) = true) (hb : Binds X.K fd ps ds) (hd : Vals dvs ds) (hx : Passes CX X E)
    (ha : PA X (e :: es) t) (hdb : (x == ("__debug__" : Str)) = false := by decide) (he : starEach (e :: es) X.env = (false, eval e X.env) :: starEach es X.env := by rfl) (hpl : (backTo pos (starEach es X.env)).any (·.1) = false := by rfl) :
    PE X (.Call (.Name x p) (e :: es) [] pos) (tCall sp dvs E t) := by
  intro pins s σ H Q I h
  refine wpAny_Call_Name_kw (ld_glob I hg hm ?_ hdb)
  refine PySem.W.callWith_K (h₀ := X.base) I.ok.mod.kin hk (thn (ha pos pins s σ H _ I h) fun us s1 ⟨vs, H1, I1, r, q⟩ => ⟨I1.kIn, ?_⟩) he hpl
  exact run_fn F hr hb hd hx I1 r q
end

section
variable {X : Cx} {CX : CXT} {k : Nat} {f C : Addr} {fd : FuncData} {ps ks : List Str} {sp : Sp} {E : XK} {x m : Str} {p pos apos kpos : Pos} {e o : Expr} {es : List Expr} {kws : List Keyword} {te ta : TE} {t tk : TA} {nm : Option Str}
variable {g : List Value → List Value → List Value} {gV : List V → List V → List V}
end

structure FnScope (N P : List Str) (sc : Scope) : Prop where
  kind : sc.kind = .function
  co : sc.isCoroutine = false
  gen : sc.isGenerator = false
  nd : N.Nodup
  pre : N.take P.length = P
  par : ∀ x ∈ P, sc.names.lookup x = some .local ∨ sc.names.lookup x = some .cell
  nofree : ∀ y ∈ sc.names, y.2 ≠ .free

theorem bindL_out {kindOf : Str → Option NameKind} {x : Str} : ∀ {binds : List (Str × Value)} {m : Str → Option Value}, (∀ v, (x, v) ∉ binds) → bindL kindOf binds m x = m x
  | [], _, _ => rfl
  | (n, v) :: r, m, h => by
    unfold bindL
    rw [bindL_out fun w hw => h w (List.mem_cons_of_mem _ hw)]
    split
    · have : x ≠ n := by rintro rfl; exact h v List.mem_cons_self
      simp [this]
    · rfl
theorem bindC_out {kindOf : Str → Option NameKind} {x : Str} : ∀ {binds : List (Str × Value)} {m : Str → Option Value}, (∀ v, (x, v) ∉ binds) → bindC kindOf binds m x = m x
  | [], _, _ => rfl
  | (n, v) :: r, m, h => by
    unfold bindC
    rw [bindC_out fun w hw => h w (List.mem_cons_of_mem _ hw)]
    split
    · rfl
    · have : x ≠ n := by rintro rfl; exact h v List.mem_cons_self
      simp [this]
theorem bindL_get {kindOf : Str → Option NameKind} {x : Str} {v : Value} : ∀ {P : List Str} {vs : List Value} {i : Nat} {m : Str → Option Value}, P.Nodup → P[i]? = some x → vs[i]? = some v → kindOf x = some .local →
    bindL kindOf (P.zip vs) m x = some v
  | [], _, _, _, _, h, _, _ => by simp at h
  | _ :: _, [], _, _, _, _, h, _ => by simp at h
  | p :: P, w :: vs, 0, m, nd, h1, h2, hk => by
    simp at h1 h2; subst h1; subst h2
    show bindL kindOf ((p, w) :: P.zip vs) m p = _
    unfold bindL
    rw [bindL_out fun v hv => (List.nodup_cons.mp nd).1 (List.of_mem_zip hv).1, if_pos hk]
    simp
  | p :: P, w :: vs, i + 1, m, nd, h1, h2, hk => by
    show bindL kindOf ((p, w) :: P.zip vs) m x = _
    unfold bindL
    exact bindL_get (i := i) (List.nodup_cons.mp nd).2 (by simpa using h1) (by simpa using h2) hk
theorem bindC_get {kindOf : Str → Option NameKind} {x : Str} {v : Value} : ∀ {P : List Str} {vs : List Value} {i : Nat} {m : Str → Option Value}, P.Nodup → P[i]? = some x → vs[i]? = some v → kindOf x ≠ some .local →
    bindC kindOf (P.zip vs) m x = some v
  | [], _, _, _, _, h, _, _ => by simp at h
  | _ :: _, [], _, _, _, _, h, _ => by simp at h
  | p :: P, w :: vs, 0, m, nd, h1, h2, hk => by
    simp at h1 h2; subst h1; subst h2
    show bindC kindOf ((p, w) :: P.zip vs) m p = _
    unfold bindC
    rw [bindC_out fun v hv => (List.nodup_cons.mp nd).1 (List.of_mem_zip hv).1, if_neg hk]
    simp
  | p :: P, w :: vs, i + 1, m, nd, h1, h2, hk => by
    show bindC kindOf ((p, w) :: P.zip vs) m x = _
    unfold bindC
    exact bindC_get (i := i) (List.nodup_cons.mp nd).2 (by simpa using h1) (by simpa using h2) hk

def start (N : List Str) (vs : List V) : St := vs.map some ++ List.replicate (N.length - vs.length) none

def cxOf (CX : CXT) (P : Program) (w : World) (K : PySem.W.Frag) (mg : Str → Option Value) (base : Heap) (N : List Str) (qual : Str) (scope : Scope) (f : Addr) (cd : Value) (A : Around) (outer : List Env) (s : Shared) (H : Hp) (E : XK) : Cx where
  prog := P
  w := w
  K := K
  mg := mg
  base := base
  A := A.deeper (envOfC qual scope s.heap.objs.size f cd)
  N := N
  s₀ := s
  H₀ := H
  env := envOfC qual scope s.heap.objs.size f cd
  outer := outer
  stack := envOfC qual scope s.heap.objs.size f cd :: outer
  ex := []
  calm := true
  fn := fun _ => true
  pn := []
  xe := fun e s' => wpAny (model P w) (A.deeper (envOfC qual scope s.heap.objs.size f cd)) (leaving (envOfC qual scope s.heap.objs.size f cd) e) (fun _ s'' => CX outer H s E e s'') (fun e' s'' => CX outer H s E e' s'') s'

theorem cell_has {sc : Scope} {n : Nat} {x : Str} (h : sc.names.lookup x = some .cell) : ∃ c, (cellsFrom n sc.names []).lookup x = some c := by
  have q := PySem.W.cellsFrom_some sc.names n [] (.inl h)
  exact Option.isSome_iff_exists.mp q

theorem inv_start {CX : CXT} {P : Program} {w : World} {K : PySem.W.Frag} {mg : Str → Option Value} {base : Heap} {N ps : List Str} {qual : Str} {scope : Scope} {f : Addr} {cd : Value} {A : Around} {outer : List Env} {s s1 : Shared} {H : Hp} {E : XK} {us : List Value} {vs : List V}
    (S : FnScope N ps scope) (hd : A.handled = none) (e0 : Env0 P w K mg base A outer s H) (hl : vs.length = ps.length) (r : Vals vs us)
    (x : InCallC s s.heap.objs.size (bindL (envOfC qual scope s.heap.objs.size f cd).kindOf (ps.zip us) fun _ => none) (cellsFrom (s.heap.objs.size + 1) scope.names []) (bindC (envOfC qual scope s.heap.objs.size f cd).kindOf (ps.zip us) fun _ => none) s1) :
    Inv (cxOf CX P w K mg base N qual scope f cd A outer s H E) [] (start N vs) H s1 := by
  have hpl : ps.length ≤ N.length := by have := congrArg List.length S.pre; rw [List.length_take] at this; omega
  obtain ⟨h1, tk, rfl, hk⟩ := x.done
  have noA : ∀ b : Addr, b ∉ (cxOf CX P w K mg base N qual scope f cd A outer s H E).ex := fun b z => absurd (show b ∈ ([] : List Addr) from z) (by simp)
  refine ⟨⟨e0.mod, S.kind, rfl, rfl, Nat.le_refl _, fun y z c h1 h2 => ?_, fun y hy => ?_, fun y c _ h => ?_, fun _ => hd, Around.frames_deeper e0.frames, .inr ⟨rfl, rfl⟩, fun b z => absurd z (noA b), e0.bs, e0.bsz, fun b _ _ => noA b, fun b z => absurd z (noA b), e0.funs, e0.frf⟩,
    rfl, e0.bare, Un.kept hk, ⟨_, x.toInCall.ns, fun i y v h1 h2 h3 => ?_⟩, fun y c h => ⟨_, x.cell y c h⟩, e0.hok.fresh (Nat.le_refl _), fun y c h => ?_, fun p hp => absurd (show p ∈ ([] : List (Addr × Obj)) from hp) (by simp), e0.hok.kept hk, ?_⟩
  · exact name_of_addr x.apart (PySem.mem_of_lookup h1) (PySem.mem_of_lookup h2)
  · have hy : scope.names.lookup y = some .cell ∨ scope.names.lookup y = some .free := hy
    rcases hy with hy | hy
    · exact cell_has hy
    · exact absurd rfl (S.nofree _ (PySem.mem_of_lookup hy))
  · exact Nat.le_of_lt (x.above y c (PySem.mem_of_lookup h))
  · have hi : i < vs.length := by
      unfold start at h2
      by_cases hi : i < vs.length
      · exact hi
      · rw [List.getElem?_append_right (by simpa using hi)] at h2
        rw [List.getElem?_replicate] at h2
        split at h2 <;> cases h2
    have ha : vs[i]? = some v := by
      unfold start at h2
      rw [List.getElem?_append_left (by simpa using hi), List.getElem?_map] at h2
      cases e : vs[i]? with
      | none => rw [e] at h2; cases h2
      | some a => rw [e] at h2; cases h2; rfl
    obtain ⟨u, hu, rv⟩ := r.get ha
    have hp : ps[i]? = some y := by
      rw [← S.pre, List.getElem?_take_of_lt (by omega)]; exact h1
    have ndP : ps.Nodup := by rw [← S.pre]; exact S.nd.sublist (List.take_sublist _ _)
    refine ⟨u, rv, ?_⟩
    rcases S.par y (List.mem_of_getElem? hp) with k | k
    · exact .inl ⟨k, bindL_get ndP hp hu k⟩
    · obtain ⟨c, e⟩ := cell_has (n := s.heap.objs.size + 1) k
      refine .inr ⟨.inl k, c, e, ?_⟩
      have q := x.cell y c e
      rw [bindC_get ndP hp hu (by show scope.names.lookup y ≠ _; rw [k]; decide)] at q
      exact q
  · exact e0.hok.fresh (Nat.le_of_lt (x.above y c (PySem.mem_of_lookup h)))
  · unfold start
    show _ = N.length
    rw [List.length_append, List.length_map, List.length_replicate]
    omega

theorem fn_of {CX : CXT} {P : Program} {w : World} {K : PySem.W.Frag} {mg : Str → Option Value} {base : Heap} {k : Nat} {f : Addr} {name qual : Str} {params : Arguments} {body : List Stmt} {scope : Scope} {dV kV doc pm cdv ct oc : Value} {an od : Option Addr}
    {osl : Array (Option Value)} {N ps : List Str} {sp : Sp} (lk : K.lookup f = some ⟨oc, od, .func (PySem.W.fnOf name qual params body scope dV kV doc pm an cdv ct), osl⟩) (hcd : PySem.W.codeIn K cdv qual = true) (S : FnScope N ps scope)
    (len : ∀ vs H Q E, sp vs H Q E → vs.length = ps.length)
    (hbody : ∀ (A : Around) (outer : List Env) (s : Shared) (H : Hp) (vs : List V) (Q : VK) (E : XK), Room k (A.deeper (envOfC qual scope s.heap.objs.size f cdv)) → sp vs H Q E →
      ∃ t, PSs (cxOf CX P w K mg base N qual scope f cdv A outer s H E) body t ∧ t { nx := fun _ H' => Q .non H', rt := Q } (start N vs) H) :
    FnOk P w K mg base CX (k + 1) f (PySem.W.fnOf name qual params body scope dV kV doc pm an cdv ct) ps sp := by
  refine ⟨len, fun A outer s H args us vs Q E hr e0 hb r hsp => ?_⟩
  have hl := len _ _ _ _ hsp
  have KX : K.In s.heap := e0.mod.kin.keeps fun b o e => (e0.bs b o e).1
  have lim : s.heap.NoLimit := e0.mod.nolimit.keeps fun b o e => (e0.bs b o e).1
  have hkind : ∀ y ∈ ps.zip us, scope.names.lookup y.1 = some .local ∨ (scope.names.lookup y.1 = some .cell ∧ ((cellsFrom (s.heap.objs.size + 1) scope.names []).lookup y.1).isSome = true) := fun ⟨n, v⟩ hy => by
    rcases S.par n (List.of_mem_zip hy).1 with q | q
    · exact .inl q
    · exact .inr ⟨q, PySem.W.cellsFrom_some _ _ _ (.inl q)⟩
  refine codeAny_call_function hr.depth (KX _ _ lk) rfl S.co S.gen rfl (PySem.W.codeRec_of KX hcd) (hb _ _ _ _ ?_)
  refine wpAny_newFunctionEnv_cells S.kind hkind fun env he s1 x => ?_
  subst he
  refine ⟨lim.keeps x.toInCall.keep, codeAny_func ?_⟩
  obtain ⟨t, ht, hq⟩ := hbody A outer s H vs Q E (hr.deeper _) hsp
  have I : Inv (cxOf CX P w K mg base N qual scope f cdv A outer s H E) [] (start N vs) H s1 := inv_start S hr.hd e0 hl r x
  refine wpAny_mono (ht [] s1 (start N vs) H _ I hq) (fun fl s' hs => ?_) fun e s' hs => hs
  have fin : ∀ {σ' : St} {H' : Hp} {v : V} {u : Value}, Inv (cxOf CX P w K mg base N qual scope f cdv A outer s H E) [] σ' H' s' → RelV v u → Q v H' → CE outer P w H s Q u s' :=
    fun {σ' H' v u} J rv q => ⟨v, H', J.os, J.bare, J.base, J.hok, rv, q⟩
  cases fl with
  | ret u =>
    obtain ⟨v, σ', H', J, rv, q⟩ := hs
    exact fin J rv q
  | next =>
    obtain ⟨σ', H', J, q⟩ := hs
    exact fin (v := V.non) (u := Value.none) J rfl q
  | brk =>
    obtain ⟨_, _, _, q⟩ := hs
    exact False.elim q
  | cont =>
    obtain ⟨_, _, _, q⟩ := hs
    exact False.elim q
end L2

namespace L2
open PySem PySem.Spec PyProof.Rows
section
variable {X : Cx} {x : Str} {p pos : Pos} {e : Expr} {es : List Expr} {t : TA} {id T : String} {r : List V → Hp → VK → Prop}

def tCB (r : List V → Hp → VK → Prop) (t : TA) : TE := fun σ H Q => t σ H fun vs H1 => r vs H1 Q
theorem pe_callB (hc : CallR X (.builtin id) r) (hg : Gl X x) (hm : X.mg x = none) (hv : bootBuiltins x = some (.builtin id)) (ha : PA X (e :: es) t) (hn : x ≠ "__name__" := by decide) (hdb : (x == ("__debug__" : Str)) = false := by decide)
    (he : starEach (e :: es) X.env = (false, eval e X.env) :: starEach es X.env := by rfl) (hpl : (backTo pos (starEach es X.env)).any (·.1) = false := by rfl) : PE X (.Call (.Name x p) (e :: es) [] pos) (tCB r t) := by
  intro pins s σ H Q I h
  refine wpAny_Call_Name_kw (ld_blt I hg hm hv ?_ hn hdb)
  exact PyProof.Rows.callWith_builtin1 (thn (ha pos pins s σ H _ I h) fun us s1 ⟨vs, H1, I1, r1, q1⟩ => hc pins s1 σ H1 vs us Q I1 r1 q1) he hpl
theorem pe_callTy (hc : CallR X (.type T) r) (hg : Gl X x) (hm : X.mg x = none) (hv : bootBuiltins x = some (.type T)) (ha : PA X (e :: es) t) (hn : x ≠ "__name__" := by decide) (hdb : (x == ("__debug__" : Str)) = false := by decide)
    (he : starEach (e :: es) X.env = (false, eval e X.env) :: starEach es X.env := by rfl) (hpl : (backTo pos (starEach es X.env)).any (·.1) = false := by rfl) : PE X (.Call (.Name x p) (e :: es) [] pos) (tCB r t) := by
  intro pins s σ H Q I h
  refine wpAny_Call_Name_kw (ld_blt I hg hm hv ?_ hn hdb)
  exact PyProof.Rows.callWith_type1 (thn (ha pos pins s σ H _ I h) fun us s1 ⟨vs, H1, I1, r1, q1⟩ => hc pins s1 σ H1 vs us Q I1 r1 q1) he hpl
end
end L2

namespace HT
open PySem PyProof.Rows

section
open PySem.SeqAt
open PySem.AutoSeq1 (wpAny_loadPart')
open PySem.MeetsSeq PySem.MeetsSeq2 PySem.MeetsSeq3

end

section
variable {prog : Program} {w : World} {A : Around} {E : Value → Shared → Prop} {s : Shared}

def sIx (n d : Nat) : Option Int → Nat
  | none => d
  | some v => if v < 0 then (v + (n : Int)).toNat else min v.toNat n
end
end HT

namespace L2
open PySem PySem.Spec PyProof.Rows

abbrev TO := St → Hp → (Option Int → Hp → Prop) → Prop
theorem intsAre_of {ns : List Int} : ∀ {us : List Value}, Vals (ns.map V.int) us → IntsAre us ns := by
  induction ns with
  | nil => intro us r; rw [List.map_nil] at r; cases r; exact .nil
  | cons n ns ih =>
    intro us r
    rw [List.map_cons] at r
    cases r with
    | cons r1 r2 =>
      obtain ⟨t, e⟩ := r1
      subst e
      exact .cons n t (ih r2)

section
variable {X : Cx} {e : Expr} {te : TE} {lo hi : Option Expr} {tl th : TO} {pos p2 : Pos}

def SlR (X : Cx) (r : V → Option Int → Option Int → Hp → VK → Prop) : Prop :=
  ∀ (pins : List (Addr × Obj)) (s : Shared) (σ : St) (H : Hp) (x : V) (v vl vu : Value) (lo hi : Option Int) (sl : Addr) (Q : VK), Inv X pins σ H s → RelV x v → s.heap.IsSliceOf sl vl vu .none → IsPart vl lo → IsPart vu hi → r x lo hi H Q →
    ∃ T id, typeLookup (.type T) "__getitem__" = pure (some (.builtin id)) ∧ s.TypeIs v T ∧ wpAny (model X.prog X.w) X.A (getItem v (.ref sl)) (EP X pins σ Q) X.xe s
def cutV (xs : List V) (lo hi : Option Int) : List V := (xs.drop (HT.sIx xs.length 0 lo)).take (HT.sIx xs.length xs.length hi - HT.sIx xs.length 0 lo)
theorem cutV_length (xs : List V) (lo hi : Option Int) : (cutV xs lo hi).length ≤ xs.length := by
  unfold cutV
  rw [List.length_take, List.length_drop]
  omega
end
end L2

namespace L2
open PySem PySem.Spec PyProof.Rows

def ixN (n : Nat) (i : Int) : Option Nat := if 0 ≤ i then (if i < n then some i.toNat else none) else if -(n : Int) ≤ i then some (i + n).toNat else none
def atI {α : Type} (xs : List α) (i : Int) : Option α := (ixN xs.length i).bind fun j => xs[j]?
theorem ixN_seq {n : Nat} {i : Int} {j : Nat} (h : ixN n i = some j) : seqIndex? i n = some j ∧ j < n ∧ -(n : Int) ≤ i ∧ i < n := by
  unfold ixN at h
  by_cases h0 : 0 ≤ i
  · rw [if_pos h0] at h
    by_cases h1 : i < n
    · rw [if_pos h1] at h
      have e : i.toNat = j := Option.some.inj h
      exact ⟨by rw [seqIndex_of h0 h1, e], by omega, by omega, h1⟩
    · rw [if_neg h1] at h; cases h
  · rw [if_neg h0] at h
    by_cases h1 : -(n : Int) ≤ i
    · rw [if_pos h1] at h
      have e : (i + n).toNat = j := Option.some.inj h
      exact ⟨by rw [seqIndex_neg (by omega) h1, e], by omega, h1, by omega⟩
    · rw [if_neg h1] at h; cases h
theorem atI_get {α : Type} {xs : List α} {i : Int} {v : α} (h : atI xs i = some v) : ∃ j, seqIndex? i xs.length = some j ∧ xs[j]? = some v ∧ j < xs.length ∧ -(xs.length : Int) ≤ i ∧ i < xs.length := by
  unfold atI at h
  cases e : ixN xs.length i with
  | none => rw [e] at h; cases h
  | some j =>
    rw [e] at h
    obtain ⟨h1, h2, h3, h4⟩ := ixN_seq e
    exact ⟨j, h1, h, h2, h3, h4⟩
theorem atI_nat {α : Type} {xs : List α} {j : Nat} {v : α} (h : xs[j]? = some v) : atI xs (j : Int) = some v := by
  have hj : j < xs.length := (List.getElem?_eq_some_iff.mp h).1
  have e : ixN xs.length (j : Int) = some j := by
    unfold ixN
    rw [if_pos (by omega), if_pos (by omega)]; simp
  unfold atI; rw [e]; exact h
theorem atI_last {α : Type} (xs : List α) (v : α) : atI (xs ++ [v]) (-1) = some v := by
  have hl : (xs ++ [v]).length = xs.length + 1 := by simp
  have e : ixN (xs ++ [v]).length (-1) = some xs.length := by
    unfold ixN
    rw [hl, if_neg (by decide), if_pos (by omega)]
    congr 1
    omega
  unfold atI
  rw [e]
  show (xs ++ [v])[xs.length]? = some v
  simp

def PlainIx (b : Expr) : Prop := ∀ o i, subscripted b false o i = operate [o, i] (getItem o i)
def IxR (X : Cx) (r : R2) : Prop :=
  ∀ (value slice : Expr) (pins : List (Addr × Obj)) (s : Shared) (σ : St) (H : Hp) (x y : V) (v u : Value) (Q : VK), Inv X pins σ H s → RelV x v → RelV y u → r x y H Q →
    subscripted slice false v u = operate [v, u] (getItem v u) → wpAny (model X.prog X.w) X.A (subscriptTail value slice v u) (EP X pins σ Q) X.xe s
def MtR (X : Cx) (id : String) (r : V → List V → Hp → VK → Prop) : Prop :=
  ∀ (pins : List (Addr × Obj)) (s : Shared) (σ : St) (H : Hp) (x : V) (xs : List V) (v : Value) (us : List Value) (Q : VK), Inv X pins σ H s → RelV x v → Vals xs us → r x xs H Q →
    wpAny (model X.prog X.w) X.A (call (.builtin id) (v :: us)) (EP X pins σ Q) X.xe s
section
variable {X : Cx} {a b : Expr} {ta tb : TE} {pos : Pos}
theorem pe_ix {r : R2} (hr : IxR X r) (ha : PE X a ta) (hb : PE X b tb) (hs : PlainIx b) : PE X (.Subscript a b pos) (tOp r ta tb) := by
  intro pins s σ H Q I h
  exact Subscript_ (binT ha hb I h fun v u s2 x y H2 I2 rx ry q => hr a b pins s2 σ H2 x y v u Q I2 rx ry q (hs _ _))

def rIxL (K : PySem.W.Frag) : R2 := fun x y H Q => ∃ p xs i v, x = .ref p ∧ y = .int i ∧ SqL K H p xs ∧ atI xs i = some v ∧ Q v H
def rIxT (K : PySem.W.Frag) : R2 := fun x y H Q => ∃ p xs i v, x = .ref p ∧ y = .int i ∧ SqT K H p xs ∧ atI xs i = some v ∧ Q v H
theorem ix_list : IxR X (rIxL X.K) := by
  intro value slice pins s σ H x y v u Q I rx ry h hs
  obtain ⟨p, xs, i, z, rfl, rfl, hq, he, q⟩ := h
  cases rx
  obtain ⟨t, rfl⟩ := ry
  obtain ⟨its, r, pl, hz⟩ := I.list hq
  obtain ⟨j, h1, h2, h3, h4, h5⟩ := atI_get he
  obtain ⟨w, ew, rw'⟩ := r.get h2
  have hl := r.length
  have hn := line63
  have fin : EP X pins σ Q w s := ⟨z, H, I, rw', q⟩
  by_cases h0 : 0 ≤ i
  · have hj : i.toNat = j := by
      rw [seqIndex_of h0 h5] at h1
      exact Option.some.inj h1
    exact item_listR pl.isList h0 (by omega) (by rw [hj]; simpa using ew) fin hs
  · have hj : (i + (its.toArray.size : Int)).toNat = j := by
      rw [seqIndex_neg (by omega) h4] at h1
      rw [List.size_toArray, ← hl]
      exact Option.some.inj h1
    exact subscriptTail_builtinR (x := w) pl.isList.typeIs slot_list_getitem.lookup
      (wpAny_getItem_list_neg (Q := fun r s' => r = w ∧ EP X pins σ Q r s') pl.isList (by omega) (by rw [List.size_toArray] <;> omega) (by omega) (by rw [hj]; simpa using ew) ⟨rfl, fin⟩) hs
theorem ix_tup : IxR X (rIxT X.K) := by
  intro value slice pins s σ H x y v u Q I rx ry h hs
  obtain ⟨p, xs, i, z, rfl, rfl, hq, he, q⟩ := h
  cases rx
  obtain ⟨t, rfl⟩ := ry
  obtain ⟨its, r, pl, hz⟩ := I.tuple hq
  obtain ⟨j, h1, h2, h3, h4, h5⟩ := atI_get he
  obtain ⟨w, ew, rw'⟩ := r.get h2
  have hl := r.length
  have hn := line63
  have fin : EP X pins σ Q w s := ⟨z, H, I, rw', q⟩
  exact subscriptTail_builtinR (x := w) pl.typeIs slot_tuple_getitem.lookup
    (getItem_tuple (j := j) (Q := fun r s' => r = w ∧ EP X pins σ Q r s') pl (by omega) (by omega) (by rw [List.size_toArray, ← hl]; exact h1) (by simpa using ew) ⟨rfl, fin⟩) hs
theorem slice_bounds (lo hi : Option Int) (n : Nat) : (sliceBounds lo hi none n).1 = ((HT.sIx n 0 lo : Nat) : Int) ∧ (sliceBounds lo hi none n).2.1 = ((HT.sIx n n hi : Nat) : Int) ∧ (sliceBounds lo hi none n).2.2 = 1 := by
  refine ⟨?_, ?_, rfl⟩
  · cases lo with
    | none => simp [sliceBounds, HT.sIx]
    | some i =>
      simp only [sliceBounds, HT.sIx, Option.getD_none, show (1 : Int) > 0 by decide, if_true]
      by_cases h : i < 0
      · simp only [h, if_true] <;> omega
      · simp only [h, if_false] <;> omega
  · cases hi with
    | none => simp [sliceBounds, HT.sIx]
    | some i =>
      simp only [sliceBounds, HT.sIx, Option.getD_none, show (1 : Int) > 0 by decide, if_true]
      by_cases h : i < 0
      · simp only [h, if_true] <;> omega
      · simp only [h, if_false] <;> omega
theorem slicePick_cut (its : List Value) (lo hi : Option Int) : slicePick its.toArray lo hi none = ((its.drop (HT.sIx its.length 0 lo)).take (HT.sIx its.length its.length hi - HT.sIx its.length 0 lo)).toArray := by
  obtain ⟨h1, h2, h3⟩ := slice_bounds lo hi its.toArray.size
  unfold slicePick
  rw [h1, h2, h3]
  simp only [sliceRange_one, pick_run, List.size_toArray] <;> rfl
def rSlL (K : PySem.W.Frag) : V → Option Int → Option Int → Hp → VK → Prop := fun x lo hi H Q => ∃ a xs, x = .ref a ∧ SqL K H a xs ∧ ∀ p, H p = none → Q (.ref p) (upd H p (.lst (cutV xs lo hi)))
theorem sl_list : SlR X (rSlL X.K) := by
  intro pins s σ H x v vl vu lo hi sl Q I rx hs pl pu h
  obtain ⟨a, xs, rfl, hx, q⟩ := h
  cases rx
  obtain ⟨its, r, ht, hz⟩ := I.list hx
  have hlen := r.length
  refine ⟨"list", _, slot_list_getitem.lookup, ht.isList.typeIs, ?_⟩
  refine wpAny_getItem_list_slice ht.isList hs pl pu .none (by simp) ?_ (by rw [List.size_toArray] <;> omega)
  rw [slicePick_cut, ← hlen]
  refine ⟨.ref s.heap.objs.size, _, I.laid (t' := s.toks) (o := .lst (cutV xs lo hi)) (fun b ob q => Heap.get?_push_of_some _ q) (Nat.le_refl _) ?_, rfl, q _ (I.hok.fresh (Nat.le_refl _))⟩
  exact ⟨Nat.le_trans (cutV_length xs lo hi) hz, _, 0, (r.drop (HT.sIx xs.length 0 lo)).take (HT.sIx xs.length xs.length hi - HT.sIx xs.length 0 lo), Heap.get?_push_size _ rfl⟩

theorem call_len_seq : CallR X (.builtin "len") (fun xs H Q => ∃ p ys, xs = [.ref p] ∧ (SqL X.K H p ys ∨ SqT X.K H p ys) ∧ Q (.int ys.length) H) := by
  intro pins s σ H xs us Q I r h
  obtain ⟨p, ys, rfl, hq, q⟩ := h
  obtain ⟨u, rfl, rx⟩ := vals1 r
  cases rx
  have hn := line63
  rcases hq with hq | hq
  · obtain ⟨its, r', pl, hz⟩ := I.list hq
    have hlen := r'.length
    exact Calls.call_len_list pl.isList (by simp only [List.size_toArray] <;> omega) ⟨.int ys.length, H, I.tok _, ⟨s.toks + 1, by rw [List.size_toArray, hlen]⟩, q⟩
  · obtain ⟨its, r', pl, hz⟩ := I.tuple hq
    have hlen := r'.length
    exact len_tuple pl (by simp only [List.size_toArray] <;> omega) ⟨.int ys.length, H, I.tok _, ⟨s.toks + 1, by rw [List.size_toArray, hlen]⟩, q⟩
theorem call_list_of : CallR X (.type "list") (fun xs H Q => ∃ p ys, xs = [.ref p] ∧ (SqL X.K H p ys ∨ SqT X.K H p ys) ∧ ∀ l, H l = none → Q (.ref l) (upd H l (.lst ys))) := by
  intro pins s σ H xs us Q I r h
  obtain ⟨p, ys, rfl, hq, q⟩ := h
  obtain ⟨u, rfl, rx⟩ := vals1 r
  cases rx
  have fin : ∀ (its : List Value), Vals ys its → ys.length ≤ sizeLine → ∀ (h' : Heap) (c' : Nat), (∀ b o', s.heap.get? b = some o' → h'.get? b = some o') →
      h'.get? s.heap.objs.size = some { cls := .type "list", dict := none, data := .seq its.toArray c', slots := #[] } → EP X pins σ Q (.ref s.heap.objs.size) { s with heap := h' } := fun its r' hz h' c' kp e =>
    ⟨.ref s.heap.objs.size, _, I.laid (t' := s.toks) kp (Nat.le_refl _) (show ObjOk X.prog X.w _ h' _ (.lst ys) from ⟨hz, its, c', r', e⟩), rfl, q _ (I.hok.fresh (Nat.le_refl _))⟩
  rcases hq with hq | hq
  · obtain ⟨its, r', pl, hz⟩ := I.list hq
    have hlen := r'.length
    obtain ⟨o, ho, hc, n, hd⟩ := pl.isList
    exact call_list_seq p (.inl rfl) ho hc hd (fun h' c' kp e => fin its r' hz h' c' kp e) (by simp only [List.size_toArray] <;> omega)
  · obtain ⟨its, r', pl, hz⟩ := I.tuple hq
    have hlen := r'.length
    obtain ⟨o, ho, hc, n, hd⟩ := pl
    exact call_list_seq p (.inr rfl) ho hc hd (fun h' c' kp e => fin its r' hz h' c' kp e) (by simp only [List.size_toArray] <;> omega)
theorem call_tuple_of : CallR X (.type "tuple") (fun xs H Q => ∃ p ys, xs = [.ref p] ∧ ((SqL X.K H p ys ∧ ∀ l, H l = none → Q (.ref l) (upd H l (.tup ys))) ∨ (SqT X.K H p ys ∧ Q (.ref p) H))) := by
  intro pins s σ H xs us Q I r h
  obtain ⟨p, ys, rfl, h⟩ := h
  obtain ⟨u, rfl, rx⟩ := vals1 r
  cases rx
  rcases h with ⟨hq, q⟩ | ⟨hq, q⟩
  · obtain ⟨its, r', pl, hz⟩ := I.list hq
    have hlen := r'.length
    refine call_tuple_list pl.isList (fun h' kp => ?_) (by simp only [List.size_toArray] <;> omega)
    have I1 : Inv X pins σ H { s with heap := h' } := I.kept (t' := s.toks) kp
    have I2 : Inv X pins σ (upd H h'.objs.size (.tup ys)) { s with heap := h'.push { cls := .type "tuple", data := .seq its.toArray } } :=
      I1.laid (t' := s.toks) (fun b o e => Heap.get?_push_of_some _ e) (Nat.le_refl _) (show ObjOk X.prog X.w _ _ _ (.tup ys) from ⟨hz, its, r', IsTup.new _ _⟩)
    exact ⟨.ref h'.objs.size, _, I2, rfl, q _ (I1.hok.fresh (Nat.le_refl _))⟩
  · obtain ⟨its, r', pl, hz⟩ := I.tuple hq
    exact call_tuple_same pl ⟨.ref p, H, I, rfl, q⟩

def tyV (K : PySem.W.Frag) (T : String) (x : V) (H : Hp) : Prop := match x with
  | .str _ => T = "str"
  | .int _ => T = "int"
  | .ref p => (T = "list" ∧ ∃ xs, SqL K H p xs) ∨ (T = "tuple" ∧ ∃ o, K.lookup p = some o ∧ o.cls = .type "tuple" ∧ o.dict = none) ∨
      (T = "dict" ∧ ((∃ kvs, H p = some (.dK kvs)) ∨ ∃ kvs, H p = some (.dT kvs))) ∨ (T = "set" ∧ ∃ S n, H p = some (.set S n))
  | _ => False
theorem tyV_is {pins : List (Addr × Obj)} {σ : St} {H : Hp} {s : Shared} {T : String} {x : V} {v : Value} (I : Inv X pins σ H s) (r : RelV x v) (ty : tyV X.K T x H) :
    s.TypeIs v T ∧ ∀ a, v = .ref a → ∃ ob, s.heap.get? a = some ob ∧ ob.dict = none := by
  cases x with
  | str z =>
    obtain ⟨t, rfl⟩ := r
    cases (show T = "str" from ty)
    exact ⟨typeIs_str s z t, fun _ e => nomatch e⟩
  | int i =>
    obtain ⟨t, rfl⟩ := r
    cases (show T = "int" from ty)
    exact ⟨typeIs_int s i t, fun _ e => nomatch e⟩
  | ref p =>
    cases r
    rcases ty with ⟨rfl, xs, hq⟩ | ⟨rfl, o, hk, hc, hd⟩ | ⟨rfl, hk⟩ | ⟨rfl, S, n, hk⟩
    · obtain ⟨its, _, pl, _⟩ := I.list hq
      refine ⟨pl.isList.typeIs, fun a e => ?_⟩
      cases e
      obtain ⟨o, n, e, c, hd, _⟩ := pl
      exact ⟨o, e, hd⟩
    · refine ⟨⟨o, I.kIn p o hk, hc⟩, fun a e => ?_⟩
      cases e
      exact ⟨o, I.kIn _ o hk, hd⟩
    · have z : ∃ o, s.heap.get? p = some o ∧ o.ExactDict := by
        rcases hk with ⟨kvs, hk⟩ | ⟨kvs, hk⟩
        · obtain ⟨_, _, _, _, o, _, _, e, ex, _⟩ := I.hok p _ hk
          exact ⟨o, e, ex⟩
        · obtain ⟨_, _, _, _, o, _, _, e, ex, _⟩ := I.hok p _ hk
          exact ⟨o, e, ex⟩
      obtain ⟨o, e, ex⟩ := z
      refine ⟨⟨o, e, ex.1⟩, fun a e2 => ?_⟩
      cases e2
      exact ⟨o, e, ex.2.1⟩
    · obtain ⟨o, _, _, _, e, ex, _⟩ := I.hok p _ hk
      refine ⟨⟨o, e, ex.1⟩, fun a e2 => ?_⟩
      cases e2
      exact ⟨o, e, ex.2.1⟩
  | _ => exact False.elim ty
def tBM0 (K : PySem.W.Frag) (T : String) (r : V → List V → Hp → VK → Prop) (to : TE) : TE := fun σ H Q => to σ H fun x H1 => tyV K T x H1 ∧ r x [] H1 Q
def tBM (K : PySem.W.Frag) (T : String) (r : V → List V → Hp → VK → Prop) (to : TE) (t : TA) : TE := fun σ H Q => to σ H fun x H1 => tyV K T x H1 ∧ t σ H1 fun xs H2 => r x xs H2 Q
variable {o e : Expr} {es : List Expr} {to : TE} {t : TA} {name : Str} {apos cpos : Pos} {T id : String} {r : V → List V → Hp → VK → Prop}
theorem pe_bm0 (pa : PlainAttrs T) (slot : Slot T name id) (hty : typeOf (.builtin id) = pure (.type "method_descriptor")) (hm : MtR X id r) (ho : PE X o to)
    (hbase : attributeBase o name X.env (eval o X.env) = eval o X.env := by rfl) (hline : (apos.endLine == cpos.line) = true := by rfl) : PE X (.Call (.Attribute o name apos) [] [] cpos) (tBM0 X.K T r to) := by
  intro pins s σ H Q I h
  refine wpAny_Call_method0_late hbase hline (thn (ho pins s σ H _ I h) fun v s1 ⟨x, H1, I1, r1, ty, q1⟩ => ?_)
  obtain ⟨h1, h2⟩ := tyV_is I1 r1 ty
  exact ⟨T, id, pa, slot, hty, h1, h2, Calls.callWith_builtin rfl (PySem.evalArgs_none (hm pins s1 σ H1 x [] v [] Q I1 r1 .nil q1))⟩
theorem pe_bm (pa : PlainAttrs T) (slot : Slot T name id) (hty : typeOf (.builtin id) = pure (.type "method_descriptor")) (hm : MtR X id r) (ho : PE X o to) (ha : PA X (e :: es) t)
    (hbase : attributeBase o name X.env (eval o X.env) = eval o X.env := by rfl)
    (hfew : ((backTo cpos (starEach (e :: es) X.env)).all (fun x => !x.1) && (backToKw cpos (keywordEach [] X.env)).all (fun x => x.1.isSome)
      && decide ((e :: es).length + ([] : List Keyword).length + (if ([] : List Keyword).isEmpty then 0 else 1) < 30)) = true := by rfl)
    (hline : (apos.endLine == cpos.line) = true := by rfl) (hs : starEach (e :: es) X.env = (false, eval e X.env) :: starEach es X.env := by rfl) (hplain : (backTo cpos (starEach es X.env)).any (·.1) = false := by rfl) :
    PE X (.Call (.Attribute o name apos) (e :: es) [] cpos) (tBM X.K T r to t) := by
  intro pins s σ H Q I h
  refine wpAny_Call_method_late hbase hfew hline rfl (thn (ho pins s σ H _ I h) fun v s1 ⟨x, H1, I1, r1, ty, q1⟩ => ?_)
  obtain ⟨h1, h2⟩ := tyV_is I1 r1 ty
  refine ⟨T, id, pa, slot, hty, h1, h2, ?_⟩
  have hA := ha cpos pins s1 σ H1 _ I1 q1
  rw [hs] at hA ⊢
  refine Calls.callWith_builtin (by show (false || (backTo cpos (starEach es X.env)).any (·.1)) = false; rw [hplain] <;> rfl) (Calls.evalArgs_plain ?_)
  exact thn hA fun us s2 ⟨vs, H2, I2, r2, q2⟩ => hm pins s2 σ H2 x vs v us Q I2 r1 r2 q2
/- xs.append(e), list.index on a module's tuple .. are MtR facts of 06m -/
end
end L2

namespace L2
open PySem PySem.Spec PyProof.Rows

def MtM (X : Cx) (id : String) (r : V → List V → Hp → VK → Prop) : Prop :=
  ∀ (pins : List (Addr × Obj)) (s : Shared) (σ : St) (H : Hp) (x : V) (xs : List V) (v : Value) (us : List Value) (Q : VK), Inv X pins σ H s → RelV x v → Vals xs us → r x xs H Q →
    wpAny (model X.prog X.w) X.A (call (.builtin id) (v :: us)) (EP X pins σ Q) X.xe s

theorem Vals.one : ∀ {x : V} {us : List Value}, Vals [x] us → ∃ u, us = [u] ∧ RelV x u
  | _, _, .cons r .nil => ⟨_, rfl, r⟩
theorem Vals.two : ∀ {x y : V} {us : List Value}, Vals [x, y] us → ∃ u v, us = [u, v] ∧ RelV x u ∧ RelV y v
  | _, _, _, .cons r (.cons q .nil) => ⟨_, _, rfl, r, q⟩
theorem Vals.zero : ∀ {us : List Value}, Vals [] us → us = []
  | _, .nil => rfl
theorem Vals.dropLast {xs : List V} {us : List Value} (h : Vals xs us) : Vals xs.dropLast us.dropLast := by
  induction h with
  | nil => exact .nil
  | cons r t ih =>
    cases t with
    | nil => exact .nil
    | cons q t' => exact .cons r ih
theorem Vals.eraseIdx : ∀ {xs : List V} {us : List Value} (i : Nat), Vals xs us → Vals (xs.eraseIdx i) (us.eraseIdx i)
  | _, _, _, .nil => .nil
  | _, _, 0, .cons _ t => t
  | _, _, i + 1, .cons r t => .cons r (Vals.eraseIdx i t)
theorem Vals.reverse {xs : List V} {us : List Value} (h : Vals xs us) : Vals xs.reverse us.reverse := by
  induction h with
  | nil => exact .nil
  | cons r t ih => rw [List.reverse_cons, List.reverse_cons]; exact Vals.append ih (.cons r .nil)
theorem Vals.rep {xs : List V} {us : List Value} (h : Vals xs us) : ∀ k : Nat, Vals (List.replicate k xs).flatten (List.replicate k us).flatten
  | 0 => .nil
  | k + 1 => by
    rw [List.replicate_succ, List.replicate_succ, List.flatten_cons, List.flatten_cons]
    exact Vals.append h (Vals.rep h k)
theorem erase_last {α : Type} (l : List α) : l.eraseIdx (l.length - 1) = l.dropLast := by
  induction l with
  | nil => rfl
  | cons a r ih =>
    cases r with
    | nil => rfl
    | cons b r =>
      have e : (a :: b :: r).length - 1 = ((b :: r).length - 1) + 1 := by
        have h1 : (a :: b :: r).length = r.length + 2 := rfl
        have h2 : (b :: r).length = r.length + 1 := rfl
        omega
      rw [e, List.eraseIdx_cons_succ, ih]
      all_goals rfl
theorem foldl_rep (its : List Value) : ∀ (k : Nat) (acc : List Value),
    List.foldl (fun x1 x2 => x1 ++ x2) acc.toArray (List.replicate k its.toArray) = (acc ++ (List.replicate k its).flatten).toArray
  | 0, acc => by simp
  | k + 1, acc => by
    have e : acc.toArray ++ its.toArray = (acc ++ its).toArray := by simp
    have e2 : (acc ++ its) ++ (List.replicate k its).flatten = acc ++ (List.replicate (k + 1) its).flatten := by
      rw [List.replicate_succ, List.flatten_cons, List.append_assoc]
    rw [← e2, ← foldl_rep its k (acc ++ its), ← e, List.replicate_succ, List.foldl_cons]

section
variable {X : Cx} {pins : List (Addr × Obj)} {σ : St} {H : Hp} {s : Shared} {l b : Addr} {xs ys zs : List V}

theorem Inv.lset {its its' : List Value} {n : Nat} {f : Array Value → Array Value} {t' : Nat} (I : Inv X pins σ H s) (hH : H l = some (.lst xs))
    (e : s.heap.get? l = some { cls := .type "list", data := .seq its.toArray n }) (hf : f its.toArray = its'.toArray) (hv : Vals ys its') (hz : ys.length ≤ sizeLine) :
    Inv X pins σ (upd H l (.lst ys)) { s with heap := s.heap.update l (Obj.mapSeq f), toks := t' } := by
  have q := PySem.IsL.update e f
  rw [hf] at q
  refine I.write (x := l) (e := l) (by rw [hH]; exact trivial) (.inl rfl) (fun b' u hb hu => (Heap.get?_update_other s.heap (Obj.mapSeq f) (Ne.symm hb)).trans hu) ⟨_, q⟩ ?_
  exact ⟨hz, its', _, hv, q⟩
theorem Inv.lnew {its : List Value} {t' : Nat} (I : Inv X pins σ H s) (hv : Vals ys its) (hz : ys.length ≤ sizeLine) :
    Inv X pins σ (upd H s.heap.objs.size (.lst ys)) { s with heap := s.heap.push { cls := .type "list", data := .seq its.toArray }, toks := t' } :=
  I.laid (fun _ _ q => Heap.get?_push_of_some _ q) (Nat.le_refl _) ⟨hz, its, 0, hv, Heap.get?_push_size _ rfl⟩
theorem Inv.fresh (I : Inv X pins σ H s) : H s.heap.objs.size = none := I.hok.fresh (Nat.le_refl _)
theorem Inv.lstM (I : Inv X pins σ H s) (hH : H l = some (.lst xs)) : xs.length ≤ sizeLine ∧ ∃ (its : List Value) (n : Nat), Vals xs its ∧ xs.length = its.length ∧ s.heap.get? l = some { cls := .type "list", data := .seq its.toArray n } := by
  obtain ⟨z, its, n, r, e⟩ := I.hok l _ hH
  exact ⟨z, its, n, r, r.length, e⟩

theorem notLongL {n : Nat} (h : n ≤ sizeLine) : Builtin.List.listTooLong n = false := by
  unfold Builtin.List.listTooLong
  exact decide_eq_false (by omega)
end

section
variable {X : Cx}

def rAppend : V → List V → Hp → VK → Prop := fun x vs H Q => ∃ l xs y, x = .ref l ∧ vs = [y] ∧ H l = some (.lst xs) ∧ xs.length < sizeLine ∧ Q .non (upd H l (.lst (xs ++ [y])))
theorem mt_append : MtM X "list.append" rAppend := by
  intro pins s σ H x vs v us Q I rx rv h
  obtain ⟨l, xs, y, rfl, rfl, hH, hz, q⟩ := h
  cases rx
  obtain ⟨u, rfl, ru⟩ := rv.one
  obtain ⟨z, its, n, r, hl, e⟩ := I.lstM hH
  refine call_meets F.slot_list_append ⟨_, e, rfl⟩ F.entry_list_append (F.args_list_append_2 _ _) (PySem.list_append l its.toArray n u (by rw [List.size_toArray]; omega)) ⟨e, ?_⟩
  refine ⟨.non, _, I.lset (its' := its ++ [u]) hH e (by simp) (r.append (.cons ru .nil)) ?_, rfl, q⟩
  rw [List.length_append, List.length_singleton]
  omega

def rPop : V → List V → Hp → VK → Prop := fun x vs H Q => ∃ l xs y, x = .ref l ∧ vs = [] ∧ H l = some (.lst xs) ∧ xs[xs.length - 1]? = some y ∧ Q y (upd H l (.lst xs.dropLast))
theorem mt_pop : MtM X "list.pop" rPop := by
  intro pins s σ H x vs v us Q I rx rv h
  obtain ⟨l, xs, y, rfl, rfl, hH, hy, q⟩ := h
  cases rx
  have hus := rv.zero
  subst hus
  obtain ⟨z, its, n, r, hl, e⟩ := I.lstM hH
  obtain ⟨u, hu, ru⟩ := r.get hy
  have hy' : its.toArray[its.toArray.size - 1]? = some u := by
    show its.toArray[its.length - 1]? = some u
    rw [← Array.getElem?_toList, ← hl]
    exact hu
  refine call_meets F.slot_list_pop ⟨_, e, rfl⟩ F.entry_list_pop (F.args_list_pop_1 _) (MeetsSeq.list_pop_last l its.toArray n u hy' (by rw [List.size_toArray]; omega)) ⟨e, ?_⟩
  refine ⟨y, _, I.lset (its' := its.dropLast) hH e ?_ r.dropLast ?_, ru, q⟩
  · show its.toArray.eraseIdxIfInBounds (its.toArray.size - 1) = its.dropLast.toArray
    rw [List.size_toArray, List.eraseIdxIfInBounds_toArray, erase_last]
  · rw [List.length_dropLast]
    omega

def rClear : V → List V → Hp → VK → Prop := fun x vs H Q => ∃ l xs, x = .ref l ∧ vs = [] ∧ H l = some (.lst xs) ∧ Q .non (upd H l (.lst []))
theorem mt_clear : MtM X "list.clear" rClear := by
  intro pins s σ H x vs v us Q I rx rv h
  obtain ⟨l, xs, rfl, rfl, hH, q⟩ := h
  cases rx
  have hus := rv.zero
  subst hus
  obtain ⟨z, its, n, r, hl, e⟩ := I.lstM hH
  refine call_meets F.slot_list_clear ⟨_, e, rfl⟩ F.entry_list_clear (F.args_list_clear_1 _) (AutoSeq1.list_clear_list_0 l its.toArray n (by rw [List.size_toArray]; omega)) ⟨e, ?_⟩
  exact ⟨.non, _, I.lset (its' := []) (ys := []) hH e rfl .nil (Nat.zero_le _), rfl, q⟩

def rRep : R2 := fun x y H Q => ∃ l k xs, x = .ref l ∧ y = .int k ∧ H l = some (.lst xs) ∧ -(2 ^ 63) ≤ k ∧ k < 2 ^ 63 ∧ xs.length * k.toNat ≤ sizeLine ∧
  ∀ p, H p = none → Q (.ref p) (upd H p (.lst (List.replicate k.toNat xs).flatten))
theorem len_rep {α : Type} (xs : List α) (k : Nat) : (List.replicate k xs).flatten.length = k * xs.length := by
  induction k with
  | zero => simp
  | succ k ih => rw [List.replicate_succ, List.flatten_cons, List.length_append, ih, Nat.succ_mul, Nat.add_comm]
theorem op_rep : OpR X (binaryOp .Mult) rRep := by
  intro pins s σ H x y v u Q I rx ry h
  obtain ⟨l, k, xs, rfl, rfl, hH, h1, h2, hz, q⟩ := h
  cases rx
  obtain ⟨t, rfl⟩ := ry
  obtain ⟨z, its, n, r, hl, e⟩ := I.lstM hH
  have hlen : its.toArray.size * k.toNat ≤ sizeLine := by rw [List.size_toArray, ← hl]; exact hz
  have hcap : ¬ its.toArray.size * k.toNat > (2 ^ 63 - 1) / 8 := by
    have : (sizeLine : Nat) ≤ (2 ^ 63 - 1) / 8 := by decide
    omega
  have hfit : ¬ (!Builtin.List.listFitsIndex k) = true := by
    rw [fitsIndex_both h1 h2]
    exact Bool.false_ne_true
  have hlong : ¬ Builtin.List.listTooLong (its.toArray.size * k.toNat) = true := by
    rw [notLongL hlen]
    exact Bool.false_ne_true
  have hnew : List.foldl (fun x1 x2 => x1 ++ x2) #[] (List.replicate (if its.toArray.isEmpty = true then 0 else k.toNat) its.toArray) = (List.replicate k.toNat its).flatten.toArray := by
    have f0 : ∀ m : Nat, List.foldl (fun x1 x2 => x1 ++ x2) #[] (List.replicate m its.toArray) = (List.replicate m its).flatten.toArray := fun m => by
      have := foldl_rep its m []
      rw [List.nil_append] at this
      exact this
    rw [f0]
    cases its with
    | nil => simp
    | cons a r' => rw [if_neg (by simp)]
  refine wpAny_binaryOp_repeat_ref (T := "list") (U := "int") (by decide) ⟨_, e, rfl⟩ (fun s' => typeIs_int s' k t) noFill_list_mul F.fills_int_mul F.slot_int_rmul repeat_list F.slot_int_index.lookup
    (call_meets F.slot_int_rmul (typeIs_int s k t) F.entry_int_rmul (F.args_int_rmul_2 _ _) (int___rmul___int_list k t l its.toArray n)
      ⟨e, rfl, ⟨_, e, rfl⟩, call_meets F.slot_list_mul ⟨_, e, rfl⟩ F.entry_list_mul (F.args_list_mul_2 _ _) (AutoListH.list___mul___list_int_3 l its.toArray n k t hfit hcap hlong) ⟨e, ?_⟩⟩)
  rw [hnew]
  exact ⟨.ref _, _, I.lnew (t' := s.toks) (r.rep k.toNat) (by rw [len_rep, Nat.mul_comm]; exact hz), rfl, q _ I.fresh⟩

end

section
variable {prog : Program} {w : World} {A : Around} {E : Value → Shared → Prop} {s : Shared}
set_option maxRecDepth 100000 in
end

section
variable {X : Cx}
end
end L2

namespace L2
open PySem PySem.Spec PyProof.Rows

section
variable {κ : Type} [DecidableEq κ]
def valV (kvs : List (κ × V)) (k : κ) : Option V := (kvs.find? fun kv => decide (kv.1 = k)).map (·.2)
def putK (kvs : List (κ × V)) (k : κ) (v : V) : List (κ × V) :=
  if (kvs.any fun kv => decide (kv.1 = k)) = true then kvs.map (fun kv => if kv.1 = k then (kv.1, v) else kv) else kvs ++ [(k, v)]
def dropK (kvs : List (κ × V)) (k : κ) : List (κ × V) := kvs.filter fun kv => decide (kv.1 ≠ k)

theorem valV_nil {k : κ} : valV ([] : List (κ × V)) k = none := rfl
theorem valV_pos {p : κ × V} {r : List (κ × V)} {k : κ} (e : p.1 = k) : valV (p :: r) k = some p.2 := by simp [valV, List.find?_cons, e]
theorem valV_neg {p : κ × V} {r : List (κ × V)} {k : κ} (e : ¬ p.1 = k) : valV (p :: r) k = valV r k := by simp [valV, List.find?_cons, e]
theorem valV_any (k : κ) : ∀ kvs : List (κ × V), (kvs.any fun kv => decide (kv.1 = k)) = (valV kvs k).isSome
  | [] => rfl
  | p :: r => by
    rw [List.any_cons]
    by_cases e : p.1 = k
    · simp only [valV_pos e, decide_eq_true e, Bool.true_or, Option.isSome_some]
    · rw [valV_neg e, decide_eq_false e, Bool.false_or]; exact valV_any k r
theorem valV_snoc (k j : κ) (y : V) : ∀ kvs : List (κ × V), valV kvs k = none → valV (kvs ++ [(k, y)]) j = if j = k then some y else valV kvs j
  | [], _ => by
    by_cases e : k = j
    · rw [if_pos e.symm]; exact valV_pos (p := (k, y)) e
    · rw [if_neg (fun z => e z.symm)]; exact valV_neg (p := (k, y)) e
  | p :: r, hn => by
    rw [List.cons_append]
    have hk : ¬ p.1 = k := fun z => by rw [valV_pos z] at hn; cases hn
    rw [valV_neg hk] at hn
    have ih := valV_snoc k j y r hn
    by_cases e : p.1 = j
    · rw [valV_pos e, valV_pos e, if_neg (fun z => hk (e.trans z))]
    · rw [valV_neg e, valV_neg e, ih]
theorem length_putK (kvs : List (κ × V)) (k : κ) (v : V) : (putK kvs k v).length ≤ kvs.length + 1 := by
  unfold putK
  split
  · rw [List.length_map]; omega
  · rw [List.length_append, List.length_cons, List.length_nil]; omega
theorem putK_new {kvs : List (κ × V)} {k : κ} (v : V) (h : valV kvs k = none) : putK kvs k v = kvs ++ [(k, v)] := by
  unfold putK
  rw [valV_any, h]
  exact if_neg (by decide)

theorem RelO.isSome_eq {o : Option V} {u : Option Value} (r : RelO o u) : o.isSome = u.isSome := by
  cases o with
  | none => cases u with
    | none => rfl
    | some _ => exact (show False from r).elim
  | some _ => cases u with
    | none => exact (show False from r).elim
    | some _ => rfl
theorem RelO.getD {o : Option V} {u : Option Value} {d : V} {d' : Value} (r : RelO o u) (rd : RelV d d') : RelV (o.getD d) (u.getD d') := by
  cases o with
  | none => cases u with
    | none => exact rd
    | some _ => exact (show False from r).elim
  | some _ => cases u with
    | none => exact (show False from r).elim
    | some _ => exact r

theorem KV.val {kvs : List (κ × V)} {vs : List (κ × Value)} (r : KV kvs vs) (k : κ) : RelO (valV kvs k) (valueAt vs k) := by
  unfold KV at r
  induction r with
  | nil => exact True.intro
  | @cons p q ps qs h t ih =>
    obtain ⟨h1, h2⟩ := h
    by_cases e : p.1 = k
    · have e' : q.1 = k := h1.symm.trans e
      have b : valueAt (q :: qs) k = some q.2 := by simp [valueAt, List.find?_cons, e']
      rw [valV_pos e, b]; exact h2
    · have e' : ¬ q.1 = k := fun z => e (h1.trans z)
      have b : valueAt (q :: qs) k = valueAt qs k := by simp [valueAt, List.find?_cons, e']
      rw [valV_neg e, b]; exact ih
theorem KV.any {kvs : List (κ × V)} {vs : List (κ × Value)} (r : KV kvs vs) (k : κ) : (kvs.any fun kv => decide (kv.1 = k)) = vs.any fun kv => decide (kv.1 = k) := by
  unfold KV at r
  induction r with
  | nil => rfl
  | cons h t ih => rw [List.any_cons, List.any_cons, ih, h.1]
theorem KV.repl {kvs : List (κ × V)} {vs : List (κ × Value)} (r : KV kvs vs) (k : κ) {y : V} {u : Value} (ry : RelV y u) :
    KV (kvs.map fun kv => if kv.1 = k then (kv.1, y) else kv) (vs.map fun kv => if kv.1 = k then (kv.1, u) else kv) := by
  unfold KV at r ⊢
  induction r with
  | nil => exact .nil
  | @cons p q ps qs h t ih =>
    rw [List.map_cons, List.map_cons]
    refine .cons ?_ ih
    obtain ⟨h1, h2⟩ := h
    by_cases e : p.1 = k
    · rw [if_pos e, if_pos (h1.symm.trans e)]; exact ⟨h1, ry⟩
    · rw [if_neg e, if_neg (fun z => e (h1.trans z))]; exact ⟨h1, h2⟩
theorem KV.put {kvs : List (κ × V)} {vs : List (κ × Value)} (r : KV kvs vs) (k : κ) {y : V} {u : Value} (ry : RelV y u) : KV (putK kvs k y) (stored vs k u) := by
  unfold putK stored
  rw [r.any k]
  by_cases e : (vs.any fun kv => decide (kv.1 = k)) = true
  · rw [if_pos e, if_pos e]; exact r.repl k ry
  · rw [if_neg e, if_neg e]; exact Paired.snoc r ⟨rfl, ry⟩
theorem KV.drop {kvs : List (κ × V)} {vs : List (κ × Value)} (r : KV kvs vs) (k : κ) : KV (dropK kvs k) (without vs k) := by
  unfold KV at r ⊢
  unfold dropK without
  induction r with
  | nil => exact .nil
  | @cons p q ps qs h t ih =>
    obtain ⟨h1, h2⟩ := h
    rw [List.filter_cons, List.filter_cons]
    by_cases e : p.1 = k
    · have a : ¬ decide (p.1 ≠ k) = true := by simp [e]
      have b : ¬ decide (q.1 ≠ k) = true := by simp [h1.symm.trans e]
      rw [if_neg a, if_neg b]; exact ih
    · have e' : ¬ q.1 = k := fun z => e (h1.trans z)
      have a : decide (p.1 ≠ k) = true := by simp [e]
      have b : decide (q.1 ≠ k) = true := by simp [e']
      rw [if_pos a, if_pos b]; exact .cons ⟨h1, h2⟩ ih
theorem KV.keys {kvs : List (κ × V)} {vs : List (κ × Value)} (r : KV kvs vs) : kvs.map (·.1) = vs.map (·.1) := by
  unfold KV at r
  induction r with
  | nil => rfl
  | cons h t ih => rw [List.map_cons, List.map_cons, ih, h.1]
theorem KV.length {kvs : List (κ × V)} {vs : List (κ × Value)} (r : KV kvs vs) : kvs.length = vs.length := Paired.length r
end


theorem kV_is {P : Program} {w : World} {k : Key} {u : Value} (r : RelV (kV k) u) : (mixKind P w).is k u = true := by
  cases k with
  | inl i => obtain ⟨t, e⟩ := (show ∃ t, u = Value.int i t from r); subst e; exact mixKind_int P w i t
  | inr x => obtain ⟨t, e⟩ := (show ∃ t, u = Value.str x t from r); subst e; exact mixKind_str P w x t
theorem items_are {P : Program} {w : World} : ∀ {ks : List Key} {us : List Value}, Vals (ks.map kV) us → ItemsAre (mixKind P w) ks us
  | [], _, r => by rw [List.map_nil] at r; cases r; exact .nil
  | k :: ks, _, r => by
    rw [List.map_cons] at r
    cases r with
    | cons h t => exact .cons (kV_is h) (items_are t)

abbrev KT (H : Hp) : List (List Key × V) → List (List Key × Addr × Value) → Prop := Paired fun p q => p.1 = q.1 ∧ H q.2.1 = some (.tup (p.1.map kV)) ∧ RelV p.2 q.2.2
theorem KT.val {H : Hp} {kvs : List (List Key × V)} {xs : List (List Key × Addr × Value)} (r : KT H kvs xs) (k : List Key) : RelO (valV kvs k) ((atKey xs k).map (·.2)) := by
  induction r with
  | nil => exact True.intro
  | @cons p q ps qs h t ih =>
    obtain ⟨h1, _, h2⟩ := h
    by_cases e : p.1 = k
    · have e' : q.1 = k := h1.symm.trans e
      have b : atKey (q :: qs) k = some q.2 := by simp [atKey, List.find?_cons, e']
      rw [valV_pos e, b]; exact h2
    · have e' : ¬ q.1 = k := fun z => e (h1.trans z)
      have b : atKey (q :: qs) k = atKey qs k := by simp [atKey, List.find?_cons, e']
      rw [valV_neg e, b]; exact ih
theorem KT.repl {H : Hp} {kvs : List (List Key × V)} {xs : List (List Key × Addr × Value)} (r : KT H kvs xs) (k : List Key) {y : V} {u : Value} (ry : RelV y u) :
    KT H (kvs.map fun kv => if kv.1 = k then (kv.1, y) else kv) (xs.map (putAt k u)) := by
  induction r with
  | nil => exact .nil
  | @cons p q ps qs h t ih =>
    rw [List.map_cons, List.map_cons]
    refine .cons ?_ ih
    obtain ⟨h1, h2, h3⟩ := h
    unfold putAt
    by_cases e : p.1 = k
    · rw [if_pos e, if_pos (h1.symm.trans e)]; exact ⟨h1, h2, ry⟩
    · rw [if_neg e, if_neg (fun z => e (h1.trans z))]; exact ⟨h1, h2, h3⟩
theorem KT.put {H : Hp} {kvs : List (List Key × V)} {xs : List (List Key × Addr × Value)} (r : KT H kvs xs) (k : List Key) {b : Addr} {y : V} {u : Value} (hb : H b = some (.tup (k.map kV))) (ry : RelV y u) :
    KT H (putK kvs k y) (storedH xs k b u) := by
  have e : (kvs.any fun kv => decide (kv.1 = k)) = (atKey xs k).isSome := by
    rw [valV_any, (r.val k).isSome_eq, Option.isSome_map]
  unfold putK storedH
  rw [e]
  by_cases q : (atKey xs k).isSome = true
  · rw [if_pos q, if_pos q]; exact r.repl k ry
  · rw [if_neg q, if_neg q]; exact Paired.snoc r ⟨rfl, hb, ry⟩
theorem KT.keeps {H H' : Hp} {kvs : List (List Key × V)} {xs : List (List Key × Addr × Value)} (r : KT H kvs xs) (ht : ∀ b ys, H b = some (.tup ys) → H' b = some (.tup ys)) : KT H' kvs xs :=
  Paired.mapP r fun _ _ z => ⟨z.1, ht _ _ z.2.1, z.2.2⟩

section
variable {P : Program} {w : World} {H : Hp} {h : Heap} {a : Addr}
theorem rd_of {u : HO} (ok : HOk P w H h) (e : Rd H a u) : ObjOk P w H h a u := e.ok ok
theorem dk_rd {kvs : List (Key × V)} (ok : HOk P w H h) (e : Rd H a (.dK kvs)) : kvs.length ≤ sizeLine ∧ (a == sysModules) = false ∧ ∃ vs, KV kvs vs ∧ h.DictOf (mixKind P w) a vs :=
  show ObjOk P w H h a (.dK kvs) from rd_of ok e
theorem dk_of {kvs : List (Key × V)} (ok : HOk P w H h) (e : H a = some (.dK kvs)) : kvs.length ≤ sizeLine ∧ (a == sysModules) = false ∧ ∃ vs, KV kvs vs ∧ h.DictOf (mixKind P w) a vs := dk_rd ok (.inl e)
theorem key_of {ks : List Key} (ok : HOk P w H h) (e : H a = some (.tup (ks.map kV))) : (tupleKind (mixKind P w)).is h ks a := by
  obtain ⟨_, its, r, o, h1, h2, n, h3⟩ := (show ObjOk P w H h a (.tup (ks.map kV)) from ok a _ e)
  exact ⟨o, its.toArray, n, h1, h2, h3, by simpa using items_are r⟩
theorem dt_rd {kvs : List (List Key × V)} (ok : HOk P w H h) (e : Rd H a (.dT kvs)) : kvs.length ≤ sizeLine ∧ (a == sysModules) = false ∧
    ∃ xs, KT H kvs xs ∧ h.DictOfH (tupleKind (mixKind P w)) a xs := by
  obtain ⟨z, y, xs, r, o, es, ep, h1, h2, h3, h4, h5⟩ := (show ObjOk P w H h a (.dT kvs) from rd_of ok e)
  refine ⟨z, y, xs, r, o, es, ep, h1, h2, h3, h4, fun x hx => ?_, h5⟩
  have all : ∀ {l : List (List Key × V)} {m : List (List Key × Addr × Value)}, KT H l m → ∀ x ∈ m, (tupleKind (mixKind P w)).is h x.1 x.2.1 := by
    intro l m q
    induction q with
    | nil => intro x hx; exact nomatch hx
    | @cons p q ps qs hq t ih =>
      intro x hx
      rcases List.mem_cons.mp hx with e | hx
      · subst e
        exact key_of ok (by rw [← hq.1]; exact hq.2.1)
      · exact ih x hx
  exact all r x hx
theorem dt_of {kvs : List (List Key × V)} (ok : HOk P w H h) (e : H a = some (.dT kvs)) : kvs.length ≤ sizeLine ∧ (a == sysModules) = false ∧
    ∃ xs, KT H kvs xs ∧ h.DictOfH (tupleKind (mixKind P w)) a xs := dt_rd ok (.inl e)
end

def DGet (H : Hp) (a : Addr) (y : V) (r : Option V) : Prop :=
  (∃ kvs k, Rd H a (.dK kvs) ∧ y = kV k ∧ r = valV kvs k) ∨ ∃ kvs k b, Rd H a (.dT kvs) ∧ y = .ref b ∧ H b = some (.tup (k.map kV)) ∧ r = valV kvs k
def DPut (H : Hp) (a : Addr) (y v : V) (H' : Hp) : Prop :=
  (∃ kvs k, H a = some (.dK kvs) ∧ y = kV k ∧ kvs.length < sizeLine ∧ H' = upd H a (.dK (putK kvs k v))) ∨
  ∃ kvs k b, H a = some (.dT kvs) ∧ y = .ref b ∧ H b = some (.tup (k.map kV)) ∧ kvs.length < sizeLine ∧ H' = upd H a (.dT (putK kvs k v))
theorem DGet.t {H : Hp} {a b : Addr} {kvs : List (List Key × V)} {k : List Key} (e : H a = some (.dT kvs)) (eb : H b = some (.tup (k.map kV))) : DGet H a (.ref b) (valV kvs k) := .inr ⟨kvs, k, b, .inl e, rfl, eb, rfl⟩
theorem DPut.t {H : Hp} {a b : Addr} {kvs : List (List Key × V)} {k : List Key} {v : V} (e : H a = some (.dT kvs)) (eb : H b = some (.tup (k.map kV))) (hl : kvs.length < sizeLine) :
    DPut H a (.ref b) v (upd H a (.dT (putK kvs k v))) := .inr ⟨kvs, k, b, e, rfl, eb, hl, rfl⟩


section
variable {X : Cx} {pins : List (Addr × Obj)} {σ : St} {H : Hp} {s : Shared} {a : Addr} {y v : V} {u r : Value} {o : Option V} {A : Around} {E : Value → Shared → Prop}

theorem Inv.big (I : Inv X pins σ H s) : sysModules < s.heap.objs.size := by
  have h : mainGlobals < s.heap.objs.size := (I.mod.glob.keeps I.bk).lt
  exact Nat.lt_trans (by decide) h

theorem d_getItem {Q : Value → Shared → Prop} (hu : A.units + 1 < cLine) (I : Inv X pins σ H s) (g : DGet H a y (some v)) (ry : RelV y u) (h : ∀ w' s', Inv X pins σ H s' → RelV v w' → Q w' s') :
    wpAny (model X.prog X.w) A (getItem (.ref a) u) Q E s := by
  rcases g with ⟨kvs, k, e, ey, l⟩ | ⟨kvs, k, b, e, ey, eb, l⟩
  · subst ey
    obtain ⟨z, hd, vs, rel, dd⟩ := dk_rd I.hok e
    obtain ⟨w', hw, rw'⟩ := RelO.some_of (v := v) (o := valueAt vs k) (by rw [l]; exact rel.val k)
    exact wpAny_getItem_of (kV_is ry) dd.mapOf hw (h w' _ (I.tok _) rw')
  · subst ey
    cases (show u = Value.ref b from ry)
    obtain ⟨z, hd, xs, rel, dd⟩ := dt_rd I.hok e
    obtain ⟨w', hw, rw'⟩ := RelO.some_of (v := v) (o := (atKey xs k).map (·.2)) (by rw [l]; exact rel.val k)
    obtain ⟨p, hp, hp2⟩ := Option.map_eq_some_iff.mp hw
    refine wpAny_getItem_heap (tupleKind_room_in1 hu) (key_of I.hok eb) dd hp ?_
    rw [hp2]
    exact h w' _ (I.tok _) rw'
theorem d_write {h' : Heap} {t' : Nat} {ob : HO} (I : Inv X pins σ H s) (mu : Mut (H a)) (hs : Heap.SameBut a s.heap h') (he : ∃ q, h'.get? a = some q) (new : ObjOk X.prog X.w (upd H a ob) h' a ob) :
    Inv X pins σ (upd H a ob) { s with heap := h', toks := t' } :=
  I.write (x := a) (e := a) mu (.inl rfl) (fun b q hb z => (hs.2 b hb).trans z) he new
theorem dk_new {P : Program} {w : World} {H' : Hp} {h' : Heap} {kvs : List (Key × V)} {vs : List (Key × Value)} (z : kvs.length ≤ sizeLine) (hd : (a == sysModules) = false) (rel : KV kvs vs) (dd : h'.DictOf (mixKind P w) a vs) :
    ObjOk P w H' h' a (.dK kvs) := ⟨z, hd, vs, rel, dd⟩
theorem d_setItem {H' : Hp} {Q : Unit → Shared → Prop} (hu : A.units + 1 < cLine) (I : Inv X pins σ H s) (g : DPut H a y v H') (ry : RelV y u) (rv : RelV v r) (h : ∀ s', Inv X pins σ H' s' → Q () s') :
    wpAny (model X.prog X.w) A (setItem (.ref a) u r) Q E s := by
  rcases g with ⟨kvs, k, e, ey, l, eH⟩ | ⟨kvs, k, b, e, ey, eb, l, eH⟩
  · subst ey eH
    obtain ⟨z, hd, vs, rel, dd⟩ := dk_of I.hok e
    have hz : vs.length ≤ sizeLine := by rw [← rel.length]; exact z
    have hl : (putK kvs k v).length ≤ sizeLine := by have := length_putK kvs k v; omega
    refine wpAny_setItem_pairs (hsz := hz) (kV_is ry) dd fun h' dd' hs => h _ ?_
    have he : ∃ q, h'.get? a = some q := let ⟨q, _, _, hq, _⟩ := dd'; ⟨q, hq⟩
    exact d_write I (by rw [e]; exact True.intro) hs he (dk_new hl hd (rel.put k rv) dd')
  · subst ey eH
    cases (show u = Value.ref b from ry)
    obtain ⟨z, hd, xs, rel, dd⟩ := dt_of I.hok e
    have hz : xs.length ≤ sizeLine := by rw [← Paired.length rel]; exact z
    have hl : (putK kvs k v).length ≤ sizeLine := by have := length_putK kvs k v; omega
    refine wpAny_setItem_heap (hsz := hz) (tupleKind_room_in1 hu) (key_of I.hok eb) dd fun h' dd' hs => h _ ?_
    obtain ⟨q, es, ep, hq, h2, h3, h4, _, h5⟩ := dd'
    refine d_write I (by rw [e]; exact True.intro) hs ⟨q, hq⟩ ⟨hl, hd, _, (rel.put k eb rv).keeps fun c ys ec => ?_, q, es, ep, hq, h2, h3, h4, h5⟩
    rw [upd_ne (ne_of ec e (fun z => nomatch z))]
    exact ec
end

section
variable {X : Cx} {pins : List (Addr × Obj)} {σ : St} {H : Hp} {s : Shared} {a : Addr} {kvs : List (Key × V)} {k : Key} {u : Value} {A : Around} {E : Value → Shared → Prop}
theorem d_len {Q : Value → Shared → Prop} (I : Inv X pins σ H s) (e : Rd H a (.dK kvs)) (h : ∀ t s', Inv X pins σ H s' → Q (.int kvs.length t) s') : wpAny (model X.prog X.w) A (call (.builtin "len") [.ref a]) Q E s := by
  obtain ⟨z, hd, vs, rel, dd⟩ := dk_rd I.hok e
  refine call_len_dict hd dd (by rw [← rel.length]; rw [sizeLine_eq] at z; omega) ?_
  rw [← rel.length]
  exact h _ _ (I.tok _)
end


def NoSl (i : Expr) : Prop := ∀ ov iv, subscripted i false ov iv = operate [ov, iv] (getItem ov iv)
theorem subD_of {prog : Program} {w : World} {A : Around} {E : Value → Shared → Prop} {s : Shared} {env : Env} {value slice : Expr} {pos : Pos} {T id : String} {Q : Value → Shared → Prop}
    (hl : typeLookup (.type T) "__getitem__" = pure (some (.builtin id))) (hs : NoSl slice)
    (h : wpAny (model prog w) A (eval value env) (fun o s₁ => wpAny (model prog w) A (eval slice env) (fun i s₂ => s₂.TypeIs o T ∧ wpAny (model prog w) A (getItem o i) Q E s₂) E s₁) E s) :
    wpAny (model prog w) A (eval (.Subscript value slice pos) env) Q E s := by
  refine Subscript_ (wpAny_mono h (fun o s₁ h₁ => wpAny_mono h₁ (fun i s₂ h₂ => ?_) fun _ _ x => x) fun _ _ x => x)
  obtain ⟨hT, h₂⟩ := h₂
  unfold subscriptTail
  refine wpAny_bind ?_
  rw [getitemInPython_of_ne hT.not_modules]
  refine wpAny_bind (wpAny_specialOf hT hl ?_)
  have fin : wpAny (model prog w) A (subscripted slice false o i) (fun r s₃ => wpAny (model prog w) A (letTemporaryGo value o r >>= fun _ => pure r) Q E s₃) E s₂ := by
    rw [hs o i]
    exact wpAny_operating (wpAny_mono h₂ (fun r s₃ h₃ => wpAny_bind (wpAny_letTemporaryGo (wpAny_pure h₃))) fun _ _ x => x)
  first
    | exact wpAny_pure (wpAny_bind fin)
    | exact wpAny_bind (wpAny_pure (wpAny_bind fin))
    | exact wpAny_bind fin

theorem dict_typeIs {X : Cx} {pins : List (Addr × Obj)} {σ : St} {H : Hp} {s : Shared} {a : Addr} {y : V} {o : Option V} (I : Inv X pins σ H s) (g : DGet H a y o) : s.TypeIs (.ref a) "dict" := by
  rcases g with ⟨kvs, k, e, _, _⟩ | ⟨kvs, k, b, e, _, _, _⟩
  · obtain ⟨_, _, vs, _, dd⟩ := dk_rd I.hok e
    exact dd.typeIs
  · obtain ⟨_, _, xs, _, dd⟩ := dt_rd I.hok e
    exact dd.typeIs
def tDGet (td ty : TE) : TE := fun σ H Q => td σ H fun x H1 => ty σ H1 fun y H2 => ∃ a v, x = .ref a ∧ DGet H2 a y (some v) ∧ Q v H2
def sDPut (td ty tv : TE) : TS := fun D σ H => tv σ H fun v H1 => td σ H1 fun x H2 => ty σ H2 fun y H3 => ∃ a H4, x = .ref a ∧ DPut H3 a y v H4 ∧ D.nx σ H4
section
variable {X : Cx} {o i e value : Expr} {pos pos' tpos : Pos} {td ty tv : TE}
theorem pe_dget (hu : X.A.units + 1 < cLine) (ho : PE X o td) (hi : PE X i ty) (hs : NoSl i) : PE X (.Subscript o i pos) (tDGet td ty) := by
  intro pins s σ H Q I h
  refine subD_of PySem.F.slot_dict_getitem.lookup hs (thn (ho pins s σ H _ I h) fun u s1 ⟨x, H1, I1, rx, q1⟩ => thn (hi pins s1 σ H1 _ I1 q1) fun iv s2 ⟨y, H2, I2, ry, a, v, ex, g, q2⟩ => ?_)
  subst ex
  obtain rfl : u = Value.ref a := rx
  exact ⟨dict_typeIs I2 g, d_getItem hu I2 g ry fun w' s3 I3 rw' => ⟨v, H2, I3, rw', q2⟩⟩
theorem ps_dput (hu : X.A.units + 1 < cLine) (ho : PE X o td) (hi : PE X i ty) (hv : PE X value tv) (hs : swapsWith value (some (.Subscript o i pos')) pos.line X.env = pure false) :
    PS X (.Assign [.Subscript o i pos'] value pos) (sDPut td ty tv) := by
  intro pins s σ H D I h
  refine wpAny_Assign_Subscript (thn (hv pins s σ H _ I h) fun r s1 ⟨v, H1, I1, rv, q1⟩ => thn (ho pins s1 σ H1 _ I1 q1) fun u s2 ⟨x, H2, I2, rx, q2⟩ => thn (hi pins s2 σ H2 _ I2 q2) fun iv s3 ⟨y, H3, I3, ry, a, H4, ex, g, q3⟩ => ?_) hs
  subst ex
  obtain rfl : u = Value.ref a := rx
  exact d_setItem hu I3 g ry rv fun s4 I4 => ⟨σ, H4, I4, q3⟩
end


theorem dk_empty {P : Program} {w : World} {H : Hp} (h : Heap) (hb : sysModules < h.objs.size) : ObjOk P w H (h.push { cls := .type "dict", data := .dict #[] }) h.objs.size (.dK []) :=
  ⟨Nat.zero_le _, beq_eq_false_iff_ne.mpr (Ne.symm (Nat.ne_of_lt hb)), [], .nil, Heap.DictOf.new h⟩
theorem dt_empty {P : Program} {w : World} {H : Hp} (h : Heap) (hb : sysModules < h.objs.size) : ObjOk P w H (h.push { cls := .type "dict", data := .dict #[] }) h.objs.size (.dT []) :=
  ⟨Nat.zero_le _, beq_eq_false_iff_ne.mpr (Ne.symm (Nat.ne_of_lt hb)), [], .nil, _, #[], 0, Heap.get?_push_size _ rfl, ⟨rfl, rfl, rfl⟩, rfl, rfl, List.nodup_nil⟩
def tDNewK : TE := fun _ H Q => ∀ p, H p = none → Q (.ref p) (upd H p (.dK []))
def tDNewT : TE := fun _ H Q => ∀ p, H p = none → Q (.ref p) (upd H p (.dT []))
section
variable {X : Cx} {pos : Pos}
theorem pe_dnewK : PE X (.Dict [] [] pos) tDNewK := fun pins s σ H Q I h =>
  wpAny_Dict_empty ⟨.ref s.heap.objs.size, _, I.laid (a := s.heap.objs.size) (o := .dK []) (t' := s.toks) (fun _ _ q => Heap.get?_push_of_some _ q) (Nat.le_refl _) (dk_empty s.heap I.big), rfl, h _ (I.hok.fresh (Nat.le_refl _))⟩
theorem pe_dnewT : PE X (.Dict [] [] pos) tDNewT := fun pins s σ H Q I h =>
  wpAny_Dict_empty ⟨.ref s.heap.objs.size, _, I.laid (a := s.heap.objs.size) (o := .dT []) (t' := s.toks) (fun _ _ q => Heap.get?_push_of_some _ q) (Nat.le_refl _) (dt_empty s.heap I.big), rfl, h _ (I.hok.fresh (Nat.le_refl _))⟩
end

def tPairs : List (TE × TE) → St → Hp → (List (V × V) → Hp → Prop) → Prop
  | [], _, H, Q => Q [] H
  | (tk, tv) :: r, σ, H, Q => tk σ H fun x H1 => tv σ H1 fun y H2 => tPairs r σ H2 fun ps H3 => Q ((x, y) :: ps) H3
abbrev VV : List (V × V) → List (Value × Value) → Prop := Paired fun p q => RelV p.1 q.1 ∧ RelV p.2 q.2
def PPs (X : Cx) (pos : Pos) (keys : List (Option Expr)) (values : List Expr) (trs : List (TE × TE)) : Prop :=
  ∀ (pins : List (Addr × Obj)) (s : Shared) (σ : St) (H : Hp) (Q : List (V × V) → Hp → Prop), Inv X pins σ H s → tPairs trs σ H Q →
    wpAny (model X.prog X.w) X.A (evalPairs (pairTrees keys values X.env pos)) (fun vs s' => ∃ ps H', Inv X pins σ H' s' ∧ VV ps vs ∧ Q ps H') X.xe s
theorem pps_nil {X : Cx} {pos : Pos} : PPs X pos [] [] [] := fun pins s σ H Q I h => pairTrees_nil_walk ⟨[], H, I, .nil, h⟩
theorem pps_cons {X : Cx} {pos : Pos} {k v : Expr} {ks : List (Option Expr)} {vs : List Expr} {tk tv : TE} {trs : List (TE × TE)} (hk : PE X k tk) (hv : PE X v tv) (hr : PPs X pos ks vs trs) :
    PPs X pos (some k :: ks) (v :: vs) ((tk, tv) :: trs) := fun pins s σ H Q I h =>
  pairTrees_cons_walk (thn (hk pins s σ H _ I h) fun u s1 ⟨x, H1, I1, rx, q1⟩ => thn (hv pins s1 σ H1 _ I1 q1) fun w2 s2 ⟨y, H2, I2, ry, q2⟩ =>
    thn (hr pins s2 σ H2 _ I2 q2) fun ws s3 ⟨ps, H3, I3, rel, q3⟩ => ⟨(x, y) :: ps, H3, I3, .cons ⟨rx, ry⟩ rel, q3⟩)

structure M1 (X : Cx) (o : Expr) (m : Str) (apos : Pos) (e : Expr) (cpos : Pos) : Prop where
  base : attributeBase o m X.env (eval o X.env) = eval o X.env
  few : ((backTo cpos (starEach [e] X.env)).all (fun x => !x.1) && (backToKw cpos (keywordEach [] X.env)).all (fun x => x.1.isSome)
    && decide (([e] : List Expr).length + ([] : List Keyword).length + (if ([] : List Keyword).isEmpty then 0 else 1) < 30)) = true
  line : (apos.endLine == cpos.line) = true
  trees : backTo cpos (starEach [e] X.env) = [(false, eval e X.env)]
structure M2 (X : Cx) (o : Expr) (m : Str) (apos : Pos) (e f : Expr) (cpos : Pos) : Prop where
  base : attributeBase o m X.env (eval o X.env) = eval o X.env
  few : ((backTo cpos (starEach [e, f] X.env)).all (fun x => !x.1) && (backToKw cpos (keywordEach [] X.env)).all (fun x => x.1.isSome)
    && decide (([e, f] : List Expr).length + ([] : List Keyword).length + (if ([] : List Keyword).isEmpty then 0 else 1) < 30)) = true
  line : (apos.endLine == cpos.line) = true
  trees : backTo cpos (starEach [e, f] X.env) = [(false, eval e X.env), (false, eval f X.env)]

def IsD (H : Hp) (a : Addr) : Prop := (∃ kvs, Rd H a (.dK kvs)) ∨ ∃ kvs, Rd H a (.dT kvs)
theorem isD_at {X : Cx} {pins : List (Addr × Obj)} {σ : St} {H : Hp} {s : Shared} {a : Addr} (I : Inv X pins σ H s) (d : IsD H a) :
    s.TypeIs (.ref a) "dict" ∧ (∀ b, Value.ref a = .ref b → ∃ ob, s.heap.get? b = some ob ∧ ob.dict = none) ∧ (a == sysModules) = false := by
  rcases d with ⟨kvs, e⟩ | ⟨kvs, e⟩
  · obtain ⟨_, hd, vs, _, dd⟩ := dk_rd I.hok e
    refine ⟨dd.typeIs, fun b q => ?_, hd⟩
    cases q
    obtain ⟨ob, _, _, h1, h2, _⟩ := dd
    exact ⟨ob, h1, h2.2.1⟩
  · obtain ⟨_, hd, xs, _, dd⟩ := dt_rd I.hok e
    refine ⟨dd.typeIs, fun b q => ?_, hd⟩
    cases q
    obtain ⟨ob, _, _, h1, h2, _⟩ := dd
    exact ⟨ob, h1, h2.2.1⟩

section
variable {X : Cx} {pins : List (Addr × Obj)} {σ : St} {H : Hp} {s : Shared} {a : Addr} {y d : V} {u r : Value} {o : Option V} {A : Around} {E : Value → Shared → Prop}
theorem d_get2 {Q : Value → Shared → Prop} (hu : A.units + 1 < cLine) (I : Inv X pins σ H s) (g : DGet H a y o) (ry : RelV y u) (rd : RelV d r) (h : ∀ w' s', Inv X pins σ H s' → RelV (o.getD d) w' → Q w' s') :
    wpAny (model X.prog X.w) A (call (.builtin "dict.get") [.ref a, u, r]) Q E s := by
  rcases g with ⟨kvs, k, e, ey, l⟩ | ⟨kvs, k, b, e, ey, eb, l⟩
  · subst ey
    obtain ⟨z, hd, vs, rel, dd⟩ := dk_rd I.hok e
    refine call_meetsIn PySem.F.slot_dict_get dd.typeIs PySem.F.entry_dict_get (PySem.F.args_dict_get_3 _ _ _) (meets_dict_get_default (mixKind X.prog X.w) a (kV_is ry) hd r) ⟨_, dd.mapOf, h _ _ (I.tok _) ?_⟩
    rw [l]
    exact (rel.val k).getD rd
  · subst ey
    cases (show u = Value.ref b from ry)
    obtain ⟨z, hd, xs, rel, dd⟩ := dt_rd I.hok e
    refine call_meetsIn PySem.F.slot_dict_get dd.typeIs PySem.F.entry_dict_get (PySem.F.args_dict_get_3 _ _ _) (meetsH_dict_get_default (tupleKind (mixKind X.prog X.w)) a b hd r) ⟨tupleKind_room_in1 hu, k, xs, key_of I.hok eb, dd, h _ _ (I.tok _) ?_⟩
    rw [l]
    exact (rel.val k).getD rd
end

def tDGet2 (td ty tx : TE) : TE := fun σ H Q => td σ H fun x H1 => ∃ a, x = .ref a ∧ IsD H1 a ∧ ty σ H1 fun y H2 => tx σ H2 fun z H3 => ∃ o, DGet H3 a y o ∧ Q (o.getD z) H3
section
variable {X : Cx} {o e f : Expr} {apos cpos : Pos} {td ty tx : TE}
theorem pe_dget2 (hu : X.A.units + 1 < cLine) (ho : PE X o td) (he : PE X e ty) (hf : PE X f tx) (m : M2 X o "get" apos e f cpos) : PE X (.Call (.Attribute o "get" apos) [e, f] [] cpos) (tDGet2 td ty tx) := by
  intro pins s σ H Q I h
  refine wpAny_Call_method m.base m.few m.line PySem.F.plainAttrs_dict PySem.F.slot_dict_get PySem.F.type_dict_get (thn (ho pins s σ H _ I h) fun u s1 ⟨x, H1, I1, rx, a, ex, d, q1⟩ => ?_)
  subst ex
  obtain rfl : u = Value.ref a := rx
  obtain ⟨t1, t2, _⟩ := isD_at I1 d
  refine ⟨t1, t2, ?_⟩
  rw [m.trees]
  refine Calls.callWith_builtin rfl (Calls.evalArgs_plain (Calls.spliced_cons (thn (he pins s1 σ H1 _ I1 q1) fun iv s2 ⟨y, H2, I2, ry, q2⟩ =>
    Calls.spliced_cons (thn (hf pins s2 σ H2 _ I2 q2) fun fv s3 ⟨z, H3, I3, rz, ov, g, q3⟩ => Calls.spliced_nil ?_))))
  exact d_get2 hu I3 g ry rz fun w' s4 I4 rw' => ⟨_, H3, I4, rw', q3⟩
end

section
variable {X : Cx} {pins : List (Addr × Obj)} {σ : St} {H : Hp} {s : Shared} {a : Addr} {kvs : List (Key × V)} {A : Around} {E : Value → Shared → Prop}
end


section
variable {X : Cx} {pins : List (Addr × Obj)} {σ : St} {H : Hp} {s : Shared} {a : Addr} {y : V} {u : Value} {A : Around} {E : Value → Shared → Prop}
end
end L2

namespace Att
open PySem PySem.W PySem.Calls PyProof.Rows

theorem ints_of_wellAll {P : Params} {h : Heap} : ∀ (ns : List Int) (vs : List Value), WellAll P h vs (ns.map WData.int) → IntsAre vs ns := by
  intro ns
  induction ns with
  | nil =>
    intro vs w
    rw [List.map_nil] at w
    cases w
    exact .nil
  | cons n ns ih =>
    intro vs w
    rw [List.map_cons] at w
    cases w with
    | cons a b =>
      cases a
      exact .cons _ _ (ih _ b)

theorem script_of {l : OpenLaw} {n : Nat} (hn : l.most = some n) {P : Params} {h : Heap} {args : List WData} {vals : List Value}
    (hpre : l.row.toRowW.claim.pre args = true) (hwl : WellAll P h vals args) :
    ∃ a vs ns, vals = [Value.ref a] ∧ args = [WData.list (ns.map WData.int)] ∧ h.get? a = some { cls := .type "list", data := .seq vs.toArray } ∧ IntsAre vs ns ∧ ns.length ≤ n := by
  have hsh : WShape.hasAll [] args [.list .int] = true := (pre_splitW hpre).1
  have hc : l.pre.holds [] { args := args } = true := (pre_splitW hpre).2
  obtain ⟨d, r, rfl, h1, h2⟩ := hasAllW_cons hsh
  obtain rfl := hasAllW_nil h2
  obtain ⟨xs, rfl, h3⟩ := hasW_list h1
  obtain ⟨ns, rfl⟩ := items_int h3
  have hlen : ns.length ≤ n := by
    unfold OpenLaw.pre at hc
    have h4 : (WTm.not (.lt (.lit (.int (n : Int))) (.len (.arg 0)))).holds [] { args := [.list (ns.map .int)] } = true := by
      have h4 := (holds_andW hc).1
      rw [hn] at h4
      exact h4
    have h5 := condW_of h4 (w_not (w_lt w_lit (w_len_list (w_arg rfl))))
    rw [List.length_map] at h5
    refine Nat.le_of_not_lt fun q => ?_
    have q' : (n : Int) < ((ns.length : Nat) : Int) := by omega
    first
      | (rw [decide_eq_true q'] at h5; exact absurd h5 (by decide))
      | (simp at h5; omega)
  cases hwl with
  | cons w1 w2 =>
    cases w2
    cases w1 with
    | list ho hall => exact ⟨_, _, ns, rfl, rfl, ho, ints_of_wellAll ns _ hall, hlen⟩

theorem post_true (l : OpenLaw) (args : List WData) : l.row.toRowW.claim.post args (.bool true) args = true :=
  postW_of (r := l.row.toRowW) (X := (true == true))
    (show WShape.has [] (.bool true) .bool = true by first | rfl | decide | simp [WShape.has, WShape.arms, WShape.armsAll])
    (show (WTm.eq .res (.lit (.bool true))).value [] { args := args, res := some (.bool true), after := args } = some (.bool (true == true)) from w_eq_bool (w_res rfl) w_lit) rfl

theorem attach_call {l : OpenLaw} {n : Nat} {q : Program} {loose : List Str} {XP : (Str → Option Value) → Heap → Prop} {YP : World → Heap → Prop} {d : DefRec}
    (hn : l.most = some n) (hdf : d.params.defaults = [])
    (call : ∀ (w : World) (s₀ s₁ : Shared) (mg mb : Str → Option Value) (fa : Addr) (o : Obj) (pm cd doc : Value) (a : Addr) (vs : List Value) (ns : List Int),
      Ground q loose [] XP w s₀ mg mb s₁.heap → YP w s₁.heap →
      s₁.heap.get? fa = some o → o.data = .func (docDef d.name d.params d.body d.scope pm cd doc) → s₁.heap.CodeRec cd d.name → mg d.name = some (.ref fa) →
      s₁.heap.get? a = some { cls := .type "list", data := .seq vs.toArray } → IntsAre vs ns → ns.length ≤ n → s₁.gens = #[] →
      codeAny (model l.prog w) callerA (.call (.ref fa) ⟨[.ref a], []⟩) (fun r s' => r = .ok (.ret (.bool true)) ∧ OldK s₁.heap s'.heap ∧ s'.os = s₁.os ∧ AllBare s'.gens) s₁) :
    WalkO q loose XP YP l.row.toRowW d [] (fun f vs => PySem.call f vs) := by
  intro w s₀ s₁ mg mb G Y fa o pm cd doc dV kV ho hd hcd hD hmg hg args vals as hpre hlay hrd hwl hlo
  obtain rfl : dV = .none := Dflts.none hD hdf
  obtain rfl : kV = .none := Dflts.noKw hD
  obtain ⟨a, vs, ns, rfl, rfl, hobj, hints, hlen⟩ := script_of hn hpre hwl
  refine enter_call (codeAny_mono (call w s₀ s₁ mg mb fa o pm cd doc a vs ns G Y ho (fd_plain hd) hcd hmg hobj hints hlen hg) fun r s' hq => ?_)
  obtain ⟨rfl, h2, h3, h4⟩ := hq
  exact ⟨.inl ⟨.bool true, .bool true, [], rfl, fun _ => rfl, .bool true, post_true l _, fun _ => ⟨List.Pairwise.nil, fun _ hm => (nomatch hm)⟩⟩, h2, h3, h4⟩

section
variable {prog : Program} {w : World} {A : Around} {E : Value → Shared → Prop} {s : Shared} {K : Frag}

end
end Att

namespace L2
open PySem PySem.Spec PyProof.Rows

theorem vals_ints : ∀ {vs : List Value} {ns : List Int}, IntsAre vs ns → Vals (ns.map V.int) vs
  | _, _, .nil => .nil
  | _, _, .cons n t h => .cons ⟨t, rfl⟩ (vals_ints h)

def Only (H : Hp) : Prop := ∀ b, H b = none ∨ ∃ o xs, H b = some (.frz o (.lst xs))

theorem law_call {P : Program} {w : World} {K : PySem.W.Frag} {mg mb : Str → Option Value} {CX : CXT} {k : Nat} {fa a : Addr} {fd : FuncData} {x : Str} {sp : Sp} {s₁ : Shared} {vs : List Value} {ns : List Int}
    (KX : K.In s₁.heap) (hns : s₁.heap.Ns mainGlobals mg) (hb : s₁.heap.Ns builtinsNs mb) (hbb : ∀ x : Str, x ≠ "__name__" → mb x = bootBuiltins x) (hlim : s₁.heap.NoLimit) (hg : s₁.gens = #[])
    (ha : s₁.heap.get? a = some { cls := .type "list", data := .seq vs.toArray }) (hi : IntsAre vs ns) (hl : ns.length ≤ sizeLine) (hr : Room k callerA)
    (F : ∀ base : Heap, K.In base → base.Ns mainGlobals mg → FnOk P w K mg base CX k fa fd [x] sp) (hbind : ∀ (s : Shared) (u : Value), BindsTo s fd ⟨[u], []⟩ [(x, u)])
    (hsp : ∀ H : Hp, Only H → SqL K H a (ns.map V.int) → sp [.ref a] H (fun v _ => v = .bl true) fun _ _ _ => False)
    (hCX : ∀ H e s', CX [] H s₁ (fun _ _ _ => False) e s' → False) :
    codeAny (model P w) callerA (.call (.ref fa) ⟨[.ref a], []⟩) (fun r s' => r = .ok (.ret (.bool true)) ∧ OldK s₁.heap s'.heap ∧ s'.os = s₁.os ∧ AllBare s'.gens) s₁ := by
  have rv := vals_ints hi
  have lenV := hi.length
  -- from an abstract heap in which nothing but the script may be tracked
  have core : ∀ H : Hp, Only H → SqL K H a (ns.map V.int) → HOk P w H s₁.heap → (∀ b, H b ≠ none → b = a) → (H a ≠ none → K.lookup a = none) →
      codeAny (model P w) callerA (.call (.ref fa) ⟨[.ref a], []⟩) (fun r s' => r = .ok (.ret (.bool true)) ∧ OldK s₁.heap s'.heap ∧ s'.os = s₁.os ∧ AllBare s'.gens) s₁ := by
    intro H hO hS hok hA hK
    have base_of : ∀ {b : Addr} {o : Obj}, s₁.heap.get? b = some o → H b = none → (hidT s₁.heap H).get? b = some o := fun e n => hidT_get e n
    have noA : ∀ {b : Addr} {o : Obj} {es : Array DictEntry} {ep : Nat}, s₁.heap.get? b = some o → o.data = .dict es ep → H b = none := fun {b o es ep} e d => by
      cases q : H b with
      | none => rfl
      | some u =>
        have e' : b = a := hA b (by rw [q]; simp)
        subst e'
        rw [ha] at e; cases e
        have d' : Data.seq vs.toArray _ = Data.dict es ep := d
        cases d'
    have nsK : ∀ {b : Addr} {m : Str → Option Value}, s₁.heap.Ns b m → (hidT s₁.heap H).Ns b m := fun {b m} ⟨o, es, ep, e, d, r⟩ => ⟨o, es, ep, base_of e (noA e d), d, r⟩
    have hKb : K.In (hidT s₁.heap H) := fun b o e => base_of (KX b o e) (by
      cases q : H b with
      | none => rfl
      | some u =>
        have e' : b = a := hA b (by rw [q]; simp)
        subst e'
        rw [hK (by rw [q]; simp)] at e; cases e)
    have hM : Mod K mg (hidT s₁.heap H) := ⟨hKb, nsK hns, ⟨mb, nsK hb, hbb⟩, let ⟨mc, h1, h2⟩ := hlim; ⟨mc, nsK h1, h2⟩⟩
    have e0 : Env0 P w K mg (hidT s₁.heap H) callerA [] s₁ H := ⟨rfl, hM, fun b o e => of_hidT e, Nat.le_of_eq (hidT_size _ _), trivial, fun b hb => absurd (show b ∈ ([] : List Addr) from hb) (by simp), hok, .of_eq hg⟩
    refine codeAny_mono ((F _ hKb (nsK hns)).run callerA [] s₁ H ⟨[.ref a], []⟩ [.ref a] [.ref a] _ _ hr e0 (hbind s₁ (.ref a)) (.cons rfl .nil) (hsp H hO hS)) fun r s' h => ?_
    cases r with
    | error e => exact (hCX H e s' h).elim
    | ok fl =>
      cases fl with
      | next => exact False.elim h
      | brk => exact False.elim h
      | cont => exact False.elim h
      | ret u =>
        obtain ⟨v, H', os, bare, un, hok', r', q⟩ := h
        have q' : v = .bl true := q
        subst q'
        obtain rfl : u = Value.bool true := r'
        refine ⟨rfl, OldK.of_keep fun b o e => ?_, os, bare⟩
        cases q : H b with
        | none => exact un.keep b o e q (by intro z; exact absurd (show b ∈ ([] : List Addr) from z) (by simp)) (by simp)
        | some u =>
          rcases hO b with z | ⟨ob, xs, z⟩
          · rw [q] at z; cases z
          · have z2 := un.frzs b ob _ z
            obtain ⟨e1, _⟩ := hok b _ z
            obtain ⟨e2, _⟩ := hok' b _ z2
            rw [e] at e1; cases e1
            exact e2
  cases hk : K.lookup a with
  | some o =>
    -- the script is one of the module's own objects
    have e := KX a o hk
    rw [ha] at e
    cases e
    refine core (fun _ => none) (fun _ => .inl rfl) (.inr ⟨_, vs.toArray, _, hk, rfl, rfl, rfl, by rw [List.size_toArray, lenV]; exact hl, by simpa using rv⟩) (fun b u z => by have z' : (none : Option HO) = some u := z; cases z') (fun b z => absurd rfl z) fun z => absurd rfl z
  | none =>
    refine core (fun b => if b = a then some (.frz { cls := .type "list", data := .seq vs.toArray } (.lst (ns.map V.int))) else none) (fun b => ?_) (.inl (.inr ⟨{ cls := .type "list", data := .seq vs.toArray }, if_pos rfl⟩)) (fun b u z => ?_) (fun b z => ?_) fun _ => hk
    · by_cases hb : b = a
      · exact .inr ⟨_, _, if_pos hb⟩
      · exact .inl (if_neg hb)
    · by_cases hb : b = a
      · have z' := (if_pos hb).symm.trans z
        cases z'
        subst hb
        exact ⟨ha, by rw [List.length_map]; exact hl, vs, _, rv, ha⟩
      · have z' := (if_neg hb).symm.trans z
        cases z'
    · by_cases hb : b = a
      · exact hb
      · exact absurd (if_neg hb) z
end L2

namespace L2
open PySem PySem.Spec PyProof.Rows

abbrev KOf {K : PySem.W.Frag} {h : Heap} (_ : K.In h) : PySem.W.Frag := K

theorem walk_of {l : PySem.W.OpenLaw} {n k : Nat} {q : Program} {loose : List Str} {XP : (Str → Option Value) → Heap → Prop} {YP : World → Heap → Prop} {d : DefRec} {K : Params → PySem.W.Frag} {CX : World → CXT} {sp : World → Sp} {x : Str}
    (hn : l.most = some n) (hn2 : n ≤ sizeLine) (hdf : d.params.defaults = []) (hr : Room k callerA)
    (hY : ∀ (w : World) (h : Heap), YP w h → (K w.params).In h)
    (F : ∀ (w : World) (mg : Str → Option Value) (fa : Addr) (h : Heap), (K w.params).In h → h.Ns mainGlobals mg → mg d.name = some (.ref fa) →
      ∃ fd : FuncData, (∀ (s : Shared) (u : Value), BindsTo s fd ⟨[u], []⟩ [(x, u)]) ∧
        ∀ base : Heap, (K w.params).In base → base.Ns mainGlobals mg → FnOk l.prog w (K w.params) mg base (CX w) k fa fd [x] (sp w))
    (hsp : ∀ (w : World) (H : Hp) (a : Addr) (ns : List Int), ns.length ≤ n → Only H → SqL (K w.params) H a (ns.map V.int) → sp w [.ref a] H (fun v _ => v = .bl true) fun _ _ _ => False)
    (hCX : ∀ (w : World) (H : Hp) (s : Shared) (e : Value) (s' : Shared), CX w [] H s (fun _ _ _ => False) e s' → False) :
    PySem.W.WalkO q loose XP YP l.row.toRowW d [] (fun f vs => PySem.call f vs) := by
  refine Att.attach_call hn hdf fun w s₀ s₁ mg mb fa o pm cd doc a vs ns G Y ho hd hcd hmg hobj hints hlen hg => ?_
  have KX := hY w _ Y
  obtain ⟨fd, hb, hF⟩ := F w mg fa _ KX G.T.g hmg
  exact law_call KX G.T.g G.T.b G.T.builtins G.T.nolimit hg hobj hints (Nat.le_trans hlen hn2) hr hF hb (fun H hO hS => hsp w H a ns hlen hO hS) fun H e s' => hCX w H s₁ e s'
end L2

/- THE LAST THEOREM (shape; LID, My.* are yours):
   My.Adr: a structure of the addresses that your layer names (classes, functions); My.Txt K t: a structure (Prop) of the equations over K;
   My.txt_mk : {K} {implicit addresses ..} (e1 : nsIn K mainGlobals "law" = some (some (.ref f))) (e2 : K.lookup f = some ⟨oc, od, .func (fnOf "law" "law" params body scope dV kV doc pm an cdv ct), sl⟩) (e3 : codeIn K cdv "law" = true) .. : ∃ t, My.Txt K t

set_option maxRecDepth 100000 in
set_option maxHeartbeats 0 in
theorem PySem.Challenge.cw_LID_holds : PySem.Challenge.rw_LID.Holds := by
  w_on; o_law; k_head; (case hw => w_witness2)
  k_fill
  refine L2.walk_of (l := PySem.Challenge.rw_LID) (n := 63) (k := 40) (x := "script") (CX := fun w => ..) (sp := fun _ => My.sp_law) rfl (by decide) rfl ⟨rfl, by decide, by decide⟩ (fun w h Y => PySem.W.kIn_of Y) ?F ?S ?C
  case F =>
    intro w mg fa h KX G hmg
    have T : ∃ t, My.Txt (L2.KOf KX) t := by
      dsimp only [L2.KOf]                          -- K must stand as «<heap const> w.params» for k_is
      refine' My.txt_mk ?e1 ?e2 ?e3 ..
      (case e1 => PySem.W.k_is)                    -- in the order: a name -> its address -> its object -> its parts
      (case e2 => PySem.W.k_is)
      ..
    obtain ⟨t, T⟩ := T
    have e0 := hmg.symm.trans (PySem.W.mg_of KX G T.law)
    cases e0                                       -- fa is the law's own address
    exact ⟨_, fun s u => .of_eq rfl, fun base kb nb => My.law_fn T kb nb⟩     -- if «.of_eq rfl» comes too early: refine' ⟨_, ?b, fun base kb nb => My.law_fn T kb nb⟩; exact fun s u => .of_eq rfl
  case S => exact fun w H a ns hl hO hS => ..
  case C => exact ..
(the tactic k_is has no namespace: write k_is) -/

namespace L2
open PySem PySem.Spec PyProof.Rows

def defArgs (s : Stmt) : Arguments := match s with
  | .FunctionDef _ a _ _ _ _ _ _ _ _ => a
  | _ => { posonlyargs := [], args := [], vararg := none, kwonlyargs := [], kw_defaults := [], kwarg := none, defaults := [] }
def defBody (s : Stmt) : List Stmt := match s with
  | .FunctionDef _ _ b _ _ _ _ _ _ _ => b
  | _ => []
def defScope (s : Stmt) : Scope := match s with
  | .FunctionDef _ _ _ _ _ _ sc _ _ _ => sc
  | _ => { kind := .function, names := [], isGenerator := false, isCoroutine := false }

abbrev CX0 : CXT := fun _ _ _ _ _ _ => False
abbrev E0 : XK := fun _ _ _ => False
theorem pass0 {X : Cx} : Passes CX0 X E0 := fun _ _ _ _ _ _ _ h => h.elim

structure Fun (K : PySem.W.Frag) (x qual : Str) (st : Stmt) (f : Addr) (fd : FuncData) : Prop where
  ex : ∃ (oc : Value) (od : Option Addr) (kV doc pm : Value) (an : Option Addr) (cdv ct : Value) (osl : Array (Option Value)),
    fd = PySem.W.fnOf x qual (defArgs st) (defBody st) (defScope st) .none kV doc pm an cdv ct ∧ K.lookup f = some ⟨oc, od, .func fd, osl⟩ ∧ PySem.W.codeIn K cdv qual = true
  kp : PySem.W.keepIn K (.ref f) = true
section
variable {P : Program} {w : World} {K : PySem.W.Frag} {mg : Str → Option Value} {base : Heap}
theorem Fun.ok {x qual : Str} {st : Stmt} {f : Addr} {fd : FuncData} {N ps : List Str} {k : Nat} {sp : Sp} (F : Fun K x qual st f fd) (S : FnScope N ps (defScope st)) (len : ∀ vs H Q E, sp vs H Q E → vs.length = ps.length)
    (hbody : ∀ (cdv : Value) (A : Around) (outer : List Env) (s : Shared) (H : Hp) (vs : List V) (Q : VK) (E : XK), Room k (A.deeper (envOfC qual (defScope st) s.heap.objs.size f cdv)) → sp vs H Q E →
      ∃ t, PSs (cxOf CX0 P w K mg base N qual (defScope st) f cdv A outer s H E).nox (defBody st) t ∧ t { nx := fun _ H' => Q .non H', rt := Q } (start N vs) H) : FnOk P w K mg base CX0 (k + 1) f fd ps sp := by
  obtain ⟨oc, od, kV, doc, pm, an, cdv, ct, osl, rfl, lk, hcd⟩ := F.ex
  refine fn_of lk hcd S len fun A outer s H vs Q E hr hsp => ?_
  obtain ⟨t, h, q⟩ := hbody cdv A outer s H vs Q E hr hsp
  exact ⟨t, h.nox, q⟩
theorem Fun.binds {x qual : Str} {st : Stmt} {f : Addr} {fd : FuncData} {ps : List Str} (F : Fun K x qual st f fd)
    (h : ∀ (kV doc pm : Value) (an : Option Addr) (cdv ct : Value) (us : List Value), us.length = ps.length → bindArgs (PySem.W.fnOf x qual (defArgs st) (defBody st) (defScope st) .none kV doc pm an cdv ct) ⟨us, []⟩ = pure (ps.zip us)) : Binds K fd ps [] := by
  obtain ⟨oc, od, kV, doc, pm, an, cdv, ct, osl, rfl, lk, hcd⟩ := F.ex
  exact .all (h kV doc pm an cdv ct)
theorem fun_mk {x qual : Str} {st : Stmt} {f : Addr} {oc : Value} {od an : Option Addr} {osl : Array (Option Value)} {kV doc pm cdv ct : Value} (l : K.lookup f = some ⟨oc, od, .func (PySem.W.fnOf x qual (defArgs st) (defBody st) (defScope st) .none kV doc pm an cdv ct), osl⟩)
    (c : PySem.W.codeIn K cdv qual = true) (k : PySem.W.keepIn K (.ref f) = true) : Fun K x qual st f (PySem.W.fnOf x qual (defArgs st) (defBody st) (defScope st) .none kV doc pm an cdv ct) := ⟨⟨oc, od, kV, doc, pm, an, cdv, ct, osl, rfl, l, c⟩, k⟩
end
theorem hu_of {A : Around} {k : Nat} (hr : Room k A) : A.units + 1 < cLine := Nat.lt_of_le_of_lt (Nat.add_le_add_left (by decide : 1 ≤ 64) _) hr.units
theorem small1000 {n : Nat} (h : n ≤ 1000) : n < sizeLine := Nat.lt_of_le_of_lt h (by decide)

section
variable {X : Cx}
theorem pv (i : Nat) {x : Str} {pos : Pos} (hN : X.N[i]? = some x := by rfl) (hv : Vis X.env.scope x := by first | exact Or.inl rfl | exact Or.inr (Or.inl rfl) | exact Or.inr (Or.inr rfl)) (hd : (x == ("__debug__" : Str)) = false := by decide)
    (hcd : (x == ("__classdict__" : Str)) = false := by decide) : PE X (.Name x pos) (tVar i) := pe_var hN hv hd hcd
end

theorem iteF {A B : Prop} (h : B) : if false = true then A else B := by
  rw [if_neg Bool.false_ne_true]
  exact h
theorem iteT {A B : Prop} (h : A) : if true = true then A else B := by
  rw [if_pos rfl]
  exact h
theorem ite2 {c A B : Prop} [Decidable c] (h1 : c → A) (h2 : ¬ c → B) : if c then A else B := by
  by_cases h : c
  · rw [if_pos h]
    exact h1 h
  · rw [if_neg h]
    exact h2 h
theorem iteNS {c A B : Prop} [Decidable c] (hc : c) (h : B) : if (!decide c) = true then A else B := by
  rw [decide_eq_true hc]
  exact iteF h

def Same (H H' : Hp) : Prop := ∀ b o, H b = some o → H' b = some o
theorem Same.refl (H : Hp) : Same H H := fun _ _ h => h
theorem Same.trans {H H1 H2 : Hp} (a : Same H H1) (b : Same H1 H2) : Same H H2 := fun c o h => b c o (a c o h)
theorem Same.free {H H' : Hp} (e : Same H H') {l : Addr} (h : H' l = Option.none) : H l = Option.none := by
  cases q : H l with
  | none => rfl
  | some o =>
    rw [e l o q] at h
    cases h
theorem Same.seq {K : PySem.W.Frag} {H H' : Hp} {a : Addr} {xs : List V} (e : Same H H') (h : SqL K H a xs) : SqL K H' a xs := by
  rcases h with (h | ⟨o, h⟩) | h
  · exact .inl (.inl (e _ _ h))
  · exact .inl (.inr ⟨o, e _ _ h⟩)
  · exact .inr h

section
variable {κ : Type} [DecidableEq κ]
end
end L2

set_option maxHeartbeats 4000000

namespace Sh
section
variable {α β : Type} [DecidableEq α] [DecidableEq β]
def dd (l : List α) : List α := l.foldl (fun s x => if x ∈ s then s else s ++ [x]) []
def nm (l : List α) : List Nat := l.map fun x => (dd l).idxOf x
theorem dd_nil : dd ([] : List α) = [] := rfl
theorem dd_snoc (l : List α) (x : α) : dd (l ++ [x]) = if x ∈ dd l then dd l else dd l ++ [x] := by
  unfold dd
  rw [List.foldl_append]
  rfl
theorem snoc_ind {γ : Type} {P : List γ → Prop} (h0 : P []) (h1 : ∀ l x, P l → P (l ++ [x])) (l : List γ) : P l := by
  have : ∀ r : List γ, P r.reverse := by
    intro r
    induction r with
    | nil => exact h0
    | cons a r ih => rw [List.reverse_cons]; exact h1 _ _ ih
  have h := this l.reverse
  rw [List.reverse_reverse] at h
  exact h
theorem mem_dd {l : List α} {x : α} : x ∈ dd l ↔ x ∈ l := by
  induction l using snoc_ind with
  | h0 => simp [dd_nil]
  | h1 l y ih =>
    rw [dd_snoc]
    split
    · rename_i h
      rw [ih, List.mem_append, List.mem_singleton]
      constructor
      · exact Or.inl
      · rintro (h' | rfl)
        · exact h'
        · exact ih.mp h
    · rw [List.mem_append, List.mem_append, ih]
theorem nodup_dd (l : List α) : (dd l).Nodup := by
  induction l using snoc_ind with
  | h0 => simp [dd_nil]
  | h1 l y ih =>
    rw [dd_snoc]
    split
    · exact ih
    · rename_i h
      rw [List.nodup_append]
      refine ⟨ih, by simp, ?_⟩
      intro a ha b hb
      rw [List.mem_singleton] at hb
      subst hb
      intro e
      subst e
      exact h ha
theorem idx_snoc_mem {l : List α} {x y : α} (h : y ∈ l) : (l ++ [x]).idxOf y = l.idxOf y := by
  rw [List.idxOf_append, if_pos h]
theorem idx_snoc_new {l : List α} {x : α} (h : ¬ x ∈ l) : (l ++ [x]).idxOf x = l.length := by
  rw [List.idxOf_append, if_neg h]
  simp
theorem nm_snoc (l : List α) (x : α) : nm (l ++ [x]) = nm l ++ [if x ∈ dd l then (dd l).idxOf x else (dd l).length] := by
  unfold nm
  rw [List.map_append, dd_snoc]
  by_cases h : x ∈ dd l
  · simp only [if_pos h]
    rfl
  · simp only [if_neg h]
    congr 1
    · apply List.map_congr_left
      intro y hy
      exact idx_snoc_mem (mem_dd.mpr hy)
    · show [(dd l ++ [x]).idxOf x] = _
      rw [idx_snoc_new h]
theorem length_nm (l : List α) : (nm l).length = l.length := by simp [nm]
theorem nm_get {l : List α} {i : Nat} (h : i < l.length) : (nm l)[i]? = some ((dd l).idxOf l[i]) := by
  unfold nm
  rw [List.getElem?_map, List.getElem?_eq_getElem h]
  rfl
theorem idx_inj {l : List α} {x y : α} (hx : x ∈ l) (e : l.idxOf x = l.idxOf y) (hy : y ∈ l) : x = y := by
  have h1 := List.idxOf_lt_length_of_mem hx
  have h2 := List.idxOf_lt_length_of_mem hy
  have e1 : l[l.idxOf x]'h1 = x := List.getElem_idxOf h1
  have e2 : l[l.idxOf y]'h2 = y := List.getElem_idxOf h2
  rw [← e1, ← e2]
  simp only [e]
theorem nm_alike {l : List α} {i j : Nat} (hi : i < l.length) (hj : j < l.length) : (nm l)[i]? = (nm l)[j]? ↔ l[i] = l[j] := by
  rw [nm_get hi, nm_get hj, Option.some.injEq]
  constructor
  · intro e
    exact idx_inj (mem_dd.mpr (List.getElem_mem hi)) e (mem_dd.mpr (List.getElem_mem hj))
  · intro e
    rw [e]
def Alike (l : List α) (m : List β) : Prop := l.length = m.length ∧ ∀ i j : Nat, i < l.length → j < l.length → (l[i]? = l[j]? ↔ m[i]? = m[j]?)
theorem Alike.init {l : List α} {m : List β} {x : α} {y : β} (h : Alike (l ++ [x]) (m ++ [y])) : Alike l m := by
  obtain ⟨hl, h⟩ := h
  have hl' : l.length = m.length := by simpa using hl
  refine ⟨hl', fun i j hi hj => ?_⟩
  have q := h i j (by simp; omega) (by simp; omega)
  rwa [List.getElem?_append_left hi, List.getElem?_append_left hj, List.getElem?_append_left (by omega), List.getElem?_append_left (by omega)] at q
theorem mem_ix {γ : Type} {l : List γ} {x : γ} (h : x ∈ l) : ∃ i, i < l.length ∧ l[i]? = some x := by
  obtain ⟨i, hi, e⟩ := List.getElem_of_mem h
  exact ⟨i, hi, by rw [List.getElem?_eq_getElem hi, e]⟩
theorem Alike.symm {l : List α} {m : List β} (h : Alike l m) : Alike m l :=
  ⟨h.1.symm, fun i j hi hj => (h.2 i j (by rw [h.1]; exact hi) (by rw [h.1]; exact hj)).symm⟩
theorem Alike.last {l : List α} {m : List β} {x : α} {y : β} (h : Alike (l ++ [x]) (m ++ [y])) {i : Nat} (hi : i < l.length) (e : l[i]? = some x) : m[i]? = some y := by
  obtain ⟨hl, h⟩ := h
  have hl' : l.length = m.length := by simpa using hl
  have q := h i l.length (by simp; omega) (by simp)
  rw [List.getElem?_append_left hi, List.getElem?_append_right (Nat.le_refl _), List.getElem?_append_left (by omega), hl', List.getElem?_append_right (Nat.le_refl _)] at q
  simp only [Nat.sub_self, List.getElem?_cons_zero] at q
  exact q.mp e
theorem alike_nm_dd {l : List α} : ∀ {m : List β}, Alike l m → nm l = nm m ∧ (dd l).length = (dd m).length := by
  induction l using snoc_ind with
  | h0 =>
    intro m h
    have : m = [] := List.eq_nil_of_length_eq_zero h.1.symm
    subst this
    exact ⟨rfl, rfl⟩
  | h1 l x ih =>
    intro m h
    have hm : m ≠ [] := by
      intro e
      have := h.1
      simp [e] at this
    obtain ⟨m', y, rfl⟩ : ∃ m' y, m = m' ++ [y] := ⟨m.dropLast, m.getLast hm, (List.dropLast_concat_getLast hm).symm⟩
    obtain ⟨h1, h2⟩ := ih h.init
    have hl := h.init.1
    rw [nm_snoc, nm_snoc, dd_snoc, dd_snoc, h1]
    by_cases hx : x ∈ dd l
    · obtain ⟨i, hi, e⟩ := mem_ix (mem_dd.mp hx)
      have e2 := h.last hi e
      have hy : y ∈ dd m' := mem_dd.mpr (List.mem_of_getElem? e2)
      rw [if_pos hx, if_pos hy, if_pos hx, if_pos hy]
      refine ⟨?_, h2⟩
      have q : (nm l)[i]? = (nm m')[i]? := by rw [h1]
      rw [nm_get hi, nm_get (by omega)] at q
      have a1 : l[i] = x := by rw [List.getElem?_eq_getElem hi] at e; exact Option.some.inj e
      have a2 : m'[i]'(by omega) = y := by rw [List.getElem?_eq_getElem (by omega)] at e2; exact Option.some.inj e2
      rw [a1, a2] at q
      rw [Option.some.inj q]
    · have hy : ¬ y ∈ dd m' := fun hy => by
        obtain ⟨i, hi, e⟩ := mem_ix (mem_dd.mp hy)
        have e2 := h.symm.last hi e
        exact hx (mem_dd.mpr (List.mem_of_getElem? e2))
      rw [if_neg hx, if_neg hy, if_neg hx, if_neg hy, h2]
      refine ⟨rfl, ?_⟩
      simp [h2]
theorem nm_eq_iff {l : List α} {m : List β} : nm l = nm m ↔ Alike l m := by
  constructor
  · intro e
    have hl : l.length = m.length := by rw [← length_nm l, e, length_nm]
    refine ⟨hl, fun i j hi hj => ?_⟩
    rw [List.getElem?_eq_getElem hi, List.getElem?_eq_getElem hj, List.getElem?_eq_getElem (by omega : i < m.length), List.getElem?_eq_getElem (by omega : j < m.length)]
    rw [Option.some.injEq, Option.some.injEq, ← nm_alike hi hj, ← nm_alike (by omega) (by omega), e]
  · intro h
    exact (alike_nm_dd h).1
end
def fr (l : List Int) : Int := l.foldl (fun f m => max f (m + 1)) 0
theorem fr_snoc (l : List Int) (x : Int) : fr (l ++ [x]) = max (fr l) (x + 1) := by
  unfold fr
  rw [List.foldl_append]
  rfl
theorem fr_nonneg (l : List Int) : 0 ≤ fr l := by
  induction l using snoc_ind with
  | h0 => exact Int.le_refl 0
  | h1 l x ih => rw [fr_snoc]; omega
def Can (l : List Int) : Prop := ∀ i x, l[i]? = some x → 0 ≤ x ∧ x ≤ fr (l.take i)
theorem can_nil : Can [] := fun i x h => by simp at h
theorem can_snoc {l : List Int} {x : Int} : Can (l ++ [x]) ↔ Can l ∧ 0 ≤ x ∧ x ≤ fr l := by
  constructor
  · intro h
    refine ⟨fun i y e => ?_, ?_⟩
    · have hi : i < l.length := (List.getElem?_eq_some_iff.mp e).1
      have q := h i y (by rw [List.getElem?_append_left hi]; exact e)
      rwa [List.take_append_of_le_length (by omega)] at q
    · have q := h l.length x (by simp)
      rwa [List.take_append_of_le_length (Nat.le_refl _), List.take_length] at q
  · rintro ⟨h, h1, h2⟩ i y e
    by_cases hi : i < l.length
    · rw [List.getElem?_append_left hi] at e
      rw [List.take_append_of_le_length (by omega)]
      exact h i y e
    · have hl : i < (l ++ [x]).length := (List.getElem?_eq_some_iff.mp e).1
      have : i = l.length := by simp at hl; omega
      subst this
      have : y = x := by simpa using e.symm
      subst this
      rw [List.take_append_of_le_length (Nat.le_refl _), List.take_length]
      exact ⟨h1, h2⟩
def upto (n : Nat) : List Int := (List.range n).map Int.ofNat
theorem mem_upto {n : Nat} {x : Int} : x ∈ upto n ↔ 0 ≤ x ∧ x < n := by
  unfold upto
  rw [List.mem_map]
  constructor
  · rintro ⟨k, hk, rfl⟩
    have := List.mem_range.mp hk
    exact ⟨Int.natCast_nonneg _, by show ((k : Nat) : Int) < n; omega⟩
  · rintro ⟨h0, h1⟩
    exact ⟨x.toNat, List.mem_range.mpr (by omega), by show ((x.toNat : Nat) : Int) = x; omega⟩
theorem upto_succ (n : Nat) : upto (n + 1) = upto n ++ [(n : Int)] := by
  unfold upto
  rw [List.range_succ, List.map_append]
  rfl
theorem length_upto (n : Nat) : (upto n).length = n := by simp [upto]
theorem idx_upto {n : Nat} {x : Int} (h0 : 0 ≤ x) (h1 : x < n) : (((upto n).idxOf x : Nat) : Int) = x := by
  induction n with
  | zero => omega
  | succ n ih =>
    rw [upto_succ]
    by_cases h : x < n
    · rw [List.idxOf_append, if_pos (mem_upto.mpr ⟨h0, h⟩)]
      exact ih h
    · have e : x = n := by omega
      subst e
      rw [List.idxOf_append, if_neg (fun q => by have := (mem_upto.mp q).2; omega), length_upto]
      simp
theorem can_dd {l : List Int} (h : Can l) : dd l = upto (fr l).toNat := by
  induction l using snoc_ind with
  | h0 => rfl
  | h1 l x ih =>
    obtain ⟨h, h1, h2⟩ := can_snoc.mp h
    have q := ih h
    have z := fr_nonneg l
    rw [dd_snoc, fr_snoc, q]
    by_cases hx : x < fr l
    · rw [if_pos (mem_upto.mpr ⟨h1, by omega⟩)]
      congr 1
      omega
    · rw [if_neg (fun e => by have := (mem_upto.mp e).2; omega)]
      have e : x = fr l := by omega
      have e2 : (max (fr l) (x + 1)).toNat = (fr l).toNat + 1 := by omega
      rw [e2, upto_succ]
      congr 2
      omega
theorem can_nm {l : List Int} (h : Can l) : (nm l).map Int.ofNat = l := by
  induction l using snoc_ind with
  | h0 => rfl
  | h1 l x ih =>
    obtain ⟨h, h1, h2⟩ := can_snoc.mp h
    rw [nm_snoc, List.map_append, ih h, can_dd h]
    have z := fr_nonneg l
    congr 1
    by_cases hx : x < fr l
    · rw [if_pos (mem_upto.mpr ⟨h1, by omega⟩)]
      show [(((upto (fr l).toNat).idxOf x : Nat) : Int)] = _
      rw [idx_upto h1 (by omega)]
    · rw [if_neg (fun e => by have := (mem_upto.mp e).2; omega), length_upto]
      show [(((fr l).toNat : Nat) : Int)] = _
      congr 1
      omega
def mk {α : Type} [DecidableEq α] (l : List α) : List Int := (nm l).map Int.ofNat
theorem fr_mk {α : Type} [DecidableEq α] (l : List α) : fr (mk l) = (dd l).length ∧ Can (mk l) := by
  induction l using snoc_ind with
  | h0 => exact ⟨rfl, can_nil⟩
  | h1 l x ih =>
    obtain ⟨h1, h2⟩ := ih
    unfold mk at h1 h2 ⊢
    rw [nm_snoc, List.map_append, dd_snoc]
    have e : List.map Int.ofNat [if x ∈ dd l then (dd l).idxOf x else (dd l).length] = [((if x ∈ dd l then (dd l).idxOf x else (dd l).length : Nat) : Int)] := rfl
    rw [e, fr_snoc, can_snoc, h1]
    by_cases hx : x ∈ dd l
    · have q := List.idxOf_lt_length_of_mem hx
      simp only [if_pos hx]
      refine ⟨by omega, h2, by omega, by omega⟩
    · simp only [if_neg hx, List.length_append, List.length_singleton]
      refine ⟨by omega, h2, by omega, by omega⟩
theorem can_mk {α : Type} [DecidableEq α] (l : List α) : Can (mk l) := (fr_mk l).2
theorem length_mk {α : Type} [DecidableEq α] (l : List α) : (mk l).length = l.length := by simp [mk, length_nm]
theorem mk_can {l : List Int} (h : Can l) : mk l = l := can_nm h
theorem ofNat_map_inj : ∀ {a b : List Nat}, a.map Int.ofNat = b.map Int.ofNat → a = b
  | [], [], _ => rfl
  | [], _ :: _, e => by simp at e
  | _ :: _, [], e => by simp at e
  | x :: a, y :: b, e => by
    rw [List.map_cons, List.map_cons, List.cons.injEq] at e
    rw [ofNat_map_inj e.2]
    congr 1
    exact Int.ofNat.inj e.1
theorem mk_eq_iff {α β : Type} [DecidableEq α] [DecidableEq β] {l : List α} {m : List β} : mk l = mk m ↔ Alike l m := by
  rw [← nm_eq_iff]
  exact ⟨ofNat_map_inj, fun e => by unfold mk; rw [e]⟩
def Fin (a b : List Int) : Prop := ∀ i j : Nat, i < a.length → j < a.length → a[i]? = a[j]? → b[i]? = b[j]?
theorem meet_fin {a b : List Int} (ha : Can a) (hl : a.length = b.length) : mk (a.zip b) = a ↔ Fin a b := by
  have e : mk (a.zip b) = a ↔ Alike (a.zip b) a := by
    rw [← mk_eq_iff, mk_can ha]
  rw [e]
  have hz : (a.zip b).length = a.length := by simp [hl]
  have key : ∀ i j : Nat, i < a.length → j < a.length → ((a.zip b)[i]? = (a.zip b)[j]? ↔ a[i]? = a[j]? ∧ b[i]? = b[j]?) := fun i j hi hj => by
    have q : ∀ k, k < a.length → ∃ x y, a[k]? = some x ∧ b[k]? = some y ∧ (a.zip b)[k]? = some (x, y) := fun k hk =>
      ⟨a[k], b[k]'(by omega), List.getElem?_eq_getElem hk, List.getElem?_eq_getElem (by omega), by rw [List.getElem?_eq_getElem (by omega)]; simp⟩
    obtain ⟨x, y, h1, h2, h3⟩ := q i hi
    obtain ⟨x', y', h1', h2', h3'⟩ := q j hj
    rw [h1, h2, h3, h1', h2', h3']
    simp
  constructor
  · intro h i j hi hj q
    exact ((key i j hi hj).mp ((h.2 i j (by omega) (by omega)).mpr q)).2
  · intro h
    refine ⟨hz, fun i j hi hj => ?_⟩
    rw [key i j (by omega) (by omega)]
    exact ⟨fun q => q.1, fun q => ⟨q, h i j (by omega) (by omega) q⟩⟩
end Sh

namespace Sh
def goodB : Int → List Int → Bool
  | _, [] => true
  | f, m :: r => if m < 0 ∨ f < m then false else goodB (if m = f then f + 1 else f) r
theorem goodB_cons (f m : Int) (r : List Int) : goodB f (m :: r) = if m < 0 ∨ f < m then false else goodB (if m = f then f + 1 else f) r := rfl
def isSh (ns : List Int) : Bool := decide (1 ≤ ns.length ∧ ns.length ≤ 12) && goodB 0 ns
theorem goodB_iff (f : Int) (l p : List Int) (hp : Can p) (hf : f = fr p) : goodB f l = true ↔ Can (p ++ l) := by
  induction l generalizing f p with
  | nil => simp [goodB, hp]
  | cons m r ih =>
    unfold goodB
    by_cases c : m < 0 ∨ f < m
    · rw [if_pos c]
      simp only [Bool.false_eq_true, false_iff]
      intro h
      have q := h p.length m (by simp)
      rw [List.take_append_of_le_length (Nat.le_refl _), List.take_length] at q
      omega
    · rw [if_neg c]
      have hp' : Can (p ++ [m]) := can_snoc.mpr ⟨hp, by omega, by omega⟩
      have hf' : (if m = f then f + 1 else f) = fr (p ++ [m]) := by
        rw [fr_snoc]
        split <;> omega
      rw [ih _ (p ++ [m]) hp' hf', List.append_assoc]
      rfl
theorem goodB_can (l : List Int) : goodB 0 l = true ↔ Can l := goodB_iff 0 l [] can_nil rfl
theorem isSh_of {ns : List Int} (h : Can ns) (h1 : 1 ≤ ns.length) (h2 : ns.length ≤ 12) : isSh ns = true := by
  unfold isSh
  rw [(goodB_can ns).mpr h, decide_eq_true ⟨h1, h2⟩]
  rfl
theorem isSh_can {ns : List Int} (h : isSh ns = true) : Can ns ∧ 1 ≤ ns.length ∧ ns.length ≤ 12 := by
  unfold isSh at h
  rw [Bool.and_eq_true] at h
  exact ⟨(goodB_can ns).mp h.2, of_decide_eq_true h.1⟩
def cell (ns : List Int) (k : Int) : Int := ns.getD k.toNat 0
def finB (a b : List Int) : Bool := decide (∀ i, i < a.length → ∀ j, j < i → a[i]? = a[j]? → b[i]? = b[j]?)
theorem finB_iff {a b : List Int} : finB a b = true ↔ Fin a b := by
  unfold finB
  rw [decide_eq_true_iff]
  constructor
  · intro h i j hi hj e
    rcases Nat.lt_trichotomy i j with c | c | c
    · exact (h j hj i c e.symm).symm
    · subst c; rfl
    · exact h i hi j c e
  · intro h i hi j hj e
    exact h i j hi (by omega) e
theorem length_dd_le {α : Type} [DecidableEq α] (l : List α) : (dd l).length ≤ l.length := by
  induction l using snoc_ind with
  | h0 => exact Nat.le_refl _
  | h1 l x ih =>
    rw [dd_snoc]
    split
    · rw [List.length_append]; omega
    · rw [List.length_append, List.length_append]; simpa using ih
theorem pick_ok {f c : Int} (hf : 0 ≤ f) {k : Nat} {x : Int} (h : [c % (f + 1), 0, f, c % 3 % (f + 1)][k]? = some x) : 0 ≤ x ∧ x ≤ f := by
  have a1 := Int.emod_nonneg c (by omega : f + 1 ≠ 0)
  have a2 := Int.emod_lt_of_pos c (by omega : 0 < f + 1)
  have a3 := Int.emod_nonneg (c % 3) (by omega : f + 1 ≠ 0)
  have a4 := Int.emod_lt_of_pos (c % 3) (by omega : 0 < f + 1)
  match k with
  | 0 => simp at h; omega
  | 1 => simp at h; omega
  | 2 => simp at h; omega
  | 3 => simp at h; omega
  | k + 4 => simp at h
end Sh

namespace Sh
def Rel (c : List Int) (i j : Nat) : Prop := c[i]? = c[j]?
theorem Rel.symm {c : List Int} {i j : Nat} (h : Rel c i j) : Rel c j i := Eq.symm h
theorem Rel.trans {c : List Int} {i j k : Nat} (h : Rel c i j) (h' : Rel c j k) : Rel c i k := Eq.trans h h'
inductive Conn (a b : List Int) : Nat → Nat → Prop
  | refl (i : Nat) : Conn a b i i
  | one {i j : Nat} : i < a.length → j < a.length → Rel a i j → Conn a b i j
  | two {i j : Nat} : i < a.length → j < a.length → Rel b i j → Conn a b i j
  | trans {i j k : Nat} : Conn a b i j → Conn a b j k → Conn a b i k
theorem Conn.symm {a b : List Int} {i j : Nat} (h : Conn a b i j) : Conn a b j i := by
  induction h with
  | refl i => exact .refl i
  | one h1 h2 h => exact .one h2 h1 h.symm
  | two h1 h2 h => exact .two h2 h1 h.symm
  | trans _ _ ih1 ih2 => exact .trans ih2 ih1
theorem conn_le {a b c : List Int} {i j : Nat} (h1 : ∀ i j, i < a.length → j < a.length → Rel a i j → Rel c i j) (h2 : ∀ i j, i < a.length → j < a.length → Rel b i j → Rel c i j) (h : Conn a b i j) : Rel c i j := by
  induction h with
  | refl i => rfl
  | one x y z => exact h1 _ _ x y z
  | two x y z => exact h2 _ _ x y z
  | trans _ _ ih1 ih2 => exact ih1.trans ih2
theorem can_ext {r s : List Int} (hr : Can r) (hs : Can s) (hl : r.length = s.length) (h : ∀ i j, i < r.length → j < r.length → (Rel r i j ↔ Rel s i j)) : r = s := by
  rw [← mk_can hr, ← mk_can hs]
  exact mk_eq_iff.mpr ⟨hl, h⟩
theorem mk_alike {α : Type} [DecidableEq α] (l : List α) : Alike l (mk l) := by
  rw [← mk_eq_iff]
  exact (mk_can (can_mk l)).symm
theorem rel_mk {α : Type} [DecidableEq α] (l : List α) {i j : Nat} (hi : i < l.length) (hj : j < l.length) : Rel (mk l) i j ↔ l[i]? = l[j]? := ((mk_alike l).2 i j hi hj).symm
def sub (p q m : Int) : Int := if m = q then p else m
def stp (c : List Int) (p q : Int) : List Int := mk (c.map (sub p q))
theorem length_stp (c : List Int) (p q : Int) : (stp c p q).length = c.length := by unfold stp; rw [length_mk, List.length_map]
theorem can_stp (c : List Int) (p q : Int) : Can (stp c p q) := can_mk _
theorem rel_stp {c : List Int} {p q : Int} {i j : Nat} (hi : i < c.length) (hj : j < c.length) : Rel (stp c p q) i j ↔ sub p q c[i] = sub p q c[j] := by
  unfold stp
  rw [rel_mk _ (by rw [List.length_map]; exact hi) (by rw [List.length_map]; exact hj), List.getElem?_map, List.getElem?_map, List.getElem?_eq_getElem hi, List.getElem?_eq_getElem hj]
  simp
theorem rel_get {c : List Int} {i j : Nat} (hi : i < c.length) (hj : j < c.length) : Rel c i j ↔ c[i] = c[j] := by
  unfold Rel
  rw [List.getElem?_eq_getElem hi, List.getElem?_eq_getElem hj, Option.some.injEq]
theorem stp_mono {c : List Int} {p q : Int} {i j : Nat} (hi : i < c.length) (hj : j < c.length) (h : Rel c i j) : Rel (stp c p q) i j := by
  rw [rel_stp hi hj, (rel_get hi hj).mp h]
def Stp (c d : List Int) : Prop := ∃ p q, p ∈ c ∧ q ∈ c ∧ p ≠ q ∧ d = stp c p q
structure Clm (a b : List Int) (cs : List (List Int)) : Prop where
  hd : cs[0]? = some a
  st : ∀ k c d, cs[k]? = some c → cs[k + 1]? = some d → Stp c d
  all : ∀ c, c ∈ cs → Can c ∧ c.length = a.length ∧ (∀ i j, i < a.length → j < a.length → Rel a i j → Rel c i j) ∧ (∀ i j, i < a.length → j < a.length → Rel c i j → Conn a b i j)
theorem Clm.start {a b : List Int} (h : Can a) : Clm a b [a] :=
  ⟨rfl, fun k c d _ h => by simp at h, fun c hc => by
    rw [List.mem_singleton] at hc
    subst hc
    exact ⟨h, rfl, fun _ _ _ _ q => q, fun i j hi hj q => .one hi hj q⟩⟩
theorem Clm.step {a b z : List Int} {cs : List (List Int)} {s t : Nat} (h : Clm a b cs) (hz : cs[cs.length - 1]? = some z) (hs : s < a.length) (ht : t < a.length) (hb : Rel b t s) {x y : Int} (hx : z[s]? = some x) (hy : z[t]? = some y) (hne : y ≠ x) :
    Clm a b (cs ++ [stp z x y]) := by
  have hm : z ∈ cs := List.mem_of_getElem? hz
  obtain ⟨z1, z2, z3, z4⟩ := h.all z hm
  have hlen : 0 < cs.length := by
    cases cs with
    | nil => simp at hm
    | cons _ _ => simp
  refine ⟨by rw [List.getElem?_append_left hlen]; exact h.hd, fun k c d h1 h2 => ?_, fun c hc => ?_⟩
  · by_cases hk : k + 1 < cs.length
    · rw [List.getElem?_append_left (by omega)] at h1
      rw [List.getElem?_append_left hk] at h2
      exact h.st k c d h1 h2
    · have hk2 : k + 1 < (cs ++ [stp z x y]).length := (List.getElem?_eq_some_iff.mp h2).1
      have ek : k + 1 = cs.length := by rw [List.length_append, List.length_singleton] at hk2; omega
      rw [List.getElem?_append_left (by omega)] at h1
      rw [ek, List.getElem?_append_right (Nat.le_refl _), Nat.sub_self] at h2
      have ed : stp z x y = d := by simpa using h2
      have ec : z = c := by
        have : k = cs.length - 1 := by omega
        rw [this, hz] at h1
        exact Option.some.inj h1
      subst ed ec
      exact ⟨x, y, List.mem_of_getElem? hx, List.mem_of_getElem? hy, fun e => hne e.symm, rfl⟩
  · rcases List.mem_append.mp hc with hc | hc
    · exact h.all c hc
    · rw [List.mem_singleton] at hc
      subst hc
      refine ⟨can_stp _ _ _, by rw [length_stp, z2], fun i j hi hj q => stp_mono (by omega) (by omega) (z3 i j hi hj q), fun i j hi hj q => ?_⟩
      rw [rel_stp (by omega) (by omega)] at q
      have rs : ∀ i, i < a.length → z[i]? = some x → Conn a b i s := fun i hi e => z4 i s hi hs (by unfold Rel; rw [e, hx])
      have rt : ∀ i, i < a.length → z[i]? = some y → Conn a b i s := fun i hi e => .trans (z4 i t hi ht (by unfold Rel; rw [e, hy])) (.two ht hs hb)
      have gi := List.getElem?_eq_getElem (show i < z.length by omega)
      have gj := List.getElem?_eq_getElem (show j < z.length by omega)
      unfold sub at q
      split at q
      · rename_i c1
        split at q
        · rename_i c2
          exact .trans (rt i hi (by rw [gi, c1])) (rt j hj (by rw [gj, c2])).symm
        · exact .trans (rt i hi (by rw [gi, c1])) (rs j hj (by rw [gj, q])).symm
      · split at q
        · rename_i c2
          exact .trans (rs i hi (by rw [gi, q])) (rt j hj (by rw [gj, c2])).symm
        · exact z4 i j hi hj (by unfold Rel; rw [gi, gj, q])
theorem stp_joins {z : List Int} {s t : Nat} {x y : Int} (hx : z[s]? = some x) (hy : z[t]? = some y) : Rel (stp z x y) t s := by
  obtain ⟨hs, es⟩ := List.getElem?_eq_some_iff.mp hx
  obtain ⟨ht, et⟩ := List.getElem?_eq_some_iff.mp hy
  rw [rel_stp ht hs, es, et]
  unfold sub
  rw [if_pos rfl]
  split <;> rfl
structure Join (a b r : List Int) : Prop where
  can : Can r
  len : r.length = a.length
  rel : ∀ i j, i < a.length → j < a.length → (Rel r i j ↔ Conn a b i j)
theorem Clm.join {a b z : List Int} {cs : List (List Int)} (h : Clm a b cs) (hz : cs[cs.length - 1]? = some z) (hb : ∀ i j, i < a.length → j < a.length → Rel b i j → Rel z i j) : Join a b z := by
  obtain ⟨z1, z2, z3, z4⟩ := h.all z (List.mem_of_getElem? hz)
  exact ⟨z1, z2, fun i j hi hj => ⟨z4 i j hi hj, fun q => conn_le z3 hb q⟩⟩
def sh1 (ms : List Int) (i : Nat) (k : Int) : List Int := ((List.range i).filter fun t => decide (ms[t]? = some k)).map Int.ofNat
def shs (ms : List Int) : List (List Int) := (List.range (fr ms).toNat).map fun k => sh1 ms ms.length ((k : Nat) : Int)
theorem mem_sh1 {ms : List Int} {i : Nat} {k x : Int} : x ∈ sh1 ms i k ↔ ∃ t : Nat, x = (t : Int) ∧ t < i ∧ ms[t]? = some k := by
  unfold sh1
  rw [List.mem_map]
  constructor
  · rintro ⟨t, ht, rfl⟩
    rw [List.mem_filter, List.mem_range] at ht
    exact ⟨t, rfl, ht.1, of_decide_eq_true ht.2⟩
  · rintro ⟨t, rfl, ht, e⟩
    exact ⟨t, by rw [List.mem_filter, List.mem_range]; exact ⟨ht, decide_eq_true e⟩, rfl⟩
theorem sh1_succ (ms : List Int) (i : Nat) (k : Int) : sh1 ms (i + 1) k = sh1 ms i k ++ (if ms[i]? = some k then [(i : Int)] else []) := by
  unfold sh1
  rw [List.range_succ, List.filter_append, List.map_append]
  congr 1
  by_cases h : ms[i]? = some k
  · simp [h]
  · simp [h]
theorem shs_len (ms : List Int) : (shs ms).length = (fr ms).toNat := by simp [shs]
theorem shs_get {ms : List Int} {k : Nat} (h : k < (fr ms).toNat) : (shs ms)[k]? = some (sh1 ms ms.length (k : Int)) := by
  unfold shs
  rw [List.getElem?_map, List.getElem?_range h]
  rfl
theorem lt_fr {l : List Int} : ∀ x ∈ l, x < fr l := by
  induction l using snoc_ind with
  | h0 => intro x hx; simp at hx
  | h1 l y ih =>
    intro x hx
    rw [fr_snoc]
    rcases List.mem_append.mp hx with h | h
    · have := ih x h; omega
    · rw [List.mem_singleton] at h; omega
theorem fr_le {l : List Int} {m : Int} (h0 : 0 ≤ m) (h : ∀ x ∈ l, x < m) : fr l ≤ m := by
  induction l using snoc_ind with
  | h0 => exact h0
  | h1 l y ih =>
    rw [fr_snoc]
    have h1 := ih fun x hx => h x (List.mem_append_left _ hx)
    have h2 := h y (by simp)
    omega
theorem fr_max {l : List Int} {M : Int} (hM : M ∈ l) (h : ∀ b, b ∈ l → b ≤ M) (h0 : 0 ≤ M) : fr l = M + 1 := by
  have h1 := lt_fr M hM
  have h2 := fr_le (l := l) (m := M + 1) (by omega) (fun x hx => by have := h x hx; omega)
  omega
theorem can_nonneg {l : List Int} (h : Can l) : ∀ x ∈ l, 0 ≤ x := fun x hx => by
  obtain ⟨i, hi, e⟩ := mem_ix hx
  exact (h i x e).1
theorem can_has {l : List Int} (h : Can l) {k : Int} (h0 : 0 ≤ k) (h1 : k < fr l) : k ∈ l := by
  have : k ∈ dd l := by rw [can_dd h]; exact mem_upto.mpr ⟨h0, by omega⟩
  exact mem_dd.mp this
theorem nodup_sub {α : Type} [DecidableEq α] : ∀ {l m : List α}, l.Nodup → (∀ x, x ∈ l → x ∈ m) → l.length ≤ m.length
  | [], _, _, _ => Nat.zero_le _
  | x :: l, m, h, s => by
    rw [List.nodup_cons] at h
    have hx := s x (by simp)
    have q := nodup_sub (l := l) (m := m.erase x) h.2 fun y hy => (List.mem_erase_of_ne (fun (e : y = x) => h.1 (by rw [← e]; exact hy))).mpr (s y (by simp [hy]))
    have z := List.length_erase_of_mem hx
    have : 0 < m.length := List.length_pos_of_mem hx
    rw [List.length_cons]
    omega
theorem nodup_len {α : Type} [DecidableEq α] {l m : List α} (h1 : l.Nodup) (h2 : m.Nodup) (s : ∀ x, x ∈ l ↔ x ∈ m) : l.length = m.length :=
  Nat.le_antisymm (nodup_sub h1 fun x => (s x).mp) (nodup_sub h2 fun x => (s x).mpr)
theorem stp_dd {c : List Int} {p q : Int} (hp : p ∈ c) (hq : q ∈ c) (hne : p ≠ q) : (dd (c.map (sub p q))).length + 1 = (dd c).length := by
  have hq' : q ∈ dd c := mem_dd.mpr hq
  have e : (dd (c.map (sub p q))).length = ((dd c).erase q).length := by
    refine nodup_len (nodup_dd _) ((nodup_dd c).erase q) fun x => ?_
    rw [mem_dd, List.mem_map, List.Nodup.mem_erase_iff (nodup_dd c), mem_dd]
    constructor
    · rintro ⟨y, hy, rfl⟩
      unfold sub
      split
      · exact ⟨hne, hp⟩
      · rename_i h
        exact ⟨h, hy⟩
    · rintro ⟨h1, h2⟩
      exact ⟨x, h2, if_neg h1⟩
  have z := List.length_erase_of_mem hq'
  have : 0 < (dd c).length := List.length_pos_of_mem hq'
  omega
theorem dd_mk {α : Type} [DecidableEq α] (l : List α) : (dd (mk l)).length = (dd l).length := by
  rw [can_dd (can_mk l), length_upto, (fr_mk l).1]
  omega
theorem Stp.dd {c d : List Int} (h : Stp c d) : (dd d).length + 1 = (dd c).length := by
  obtain ⟨p, q, hp, hq, hne, rfl⟩ := h
  unfold stp
  rw [dd_mk]
  exact stp_dd hp hq hne
theorem Clm.dd {a b : List Int} {cs : List (List Int)} (h : Clm a b cs) : ∀ (k : Nat) (c : List Int), cs[k]? = some c → (dd c).length + k = (dd a).length
  | 0, c, e => by
    have := h.hd
    rw [this] at e
    cases e
    rfl
  | k + 1, d, e => by
    have hk : k + 1 < cs.length := (List.getElem?_eq_some_iff.mp e).1
    have e0 := List.getElem?_eq_getElem (show k < cs.length by omega)
    have q := h.dd k _ e0
    have s := (h.st k _ d e0 e).dd
    omega
theorem Clm.bound {a b : List Int} {cs : List (List Int)} (h : Clm a b cs) : cs.length ≤ a.length + 1 := by
  by_cases hl : cs.length = 0
  · omega
  · have e0 := List.getElem?_eq_getElem (show cs.length - 1 < cs.length by omega)
    have q := h.dd _ _ e0
    have := length_dd_le a
    omega
end Sh

namespace Sh
theorem Fin.trans {a b c : List Int} (hl : a.length = b.length) (h1 : Fin a b) (h2 : Fin b c) : Fin a c := fun i j hi hj e => h2 i j (by omega) (by omega) (h1 i j hi hj e)
theorem Fin.refl (a : List Int) : Fin a a := fun _ _ _ _ e => e
theorem Join.left {a b r : List Int} (h : Join a b r) : Fin a r := fun i j hi hj e => (h.rel i j hi hj).mpr (.one hi hj e)
theorem Join.right {a b r : List Int} (hl : a.length = b.length) (h : Join a b r) : Fin b r := fun i j hi hj e => (h.rel i j (by omega) (by omega)).mpr (.two (by omega) (by omega) e)
theorem finer_iff {a b : List Int} (ha : Can a) (hl : a.length = b.length) : decide (mk (a.zip b) = a) = true ↔ Fin a b := by rw [decide_eq_true_iff, meet_fin ha hl]
end Sh

namespace Sh
theorem upto_nodup (n : Nat) : (upto n).Nodup := by
  unfold upto List.Nodup
  exact List.Pairwise.map _ (fun a b h e => h (Int.ofNat.inj e)) List.nodup_range
theorem mem_shs {ns c : List Int} : c ∈ shs ns ↔ ∃ k : Nat, k < (fr ns).toNat ∧ c = sh1 ns ns.length (k : Int) := by
  unfold shs
  rw [List.mem_map]
  constructor
  · rintro ⟨k, hk, rfl⟩
    exact ⟨k, List.mem_range.mp hk, rfl⟩
  · rintro ⟨k, hk, rfl⟩
    exact ⟨k, List.mem_range.mpr hk, rfl⟩
theorem shs_ne {ns : List Int} (h : Can ns) : ∀ c ∈ shs ns, c ≠ [] := by
  intro c hc
  obtain ⟨k, hk, rfl⟩ := mem_shs.mp hc
  have hm := can_has h (k := (k : Int)) (by omega) (by omega)
  obtain ⟨t, ht, e⟩ := mem_ix hm
  intro z
  have : ((t : Nat) : Int) ∈ sh1 ns ns.length (k : Int) := mem_sh1.mpr ⟨t, rfl, ht, e⟩
  rw [z] at this
  simp at this
end Sh

namespace Sh
def gS : Nat → Int
  | 0 => 1
  | 1 => 1
  | m + 2 => gS (m + 1) * (-((m + 1 : Nat) : Int))
def prodI : List Int → Int
  | [] => 1
  | x :: r => x * prodI r
def nums (one mid : List Int) : List Nat := (shs mid).map fun c => (dd (c.map fun t => one.getD t.toNat 0)).length
def mu (row : List Int) : Int := prodI ((List.range (fr row).toNat).map fun (k : Nat) => gS (row.count (k : Int)))
end Sh

namespace Sh
def rho (row : List Int) (m : Int) : Int := row.getD m.toNat 0
theorem rho_get {row : List Int} {m : Int} (h0 : 0 ≤ m) (h1 : m < row.length) : row[m.toNat]? = some (rho row m) := by
  unfold rho
  rw [List.getD_eq_getElem?_getD, List.getElem?_eq_getElem (by omega)]
  rfl
theorem comp_pre {row : List Int} (hr : Can row) (p : List Int) : Can p → fr p ≤ row.length → Can (p.map (rho row)) ∧ fr (p.map (rho row)) = fr (row.take (fr p).toNat) := by
  induction p using snoc_ind with
  | h0 => intro _ _; exact ⟨can_nil, rfl⟩
  | h1 p x ih =>
    intro hc hl
    obtain ⟨c, x0, x1⟩ := can_snoc.mp hc
    rw [fr_snoc] at hl
    obtain ⟨i1, i2⟩ := ih c (by omega)
    have z := fr_nonneg p
    have hxl : x < row.length := by omega
    have hg := rho_get x0 hxl
    obtain ⟨r0, r1⟩ := hr _ _ hg
    rw [List.map_append]
    show Can (p.map (rho row) ++ [rho row x]) ∧ fr (p.map (rho row) ++ [rho row x]) = _
    rw [can_snoc, fr_snoc, fr_snoc, i2]
    by_cases hx : x < fr p
    · have hin : rho row x ∈ row.take (fr p).toNat := List.mem_of_getElem? (i := x.toNat) (by rw [List.getElem?_take, if_pos (by omega)]; exact hg)
      have := lt_fr _ hin
      refine ⟨⟨i1, r0, by omega⟩, ?_⟩
      have e : max (fr p) (x + 1) = fr p := by omega
      rw [e]
      omega
    · have e : x = fr p := by omega
      have e2 : x.toNat = (fr p).toNat := by omega
      rw [e2] at r1 hg
      refine ⟨⟨i1, r0, r1⟩, ?_⟩
      have e3 : (max (fr p) (x + 1)).toNat = (fr p).toNat + 1 := by omega
      rw [e3, List.take_add_one, hg]
      show _ = fr (_ ++ [rho row x])
      rw [fr_snoc]
theorem comp_can {one row : List Int} (ho : Can one) (hr : Can row) (hl : (row.length : Int) = fr one) : Can (one.map (rho row)) ∧ fr (one.map (rho row)) = fr row := by
  obtain ⟨a, b⟩ := comp_pre hr one ho (by omega)
  refine ⟨a, ?_⟩
  rw [b, List.take_of_length_le (by omega)]
theorem row_map {row : List Int} : row = (upto row.length).map (rho row) := by
  apply List.ext_getElem?
  intro i
  unfold upto
  rw [List.getElem?_map, List.getElem?_map]
  by_cases h : i < row.length
  · rw [List.getElem?_range h]
    have := rho_get (row := row) (m := (i : Int)) (by omega) (by omega)
    rw [Int.toNat_natCast] at this
    exact this
  · rw [List.getElem?_eq_none (by omega), List.getElem?_eq_none (by rw [List.length_range]; omega)]
    rfl
theorem num_comp {one row : List Int} (ho : Can one) (hl : (row.length : Int) = fr one) (k : Int) :
    (dd ((sh1 (one.map (rho row)) one.length k).map fun t => one.getD t.toNat 0)).length = row.count k := by
  have e1 : row.count k = ((upto row.length).filter fun m => rho row m == k).length := by
    conv => lhs; rw [row_map (row := row)]
    unfold List.count
    rw [List.countP_map, List.countP_eq_length_filter]
    rfl
  rw [e1]
  refine nodup_len (nodup_dd _) (List.Pairwise.filter _ (upto_nodup _)) fun x => ?_
  rw [mem_dd, List.mem_map, List.mem_filter, mem_upto]
  constructor
  · rintro ⟨t, ht, rfl⟩
    obtain ⟨u, rfl, hu, eu⟩ := mem_sh1.mp ht
    rw [Int.toNat_natCast]
    have eo := List.getElem?_eq_getElem hu
    have eg : one.getD u 0 = one[u] := by rw [List.getD_eq_getElem?_getD, eo]; rfl
    rw [eg]
    have h0 := can_nonneg ho _ (List.getElem_mem hu)
    have h1 := lt_fr _ (List.getElem_mem hu)
    refine ⟨⟨h0, by omega⟩, ?_⟩
    rw [List.getElem?_map, eo] at eu
    have : rho row one[u] = k := Option.some.inj eu
    rw [this]
    simp
  · rintro ⟨⟨h0, h1⟩, h2⟩
    have h2' : rho row x = k := by simpa using h2
    have hin := can_has ho h0 (by omega)
    obtain ⟨u, hu, eu⟩ := mem_ix hin
    refine ⟨(u : Int), mem_sh1.mpr ⟨u, rfl, hu, by rw [List.getElem?_map, eu, ← h2']; rfl⟩, ?_⟩
    rw [Int.toNat_natCast, List.getD_eq_getElem?_getD, eu]
    rfl
theorem can_zero (n : Nat) : Can (List.replicate n (0 : Int)) := fun i x e => by
  have : x = 0 := by
    rw [List.getElem?_replicate] at e
    split at e
    · exact (Option.some.inj e).symm
    · cases e
  subst this
  exact ⟨Int.le_refl _, fr_nonneg _⟩
theorem can_upto (n : Nat) : Can (upto n) := by
  induction n with
  | zero => exact can_nil
  | succ n ih =>
    rw [upto_succ, can_snoc]
    refine ⟨ih, by omega, ?_⟩
    cases n with
    | zero => exact fr_nonneg _
    | succ m =>
      have : ((m : Nat) : Int) ∈ upto (m + 1) := mem_upto.mpr ⟨by omega, by omega⟩
      have := lt_fr _ this
      omega
end Sh

namespace Sh
def m1P : Nat → Nat
  | 0 => 1
  | t + 1 => m1P t * ((t + 2) * (t + 1) / 2)
def inN (r s : Nat) : Nat → Nat × Nat
  | 0 => (r, s)
  | t + 1 => ((inN r s t).1 * ((inN r s t).2 + 1) / (t + 1), (inN r s t).2 + 1)
def mrG (p : Nat × Nat) (l : List Nat) : Nat × Nat := l.foldl (fun p k => inN (p.1 * m1P (k - 1)) p.2 (k - 1)) p
def mrS (l : List Nat) : Nat × Nat := mrG (1, 0) l
def mrN (l : List Nat) : Nat := (mrS l).1
def facP : Nat → Nat
  | 0 => 1
  | t + 1 => facP t * (t + 2)
def fac (n : Nat) : Nat := facP (n - 1)
def rkG (r : Nat) (l : List Nat) : Nat := l.foldl (fun r k => r * fac k) r
def stL (l : List Nat) : Nat := (l.map fun k => k - 1).sum
theorem facP_pos : ∀ t, 0 < facP t
  | 0 => by decide
  | t + 1 => Nat.mul_pos (facP_pos t) (by omega)
theorem rkG_pos : ∀ (l : List Nat) (r : Nat), 0 < r → 0 < rkG r l
  | [], r, h => h
  | k :: l, r, h => rkG_pos l (r * fac k) (Nat.mul_pos h (facP_pos _))
theorem rkG_mul : ∀ (l : List Nat) (r x : Nat), rkG (x * r) l = x * rkG r l
  | [], r, x => rfl
  | k :: l, r, x => by
    show rkG (x * r * fac k) l = x * rkG (r * fac k) l
    rw [Nat.mul_assoc]
    exact rkG_mul l _ x
def bn (s t : Nat) : Nat := fac (s + t) / (fac s * fac t)
theorem bn_all : ∀ s, s < 12 → ∀ t, t < 12 → bn s t * (fac s * fac t) = fac (s + t) ∧ bn s t * (s + t + 1) = bn s (t + 1) * (t + 1) := by decide +kernel
theorem m1_all : ∀ t, t < 12 → m1P t * 2 ^ t = fac (t + 1) * fac t := by decide +kernel
theorem bn_zero : ∀ s, s < 12 → bn s 0 = 1 := by decide +kernel
theorem inN_eq {x s : Nat} (hs : s < 12) : ∀ t, t < 12 → inN x s t = (x * bn s t, s + t)
  | 0, _ => by
    rw [bn_zero s hs, Nat.mul_one]
    rfl
  | t + 1, h => by
    have ih := inN_eq (x := x) hs t (by omega)
    unfold inN
    rw [ih]
    have e := (bn_all s hs t (by omega)).2
    show (x * bn s t * (s + t + 1) / (t + 1), s + t + 1) = _
    rw [Nat.mul_assoc, e, ← Nat.mul_assoc, Nat.mul_div_cancel _ (by omega)]
    rfl
theorem mr_gen : ∀ (l : List Nat) (r s g : Nat), (∀ k ∈ l, 1 ≤ k) → s + stL l < 12 → r * 2 ^ s = fac s * g → (mrG (r, s) l).1 * 2 ^ (s + stL l) = fac (s + stL l) * rkG g l ∧ (mrG (r, s) l).2 = s + stL l
  | [], r, s, g, _, _, h => ⟨h, rfl⟩
  | k :: l, r, s, g, hk, hs, h => by
    have k1 := hk k List.mem_cons_self
    have es : stL (k :: l) = (k - 1) + stL l := rfl
    rw [es] at hs ⊢
    have e1 : mrG (r, s) (k :: l) = mrG (inN (r * m1P (k - 1)) s (k - 1)) l := rfl
    rw [e1, inN_eq (by omega) (k - 1) (by omega)]
    have q := mr_gen l (r * m1P (k - 1) * bn s (k - 1)) (s + (k - 1)) (g * fac k) (fun j hj => hk j (List.mem_cons_of_mem _ hj)) (by omega) (by
      obtain ⟨b1, _⟩ := bn_all s (by omega) (k - 1) (by omega)
      have m1 := m1_all (k - 1) (by omega)
      rw [Nat.sub_add_cancel k1] at m1
      rw [← b1, Nat.pow_add]
      have : r * m1P (k - 1) * bn s (k - 1) * (2 ^ s * 2 ^ (k - 1)) = (r * 2 ^ s) * (m1P (k - 1) * 2 ^ (k - 1)) * bn s (k - 1) := by
        simp only [Nat.mul_assoc, Nat.mul_left_comm, Nat.mul_comm]
      rw [this, h, m1]
      simp only [Nat.mul_assoc, Nat.mul_left_comm, Nat.mul_comm])
    rw [Nat.add_assoc] at q
    exact q
theorem mr_rk {l : List Nat} (h1 : ∀ k ∈ l, 1 ≤ k) (h2 : stL l < 12) : mrN l * 2 ^ stL l = rkG (fac (stL l)) l := by
  have q := (mr_gen l 1 0 1 h1 (by omega) (by decide)).1
  rw [Nat.zero_add] at q
  show (mrG (1, 0) l).1 * _ = _
  rw [q, ← rkG_mul, Nat.mul_one]
theorem mr_pos {l : List Nat} (h1 : ∀ k ∈ l, 1 ≤ k) (h2 : stL l < 12) : 0 < mrN l := by
  have q := mr_rk h1 h2
  have p := rkG_pos l (fac (stL l)) (facP_pos _)
  rw [← q] at p
  exact Nat.pos_of_mul_pos_right p
theorem rk_div {l : List Nat} (h1 : ∀ k ∈ l, 1 ≤ k) (h2 : stL l < 12) : rkG (fac (stL l)) l / 2 ^ stL l = mrN l := by
  rw [← mr_rk h1 h2, Nat.mul_div_cancel _ (Nat.pow_pos (by decide))]
theorem mrG_snoc (p : Nat × Nat) (l : List Nat) (k : Nat) : mrG p (l ++ [k]) = inN ((mrG p l).1 * m1P (k - 1)) (mrG p l).2 (k - 1) := by unfold mrG; rw [List.foldl_append]; rfl
theorem rkG_snoc (r : Nat) (l : List Nat) (k : Nat) : rkG r (l ++ [k]) = rkG r l * fac k := by unfold rkG; rw [List.foldl_append]; rfl
end Sh

namespace Sh
noncomputable section
abbrev WD := List (List Nat × Nat)
def frN (l : List Nat) : Nat := l.foldl (fun f m => Nat.max f (m + 1)) 0
def force {α : Type} (x : Nat) (f : Nat → α) : α := Nat.rec (f 0) (fun n _ => f (Nat.succ n)) x
def frc {α : Type} (l : List Nat) : (List Nat → α) → α := List.rec (fun k => k []) (fun x _ ih k => force x fun x' => ih fun l' => k (x' :: l')) l
def frD {α : Type} (l : WD) : (WD → α) → α := List.rec (fun k => k []) (fun x _ ih k => frc x.1 fun a => force x.2 fun b => ih fun l' => k ((a, b) :: l')) l
theorem force_eq {α : Type} (x : Nat) (f : Nat → α) : force x f = f x := by cases x <;> rfl
theorem frc_eq {α : Type} : ∀ (l : List Nat) (k : List Nat → α), frc l k = k l
  | [], k => rfl
  | x :: l, k => by
    show force x (fun x' => frc l fun l' => k (x' :: l')) = _
    rw [force_eq]
    exact frc_eq l _
theorem frD_eq {α : Type} : ∀ (l : WD) (k : WD → α), frD l k = k l
  | [], k => rfl
  | (x, y) :: l, k => by
    show frc x (fun a => force y fun b => frD l fun l' => k ((a, b) :: l')) = _
    rw [frc_eq, force_eq]
    exact frD_eq l _
def eqL (a : List Nat) : List Nat → Bool := List.rec (fun b => List.rec true (fun _ _ _ => false) b) (fun x _ ih b => List.rec false (fun y t _ => cond (Nat.beq x y) (ih t) false) b) a
theorem eqL_iff : ∀ (a b : List Nat), eqL a b = true ↔ a = b
  | [], [] => ⟨fun _ => rfl, fun _ => rfl⟩
  | [], y :: b => ⟨fun h => absurd (show false = true from h) (by decide), fun h => by cases h⟩
  | x :: a, [] => ⟨fun h => absurd (show false = true from h) (by decide), fun h => by cases h⟩
  | x :: a, y :: b => by
    show cond (Nat.beq x y) (eqL a b) false = true ↔ _
    cases e : Nat.beq x y with
    | false =>
      have : x ≠ y := fun h => by rw [h, Nat.beq_refl] at e; cases e
      simp [this]
    | true =>
      have : x = y := Nat.eq_of_beq_eq_true e
      subst this
      show eqL a b = true ↔ _
      rw [eqL_iff a b]
      simp
def bmp (k : List Nat) (v : Nat) (d : WD) : WD := List.rec [(k, v)] (fun p t ih => cond (eqL p.1 k) ((p.1, Nat.add p.2 v) :: t) (p :: ih)) d
theorem bmp_cons (k : List Nat) (v : Nat) (p : List Nat × Nat) (d : WD) : bmp k v (p :: d) = if p.1 = k then (p.1, p.2 + v) :: d else p :: bmp k v d := by
  show cond (eqL p.1 k) ((p.1, Nat.add p.2 v) :: d) (p :: bmp k v d) = _
  cases e : eqL p.1 k with
  | true => rw [if_pos ((eqL_iff _ _).mp e)]; rfl
  | false => rw [if_neg (fun h => by rw [(eqL_iff _ _).mpr h] at e; cases e)]; rfl
def suc (row : List Nat) (f s : Nat) : List Nat := nm (row.map fun m => cond (Nat.beq m f) s m)
def oneP (P : List Nat → Bool) (v : Nat) (row : List Nat) (d : WD) (f s : Nat) : WD := cond (P (suc row f s)) (bmp (suc row f s) v d) d
def colP (P : List Nat → Bool) (p : List Nat × Nat) (f : Nat) (d : WD) (n : Nat) : WD := (List.range n).foldl (fun d s => oneP P p.2 p.1 d f s) d
def rowP (P : List Nat → Bool) (p : List Nat × Nat) (d : WD) (n : Nat) : WD := (List.range n).foldl (fun d f => colP P p f d f) d
def latP (P : List Nat → Bool) (d ways : WD) : WD := ways.foldl (fun d p => rowP P p d (frN p.1)) d
def latI (P : List Nat → Bool) (n : Nat) (d : WD) : WD := Nat.rec d (fun _ ih => latP P [] ih) n
theorem latI_succ (P : List Nat → Bool) (n : Nat) (d : WD) : latI P (n + 1) d = latP P [] (latI P n d) := rfl
theorem colP_succ (P : List Nat → Bool) (p : List Nat × Nat) (f : Nat) (d : WD) (n : Nat) : colP P p f d (n + 1) = oneP P p.2 p.1 (colP P p f d n) f n := by unfold colP; rw [List.range_succ, List.foldl_append]; rfl
theorem rowP_succ (P : List Nat → Bool) (p : List Nat × Nat) (d : WD) (n : Nat) : rowP P p d (n + 1) = colP P p n (rowP P p d n) n := by unfold rowP; rw [List.range_succ, List.foldl_append]; rfl
theorem latP_snoc (P : List Nat → Bool) (d ways : WD) (p : List Nat × Nat) : latP P d (ways ++ [p]) = rowP P p (latP P d ways) (frN p.1) := by unfold latP; rw [List.foldl_append]; rfl
def ff (P : List Nat → Bool) (d : WD) : WD := d.filter fun p => P p.1
def tt : List Nat → Bool := fun _ => true
theorem ff_cons (P : List Nat → Bool) (p : List Nat × Nat) (d : WD) : ff P (p :: d) = if P p.1 = true then p :: ff P d else ff P d := by unfold ff; rw [List.filter_cons]
theorem bmp_ff (P : List Nat → Bool) (k : List Nat) (v : Nat) : ∀ d : WD, ff P (bmp k v d) = cond (P k) (bmp k v (ff P d)) (ff P d)
  | [] => by
    show ff P [(k, v)] = _
    rw [ff_cons]
    cases e : P k <;> rfl
  | p :: d => by
    rw [bmp_cons]
    by_cases h : p.1 = k
    · subst h
      rw [if_pos rfl, ff_cons, ff_cons]
      show (if P p.1 = true then _ else _) = _
      cases e : P p.1 with
      | false => rfl
      | true =>
        rw [if_pos rfl, if_pos rfl]
        show _ = bmp p.1 v (p :: ff P d)
        rw [bmp_cons, if_pos rfl]
    · rw [if_neg h, ff_cons, ff_cons, bmp_ff P k v d]
      cases e : P p.1 with
      | false => rfl
      | true =>
        rw [if_pos rfl, if_pos rfl]
        cases e2 : P k with
        | false => rfl
        | true =>
          show _ = bmp k v (p :: ff P d)
          rw [bmp_cons, if_neg h]
          rfl
theorem oneP_ff (P : List Nat → Bool) (v : Nat) (row : List Nat) (d : WD) (f s : Nat) : ff P (oneP tt v row d f s) = oneP P v row (ff P d) f s := bmp_ff P _ v d
theorem colP_ff (P : List Nat → Bool) (p : List Nat × Nat) (f : Nat) (d : WD) : ∀ n, ff P (colP tt p f d n) = colP P p f (ff P d) n
  | 0 => rfl
  | n + 1 => by rw [colP_succ, colP_succ, oneP_ff, colP_ff P p f d n]
theorem rowP_ff (P : List Nat → Bool) (p : List Nat × Nat) (d : WD) : ∀ n, ff P (rowP tt p d n) = rowP P p (ff P d) n
  | 0 => rfl
  | n + 1 => by rw [rowP_succ, rowP_succ, colP_ff, rowP_ff P p d n]
theorem colP_no {P : List Nat → Bool} {p : List Nat × Nat} {f : Nat} {d : WD} (h : ∀ s, P (suc p.1 f s) = false) : ∀ n, colP P p f d n = d
  | 0 => rfl
  | n + 1 => by
    rw [colP_succ, colP_no h n]
    unfold oneP
    rw [h n]
    rfl
theorem rowP_no {P : List Nat → Bool} {p : List Nat × Nat} {d : WD} (h : ∀ f s, P (suc p.1 f s) = false) : ∀ n, rowP P p d n = d
  | 0 => rfl
  | n + 1 => by rw [rowP_succ, rowP_no h n, colP_no (h n)]
theorem latP_ff {P : List Nat → Bool} (hP : ∀ row f s, P (suc row f s) = true → P row = true) : ∀ (W d : WD), ff P (latP tt d W) = latP P (ff P d) (ff P W)
  | [], d => rfl
  | p :: W, d => by
    have ih := latP_ff hP W (rowP tt p d (frN p.1))
    show ff P (latP tt (rowP tt p d (frN p.1)) W) = _
    rw [ih, rowP_ff, ff_cons]
    cases e : P p.1 with
    | true => rfl
    | false =>
      rw [rowP_no fun f s => ?_]
      · rfl
      · cases e2 : P (suc p.1 f s) with
        | false => rfl
        | true => rw [hP _ _ _ e2] at e; cases e
theorem latI_ff {P : List Nat → Bool} (hP : ∀ row f s, P (suc row f s) = true → P row = true) (d : WD) : ∀ n, ff P (latI tt n d) = latI P n (ff P d)
  | 0 => rfl
  | n + 1 => by rw [latI_succ, latI_succ, latP_ff hP, latI_ff hP d n]; rfl
def allN : Nat → List (List Nat)
  | 0 => [[]]
  | k + 1 => (allN k).flatMap fun row => (List.range (frN row + 1)).map fun m => row ++ [m]
theorem frN_snoc (l : List Nat) (x : Nat) : frN (l ++ [x]) = max (frN l) (x + 1) := by unfold frN; rw [List.foldl_append]; rfl
theorem fr_frN (l : List Nat) : fr (l.map Int.ofNat) = (frN l : Int) := by
  induction l using snoc_ind with
  | h0 => rfl
  | h1 l x ih =>
    rw [List.map_append, frN_snoc]
    show fr (_ ++ [Int.ofNat x]) = _
    rw [fr_snoc, ih]
    show max _ ((x : Int) + 1) = _
    omega
theorem mem_allN (l : List Nat) : Can (l.map Int.ofNat) → l ∈ allN l.length := by
  induction l using snoc_ind with
  | h0 => intro _; exact List.mem_singleton.mpr rfl
  | h1 l x ih =>
    intro h
    rw [List.map_append] at h
    obtain ⟨c, x0, x1⟩ := can_snoc.mp (show Can (_ ++ [Int.ofNat x]) from h)
    rw [fr_frN] at x1
    have x1' : (x : Int) ≤ (frN l : Int) := x1
    rw [List.length_append]
    show _ ∈ allN (l.length + 1)
    unfold allN
    exact List.mem_flatMap.mpr ⟨l, ih c, List.mem_map.mpr ⟨x, List.mem_range.mpr (by omega), rfl⟩⟩
theorem allN_ok : ∀ {k : Nat} {l : List Nat}, l ∈ allN k → Can (l.map Int.ofNat) ∧ l.length = k
  | 0, l, h => by
    have : l = [] := List.mem_singleton.mp h
    subst this
    exact ⟨can_nil, rfl⟩
  | k + 1, l, h => by
    unfold allN at h
    obtain ⟨r, hr, h⟩ := List.mem_flatMap.mp h
    obtain ⟨m, hm, rfl⟩ := List.mem_map.mp h
    obtain ⟨c, l⟩ := allN_ok hr
    have hm := List.mem_range.mp hm
    rw [List.map_append]
    refine ⟨can_snoc.mpr ⟨c, Int.natCast_nonneg m, ?_⟩, by rw [List.length_append, l]; rfl⟩
    rw [fr_frN]
    show (m : Int) ≤ _
    omega
theorem nm_allN (l : List Nat) : nm l ∈ allN l.length := by
  have := mem_allN (nm l) (can_mk l)
  rw [length_nm] at this
  exact this
theorem suc_allN {m : Nat} {row : List Nat} (h : row.length = m) (f s : Nat) : suc row f s ∈ allN m := by
  have := nm_allN (row.map fun m => cond (Nat.beq m f) s m)
  rw [List.length_map, h] at this
  exact this
structure DOk (m : Nat) (d : WD) : Prop where
  nd : (d.map (·.1)).Nodup
  row : ∀ p ∈ d, p.1 ∈ allN m
theorem keys_bmp (k : List Nat) (v : Nat) : ∀ d : WD, (bmp k v d).map (·.1) = if k ∈ d.map (·.1) then d.map (·.1) else d.map (·.1) ++ [k]
  | [] => rfl
  | p :: d => by
    rw [bmp_cons]
    by_cases h : p.1 = k
    · subst h
      rw [if_pos rfl, if_pos (by simp)]
      rfl
    · rw [if_neg h, List.map_cons, List.map_cons, keys_bmp k v d]
      by_cases h2 : k ∈ d.map (·.1)
      · rw [if_pos h2, if_pos (List.mem_cons_of_mem _ h2)]
      · rw [if_neg h2, if_neg (fun z => by rcases List.mem_cons.mp z with z | z; exact h z.symm; exact h2 z)]
        rfl
theorem DOk.nil (m : Nat) : DOk m [] := ⟨List.nodup_nil, fun p h => nomatch h⟩
theorem DOk.bmp {m : Nat} {d : WD} (h : DOk m d) {k : List Nat} (hk : k ∈ allN m) (v : Nat) : DOk m (bmp k v d) := by
  have e := keys_bmp k v d
  refine ⟨?_, fun p hp => ?_⟩
  · rw [e]
    split
    · exact h.nd
    · rename_i c
      rw [List.nodup_append]
      refine ⟨h.nd, by simp, fun a ha b hb => ?_⟩
      rw [List.mem_singleton] at hb
      subst hb
      intro z
      subst z
      exact c ha
  · have hm : p.1 ∈ (Sh.bmp k v d).map (·.1) := List.mem_map.mpr ⟨p, hp, rfl⟩
    rw [e] at hm
    have old : ∀ x, x ∈ d.map (·.1) → x ∈ allN m := fun x hx => by
      obtain ⟨q, hq, rfl⟩ := List.mem_map.mp hx
      exact h.row q hq
    split at hm
    · exact old _ hm
    · rcases List.mem_append.mp hm with z | z
      · exact old _ z
      · rw [List.mem_singleton.mp z]; exact hk
theorem DOk.len {m : Nat} {d : WD} (h : DOk m d) : d.length ≤ (allN m).length := by
  have := nodup_sub h.nd fun x hx => by
    obtain ⟨q, hq, rfl⟩ := List.mem_map.mp hx
    exact h.row q hq
  rw [List.length_map] at this
  exact this
theorem DOk.one {P : List Nat → Bool} {m : Nat} {d : WD} (h : DOk m d) {row : List Nat} (hr : row.length = m) (v f s : Nat) : DOk m (oneP P v row d f s) := by
  unfold oneP
  cases P (suc row f s) with
  | false => exact h
  | true => exact h.bmp (suc_allN hr f s) v
theorem DOk.col {P : List Nat → Bool} {m : Nat} {d : WD} (h : DOk m d) {p : List Nat × Nat} (hr : p.1.length = m) (f : Nat) : ∀ n, DOk m (colP P p f d n)
  | 0 => h
  | n + 1 => by rw [colP_succ]; exact (h.col hr f n).one hr _ _ _
theorem DOk.rows {P : List Nat → Bool} {m : Nat} {d : WD} (h : DOk m d) {p : List Nat × Nat} (hr : p.1.length = m) : ∀ n, DOk m (rowP P p d n)
  | 0 => h
  | n + 1 => by rw [rowP_succ]; exact (h.rows hr n).col hr _ _
theorem DOk.lat {P : List Nat → Bool} {m : Nat} : ∀ {W d : WD}, DOk m d → (∀ p ∈ W, p.1.length = m) → DOk m (latP P d W)
  | [], d, h, _ => h
  | p :: W, d, h, hW => DOk.lat (W := W) (h.rows (hW p List.mem_cons_self) _) fun q hq => hW q (List.mem_cons_of_mem _ hq)
theorem DOk.rowLen {m : Nat} {d : WD} (h : DOk m d) : ∀ p ∈ d, p.1.length = m := fun p hp => (allN_ok (h.row p hp)).2
theorem DOk.iter {P : List Nat → Bool} {m : Nat} {d : WD} (h : DOk m d) : ∀ n, DOk m (latI P n d)
  | 0 => h
  | n + 1 => by rw [latI_succ]; exact DOk.lat (DOk.nil m) (h.iter n).rowLen
def gtN (d : WD) (k : List Nat) : Option Nat := (d.find? fun p => decide (p.1 = k)).map (·.2)
theorem gt_of {d : WD} (nd : (d.map (·.1)).Nodup) {p : List Nat × Nat} (hp : p ∈ d) : gtN d p.1 = some p.2 := by
  induction d with
  | nil => exact nomatch hp
  | cons q d ih =>
    rw [List.map_cons, List.nodup_cons] at nd
    unfold gtN
    rw [List.find?_cons]
    rcases List.mem_cons.mp hp with rfl | h
    · simp
    · have : ¬ q.1 = p.1 := fun e => nd.1 (by rw [e]; exact List.mem_map.mpr ⟨p, h, rfl⟩)
      simp only [this, decide_false]
      exact ih nd.2 h
theorem bmp_put (k : List Nat) (v : Nat) : ∀ {d : WD}, (d.map (·.1)).Nodup → bmp k v d = if (d.any fun p => decide (p.1 = k)) = true then d.map (fun p => if p.1 = k then (p.1, (gtN d k).getD 0 + v) else p) else d ++ [(k, (gtN d k).getD 0 + v)]
  | [], _ => by
    show [(k, v)] = [(k, 0 + v)]
    rw [Nat.zero_add]
  | p :: d, nd => by
    rw [List.map_cons, List.nodup_cons] at nd
    rw [bmp_cons, List.any_cons]
    by_cases h : p.1 = k
    · subst h
      have g : gtN (p :: d) p.1 = some p.2 := by unfold gtN; rw [List.find?_cons]; simp
      rw [if_pos rfl, if_pos (by simp), g, List.map_cons, if_pos rfl]
      show (p.1, p.2 + v) :: d = (p.1, p.2 + v) :: _
      congr 1
      have : d = d.map id := (List.map_id d).symm
      conv => lhs; rw [this]
      apply List.map_congr_left
      intro q hq
      rw [if_neg (fun e => nd.1 (by rw [← e]; exact List.mem_map.mpr ⟨q, hq, rfl⟩))]
      rfl
    · have g : gtN (p :: d) k = gtN d k := by unfold gtN; rw [List.find?_cons]; simp [h]
      rw [if_neg h, g, bmp_put k v nd.2, List.map_cons, if_neg h]
      have e : (decide (p.1 = k) || d.any fun p => decide (p.1 = k)) = d.any fun p => decide (p.1 = k) := by simp [h]
      rw [e]
      split
      · rfl
      · rfl
def numN (goal : List Nat) : List Nat := (List.range (frN goal)).map fun k => goal.countP (Nat.beq k)
def row1 (d : WD) (p : List Nat × Nat) : WD := (List.range (frN p.1)).foldl (fun d f => (List.range f).foldl (fun d s => frc (suc p.1 f s) fun j => bmp j p.2 d) d) d
def lat1 (ways : WD) : WD := frD (ways.foldl row1 []) fun x => x
theorem row1_eq (d : WD) (p : List Nat × Nat) : row1 d p = rowP tt p d (frN p.1) := by
  unfold row1 rowP colP oneP
  simp only [frc_eq]
  rfl
theorem lat1_eq (W : WD) : lat1 W = latP tt [] W := by
  unfold lat1 latP
  rw [frD_eq]
  congr 1
  funext d p
  exact row1_eq d p
def chk (al : List (List Nat)) (m : Nat) (n : Nat) : Nat → WD → Bool := Nat.rec (fun _ _ => true) (fun _ ih s d => frD d fun d => d.all (fun p => Nat.beq p.2 (mrN (numN p.1))) && (al.all fun g => !(Nat.beq (Nat.add (frN g) s) m) || d.any fun p => eqL p.1 g) && ih (Nat.succ s) (lat1 d)) n
theorem chk_at {al : List (List Nat)} {m : Nat} : ∀ (n s : Nat) (d : WD), chk al m n s d = true → ∀ i, i < n → (∀ p ∈ latI tt i d, p.2 = mrN (numN p.1)) ∧ ∀ g ∈ al, frN g + (s + i) = m → ∃ p ∈ latI tt i d, p.1 = g
  | 0, _, _, _, i, hi => absurd hi (Nat.not_lt_zero i)
  | n + 1, s, d, h, i, hi => by
    have h' : frD d (fun d => d.all (fun p => Nat.beq p.2 (mrN (numN p.1))) && (al.all fun g => !(Nat.beq (Nat.add (frN g) s) m) || d.any fun p => eqL p.1 g) && chk al m n (Nat.succ s) (lat1 d)) = true := h
    rw [frD_eq, Bool.and_eq_true, Bool.and_eq_true] at h'
    obtain ⟨⟨h1, h2⟩, h3⟩ := h'
    cases i with
    | zero =>
      refine ⟨fun p hp => Nat.eq_of_beq_eq_true (List.all_eq_true.mp h1 p hp), fun g hg e => ?_⟩
      have q := List.all_eq_true.mp h2 g hg
      have eb : Nat.beq (Nat.add (frN g) s) m = true := by
        rw [show Nat.add (frN g) s = m from e]
        exact Nat.beq_refl m
      rw [eb] at q
      obtain ⟨p, hp, ep⟩ := List.any_eq_true.mp (show (d.any fun p => eqL p.1 g) = true from q)
      exact ⟨p, hp, (eqL_iff _ _).mp ep⟩
    | succ i =>
      have q := chk_at n (s + 1) (lat1 d) h3 i (by omega)
      have e : ∀ i, latI tt (i + 1) d = latI tt i (lat1 d) := fun i => by
        induction i with
        | zero => rw [lat1_eq]; rfl
        | succ i ih => rw [latI_succ, ih, ← latI_succ]
      rw [e]
      refine ⟨q.1, fun g hg e => q.2 g hg (by omega)⟩
theorem chk_all : ∀ m, m < 7 → chk (allN m) m m 0 [(List.range m, 1)] = true := by decide +kernel
theorem allN_len : ∀ m, m < 7 → (allN m).length ≤ 203 := by decide +kernel
end
end Sh

namespace Sh
theorem cast_toNat {l : List Int} (h : ∀ x ∈ l, 0 ≤ x) : (l.map Int.toNat).map Int.ofNat = l := by
  rw [List.map_map]
  conv => rhs; rw [← List.map_id l]
  apply List.map_congr_left
  intro x hx
  exact Int.toNat_of_nonneg (h x hx)
theorem beqN (m f : Nat) : cond (Nat.beq m f) = (fun (a b : Nat) => if m = f then a else b) := by
  funext a b
  cases e : Nat.beq m f with
  | true => rw [if_pos (Nat.eq_of_beq_eq_true e)]; rfl
  | false => rw [if_neg (fun z => by rw [z, Nat.beq_refl] at e; cases e)]; rfl
theorem mk_suc (row : List Nat) (f s : Nat) : mk ((row.map Int.ofNat).map (sub (s : Int) (f : Int))) = (suc row f s).map Int.ofNat := by
  show _ = mk (row.map fun m => cond (Nat.beq m f) s m)
  have e : (row.map Int.ofNat).map (sub (s : Int) (f : Int)) = (row.map fun m => cond (Nat.beq m f) s m).map Int.ofNat := by
    rw [List.map_map, List.map_map]
    apply List.map_congr_left
    intro x _
    show sub (s : Int) (f : Int) (x : Int) = ((cond (Nat.beq x f) s x : Nat) : Int)
    rw [beqN]
    unfold sub
    show _ = (((if x = f then s else x) : Nat) : Int)
    by_cases h : x = f
    · rw [if_pos h, if_pos (by rw [h])]
    · rw [if_neg h, if_neg (by omega)]
  rw [e]
  generalize (row.map fun m => cond (Nat.beq m f) s m) = l
  rw [mk_eq_iff]
  refine ⟨by rw [List.length_map], fun i j hi hj => ?_⟩
  rw [List.length_map] at hi hj
  rw [List.getElem?_map, List.getElem?_map, List.getElem?_eq_getElem hi, List.getElem?_eq_getElem hj]
  simp
  omega
def goP (goal : List Int) (r : List Nat) : Bool := finB (r.map Int.ofNat) goal
theorem suc_len (row : List Nat) (f s : Nat) : (suc row f s).length = row.length := by unfold suc; rw [length_nm, List.length_map]
theorem goP_suc (goal : List Int) (row : List Nat) (f s : Nat) (h : goP goal (suc row f s) = true) : goP goal row = true := by
  have h1 := finB_iff.mp h
  refine finB_iff.mpr fun i j hi hj e => h1 i j (by rw [List.length_map, suc_len, ← List.length_map (f := Int.ofNat)]; exact hi) (by rw [List.length_map, suc_len, ← List.length_map (f := Int.ofNat)]; exact hj) ?_
  rw [← mk_suc]
  rw [List.length_map] at hi hj
  refine (rel_mk _ (by rw [List.length_map, List.length_map]; exact hi) (by rw [List.length_map, List.length_map]; exact hj)).mpr ?_
  generalize row.map Int.ofNat = l at e
  rw [List.getElem?_map, List.getElem?_map, e]
theorem goP_range (goal : List Int) (m : Nat) : goP goal (List.range m) = true := by
  refine finB_iff.mpr fun i j hi hj e => ?_
  rw [List.length_map, List.length_range] at hi hj
  rw [List.getElem?_map, List.getElem?_map, List.getElem?_range hi, List.getElem?_range hj] at e
  have : i = j := Int.ofNat.inj (Option.some.inj e)
  rw [this]
theorem lmany {goal : List Int} (hc : Can goal) (h1 : 1 ≤ goal.length) (h6 : goal.length < 7) :
    DOk goal.length (latI (goP goal) (goal.length - (fr goal).toNat) [(List.range goal.length, 1)]) ∧ gtN (latI (goP goal) (goal.length - (fr goal).toNat) [(List.range goal.length, 1)]) (goal.map Int.toNat) = some (mrN (numN (goal.map Int.toNat))) := by
  have eg := cast_toNat (can_nonneg hc)
  have el : (goal.map Int.toNat).length = goal.length := List.length_map _
  generalize hg : goal.map Int.toNat = g at eg el ⊢
  have ef : (fr goal).toNat = frN g := by rw [← eg, fr_frN, Int.toNat_natCast]
  rw [ef]
  have hin : g ∈ allN goal.length := by rw [← el]; exact mem_allN g (by rw [eg]; exact hc)
  have pos : 0 < frN g := by
    have : goal ≠ [] := fun e => by rw [e] at h1; simp at h1
    obtain ⟨x, hx⟩ := List.exists_mem_of_ne_nil _ this
    have h0 := can_nonneg hc x hx
    have := lt_fr x hx
    omega
  have le : frN g ≤ goal.length := by
    have h2 := (fr_mk goal).1
    rw [mk_can hc] at h2
    have := length_dd_le goal
    omega
  have init : DOk goal.length [(List.range goal.length, 1)] := ⟨by simp, fun p hp => by
    rw [List.mem_singleton] at hp
    subst hp
    have : List.range goal.length ∈ allN (List.range goal.length).length := mem_allN _ (can_upto _)
    rw [List.length_range] at this
    exact this⟩
  have dk := init.iter (P := goP goal) (goal.length - frN g)
  refine ⟨dk, ?_⟩
  obtain ⟨c1, c2⟩ := chk_at _ _ _ (chk_all goal.length h6) (goal.length - frN g) (by omega)
  obtain ⟨p, hp, ep⟩ := c2 g hin (by omega)
  have hv := c1 p hp
  have fl := latI_ff (goP_suc goal) [(List.range goal.length, 1)] (goal.length - frN g)
  have e0 : ff (goP goal) [(List.range goal.length, 1)] = [(List.range goal.length, 1)] := by rw [ff_cons, if_pos (goP_range goal _)]; rfl
  rw [e0] at fl
  rw [← fl] at dk ⊢
  have hp' : p ∈ ff (goP goal) (latI tt (goal.length - frN g) [(List.range goal.length, 1)]) := by
    unfold ff
    rw [List.mem_filter]
    refine ⟨hp, ?_⟩
    rw [ep]
    exact finB_iff.mpr (by rw [eg]; exact Fin.refl goal)
  have := gt_of dk.nd hp'
  rw [ep] at this hv
  rw [this, hv]
theorem comp_mk {one : List Int} (h : Int → Int) (ho : Can one) : mk (one.map h) = one.map (rho (mk ((upto (fr one).toNat).map h))) := by
  have z := fr_nonneg one
  have hl : ((mk ((upto (fr one).toNat).map h)).length : Int) = fr one := by rw [length_mk, List.length_map, length_upto]; omega
  obtain ⟨c, _⟩ := comp_can ho (can_mk _) hl
  refine can_ext (can_mk _) c (by rw [length_mk, List.length_map, List.length_map]) fun i j hi hj => ?_
  rw [length_mk, List.length_map] at hi hj
  rw [rel_mk _ (by rw [List.length_map]; exact hi) (by rw [List.length_map]; exact hj)]
  unfold Rel
  rw [List.getElem?_map, List.getElem?_map, List.getElem?_map, List.getElem?_map, List.getElem?_eq_getElem hi, List.getElem?_eq_getElem hj]
  have b : ∀ i (hi : i < one.length), 0 ≤ one[i] ∧ one[i] < fr one := fun i hi => ⟨can_nonneg ho _ (List.getElem_mem hi), lt_fr _ (List.getElem_mem hi)⟩
  obtain ⟨i0, i1⟩ := b i hi
  obtain ⟨j0, j1⟩ := b j hj
  have up : ∀ x : Int, 0 ≤ x → x < fr one → ((upto (fr one).toNat).map h)[x.toNat]? = some (h x) := fun x h0 h1 => by
    unfold upto
    rw [List.getElem?_map, List.getElem?_map, List.getElem?_range (by omega)]
    show some (h ((x.toNat : Nat) : Int)) = _
    rw [Int.toNat_of_nonneg h0]
  have r := rel_mk ((upto (fr one).toNat).map h) (i := one[i].toNat) (j := one[j].toNat) (by rw [List.length_map, length_upto]; omega) (by rw [List.length_map, length_upto]; omega)
  unfold Rel at r
  rw [rho_get i0 (by omega), rho_get j0 (by omega), up _ i0 i1, up _ j0 j1] at r
  exact r.symm
theorem nums_comp {one row : List Int} (ho : Can one) (hr : Can row) (hl : (row.length : Int) = fr one) : nums one (one.map (rho row)) = numN (row.map Int.toNat) := by
  obtain ⟨_, hf⟩ := comp_can ho hr hl
  have er := cast_toNat (can_nonneg hr)
  have ef : (fr row).toNat = frN (row.map Int.toNat) := by
    conv => lhs; rw [← er]
    rw [fr_frN, Int.toNat_natCast]
  unfold nums numN shs
  rw [hf, List.map_map, ef]
  apply List.map_congr_left
  intro k hk
  show (dd ((sh1 (one.map (rho row)) (one.map (rho row)).length (k : Int)).map fun t => one.getD t.toNat 0)).length = _
  rw [List.length_map, num_comp ho hl]
  conv => lhs; rw [← er]
  unfold List.count
  rw [List.countP_map]
  apply List.countP_congr
  intro x _
  show ((x : Int) == (k : Int)) = true ↔ Nat.beq k x = true
  rw [Nat.beq_eq, beq_iff_eq]
  omega
theorem numN_pos {row : List Int} (hr : Can row) : ∀ k ∈ numN (row.map Int.toNat), 1 ≤ k := by
  have er := cast_toNat (can_nonneg hr)
  intro k hk
  obtain ⟨j, hj, rfl⟩ := List.mem_map.mp hk
  have hj' := List.mem_range.mp hj
  have ef : fr row = (frN (row.map Int.toNat) : Int) := by
    conv => lhs; rw [← er]
    rw [fr_frN]
  have := can_has hr (k := (j : Int)) (by omega) (by omega)
  refine List.countP_pos_iff.mpr ⟨j, List.mem_map.mpr ⟨(j : Int), this, rfl⟩, Nat.beq_refl j⟩
theorem cnt_sum : ∀ (g : List Nat) (f : Nat), (∀ x ∈ g, x < f) → ((List.range f).map fun k => g.countP (Nat.beq k)).sum = g.length
  | [], f, _ => by
    have : ((List.range f).map fun k => ([] : List Nat).countP (Nat.beq k)) = (List.range f).map fun _ => 0 := rfl
    rw [this]
    induction f with
    | zero => rfl
    | succ n ih => rw [List.range_succ, List.map_append, List.sum_append, ih (fun x h => nomatch h) rfl]; rfl
  | x :: g, f, h => by
    have ih := cnt_sum g f fun y hy => h y (List.mem_cons_of_mem _ hy)
    have hx := h x List.mem_cons_self
    have one : ∀ n, ((List.range n).map fun k => if Nat.beq k x = true then 1 else 0).sum = if x < n then 1 else 0 := fun n => by
      induction n with
      | zero => rfl
      | succ n ih2 =>
        rw [List.range_succ, List.map_append, List.sum_append, ih2]
        show _ + ((if Nat.beq n x = true then 1 else 0) + 0) = _
        by_cases e : n = x
        · subst e
          rw [if_pos (Nat.beq_refl n), if_neg (Nat.lt_irrefl n), if_pos (Nat.lt_succ_self n)]; rfl
        · rw [if_neg (fun z => e (Nat.eq_of_beq_eq_true z))]
          by_cases l : x < n
          · rw [if_pos l, if_pos (show x < n + 1 by omega)]; rfl
          · rw [if_neg l, if_neg (show ¬ x < n + 1 by omega)]; rfl
    have split : ∀ n, ((List.range n).map fun k => (x :: g).countP (Nat.beq k)).sum = ((List.range n).map fun k => g.countP (Nat.beq k)).sum + ((List.range n).map fun k => if Nat.beq k x = true then 1 else 0).sum := fun n => by
      induction n with
      | zero => rfl
      | succ n ih2 =>
        rw [List.range_succ, List.map_append, List.map_append, List.map_append, List.sum_append, List.sum_append, List.sum_append, ih2]
        show _ + ((x :: g).countP (Nat.beq n) + 0) = _ + (g.countP (Nat.beq n) + 0) + (_ + ((if Nat.beq n x = true then 1 else 0) + 0))
        rw [List.countP_cons]
        omega
    rw [split, ih, one, if_pos hx]
    rfl
theorem stL_sum : ∀ l : List Nat, (∀ k ∈ l, 1 ≤ k) → stL l + l.length = l.sum
  | [], _ => rfl
  | k :: l, h => by
    have := stL_sum l fun j hj => h j (List.mem_cons_of_mem _ hj)
    have := h k List.mem_cons_self
    show (k - 1) + stL l + (l.length + 1) = k + l.sum
    omega
theorem stL_num {row : List Int} (hr : Can row) : stL (numN (row.map Int.toNat)) + (fr row).toNat = row.length := by
  have er := cast_toNat (can_nonneg hr)
  have ef : (fr row).toNat = frN (row.map Int.toNat) := by
    conv => lhs; rw [← er]
    rw [fr_frN, Int.toNat_natCast]
  have h1 := stL_sum _ (numN_pos hr)
  have h2 := cnt_sum (row.map Int.toNat) (frN (row.map Int.toNat)) fun x hx => by
    obtain ⟨y, hy, rfl⟩ := List.mem_map.mp hx
    have := lt_fr y hy
    have := can_nonneg hr y hy
    have := fr_nonneg row
    omega
  have hl : (numN (row.map Int.toNat)).length = frN (row.map Int.toNat) := by unfold numN; rw [List.length_map, List.length_range]
  rw [List.length_map] at h2
  rw [hl] at h1
  rw [ef, h1]
  exact h2
end Sh

namespace L2
open PySem
def capt (cells : List (Str × Addr)) : List (Str × NameKind) → List (Str × Addr) → List (Str × Addr)
  | [], acc => acc
  | y :: r, acc => capt cells r (if (y.2 == NameKind.free) = true then (y.1, (cells.lookup y.1).getD 0) :: acc else acc)
theorem capt_closure {scope : Scope} {env : Env} (h : ∀ y ∈ scope.names, y.2 = .free → ∃ c, env.cells.lookup y.1 = some c) : closureFor scope env = pure (capt env.cells scope.names []) := by
  unfold closureFor
  simp only []
  have key : ∀ (names : List (Str × NameKind)) (acc : List (Str × Addr)), (∀ y ∈ names, y.2 = .free → ∃ c, env.cells.lookup y.1 = some c) →
      (forIn names acc fun (x : Str × NameKind) (r : List (Str × Addr)) => if (x.snd == NameKind.free) = true then do
              let a ← cellOf env x.fst
              pure (ForInStep.yield ((x.fst, a) :: r))
            else (pure (ForInStep.yield r) : Sem _)) = pure (capt env.cells names acc) := by
    intro names
    induction names with
    | nil => intro acc _; rfl
    | cons y r ih =>
      intro acc hy
      rw [List.forIn_cons]
      have ihr := fun acc' => ih acc' fun z hz => hy z (List.mem_cons_of_mem _ hz)
      by_cases e : (y.2 == NameKind.free) = true
      · have e' : y.2 = .free := by simpa using e
        obtain ⟨c, hc⟩ := hy y List.mem_cons_self e'
        have hcell : cellOf env y.1 = pure c := by unfold cellOf; rw [hc]
        rw [if_pos e, hcell]
        show (forIn r ((y.1, c) :: acc) _ : Sem _) = _
        rw [ihr]
        show pure (capt env.cells r ((y.1, c) :: acc)) = pure (capt env.cells r (if (y.2 == NameKind.free) = true then (y.1, (env.cells.lookup y.1).getD 0) :: acc else acc))
        rw [if_pos e, hc]
        rfl
      · rw [if_neg e]
        show (forIn r acc _ : Sem _) = _
        rw [ihr]
        show pure (capt env.cells r acc) = pure (capt env.cells r (if (y.2 == NameKind.free) = true then (y.1, (env.cells.lookup y.1).getD 0) :: acc else acc))
        rw [if_neg e]
  rw [key scope.names [] h]
  rfl
theorem capt_has (cells : List (Str × Addr)) : ∀ (names : List (Str × NameKind)) (acc : List (Str × Addr)) (x : Str), ((x, NameKind.free) ∈ names ∨ ∃ c, acc.lookup x = some c) → ∃ c, (capt cells names acc).lookup x = some c
  | [], acc, x, h => by
    rcases h with h | h
    · simp at h
    · exact h
  | y :: r, acc, x, h => by
    unfold capt
    refine capt_has cells r _ x ?_
    rcases h with h | ⟨c, h⟩
    · rcases List.mem_cons.mp h with e | h
      · subst e
        exact .inr ⟨(cells.lookup x).getD 0, by simp⟩
      · exact .inl h
    · right
      split
      · by_cases e : x == y.1
        · exact ⟨(cells.lookup y.1).getD 0, by rw [List.lookup_cons, e]⟩
        · exact ⟨c, by rw [List.lookup_cons]; simp [e, h]⟩
      · exact ⟨c, h⟩
theorem capt_eq (cells : List (Str × Addr)) : ∀ (names : List (Str × NameKind)) (acc : List (Str × Addr)), (∀ y c, acc.lookup y = some c → c = (cells.lookup y).getD 0) → ∀ y c, (capt cells names acc).lookup y = some c → c = (cells.lookup y).getD 0
  | [], acc, h, y, c, e => h y c e
  | z :: r, acc, h, y, c, e => by
    unfold capt at e
    refine capt_eq cells r _ (fun y' c' e' => ?_) y c e
    split at e'
    · rw [List.lookup_cons] at e'
      split at e'
      · rename_i q
        have q' : y' = z.1 := by simpa using q
        rw [q']
        exact (Option.some.inj e').symm
      · exact h y' c' e'
    · exact h y' c' e'
theorem capt_from (cells : List (Str × Addr)) : ∀ (names : List (Str × NameKind)) (acc : List (Str × Addr)) (y : Str) (c : Addr), (capt cells names acc).lookup y = some c → (∃ c', acc.lookup y = some c') ∨ (y, NameKind.free) ∈ names
  | [], acc, y, c, e => .inl ⟨c, e⟩
  | z :: r, acc, y, c, e => by
    unfold capt at e
    rcases capt_from cells r _ y c e with ⟨c', h⟩ | h
    · split at h
      · rename_i hz
        rw [List.lookup_cons] at h
        split at h
        · rename_i q
          right
          have q' : y = z.1 := by simpa using q
          have hz' : z.2 = .free := by simpa using hz
          rw [q', ← hz']
          exact List.mem_cons_self
        · exact .inl ⟨c', h⟩
      · exact .inl ⟨c', h⟩
    · exact .inr (List.mem_cons_of_mem _ h)
theorem relabel_free {env : Env} : ∀ {names : List (Str × NameKind)} {x : Str}, names.lookup x = some .free →
    (names.map fun (n, k) => if (k == NameKind.free && env.scope.kind == .function && env.kindOf n == some .cell) then (n, NameKind.cell) else (n, k)).lookup x = some .cell ∨
    (names.map fun (n, k) => if (k == NameKind.free && env.scope.kind == .function && env.kindOf n == some .cell) then (n, NameKind.cell) else (n, k)).lookup x = some .free
  | [], _, h => by simp at h
  | (n, k) :: r, x, h => by
    have ih := @relabel_free env r x
    show List.lookup x ((if (k == NameKind.free && env.scope.kind == .function && env.kindOf n == some .cell) = true then (n, NameKind.cell) else (n, k)) :: _) = _ ∨ List.lookup x ((if (k == NameKind.free && env.scope.kind == .function && env.kindOf n == some .cell) = true then (n, NameKind.cell) else (n, k)) :: _) = _
    cases hx : x == n with
    | true =>
      simp only [List.lookup_cons, hx] at h
      cases h
      split
      · left; simp [List.lookup_cons, hx]
      · right; simp [List.lookup_cons, hx]
    | false =>
      simp only [List.lookup_cons, hx] at h
      by_cases hc : (k == NameKind.free && env.scope.kind == .function && env.kindOf n == some .cell) = true
      · rw [if_pos hc]; simp only [List.lookup_cons, hx]; exact ih h
      · rw [if_neg hc]; simp only [List.lookup_cons, hx]; exact ih h
theorem of_relabel {env : Env} : ∀ {names : List (Str × NameKind)} {x : Str} {k : NameKind}, (∀ y ∈ names, y.2 ≠ .cell) → (k = .cell ∨ k = .free) →
    (names.map fun (n, k) => if (k == NameKind.free && env.scope.kind == .function && env.kindOf n == some .cell) then (n, NameKind.cell) else (n, k)).lookup x = some k → (x, NameKind.free) ∈ names
  | [], _, _, _, _, h => by simp at h
  | (n, k') :: r, x, k, hn, hk, h => by
    have ih := @of_relabel env r x k (fun y hy => hn y (List.mem_cons_of_mem _ hy)) hk
    have h' : List.lookup x ((if (k' == NameKind.free && env.scope.kind == .function && env.kindOf n == some .cell) = true then (n, NameKind.cell) else (n, k')) :: (r.map fun (n, k) => if (k == NameKind.free && env.scope.kind == .function && env.kindOf n == some .cell) then (n, NameKind.cell) else (n, k))) = some k := h
    cases hx : x == n with
    | true =>
      have e : x = n := by simpa using hx
      subst e
      by_cases hc : (k' == NameKind.free && env.scope.kind == .function && env.kindOf x == some .cell) = true
      · have : k' = .free := by
          simp only [Bool.and_eq_true] at hc
          simpa using hc.1.1
        subst this
        exact List.mem_cons_self
      · rw [if_neg hc] at h'
        simp only [List.lookup_cons, hx] at h'
        have e2 : k' = k := Option.some.inj h'
        subst e2
        rcases hk with hk | hk
        · exact absurd hk (hn (x, k') List.mem_cons_self)
        · subst hk; exact List.mem_cons_self
    | false =>
      refine List.mem_cons_of_mem _ (ih ?_)
      by_cases hc : (k' == NameKind.free && env.scope.kind == .function && env.kindOf n == some .cell) = true
      · rw [if_pos hc] at h'; simp only [List.lookup_cons, hx] at h'; exact h'
      · rw [if_neg hc] at h'; simp only [List.lookup_cons, hx] at h'; exact h'
def compOk (sc out : Scope) (N N' : List Str) (ix : List (Option Nat)) : Bool :=
  decide (sc.kind = .function) && sc.names.all (fun y => decide (y.2 ≠ .cell)) && sc.names.all (fun y => decide (y.2 = .local → sc.names.lookup y.1 = some .local))
    && sc.names.all (fun y => decide (y.2 = .free → out.names.lookup y.1 = some .cell ∨ out.names.lookup y.1 = some .free))
    && decide (ix.length = N'.length) && (ix.zip N').all fun p => match p.1 with
      | none => true
      | some i => decide (N[i]? = some p.2 ∧ sc.names.lookup p.2 = some .free)
structure CompOk (sc out : Scope) (N N' : List Str) (ix : List (Option Nat)) : Prop where
  kind : sc.kind = .function
  nocell : ∀ y ∈ sc.names, y.2 ≠ .cell
  names : ∀ y ∈ sc.names, y.2 = .local → sc.names.lookup y.1 = some .local
  out : ∀ y ∈ sc.names, y.2 = .free → out.names.lookup y.1 = some .cell ∨ out.names.lookup y.1 = some .free
  len : ix.length = N'.length
  cap : ∀ (j i : Nat) (x : Str), ix[j]? = some (some i) → N'[j]? = some x → N[i]? = some x ∧ sc.names.lookup x = some .free
theorem compOk_of {sc out : Scope} {N N' : List Str} {ix : List (Option Nat)} (h : compOk sc out N N' ix = true) : CompOk sc out N N' ix := by
  unfold compOk at h
  simp only [Bool.and_eq_true, List.all_eq_true, decide_eq_true_eq] at h
  obtain ⟨⟨⟨⟨⟨h1, h2⟩, h3⟩, h4⟩, h5⟩, h6⟩ := h
  refine ⟨h1, h2, h3, h4, h5, fun j i x e1 e2 => ?_⟩
  have q : (some i, x) ∈ ix.zip N' := by
    have : (ix.zip N')[j]? = some (some i, x) := by
      rw [List.getElem?_zip_eq_some]
      exact ⟨e1, e2⟩
    exact List.mem_of_getElem? this
  have := h6 _ q
  simpa using this
end L2

namespace ZL
open PySem
open Sem (wp)
section
variable {prog : Program} {w : World} {A : Around} {E : Value → Shared → Prop} {s : Shared}
theorem wpAny_loadIfAlive {M : Model} {a : Addr} {Q : Option Obj → Shared → Prop} (h : Q (s.heap.get? a) s) : wpAny M A (loadIfAlive a) Q E s := fun Γ p _ => by
  unfold loadIfAlive
  rw [Sem.wp_loadIfAlive]
  exact h
abbrev IsZipO (h : Heap) (z TI TO : Addr) (f0 : Value) (b : Bool) : Prop :=
  h.get? z = some { cls := .type "zip", dict := none, data := .fields #[f0, .bool b, .bool false, .ref TI, .ref TO], slots := #[] }
theorem owned_kept {z TI TO T : Addr} {bb : Bool} {oT : Obj} {K : Bool → Shared → Prop} (hz : IsZipO s.heap z TI TO (rawInt T) bb) (hT : s.heap.get? T = some oT)
    (h : ∀ h₁, IsZipO h₁ z TI TO (rawInt T) true → Heap.SameBut z s.heap h₁ → K false { s with heap := h₁ }) : wpAny (model prog w) A (Builtin.SmallTypes.ownedTupleIsFree (.ref z)) K E s := by
  unfold Builtin.SmallTypes.ownedTupleIsFree
  refine wpAny_bind (wpAny_field hz rfl (x := rawInt T) rfl ?_)
  show wpAny _ _ (loadIfAlive (Int.ofNat T).toNat >>= _) _ _ _
  refine wpAny_bind (wpAny_loadIfAlive ?_)
  rw [show (Int.ofNat T).toNat = T from rfl, hT, if_neg (by simp)]
  refine wpAny_bind (wpAny_field hz rfl (x := .bool bb) rfl ?_)
  cases bb with
  | true =>
    show wpAny _ _ (pure false) _ _ _
    exact wpAny_pure (h s.heap hz (.refl ..))
  | false =>
    show wpAny _ _ (setField (.ref z) 1 (.bool true) >>= fun _ => pure false) _ _ _
    refine wpAny_bind (wpAny_setField_rec hz (by simp) fun h₁ hz₁ hs₁ => wpAny_pure ?_)
    exact h h₁ hz₁ hs₁
theorem zip_next_kept {z TI TO i1 i2 l1 l2 T : Addr} {bb : Bool} {k1 k2 : Nat} {xs ys : Array Value} {x y : Value} {oT : Obj} {Q : Value → Shared → Prop} (D : ZipApart z TI TO i1 i2 l1 l2)
    (hz : IsZipO s.heap z TI TO (rawInt T) bb) (hT : s.heap.get? T = some oT) (hTI : IsPair s.heap TI (.ref i1) (.ref i2))
    (h1 : s.heap.IsListIter i1 l1 k1) (h2 : s.heap.IsListIter i2 l2 k2) (hl1 : s.heap.IsList l1 xs) (hl2 : s.heap.IsList l2 ys) (hx : xs[k1]? = some x) (hy : ys[k2]? = some y)
    (hQ : ∀ h', IsZipO h' z TI TO (rawInt T) true → h'.IsListIter i1 l1 (k1 + 1) → h'.IsListIter i2 l2 (k2 + 1) → IsPair h' s.heap.objs.size x y → h'.objs.size = s.heap.objs.size + 1 →
      (∀ c o, c ≠ z → c ≠ i1 → c ≠ i2 → s.heap.get? c = some o → h'.get? c = some o) → Q (.ref s.heap.objs.size) { s with heap := h' }) :
    wpAny (model prog w) A (Builtin.«zip.__next__» ⟨[.ref z], []⟩) (fun fin s' => ∃ v, fin = .done (.ret v) ∧ Q v s') E s := by
  show wpAny _ _ (field (.ref z) 2 >>= _) _ _ _
  refine wpAny_bind (wpAny_field hz rfl (x := .bool false) rfl ?_)
  show wpAny _ _ (field (.ref z) 3 >>= _) _ _ _
  refine wpAny_bind (wpAny_field hz rfl (x := .ref TI) rfl ?_)
  refine wpAny_bind (wpAny_seqItems hTI rfl ?_)
  show wpAny _ _ (Builtin.SmallTypes.ownedTupleIsFree (.ref z) >>= _) _ _ _
  refine wpAny_bind (owned_kept hz hT fun h₁ hz₁ hs₁ => ?_)
  rw [if_neg (by decide)]
  simp only [List.forIn_toArray, List.forIn_cons, List.forIn_nil, bind_assoc, pure_bind]
  refine wpAny_bind (wpAny_holding ?_)
  show wpAny _ _ (Builtin.SmallTypes.nextOf (.ref i1) >>= _) _ _ _
  refine wpAny_bind (wpAny_nextOf_list_item (h1.extBut hs₁.extBut D.i1z) (hl1.extBut hs₁.extBut D.l1z) hx fun h₂ h1₂ hs₂ => wpAny_pure ?_)
  refine wpAny_bind (wpAny_pure ?_)
  refine wpAny_bind (wpAny_bind (wpAny_holding ?_))
  show wpAny _ _ (Builtin.SmallTypes.nextOf (.ref i2) >>= _) _ _ _
  refine wpAny_bind (wpAny_nextOf_list_item ((h2.extBut hs₁.extBut D.i2z).extBut hs₂.extBut D.i12.symm) ((hl2.extBut hs₁.extBut D.l2z).extBut hs₂.extBut D.l2i1) hy fun h₃ h2₃ hs₃ => wpAny_pure ?_)
  refine wpAny_bind (wpAny_pure (wpAny_pure ?_))
  refine wpAny_bind (wpAny_newTuple ?_ (by show 2 ≤ sizeLine; decide))
  have hsz : h₃.objs.size = s.heap.objs.size := by rw [hs₃.1, hs₂.1, hs₁.1]
  have hz₃ : IsZipO h₃ z TI TO (rawInt T) true := hs₃.extBut _ _ D.i2z.symm (hs₂.extBut _ _ D.i1z.symm hz₁)
  have hk₃ : ∀ c o, c ≠ z → c ≠ i1 → c ≠ i2 → s.heap.get? c = some o → h₃.get? c = some o := fun c o c1 c3 c4 e =>
    hs₃.extBut _ _ c4 (hs₂.extBut _ _ c3 (hs₁.extBut _ _ c1 e))
  have h1₃ : h₃.IsListIter i1 l1 (k1 + 1) := h1₂.extBut hs₃.extBut D.i12
  refine wpAny_pure ⟨_, rfl, ?_⟩
  show Q (.ref h₃.objs.size) _
  rw [hsz]
  refine hQ _ (Heap.get?_push_of_some _ hz₃) (h1₃.at fun o e => Heap.get?_push_of_some _ e) (h2₃.at fun o e => Heap.get?_push_of_some _ e) ?_ (by rw [Heap.size_push, hsz]) fun c o c1 c3 c4 e => Heap.get?_push_of_some _ (hk₃ c o c1 c3 c4 e)
  show Heap.get? _ s.heap.objs.size = _
  rw [← hsz]
  exact Heap.get?_push_size _ rfl

theorem zip_next_kept_end {z TI TO i1 i2 l1 l2 T : Addr} {bb : Bool} {k1 k2 : Nat} {xs ys : Array Value} {oT : Obj} {Q : Fin → Shared → Prop} (hh : A.handled = none) (D : ZipApart z TI TO i1 i2 l1 l2)
    (hz : IsZipO s.heap z TI TO (rawInt T) bb) (hT : s.heap.get? T = some oT) (hTI : IsPair s.heap TI (.ref i1) (.ref i2))
    (h1 : s.heap.IsListIter i1 l1 k1) (h2 : s.heap.IsListIter i2 l2 k2) (hl1 : s.heap.IsList l1 xs) (hl2 : s.heap.IsList l2 ys) (hend : xs[k1]? = none ∨ ys[k2]? = none)
    (hE : ∀ h' e, (∀ c o, c ≠ z → c ≠ i1 → c ≠ i2 → s.heap.get? c = some o → h'.get? c = some o) → (∃ o, h'.get? e = some o ∧ o.cls = .type "StopIteration") → E (.ref e) { s with heap := h' }) :
    wpAny (model prog w) A (Builtin.«zip.__next__» ⟨[.ref z], []⟩) Q E s := by
  show wpAny _ _ (field (.ref z) 2 >>= _) _ _ _
  refine wpAny_bind (wpAny_field hz rfl (x := .bool false) rfl ?_)
  show wpAny _ _ (field (.ref z) 3 >>= _) _ _ _
  refine wpAny_bind (wpAny_field hz rfl (x := .ref TI) rfl ?_)
  refine wpAny_bind (wpAny_seqItems hTI rfl ?_)
  show wpAny _ _ (Builtin.SmallTypes.ownedTupleIsFree (.ref z) >>= _) _ _ _
  refine wpAny_bind (owned_kept hz hT fun h₁ hz₁ hs₁ => ?_)
  rw [if_neg (by decide)]
  simp only [List.forIn_toArray, List.forIn_cons, List.forIn_nil, bind_assoc, pure_bind]
  refine wpAny_bind (wpAny_holding ?_)
  show wpAny _ _ (Builtin.SmallTypes.nextOf (.ref i1) >>= _) _ _ _
  cases hx : xs[k1]? with
  | none =>
    refine wpAny_bind (wpAny_nextOf_list_end hh (h1.extBut hs₁.extBut D.i1z) (hl1.extBut hs₁.extBut D.l1z) hx fun h₂ e hs₂ he => ?_)
    exact hE h₂ e (fun c o c1 c3 _ x => hs₂ _ _ c3 (hs₁.extBut _ _ c1 x)) he
  | some x =>
    have hy : ys[k2]? = none := by rcases hend with h | h; rw [hx] at h; cases h; exact h
    refine wpAny_bind (wpAny_nextOf_list_item (h1.extBut hs₁.extBut D.i1z) (hl1.extBut hs₁.extBut D.l1z) hx fun h₂ h1₂ hs₂ => wpAny_pure ?_)
    refine wpAny_bind (wpAny_pure ?_)
    refine wpAny_bind (wpAny_bind (wpAny_holding ?_))
    show wpAny _ _ (Builtin.SmallTypes.nextOf (.ref i2) >>= _) _ _ _
    refine wpAny_bind (wpAny_nextOf_list_end hh ((h2.extBut hs₁.extBut D.i2z).extBut hs₂.extBut D.i12.symm) ((hl2.extBut hs₁.extBut D.l2z).extBut hs₂.extBut D.l2i1) hy fun h₃ e hs₃ he => ?_)
    exact hE h₃ e (fun c o c1 c3 c4 x => hs₃ _ _ c4 (hs₂.extBut _ _ c3 (hs₁.extBut _ _ c1 x))) he

def ZSt (z TI TO i1 i2 l1 l2 : Addr) (xs ys : Array Value) (i : Nat) (h : Heap) : Prop :=
  ((IsZip h z TI TO .none ∧ i = 0) ∨ ∃ (T : Addr) (oT : Obj) (b : Bool), IsZipO h z TI TO (rawInt T) b ∧ h.get? T = some oT ∧ T ≠ z ∧ T ≠ i1 ∧ T ≠ i2) ∧ IsPair h TI (.ref i1) (.ref i2) ∧ (∃ a b, IsPair h TO a b) ∧
    h.IsListIter i1 l1 i ∧ h.IsListIter i2 l2 i ∧ h.IsList l1 xs ∧ h.IsList l2 ys
theorem ZSt.type {z TI TO i1 i2 l1 l2 : Addr} {xs ys : Array Value} {i : Nat} (h : ZSt z TI TO i1 i2 l1 l2 xs ys i s.heap) : s.TypeIs (.ref z) "zip" := by
  rcases h.1 with ⟨hz, _⟩ | ⟨T, oT, b, hz, _⟩
  · exact ⟨_, hz, rfl⟩
  · exact ⟨_, hz, rfl⟩
theorem ZSt.keeps {z TI TO i1 i2 l1 l2 : Addr} {xs ys : Array Value} {i : Nat} {h h' : Heap} (st : ZSt z TI TO i1 i2 l1 l2 xs ys i h) (S : Addr) (hS : S ≠ z ∧ S ≠ TI ∧ S ≠ TO ∧ S ≠ i1 ∧ S ≠ i2 ∧ S ≠ l1 ∧ S ≠ l2)
    (hT : ∀ (T : Addr) (oT : Obj) (b : Bool), IsZipO h z TI TO (rawInt T) b → h.get? T = some oT → ∃ o', h'.get? T = some o')
    (k : ∀ b o, b ≠ S → h.get? b = some o → h'.get? b = some o) : ZSt z TI TO i1 i2 l1 l2 xs ys i h' := by
  obtain ⟨hz, hTI, ⟨a, b, hTO⟩, h1, h2, hl1, hl2⟩ := st
  obtain ⟨n1, n2, n3, n4, n5, n6, n7⟩ := hS
  refine ⟨?_, k _ _ n2.symm hTI, ⟨a, b, k _ _ n3.symm hTO⟩, h1.at fun o e => k _ o n4.symm e, h2.at fun o e => k _ o n5.symm e, hl1.at fun o e => k _ o n6.symm e, hl2.at fun o e => k _ o n7.symm e⟩
  rcases hz with ⟨hz, e⟩ | ⟨T, oT, bb, hz, hT', t1, t2, t3⟩
  · exact .inl ⟨k _ _ n1.symm hz, e⟩
  · obtain ⟨o', ho'⟩ := hT T oT bb hz hT'
    exact .inr ⟨T, o', bb, k _ _ n1.symm hz, ho', t1, t2, t3⟩
theorem zip_item {z TI TO i1 i2 l1 l2 : Addr} {xs ys : Array Value} {i : Nat} {x y : Value} {Q : Option Value → Shared → Prop} (D : ZipApart z TI TO i1 i2 l1 l2) (st : ZSt z TI TO i1 i2 l1 l2 xs ys i s.heap)
    (hx : xs[i]? = some x) (hy : ys[i]? = some y)
    (hQ : ∀ h', ZSt z TI TO i1 i2 l1 l2 xs ys (i + 1) h' → IsPair h' s.heap.objs.size x y → h'.objs.size = s.heap.objs.size + 1 → (∀ c o, c ≠ z → c ≠ TO → c ≠ i1 → c ≠ i2 → s.heap.get? c = some o → h'.get? c = some o) →
      Q (some (.ref s.heap.objs.size)) { s with heap := h' }) : wpAny (model prog w) A (pyNext (.ref z)) Q E s := by
  have ty := st.type
  obtain ⟨hz, hTI, ⟨a, b, hTO⟩, h1, h2, hl1, hl2⟩ := st
  have lt : ∀ {c o}, s.heap.get? c = some o → s.heap.objs.size ≠ c := fun e => Nat.ne_of_gt (Heap.lt_size e)
  have n1 : s.heap.objs.size ≠ i1 := by obtain ⟨_, e, _⟩ := h1; exact lt e
  have n2 : s.heap.objs.size ≠ i2 := by obtain ⟨_, e, _⟩ := h2; exact lt e
  rcases hz with ⟨hz, rfl⟩ | ⟨T, oT, bb, hz, hT, t1, t2, t3⟩
  · refine wpAny_pyNext_zip_item D hz hTI hTO h1 h2 hl1 hl2 hx hy fun h' a1 a2 a3 a4 a5 a6 hk => hQ h' ?_ a5 a6 hk
    exact ⟨.inr ⟨_, _, false, a1, a5, lt hz, n1, n2⟩, hk _ _ D.TIz D.TITO D.TIi1 D.TIi2 hTI, ⟨_, _, a2⟩, a3, a4, hl1.at fun o e => hk _ o D.l1z D.l1TO D.l1i1 D.l1i2 e, hl2.at fun o e => hk _ o D.l2z D.l2TO D.l2i1 D.l2i2 e⟩
  · unfold pyNext
    refine wpAny_bind (wpAny_attempt (wpAny_callSpecial?_slot (name := Str.ofString "__next__") ty F.slot_zip_next
      (wpAny_call_entry F.slot_zip_next ty F.entry_zip_next
        (zip_next_kept D hz hT hTI h1 h2 hl1 hl2 hx hy fun h' a1 a3 a4 a5 a6 hk => wpAny_pure (hQ h' ?_ a5 a6 fun c o c1 _ c3 c4 e => hk c o c1 c3 c4 e)) (F.args_zip_next_1 _))))
    exact ⟨.inr ⟨T, oT, true, a1, hk _ _ t1 t2 t3 hT, t1, t2, t3⟩, hk _ _ D.TIz D.TIi1 D.TIi2 hTI, ⟨_, _, hk _ _ D.TOz D.TOi1 D.TOi2 hTO⟩, a3, a4, hl1.at fun o e => hk _ o D.l1z D.l1i1 D.l1i2 e, hl2.at fun o e => hk _ o D.l2z D.l2i1 D.l2i2 e⟩
theorem zip_done {z TI TO i1 i2 l1 l2 : Addr} {xs ys : Array Value} {i : Nat} {Q : Option Value → Shared → Prop} (hh : A.handled = none) (D : ZipApart z TI TO i1 i2 l1 l2) (st : ZSt z TI TO i1 i2 l1 l2 xs ys i s.heap)
    (hend : xs[i]? = none ∨ ys[i]? = none)
    (hQ : ∀ h', (∀ c o, c ≠ z → c ≠ TO → c ≠ i1 → c ≠ i2 → s.heap.get? c = some o → h'.get? c = some o) → Q none { s with heap := h' }) : wpAny (model prog w) A (pyNext (.ref z)) Q E s := by
  have ty := st.type
  obtain ⟨hz, hTI, ⟨a, b, hTO⟩, h1, h2, hl1, hl2⟩ := st
  rcases hz with ⟨hz, rfl⟩ | ⟨T, oT, bb, hz, hT, t1, t2, t3⟩
  · exact wpAny_pyNext_zip_end hh D hz hTI hTO h1 h2 hl1 hl2 hend hQ
  · unfold pyNext
    refine wpAny_bind (wpAny_attempt (wpAny_callSpecial?_slot (name := Str.ofString "__next__") ty F.slot_zip_next
      (wpAny_call_entry F.slot_zip_next ty F.entry_zip_next (zip_next_kept_end (A := A.in1) hh D hz hT hTI h1 h2 hl1 hl2 hend fun h' e hk he => ?_) (F.args_zip_next_1 _))))
    obtain ⟨o, ho, hc⟩ := he
    refine wpAny_bind (wpAny_isInstance (T := "StopIteration") (b := true) ⟨o, ho, hc⟩ isSubtype_stop ?_)
    exact wpAny_pure (hQ _ fun c o c1 _ c3 c4 e => hk c o c1 c3 c4 e)

def Got (xs ys : Array Value) (lo : Nat) (S : Addr) (h : Heap) (i : Nat) (Ts : List Addr) : Prop :=
  Ts.length = i ∧ Ts.Nodup ∧ ∀ (j : Nat) (T : Addr), Ts[j]? = some T → lo ≤ T ∧ T < h.objs.size ∧ T ≠ S ∧ ∃ x y, xs[j]? = some x ∧ ys[j]? = some y ∧ IsPair h T x y
theorem Got.keeps {xs ys : Array Value} {lo : Nat} {S : Addr} {h h' : Heap} {i : Nat} {Ts : List Addr} (g : Got xs ys lo S h i Ts) (k : ∀ (T : Addr) o, T ∈ Ts → h.get? T = some o → h'.get? T = some o) (hs : h.objs.size ≤ h'.objs.size) : Got xs ys lo S h' i Ts := by
  obtain ⟨g1, g2, g3⟩ := g
  refine ⟨g1, g2, fun j T e => ?_⟩
  obtain ⟨a1, a2, a3, x, y, b1, b2, b3⟩ := g3 j T e
  exact ⟨a1, Nat.lt_of_lt_of_le a2 hs, a3, x, y, b1, b2, k T _ (List.mem_of_getElem? e) b3⟩
theorem extend_zip {R : Result → Shared → Prop} {z TI TO i1 i2 l1 l2 S : Addr} {xs ys : Array Value} {lo : Nat} (hh : A.handled = none) (D : ZipApart z TI TO i1 i2 l1 l2) (hS : S ≠ z ∧ S ≠ TI ∧ S ≠ TO ∧ S ≠ i1 ∧ S ≠ i2 ∧ S ≠ l1 ∧ S ≠ l2)
    (hlo : z < lo ∧ TO < lo ∧ i1 < lo ∧ i2 < lo) (hn : min xs.size ys.size ≤ sizeLine) (res : Value) :
    ∀ (k i : Nat) (s : Shared) (Ts : List Addr) (c : Nat), min xs.size ys.size - i = k → i ≤ min xs.size ys.size → lo ≤ s.heap.objs.size → ZSt z TI TO i1 i2 l1 l2 xs ys i s.heap →
    s.heap.get? S = some { cls := .type "list", dict := none, data := .seq (Ts.map Value.ref).toArray c, slots := #[] } → Got xs ys lo S s.heap i Ts →
    (∀ h' Ts' c', (∀ b o, b ≠ S → b ≠ z → b ≠ TO → b ≠ i1 → b ≠ i2 → s.heap.get? b = some o → h'.get? b = some o) → h'.get? S = some { cls := .type "list", dict := none, data := .seq (Ts'.map Value.ref).toArray c', slots := #[] } →
      Got xs ys lo S h' (min xs.size ys.size) Ts' → R (.ok (.ret res)) { s with heap := h' }) →
    codeAny (model prog w) A (.builtin "list.extend.loop" ⟨[.ref S, .ref z, res], []⟩) R s := by
  intro k
  induction k with
  | zero =>
    intro i s Ts c hk hi hlo' hst hSo hg hR
    have hin : i = min xs.size ys.size := by omega
    subst hin
    refine codeAny_builtin F.entry_extend_loop ?_
    rw [Around.under_plainId F.plain_extend_loop _]
    show wpAny _ A.in1 (pyNext (.ref z) >>= _) _ _ s
    have hend : xs[min xs.size ys.size]? = none ∨ ys[min xs.size ys.size]? = none := by
      rcases Nat.le_total xs.size ys.size with h | h
      · exact .inl (by rw [Nat.min_eq_left h]; exact Array.getElem?_eq_none (Nat.le_refl _))
      · exact .inr (by rw [Nat.min_eq_right h]; exact Array.getElem?_eq_none (Nat.le_refl _))
    refine wpAny_bind (zip_done (A := A.in1) hh D hst hend fun h' hk' => ?_)
    have hgl := hg.2.2
    -- the heap has not shrunk where the pairs are
    refine wpAny_pure (hR h' Ts c (fun b o _ c1 c2 c3 c4 e => hk' b o c1 c2 c3 c4 e) (hk' S _ hS.1 hS.2.2.1 hS.2.2.2.1 hS.2.2.2.2.1 hSo) ?_)
    refine ⟨hg.1, hg.2.1, fun j T e => ?_⟩
    obtain ⟨a1, a2, a3, x, y, b1, b2, b3⟩ := hgl j T e
    have b3' : IsPair h' T x y := hk' T _ (Nat.ne_of_gt (Nat.lt_of_lt_of_le hlo.1 a1)) (Nat.ne_of_gt (Nat.lt_of_lt_of_le hlo.2.1 a1)) (Nat.ne_of_gt (Nat.lt_of_lt_of_le hlo.2.2.1 a1)) (Nat.ne_of_gt (Nat.lt_of_lt_of_le hlo.2.2.2 a1)) b3
    exact ⟨a1, Heap.lt_size b3', a3, x, y, b1, b2, b3'⟩
  | succ k ih =>
    intro i s Ts c hk hi hlo' hst hSo hg hR
    have hlt : i < min xs.size ys.size := by omega
    have hix : i < xs.size := Nat.lt_of_lt_of_le hlt (Nat.min_le_left ..)
    have hiy : i < ys.size := Nat.lt_of_lt_of_le hlt (Nat.min_le_right ..)
    refine codeAny_builtin F.entry_extend_loop ?_
    rw [Around.under_plainId F.plain_extend_loop _]
    show wpAny _ A.in1 (pyNext (.ref z) >>= _) _ _ s
    refine wpAny_bind (zip_item D hst (Array.getElem?_eq_getElem hix) (Array.getElem?_eq_getElem hiy) fun h' hst' hp hsz hk' => ?_)
    have hS' := hk' S _ hS.1 hS.2.2.1 hS.2.2.2.1 hS.2.2.2.2.1 hSo
    have hSlt : S < s.heap.objs.size := Heap.lt_size hSo
    have hlen : (Ts.map Value.ref).toArray.size = i := by simp [hg.1]
    show wpAny _ A.in1 (updateSeq S (·.push (.ref s.heap.objs.size)) >>= _) _ _ _
    refine wpAny_bind ?_
    have up := Heap.get?_update_self (Obj.mapSeq (·.push (Value.ref s.heap.objs.size))) hS' rfl
    have oth : ∀ b o, b ≠ S → h'.get? b = some o → (h'.update S (Obj.mapSeq (·.push (Value.ref s.heap.objs.size)))).get? b = some o := fun b o hb e => (Heap.get?_update_other _ _ (Ne.symm hb)).trans e
    have szu : (h'.update S (Obj.mapSeq (·.push (Value.ref s.heap.objs.size)))).objs.size = h'.objs.size := (Heap.SameBut.update ..).1
    refine wpAny_updateSeq hS' rfl (wpAny_pure ⟨plainId_quiet F.plain_extend_loop _, ih (i + 1) _ (Ts ++ [s.heap.objs.size]) _ (by omega) hlt (by show lo ≤ Array.size _; rw [szu, hsz]; exact Nat.le_succ_of_le hlo') ?_ (up.trans (by rw [List.map_append]; simp [Obj.mapSeq] <;> rfl)) ?_ fun h'' Ts' c' hk'' hS'' hg'' => ?_⟩)
      (by rw [hlen]; omega) (by show (Array.push _ _).size ≤ sizeLine + 1; rw [Array.size_push, hlen]; omega)
    · refine hst'.keeps S hS (fun T oT b hz hT => ?_) oth
      by_cases e : T = S
      · subst e; exact ⟨_, up⟩
      · exact ⟨oT, oth T oT e hT⟩
    · obtain ⟨g1, g2, g3⟩ := hg
      refine ⟨by simp [g1], ?_, fun j T e => ?_⟩
      · rw [List.nodup_append]
        refine ⟨g2, by simp, fun a ha b hb => ?_⟩
        rw [List.mem_singleton] at hb
        subst hb
        obtain ⟨j, hj⟩ := List.getElem?_of_mem ha
        exact Nat.ne_of_lt (g3 j a hj).2.1
      · by_cases hj : j < Ts.length
        · rw [List.getElem?_append_left hj] at e
          obtain ⟨a1, a2, a3, x, y, b1, b2, b3⟩ := g3 j T e
          have b3' := hk' T _ (Nat.ne_of_gt (Nat.lt_of_lt_of_le hlo.1 a1)) (Nat.ne_of_gt (Nat.lt_of_lt_of_le hlo.2.1 a1)) (Nat.ne_of_gt (Nat.lt_of_lt_of_le hlo.2.2.1 a1)) (Nat.ne_of_gt (Nat.lt_of_lt_of_le hlo.2.2.2 a1)) b3
          exact ⟨a1, by rw [szu, hsz]; exact Nat.lt_succ_of_lt a2, a3, x, y, b1, b2, oth T _ a3 b3'⟩
        · have hjl : j < (Ts ++ [s.heap.objs.size]).length := (List.getElem?_eq_some_iff.mp e).1
          have ej : j = Ts.length := by simp at hjl; omega
          subst ej
          have eT : T = s.heap.objs.size := by simpa using e.symm
          subst eT
          refine ⟨hlo', by rw [szu, hsz]; exact Nat.lt_succ_self _, Nat.ne_of_gt hSlt, _, _, ?_, ?_, oth _ _ (Nat.ne_of_gt hSlt) hp⟩
          · rw [g1]; exact Array.getElem?_eq_getElem hix
          · rw [g1]; exact Array.getElem?_eq_getElem hiy
    · refine hR h'' Ts' c' (fun b o c0 c1 c2 c3 c4 e => hk'' b o c0 c1 c2 c3 c4 (oth b o c0 (hk' b o c1 c2 c3 c4 e))) hS'' hg''

theorem zip_no_len : typeLookup (.type "zip") "__len__" = pure none := by rw [typeLookup_type, builtinLookup_eq_fast]; kernel_rfl
theorem zip_no_hint : typeLookup (.type "zip") "__length_hint__" = pure none := by rw [typeLookup_type, builtinLookup_eq_fast]; kernel_rfl
theorem ZSt.self {z TI TO i1 i2 l1 l2 : Addr} {xs ys : Array Value} {i : Nat} {Q : Value → Shared → Prop} (st : ZSt z TI TO i1 i2 l1 l2 xs ys i s.heap) (h : Q (.ref z) s) : wpAny (model prog w) A (pyIter (.ref z)) Q E s := by
  have hT := st.type
  refine wpAny_pyIter_slot hT F.slot_zip_iter (wpAny_call_entry F.slot_zip_iter hT F.entry_zip_iter ?_ (F.args_zip_iter_1 _))
  show wpAny _ _ (ret (.ref z)) _ _ s
  exact wpAny_pure ⟨_, rfl, "zip", _, hT, F.slot_zip_next.lookup, h⟩
theorem extend_with_zip {R : Result → Shared → Prop} {z TI TO i1 i2 l1 l2 S : Addr} {xs ys : Array Value} {lo c₀ : Nat} (hh : A.handled = none) (D : ZipApart z TI TO i1 i2 l1 l2) (hS : S ≠ z ∧ S ≠ TI ∧ S ≠ TO ∧ S ≠ i1 ∧ S ≠ i2 ∧ S ≠ l1 ∧ S ≠ l2)
    (hlo : z < lo ∧ TO < lo ∧ i1 < lo ∧ i2 < lo) (hn : min xs.size ys.size ≤ sizeLine) (res : Value) (hlo' : lo ≤ s.heap.objs.size) (hst : ZSt z TI TO i1 i2 l1 l2 xs ys 0 s.heap)
    (hSo : s.heap.get? S = some { cls := .type "list", data := .seq #[] c₀ })
    (hR : ∀ h' Ts' c', (∀ b o, b ≠ S → b ≠ z → b ≠ TO → b ≠ i1 → b ≠ i2 → s.heap.get? b = some o → h'.get? b = some o) → h'.get? S = some { cls := .type "list", dict := none, data := .seq (Ts'.map Value.ref).toArray c', slots := #[] } →
      Got xs ys lo S h' (min xs.size ys.size) Ts' → R (.ok (.ret res)) { s with heap := h' }) :
    wpAny (model prog w) A.in1 (Builtin.List.listExtendWith (.ref S) (.ref z) res)
      (fun fin s' => match fin with | .done f => R (.ok f) s' | .again c' => c'.quiet = true ∧ codeAny (model prog w) A c' R s') (fun e s' => R (.error e) s') s := by
  unfold Builtin.List.listExtendWith
  refine wpAny_bind (wpAny_typeOf hst.type ?_)
  have h1 : Builtin.List.listSameRef (.ref S) (.ref z) = false := by simp [Builtin.List.listSameRef, hS.1]
  have h2 : (Value.type "zip" == Value.type "list") = false := by decide
  have h3 : (Value.type "zip" == Value.type "tuple") = false := by decide
  simp only [h1, h2, h3, Bool.or_false, Bool.false_eq_true, if_false]
  refine wpAny_bind (hst.self ?_)
  refine wpAny_bind (wpAny_holding ?_)
  unfold Builtin.List.listLengthHint
  refine wpAny_bind (wpAny_specialOf hst.type zip_no_len ?_)
  show wpAny _ A.in1 (specialOf (Value.ref z) (Str.ofString "__length_hint__") >>= _) _ _ _
  refine wpAny_bind (wpAny_specialOf hst.type zip_no_hint ?_)
  refine wpAny_pure ?_
  show wpAny _ A.in1 (rule "list.extend.makes-room" >>= fun _ => Builtin.List.listTouch (.ref S) >>= fun _ =>
    again (.builtin "list.extend.loop" ⟨[.ref S, .ref z, res], []⟩)) _ _ _
  refine wpAny_bind (wpAny_rule ?_)
  refine wpAny_bind ?_
  show wpAny _ A.in1 (updateSeq S (·.push .none) >>= fun _ => updateSeq S (·.pop)) _ _ _
  refine wpAny_bind (wpAny_updateSeq hSo rfl ?_)
  have hS₂ := Heap.get?_update_self (Obj.mapSeq (·.push Value.none)) hSo rfl
  refine wpAny_updateSeq (hz := by seq_fits) hS₂ rfl ?_
  have hS₃ := Heap.get?_update_self (Obj.mapSeq (·.pop)) hS₂ rfl
  have oth : ∀ b o, b ≠ S → s.heap.get? b = some o → ((s.heap.update S (Obj.mapSeq (·.push Value.none))).update S (Obj.mapSeq (·.pop))).get? b = some o :=
    fun b o hb e => (Heap.get?_update_other _ _ (Ne.symm hb)).trans ((Heap.get?_update_other _ _ (Ne.symm hb)).trans e)
  have szu : ((s.heap.update S (Obj.mapSeq (·.push Value.none))).update S (Obj.mapSeq (·.pop))).objs.size = s.heap.objs.size := ((Heap.SameBut.update ..).1).trans (Heap.SameBut.update ..).1
  refine wpAny_pure ⟨plainId_quiet F.plain_extend_loop _, extend_zip hh D hS hlo hn res (min xs.size ys.size) 0 _ [] _ rfl (Nat.zero_le _) (by show lo ≤ Array.size _; rw [szu]; exact hlo') ?_ hS₃ ⟨rfl, List.nodup_nil, fun j T e => by simp at e⟩ fun h'' Ts' c' hk'' hS'' hg'' => ?_⟩
  · refine hst.keeps S hS (fun T oT b hz hT => ?_) oth
    by_cases e : T = S
    · subst e; exact ⟨_, hS₃⟩
    · exact ⟨oT, oth T oT e hT⟩
  · exact hR h'' Ts' c' (fun b o c0 c1 c2 c3 c4 e => hk'' b o c0 c1 c2 c3 c4 (oth b o c0 e)) hS'' hg''
theorem call_list_zipped {z TI TO i1 i2 l1 l2 : Addr} {xs ys : Array Value} {Q : Value → Shared → Prop} (hh : A.handled = none) (D : ZipApart z TI TO i1 i2 l1 l2) (hst : ZSt z TI TO i1 i2 l1 l2 xs ys 0 s.heap)
    (hlt : z < s.heap.objs.size ∧ TI < s.heap.objs.size ∧ TO < s.heap.objs.size ∧ i1 < s.heap.objs.size ∧ i2 < s.heap.objs.size ∧ l1 < s.heap.objs.size ∧ l2 < s.heap.objs.size) (hn : min xs.size ys.size ≤ sizeLine)
    (hQ : ∀ h' Ts c, (∀ b o, b ≠ z → b ≠ TO → b ≠ i1 → b ≠ i2 → s.heap.get? b = some o → h'.get? b = some o) → h'.get? s.heap.objs.size = some { cls := .type "list", dict := none, data := .seq (Ts.map Value.ref).toArray c, slots := #[] } →
      Got xs ys s.heap.objs.size s.heap.objs.size h' (min xs.size ys.size) Ts → Q (.ref s.heap.objs.size) { s with heap := h' }) :
    wpAny (model prog w) A (call (.type "list") [.ref z]) Q E s := by
  obtain ⟨q1, q2, q3, q4, q5, q6, q7⟩ := hlt
  have hS : s.heap.objs.size ≠ z ∧ s.heap.objs.size ≠ TI ∧ s.heap.objs.size ≠ TO ∧ s.heap.objs.size ≠ i1 ∧ s.heap.objs.size ≠ i2 ∧ s.heap.objs.size ≠ l1 ∧ s.heap.objs.size ≠ l2 :=
    ⟨Nat.ne_of_gt q1, Nat.ne_of_gt q2, Nat.ne_of_gt q3, Nat.ne_of_gt q4, Nat.ne_of_gt q5, Nat.ne_of_gt q6, Nat.ne_of_gt q7⟩
  refine callType_codes (Q₁ := fun obj s₁ => obj = .ref s.heap.objs.size ∧ s₁ = { s with heap := s.heap.push { cls := .type "list", data := .seq #[] } }) F.called_list (F.typeCall_list_1 _) F.entry_list_init
    (code_list_new _ ⟨rfl, rfl⟩) fun obj s₁ h₁ => ?_
  obtain ⟨rfl, rfl⟩ := h₁
  have hSo : (s.heap.push { cls := .type "list", data := .seq #[] }).get? s.heap.objs.size = some { cls := .type "list", data := .seq #[] } := Heap.get?_push_size _ rfl
  refine ⟨⟨_, hSo, rfl⟩, F.args_list_init_2 _ _, ?_⟩
  show wpAny _ A.in1.in1 (do let old ← Builtin.List.listItems (.ref s.heap.objs.size); Builtin.List.listUpdate (.ref s.heap.objs.size) (fun _ => #[]); letGo old.toList.reverse; Builtin.List.listExtendWith (.ref s.heap.objs.size) (.ref z) .none) _ _ _
  refine wpAny_bind ?_
  unfold Builtin.List.listItems
  refine wpAny_bind (wpAny_seqItems hSo rfl (wpAny_pure ?_))
  show wpAny _ A.in1.in1 (updateSeq s.heap.objs.size (fun _ => #[]) >>= fun _ => letGo (#[] : Array Value).toList.reverse >>= fun _ => Builtin.List.listExtendWith (.ref s.heap.objs.size) (.ref z) .none) _ _ _
  refine wpAny_bind (wpAny_updateSeq hSo rfl ?_)
  have hS₂ := Heap.get?_update_self (Obj.mapSeq (fun _ => (#[] : Array Value))) hSo rfl
  have oth : ∀ b o, b ≠ s.heap.objs.size → s.heap.get? b = some o → ((s.heap.push { cls := .type "list", data := .seq #[] }).update s.heap.objs.size (Obj.mapSeq (fun _ => (#[] : Array Value)))).get? b = some o :=
    fun b o hb e => (Heap.get?_update_other _ _ (Ne.symm hb)).trans (Heap.get?_push_of_some _ e)
  have szu : ((s.heap.push { cls := .type "list", data := .seq #[] }).update s.heap.objs.size (Obj.mapSeq (fun _ => (#[] : Array Value)))).objs.size = s.heap.objs.size + 1 := ((Heap.SameBut.update ..).1).trans (Heap.size_push ..)
  refine wpAny_bind (wpAny_letGo ?_)
  refine extend_with_zip (A := A.in1) (lo := s.heap.objs.size) hh D hS ⟨q1, q3, q4, q5⟩ hn .none (by show _ ≤ Array.size _; rw [szu]; exact Nat.le_succ _) ?_ hS₂ fun h' Ts c hk hS' hg => ?_
  · refine hst.keeps s.heap.objs.size hS (fun T oT b hz hT => ⟨oT, oth T oT (Nat.ne_of_lt (Heap.lt_size hT)) hT⟩) oth
  · exact ⟨rfl, hQ h' Ts c (fun b o c1 c2 c3 c4 e => hk b o (Nat.ne_of_lt (Heap.lt_size e)) c1 c2 c3 c4 (oth b o (Nat.ne_of_lt (Heap.lt_size e)) e)) hS' hg⟩
theorem call_zip_list {l1 l2 : Addr} {xs ys : Array Value} {Q : Value → Shared → Prop} (hh : A.handled = none) (hl1 : s.heap.IsList l1 xs) (hl2 : s.heap.IsList l2 ys) (hn : min xs.size ys.size ≤ sizeLine)
    (hQ : ∀ h' Ts c, (∀ b o, s.heap.get? b = some o → h'.get? b = some o) → h'.get? (s.heap.objs.size + 5) = some { cls := .type "list", dict := none, data := .seq (Ts.map Value.ref).toArray c, slots := #[] } →
      Got xs ys (s.heap.objs.size + 5) (s.heap.objs.size + 5) h' (min xs.size ys.size) Ts → Q (.ref (s.heap.objs.size + 5)) { s with heap := h' }) :
    wpAny (model prog w) A (call (.type "zip") [.ref l1, .ref l2]) (fun zv s₁ => wpAny (model prog w) A (call (.type "list") [zv]) Q E s₁) E s := by
  have hlt1 : l1 < s.heap.objs.size := by obtain ⟨_, e, _⟩ := hl1; exact Heap.lt_size e
  have hlt2 : l2 < s.heap.objs.size := by obtain ⟨_, e, _⟩ := hl2; exact Heap.lt_size e
  refine call_zip_2 hl1 hl2 fun h' hz hTI hTO hi1 hi2 hsz hk => ?_
  have up : ∀ k b, b < s.heap.objs.size → b < s.heap.objs.size + k := fun k b hb => Nat.lt_of_lt_of_le hb (Nat.le_add_right _ _)
  have ne : ∀ (k : Nat) (b : Addr), b < s.heap.objs.size → b ≠ s.heap.objs.size + k := fun k b hb => Nat.ne_of_lt (up k b hb)
  have D : ZipApart (s.heap.objs.size + 4) (s.heap.objs.size + 2) (s.heap.objs.size + 3) s.heap.objs.size (s.heap.objs.size + 1) l1 l2 := by
    refine ⟨?_, ?_, ?_, ?_, ?_, ?_, ?_, ?_, ?_, ?_, ne 4 _ hlt1, ne 3 _ hlt1, Nat.ne_of_lt hlt1, ne 1 _ hlt1, ne 4 _ hlt2, ne 3 _ hlt2, Nat.ne_of_lt hlt2, ne 1 _ hlt2⟩ <;>
      (generalize s.heap.objs.size = n; intro e; have e' : (_ : Nat) = _ := e; omega)
  refine call_list_zipped (s := { s with heap := h' }) hh D ⟨.inl ⟨hz, rfl⟩, hTI, ⟨_, _, hTO⟩, hi1, hi2, hl1.at fun o e => hk _ o e, hl2.at fun o e => hk _ o e⟩ ?_ hn fun h'' Ts c hk' hS' hg => ?_
  · show s.heap.objs.size + 4 < h'.objs.size ∧ _
    rw [hsz]
    refine ⟨?_, ?_, ?_, ?_, ?_, up 5 _ hlt1, up 5 _ hlt2⟩ <;> (generalize s.heap.objs.size = n; show (_ : Nat) < _; omega)
  · have e : ({ s with heap := h' } : Shared).heap.objs.size = s.heap.objs.size + 5 := hsz
    rw [e] at hS' hg ⊢
    refine hQ h'' Ts c (fun b o q => ?_) hS' hg
    have hb := Heap.lt_size q
    exact hk' b o (ne 4 b hb) (ne 3 b hb) (Nat.ne_of_lt hb) (ne 1 b hb) (hk b o q)
end
end ZL

namespace ZR
open PySem
open Sem (wp)
section
variable {prog : Program} {w : World} {A : Around} {E : Value → Shared → Prop} {s : Shared}
end
end ZR

namespace DL
open PySem
section
variable {prog : Program} {w : World} {K : Type} [DecidableEq K] {knd : HeapKind prog w K} {A : Around} {E : Value → Shared → Prop} {s : Shared}
theorem dictSetDefault_heap {d a : Addr} {xs : List (K × Addr × Value)} {k : K} {v : Value} {Q : Value → Shared → Prop} (hu : knd.room A) (hkey : knd.is s.heap k a) (hm : s.heap.DictOfH knd d xs)
    (h1 : ∀ p, atKey xs k = some p → Q p.2 { s with toks := s.toks + knd.draws k })
    (h2 : atKey xs k = none → ∀ h', h'.DictOfH knd d (storedH xs k a v) → Heap.SameBut d s.heap h' → Q v { s with heap := h', toks := s.toks + knd.draws k })
    (hsz : xs.length ≤ sizeLine) :
    wpAny (model prog w) A (dictSetDefault d (.ref a) v) Q E s := by
  obtain ⟨o, es, ep, ho, hc, hd, he, his, hn⟩ := hm
  unfold dictSetDefault
  try with_reducible refine wpAny_holding ?_
  refine wpAny_bind (knd.pyHash hu hkey ?_)
  refine wpAny_bind (wpAny_dictFind_heap (s := { s with toks := s.toks + knd.draws k }) hu hkey ho hd he his hn ?_ ?_)
  · intro hno
    have hnot : k ∉ xs.map (·.1) := not_mem_keys_of_get hno
    refine wpAny_bind (wpAny_rule (wpAny_bind (wpAny_updateDictKeys (hz := by have e := size_of_entries he; omega) (s := { s with toks := s.toks + knd.draws k }) ho hd (wpAny_pure (h2 (atKey_none_of_get hno) _ ⟨_, _, ep + 1, Heap.get?_update_self _ ho (Obj.isFreed_of_dict (Obj.data_mapDictKeys hd _)),
      hc.mapDictKeys _, Obj.data_mapDictKeys hd _, ?_, ?_, ?_⟩ (Heap.SameBut.update ..))))))
    · rw [storedH_new (atKey_none_of_get hno)]
      simp [he, entryOfKey]
    · rw [storedH_new (atKey_none_of_get hno)]
      intro x hx
      rcases List.mem_append.mp hx with hx | hx
      · exact knd.keeps (his x hx) ho hd (Heap.SameBut.update ..)
      · simp only [List.mem_singleton] at hx
        subst hx
        exact knd.keeps hkey ho hd (Heap.SameBut.update ..)
    · rw [storedH_new (atKey_none_of_get hno)]
      rw [List.map_append, List.nodup_append]
      refine ⟨hn, by simp, ?_⟩
      intro x hx y hy
      simp only [List.map_cons, List.map_nil, List.mem_singleton] at hy
      subst hy
      exact fun e => hnot (e ▸ hx)
  · intro j p hj
    refine wpAny_bind (wpAny_dictEntries (s := { s with toks := s.toks + knd.draws k }) ho hd ?_)
    rw [entry_at he j, hj]
    exact wpAny_bind (wpAny_rule (wpAny_pure (h1 p (atKey_of_get hn hj))))
theorem meetsH_setdefault (knd : HeapKind prog w K) (d a : Addr) (hd : (d == sysModules) = false) (dflt : Value) :
    MeetsIn prog w (Builtin.«dict.setdefault» ⟨[.ref d, .ref a, dflt], []⟩) (fun A R s => knd.room A.in1 ∧ ∃ k xs, knd.is s.heap k a ∧ s.heap.DictOfH knd d xs ∧ xs.length ≤ sizeLine ∧
      (∀ p, atKey xs k = some p → R (.ok (.ret p.2)) { s with toks := s.toks + knd.draws k }) ∧
      (atKey xs k = none → ∀ h', h'.DictOfH knd d (storedH xs k a dflt) → Heap.SameBut d s.heap h' → R (.ok (.ret dflt)) { s with heap := h', toks := s.toks + knd.draws k })) :=
  .of_wp fun A R s ⟨hu, k, xs, hkey, hm, hz, h1, h2⟩ => by
    unfold Builtin.«dict.setdefault»
    refine wpAny_bind ?_
    unfold Builtin.Dict.keyAndDefault
    refine wpAny_bind (wpAny_notOrdered_dict hm.typeIs ?_)
    show wpAny _ _ (pure (d, Value.ref a, some dflt)) _ _ s
    refine wpAny_pure ?_
    show wpAny _ _ (if (d == sysModules) = true then _ else (dictSetDefault d (.ref a) dflt >>= _)) _ _ s
    rw [if_neg (by rw [hd]; exact Bool.false_ne_true)]
    exact wpAny_bind (dictSetDefault_heap hu hkey hm (fun p hp => wpAny_pure ⟨p.2, rfl, h1 p hp⟩) (fun hn h' hm' hs' => wpAny_pure ⟨dflt, rfl, h2 hn h' hm' hs'⟩) hz)
end
end DL

namespace DL
open PySem
section
variable {prog : Program} {w : World} {K : Type} [DecidableEq K] {knd : HeapKind prog w K} {A : Around} {E : Value → Shared → Prop} {s : Shared}
theorem meetsH_len (knd : HeapKind prog w K) (d : Addr) (hd : (d == sysModules) = false) :
    MeetsIn prog w (Builtin.«dict.__len__» ⟨[.ref d], []⟩) (fun _ R s => ∃ xs, s.heap.DictOfH knd d xs ∧ R (.ok (.ret (.int xs.length s.toks))) { s with toks := s.toks + 1 }) :=
  .of_wp fun A R s ⟨xs, hm, h⟩ => by
    obtain ⟨o, es, ep, ho, hc, hdd, he, _⟩ := id hm
    have hsz : es.size = xs.length := size_of_entries he
    show wpAny _ _ (dictSize d >>= _) _ _ s
    unfold dictSize
    refine wpAny_bind (wpAny_bind (wpAny_dictEntries ho hdd (wpAny_pure ?_)))
    show wpAny _ _ (Builtin.Dict.pendingCount d >>= _) _ _ s
    refine wpAny_bind (wpAny_pendingCount_other hd ?_)
    refine wpAny_ret_mkInt ?_
    rw [Nat.add_zero, hsz]; exact h
theorem call_len_heap {d : Addr} {xs : List (K × Addr × Value)} {Q : Value → Shared → Prop} (hd : (d == sysModules) = false) (hm : s.heap.DictOfH knd d xs) (hfit : (xs.length : Int) < 2 ^ 63)
    (h : Q (.int xs.length (s.toks + 1)) { s with toks := s.toks + 1 + 1 }) : wpAny (model prog w) A (call (.builtin "len") [.ref d]) Q E s := by
  refine Calls.call_function_entry kind_len plain_len entry_len (args_len1 _) ?_
  unfold Builtin.«len»
  refine wpAny_bind (m := oneArg "len" _) (wpAny_pure ?_)
  refine wpAny_bind (m := callSpecial? (.ref d) (Str.ofString "__len__")) (wpAny_callSpecial?_slot (name := Str.ofString "__len__") hm.typeIs F.slot_dict_len
    (call_meetsIn F.slot_dict_len hm.typeIs F.entry_dict_len (F.args_dict_len_1 _) (meetsH_len knd d hd) ⟨xs, hm, ?_⟩))
  show wpAny _ _ _ _ _ { s with toks := s.toks + 1 }
  refine wpAny_bind (wpAny_holding (wpAny_pure ?_))
  refine wpAny_bind (wpAny_letGo ?_)
  show wpAny _ _ (if ((xs.length : Nat) : Int) < 0 then _ else _) _ _ _
  rw [if_neg (by omega)]
  show wpAny _ _ (if ((xs.length : Nat) : Int) ≥ 2 ^ 63 then _ else _) _ _ _
  rw [if_neg (by omega)]
  exact wpAny_bind (wpAny_mkInt (wpAny_pure ⟨_, rfl, h⟩))
end
end DL

set_option Elab.async false
namespace XC
open PySem PySem.W PySem.Calls PyProof.Rows PySem.Builtin PySem.Builtin.ObjectAttr PySem.Builtin.Getset_descriptor
def ExcAt (h : Heap) (x D : Addr) : Prop := ∃ ox vs, h.get? x = some ox ∧ ox.cls = .ref D ∧ ox.data = .fields vs
theorem ExcAt.type {M : Model} {h : Heap} {x D : Addr} (p : ExcAt h x D) : Looks M h (typeOf (.ref x)) (.ref D) := by
  obtain ⟨o, _, h1, h2, _⟩ := p
  exact h2 ▸ (Looks.ld h1).andThen .now
section
variable {prog : Program} {w : World} {A : Around} {E : Value → Shared → Prop} {s : Shared} {K : Frag} {x D : Addr}
end
end XC

namespace ZD
open PySem
open Sem (wp)
def DAt (h : Heap) (d : Addr) (es : Array DictEntry) (ep : Nat) : Prop := ∃ o, h.get? d = some o ∧ o.ExactDict ∧ o.data = .dict es ep
theorem DAt.ty {s : Shared} {d : Addr} {es : Array DictEntry} {ep : Nat} (x : DAt s.heap d es ep) : s.TypeIs (.ref d) "dict" := let ⟨o, ho, hc, _⟩ := x; ⟨o, ho, hc.1⟩
theorem DAt.at {h h' : Heap} {d : Addr} {es : Array DictEntry} {ep : Nat} (x : DAt h d es ep) (k : ∀ o, h.get? d = some o → h'.get? d = some o) : DAt h' d es ep := let ⟨o, ho, r⟩ := x; ⟨o, k _ ho, r⟩
theorem DAt.lt {h : Heap} {d : Addr} {es : Array DictEntry} {ep : Nat} (x : DAt h d es ep) : d < h.objs.size := let ⟨_, ho, _⟩ := x; Heap.lt_size ho
section
variable {prog : Program} {w : World} {A : Around} {E : Value → Shared → Prop} {s : Shared} {d it : Addr} {es : Array DictEntry} {ep i : Nat}
theorem iter_of {Q : Value → Shared → Prop} (hd : (d == sysModules) = false) (hm : DAt s.heap d es ep)
    (hQ : Q (.ref s.heap.objs.size) { s with heap := s.heap.push { cls := .type "dict_keyiterator", data := .fields #[.ref d, .int 0 0, .int es.size 0, .int ep 0] } }) : wpAny (model prog w) A (pyIter (.ref d)) Q E s := by
  have T := hm.ty
  obtain ⟨ob, ho, hc, hdat⟩ := id hm
  refine wpAny_pyIter_slot T F.slot_dict_iter (wpAny_call_entry F.slot_dict_iter T F.entry_dict_iter ?_ (F.args_dict_iter_1 _))
  unfold Builtin.«dict.__iter__»
  refine wpAny_bind ?_
  unfold Builtin.Dict.dictSlotNone
  refine wpAny_bind (wpAny_notOrdered_dict T ?_)
  show wpAny _ _ (pure (Value.ref d)) _ _ s
  refine wpAny_pure ?_
  show wpAny _ _ (Builtin.Dict.showsAll d >>= _) _ _ s
  unfold Builtin.Dict.showsAll
  rw [if_neg (by rw [hd]; decide)]
  refine wpAny_bind (wpAny_pure (wpAny_bind (wpAny_dictEntries ho hdat (wpAny_bind (wpAny_dictEpoch ho hdat ?_)))))
  refine wpAny_bind (wpAny_newObj_type (wpAny_pure ⟨_, rfl, "dict_keyiterator", _, ⟨_, Heap.get?_push_size _ rfl, rfl⟩, F.slot_dict_keyiterator_next.lookup, ?_⟩))
  simpa [rawInt] using hQ
theorem next_item {Q : Option Value → Shared → Prop} (hit : s.heap.IsKeyIter it d i es.size ep) (hm : DAt s.heap d es ep) (hlt : i < es.size)
    (hQ : ∀ h', h'.IsKeyIter it d (i + 1) es.size ep → Heap.SameBut it s.heap h' → Q (some es[i].key) { s with heap := h' }) : wpAny (model prog w) A (pyNext (.ref it)) Q E s := by
  obtain ⟨ob, ho, hc, hf⟩ := id hit
  obtain ⟨od, hod, _, hdd⟩ := id hm
  unfold pyNext
  refine wpAny_bind (wpAny_attempt (wpAny_callSpecial?_slot (name := Str.ofString "__next__") hit.typeIs F.slot_dict_keyiterator_next (wpAny_call_entry F.slot_dict_keyiterator_next hit.typeIs F.entry_dict_keyiterator_next ?_ (F.args_dict_keyiterator_next_1 _))))
  refine wpAny_bind (wpAny_pure (wpAny_bind (wpAny_bind ?_)))
  first | refine wpAny_bind (wpAny_typeNameOfWhole_keyiter hit.typeIs (wpAny_pure ?_)) | refine wpAny_bind (wpAny_typeNameOf_keyiter hit.typeIs (wpAny_pure ?_))
  refine wpAny_bind (wpAny_fieldsOf ho hf ?_)
  have own : Builtin.Dict_items.ownsTuple "dict_keyiterator" = false := by decide
  simp only [own, Bool.false_eq_true, if_false]
  show wpAny _ _ (if (Value.ref d == Value.none) = true then _ else _) _ _ s
  rw [if_neg (show ¬ ((Value.ref d == Value.none) = true) from Bool.false_ne_true)]
  refine wpAny_bind (wpAny_pure (wpAny_bind (wpAny_dictEntries hod hdd ?_)))
  rw [if_neg (by simp)]
  refine wpAny_bind (wpAny_pure (wpAny_bind (wpAny_dictEpoch hod hdd ?_)))
  rw [if_neg (by simp)]
  refine wpAny_pure ?_
  simp only [show ¬ ((i : Int) < 0) from by omega, if_false, Int.toNat_natCast, Array.getElem?_eq_getElem hlt]
  refine wpAny_bind ?_
  first | refine wpAny_bind (wpAny_typeNameOfWhole_keyiter hit.typeIs (wpAny_pure ?_)) | refine wpAny_bind (wpAny_typeNameOf_keyiter hit.typeIs (wpAny_pure ?_))
  refine wpAny_bind (wpAny_isOneOf_keyiter hit.typeIs ?_)
  show wpAny _ _ (setField (.ref it) 1 (rawInt ((i : Int) + 1)) >>= _) _ _ s
  refine wpAny_bind (wpAny_setField ho hf (by simp) ?_)
  have hit' : (s.heap.update it (Obj.mapFields (·.setIfInBounds 1 (rawInt ((i : Int) + 1))))).IsKeyIter it d (i + 1) es.size ep :=
    ⟨_, Heap.get?_update_self _ ho (Obj.isFreed_of_fields (Obj.data_mapFields hf _)), (Obj.cls_mapFields ..).trans hc, by rw [Obj.data_mapFields hf]; simp [rawInt]⟩
  refine wpAny_bind (wpAny_holding (wpAny_bind (wpAny_isOneOf_keyiter (s := { s with heap := s.heap.update it (Obj.mapFields (·.setIfInBounds 1 (rawInt ((i : Int) + 1)))) }) hit'.typeIs ?_)))
  show wpAny _ _ (pure es[i].key) _ _ _
  exact wpAny_pure (wpAny_pure ⟨_, rfl, wpAny_pure (hQ _ hit' (Heap.SameBut.update ..))⟩)
theorem next_end {Q : Option Value → Shared → Prop} (hh : A.handled = none) (hit : s.heap.IsKeyIter it d i es.size ep) (hm : DAt s.heap d es ep) (hge : es.size ≤ i)
    (hQ : ∀ h', Heap.ExtBut it s.heap h' → Q none { s with heap := h' }) : wpAny (model prog w) A (pyNext (.ref it)) Q E s := by
  obtain ⟨ob, ho, hc, hf⟩ := id hit
  obtain ⟨od, hod, _, hdd⟩ := id hm
  unfold pyNext
  refine wpAny_bind (wpAny_attempt (wpAny_callSpecial?_slot (name := Str.ofString "__next__") hit.typeIs F.slot_dict_keyiterator_next (wpAny_call_entry F.slot_dict_keyiterator_next hit.typeIs F.entry_dict_keyiterator_next ?_ (F.args_dict_keyiterator_next_1 _))))
  refine wpAny_bind (wpAny_pure (wpAny_bind (wpAny_bind ?_)))
  first | refine wpAny_bind (wpAny_typeNameOfWhole_keyiter hit.typeIs (wpAny_pure ?_)) | refine wpAny_bind (wpAny_typeNameOf_keyiter hit.typeIs (wpAny_pure ?_))
  refine wpAny_bind (wpAny_fieldsOf ho hf ?_)
  have own : Builtin.Dict_items.ownsTuple "dict_keyiterator" = false := by decide
  simp only [own, Bool.false_eq_true, if_false]
  show wpAny _ _ (if (Value.ref d == Value.none) = true then _ else _) _ _ s
  rw [if_neg (show ¬ ((Value.ref d == Value.none) = true) from Bool.false_ne_true)]
  refine wpAny_bind (wpAny_pure (wpAny_bind (wpAny_dictEntries hod hdd ?_)))
  rw [if_neg (by simp)]
  refine wpAny_bind (wpAny_pure (wpAny_bind (wpAny_dictEpoch hod hdd ?_)))
  rw [if_neg (by simp)]
  refine wpAny_pure ?_
  simp only [show ¬ ((i : Int) < 0) from by omega, if_false, Int.toNat_natCast, Array.getElem?_eq_none hge]
  refine wpAny_bind ?_
  first | refine wpAny_bind (wpAny_typeNameOfWhole_keyiter hit.typeIs (wpAny_pure ?_)) | refine wpAny_bind (wpAny_typeNameOf_keyiter hit.typeIs (wpAny_pure ?_))
  show wpAny _ _ (setField (.ref it) 0 .none >>= _) _ _ s
  refine wpAny_bind (wpAny_setField ho hf (by simp) ?_)
  show wpAny _ _ (newExc (.type "StopIteration") [] >>= _) _ _ _
  refine wpAny_bind ?_
  simp only [newExc, newTuple]
  refine wpAny_bind (wpAny_newObj_type ?_ (by size_fits))
  refine wpAny_bind (m := firstArgMember _ _) (wpAny_of_eq (a := Value.none) (by first | rfl | (simp only [firstArgMember]; rfl)) ?_)
  refine wpAny_newObj_type ?_ (by size_fits)
  simp only [raiseNew]
  refine wpAny_bind (wpAny_handled ?_)
  rw [show A.in1.handled = none from hh]
  refine wpAny_bind (wpAny_pure (wpAny_throw ?_))
  refine wpAny_bind (wpAny_isInstance (T := "StopIteration") (b := true) ⟨_, Heap.get?_push_size _ rfl, rfl⟩ isSubtype_stop ?_)
  exact wpAny_pure (hQ _ (((Heap.SameBut.update ..).extBut.push _).push _))
theorem walks (hh : A.handled = none) (I d : Addr) (hne : d ≠ I) (es : Array DictEntry) (ep : Nat) :
    Walks prog w A I [I, d] [I] es.size (fun i v => ∃ e, es[i]? = some e ∧ v = e.key) (fun i h => h.IsKeyIter I d i es.size ep ∧ DAt h d es ep) where
  sub := fun b hb => by simp at hb; simp [hb]
  frame := fun _ _ _ st hk => ⟨st.1.at fun o e => hk I (by simp) o e, st.2.at fun o e => hk d (by simp) o e⟩
  item := fun i s Q E hi st hQ => by
    refine next_item st.1 st.2 hi fun h' hit' hs' => ?_
    exact hQ _ h' s.toks ⟨es[i], Array.getElem?_eq_getElem hi, rfl⟩ ⟨hit', st.2.at fun o e => hs'.extBut d o hne e⟩ fun b o hb e => hs'.extBut b o (fun h => hb (by simp [h])) e
  done := fun s Q E st hQ => next_end hh st.1 st.2 (Nat.le_refl _) fun h' he' => hQ h' s.toks fun b o hb e => he' b o (fun h => hb (by simp [h])) e
  self := fun _ _ _ _ st hQ => wpAny_pyIter_keyiter st.1 hQ
theorem src (lo : (d == sysModules) = false) : PySem.W.KdlSrc prog w "dict" d d es.size (fun i v => ∃ e, es[i]? = some e ∧ v = e.key) (fun h => DAt h d es ep) where
  type := fun _ hm => hm.ty
  there := fun _ hm => ⟨hm.lt, hm.lt⟩
  keep := fun _ _ hm hk => hm.at fun o e => hk d (.inl rfl) o e
  notList := by decide
  notTuple := by decide
  hint := fun _ _ _ _ hm hq => PySem.W.kdl_hint_dict hm.ty hq
  iter := fun _ _ hh hm => ⟨_, _, (fun _ _ hq => iter_of lo hm hq), walks hh _ d (Nat.ne_of_lt hm.lt) es ep, ⟨⟨_, Heap.get?_push_size _ rfl, rfl, rfl⟩, hm.at fun o e => Heap.get?_push_of_some _ e⟩⟩
theorem call_list_d {Q : Value → Shared → Prop} (hh : A.handled = none) (lo : (d == sysModules) = false) (hm : DAt s.heap d es ep) (hn : es.size ≤ sizeLine)
    (hQ : ∀ h' tk acc' c', (∀ b o, s.heap.get? b = some o → h'.get? b = some o) → h'.get? s.heap.objs.size = some { cls := .type "list", dict := none, data := .seq acc' c', slots := #[] } → ItemsOf (fun i v => ∃ e, es[i]? = some e ∧ v = e.key) acc' es.size → Q (.ref s.heap.objs.size) { s with heap := h', toks := tk }) :
    wpAny (model prog w) A (call (.type "list") [.ref d]) Q E s := PySem.W.kdl_call (src (ep := ep) lo) hh hm hn hQ
end
section
variable {prog : Program} {w : World} {A : Around} {E : Value → Shared → Prop} {s : Shared}
theorem collect_range {Q : List Value → Shared → Prop} {r : Addr} {a b c : Int} {t u v : Tok} {n : Nat} (hh : A.handled = none) (hr : IsRange s.heap r a b c t u v) (hsmall : Builtin.Range.small a b c = true)
    (hn : Builtin.Range.rangeSize a b c = n) (hlen : n ≤ 2 ^ 24)
    (hQ : ∀ h' tk acc, (∀ b o, s.heap.get? b = some o → h'.get? b = some o) → ItemsOf (fun i v => ∃ t, v = .int (a + i * c) t) acc n → Q acc.toList { s with heap := h', toks := tk }) : wpAny (model prog w) A (collect (.ref r)) Q E s := by
  unfold collect
  refine wpAny_bind (wpAny_runValue (codeAny_builtin F.entry_proto_collect ?_))
  rw [Around.under_plainId F.plain_proto_collect _]
  show wpAny _ A.in1 (newList [] >>= fun l => again (.builtin "list.__iadd__" ⟨[l, .ref r], []⟩)) _ _ s
  refine wpAny_bind (wpAny_newObj_type (wpAny_pure ⟨plainId_quiet F.plain_list_iadd _, codeAny_builtin F.entry_list_iadd ?_⟩))
  rw [Around.under_plainId F.plain_list_iadd _]
  show wpAny _ A.in1 (Builtin.List.listExtendWith (.ref s.heap.objs.size) (.ref r) (.ref s.heap.objs.size)) _ _ _
  have hS : (s.heap.push { cls := .type "list", data := .seq ([] : List Value).toArray }).get? s.heap.objs.size = some { cls := .type "list", data := .seq #[] 0 } := Heap.get?_push_size _ rfl
  refine wpAny_mono (wpAny_extend_range (A := A) (R := fun res s' => res = .ok (.ret (.ref s.heap.objs.size)) ∧ ∃ h' tk acc c', (∀ b o, s.heap.get? b = some o → h'.get? b = some o) ∧ h'.get? s.heap.objs.size = some { cls := .type "list", dict := none, data := .seq acc c', slots := #[] } ∧ ItemsOf (fun i v => ∃ t, v = .int (a + i * c) t) acc n ∧ s' = { s with heap := h', toks := tk })
    (s := { s with heap := s.heap.push { cls := .type "list", data := .seq ([] : List Value).toArray } }) hh (Heap.get?_push_of_some _ hr) hsmall hn hlen _ (.ref s.heap.objs.size) 0 hS
    fun h' tk acc c' hk hS' hacc => ⟨rfl, h', tk, acc, c', fun b o e => hk b o (Nat.ne_of_lt (Heap.lt_size e)) (Heap.get?_push_of_some _ e), hS', hacc, rfl⟩) (fun fin s' h => ?_) (fun e s' h => ?_)
  · have fine : ∀ (res : Result) (s' : Shared), (res = .ok (.ret (.ref s.heap.objs.size)) ∧ ∃ h' tk acc c', (∀ b o, s.heap.get? b = some o → h'.get? b = some o) ∧ h'.get? s.heap.objs.size = some { cls := .type "list", dict := none, data := .seq acc c', slots := #[] } ∧ ItemsOf (fun i v => ∃ t, v = .int (a + i * c) t) acc n ∧ s' = { s with heap := h', toks := tk }) →
        wpAny (model prog w) A (load s.heap.objs.size >>= fun o => match o.data with
          | Data.seq xs _ => pure xs.toList
          | _ => unsupported "internal:collect") Q E s' := by
      rintro res s' ⟨_, h', tk, acc, c', hk, hS', hacc, rfl⟩
      refine wpAny_bind (wpAny_load hS' ?_)
      exact wpAny_pure (hQ h' tk acc hk hacc)
    cases fin with
    | done f =>
      have q := fine _ _ h
      obtain ⟨e, _⟩ := h
      cases e
      exact q
    | again c' => exact ⟨h.1, codeAny_mono h.2 fun res s'' hr => by
        have q := fine _ _ hr
        obtain ⟨e, _⟩ := hr
        subst e
        exact q⟩
  · exact absurd h.1 (by simp)
theorem call_tuple_range {Q : Value → Shared → Prop} {r : Addr} {a b c : Int} {t u v : Tok} {n : Nat} (hh : A.handled = none) (hr : IsRange s.heap r a b c t u v) (hsmall : Builtin.Range.small a b c = true)
    (hn : Builtin.Range.rangeSize a b c = n) (hlen : n ≤ 2 ^ 24)
    (hQ : ∀ (h' : Heap) tk acc, (∀ b o, s.heap.get? b = some o → h'.get? b = some o) → ItemsOf (fun i v => ∃ t, v = .int (a + i * c) t) acc n → Q (.ref h'.objs.size) { s with heap := h'.push { cls := .type "tuple", data := .seq acc }, toks := tk }) :
    wpAny (model prog w) A (call (.type "tuple") [.ref r]) Q E s := by
  have T : s.TypeIs (.ref r) "range" := ⟨_, hr, rfl⟩
  refine callType_codes (Q₁ := fun obj s₁ => s₁.TypeIs obj "tuple" ∧ Q obj s₁) F.called_tuple (F.typeCall_tuple_1 _) F.entry_object_init (codeAny_of_tree ?_) fun obj s₁ h₁ =>
    ⟨h₁.1, F.args_object_init_2 obj _, object_init_meets F.called_tuple.init.lookup F.called_tuple.made (by decide) prog w A.in1 _ s₁ ⟨h₁.1, rfl, h₁.2⟩⟩
  show wpAny _ A.in1.in1 (do checkBuiltinCall "tuple.__new__" ⟨[.type "tuple", .ref r], []⟩; again (.builtin "tuple.__new__" ⟨[.type "tuple", .ref r], []⟩)) _ _ s
  refine wpAny_bind (wpAny_of_eq (F.newCall_tuple_1 _) (wpAny_pure ⟨plainId_quiet F.plain_tuple_new _, codeAny_builtin F.entry_tuple_new ?_⟩))
  rw [Around.under_plainId F.plain_tuple_new _]
  have hsub := sub_tuple_self
  have hinit := init_tuple_lookup
  have hmh := madeHere_tuple
  wp_walk using wpAny_typeOf T, collect_range (A := A.in1.in1) hh hr hsmall hn hlen
  intro h' tk acc hk hacc
  show wpAny _ _ (Builtin.Tuple.tupleExact acc.toList.toArray >>= fun v => ret v) _ _ _
  unfold Builtin.Tuple.tupleExact
  have e : acc.toList.toArray = acc := by simp
  rw [e]
  refine wpAny_bind (wpAny_newObj_type ?_ (by show acc.size ≤ sizeLine; rw [hacc.1, sizeLine_eq]; omega))
  exact wpAny_pure ⟨⟨_, Heap.get?_push_size _ rfl, rfl⟩, hQ h' tk acc hk hacc⟩
end
end ZD

namespace L2
open PySem PySem.Spec PyProof.Rows
def Cx.comp (X : Cx) (scope : Scope) (N' : List Str) (C : Addr) (fp : List Addr) (s : Shared) (H : Hp) : Cx :=
  { X with env := compEnvC scope (capt X.env.cells scope.names []) C X.env, N := N', s₀ := s, H₀ := H, outer := X.stack, stack := X.stack, ex := fp, fn := fun _ => false, pn := [], xe := fun _ _ => False }
def capSt (ix : List (Option Nat)) (σ : St) : St := ix.map fun o => match o with
  | none => none
  | some i => (σ[i]?).getD none
section
variable {X : Cx} {scope : Scope} {N' : List Str} {ix : List (Option Nat)} {fp : List Addr} {pins : List (Addr × Obj)} {σ : St} {H : Hp} {s : Shared} {C : Addr}
theorem comp_cells (I : Inv X pins σ H s) (hk : CompOk scope X.env.scope X.N N' ix) : ∀ y c, (capt X.env.cells scope.names []).lookup y = some c → X.env.cells.lookup y = some c := fun y c e => by
  rcases capt_from _ _ _ y c e with ⟨c', q⟩ | q
  · simp at q
  · have h1 := capt_eq X.env.cells scope.names [] (fun _ _ z => by simp at z) y c e
    obtain ⟨c2, h2⟩ := I.ok.has y (hk.out (y, .free) q rfl)
    rw [h2] at h1 ⊢
    exact congrArg some h1.symm
theorem inv_comp {h₁ : Heap} {m : Str → Option Value} {tk : Nat} (hk : CompOk scope X.env.scope X.N N' ix) (I : Inv X pins σ H s) (f2 : ∀ b ∈ fp, FpOk X pins H b) (f3 : ∀ b ∈ fp, b < s.heap.objs.size)
    (hC : s.heap.objs.size ≤ C) (hn : h₁.Ns C m) (old : ∀ b o, s.heap.get? b = some o → h₁.get? b = some o) :
    Inv (X.comp scope N' C fp s H) [] (capSt ix σ) H { s with heap := h₁, toks := tk } := by
  have cells := comp_cells I hk
  refine ⟨⟨I.ok.mod, hk.kind, I.ok.glob, I.ok.blt, hC, fun x y c h1 h2 => I.ok.inj x y c (cells x c h1) (cells y c h2), fun x hx => ?_, fun x c hf => absurd (show false = true from hf) (by decide), I.ok.hd, I.ok.frames, .inl rfl, fun b hb => ⟨?_, fun x c e => (f2 b hb).2.2.2.2.1 x c (cells x c e)⟩, I.bs, Nat.le_trans I.ok.bsz I.sz, fun b o e hb => ?_, fun b hb hz => ?_, I.stack, I.stkFree⟩,
    rfl, I.bare, Un.kept old, ⟨m, hn, fun j x v e1 e2 e3 => ?_⟩, fun x c e => ?_, I.hok.fresh hC, fun x c e => I.freeC x c (cells x c e), fun p hp => absurd (show p ∈ ([] : List (Addr × Obj)) from hp) (by simp), I.hok.kept old, ?_⟩
  · refine capt_has _ _ _ _ (.inl ?_)
    rcases hx with hx | hx
    · exact of_relabel (env := X.env) hk.nocell (.inl rfl) hx
    · exact of_relabel (env := X.env) hk.nocell (.inr rfl) hx
  · exact Nat.ne_of_lt (Nat.lt_of_lt_of_le (f3 b hb) hC)
  · rcases (f2 b hb).2.2.2.1 with z | z
    · exact I.ok.noex b o e z
    · exact absurd (Nat.lt_of_lt_of_le (Heap.lt_size (I.ok.bs b o e).1) z) (Nat.lt_irrefl _)
  · rcases List.mem_cons.mp (I.stkSub b hz) with e | e
    · exact (f2 b hb).2.1 e
    · exact (f2 b hb).2.2.1 e
  · have e2' : (ix.map fun o => match o with
        | none => none
        | some i => (σ[i]?).getD none)[j]? = some (some v) := e2
    rw [List.getElem?_map] at e2'
    cases q : ix[j]? with
    | none => rw [q] at e2'; cases e2'
    | some o =>
      rw [q] at e2'
      cases o with
      | none => exact nomatch (show some none = some (some v) from e2')
      | some i =>
        have e4 : some ((σ[i]?).getD none) = some (some v) := e2'
        have e5 : σ[i]? = some (some v) := by
          cases r : σ[i]? with
          | none => rw [r] at e4; exact nomatch (show some none = some (some v) from e4)
          | some z => rw [r] at e4; rw [show z = some v from Option.some.inj e4]
        obtain ⟨hN, hf⟩ := hk.cap j i x q e1
        have hm := PySem.mem_of_lookup hf
        have ho := hk.out (x, .free) hm rfl
        obtain ⟨m0, hn0, hl0⟩ := I.loc
        obtain ⟨u, r, l⟩ := hl0 i x v hN e5 (by rcases ho with z | z; exact .inr (.inl z); exact .inr (.inr z))
        refine ⟨u, r, .inr ⟨relabel_free (env := X.env) hf, ?_⟩⟩
        rcases l with ⟨hl, _⟩ | ⟨_, c, e, o, ho', hd⟩
        · have hl' : X.env.scope.names.lookup x = some .local := hl
          rcases ho with z | z
          · rw [hl'] at z; cases z
          · rw [hl'] at z; cases z
        · obtain ⟨c', hc'⟩ := capt_has X.env.cells scope.names [] x (.inl hm)
          have hc := cells x c' hc'
          rw [e] at hc
          cases hc
          exact ⟨c, hc', o, old c o ho', hd⟩
  · obtain ⟨v, o, ho, hd⟩ := I.cell x c (cells x c e)
    exact ⟨v, o, old c o ho, hd⟩
  · show (ix.map _).length = N'.length
    rw [List.length_map]
    exact hk.len
theorem Inv.adopt {a : Addr} {o : HO} (I : Inv X pins σ H s) (f : FpOk X pins H a) (hx : X.s₀.heap.objs.size ≤ a) (new : ObjOk X.prog X.w (upd H a o) s.heap a o) : Inv X pins σ (upd H a o) s := by
  obtain ⟨hn, hL, hf, _, hc, hp⟩ := f
  have lt : ∀ b ob, X.s₀.heap.get? b = some ob → b ≠ a := fun b ob e => Nat.ne_of_lt (Nat.lt_of_lt_of_le (Heap.lt_size e) hx)
  refine ⟨I.ok, I.os, I.bare, ⟨I.base.keep, I.base.slot, fun b ob e n hx => ?_, I.base.there, fun b xs e => ?_, fun b ob u e => ?_, fun b ps e => ?_⟩, I.loc, I.cell, ?_, fun x c e => ?_, fun p hp' => ?_, fun b u e => ?_, I.len⟩
  · rw [upd_ne (lt b ob e)]; exact I.base.free b ob e n hx
  · have q := I.base.tups b xs e
    rw [upd_ne (ne_of_none q hn)]; exact q
  · have q := I.base.frzs b ob u e
    rw [upd_ne (ne_of_none q hn)]; exact q
  · obtain ⟨more, q⟩ := I.base.tbls b ps e
    exact ⟨more, by rw [upd_ne (ne_of_none q hn)]; exact q⟩
  · rw [upd_ne hL.symm]; exact I.free
  · rw [upd_ne (hc x c e)]; exact I.freeC x c e
  · obtain ⟨q1, q2, q3⟩ := I.pin p hp'
    exact ⟨q1, by rw [upd_ne (hp p hp')]; exact q2, q3⟩
  · by_cases hb : b = a
    · subst hb; rw [upd_same] at e; cases e; exact new
    · rw [upd_ne hb] at e
      exact (I.hok b u e).stay (fun _ _ _ q => q) (fun c q => by rw [upd_ne (ne_of_none q hn)]; exact q) fun c xs q => by rw [upd_ne (ne_of_none q hn)]; exact q
end
section
variable {prog : Program} {w : World} {A : Around} {R : Result → Shared → Prop} {s : Shared}
theorem compLoop_go {elt target iter : Expr} {ifs : List Expr} {scope : Scope} {pos : Pos} {it acc : Value} {env : Env} (I : Nat → Shared → Prop)
    (turn : ∀ n s, I n s → wpAny (model prog w) A (pyNext it) (fun r s₁ => match r with
      | none => R (.ok .next) s₁
      | some v => wpAny (model prog w) A (letOwnedTupleGo target it v) (fun _ s1' => wpAny (model prog w) A (assign target env v) (fun _ s₂ =>
          wpAny (model prog w) A (forIn ifs true fun c r => if r = true then do let ok ← isTrue c env (eval c env); pure (ForInStep.yield ok) else pure (ForInStep.yield r)) (fun ok s₃ =>
            if ok = true then wpAny (model prog w) A (eval elt env) (fun x s₄ => wpAny (model prog w) A (call (.builtin "list.append") [acc, x]) (fun _ s₅ => ∃ m, m < n ∧ I m s₅) (fun _ _ => False) s₄) (fun _ _ => False) s₃
            else ∃ m, m < n ∧ I m s₃) (fun _ _ => False) s₂) (fun _ _ => False) s1') (fun _ _ => False) s₁) (fun _ _ => False) s)
    (n : Nat) (h : I n s) : codeAny (model prog w) A (.compLoop (.ListComp elt [⟨target, iter, ifs, 0⟩] scope pos) 0 it acc env) R s := by
  refine codeAny_loop rfl I (fun n s hI => ?_) n h
  show wpAny _ A ((compTurn (.ListComp elt [⟨target, iter, ifs, 0⟩] scope pos) 0 it acc env).onRaise (fun x => do noteFrame x env; theTreesLotGoes x)) _ _ s
  refine wpAny_noted (wpAny_mono (E := fun _ _ => False) ?_ (fun _ _ q => q) fun _ _ f => f.elim)
  rw [compTurn_list]
  refine wpAny_bind (wpAny_standAt (wpAny_bind (thn (turn n s hI) fun r s₁ h₁ => ?_)))
  cases r with
  | none => exact wpAny_pure h₁
  | some v =>
    refine wpAny_bind (thn h₁ fun _ s1' h1' => wpAny_bind (thn h1' fun _ s₂ h₂ => wpAny_bind (thn h₂ fun ok s₃ h₃ => ?_)))
    cases ok with
    | false => exact wpAny_pure ⟨rfl, h₃⟩
    | true => exact wpAny_bind (wpAny_bind (thn h₃ fun x s₄ h₄ => wpAny_bind (thn h₄ fun _ s₅ h₅ => wpAny_pure (wpAny_pure ⟨rfl, h₅⟩))))
end
def PTs (X : Cx) (ifs : List Expr) (t : TT) : Prop :=
  ∀ (pins : List (Addr × Obj)) (s : Shared) (σ : St) (H : Hp) (Q : Bool → Hp → Prop), Inv X pins σ H s → t σ H Q →
    wpAny (model X.prog X.w) X.A (forIn ifs true fun c r => if r = true then do let ok ← isTrue c X.env (eval c X.env); pure (ForInStep.yield ok) else pure (ForInStep.yield r)) (TP X pins σ Q) X.xe s
def tTrue : TT := fun _ H Q => Q true H
theorem pts_nil {X : Cx} : PTs X [] tTrue := fun _ _ _ H _ I h => wpAny_tests_nil ⟨H, I, h⟩
theorem pts_one {X : Cx} {c : Expr} {tc : TT} (hc : PT X c tc) : PTs X [c] tc := fun pins s σ H Q I h => wpAny_tests_one (hc pins s σ H Q I h)

section
variable {X : Cx} {tg elt iter : Expr} {ifs : List Expr} {scope : Scope} {pos : Pos} {N' : List Str} {ix : List (Option Nat)} {g : TG} {tc : TT} {te : TE} {pins : List (Addr × Obj)} {σ : St} {H : Hp} {s : Shared}
theorem comp_core {E : Value → Shared → Prop} (hk : CompOk scope X.env.scope X.N N' ix) (hc : X.calm = true) (hg : ∀ C fp s H, PG (X.comp scope N' C fp s H) tg g) (ht : ∀ C fp s H, PTs (X.comp scope N' C fp s H) ifs tc)
    (he : ∀ C fp s H, PE (X.comp scope N' C fp s H) elt te) {it : Addr} {fp : List Addr} {tn : Nat → Heap → Prop} {J : It} (I2 : Inv X pins σ H s) (T : Turn X.prog X.w X.K tg J fp it tn) (st : tn 0 s.heap) (f2 : ∀ b ∈ fp, FpOk X pins H b)
    {Qe : List V → Hp → Prop} {W : Nat → Nat → List V → St → Hp → Prop} {m0 : Nat} (w0 : W 0 m0 [] (capSt ix σ) H)
    (turn : ∀ i m ys τ H, W i m ys τ H → (J.stop i H ∧ Qe ys H) ∨ (J.go i H ∧ ys.length < sizeLine ∧ ∃ N : List V → St → Hp → Prop, (∀ zs τ' H', N zs τ' H' → ∃ m', m' < m ∧ W (i + 1) m' zs τ' H') ∧ ∀ x H', J.yld i H x H' → g x τ H' fun τ1 H1 => tc τ1 H1 fun b H2 =>
      if b = true then te τ1 H2 fun y H3 => N (ys ++ [y]) τ1 H3 else N ys τ1 H2))
    {RR : Value → Addr → Result → Shared → Prop}
    (fin : ∀ (D C : Addr) (ys : List V) (its : List Value) (n : Nat) (H' : Hp) (s' : Shared) (m : Str → Option Value), s.heap.objs.size ≤ D → s.heap.objs.size ≤ C → D ≠ C → s'.heap.Ns C m → H' D = none → H' C = none → ys.length ≤ sizeLine →
      Vals ys its → s'.heap.get? D = some { cls := .type "list", data := .seq its.toArray n } → Inv X pins σ H' s' → Qe ys H' → RR (.ref D) C (.ok .next) s') :
    wpAny (model X.prog X.w) X.A (newList []) (fun acc s₃ => wpAny (model X.prog X.w) X.A (newFunctionEnv scope X.env.globals (capt X.env.cells scope.names []) [] X.env.qual none .none (some X.env)) (fun cenv s₄ =>
      codeAny (model X.prog X.w) X.A (.compStart (.ListComp elt [⟨tg, iter, ifs, 0⟩] scope pos) 0 (.ref it) acc { cenv with scope := relabel scope X.env }) (RR acc cenv.locals) s₄) E s₃) E s := by
  have f3 : ∀ b ∈ fp, b < s.heap.objs.size := fun b hb => let ⟨o, e, _⟩ := T.obj 0 _ st b hb; Heap.lt_size e
  refine wpAny_newObj_type (wpAny_newFunctionEnv hk.nocell (by intro y hy; simp at hy) (fun h₁ hns₁ hsb₁ => ?_) hk.kind)
  dsimp only at hns₁ hsb₁ ⊢
  generalize hH2 : s.heap.push { cls := .type "list", dict := none, data := .seq ([] : List Value).toArray } = G2 at hns₁ hsb₁ ⊢
  have hCs : G2.objs.size = s.heap.objs.size + 1 := by rw [← hH2, Heap.size_push]
  generalize hCC : G2.objs.size = C at hns₁ hsb₁ hCs ⊢
  generalize hDD : s.heap.objs.size = D at hCs ⊢
  have hDC : D ≠ C := by rw [hCs]; exact Nat.ne_of_lt (Nat.lt_succ_self _)
  have hsC : s.heap.objs.size ≤ C := by rw [hCs, hDD]; exact Nat.le_succ _
  have hsD : s.heap.objs.size ≤ D := Nat.le_of_eq hDD
  have old : ∀ b o, s.heap.get? b = some o → h₁.get? b = some o := fun b o e => hsb₁.extBut b o (Nat.ne_of_lt (Nat.lt_of_lt_of_le (Heap.lt_size e) hsC)) (Heap.get?_push_of_some _ (hH2 ▸ Heap.get?_push_of_some _ e))
  have hacc : h₁.get? D = some { cls := .type "list", data := .seq ([] : List Value).toArray } := hsb₁.extBut _ _ hDC (Heap.get?_push_of_some _ (hH2 ▸ hDD ▸ Heap.get?_push_size _ rfl))
  have frD : H D = none := I2.hok.fresh hsD
  have nD : ∀ b, b < s.heap.objs.size → b ≠ D := fun b hb => Nat.ne_of_lt (Nat.lt_of_lt_of_le hb hsD)
  have dfs : D ∉ frs X.stack := fun hb => by
    rcases List.mem_cons.mp (I2.stkSub D hb) with e | e
    · exact absurd I2.lt (by rw [← e]; exact Nat.not_lt.mpr hsD)
    · exact I2.nofs hsD e
  have cellD : ∀ x c, (capt X.env.cells scope.names []).lookup x = some c → c ≠ D := fun x c e => by
    obtain ⟨v, q⟩ := I2.cell x c (comp_cells I2 hk x c e)
    exact nD c q.lt
  have pinD : ∀ {τ : St} {H' : Hp} {s' : Shared} {o : Obj}, Inv (X.comp scope N' C fp s H) [] τ H' s' → s'.heap.get? D = some o → H' D = none → (∀ v, o.data ≠ .cell v) → Inv (X.comp scope N' C fp s H) [(D, o)] τ H' s' := fun I e n d =>
    I.pins_of fun p hp => by
      rw [List.mem_singleton] at hp
      subst hp
      exact ⟨e, n, hDC, dfs, d⟩
  have stat : ∀ {H' : Hp} {o : Obj}, (∀ b ∈ fp, H' b = none) → ∀ b ∈ fp, FpOk (X.comp scope N' C fp s H) [(D, o)] H' b := fun {H' o} hn b hb => by
    obtain ⟨_, q1, q2, _, q4, _⟩ := f2 b hb
    refine ⟨hn b hb, Nat.ne_of_lt (Nat.lt_of_lt_of_le (f3 b hb) hsC), fun z => ?_, .inl hb, fun x c e => q4 x c (comp_cells I2 hk x c e), fun p hp => ?_⟩
    · rcases List.mem_cons.mp (I2.stkSub b z) with e | e
      · exact q1 e
      · exact q2 e
    · have hp' : p ∈ [(D, o)] := hp
      rw [List.mem_singleton] at hp'
      subst hp'
      exact (nD b (f3 b hb)).symm
  have loop : ∀ s₃ : Shared, s₃ = { s with heap := h₁, toks := s.toks + ([] : List (Str × Value)).length } →
      codeAny (model X.prog X.w) X.A (.compLoop (.ListComp elt [⟨tg, iter, ifs, 0⟩] scope pos) 0 (.ref it) (.ref D) (compEnvC scope (capt X.env.cells scope.names []) C X.env)) (RR (.ref D) C) s₃ := by
    rintro s₃ rfl
    refine compLoop_go (fun n s' => ∃ i ys its no τ H', Inv (X.comp scope N' C fp s H) [] τ H' s' ∧ tn i s'.heap ∧ (∀ b ∈ fp, H' b = none) ∧ H' D = none ∧ ys.length ≤ sizeLine ∧ Vals ys its ∧
      s'.heap.get? D = some { cls := .type "list", data := .seq its.toArray no } ∧ W i n ys τ H') ?_ m0
      ⟨0, [], [], 0, capSt ix σ, H, inv_comp hk I2 f2 f3 hsC hns₁ old, T.keep _ _ _ st fun b _ o e => old b o e, fun b hb => (f2 b hb).1, frD, Nat.zero_le _, .nil, hacc, w0⟩
    rintro n s3 ⟨i, ys, its, no, τ, H3, I3, st3, fr3, hD3, hz, rv, hd, w3⟩
    have I3' := pinD I3 hd hD3 (fun v z => by
      have z' : Data.seq _ _ = Data.cell v := z
      cases z')
    rcases turn i n ys τ H3 w3 with ⟨stop, qe⟩ | ⟨go, hlt, N, hN, step⟩
    · refine thn (T.done (X.comp scope N' C fp s H) rfl rfl rfl hc i _ s3 τ H3 _ I3' (stat fr3) st3 stop) fun r s4 ⟨hr, I4⟩ => ?_
      subst hr
      obtain ⟨m, hm, _⟩ := I4.loc
      obtain ⟨p1, p2, _⟩ := I4.pin (D, _) (List.mem_singleton.mpr rfl)
      refine fin D C ys its no H3 s4 m hsD hsC hDC hm p2 I4.free hz rv p1 ?_ qe
      exact I2.call' (ch := fp) I4.os I4.base I4.hok I4.bare fun b hb => let ⟨_, q1, _, q3, q4, q5⟩ := f2 b hb; ⟨q3, q1, q4, q5⟩
    · refine thn (T.item (X.comp scope N' C fp s H) rfl rfl rfl hc i _ s3 τ H3 _ I3' (stat fr3) st3 go) fun r s4 ⟨u, hr, h4⟩ => ?_
      subst hr
      refine thn h4 fun _ s5 ⟨x, H5, I5, r5, y5, st5, fr5⟩ => ?_
      have I5' := I5.pinned (fp := fp) (stat fr5) (T.obj _ _ st5)
      refine thn (hg C fp s H _ s5 τ H5 x u _ I5' r5 (step x H5 y5)) fun _ s6 ⟨τ6, H6, I6, q6⟩ => ?_
      refine thn (ht C fp s H _ s6 τ6 H6 _ I6 q6) fun b s7 ⟨H7, I7, q7⟩ => ?_
      have back : ∀ {τ' : St} {H' : Hp} {s' : Shared}, Inv (X.comp scope N' C fp s H) ([(D, { cls := .type "list", data := .seq its.toArray no })] ++ pinsAt fp s5.heap) τ' H' s' →
          tn (i + 1) s'.heap ∧ (∀ b ∈ fp, H' b = none) ∧ H' D = none ∧ s'.heap.get? D = some { cls := .type "list", data := .seq its.toArray no } ∧ Inv (X.comp scope N' C fp s H) [] τ' H' s' := fun {τ' H' s'} I' => by
        have pD := I'.pin (D, { cls := .type "list", data := .seq its.toArray no }) (List.mem_append_right _ (List.mem_append_left _ (List.mem_singleton.mpr rfl)))
        refine ⟨T.keep _ _ _ st5 fun b hb o e => (I'.pin (b, o) (List.mem_append_right _ (List.mem_append_right _ (mem_pinsAt hb e)))).1, fun b hb => ?_, pD.2.1, pD.1, I'.pins_of fun p hp => by simp at hp⟩
        obtain ⟨o, e, d⟩ := T.obj _ _ st5 b hb
        exact (I'.pin (b, o) (List.mem_append_right _ (List.mem_append_right _ (mem_pinsAt hb e)))).2.1
      cases b with
      | false =>
        obtain ⟨m', hm, w7⟩ := hN _ _ _ q7
        obtain ⟨a1, a2, a3, a4, a5⟩ := back I7
        exact ⟨m', hm, i + 1, ys, its, no, τ6, H7, a5, a1, a2, a3, hz, rv, a4, w7⟩
      | true =>
        refine thn (he C fp s H _ s7 τ6 H7 _ I7 q7) fun v s8 ⟨y, H8, I8, r8, q8⟩ => ?_
        obtain ⟨m', hm, w8⟩ := hN _ _ _ q8
        obtain ⟨a1, a2, a3, a4, a5⟩ := back I8
        have hl := rv.length
        refine call_meets F.slot_list_append ⟨_, a4, rfl⟩ F.entry_list_append (F.args_list_append_2 _ _) (PySem.list_append D its.toArray no v (by rw [List.size_toArray]; omega)) ⟨a4, ?_⟩
        have e9 := PySem.IsL.update a4 (·.push v)
        have e10 : its.toArray.push v = (its ++ [v]).toArray := by simp
        rw [e10] at e9
        refine ⟨m', hm, i + 1, ys ++ [y], its ++ [v], _, τ6, H8, a5.turned (it := D) (fun b o hb e => (Heap.get?_update_other s8.heap _ (Ne.symm hb)).trans e) a3 hDC (.inr hsD) cellD (fun p hp => absurd (show p ∈ ([] : List (Addr × Obj)) from hp) (by simp)),
          T.keep _ _ _ a1 fun b hb o e => (Heap.get?_update_other s8.heap _ (Ne.symm (nD b (f3 b hb)))).trans e, a2, a3, ?_, rv.append (.cons r8 .nil), e9, w8⟩
        rw [List.length_append, List.length_singleton]
        omega
  exact codeAny_compStart_list (loop _ rfl) (T.self _ _ _ _ _ (T.keep _ _ _ st fun b _ o e => old b o e) (loop _ rfl))

def CompEnd (J : It) (g : TG) (tc : TT) (te : TE) (Q : VK) (τ0 : St) (H : Hp) : Prop := ∃ W : Nat → Nat → List V → St → Hp → Prop, (∃ m, W 0 m [] τ0 H) ∧ ∀ i m ys τ H, W i m ys τ H →
  (J.stop i H ∧ ∀ D, H D = none → Q (.ref D) (upd H D (.lst ys))) ∨ (J.go i H ∧ ys.length < sizeLine ∧ ∃ N : List V → St → Hp → Prop, (∀ zs τ' H', N zs τ' H' → ∃ m', m' < m ∧ W (i + 1) m' zs τ' H') ∧ ∀ x H', J.yld i H x H' → g x τ H' fun τ1 H1 => tc τ1 H1 fun b H2 =>
    if b = true then te τ1 H2 fun y H3 => N (ys ++ [y]) τ1 H3 else N ys τ1 H2)
def tComp (ix : List (Option Nat)) (wi : TI) (g : TG) (tc : TT) (te : TE) : TE := fun σ H Q => wi σ H fun J H1 => CompEnd J g tc te Q (capSt ix σ) H1
variable {wi : TI}
theorem pe_comp (N' : List Str) (ix : List (Option Nat)) (hk : compOk scope X.env.scope X.N N' ix = true) (hc : X.calm = true) (hi : PI X tg iter wi) (hg : ∀ C fp s H, PG (X.comp scope N' C fp s H) tg g)
    (ht : ∀ C fp s H, PTs (X.comp scope N' C fp s H) ifs tc) (he : ∀ C fp s H, PE (X.comp scope N' C fp s H) elt te) (hs : ∀ x, foldedSetIterable iter X.env x = pure x := by intro _; rfl) :
    PE X (.ListComp elt [⟨tg, iter, ifs, 0⟩] scope pos) (tComp ix wi g tc te) := by
  intro pins s σ H Q I h
  have hk := compOk_of hk
  rw [eval_ListComp]
  refine wpAny_comprehension_free (use := none) rfl hs (capt_closure fun y hy hf => I.ok.has y.1 (hk.out y hy hf)) hk.kind hk.names (thn (hi pins s σ H _ I h) fun v s1 h1 => thn h1 fun itv s2 h2 => ?_)
  obtain ⟨it, fp, tn, J, H2, e, I2, T, st2, f2, W, ⟨m0, w0⟩, turn⟩ := h2
  subst e
  refine comp_core (RR := fun acc C => compPost (model X.prog X.w) X.A X.xe none (EP X pins σ Q) acc C) hk hc hg ht he I2 T st2 f2 w0 turn fun D C ys its n H' s' m hD hC hDC hn hHD hHC hz rv hd I' q => ?_
  refine ⟨m, hn, fun h' hs' => ?_⟩
  obtain ⟨_, c1, c2, c3, c4, c5⟩ := I2.fpOk hC hHC
  have I3 : Inv X pins σ H' { s' with heap := h' } := I'.turned (it := C) (t' := s'.toks) (fun b o hb e => (hs'.2 b hb).trans e) hHC c1 c3 c4 c5
  refine ⟨.ref D, _, I3.adopt (o := .lst ys) (I2.fpOk hD hHD) (Nat.le_trans I2.sz hD) ⟨hz, its, n, rv, (hs'.2 D hDC).trans hd⟩, rfl, q D hHD⟩
theorem ps_comp {k : Nat} {y : Str} {py spos : Pos} (N' : List Str) (ix : List (Option Nat)) (hk : compOk scope X.env.scope X.N N' ix = true) (hc : X.calm = true) (hN : X.N.Nodup) (hky : X.N[k]? = some y) (hx : Loc X.env.scope y) (hi : PI X tg iter wi)
    (hg : ∀ C fp s H, PG (X.comp scope N' C fp s H) tg g) (ht : ∀ C fp s H, PTs (X.comp scope N' C fp s H) ifs tc) (he : ∀ C fp s H, PE (X.comp scope N' C fp s H) elt te)
    (hsw : swapsWith (.ListComp elt [⟨tg, iter, ifs, 0⟩] scope pos) (some (.Name y py)) spos.line X.env = pure true := by rfl) (hs : ∀ x, foldedSetIterable iter X.env x = pure x := by intro _; rfl)
    (hf : X.fn y = true ∨ X.env.scope.names.lookup y = some .local := by first | exact .inl rfl | exact .inr rfl | assumption) :
    PS X (.Assign [.Name y py] (.ListComp elt [⟨tg, iter, ifs, 0⟩] scope pos) spos) (tAsg (tComp ix wi g tc te) (gName k)) := by
  intro pins s σ H D' I h
  have hk := compOk_of hk
  rw [exec_Assign_Name_used _ _ _ _ hsw]
  refine wpAny_bind (wpAny_standAt (wpAny_bind ?_))
  show wpAny _ X.A (do let _ ← comprehension (.ListComp elt [⟨tg, iter, ifs, 0⟩] scope pos) scope X.env _ (newList []) false (eval iter X.env) (some (assign (.Name y py) X.env))) _ _ s
  refine wpAny_bind (thn (wpAny_comprehension_free (use := some (assign (.Name y py) X.env)) (Q := fun _ s' => SP X pins D' .next s') rfl hs (capt_closure fun y hy hf => I.ok.has y.1 (hk.out y hy hf)) hk.kind hk.names
    (thn (hi pins s σ H _ I h) fun v s1 h1 => thn h1 fun itv s2 h2 => ?_)) fun _ s' hq => wpAny_pure (wpAny_pure hq))
  obtain ⟨it, fp, tn, J, H2, e, I2, T, st2, f2, W, ⟨m0, w0⟩, turn⟩ := h2
  subst e
  refine comp_core (RR := fun acc C => compPost (model X.prog X.w) X.A X.xe (some (assign (.Name y py) X.env)) (fun _ s' => SP X pins D' .next s') acc C) hk hc hg ht he I2 T st2 f2 w0 turn fun D C ys its n H' s' m hD hC hDC hn hHD hHC hz rv hd I' q => ?_
  have I3 := I'.adopt (o := .lst ys) (I2.fpOk hD hHD) (Nat.le_trans I2.sz hD) ⟨hz, its, n, rv, hd⟩
  refine wpAny_assign_Name (store_ok2 I3 hN hky hx (v := .ref D) rfl (fun s'' I4 ⟨a, hsb, ha⟩ => ?_) hf)
  obtain ⟨_, c1, c2, c3, c4, c5⟩ := I2.fpOk hC hHC
  have hCa : C ≠ a := by
    rcases ha with e | e
    · rw [e]; exact c1
    · exact (c4 _ _ e).symm
  refine ⟨m, hn.sameBut hsb hCa, fun h' hs' => ⟨_, _, I4.turned (it := C) (t' := s''.toks) (fun b o hb e => (hs'.2 b hb).trans e) (by rw [upd_ne hDC.symm]; exact hHC) c1 c3 c4 c5, q D hHD⟩⟩
end
theorem comp_list {K : PySem.W.Frag} {a : Addr} {xs : List V} {g : TG} {tc : TT} {te : TE} {Q : VK} {τ0 : St} {H : Hp} (Pv : Nat → List V → St → Hp → Prop) (h0 : Pv 0 [] τ0 H) (hl : ∀ i ys τ H, i ≤ xs.length → Pv i ys τ H → SqL K H a xs ∧ ys.length < sizeLine)
    (hs : ∀ i x ys τ H, xs[i]? = some x → Pv i ys τ H → g x τ H fun τ1 H1 => tc τ1 H1 fun b H2 => if b = true then te τ1 H2 fun y H3 => Pv (i + 1) (ys ++ [y]) τ1 H3 else Pv (i + 1) ys τ1 H2)
    (hd : ∀ ys τ H, Pv xs.length ys τ H → ∀ D, H D = none → Q (.ref D) (upd H D (.lst ys))) : CompEnd (Itl K a) g tc te Q τ0 H := by
  refine ⟨fun i m ys τ H => m = xs.length - i ∧ i ≤ xs.length ∧ Pv i ys τ H, ⟨xs.length, by simp, Nat.zero_le _, h0⟩, ?_⟩
  rintro i m ys τ H ⟨rfl, hi, p⟩
  obtain ⟨q, z⟩ := hl i ys τ H hi p
  by_cases hlt : i < xs.length
  · refine .inr ⟨⟨xs, xs[i], q, by simp [hlt]⟩, z, Pv (i + 1), fun zs τ' H' p' => ⟨xs.length - (i + 1), by omega, rfl, hlt, p'⟩, fun x H' y => ?_⟩
    obtain ⟨e, y⟩ := y
    subst e
    exact hs i x ys τ _ (y xs q) p
  · have e : i = xs.length := by omega
    subst e
    exact .inl ⟨⟨xs, q, Nat.le_refl _⟩, hd ys τ H p⟩
theorem comp_tup {K : PySem.W.Frag} {a : Addr} {xs : List V} {g : TG} {tc : TT} {te : TE} {Q : VK} {τ0 : St} {H : Hp} (Pv : Nat → List V → St → Hp → Prop) (h0 : Pv 0 [] τ0 H) (hl : ∀ i ys τ H, i ≤ xs.length → Pv i ys τ H → SqT K H a xs ∧ ys.length < sizeLine)
    (hs : ∀ i x ys τ H, xs[i]? = some x → Pv i ys τ H → g x τ H fun τ1 H1 => tc τ1 H1 fun b H2 => if b = true then te τ1 H2 fun y H3 => Pv (i + 1) (ys ++ [y]) τ1 H3 else Pv (i + 1) ys τ1 H2)
    (hd : ∀ ys τ H, Pv xs.length ys τ H → ∀ D, H D = none → Q (.ref D) (upd H D (.lst ys))) : CompEnd (Itt K a) g tc te Q τ0 H := by
  refine ⟨fun i m ys τ H => m = xs.length - i ∧ i ≤ xs.length ∧ Pv i ys τ H, ⟨xs.length, by simp, Nat.zero_le _, h0⟩, ?_⟩
  rintro i m ys τ H ⟨rfl, hi, p⟩
  obtain ⟨q, z⟩ := hl i ys τ H hi p
  by_cases hlt : i < xs.length
  · refine .inr ⟨⟨xs, xs[i], q, by simp [hlt]⟩, z, Pv (i + 1), fun zs τ' H' p' => ⟨xs.length - (i + 1), by omega, rfl, hlt, p'⟩, fun x H' y => ?_⟩
    obtain ⟨e, y⟩ := y
    subst e
    exact hs i x ys τ _ (y xs q) p
  · have e : i = xs.length := by omega
    subst e
    exact .inl ⟨⟨xs, q, Nat.le_refl _⟩, hd ys τ H p⟩
theorem comp_range {lo : Int} {n : Nat} {g : TG} {tc : TT} {te : TE} {Q : VK} {τ0 : St} {H : Hp} (Pv : Nat → List V → St → Hp → Prop) (h0 : Pv 0 [] τ0 H) (hl : ∀ i ys τ H, i ≤ n → Pv i ys τ H → ys.length < sizeLine)
    (hs : ∀ i ys τ H, i < n → Pv i ys τ H → g (.int (lo + i)) τ H fun τ1 H1 => tc τ1 H1 fun b H2 => if b = true then te τ1 H2 fun y H3 => Pv (i + 1) (ys ++ [y]) τ1 H3 else Pv (i + 1) ys τ1 H2)
    (hd : ∀ ys τ H, Pv n ys τ H → ∀ D, H D = none → Q (.ref D) (upd H D (.lst ys))) : CompEnd (Itr lo n) g tc te Q τ0 H := by
  refine ⟨fun i m ys τ H => m = n - i ∧ i ≤ n ∧ Pv i ys τ H, ⟨n, by simp, Nat.zero_le _, h0⟩, ?_⟩
  rintro i m ys τ H ⟨rfl, hi, p⟩
  have z := hl i ys τ H hi p
  by_cases hlt : i < n
  · refine .inr ⟨hlt, z, Pv (i + 1), fun zs τ' H' p' => ⟨n - (i + 1), by omega, rfl, hlt, p'⟩, fun x H' y => ?_⟩
    obtain ⟨e, y⟩ := y
    subst e y
    exact hs i ys τ _ hlt p
  · have e : i = n := by omega
    subst e
    exact .inl ⟨Nat.le_refl _, hd ys τ H p⟩
def tCut (R : St → Hp → Prop) (t u : TS) : TS := fun D σ H => (∀ σ' H', R σ' H' → u D σ' H') ∧ t { D with nx := R } σ H
theorem pss_cut {X : Cx} {st : Stmt} {rest : List Stmt} {t u : TS} (R : St → Hp → Prop) (h1 : PS X st t) (h2 : PSs X rest u) : PSs X (st :: rest) (tCut R t u) := by
  intro pins s σ H D I h
  refine wpAny_execs_cons (thn (h1 pins s σ H { D with nx := R } I h.2) fun f s1 q => ?_)
  cases f with
  | next =>
    obtain ⟨σ', H', I', q⟩ := q
    exact h2 pins s1 σ' H' D I' (h.1 σ' H' q)
  | ret v => exact q
  | brk => exact q
  | cont => exact q
end L2

namespace L2
open PySem PySem.Spec PyProof.Rows
def updT (H : Hp) : List (Addr × List V) → Hp
  | [] => H
  | p :: r => updT (upd H p.1 (.tup p.2)) r
theorem updT_out : ∀ (l : List (Addr × List V)) (H : Hp) (b : Addr), b ∉ l.map (·.1) → updT H l b = H b
  | [], _, _, _ => rfl
  | p :: r, H, b, h => by
    unfold updT
    rw [updT_out r _ b (fun z => h (List.mem_cons_of_mem _ z)), upd_ne (fun z => h (by rw [z]; exact List.mem_cons_self))]
theorem updT_in : ∀ (l : List (Addr × List V)) (H : Hp) (p : Addr × List V), (l.map (·.1)).Nodup → p ∈ l → updT H l p.1 = some (.tup p.2)
  | [], _, _, _, h => by simp at h
  | q :: r, H, p, nd, h => by
    have nd' : (q.1 :: r.map (·.1)).Nodup := nd
    obtain ⟨h1, h2⟩ := List.nodup_cons.mp nd'
    unfold updT
    rcases List.mem_cons.mp h with e | h
    · subst e
      rw [updT_out r _ _ h1, upd_same]
    · exact updT_in r _ p h2 h
section
variable {X : Cx} {pins : List (Addr × Obj)} {σ : St} {s : Shared}
theorem Inv.adopts : ∀ {l : List (Addr × List V)} {H : Hp}, Inv X pins σ H s → (l.map (·.1)).Nodup →
    (∀ p ∈ l, FpOk X pins H p.1 ∧ X.s₀.heap.objs.size ≤ p.1 ∧ p.2.length ≤ sizeLine ∧ ∃ its : List Value, Vals p.2 its ∧ IsTup s.heap p.1 its.toArray) → Inv X pins σ (updT H l) s
  | [], _, I, _, _ => I
  | p :: r, H, I, nd, h => by
    have nd' : (p.1 :: r.map (·.1)).Nodup := nd
    obtain ⟨h1, h2⟩ := List.nodup_cons.mp nd'
    obtain ⟨f, hx, hz, its, rv, ht⟩ := h p List.mem_cons_self
    show Inv X pins σ (updT (upd H p.1 (.tup p.2)) r) s
    refine Inv.adopts (l := r) (H := upd H p.1 (.tup p.2)) (I.adopt (o := .tup p.2) f hx ⟨hz, its, rv, ht⟩) h2 fun q hq => ?_
    obtain ⟨f', hx', r'⟩ := h q (List.mem_cons_of_mem _ hq)
    refine ⟨⟨?_, f'.2⟩, hx', r'⟩
    rw [upd_ne (fun e => h1 (by rw [← e]; exact List.mem_map_of_mem hq))]
    exact f'.1
end
theorem same_upd {H : Hp} {p : Addr} (h : H p = none) (o : HO) : Same H (upd H p o) := fun b u q => by rw [upd_ne (ne_of_none q h)]; exact q
theorem same_updT {l : List (Addr × List V)} {H : Hp} (h : ∀ p ∈ l, H p.1 = none) : Same H (updT H l) := fun b u q => by
  rw [updT_out]
  · exact q
  · intro z
    obtain ⟨p, hp, e⟩ := List.mem_map.mp z
    have := h p hp
    rw [e, q] at this
    cases this
def tLZ (K : PySem.W.Frag) (ta : TA) : TE := fun σ H Q => ta σ H fun vs H1 => ∃ a b xs ys, vs = [.ref a, .ref b] ∧ SqL K H1 a xs ∧ SqL K H1 b ys ∧
  ∀ (D : Addr) (Ts : List Addr) (H2 : Hp), H1 D = none → Same H1 H2 → H2 D = some (.lst (Ts.map V.ref)) → Ts.length = min xs.length ys.length →
    (∀ (j : Nat) (T : Addr), Ts[j]? = some T → H1 T = none ∧ ∃ x y, xs[j]? = some x ∧ ys[j]? = some y ∧ H2 T = some (.tup [x, y])) → Q (.ref D) H2
section
variable {X : Cx} {a b : Expr} {ta : TA} {p p1 pos pos1 : Pos}
theorem pe_listzip (hc : X.calm = true) (hgL : Gl X "list") (hmL : X.mg "list" = none) (hgZ : Gl X "zip") (hmZ : X.mg "zip" = none) (ha : PA X [a, b] ta)
    (he : starEach [.Call (.Name "zip" p1) [a, b] [] pos1] X.env = [(false, eval (.Call (.Name "zip" p1) [a, b] [] pos1) X.env)] := by rfl)
    (hs : starEach [a, b] X.env = [(false, eval a X.env), (false, eval b X.env)] := by rfl) (hs2 : starEach [b] X.env = [(false, eval b X.env)] := by rfl) :
    PE X (.Call (.Name "list" p) [.Call (.Name "zip" p1) [a, b] [] pos1] [] pos) (tLZ X.K ta) := by
  intro pins s σ H Q I h
  refine wpAny_Call_Name_kw (ld_blt I hgL hmL boot_list ?_)
  refine PyProof.Rows.callWith_type1 ?_ he rfl
  rw [he]
  show wpAny _ _ (spliced ((false, eval (.Call (.Name "zip" p1) [a, b] [] pos1) X.env) :: [])) _ _ s
  refine Calls.spliced_cons ?_
  refine wpAny_Call_Name_kw (ld_blt I hgZ hmZ boot_zip ?_)
  refine PyProof.Rows.callWith_type1 (thn (ha pos1 pins s σ H _ I h) fun us s1 ⟨vs, H1, I1, r1, q1⟩ => ?_) (by rw [hs, hs2]) (by rw [hs2]; rfl)
  obtain ⟨la, lb, xs, ys, rfl, hA, hB, q⟩ := q1
  obtain ⟨u, v, rfl, ru, rv⟩ := r1.two
  cases ru
  cases rv
  obtain ⟨its, rx, px, zx⟩ := I1.list hA
  obtain ⟨its2, ry, py, zy⟩ := I1.list hB
  have hlx := rx.length
  have hly := ry.length
  refine thn (ZL.call_zip_list (s := s1) (Q := fun w' s2 => EP X pins σ Q w' s2) (I1.ok.hd hc) px.isList py.isList (by simp only [List.size_toArray]; omega) fun h' Ts c hk hD hg => ?_) fun zv s2 h2 => Calls.spliced_nil h2
  obtain ⟨g1, g2, g3⟩ := hg
  have hmin : min its.toArray.size its2.toArray.size = min xs.length ys.length := by simp only [List.size_toArray]; omega
  have I2 : Inv X pins σ H1 { s1 with heap := h' } := I1.kept (t' := s1.toks) hk
  have hlo : s1.heap.objs.size ≤ s1.heap.objs.size + 5 := Nat.le_add_right _ _
  -- the pairs, as tracked
  have pair : ∀ (j : Nat) (T : Addr), Ts[j]? = some T → ∃ x y, xs[j]? = some x ∧ ys[j]? = some y ∧ ∃ us : List Value, Vals [x, y] us ∧ IsTup h' T us.toArray := fun j T e => by
    obtain ⟨_, _, _, u, v, e1, e2, e3⟩ := g3 j T e
    have hj : j < Ts.length := (List.getElem?_eq_some_iff.mp e).1
    have hjx : j < xs.length := by omega
    have hjy : j < ys.length := by omega
    obtain ⟨u', hu', ru'⟩ := rx.get (List.getElem?_eq_getElem hjx)
    obtain ⟨v', hv', rv'⟩ := ry.get (List.getElem?_eq_getElem hjy)
    have eu : u' = u := by
      have : its.toArray[j]? = some u' := by simpa using hu'
      rw [this] at e1; exact Option.some.inj e1
    have ev : v' = v := by
      have : its2.toArray[j]? = some v' := by simpa using hv'
      rw [this] at e2; exact Option.some.inj e2
    subst eu ev
    exact ⟨xs[j], ys[j], List.getElem?_eq_getElem hjx, List.getElem?_eq_getElem hjy, [u', v'], .cons ru' (.cons rv' .nil), ⟨_, e3, rfl, _, rfl⟩⟩
  let dat : Nat → Addr × List V := fun j => ((Ts[j]?).getD 0, [(xs[j]?).getD .non, (ys[j]?).getD .non])
  let l : List (Addr × List V) := (List.range Ts.length).map dat
  have hl1 : l.map (·.1) = Ts := by
    apply List.ext_getElem?
    intro j
    simp only [l, dat, List.map_map, List.getElem?_map]
    by_cases hj : j < Ts.length
    · rw [List.getElem?_range hj, List.getElem?_eq_getElem hj]
      simp [hj]
    · rw [List.getElem?_eq_none (by simpa using hj), List.getElem?_eq_none (by simpa using hj)]
      rfl
  have mem : ∀ (j : Nat) (T : Addr) (x y : V), Ts[j]? = some T → xs[j]? = some x → ys[j]? = some y → (T, [x, y]) ∈ l := fun j T x y e1 e2 e3 => by
    refine List.mem_map.mpr ⟨j, List.mem_range.mpr (List.getElem?_eq_some_iff.mp e1).1, ?_⟩
    simp only [dat, e1, e2, e3, Option.getD_some]
  have fromL : ∀ q ∈ l, ∃ (j : Nat) (T : Addr) (x y : V), Ts[j]? = some T ∧ xs[j]? = some x ∧ ys[j]? = some y ∧ q = (T, [x, y]) := fun q hq => by
    obtain ⟨j, hj, e⟩ := List.mem_map.mp hq
    have hj' := List.mem_range.mp hj
    obtain ⟨x, y, e2, e3, _⟩ := pair j _ (List.getElem?_eq_getElem hj')
    refine ⟨j, _, x, y, List.getElem?_eq_getElem hj', e2, e3, ?_⟩
    rw [← e]
    simp only [dat, List.getElem?_eq_getElem hj', e2, e3, Option.getD_some]
  have far : ∀ (T : Addr), s1.heap.objs.size + 5 ≤ T → FpOk X pins H1 T ∧ X.s₀.heap.objs.size ≤ T := fun T hT =>
    ⟨I1.fpOk (Nat.le_trans hlo hT) (I1.hok.fresh (Nat.le_trans hlo hT)), Nat.le_trans I1.sz (Nat.le_trans hlo hT)⟩
  have farL : ∀ q ∈ l, s1.heap.objs.size + 5 ≤ q.1 ∧ q.1 ≠ s1.heap.objs.size + 5 := fun q hq => by
    obtain ⟨j, T, x, y, e1, e2, e3, rfl⟩ := fromL q hq
    exact ⟨(g3 j T e1).1, (g3 j T e1).2.2.1⟩
  have I3 : Inv X pins σ (updT H1 l) { s1 with heap := h' } := by
    refine I2.adopts (by rw [hl1]; exact g2) fun q hq => ?_
    obtain ⟨f1, f2⟩ := far q.1 (farL q hq).1
    obtain ⟨j, T, x, y, e1, e2, e3, rfl⟩ := fromL q hq
    obtain ⟨x', y', d1, d2, us, d3, d4⟩ := pair j T e1
    rw [e2] at d1
    rw [e3] at d2
    cases d1
    cases d2
    exact ⟨f1, f2, by show 2 ≤ sizeLine; decide, us, d3, d4⟩
  have hDn : H1 (s1.heap.objs.size + 5) = none := I1.hok.fresh hlo
  have hDo : updT H1 l (s1.heap.objs.size + 5) = none := by
    rw [updT_out]
    · exact hDn
    · intro z
      obtain ⟨q, hq, e⟩ := List.mem_map.mp z
      exact (farL q hq).2 e
  obtain ⟨⟨_, f1⟩, f2⟩ := far _ (Nat.le_refl _)
  have vT : Vals (Ts.map V.ref) (Ts.map Value.ref) := by
    clear mem hl1 fromL farL I3 hDo dat l pair hD g1 g2 g3 q
    induction Ts with
    | nil => exact .nil
    | cons t r ih => exact .cons rfl ih
  have lenT : (Ts.map V.ref).length ≤ sizeLine := by rw [List.length_map]; omega
  have I4 : Inv X pins σ (upd (updT H1 l) (s1.heap.objs.size + 5) (.lst (Ts.map V.ref))) { s1 with heap := h' } := I3.adopt (o := .lst (Ts.map V.ref)) ⟨hDo, f1⟩ f2 ⟨lenT, Ts.map Value.ref, c, vT, hD⟩
  have sm1 : Same H1 (updT H1 l) := same_updT fun q hq => (far q.1 (farL q hq).1).1.1
  refine ⟨.ref (s1.heap.objs.size + 5), _, I4, rfl, q _ Ts _ hDn (sm1.trans (same_upd hDo _)) upd_same (by omega) fun j T e => ?_⟩
  obtain ⟨x, y, e2, e3, _⟩ := pair j T e
  have hm := mem j T x y e e2 e3
  refine ⟨(far T (farL _ hm).1).1.1, x, y, e2, e3, ?_⟩
  rw [upd_ne (farL _ hm).2]
  exact updT_in l H1 (T, [x, y]) (by rw [hl1]; exact g2) hm
end
end L2

namespace L2
open PySem PySem.Spec PyProof.Rows
theorem vals_int {ns : List Int} {its : List Value} (r : Vals (ns.map V.int) its) {j : Nat} {n : Int} (e : ns[j]? = some n) : ∃ t, its[j]? = some (.int n t) := by
  obtain ⟨u, hu, t, rfl⟩ := r.get (i := j) (x := .int n) (by rw [List.getElem?_map, e]; rfl)
  exact ⟨t, hu⟩
theorem all_range {α : Type} [DecidableEq α] {ns ms : List α} (h : ns.length = ms.length) {e : Nat → Bool} (he : ∀ j (h1 : j < ns.length) (h2 : j < ms.length), e j = decide (ns[j] = ms[j])) : (List.range ns.length).all e = decide (ns = ms) := by
  rw [Bool.eq_iff_iff, List.all_eq_true, decide_eq_true_iff]
  constructor
  · intro q
    apply List.ext_getElem h
    intro j h1 h2
    have := q j (List.mem_range.mpr h1)
    rw [he j h1 h2] at this
    exact of_decide_eq_true this
  · rintro rfl j hj
    have hj' := List.mem_range.mp hj
    rw [he j hj' hj']
    simp
section
variable {X : Cx} {pins : List (Addr × Obj)} {σ : St} {H : Hp} {s : Shared} {A : Around}
theorem items_int (I : Inv X pins σ H s) {a : Addr} {ns : List Int} (h : SqL X.K H a (ns.map V.int)) : ∃ its : Array Value, s.heap.IsList a its ∧ its.size = ns.length ∧ ∀ j (h1 : j < its.size) (h2 : j < ns.length), ∃ t, its[j] = .int ns[j] t := by
  obtain ⟨its, r, p, _⟩ := I.list h
  have hl := r.length
  rw [List.length_map] at hl
  refine ⟨its.toArray, p.isList, by rw [List.size_toArray]; exact hl.symm, fun j h1 h2 => ?_⟩
  obtain ⟨t, e⟩ := vals_int r (List.getElem?_eq_getElem h2)
  rw [List.size_toArray] at h1
  rw [List.getElem?_eq_getElem h1] at e
  exact ⟨t, by simpa using Option.some.inj e⟩
theorem rc_ints (I : Inv X pins σ H s) {a b : Addr} {ns ms : List Int} (ha : SqL X.K H a (ns.map V.int)) (hb : SqL X.K H b (ms.map V.int)) (hu : A.units < cLine) :
    SeqAt.RcAt A s (.ref a) (.ref b) (decide (ns = ms)) ∧ SeqAt.RcNeAt A s (.ref a) (.ref b) (!decide (ns = ms)) := by
  obtain ⟨i1, l1, z1, g1⟩ := items_int I ha
  obtain ⟨i2, l2, z2, g2⟩ := items_int I hb
  by_cases hl : ns.length = ms.length
  · have he : ∀ j (h1 : j < i1.size) (h2 : j < i2.size), SeqAt.EqAt A.in1 s i1[j] i2[j] (decide (ns.getD j 0 = ms.getD j 0)) := fun j h1 h2 => by
      obtain ⟨t, e1⟩ := g1 j h1 (by omega)
      obtain ⟨u, e2⟩ := g2 j h2 (by omega)
      rw [e1, e2]
      have := SeqAt.EqAt.int_int (A := A.in1) (s := s) (ns[j]'(by omega)) t (ms[j]'(by omega)) u
      have q : decide (ns.getD j 0 = ms.getD j 0) = ((ns[j]'(by omega)) == (ms[j]'(by omega))) := by
        rw [List.getD_eq_getElem?_getD, List.getD_eq_getElem?_getD, List.getElem?_eq_getElem (by omega : j < ns.length), List.getElem?_eq_getElem (by omega : j < ms.length)]
        rfl
      rw [q]
      exact this
    have al : (List.range i1.size).all (fun j => decide (ns.getD j 0 = ms.getD j 0)) = decide (ns = ms) := by
      rw [z1]
      refine all_range hl fun j h1 h2 => ?_
      rw [List.getD_eq_getElem?_getD, List.getD_eq_getElem?_getD, List.getElem?_eq_getElem h1, List.getElem?_eq_getElem h2]
      rfl
    have q1 := SeqAt.RcAt.lists l1 l2 (by omega) hu he
    have q2 := SeqAt.RcNeAt.lists l1 l2 (by omega) hu he
    rw [al] at q1 q2
    exact ⟨q1, q2⟩
  · have hd : decide (ns = ms) = false := decide_eq_false fun e => hl (by rw [e])
    rw [hd]
    have hne : (i1.size != i2.size) = true := by
      rw [z1, z2]
      simpa using hl
    exact ⟨SeqAt.RcAt.lists_lengths l1 l2 hne hu, SeqAt.RcNeAt.lists_lengths l1 l2 hne hu⟩
theorem eq_ints (I : Inv X pins σ H s) {a b : Addr} {ns ms : List Int} (ha : SqL X.K H a (ns.map V.int)) (hb : SqL X.K H b (ms.map V.int)) (hu : A.units < cLine) : SeqAt.EqAt A s (.ref a) (.ref b) (decide (ns = ms)) := by
  by_cases e : a = b
  · subst e
    have q := I.list_inj ha hb
    have q' : ns = ms := by
      have h1 : ∀ {l m : List Int}, l.map V.int = m.map V.int → l = m := by
        intro l
        induction l with
        | nil => intro m h; cases m with
          | nil => rfl
          | cons _ _ => simp at h
        | cons x l ih => intro m h; cases m with
          | nil => simp at h
          | cons y m =>
            rw [List.map_cons, List.map_cons, List.cons.injEq] at h
            rw [ih h.2]
            have := h.1
            injection this with this
            rw [this]
      exact h1 q
    rw [decide_eq_true q']
    exact SeqAt.EqAt.same _
  · exact SeqAt.EqAt.of_refs e (rc_ints I ha hb hu).1
end
def rEqLI (K : PySem.W.Frag) (neg : Bool) : R2 := fun x y H Q => ∃ (a b : Addr) (ns ms : List Int), x = .ref a ∧ y = .ref b ∧ SqL K H a (ns.map V.int) ∧ SqL K H b (ms.map V.int) ∧ Q (.bl (if neg then !decide (ns = ms) else decide (ns = ms))) H
def IsLL (K : PySem.W.Frag) (H : Hp) (a : Addr) (nss : List (List Int)) : Prop := ∃ as : List Addr, SqL K H a (as.map V.ref) ∧ as.length = nss.length ∧ ∀ (j : Nat) (p : Addr) (ns : List Int), as[j]? = some p → nss[j]? = some ns → SqL K H p (ns.map V.int)
def rEqLL (K : PySem.W.Frag) (neg : Bool) : R2 := fun x y H Q => ∃ (a b : Addr) (ns ms : List (List Int)), x = .ref a ∧ y = .ref b ∧ IsLL K H a ns ∧ IsLL K H b ms ∧ Q (.bl (if neg then !decide (ns = ms) else decide (ns = ms))) H
section
variable {X : Cx}
theorem op_eqLI (hu : X.A.units < cLine) : OpR X (compareOp .Eq) (rEqLI X.K false) := by
  intro pins s σ H x y v u Q I rx ry h
  obtain ⟨a, b, ns, ms, rfl, rfl, ha, hb, q⟩ := h
  cases rx
  cases ry
  exact (rc_ints I ha hb hu).1 _ _ _ _ ⟨.bl _, H, I, rfl, q⟩
theorem op_neLI (hu : X.A.units < cLine) : OpR X (compareOp .NotEq) (rEqLI X.K true) := by
  intro pins s σ H x y v u Q I rx ry h
  obtain ⟨a, b, ns, ms, rfl, rfl, ha, hb, q⟩ := h
  cases rx
  cases ry
  exact (rc_ints I ha hb hu).2 _ _ _ _ ⟨.bl _, H, I, rfl, q⟩
theorem items_ref {pins : List (Addr × Obj)} {σ : St} {H : Hp} {s : Shared} (I : Inv X pins σ H s) {a : Addr} {ps : List Addr} (h : SqL X.K H a (ps.map V.ref)) : ∃ its : Array Value, s.heap.IsList a its ∧ its.size = ps.length ∧ ∀ j (h1 : j < its.size) (h2 : j < ps.length), its[j] = .ref ps[j] := by
  obtain ⟨its, r, p, _⟩ := I.list h
  have hl := r.length
  rw [List.length_map] at hl
  refine ⟨its.toArray, p.isList, by rw [List.size_toArray]; exact hl.symm, fun j h1 h2 => ?_⟩
  obtain ⟨u, hu, ru⟩ := r.get (i := j) (x := .ref ps[j]) (by rw [List.getElem?_map, List.getElem?_eq_getElem h2]; rfl)
  cases ru
  rw [List.size_toArray] at h1
  rw [List.getElem?_eq_getElem h1] at hu
  simpa using Option.some.inj hu
theorem rc_lists {A : Around} {pins : List (Addr × Obj)} {σ : St} {H : Hp} {s : Shared} (I : Inv X pins σ H s) {a b : Addr} {ns ms : List (List Int)} (ha : IsLL X.K H a ns) (hb : IsLL X.K H b ms) (hu : A.units + 1 < cLine) :
    SeqAt.RcAt A s (.ref a) (.ref b) (decide (ns = ms)) ∧ SeqAt.RcNeAt A s (.ref a) (.ref b) (!decide (ns = ms)) := by
  obtain ⟨ps, hs1, hl1, it1⟩ := ha
  obtain ⟨qs, hs2, hl2, it2⟩ := hb
  obtain ⟨i1, l1, z1, g1⟩ := items_ref I hs1
  obtain ⟨i2, l2, z2, g2⟩ := items_ref I hs2
  have hu' : A.units < cLine := Nat.lt_of_succ_lt hu
  by_cases hl : ns.length = ms.length
  · have he : ∀ j (h1 : j < i1.size) (h2 : j < i2.size), SeqAt.EqAt A.in1 s i1[j] i2[j] (decide (ns.getD j [] = ms.getD j [])) := fun j h1 h2 => by
      rw [g1 j h1 (by omega), g2 j h2 (by omega)]
      rw [List.getD_eq_getElem?_getD, List.getD_eq_getElem?_getD, List.getElem?_eq_getElem (by omega : j < ns.length), List.getElem?_eq_getElem (by omega : j < ms.length)]
      exact eq_ints I (it1 j _ _ (List.getElem?_eq_getElem (by omega)) (List.getElem?_eq_getElem (by omega))) (it2 j _ _ (List.getElem?_eq_getElem (by omega)) (List.getElem?_eq_getElem (by omega))) hu
    have al : (List.range i1.size).all (fun j => decide (ns.getD j [] = ms.getD j [])) = decide (ns = ms) := by
      rw [z1, hl1]
      refine all_range hl fun j h1 h2 => ?_
      rw [List.getD_eq_getElem?_getD, List.getD_eq_getElem?_getD, List.getElem?_eq_getElem h1, List.getElem?_eq_getElem h2]
      rfl
    have q1 := SeqAt.RcAt.lists l1 l2 (by omega) hu' he
    have q2 := SeqAt.RcNeAt.lists l1 l2 (by omega) hu' he
    rw [al] at q1 q2
    exact ⟨q1, q2⟩
  · have hd : decide (ns = ms) = false := decide_eq_false fun e => hl (by rw [e])
    rw [hd]
    have hne : (i1.size != i2.size) = true := by
      rw [z1, z2, hl1, hl2]
      simpa using hl
    exact ⟨SeqAt.RcAt.lists_lengths l1 l2 hne hu', SeqAt.RcNeAt.lists_lengths l1 l2 hne hu'⟩
theorem op_neLL (hu : X.A.units + 1 < cLine) : OpR X (compareOp .NotEq) (rEqLL X.K true) := by
  intro pins s σ H x y v u Q I rx ry h
  obtain ⟨a, b, ns, ms, rfl, rfl, ha, hb, q⟩ := h
  cases rx
  cases ry
  exact (rc_lists I ha hb hu).2 _ _ _ _ ⟨.bl _, H, I, rfl, q⟩
end
structure Lab (K : PySem.W.Frag) (α : Type) [DecidableEq α] where
  rel : Hp → V → α → Prop
  mono : ∀ {H H' : Hp} {x : V} {a : α}, Same H H' → rel H x a → rel H' x a
  fn : ∀ {H : Hp} {x : V} {a b : α}, rel H x a → rel H x b → a = b
  eqAt : ∀ {X : Cx} {pins : List (Addr × Obj)} {σ : St} {H : Hp} {s : Shared} {A : Around} {x y : V} {u v : Value} {a b : α}, X.K = K → Inv X pins σ H s → RelV x u → RelV y v → rel H x a → rel H y b → A.units < cLine → SeqAt.EqAt A s u v (decide (a = b))
def labInt (K : PySem.W.Frag) : Lab K Int where
  rel := fun _ x a => x = .int a
  mono := fun _ h => h
  fn := fun h1 h2 => by
    rw [h1] at h2
    injection h2
  eqAt := fun {X pins σ H s A x y u v a b} _ _ rx ry hx hy _ => by
    subst hx hy
    obtain ⟨t, rfl⟩ := rx
    obtain ⟨t', rfl⟩ := ry
    have q : decide (a = b) = (a == b) := rfl
    rw [q]
    exact SeqAt.EqAt.int_int a t b t'
def labPair (K : PySem.W.Frag) : Lab K (Int × Int) where
  rel := fun H x a => ∃ p, x = .ref p ∧ H p = some (.tup [.int a.1, .int a.2])
  mono := fun h ⟨p, e, q⟩ => ⟨p, e, h _ _ q⟩
  fn := fun {H x a b} ⟨p, e, hp⟩ ⟨q, e', hq⟩ => by
    rw [e] at e'
    injection e' with e'
    subst e'
    rw [hp] at hq
    have z : HO.tup [V.int a.1, V.int a.2] = HO.tup [V.int b.1, V.int b.2] := Option.some.inj hq
    injection z with z
    rw [List.cons.injEq, List.cons.injEq] at z
    obtain ⟨z1, z2, _⟩ := z
    injection z1 with z1
    injection z2 with z2
    exact Prod.ext z1 z2
  eqAt := fun {X pins σ H s A x y u v a b} _ I rx ry hx hy hu => by
    obtain ⟨p, rfl, hp⟩ := hx
    obtain ⟨q, rfl, hq⟩ := hy
    cases rx
    cases ry
    by_cases e : p = q
    · subst e
      rw [hp] at hq
      have e1 : V.int a.1 = V.int b.1 ∧ V.int a.2 = V.int b.2 := by
        have z : HO.tup [V.int a.1, V.int a.2] = HO.tup [V.int b.1, V.int b.2] := Option.some.inj hq
        injection z with z
        rw [List.cons.injEq, List.cons.injEq] at z
        exact ⟨z.1, z.2.1⟩
      have e2 : a = b := by
        obtain ⟨z1, z2⟩ := e1
        injection z1 with z1
        injection z2 with z2
        exact Prod.ext z1 z2
      rw [decide_eq_true e2]
      exact SeqAt.EqAt.same _
    · obtain ⟨its, r1, t1, _⟩ := I.tuple (SqT.of hp)
      obtain ⟨its2, r2, t2, _⟩ := I.tuple (SqT.of hq)
      obtain ⟨u1, u2, rfl, ⟨k1, rfl⟩, ⟨k2, rfl⟩⟩ := r1.two
      obtain ⟨v1, v2, rfl, ⟨k3, rfl⟩, ⟨k4, rfl⟩⟩ := r2.two
      refine SeqAt.EqAt.of_refs e ?_
      have z := SeqAt.RcAt.tuples (A := A) (s := s) (e := fun j => if j = 0 then a.1 == b.1 else a.2 == b.2) t1 t2 hu (fun j h1 h2 => by
        have h1' : j < 2 := h1
        match j, h1' with
        | 0, _ => exact SeqAt.EqAt.int_int a.1 k1 b.1 k3
        | 1, _ => exact SeqAt.EqAt.int_int a.2 k2 b.2 k4)
      have w : decide (a = b) = ((List.range (min [Value.int a.1 k1, Value.int a.2 k2].toArray.size [Value.int b.1 k3, Value.int b.2 k4].toArray.size)).all (fun j => if j = 0 then a.1 == b.1 else a.2 == b.2) && [Value.int a.1 k1, Value.int a.2 k2].toArray.size == [Value.int b.1 k3, Value.int b.2 k4].toArray.size) := by
        show decide (a = b) = ((a.1 == b.1) && ((a.2 == b.2) && true) && true)
        rw [Bool.and_true, Bool.and_true, Bool.eq_iff_iff, decide_eq_true_iff, Bool.and_eq_true, beq_iff_eq, beq_iff_eq]
        exact ⟨fun q => by rw [q]; exact ⟨rfl, rfl⟩, fun q => Prod.ext q.1 q.2⟩
      rw [w]
      exact z
def LabsAt {K : PySem.W.Frag} {α : Type} [DecidableEq α] (L : Lab K α) (H : Hp) (xs : List V) (as : List α) : Prop := xs.length = as.length ∧ ∀ (j : Nat) (x : V) (a : α), xs[j]? = some x → as[j]? = some a → L.rel H x a
theorem LabsAt.mono {K : PySem.W.Frag} {α : Type} [DecidableEq α] {L : Lab K α} {H H' : Hp} {xs : List V} {as : List α} (h : LabsAt L H xs as) (q : Same H H') : LabsAt L H' xs as := ⟨h.1, fun j x a e1 e2 => L.mono q (h.2 j x a e1 e2)⟩
theorem labs_int {K : PySem.W.Frag} {H : Hp} (ns : List Int) : LabsAt (labInt K) H (ns.map V.int) ns := ⟨List.length_map _, fun j x a e1 e2 => by
  rw [List.getElem?_map, e2] at e1
  exact (Option.some.inj e1).symm⟩
theorem LabsAt.snoc {K : PySem.W.Frag} {α : Type} [DecidableEq α] {L : Lab K α} {H : Hp} {xs : List V} {as : List α} {x : V} {a : α} (h : LabsAt L H xs as) (q : L.rel H x a) : LabsAt L H (xs ++ [x]) (as ++ [a]) := by
  refine ⟨by rw [List.length_append, List.length_append, h.1]; rfl, fun j y b e1 e2 => ?_⟩
  by_cases hj : j < xs.length
  · rw [List.getElem?_append_left hj] at e1
    rw [List.getElem?_append_left (by rw [← h.1]; exact hj)] at e2
    exact h.2 j y b e1 e2
  · have hj' : j < (xs ++ [x]).length := (List.getElem?_eq_some_iff.mp e1).1
    have ej : j = xs.length := by rw [List.length_append, List.length_singleton] at hj'; omega
    subst ej
    rw [List.getElem?_append_right (Nat.le_refl _), Nat.sub_self] at e1
    rw [h.1, List.getElem?_append_right (Nat.le_refl _), Nat.sub_self] at e2
    have e1' : x = y := by simpa using e1
    have e2' : a = b := by simpa using e2
    subst e1' e2'
    exact q
section
variable {X : Cx} {K : PySem.W.Frag} {α : Type} [DecidableEq α]
noncomputable def labE (L : Lab K α) (H : Hp) (a : α) (u : Value) : Bool := @decide (∃ x, RelV x u ∧ L.rel H x a) (Classical.propDecidable _)
theorem labE_eq {L : Lab K α} {H : Hp} {x : V} {u : Value} {a b : α} (r : RelV x u) (h : L.rel H x b) : labE L H a u = decide (b = a) := by
  unfold labE
  by_cases e : b = a
  · subst e
    rw [decide_eq_true rfl]
    exact @decide_eq_true _ (Classical.propDecidable _) ⟨x, r, h⟩
  · rw [decide_eq_false e]
    refine @decide_eq_false _ (Classical.propDecidable _) ?_
    rintro ⟨y, ry, hy⟩
    have : y = x := ry.inj r
    subst this
    exact e (L.fn h hy)
theorem items_lab {L : Lab K α} {H : Hp} {xs : List V} {its : List Value} {as : List α} (r : Vals xs its) (h : LabsAt L H xs as) : its.length = as.length ∧ ∀ (j : Nat) (h1 : j < its.length) (h2 : j < as.length), ∃ x, RelV x its[j] ∧ L.rel H x as[j] := by
  have hl := r.length
  refine ⟨by rw [← hl, h.1], fun j h1 h2 => ?_⟩
  have hx : j < xs.length := by omega
  obtain ⟨u, hu, ru⟩ := r.get (List.getElem?_eq_getElem hx)
  rw [List.getElem?_eq_getElem h1] at hu
  cases hu
  exact ⟨_, ru, h.2 j _ _ (List.getElem?_eq_getElem hx) (List.getElem?_eq_getElem h2)⟩
theorem eqAt_lab {L : Lab K α} {pins : List (Addr × Obj)} {σ : St} {H : Hp} {s : Shared} {A : Around} {xs : List V} {its : List Value} {as : List α} {x : V} {a : α} {v : Value} (hK : X.K = K) (I : Inv X pins σ H s) (r : Vals xs its) (h : LabsAt L H xs as) (rx : RelV x v) (hx : L.rel H x a) (hu : A.units < cLine) :
    (∀ y, y ∈ its.toArray → SeqAt.EqAt A s y v (labE L H a y)) ∧ its.toArray.any (labE L H a) = decide (a ∈ as) := by
  obtain ⟨hl, hi⟩ := items_lab r h
  constructor
  · intro y hy
    obtain ⟨j, hj, e⟩ := List.getElem_of_mem (by simpa using hy : y ∈ its)
    obtain ⟨z, rz, hz⟩ := hi j hj (by omega)
    rw [e] at rz
    rw [labE_eq rz hz]
    exact L.eqAt hK I rz rx hz hx hu
  · rw [Bool.eq_iff_iff, decide_eq_true_iff, Array.any_eq_true]
    constructor
    · rintro ⟨j, hj, e⟩
      have hj' : j < its.length := by simpa using hj
      obtain ⟨z, rz, hz⟩ := hi j hj' (by omega)
      have e' : labE L H a its[j] = true := by simpa using e
      rw [labE_eq rz hz] at e'
      have := of_decide_eq_true e'
      rw [← this]
      exact List.getElem_mem _
    · intro ha
      obtain ⟨j, hj, e⟩ := List.getElem_of_mem ha
      obtain ⟨z, rz, hz⟩ := hi j (by omega) hj
      refine ⟨j, by simpa using (by omega : j < its.length), ?_⟩
      have : labE L H a (its[j]'(by omega)) = true := by
        rw [labE_eq rz hz, e]
        exact decide_eq_true rfl
      simpa using this
def rInLab (L : Lab K α) (neg : Bool) : R2 := fun x y H Q => ∃ p xs as a, y = .ref p ∧ SqL K H p xs ∧ LabsAt L H xs as ∧ L.rel H x a ∧ Q (.bl (if neg then !decide (a ∈ as) else decide (a ∈ as))) H
theorem op_notInLab (L : Lab K α) (hu : X.A.units + 1 < cLine) (hK : X.K = K := by rfl) : OpR X (compareOp .NotIn) (rInLab L true) := by
  intro pins s σ H x y v u Q I rx ry h
  obtain ⟨p, xs, as, a, rfl, hs, hl, hx, q⟩ := h
  cases ry
  obtain ⟨its, r, pl, _⟩ := I.list (hK ▸ hs)
  obtain ⟨h1, h2⟩ := eqAt_lab (A := X.A.in1) hK I r hl rx hx hu
  refine SeqAt.notIn_listAt (labE L H a) pl.isList h1 ?_
  rw [h2]
  exact ⟨.bl _, H, I, rfl, q⟩
def rIndex (L : Lab K α) : V → List V → Hp → VK → Prop := fun x vs H Q => ∃ p xs as a y, x = .ref p ∧ vs = [y] ∧ SqL K H p xs ∧ LabsAt L H xs as ∧ L.rel H y a ∧ a ∈ as ∧ Q (.int ((as.idxOf a : Nat) : Int)) H
theorem mt_index (L : Lab K α) (hu : X.A.units + 1 < cLine) (hK : X.K = K := by rfl) : MtM X "list.index" (rIndex L) := by
  intro pins s σ H x vs v us Q I rx rv h
  obtain ⟨p, xs, as, a, y, rfl, rfl, hs, hl, hy, ha, q⟩ := h
  cases rx
  obtain ⟨u, rfl, ru⟩ := rv.one
  obtain ⟨its, r, ⟨o, n, ho, hc, hd, hs'⟩, hz⟩ := I.list (hK ▸ hs)
  obtain ⟨h1, _⟩ := eqAt_lab (A := X.A.in1) hK I r hl ru hy hu
  obtain ⟨hlen, hi⟩ := items_lab r hl
  have hlx := r.length
  have hj : as.idxOf a < as.length := List.idxOf_lt_length_of_mem ha
  have hit : as[as.idxOf a] = a := List.getElem_idxOf hj
  have hlt63 : (as.idxOf a : Int) < 2 ^ 63 - 1 := by
    have := line63
    omega
  obtain ⟨cls, dd, data, sl⟩ := o
  simp only at hc hd hs'
  subst hc hs'
  refine call_meets F.slot_list_index ⟨_, ho, rfl⟩ F.entry_list_index (F.args_list_index_2 _ _)
    (SeqAt.list_indexAt p its.toArray n dd sl u (labE L H a) (as.idxOf a) (by rw [List.size_toArray]; omega) hlt63 ?_ ?_) ⟨ho, h1, ?_⟩
  · obtain ⟨z, rz, hz'⟩ := hi (as.idxOf a) (by omega) hj
    have := labE_eq (a := a) rz hz'
    rw [hit, decide_eq_true rfl] at this
    simpa using this
  · intro m hm hmj
    have hm' : m < its.length := by simpa using hm
    obtain ⟨z, rz, hz'⟩ := hi m hm' (by omega)
    have := labE_eq (a := a) rz hz'
    have ne : ¬ as[m]'(by omega) = a := by
      have := List.not_of_lt_findIdx (p := (· == a)) (xs := as) hmj
      simpa using this
    rw [decide_eq_false ne] at this
    simpa using this
  · exact ⟨.int _, H, I.tok _, ⟨_, rfl⟩, q⟩
end
def rSetD : V → List V → Hp → VK → Prop := fun x vs H Q => ∃ a y z, x = .ref a ∧ vs = [y, z] ∧
  ((∃ kvs k, H a = some (.dK kvs) ∧ y = kV k ∧ kvs.length < sizeLine ∧ (∀ v, valV kvs k = some v → Q v H) ∧ (valV kvs k = none → Q z (upd H a (.dK (kvs ++ [(k, z)]))))) ∨
   ∃ kvs k b, H a = some (.dT kvs) ∧ y = .ref b ∧ H b = some (.tup (k.map kV)) ∧ kvs.length < sizeLine ∧ (∀ v, valV kvs k = some v → Q v H) ∧ (valV kvs k = none → Q z (upd H a (.dT (kvs ++ [(k, z)])))))
section
variable {X : Cx}
theorem mt_setdefault (hu : X.A.units + 1 < cLine) : MtM X "dict.setdefault" rSetD := by
  intro pins s σ H x vs v us Q I rx rv h
  obtain ⟨a, y, z, rfl, rfl, h⟩ := h
  cases rx
  obtain ⟨u, r, rfl, ry, rz⟩ := rv.two
  rcases h with ⟨kvs, k, e, rfl, hl, q1, q2⟩ | ⟨kvs, k, b, e, rfl, eb, hl, q1, q2⟩
  · obtain ⟨zz, hd, ws, rel, dd⟩ := dk_of I.hok e
    have hz : ws.length ≤ sizeLine := by rw [← rel.length]; exact zz
    refine call_meetsIn PySem.F.slot_dict_setdefault dd.typeIs PySem.F.entry_dict_setdefault (PySem.F.args_dict_setdefault_3 _ _ _) (kt_meets_setdefault (mixKind X.prog X.w) a (kV_is ry) hd r) ⟨ws, dd, hz, fun w' hw => ?_, fun hn h' dd' hs => ?_⟩
    · have q := rel.val k
      rw [hw] at q
      cases ev : valV kvs k with
      | none => rw [ev] at q; exact (show False from q).elim
      | some v' =>
        rw [ev] at q
        exact ⟨v', H, I.tok _, q, q1 v' ev⟩
    · have q := rel.val k
      rw [hn] at q
      have ev : valV kvs k = none := by
        cases ev : valV kvs k with
        | none => rfl
        | some v' => rw [ev] at q; exact (show False from q).elim
      have hp : KV (kvs ++ [(k, z)]) (stored ws k r) := by
        have := rel.put k rz
        rwa [putK_new z ev] at this
      have he : ∃ q, h'.get? a = some q := let ⟨q, _, _, hq, _⟩ := dd'; ⟨q, hq⟩
      have hl' : (kvs ++ [(k, z)]).length ≤ sizeLine := by rw [List.length_append, List.length_singleton]; omega
      exact ⟨z, _, d_write I (by rw [e]; exact True.intro) hs he (dk_new hl' hd hp dd'), rz, q2 ev⟩
  · cases (show u = Value.ref b from ry)
    obtain ⟨zz, hd, ws, rel, dd⟩ := dt_of I.hok e
    have hz : ws.length ≤ sizeLine := by rw [← Paired.length rel]; exact zz
    refine call_meetsIn PySem.F.slot_dict_setdefault dd.typeIs PySem.F.entry_dict_setdefault (PySem.F.args_dict_setdefault_3 _ _ _) (DL.meetsH_setdefault (tupleKind (mixKind X.prog X.w)) a b hd r)
      ⟨tupleKind_room_in1 hu, k, ws, key_of I.hok eb, dd, hz, fun w' hw => ?_, fun hn h' dd' hs => ?_⟩
    · have q := rel.val k
      rw [hw] at q
      cases ev : valV kvs k with
      | none => rw [ev] at q; exact (show False from q).elim
      | some v' =>
        rw [ev] at q
        exact ⟨v', H, I.tok _, q, q1 v' ev⟩
    · have q := rel.val k
      rw [hn] at q
      have ev : valV kvs k = none := by
        cases ev : valV kvs k with
        | none => rfl
        | some v' => rw [ev] at q; exact (show False from q).elim
      have hp : KT H (kvs ++ [(k, z)]) (storedH ws k b r) := by
        have := rel.put k eb rz
        rwa [putK_new z ev] at this
      obtain ⟨qo, es, ep, hq, h2, h3, h4, _, h5⟩ := dd'
      have hl' : (kvs ++ [(k, z)]).length ≤ sizeLine := by rw [List.length_append, List.length_singleton]; omega
      refine ⟨z, _, d_write (ob := .dT (kvs ++ [(k, z)])) I (by rw [e]; exact True.intro) hs ⟨qo, hq⟩ ⟨hl', hd, _, hp.keeps fun c ys ec => ?_, qo, es, ep, hq, h2, h3, h4, h5⟩, rz, q2 ev⟩
      rw [upd_ne (ne_of ec e (fun z => nomatch z))]
      exact ec
theorem call_lenDD : CallR X (.builtin "len") (fun xs H Q => ∃ a n, xs = [V.ref a] ∧ ((∃ kvs, H a = some (.dK kvs) ∧ kvs.length = n) ∨ ∃ kvs, H a = some (.dT kvs) ∧ kvs.length = n) ∧ Q (.int (n : Nat)) H) := by
  intro pins s σ H xs us Q I r h
  obtain ⟨a, n, rfl, h, q⟩ := h
  obtain ⟨u, rfl, ru⟩ := vals1 r
  cases ru
  rcases h with ⟨kvs, e, rfl⟩ | ⟨kvs, e, rfl⟩
  · exact d_len I (.inl e) fun t s' I' => ⟨.int kvs.length, H, I', ⟨t, rfl⟩, q⟩
  · obtain ⟨z, hd, ws, rel, dd⟩ := dt_of I.hok e
    refine DL.call_len_heap hd dd (by rw [← Paired.length rel]; rw [sizeLine_eq] at z; omega) ?_
    rw [← Paired.length rel]
    exact ⟨.int _, H, I.tok _, ⟨_, rfl⟩, q⟩
theorem call_isinst : CallR X (.builtin "isinstance") (fun xs H Q => ∃ x c t b, xs = [x, .ty c] ∧ TyOf X.K H x t ∧ PySem.W.kitOne X.K t (.type c) = some b ∧ Q (.bl b) H) := by
  intro pins s σ H xs us Q I r h
  obtain ⟨x, c, t, b, rfl, ty, e, q⟩ := h
  obtain ⟨u, v, rfl, ru, rv⟩ := r.two
  cases rv
  exact isinst_ok I ru ty e fun tk => ⟨.bl b, H, I.tok _, rfl, q⟩
end
end L2

namespace L2
open PySem PySem.Spec PyProof.Rows
def Fn (P : Program) (w : World) (K : PySem.W.Frag) (mg : Str → Option Value) (base : Heap) (x : Str) (ps : List Str) (k : Nat) (sp : Sp) : Prop :=
  ∃ (f : Addr) (fd : FuncData), mg x = some (.ref f) ∧ PySem.W.keepIn K (.ref f) = true ∧ Binds K fd ps [] ∧ FnOk P w K mg base CX0 k f fd ps sp
section
variable {X : Cx} {x : Str} {ps : List Str} {k : Nat} {sp : Sp} {p pos : Pos} {e : Expr} {es : List Expr} {t : TA}
theorem pe_fn (G : Fn X.prog X.w X.K X.mg X.base x ps k sp) (hr : Room k X.A) (ha : PA X (e :: es) t) (hg : Gl X x := by rfl) (hdb : (x == ("__debug__" : Str)) = false := by decide)
    (he : starEach (e :: es) X.env = (false, eval e X.env) :: starEach es X.env := by rfl) (hpl : (backTo pos (starEach es X.env)).any (·.1) = false := by rfl) : PE X (.Call (.Name x p) (e :: es) [] pos) (tCall sp [] E0 t) := by
  obtain ⟨f, fd, m, kp, b, F⟩ := G
  exact pe_call F hr hg m kp b .nil pass0 ha hdb he hpl
end
section
variable {X : Cx} {K : PySem.W.Frag}
theorem ix_listK (hK : X.K = K := by rfl) : IxR X (rIxL K) := by subst hK; exact ix_list
variable {o e : Expr} {es : List Expr} {to : TE} {t : TA} {name : Str} {apos cpos : Pos} {T id : String} {r : V → List V → Hp → VK → Prop}
theorem pe_bmK (pa : PlainAttrs T) (slot : Slot T name id) (hty : typeOf (.builtin id) = pure (.type "method_descriptor")) (hm : MtM X id r) (ho : PE X o to) (ha : PA X (e :: es) t) (hK : X.K = K := by rfl)
    (hbase : attributeBase o name X.env (eval o X.env) = eval o X.env := by rfl)
    (hfew : ((backTo cpos (starEach (e :: es) X.env)).all (fun x => !x.1) && (backToKw cpos (keywordEach [] X.env)).all (fun x => x.1.isSome)
      && decide ((e :: es).length + ([] : List Keyword).length + (if ([] : List Keyword).isEmpty then 0 else 1) < 30)) = true := by rfl)
    (hline : (apos.endLine == cpos.line) = true := by rfl) (hs : starEach (e :: es) X.env = (false, eval e X.env) :: starEach es X.env := by rfl) (hplain : (backTo cpos (starEach es X.env)).any (·.1) = false := by rfl) :
    PE X (.Call (.Attribute o name apos) (e :: es) [] cpos) (tBM K T r to t) := by
  subst hK
  exact pe_bm pa slot hty hm ho ha hbase hfew hline hs hplain
end
theorem Same.upd2 {H H' : Hp} {l : Addr} {o : HO} (h : Same H H') (hl : H l = none) : Same H (upd H' l o) := fun b u q => by
  rw [upd_ne (ne_of_none q hl)]
  exact h b u q
theorem ints_get {ns : List Int} {i : Nat} {x : V} (h : (ns.map V.int)[i]? = some x) : ∃ z, ns[i]? = some z ∧ x = .int z := by
  rw [List.getElem?_map] at h
  cases e : ns[i]? with
  | none => rw [e] at h; cases h
  | some z => rw [e] at h; exact ⟨z, rfl, (Option.some.inj h).symm⟩
theorem small {n : Nat} (h : n ≤ 1000) : n ≤ sizeLine := Nat.le_of_lt (small1000 h)
def kvOf {α κ : Type} (key : α → κ) (as : List α) : List (κ × V) := as.mapIdx fun i a => (key a, V.int ((i : Nat) : Int))
theorem kvOf_snoc {α κ : Type} (key : α → κ) (as : List α) (a : α) : kvOf key (as ++ [a]) = kvOf key as ++ [(key a, V.int ((as.length : Nat) : Int))] := by
  unfold kvOf
  rw [List.mapIdx_concat]
theorem kvOf_len {α κ : Type} (key : α → κ) (as : List α) : (kvOf key as).length = as.length := by simp [kvOf]
theorem kvOf_val {α κ : Type} [DecidableEq α] [DecidableEq κ] (key : α → κ) (hk : ∀ a b, key a = key b → a = b) (as : List α) (nd : as.Nodup) (a : α) :
    valV (kvOf key as) (key a) = if a ∈ as then some (V.int ((as.idxOf a : Nat) : Int)) else none := by
  induction as using Sh.snoc_ind with
  | h0 => rfl
  | h1 l x ih =>
    rw [List.nodup_append] at nd
    obtain ⟨nd1, _, nd2⟩ := nd
    have hx : ¬ x ∈ l := fun q => nd2 x q x (by simp) rfl
    have none_x : valV (kvOf key l) (key x) = none := by
      have : ∀ l : List α, ¬ x ∈ l → valV (kvOf key l) (key x) = none := by
        intro l
        induction l using Sh.snoc_ind with
        | h0 => intro _; rfl
        | h1 l y ih' =>
          intro hxl
          rw [kvOf_snoc]
          have h1 : ¬ x ∈ l := fun q => hxl (List.mem_append_left _ q)
          have h2 : ¬ key y = key x := fun q => hxl (by rw [hk _ _ q]; simp)
          have e := ih' h1
          -- valV of a snoc whose key is another one
          have gen : ∀ (kvs : List (κ × V)) (k j : κ) (v : V), ¬ k = j → valV (kvs ++ [(k, v)]) j = valV kvs j := by
            intro kvs k j v hkj
            induction kvs with
            | nil => exact valV_neg (p := (k, v)) hkj
            | cons p r ihr =>
              rw [List.cons_append]
              by_cases c : p.1 = j
              · rw [valV_pos c, valV_pos c]
              · rw [valV_neg c, valV_neg c, ihr]
          rw [gen _ _ _ _ h2]
          exact e
      exact this l hx
    rw [kvOf_snoc, valV_snoc _ _ _ _ none_x]
    by_cases c : a = x
    · subst c
      rw [if_pos rfl, if_pos (by simp), Sh.idx_snoc_new hx]
    · rw [if_neg (fun q => c (hk _ _ q)), ih nd1]
      by_cases ha : a ∈ l
      · rw [if_pos ha, if_pos (List.mem_append_left _ ha), Sh.idx_snoc_mem ha]
      · rw [if_neg ha, if_neg]
        intro q
        rcases List.mem_append.mp q with q | q
        · exact ha q
        · exact c (List.mem_singleton.mp q)
structure DLab (K : PySem.W.Frag) (α : Type) [DecidableEq α] where
  L : Lab K α
  dOf : List α → HO
  setd : ∀ {H : Hp} {d : Addr} {y : V} {as : List α} {a : α} {Q : VK}, H d = some (dOf as) → L.rel H y a → as.Nodup → as.length < sizeLine → (a ∈ as → Q (.int ((as.idxOf a : Nat) : Int)) H) →
    (¬ a ∈ as → Q (.int ((as.length : Nat) : Int)) (upd H d (dOf (as ++ [a])))) → rSetD (.ref d) [y, .int ((as.length : Nat) : Int)] H Q
  lenD : ∀ {H : Hp} {d : Addr} {as : List α}, H d = some (dOf as) → (∃ kvs, H d = some (.dK kvs) ∧ kvs.length = as.length) ∨ ∃ kvs, H d = some (.dT kvs) ∧ kvs.length = as.length
  newD : ∀ {X : Cx} {pos : Pos}, PE X (.Dict [] [] pos) (fun _ H Q => ∀ p, H p = none → Q (.ref p) (upd H p (dOf [])))
def dlInt (K : PySem.W.Frag) : DLab K Int where
  L := labInt K
  dOf := fun as => .dK (kvOf (fun a => (Sum.inl a : Key)) as)
  setd := fun {H d y as a Q} hd hr nd hl h1 h2 => by
    have hr' : y = .int a := hr
    subst hr'
    have hv := kvOf_val (fun a => (Sum.inl a : Key)) (fun a b e => Sum.inl.inj e) as nd a
    refine ⟨d, _, _, rfl, rfl, .inl ⟨_, Sum.inl a, hd, rfl, by rw [kvOf_len]; exact hl, fun v e => ?_, fun e => ?_⟩⟩
    · rw [hv] at e
      split at e
      · rename_i c
        rw [← Option.some.inj e]
        exact h1 c
      · cases e
    · rw [hv] at e
      split at e
      · cases e
      · rename_i c
        have := h2 c
        rw [kvOf_snoc] at this
        exact this
  lenD := fun h => .inl ⟨_, h, kvOf_len _ _⟩
  newD := pe_dnewK
def dlPair (K : PySem.W.Frag) : DLab K (Int × Int) where
  L := labPair K
  dOf := fun as => .dT (kvOf (fun a : Int × Int => ([Sum.inl a.1, Sum.inl a.2] : List Key)) as)
  setd := fun {H d y as a Q} hd hr nd hl h1 h2 => by
    obtain ⟨p, rfl, hp⟩ := hr
    have hv := kvOf_val (fun a : Int × Int => ([Sum.inl a.1, Sum.inl a.2] : List Key)) (fun a b e => by
      rw [List.cons.injEq, List.cons.injEq] at e
      exact Prod.ext (Sum.inl.inj e.1) (Sum.inl.inj e.2.1)) as nd a
    refine ⟨d, _, _, rfl, rfl, .inr ⟨_, [Sum.inl a.1, Sum.inl a.2], p, hd, rfl, hp, by rw [kvOf_len]; exact hl, fun v e => ?_, fun e => ?_⟩⟩
    · rw [hv] at e
      split at e
      · rename_i c
        rw [← Option.some.inj e]
        exact h1 c
      · cases e
    · rw [hv] at e
      split at e
      · cases e
      · rename_i c
        have := h2 c
        rw [kvOf_snoc] at this
        exact this
  lenD := fun h => .inr ⟨_, h, kvOf_len _ _⟩
  newD := pe_dnewT
end L2

namespace L2
open PySem PySem.Spec PyProof.Rows
section
variable {X : Cx} {pins : List (Addr × Obj)} {σ : St} {H : Hp} {s : Shared}
theorem Inv.turnedL {t' : Nat} {fp : List Addr} {h' : Heap} (I : Inv X pins σ H s) (k : ∀ b o, b ∉ fp → s.heap.get? b = some o → h'.get? b = some o) (hf : ∀ b ∈ fp, FpOk X pins H b) : Inv X pins σ H { s with heap := h', toks := t' } := by
  have nit : ∀ b u, H b = some u → b ∉ fp := fun b u e z => by rw [(hf b z).1] at e; cases e
  refine I.step (g' := s.gens) (d' := s.drawn) (ch := fp) (fun b hb => let ⟨_, q1, _, q3, q4, q5⟩ := hf b hb; ⟨q3, q1, q4, q5⟩) (fun b o _ _ hc e _ => k b o hc e) (fun b o _ _ hc e _ => ⟨o.slots, k b o hc e⟩) (fun _ _ _ _ n => n)
    (fun b o hc e => ⟨o, k b o hc e⟩) (fun _ _ e => e) (fun _ _ _ e => e) (fun b ps e => ⟨#[], by rw [e]; simp⟩) (fun m hm => ?_) (fun b u e => ?_) I.bare
  · obtain ⟨o, es, ep, ho, r⟩ := hm
    exact ⟨o, es, ep, k _ o (fun z => (hf _ z).2.1 rfl) ho, r⟩
  · refine (I.hok b u e).stay (fun c v hc q => k c v ?_ q) (fun _ q => q) fun _ _ q => q
    rcases hc with z | z
    · rw [z]; exact nit b u e
    · exact nit c _ z
end
def Ite (K : PySem.W.Frag) (a : Addr) : It :=
  ⟨fun i H => ∃ xs x, SqL K H a xs ∧ xs[i]? = some x, fun i H v H' => ∃ p x, v = .ref p ∧ H p = none ∧ H' = upd H p (.tup [.int ((i : Nat) : Int), x]) ∧ ∀ xs, SqL K H a xs → xs[i]? = some x, fun i H => ∃ xs, SqL K H a xs ∧ xs.length ≤ i⟩
theorem turn_enum {P : Program} {w : World} {K : PySem.W.Frag} {elts : List Expr} {k : Nat} {pos : Pos} (a it e : Addr) (hne : e ≠ it) :
    Turn P w K (.Tuple elts k pos) (Ite K a) [e, it] e (fun i h => (∃ old, IsEnum h e it ((i : Nat) : Int) old) ∧ h.IsListIter it a i) where
  mem := by simp
  obj := fun i h st b hb => by
    obtain ⟨⟨old, he⟩, hi⟩ := st
    rcases List.mem_cons.mp hb with rfl | hb
    · exact ⟨_, he, fun v z => by
        have z' : Data.fields _ = Data.cell v := z
        cases z'⟩
    · rw [List.mem_singleton.mp hb]
      obtain ⟨o, e, c, d⟩ := hi
      exact ⟨o, e, fun v z => by rw [d] at z; cases z⟩
  keep := fun i h h' st k => ⟨let ⟨old, he⟩ := st.1; ⟨old, k e (by simp) _ he⟩, st.2.at fun o q => k it (by simp) o q⟩
  item := by
    intro X hP hw hK hc i pins s σ H E I hf st hg
    subst hP hw hK
    obtain ⟨xs, x, hq, hx⟩ := hg
    obtain ⟨its, rv, p, hz⟩ := I.list hq
    obtain ⟨u, hu, ru⟩ := rv.get hx
    obtain ⟨⟨old, he⟩, hi⟩ := st
    refine wpAny_pyNext_enum_item he hi p.isList (x := u) (by simpa using hu) hne fun h' a1 a2 a3 a4 a5 => ?_
    have I1 : Inv X pins σ H { s with heap := h', toks := s.toks + 1 } := I.turnedL (fp := [e, it]) (fun b o hb q => a5 b o (fun z => hb (by simp [z])) (fun z => hb (by simp [z])) q) hf
    refine ⟨_, rfl, wpAny_letOwnedTupleGo_enum a1 fun h'' b1 b2 => ?_⟩
    have I2 : Inv X pins σ H { s with heap := h'', toks := s.toks + 1 } := I1.turnedL (fp := [e]) (t' := s.toks + 1) (fun b o hb q => (b2.2 b (fun z => hb (by simp [z]))).trans q) (fun b hb => hf b (by rw [List.mem_singleton.mp hb]; simp))
    have hnew : H s.heap.objs.size = none := I.hok.fresh (Nat.le_refl _)
    have elt : e < s.heap.objs.size := Heap.lt_size he
    have ilt : it < s.heap.objs.size := by obtain ⟨_, q, _⟩ := hi; exact Heap.lt_size q
    have tup := (b2.2 s.heap.objs.size (Nat.ne_of_gt elt)).trans a3
    have I3 := I2.adopt (o := .tup [.int ((i : Nat) : Int), x]) (I.fpOk (Nat.le_refl _) hnew) I.sz ⟨(by show 2 ≤ sizeLine; decide), [.int ((i : Nat) : Int) s.toks, u], .cons ⟨_, rfl⟩ (.cons ru .nil), ⟨_, tup, rfl, _, rfl⟩⟩
    refine ⟨.ref s.heap.objs.size, _, I3, rfl, ⟨_, x, rfl, hnew, rfl, fun ys hy => by rw [I.list_inj hy hq]; exact hx⟩, ⟨⟨u, by simpa using b1⟩, a2.at fun o q => (b2.2 it hne.symm).trans q⟩, fun b hb => ?_⟩
    have hb' : b < s.heap.objs.size := by
      rcases List.mem_cons.mp hb with rfl | hb
      · exact elt
      · rw [List.mem_singleton.mp hb]; exact ilt
    rw [upd_ne (Nat.ne_of_lt hb')]
    exact (hf b hb).1
  done := by
    intro X hP hw hK hc i pins s σ H E I hf st hg
    subst hP hw hK
    obtain ⟨xs, hq, hx⟩ := hg
    obtain ⟨its, rv, p, hz⟩ := I.list hq
    obtain ⟨⟨old, he⟩, hi⟩ := st
    have hl := rv.length
    exact wpAny_pyNext_enum_end (I.ok.hd hc) he hi p.isList (by simp; omega) fun h' eb => ⟨rfl, I.turnedL (fp := [e, it]) (t' := s.toks) (fun b o hb q => eb b o (fun z => hb (by simp [z])) q) hf⟩
  self := fun _ _ _ _ _ st h => let ⟨_, he⟩ := st.1; wpAny_pyIter_enum he h
section
variable {X : Cx}
def iEnum (K : PySem.W.Frag) (ta : TA) : TI := fun σ H R => ta σ H fun vs H1 => ∃ a, vs = [.ref a] ∧ (∃ xs, SqL K H1 a xs) ∧ R (Ite K a) H1
theorem pi_enum {a : Expr} {elts : List Expr} {k : Nat} {tpos : Pos} {ta : TA} {p pos : Pos} (hg : Gl X "enumerate") (hm : X.mg "enumerate" = none) (ha : PA X [a] ta) (hs : starEach [a] X.env = [(false, eval a X.env)] := by rfl) :
    PI X (.Tuple elts k tpos) (.Call (.Name "enumerate" p) [a] [] pos) (iEnum X.K ta) := by
  intro pins s σ H R I h
  refine Call_ (ld_blt I hg hm boot_enumerate (PyProof.Rows.callWith_type1 (thn (ha pos pins s σ H _ I h) fun us s1 ⟨vs, H1, I1, r1, q1⟩ => ?_) hs rfl))
  obtain ⟨l, rfl, ⟨xs, hq⟩, q⟩ := q1
  obtain ⟨u, rfl, ru⟩ := r1.one
  cases ru
  obtain ⟨its, rv, pl, hz⟩ := I1.list hq
  refine call_enumerate_list pl.isList fun h' hE hI hsz hk => wpAny_pyIter_enum hE ?_
  have n1 : s1.heap.objs.size ≤ s1.heap.objs.size + 1 := Nat.le_succ _
  refine ⟨s1.heap.objs.size + 1, [s1.heap.objs.size + 1, s1.heap.objs.size], _, _, H1, rfl, I1.kept (t' := s1.toks) hk, turn_enum l _ _ (Nat.succ_ne_self _), ⟨⟨.none, hE⟩, hI⟩, fun b hb => ?_, q⟩
  rcases List.mem_cons.mp hb with rfl | hb
  · exact I1.fpOk n1 (I1.hok.fresh n1)
  · rw [List.mem_singleton.mp hb]
    exact I1.fpOk (Nat.le_refl _) (I1.hok.fresh (Nat.le_refl _))
theorem for_enum {K : PySem.W.Frag} {a : Addr} {xs : List V} {g : TG} {tb : TS} {D : Ends} {σ : St} {H : Hp} (Pv : Nat → St → Hp → Prop) (h0 : Pv 0 σ H) (hl : ∀ i σ H, i ≤ xs.length → Pv i σ H → SqL K H a xs)
    (hs : ∀ i x σ H p, xs[i]? = some x → H p = none → Pv i σ H → g (.ref p) σ (upd H p (.tup [.int ((i : Nat) : Int), x])) fun σ2 H2 => tb { D with nx := Pv (i + 1), ct := Pv (i + 1), bk := D.nx } σ2 H2) (hd : ∀ σ H, Pv xs.length σ H → D.nx σ H) :
    ∃ W : Nat → Nat → St → Hp → Prop, (∃ m, W 0 m σ H) ∧ ∀ i m σ H, W i m σ H →
      ((Ite K a).stop i H ∧ D.nx σ H) ∨ ((Ite K a).go i H ∧ ∃ N : St → Hp → Prop, (∀ σ' H', N σ' H' → ∃ m', m' < m ∧ W (i + 1) m' σ' H') ∧ ∀ x H', (Ite K a).yld i H x H' → g x σ H' fun σ2 H2 => tb { D with nx := N, ct := N, bk := D.nx } σ2 H2) := by
  refine ⟨fun i m σ H => m = xs.length - i ∧ i ≤ xs.length ∧ Pv i σ H, ⟨xs.length, by simp, Nat.zero_le _, h0⟩, ?_⟩
  rintro i m σ H ⟨rfl, hi, p⟩
  have q := hl i σ H hi p
  by_cases hlt : i < xs.length
  · refine .inr ⟨⟨xs, xs[i], q, by simp [hlt]⟩, Pv (i + 1), fun σ' H' p' => ⟨xs.length - (i + 1), by omega, rfl, hlt, p'⟩, fun v H' y => ?_⟩
    obtain ⟨pp, x, rfl, hn, rfl, y⟩ := y
    exact hs i x σ H pp (y xs q) hn p
  · have e : i = xs.length := by omega
    subst e
    exact .inl ⟨⟨xs, q, Nat.le_refl _⟩, hd σ H p⟩
theorem ints_are {ns : List Int} {its : List Value} (r : Vals (ns.map V.int) its) : IntsAre its ns := intsAre_of r
theorem call_maxL (hc : X.calm = true) : CallR X (.builtin "max") (fun xs H Q => ∃ (a : Addr) (ns : List Int), xs = [.ref a] ∧ SqL X.K H a (ns.map V.int) ∧ ns ≠ [] ∧ ∀ M : Int, M ∈ ns → (∀ b, b ∈ ns → b ≤ M) → Q (.int M) H) := by
  intro pins s σ H xs us Q I r h
  obtain ⟨a, ns, rfl, hS, hne, q⟩ := h
  obtain ⟨u, rfl, ru⟩ := r.one
  cases ru
  obtain ⟨its, rv, pl, hz⟩ := I.list hS
  have hi := ints_are rv
  obtain ⟨ys, e⟩ := hi.allInts.items
  have hns : ns = ys.toList.map (·.1) := by rw [← hi.numsOf, ← nums_intItems, ← e]
  have hsz : 0 < ys.size := by
    have h3 := List.length_pos_iff.mpr hne
    rw [hns, List.length_map, Array.length_toList] at h3
    exact h3
  have hl := pl.isList
  rw [e] at hl
  refine max_intList (I.ok.hd hc) hl hsz fun v h' tk hv hk => ?_
  obtain ⟨t, rfl⟩ := intItems_at hv
  obtain ⟨h1, h2⟩ := argBest_gt (numAt ys) (ys.size - 1)
  refine ⟨.int _, H, I.kept hk, ⟨t, rfl⟩, q _ ?_ fun b hb => ?_⟩
  · rw [hns, numAt_eq]; exact getD_mem (by rw [List.length_map, Array.length_toList]; omega)
  · rw [hns] at hb
    obtain ⟨j, hj, rfl⟩ := mem_getD hb
    rw [List.length_map, Array.length_toList] at hj
    rw [← numAt_eq]; exact h2 j (by omega)
end
end L2

namespace L2
open PySem PyProof.Rows
theorem vals_upto : ∀ (us : List Value) (lo : Nat), (∀ (i : Nat) (v : Value), us[i]? = some v → ∃ t, v = .int ((lo + i : Nat) : Int) t) → Vals (((List.range us.length).map fun i => Int.ofNat (lo + i)).map V.int) us
  | [], lo, h => .nil
  | u :: us, lo, h => by
    rw [List.length_cons, List.range_succ_eq_map, List.map_cons, List.map_cons, List.map_map (g := fun i => Int.ofNat (lo + i))]
    refine .cons (h 0 u rfl) ?_
    have q := vals_upto us (lo + 1) fun i v e => by
      obtain ⟨t, e⟩ := h (i + 1) v e
      exact ⟨t, by rw [e]; congr 2; omega⟩
    have e : ((List.range us.length).map ((fun i => Int.ofNat (lo + i)) ∘ Nat.succ)) = (List.range us.length).map fun i => Int.ofNat (lo + 1 + i) := by
      apply List.map_congr_left
      intro i _
      show Int.ofNat (lo + (i + 1)) = Int.ofNat (lo + 1 + i)
      congr 1
      omega
    rw [e]
    exact q
section
variable {X : Cx} {a : Expr} {ta : TA} {p p1 pos pos1 : Pos}
end
end L2

namespace L2
open PySem PyProof.Rows
section
variable {X : Cx} {a : Expr} {ta : TA} {p p1 pos pos1 : Pos} {K : PySem.W.Frag}
end
end L2

namespace L2
open PySem PyProof.Rows
theorem firstMet_dd (val : Nat → Int) : ∀ n : Nat, firstMet val n = Sh.dd ((List.range n).map val)
  | 0 => rfl
  | n + 1 => by
    rw [firstMet_succ, firstMet_dd val n, List.range_succ, List.map_append]
    show _ = Sh.dd ((List.range n).map val ++ [val n])
    rw [Sh.dd_snoc]
    unfold step_dedup
    by_cases h : val n ∈ Sh.dd ((List.range n).map val)
    · rw [if_pos h, if_pos (by rw [List.any_eq_true]; exact ⟨val n, h, by simp⟩)]
    · have hn : ¬ ((Sh.dd ((List.range n).map val)).any (· == val n)) = true := by
        rw [List.any_eq_true]
        rintro ⟨x, hx, e⟩
        have : x = val n := by simpa using e
        exact h (by rw [← this]; exact hx)
      rw [if_neg h, if_neg hn]
theorem range_getD (ns : List Int) : (List.range ns.length).map (fun i => ns.getD i 0) = ns := by
  apply List.ext_getElem?
  intro i
  rw [List.getElem?_map]
  by_cases h : i < ns.length
  · rw [List.getElem?_range h, List.getElem?_eq_getElem h]
    simp [h]
  · rw [List.getElem?_eq_none (by rw [List.length_range]; omega), List.getElem?_eq_none (by omega)]
    rfl
def tLS (K : PySem.W.Frag) (ta : TA) : TE := fun σ H Q => ta σ H fun vs H1 => ∃ (l : Addr) (ns : List Int), vs = [.ref l] ∧ SqL K H1 l (ns.map V.int) ∧ ns.length ≤ 30 ∧ Q (.int ((Sh.dd ns).length : Int)) H1
section
variable {X : Cx} {a : Expr} {ta : TA} {p p1 pos pos1 : Pos}
theorem pe_lenset (hc : X.calm = true) (hgL : Gl X "len") (hmL : X.mg "len" = none) (hgS : Gl X "set") (hmS : X.mg "set" = none) (ha : PA X [a] ta)
    (he : starEach [.Call (.Name "set" p1) [a] [] pos1] X.env = [(false, eval (.Call (.Name "set" p1) [a] [] pos1) X.env)] := by rfl)
    (hs : starEach [a] X.env = [(false, eval a X.env)] := by rfl) :
    PE X (.Call (.Name "len" p) [.Call (.Name "set" p1) [a] [] pos1] [] pos) (tLS X.K ta) := by
  intro pins s σ H Q I h
  refine wpAny_Call_Name_kw (ld_blt I hgL hmL boot_len ?_)
  refine PyProof.Rows.callWith_builtin1 ?_ he rfl
  rw [he]
  show wpAny _ _ (spliced ((false, eval (.Call (.Name "set" p1) [a] [] pos1) X.env) :: [])) _ _ s
  refine Calls.spliced_cons ?_
  refine wpAny_Call_Name_kw (ld_blt I hgS hmS boot_set ?_)
  refine PyProof.Rows.callWith_type1 (thn (ha pos1 pins s σ H _ I h) fun us s1 ⟨vs, H1, I1, r1, q1⟩ => ?_) hs rfl
  obtain ⟨l, ns, rfl, hS, hlen, q⟩ := q1
  obtain ⟨u, rfl, ru⟩ := r1.one
  cases ru
  obtain ⟨its, rv, pl, hz⟩ := I1.list hS
  have hl := rv.length
  rw [List.length_map] at hl
  have hsb : its.toArray.size + 1 < scanBound := by
    have : (31 : Nat) < scanBound := by decide
    rw [List.size_toArray]
    omega
  refine call_set_list (items := its.toArray) (ns := ns) (I1.ok.hd hc) pl.isList (by simpa using ints_are rv) hsb fun h' tk hset hk => ?_
  refine Calls.spliced_nil ?_
  have I2 : Inv X pins σ H1 { s1 with heap := h', toks := tk } := I1.kept fun b o e => hk b o (Heap.lt_size e) e
  obtain ⟨o, es, ep, t, e1, e2, e3, e4, e5, e6, e7, e8⟩ := hset
  have hsz : its.toArray.size = ns.length := by rw [List.size_toArray, hl]
  rw [firstMet_dd, hsz, range_getD] at e8
  refine call_len_set (s := { s1 with heap := h', toks := tk }) e1 e2 e3 e7 (by rw [e8]; have := Sh.length_dd_le ns; omega) ?_
  refine ⟨.int ((Sh.dd ns).length : Int), H1, I2.tok _, ⟨_, by rw [e8]⟩, q⟩
end
end L2

namespace L2
open PySem PyProof.Rows
section
variable {X : Cx}
end
section
variable {X : Cx} {a b : Expr} {ta : TA} {p p1 pos pos1 : Pos}
end
end L2

namespace L2
open PySem PyProof.Rows
section
variable {X : Cx}
end
end L2

namespace L2
open PySem PySem.Spec PyProof.Rows PySem.W
section
variable {P : Program} {w : World} {K : PySem.W.Frag} {mg : Str → Option Value} {base : Heap} {N : List Str} {qual : Str} {scope : Scope} {f : Addr} {cd : Value} {A : Around} {outer : List Env} {s s1 : Shared} {H H1 : Hp} {E : XK} {pins : List (Addr × Obj)} {σ : St}
end
end L2

namespace L2
open PySem PySem.Spec PyProof.Rows PySem.W
section
variable {P : Program} {w : World} {K : PySem.W.Frag} {mg : Str → Option Value} {base : Heap} {N : List Str} {qual : Str} {scope : Scope} {f : Addr} {cd : Value} {A : Around} {outer : List Env} {s : Shared} {H : Hp} {E : XK} {C : Addr} {x : Str} {np cpos pos : Pos} {e₀ : Expr} {t : TA}
end
end L2

namespace L2
open PySem PySem.Spec PyProof.Rows PySem.W
abbrev Cx.suite (X : Cx) (ea : Addr) (E : Value → Shared → Prop) : Cx := { X with A := X.A.mark (some (.ref ea)), calm := false, xe := E }
section
variable {X : Cx} {pins : List (Addr × Obj)} {σ : St} {H : Hp} {s : Shared} {ea : Addr} {E : Value → Shared → Prop}
theorem Inv.suite (I : Inv X pins σ H s) (ea : Addr) (E : Value → Shared → Prop) : Inv (X.suite ea E) pins σ H s :=
  ⟨⟨I.ok.mod, I.ok.kind, I.ok.glob, I.ok.blt, I.ok.above, I.ok.inj, I.ok.has, I.ok.cab, fun z => (nomatch z), I.ok.frames, I.ok.stk, I.ok.exf, I.ok.bs, I.ok.bsz, I.ok.noex, I.ok.exfs, I.ok.funs, I.ok.frf⟩, I.os, I.bare, I.base, I.loc, I.cell, I.free, I.freeC, I.pin, I.hok, I.len⟩
end
end L2

namespace L2
open PySem PySem.Spec PyProof.Rows PySem.W
section
variable {X : Cx} {pins : List (Addr × Obj)} {σ : St} {H H' : Hp} {s s' : Shared} {ea D C : Addr} {x n : Str} {np hpos : Pos} {ni : Nat} {b₀ : Stmt} {suite : List Stmt} {ts : TS} {Ds : Ends}
variable {CX : CXT} {k : Nat} {f : Addr} {fd : FuncData} {ps : List Str} {sp : Sp} {y fx : Str} {yi : Nat} {py p cpos apos pos : Pos} {e : Expr} {es : List Expr} {t : TA}
end
end L2

namespace L2
open PySem PySem.Spec PyProof.Rows PySem.W
section
variable {P : Program} {w : World} {K : PySem.W.Frag} {mg : Str → Option Value} {base : Heap}
end
section
variable {P : Program} {w : World} {K : PySem.W.Frag} {mg : Str → Option Value} {base : Heap} {N : List Str} {qual : Str} {scope : Scope} {f : Addr} {cd : Value} {A : Around} {outer : List Env} {s : Shared} {H : Hp} {E : XK} {x : Str} {ps : List Str} {k : Nat} {sp : Sp} {e : Expr} {es : List Expr} {t : TA} {p pos : Pos}
end
section
variable {X : Cx} {K : PySem.W.Frag}
end
end L2

namespace L2
open PySem PySem.Spec PyProof.Rows PySem.W
section
variable {M : Model} {A : Around} {E : Value → Shared → Prop} {s : Shared}
end
section
variable {P : Program} {w : World} {K : PySem.W.Frag} {mg : Str → Option Value} {base : Heap} {N : List Str} {qual : Str} {scope : Scope} {f : Addr} {cd : Value} {A : Around} {outer : List Env} {s s1 : Shared} {H H1 : Hp} {E : XK} {pins : List (Addr × Obj)} {σ : St}
end
end L2

namespace L2
open PySem PySem.Spec PyProof.Rows PySem.W
section
variable {prog : Program} {w : World} {A : Around} {R : Result → Shared → Prop} {s : Shared}
end
section
variable {X : Cx} {tg elt iter : Expr} {ifs : List Expr} {scope : Scope} {pos : Pos} {N' : List Str} {ix : List (Option Nat)} {g : TG} {tc : TT} {te : TE} {pins : List (Addr × Obj)} {σ : St} {H : Hp} {s : Shared}
end
section
variable {X : Cx} {x : Str} {ps : List Str} {k : Nat} {sp : Sp} {p pos : Pos} {e : Expr} {es : List Expr} {t : TA} {scope : Scope} {N' : List Str} {C : Addr} {fp : List Addr} {s : Shared} {H : Hp} {EX : XK}
end
end L2

namespace L2
open PySem PySem.Spec PyProof.Rows PySem.W
section
variable {P : Program} {w : World} {K : PySem.W.Frag} {mg : Str → Option Value} {base : Heap} {N : List Str} {qual : Str} {scope0 : Scope} {f : Addr} {cd : Value} {A : Around} {outer : List Env} {s0 : Shared} {H0 : Hp} {E : XK}
variable {tg elt iter : Expr} {ifs : List Expr} {scope : Scope} {pos : Pos} {N' : List Str} {ix : List (Option Nat)} {g : TG} {tc : TT} {te : TE} {wi : TI}
end
end L2

namespace L2
open PySem PySem.Spec PyProof.Rows PySem.Builtin PySem.Builtin.Str
section
variable {X : Cx}
end
end L2

namespace L2
open PySem PyProof.Rows PySem.W
section
variable {X : Cx} {es : List Expr} {t : TA} {pos : Pos}
end
end L2

namespace LQ
open PySem L2 PyProof.Rows PySem.W
structure QE (X : Cx) (e : Expr) (t : TE) : Prop where
  h : PE X e t
structure QA (X : Cx) (es : List Expr) (t : TA) : Prop where
  h : PA X es t
structure QT (X : Cx) (e : Expr) (t : TT) : Prop where
  h : PT X e t
structure QS (X : Cx) (st : Stmt) (t : TS) : Prop where
  h : PS X st t
structure QSs (X : Cx) (st : List Stmt) (t : TS) : Prop where
  h : PSs X st t
section
variable {X : Cx} {a b e : Expr} {es : List Expr} {ta tb te : TE} {t : TA} {pos : Pos} {st : Stmt} {rest : List Stmt} {u v : TS}
theorem pss_cons (h1 : QS X st u) (h2 : QSs X rest v) : QSs X (st :: rest) (tSeq u v) := ⟨L2.pss_cons h1.h h2.h⟩
theorem pss_one (h1 : QS X st u) : QSs X [st] u := ⟨L2.pss_one h1.h⟩
theorem pss_nil : QSs X [] tNext := ⟨L2.pss_nil⟩
theorem pss_cut (R : L2.St → Hp → Prop) (h1 : QS X st u) (h2 : QSs X rest v) : QSs X (st :: rest) (tCut R u v) := ⟨L2.pss_cut R h1.h h2.h⟩
theorem ps_set {i : Nat} {x : Str} {pos' : Pos} (hN : X.N.Nodup) (hi : X.N[i]? = some x) (hx : Loc X.env.scope x) (he : QE X e te) (hs : swapsWith e (some (.Name x pos')) pos.line X.env = pure false := by rfl) (hf : X.fn x = true ∨ X.env.scope.names.lookup x = some .local := by first | exact .inl rfl | exact .inr rfl | assumption) :
    QS X (.Assign [.Name x pos'] e pos) (tAsg te (gName i)) := ⟨L2.ps_set hN hi hx he.h hs hf⟩
theorem ps_if {c : Expr} {l l' : List Stmt} {tc : TT} (hc : QT X c tc) (ha : QSs X l u) (hb : QSs X l' v) : QS X (.If c l l' pos) (tIfS tc u v) := ⟨L2.ps_if hc.h ha.h hb.h⟩
theorem ps_expr (he : QE X e te) (hs : swapsWith e none pos.line X.env = pure false := by rfl) : QS X (.Expr e pos) (tDrop te) := ⟨L2.ps_expr he.h hs⟩
theorem ps_ret (he : QE X e te) : QS X (.Return (some e) pos) (tRet te) := ⟨L2.ps_ret he.h⟩
theorem pt_cmpR {op : CmpOp} {r : R2} (ho : OpR X (compareOp op) r) (ha : QE X a ta) (hb : QE X b tb) (hm : behindInMarks op b = false) : QT X (.Compare a [op] [b] pos) (tTest (tOp r ta tb)) := ⟨L2.pt_cmpR ho ha.h hb.h hm⟩
theorem pe_op {op : Operator} {r : R2} (ho : OpR X (binaryOp op) r) (ha : QE X a ta) (hb : QE X b tb) : QE X (.BinOp a op b pos) (tOp r ta tb) := ⟨L2.pe_op ho ha.h hb.h⟩
theorem pe_un {op : UnaryOp} {r : V → Hp → VK → Prop} (ho : UnR X (unaryOp op) r) (ha : QE X a ta) : QE X (.UnaryOp op a pos) (tUn r ta) := ⟨L2.pe_un ho ha.h⟩
theorem pe_ix {r : R2} (hr : IxR X r) (ha : QE X a ta) (hb : QE X b tb) (hs : PlainIx b) : QE X (.Subscript a b pos) (tOp r ta tb) := ⟨L2.pe_ix hr ha.h hb.h hs⟩
theorem pe_int {i j} : QE X (.Constant (.int i) j pos) (tC (.int i)) := ⟨L2.pe_int⟩
theorem pe_bl {b j} : QE X (.Constant (.bool b) j pos) (tC (.bl b)) := ⟨L2.pe_bl⟩
theorem pv (i : Nat) {x : Str} (hN : X.N[i]? = some x := by rfl) (hv : Vis X.env.scope x := by first | exact Or.inl rfl | exact Or.inr (Or.inl rfl) | exact Or.inr (Or.inr rfl)) (hd : (x == ("__debug__" : Str)) = false := by decide)
    (hcd : (x == ("__classdict__" : Str)) = false := by decide) : QE X (.Name x pos) (tVar i) := ⟨L2.pv i hN hv hd hcd⟩
theorem pa_nil : QA X [] tNil := ⟨L2.pa_nil⟩
theorem pa_cons (ha : QE X e te) (hr : QA X es t) (hs : starEach (e :: es) X.env = (false, eval e X.env) :: starEach es X.env := by rfl) : QA X (e :: es) (tCons te t) := ⟨L2.pa_cons ha.h hr.h hs⟩
theorem pe_lst (h : QA X es t) : QE X (.List es pos) (tLst t) := ⟨L2.pe_lst h.h⟩
end
section
variable {P : Program} {w : World} {K : PySem.W.Frag} {mg : Str → Option Value} {base : Heap} {N : List Str} {qual : Str} {scope : Scope} {f : Addr} {cd : Value} {A : Around} {outer : List Env} {s : Shared} {H : Hp} {E : XK} {x : Str} {ps : List Str} {k : Nat} {sp : Sp} {e : Expr} {es : List Expr} {t : TA} {p pos : Pos}
end
section
variable {X : Cx} {x : Str} {p pos : Pos} {a b e : Expr} {es : List Expr} {t : TA} {ta tb : TE} {id : String} {r : List V → Hp → VK → Prop}
theorem pe_callB (hc : CallR X (.builtin id) r) (hg : Gl X x) (hm : X.mg x = none) (hv : bootBuiltins x = some (.builtin id)) (ha : QA X (e :: es) t) (hn : x ≠ "__name__" := by decide) (hdb : (x == ("__debug__" : Str)) = false := by decide)
    (he : starEach (e :: es) X.env = (false, eval e X.env) :: starEach es X.env := by rfl) (hpl : (backTo pos (starEach es X.env)).any (·.1) = false := by rfl) : QE X (.Call (.Name x p) (e :: es) [] pos) (tCB r t) := ⟨L2.pe_callB hc hg hm hv ha.h hn hdb he hpl⟩
theorem pe_glob {v : V} {u : Value} (hg : Gl X x) (hm : X.mg x = some u) (r : RelV v u) (hd : (x == ("__debug__" : Str)) = false := by decide) : QE X (.Name x pos) (tC v) := ⟨L2.pe_glob hg hm r hd⟩
theorem pe_bltn {v : V} {u : Value} (hg : Gl X x) (hm : X.mg x = none) (hv : bootBuiltins x = some u) (r : RelV v u) (hn : x ≠ "__name__" := by decide) (hd : (x == ("__debug__" : Str)) = false := by decide) : QE X (.Name x pos) (tC v) := ⟨L2.pe_bltn hg hm hv r hn hd⟩
theorem pe_cmpR {op : CmpOp} {r : R2} (ho : OpR X (compareOp op) r) (ha : QE X a ta) (hb : QE X b tb) (hm : behindInMarks op b = false) : QE X (.Compare a [op] [b] pos) (tOp r ta tb) := ⟨L2.pe_cmpR ho ha.h hb.h hm⟩
theorem pe_fn {k : Nat} {ps : List Str} {sp : Sp} (G : Fn X.prog X.w X.K X.mg X.base x ps k sp) (hr : Room k X.A) (ha : QA X (e :: es) t) (hg : Gl X x := by rfl) (hdb : (x == ("__debug__" : Str)) = false := by decide)
    (he : starEach (e :: es) X.env = (false, eval e X.env) :: starEach es X.env := by rfl) (hpl : (backTo pos (starEach es X.env)).any (·.1) = false := by rfl) : QE X (.Call (.Name x p) (e :: es) [] pos) (tCall sp [] E0 t) := ⟨L2.pe_fn G hr ha.h hg hdb he hpl⟩
end
section
variable {P : Program} {w : World} {K : PySem.W.Frag} {mg : Str → Option Value} {base : Heap}
theorem ok0 {x qual : Str} {st : Stmt} {f : Addr} {fd : FuncData} {N ps : List Str} {k : Nat} {sp : Sp} (F : Fun K x qual st f fd) (S : FnScope N ps (defScope st)) (len : ∀ vs H Q E, sp vs H Q E → vs.length = ps.length)
    (hbody : ∀ (cdv : Value) (A : Around) (outer : List Env) (s : Shared) (H : Hp) (vs : List V) (Q : VK) (E : XK), Room k (A.deeper (envOfC qual (defScope st) s.heap.objs.size f cdv)) → sp vs H Q E →
      ∃ t, QSs (cxOf CX0 P w K mg base N qual (defScope st) f cdv A outer s H E).nox (defBody st) t ∧ t { nx := fun _ H' => Q .non H', rt := Q } (start N vs) H) : FnOk P w K mg base CX0 (k + 1) f fd ps sp :=
  F.ok S len fun cdv A outer s H vs Q E hr h => let ⟨t, ht, q⟩ := hbody cdv A outer s H vs Q E hr h; ⟨t, ht.h, q⟩
end
end LQ

namespace L2
open PySem PyProof.Rows PySem.W
end L2
namespace LQ
open PySem L2 PyProof.Rows PySem.W
structure QW (X : Cx) (e : Expr) (t : TT) : Prop where
  h : PW X e t
structure QI (X : Cx) (tg : Expr) (e : Expr) (t : TI) : Prop where
  h : PI X tg e t
section
variable {X : Cx} {a b e o i value : Expr} {es rest : List Expr} {ta tb te td ty tv : TE} {t : TA} {pos pos' p : Pos} {tA tB' : TT}
theorem pw_and1 (ha : QT X a tA) : QW X (.BoolOp .And [a] pos) tA := ⟨L2.pw_and1 ha.h⟩
theorem pw_or1 (ha : QT X a tA) : QW X (.BoolOp .Or [a] pos) tA := ⟨L2.pw_or1 ha.h⟩
theorem pw_and (ha : QT X a tA) (hb : QW X (.BoolOp .And (b :: rest) pos) tB') : QW X (.BoolOp .And (a :: b :: rest) pos) (tAnd tA tB') := ⟨L2.pw_and ha.h hb.h⟩
theorem pw_or (ha : QT X a tA) (hb : QW X (.BoolOp .Or (b :: rest) pos) tB') : QW X (.BoolOp .Or (a :: b :: rest) pos) (tOr tA tB') := ⟨L2.pw_or ha.h hb.h⟩
theorem pt_w (h : QW X a tA) : QT X a tA := ⟨h.h.pt⟩
theorem pt_not (ha : QT X a tA) : QT X (.UnaryOp .Not a pos) (tNot tA) := ⟨L2.pt_not ha.h⟩
theorem pt_val (h : QE X e te) (he : ∀ whole, isTrue e X.env whole = (do let v ← whole; standAt e.pos; holding [v] (truthy v)) := by intro _; rfl) : QT X e (tB te) := ⟨L2.pt_val h.h he⟩
theorem ps_dput (hu : X.A.units + 1 < cLine) (ho : QE X o td) (hi : QE X i ty) (hv : QE X value tv) (hs : swapsWith value (some (.Subscript o i pos')) pos.line X.env = pure false) : QS X (.Assign [.Subscript o i pos'] value pos) (sDPut td ty tv) := ⟨L2.ps_dput hu ho.h hi.h hv.h hs⟩
theorem pe_dget (hu : X.A.units + 1 < cLine) (ho : QE X o td) (hi : QE X i ty) (hs : NoSl i) : QE X (.Subscript o i pos) (tDGet td ty) := ⟨L2.pe_dget hu ho.h hi.h hs⟩
theorem ps_for {tg iter : Expr} {body : List Stmt} {wi : TI} {g : TG} {tb : TS} (hp : PassesOwn (model X.prog X.w) X.A X.env X.xe) (hc : X.calm = true) (hi : QI X tg iter wi) (hg : PG X tg g) (hb : QSs X body tb)
    (hs : ∀ x, foldedSetIterable iter X.env x = pure x := by intro _; rfl) : QS X (.For tg iter body [] pos) (tFor wi g tb) := ⟨L2.ps_for hp hc hi.h hg hb.h hs⟩
theorem pi_list {tg : Expr} (hl : QE X e te) : QI X tg e (iList X.K te) := ⟨L2.pi_list hl.h⟩
theorem pi_range1 {tg : Expr} (hg : Gl X "range") (hm : X.mg "range" = none) (ha : QA X [a] t) (hs : starEach [a] X.env = [(false, eval a X.env)] := by rfl) : QI X tg (.Call (.Name "range" p) [a] [] pos) (iRng1 t) := ⟨L2.pi_range1 hg hm ha.h hs⟩
theorem pe_callTy {T : String} {x : Str} {r : List V → Hp → VK → Prop} (hc : CallR X (.type T) r) (hg : Gl X x) (hm : X.mg x = none) (hv : bootBuiltins x = some (.type T)) (ha : QA X (e :: es) t) (hn : x ≠ "__name__" := by decide) (hdb : (x == ("__debug__" : Str)) = false := by decide)
    (he : starEach (e :: es) X.env = (false, eval e X.env) :: starEach es X.env := by rfl) (hpl : (backTo pos (starEach es X.env)).any (·.1) = false := by rfl) : QE X (.Call (.Name x p) (e :: es) [] pos) (tCB r t) := ⟨L2.pe_callTy hc hg hm hv ha.h hn hdb he hpl⟩
end
end LQ

namespace L2
open PySem PySem.Spec PyProof.Rows
section
variable {X : Cx}
theorem call_maxT (hc : X.calm = true) : CallR X (.builtin "max") (fun xs H Q => ∃ (a : Addr) (ns : List Int), xs = [.ref a] ∧ SqT X.K H a (ns.map V.int) ∧ ns ≠ [] ∧ ∀ M : Int, M ∈ ns → (∀ b, b ∈ ns → b ≤ M) → Q (.int M) H) := by
  intro pins s σ H xs us Q I r h
  obtain ⟨a, ns, rfl, hS, hne, q⟩ := h
  obtain ⟨u, rfl, ru⟩ := r.one
  cases ru
  obtain ⟨its, rv, pl, hz⟩ := I.tuple hS
  have hi := ints_are rv
  obtain ⟨ys, e⟩ := hi.allInts.items
  have hns : ns = ys.toList.map (·.1) := by rw [← hi.numsOf, ← nums_intItems, ← e]
  have hsz : 0 < ys.size := by
    have h3 := List.length_pos_iff.mpr hne
    rw [hns, List.length_map, Array.length_toList] at h3
    exact h3
  have hl : s.heap.IsTuple a its.toArray := pl
  rw [e] at hl
  have hlt : a < s.heap.objs.size := pl.lt
  refine call_max_walk (wpAny_pyIter_tuple hl ⟨s.heap.objs.size, _, _, _, _, _, _, rfl, Walks.tuple (A := X.A.in1) (I.ok.hd hc) s.heap.objs.size a (Nat.ne_of_lt hlt) (intItems ys), ⟨⟨_, Heap.get?_push_size _ rfl, rfl, rfl⟩, hl.push _⟩, fun b hb => ?_, by simpa [intItems] using hsz, CmpOf.ints_gt (numAt ys) (fun _ _ => intItems_at), fun v h' tk hP hk => ?_⟩)
  · show b < (s.heap.push _).objs.size
    rw [Heap.size_push]
    rcases List.mem_cons.mp hb with rfl | hb
    · exact Nat.lt_succ_self _
    · rw [List.mem_singleton.mp hb]
      exact Nat.lt_succ_of_lt hlt
  have hv : (intItems ys)[argBest (fun i j => decide (numAt ys i > numAt ys j)) (ys.size - 1)]? = some v := by simpa [intItems] using hP
  obtain ⟨t, rfl⟩ := intItems_at hv
  obtain ⟨h1, h2⟩ := argBest_gt (numAt ys) (ys.size - 1)
  refine ⟨.int _, H, I.kept (fun b o eb => hk b o (fun hm => ?_) (Heap.get?_push_of_some _ eb)), ⟨t, rfl⟩, q _ ?_ fun b hb => ?_⟩
  · exact absurd (Heap.lt_size eb) (by rw [List.mem_singleton.mp hm]; exact Nat.lt_irrefl _)
  · rw [hns, numAt_eq]; exact getD_mem (by rw [List.length_map, Array.length_toList]; omega)
  · rw [hns] at hb
    obtain ⟨j, hj, rfl⟩ := mem_getD hb
    rw [List.length_map, Array.length_toList] at hj
    rw [← numAt_eq]; exact h2 j (by omega)
theorem vals_refs : ∀ (us : List Value) (ts : List Addr), us.length = ts.length → (∀ (i : Nat) (v : Value), us[i]? = some v → ∃ t, ts[i]? = some t ∧ v = .ref t) → Vals (ts.map V.ref) us
  | [], [], _, _ => .nil
  | u :: us, t :: ts, hl, h => by
    obtain ⟨t', e, ev⟩ := h 0 u rfl
    have e' : t = t' := Option.some.inj e
    subst e'
    exact .cons ev (vals_refs us ts (by simpa using hl) fun i v e => h (i + 1) v e)
  | [], _ :: _, hl, _ => by simp at hl
  | _ :: _, [], hl, _ => by simp at hl
theorem kt_get {H : Hp} {kvs : List (List Key × V)} {xs : List (List Key × Addr × Value)} (r : KT H kvs xs) : ∀ (i : Nat) (p : List Key × V) (x : List Key × Addr × Value), kvs[i]? = some p → xs[i]? = some x → H x.2.1 = some (.tup (p.1.map kV)) := by
  induction r with
  | nil => intro i p x e; simp at e
  | @cons p q ps qs h t ih =>
    intro i p' x e1 e2
    cases i with
    | zero =>
      cases (show some p = some p' from e1)
      cases (show some q = some x from e2)
      exact h.2.1
    | succ i => exact ih i p' x (by simpa using e1) (by simpa using e2)
theorem call_listD (hc : X.calm = true) : CallR X (.type "list") (fun xs H Q => ∃ (a : Addr) (kvs : List (List Key × V)), xs = [.ref a] ∧ H a = some (.dT kvs) ∧
    ∀ (D : Addr) (ts : List Addr), H D = none → ts.length = kvs.length → (∀ (i : Nat) (t : Addr) (p : List Key × V), ts[i]? = some t → kvs[i]? = some p → H t = some (.tup (p.1.map kV))) → Q (.ref D) (upd H D (.lst (ts.map V.ref)))) := by
  intro pins s σ H xs us Q I r h
  obtain ⟨a, kvs, rfl, e, q⟩ := h
  obtain ⟨u, rfl, ru⟩ := r.one
  cases ru
  obtain ⟨z, hd, ks, rel, ob, es, ep, h1, h2, h3, h4, h5⟩ := (show ObjOk X.prog X.w H s.heap a (.dT kvs) from I.hok a _ e)
  have hl1 : kvs.length = ks.length := Paired.length rel
  have hl2 : es.size = ks.length := by rw [← Array.length_toList, h4, List.length_map]
  refine ZD.call_list_d (I.ok.hd hc) hd (es := es) (ep := ep) ⟨ob, h1, h2, h3⟩ (by omega) fun h' tk acc c hk hD hI => ?_
  have hla : acc.toList.length = (ks.map (·.2.1)).length := by rw [Array.length_toList, hI.1, hl2, List.length_map]
  have vv := vals_refs acc.toList (ks.map (·.2.1)) hla fun i v ev => by
    obtain ⟨en, h6, h7⟩ := hI.2 i v (by rw [← ev, Array.getElem?_toList])
    have h8 : (ks.map (entryOfKey (tupleKind (mixKind X.prog X.w))))[i]? = some en := by rw [← h4, Array.getElem?_toList]; exact h6
    rw [List.getElem?_map] at h8
    cases ek : ks[i]? with
    | none => rw [ek] at h8; cases h8
    | some x =>
      rw [ek] at h8
      refine ⟨x.2.1, by rw [List.getElem?_map, ek]; rfl, ?_⟩
      rw [h7, ← Option.some.inj h8]
      rfl
  refine ⟨.ref s.heap.objs.size, _, I.laid (a := s.heap.objs.size) (o := .lst ((ks.map (·.2.1)).map V.ref)) (t' := tk) hk (Nat.le_refl _) ⟨?_, acc.toList, c, vv, by simpa using hD⟩, rfl, q _ _ (I.hok.fresh (Nat.le_refl _)) (by rw [List.length_map, hl1]) fun i t p et ep' => ?_⟩
  · rw [List.length_map, List.length_map]; omega
  · rw [List.getElem?_map] at et
    cases ek : ks[i]? with
    | none => rw [ek] at et; cases et
    | some x =>
      rw [ek] at et
      have := kt_get rel i p x ep' ek
      rw [← Option.some.inj et]
      exact this
end
def tTR (ta : TA) : TE := fun σ H Q => ta σ H fun vs H1 => ∃ n : Nat, vs = [.int (n : Int)] ∧ n ≤ 1000 ∧ ∀ D : Addr, H1 D = none → Q (.ref D) (upd H1 D (.tup ((Sh.upto n).map V.int)))
section
variable {X : Cx} {a : Expr} {ta : TA} {p p1 pos pos1 : Pos}
theorem pe_tuprange (hc : X.calm = true) (hgL : Gl X "tuple") (hmL : X.mg "tuple" = none) (hgR : Gl X "range") (hmR : X.mg "range" = none) (ha : PA X [a] ta)
    (he : starEach [.Call (.Name "range" p1) [a] [] pos1] X.env = [(false, eval (.Call (.Name "range" p1) [a] [] pos1) X.env)] := by rfl)
    (hs : starEach [a] X.env = [(false, eval a X.env)] := by rfl) :
    PE X (.Call (.Name "tuple" p) [.Call (.Name "range" p1) [a] [] pos1] [] pos) (tTR ta) := by
  intro pins s σ H Q I h
  refine wpAny_Call_Name_kw (ld_blt I hgL hmL boot_tuple ?_)
  refine PyProof.Rows.callWith_type1 ?_ he rfl
  rw [he]
  show wpAny _ _ (spliced ((false, eval (.Call (.Name "range" p1) [a] [] pos1) X.env) :: [])) _ _ s
  refine Calls.spliced_cons (wpAny_Call_Name_kw (ld_blt I hgR hmR boot_range ?_))
  refine PyProof.Rows.callWith_type1 (thn (ha pos1 pins s σ H _ I h) fun us s1 ⟨vs, H1, I1, r1, q1⟩ => ?_) hs rfl
  obtain ⟨n, rfl, hn, q⟩ := q1
  cases r1 with
  | cons r rr =>
    cases rr
    obtain ⟨t, rfl⟩ := r
    refine call_range_1 (Calls.spliced_nil ?_)
    have hsz : Builtin.Range.rangeSize 0 (n : Int) 1 = (n : Int) := by rw [rangeSize_one]; split <;> omega
    refine ZD.call_tuple_range (n := n) (I1.ok.hd hc) (IsRange.new ..) (small_one (by omega) (by omega) (by omega) (by omega)) hsz (by omega) fun h' tk acc hk hI => ?_
    have I2 : Inv X pins σ H1 { s1 with heap := h', toks := tk } := I1.kept (t' := tk) fun b o e => hk b o (Heap.get?_push_of_some _ e)
    have vv : Vals ((Sh.upto n).map V.int) acc.toList := by
      have z := vals_upto acc.toList 0 fun i v e => by
        obtain ⟨t, e⟩ := hI.2 i v (by rw [← e, Array.getElem?_toList])
        exact ⟨t, by rw [e]; congr 1; omega⟩
      have e : acc.toList.length = n := by rw [Array.length_toList]; exact hI.1
      rw [e] at z
      have e2 : Sh.upto n = (List.range n).map fun i => Int.ofNat (0 + i) := by
        unfold Sh.upto
        apply List.map_congr_left
        intro i _
        rw [Nat.zero_add]
      rw [e2]
      exact z
    have I3 : Inv X pins σ (upd H1 h'.objs.size (.tup ((Sh.upto n).map V.int))) { s1 with heap := h'.push { cls := .type "tuple", data := .seq acc }, toks := tk } :=
      I2.laid (t' := tk) (fun b o e => Heap.get?_push_of_some _ e) (Nat.le_refl _) (show ObjOk X.prog X.w _ _ _ (.tup ((Sh.upto n).map V.int)) from ⟨by rw [List.length_map, Sh.length_upto]; exact small hn, acc.toList, vv, by simpa using IsTup.new h' acc⟩)
    exact ⟨.ref h'.objs.size, _, I3, rfl, q _ (I2.hok.fresh (Nat.le_refl _))⟩
end
def tDisp1 (tk tv : TE) : TE := fun σ H Q => ∀ p, H p = none → tk σ (upd H p (.dT [])) fun x H1 => tv σ H1 fun y0 H2 => ∃ (b : Addr) (y : V) (k : List Key), [(x, y0)] = [(V.ref b, y)] ∧ H2 p = some (.dT []) ∧ H2 b = some (.tup (k.map kV)) ∧ Q (.ref p) (upd H2 p (.dT [(k, y)]))
theorem pe_disp1 {X : Cx} {k v : Expr} {pos : Pos} {tk tv : TE} (hu : X.A.units < cLine) (hk : PE X k tk) (hv : PE X v tv) : PE X (.Dict [some k] [v] pos) (tDisp1 tk tv) := by
  intro pins s σ H Q I q
  have hn := I.hok.fresh (Nat.le_refl s.heap.objs.size)
  have I1 := I.laid (a := s.heap.objs.size) (o := .dT []) (h' := s.heap.push { cls := .type "dict", data := .dict #[] }) (t' := s.toks) (fun _ _ q => Heap.get?_push_of_some _ q) (Nat.le_refl _) (dt_empty s.heap I.big)
  refine wpAny_Dict_any rfl rfl (by simp) (by show 1 ≤ 15; decide) (thn (pps_cons (pos := pos) hk hv pps_nil pins _ σ _ (fun ps H2 => ∃ (b : Addr) (y : V) (k : List Key), ps = [(V.ref b, y)] ∧ H2 s.heap.objs.size = some (.dT []) ∧ H2 b = some (.tup (k.map kV)) ∧ Q (.ref s.heap.objs.size) (upd H2 s.heap.objs.size (.dT [(k, y)]))) I1
    (q _ hn)) fun ws s2 ⟨ps, H2, I2, rel, b, y, k, ep, e, eb, q2⟩ => ?_)
  subst ep
  cases rel with
  | @cons _ wz _ _ rh rt =>
    cases rt
    obtain ⟨w1, w2⟩ := wz
    obtain ⟨r1, r2⟩ := rh
    cases (show w1 = Value.ref b from r1)
    unfold storeAll
    rw [List.forIn_cons]
    obtain ⟨z, hd, xs, kt, dd⟩ := dt_of I2.hok e
    cases kt
    refine wpAny_bind (wpAny_bind (wpAny_dictSet_heap (hsz := by show 0 ≤ sizeLine; exact Nat.zero_le _) (knd := tupleKind (mixKind X.prog X.w)) hu (key_of I2.hok eb) dd fun h' dd' hs => wpAny_pure ?_))
    show wpAny (model X.prog X.w) X.A (forIn ([] : List (Value × Value)) PUnit.unit _) _ _ _
    rw [List.forIn_nil]
    refine wpAny_pure ⟨.ref s.heap.objs.size, _, ?_, rfl, q2⟩
    obtain ⟨o', es, ep', hq, h2, h3, h4, _, h5⟩ := dd'
    refine d_write I2 (by rw [e]; exact True.intro) hs ⟨o', hq⟩ ⟨by show 1 ≤ sizeLine; decide, hd, _, ?_, o', es, ep', hq, h2, h3, h4, h5⟩
    have kt' : KT (upd H2 s.heap.objs.size (.dT [(k, y)])) [(k, y)] [(k, b, w2)] := .cons ⟨rfl, by rw [upd_ne (ne_of eb e (fun z => nomatch z))]; exact eb, r2⟩ .nil
    exact kt'
end L2

namespace K
open PySem L2 PyProof.Rows
def top (i : Nat) : Stmt := PySem.Challenge.pw_sharings_k09_whole_rises.main.body.getD i (.Pass ⟨0, 0, 0, 0⟩)
abbrev sMany : Stmt := top 7
abbrev sIs : Stmt := top 8
abbrev sAsk : Stmt := top 9
abbrev sMarked : Stmt := top 10
abbrev sShares : Stmt := top 11
abbrev sAlike : Stmt := top 13
abbrev sAskFin : Stmt := top 14
abbrev sFiner : Stmt := top 15
abbrev sMeet : Stmt := top 16
abbrev sRise : Stmt := top 17
abbrev sClimb : Stmt := top 18
abbrev sStep : Stmt := top 19
abbrev sJN : Stmt := top 20
abbrev sMR : Stmt := top 21
abbrev sMR1 : Stmt := top 22
abbrev sCell : Stmt := top 24
abbrev sWhole : Stmt := top 25
abbrev sNums : Stmt := top 26
abbrev sLMarks : Stmt := top 27
abbrev sNamed : Stmt := top 28
abbrev sLFiner : Stmt := top 29
abbrev sLMany : Stmt := top 30
abbrev sLProd : Stmt := top 31
abbrev sLReck : Stmt := top 32
abbrev sGood : Stmt := top 33
abbrev sLaw : Stmt := top 34
def spIs (K : PySem.W.Frag) : Sp := fun vs H Q _ => ∃ (a : Addr) (ns : List Int), vs = [.ref a] ∧ SqL K H a (ns.map V.int) ∧ Q (.bl (Sh.isSh ns)) H
def spAsk (K : PySem.W.Frag) : Sp := fun vs H Q _ => ∃ (a : Addr) (ns : List Int), vs = [.ref a] ∧ SqL K H a (ns.map V.int) ∧ Sh.isSh ns = true ∧ Q .non H
def spMarked {K : PySem.W.Frag} {α : Type} [DecidableEq α] (L : Lab K α) : Sp := fun vs H Q _ => ∃ (a : Addr) (xs : List V) (as : List α), vs = [.ref a] ∧ SqL K H a xs ∧ LabsAt L H xs as ∧ as.length ≤ 1000 ∧
  ∀ (D : Addr) (H' : Hp), Same H H' → H D = none → H' D = some (.lst ((Sh.mk as).map V.int)) → Q (.ref D) H'
def spAlike (K : PySem.W.Frag) : Sp := fun vs H Q _ => ∃ (a b : Addr) (ns ms : List Int), vs = [.ref a, .ref b] ∧ SqL K H a (ns.map V.int) ∧ SqL K H b (ms.map V.int) ∧ Sh.isSh ns = true ∧ Sh.isSh ms = true ∧ ns.length = ms.length ∧ Q .non H
def spMeet (K : PySem.W.Frag) : Sp := fun vs H Q _ => ∃ (a b : Addr) (ns ms : List Int), vs = [.ref a, .ref b] ∧ SqL K H a (ns.map V.int) ∧ SqL K H b (ms.map V.int) ∧ Sh.isSh ns = true ∧ Sh.isSh ms = true ∧ ns.length = ms.length ∧
  ∀ (D : Addr) (H' : Hp), Same H H' → H D = none → H' D = some (.lst ((Sh.mk (ns.zip ms)).map V.int)) → Q (.ref D) H'
def spFiner (K : PySem.W.Frag) : Sp := fun vs H Q _ => ∃ (a b : Addr) (ns ms : List Int), vs = [.ref a, .ref b] ∧ SqL K H a (ns.map V.int) ∧ SqL K H b (ms.map V.int) ∧ Sh.isSh ns = true ∧ Sh.isSh ms = true ∧ ns.length = ms.length ∧
  ∀ (H' : Hp), Same H H' → Q (.bl (decide (Sh.mk (ns.zip ms) = ns))) H'
def spCell (K : PySem.W.Frag) : Sp := fun vs H Q _ => ∃ (a : Addr) (ns : List Int) (k : Int), vs = [.ref a, .int k] ∧ SqL K H a (ns.map V.int) ∧ 0 ≤ k ∧ Q (.int (Sh.cell ns k)) H
def spLMarks (K : PySem.W.Frag) : Sp := fun vs H Q _ => ∃ (a : Addr) (ns : List Int) (k n : Int), vs = [.ref a, .int k, .int n] ∧ SqL K H a (ns.map V.int) ∧ 0 ≤ k ∧ 0 ≤ n ∧ n ≤ 100 ∧
  ∀ (D : Addr) (ms : List Int) (H' : Hp), Same H H' → H D = none → Sh.Can ms → (ms.length : Int) = n → H' D = some (.lst (ms.map V.int)) → Q (.ref D) H'
def spLFiner (K : PySem.W.Frag) : Sp := fun vs H Q _ => ∃ (a b : Addr) (ns ms : List Int), vs = [.ref a, .ref b] ∧ SqL K H a (ns.map V.int) ∧ SqL K H b (ms.map V.int) ∧ ns.length = ms.length ∧ ns.length ≤ 1000 ∧ Q (.bl (Sh.finB ns ms)) H
def spLaw (K : PySem.W.Frag) : Sp := fun vs H Q _ => ∃ (a : Addr) (ns : List Int), vs = [.ref a] ∧ SqL K H a (ns.map V.int) ∧ ns.length ≤ 63 ∧ ∀ H', Q (.bl true) H'
def spMany (K : PySem.W.Frag) : Sp := fun vs H Q _ => ∃ n : Int, vs = [.int n] ∧ Q (.bl (decide (1 ≤ n ∧ n ≤ 12))) H
section
variable {P : Program} {w : World} {K : PySem.W.Frag} {mg : Str → Option Value} {base : Heap}
theorem scMany : FnScope ["number"] ["number"] (defScope sMany) := ⟨rfl, rfl, rfl, by decide +kernel, rfl, by decide +kernel, by decide +kernel⟩
theorem ok_many {f : Addr} {fd : FuncData} (F : Fun K "is_many_things" "is_many_things" sMany f fd) {tk : Tok} (mt : mg "MOST_THINGS" = some (.int 12 tk)) : FnOk P w K mg base CX0 1 f fd ["number"] (spMany K) := by
  refine F.ok scMany (fun vs H Q E h => ?_) (fun cdv A outer s H vs Q E hr h => ?_)
  · obtain ⟨n, rfl, _⟩ := h
    rfl
  obtain ⟨n, rfl, q⟩ := h
  refine ⟨_, pss_one (ps_ret (pe_and (pe_cmpR op_ge (pv 0) pe_int (nomark _)) (pe_one (pe_cmpR op_le (pv 0) (pe_glob (v := .int 12) rfl mt ⟨_, rfl⟩) (nomark _))))), ?_⟩
  refine ⟨_, rfl, _, _, rfl, rfl, _, rfl, ?_⟩
  refine ite2 (fun c => ?_) (fun c => ?_)
  · have c' := of_decide_eq_true c
    refine ⟨_, rfl, _, _, rfl, rfl, ?_⟩
    have e : decide (n ≤ 12) = decide (1 ≤ n ∧ n ≤ 12) := by
      by_cases h : n ≤ 12
      · rw [decide_eq_true h, decide_eq_true ⟨by omega, h⟩]
      · rw [decide_eq_false h, decide_eq_false (fun z => h z.2)]
    show Q (.bl (decide (n ≤ 12))) H
    rw [e]
    exact q
  · have c' : ¬ (1 ≤ n) := fun z => c (decide_eq_true z)
    rw [decide_eq_false (fun z => c' z.1)] at q
    exact q
end
section
variable {P : Program} {w : World} {K : PySem.W.Frag} {mg : Str → Option Value} {base : Heap}
theorem scIs : FnScope ["one", "shares_ahead", "mark"] ["one"] (defScope sIs) := ⟨rfl, rfl, rfl, by decide +kernel, rfl, by decide +kernel, by decide +kernel⟩
theorem ok_is {f : Addr} {fd : FuncData} (F : Fun K "is_sharing" "is_sharing" sIs f fd) (GY : Fn P w K mg base "is_many_things" ["number"] 1 (spMany K)) (ml : mg "len" = none) : FnOk P w K mg base CX0 2 f fd ["one"] (spIs K) := by
  refine F.ok scIs (fun vs H Q E h => ?_) (fun cdv A outer s H vs Q E hr h => ?_)
  · obtain ⟨a, ns, rfl, _⟩ := h
    rfl
  obtain ⟨a, ns, rfl, hS, q⟩ := h
  refine ⟨_, pss_cons (ps_if (pt_not (pt_val (pe_fn GY hr (pa_cons (pe_callB call_len_seq rfl ml PySem.boot_len (pa_cons (pv 0) pa_nil)) pa_nil)))) (pss_one (ps_ret pe_bl)) pss_nil)
    (pss_cons (ps_set (i := 1) scIs.nd rfl (Or.inl rfl) pe_int)
    (pss_cons (ps_for PassesOwn.never rfl (pi_list (pv 0)) (pg_name (i := 2) scIs.nd rfl (Or.inl rfl))
      (pss_cons (ps_if (PW.pt (pw_or (pt_cmpR op_lt (pv 2) pe_int (nomark _)) (pw_or1 (pt_cmpR op_gt (pv 2) (pv 1) (nomark _))))) (pss_one (ps_ret pe_bl)) pss_nil)
      (pss_one (ps_if (pt_cmpR op_eq (pv 2) (pv 1) (nomark _)) (pss_one (ps_aug (i := 1) scIs.nd rfl (Or.inl rfl) pe_int ip_add)) pss_nil))))
    (pss_one (ps_ret pe_bl)))), ?_⟩
  have ll : (((ns.map V.int).length : Nat) : Int) = (ns.length : Int) := by rw [List.length_map]
  refine ⟨_, rfl, a, _, rfl, .inl hS, _, rfl, _, rfl, ?_⟩
  rw [ll]
  refine ite2 (fun c => ?_) (fun c => ?_)
  · have c' : ¬ (1 ≤ (ns.length : Int) ∧ (ns.length : Int) ≤ 12) := fun z => by rw [decide_eq_true z] at c; exact absurd c (by decide)
    have e : Sh.isSh ns = false := by
      unfold Sh.isSh
      rw [decide_eq_false (by omega), Bool.false_and]
    rw [e] at q
    exact q
  have c1 : 1 ≤ (ns.length : Int) ∧ (ns.length : Int) ≤ 12 := Classical.byContradiction fun z => c (by rw [decide_eq_false z]; rfl)
  have e0 : Sh.isSh ns = Sh.goodB 0 ns := by
    unfold Sh.isSh
    rw [decide_eq_true (by omega), Bool.true_and]
  rw [e0] at q
  refine ⟨_, rfl, a, rfl, ⟨_, hS⟩, for_list (K := K) (a := a) (xs := ns.map V.int) (fun i σ H2 => ∃ (fr : Int) (v : Option V), σ = [some (.ref a), some (.int fr), v] ∧ H2 = H ∧ Sh.goodB 0 ns = Sh.goodB fr (ns.drop i)) ⟨0, none, rfl, rfl, rfl⟩ (fun i σ H2 _ ⟨_, _, _, e, _⟩ => by rw [e]; exact hS) ?_ ?_⟩
  · rintro i x σ H2 hi ⟨fr, v, rfl, rfl, e⟩
    obtain ⟨z, hz, rfl⟩ := ints_get hi
    have hil : i < ns.length := (List.getElem?_eq_some_iff.mp hz).1
    have hd : ns.drop i = z :: ns.drop (i + 1) := by
      rw [List.drop_eq_getElem_cons hil]
      rw [List.getElem?_eq_getElem hil] at hz
      rw [Option.some.inj hz]
    rw [hd] at e
    rw [Sh.goodB_cons] at e
    refine ⟨_, rfl, _, _, rfl, rfl, _, rfl, ?_⟩
    refine ite2 (fun c => ?_) (fun c => ?_)
    · have c' := of_decide_eq_true c
      rw [if_pos (.inl c')] at e
      rw [e] at q
      exact iteT q
    have c1 : ¬ z < 0 := fun y => c (decide_eq_true y)
    refine ⟨_, rfl, _, rfl, _, _, rfl, rfl, _, rfl, ?_⟩
    refine ite2 (fun c => ?_) (fun c => ?_)
    · have c' := of_decide_eq_true c
      rw [if_pos (.inr c')] at e
      rw [e] at q
      exact q
    have c2 : ¬ fr < z := fun y => c (decide_eq_true y)
    rw [if_neg (by omega)] at e
    refine ⟨_, rfl, _, rfl, rfl, _, rfl, ?_⟩
    refine ite2 (fun c => ?_) (fun c => ?_)
    · have c' : z = fr := by
        have := of_decide_eq_true c
        injection this
      refine ⟨_, rfl, _, _, rfl, rfl, fr + 1, _, rfl, rfl, ?_⟩
      rw [if_pos c'] at e
      exact e
    · have c' : ¬ z = fr := fun y => c (decide_eq_true (by rw [y]))
      rw [if_neg c'] at e
      exact ⟨fr, _, rfl, rfl, e⟩
  · rintro σ H2 ⟨fr, v, rfl, rfl, e⟩
    rw [List.length_map, List.drop_length] at e
    have e' : Sh.goodB 0 ns = true := e
    rw [e'] at q
    exact q
end
section
variable {P : Program} {w : World} {K : PySem.W.Frag} {mg : Str → Option Value} {base : Heap}
theorem scAsk : FnScope ["one"] ["one"] (defScope sAsk) := ⟨rfl, rfl, rfl, by decide +kernel, rfl, by decide +kernel, by decide +kernel⟩
theorem ok_ask {f : Addr} {fd : FuncData} (F : Fun K "ask_sharing" "ask_sharing" sAsk f fd) (G : Fn P w K mg base "is_sharing" ["one"] 2 (spIs K)) : FnOk P w K mg base CX0 3 f fd ["one"] (spAsk K) := by
  refine F.ok scAsk (fun vs H Q E h => ?_) (fun cdv A outer s H vs Q E hr h => ?_)
  · obtain ⟨a, ns, rfl, _⟩ := h
    rfl
  obtain ⟨a, ns, rfl, hS, hg, q⟩ := h
  refine ⟨_, pss_one (ps_if (pt_not (pt_val (pe_fn G hr (pa_cons (pv 0) pa_nil)))) pss_never pss_nil), ?_⟩
  refine ⟨_, rfl, a, ns, rfl, hS, _, rfl, ?_⟩
  rw [hg]
  exact iteF q
theorem scMarked : FnScope ["labels", "marks_given", "marks", "label"] ["labels"] (defScope sMarked) := ⟨rfl, rfl, rfl, by decide +kernel, rfl, by decide +kernel, by decide +kernel⟩
theorem ok_marked {α : Type} [DecidableEq α] (D : DLab K α) {f : Addr} {fd : FuncData} (F : Fun K "marked" "marked" sMarked f fd) (ml : mg "len" = none) : FnOk P w K mg base CX0 1 f fd ["labels"] (spMarked D.L) := by
  refine F.ok scMarked (fun vs H Q E h => ?_) (fun cdv A outer s H vs Q E hr h => ?_)
  · obtain ⟨a, xs, as, rfl, _⟩ := h
    rfl
  obtain ⟨a, xs, as, rfl, hS, hL, hz, q⟩ := h
  have hu := hu_of hr
  refine ⟨_, pss_cons (ps_set (i := 1) scMarked.nd rfl (Or.inl rfl) D.newD)
    (pss_cons (ps_set (i := 2) scMarked.nd rfl (Or.inl rfl) (pe_lst pa_nil))
    (pss_cons (ps_for PassesOwn.never rfl (pi_list (pv 0)) (pg_name (i := 3) scMarked.nd rfl (Or.inl rfl))
      (pss_one (ps_expr (pe_bm PySem.F.plainAttrs_list PySem.F.slot_list_append PySem.F.type_list_append mt_append (pv 2)
        (pa_cons (pe_bm PySem.F.plainAttrs_dict PySem.F.slot_dict_setdefault PySem.F.type_dict_setdefault (mt_setdefault hu) (pv 1) (pa_cons (pv 3) (pa_cons (pe_callB call_lenDD rfl ml PySem.boot_len (pa_cons (pv 1) pa_nil)) pa_nil))) pa_nil)))))
    (pss_one (ps_ret (pv 2))))), ?_⟩
  intro d hd
  refine ⟨(by show 0 ≤ sizeLine; decide), fun l hl => ?_⟩
  have ndl : d ≠ l := fun e => by subst e; rw [upd_same] at hl; cases hl
  have hl0 : H l = none := by rw [upd_ne ndl.symm] at hl; exact hl
  have s0 : Same H (upd (upd H d (D.dOf [])) l (.lst [])) := (same_upd hd _).upd2 hl0
  refine ⟨_, rfl, a, rfl, ⟨_, s0.seq hS⟩, for_list (K := K) (a := a) (xs := xs) (fun i σ H2 => ∃ (v : Option V), σ = [some (.ref a), some (.ref d), some (.ref l), v] ∧ Same H H2 ∧ H2 d = some (D.dOf (Sh.dd (as.take i))) ∧ H2 l = some (.lst ((Sh.mk (as.take i)).map V.int)))
    ⟨none, rfl, s0, by rw [upd_ne ndl, upd_same]; rfl, by rw [upd_same]; rfl⟩ (fun i σ H2 _ ⟨_, _, s2, _⟩ => s2.seq hS) ?_ ?_⟩
  · rintro i x σ H2 hi ⟨v, rfl, s2, h1, h2⟩
    have hil : i < xs.length := (List.getElem?_eq_some_iff.mp hi).1
    have hia : i < as.length := by rw [← hL.1]; exact hil
    have ea := List.getElem?_eq_getElem hia
    have rel := D.L.mono s2 (hL.2 i x _ hi ea)
    have et : as.take (i + 1) = as.take i ++ [as[i]] := by rw [List.take_add_one, ea]; rfl
    have lt : (as.take i).length ≤ 1000 := by rw [List.length_take]; omega
    have ldd : (Sh.dd (as.take i)).length ≤ 1000 := Nat.le_trans (Sh.length_dd_le _) lt
    refine ⟨_, rfl, .inl ⟨rfl, _, SqL.of h2⟩, _, rfl, ?_, _, rfl, _, rfl, d, _, rfl, D.lenD h1, ?_⟩
    · refine .inr (.inr (.inl ⟨rfl, ?_⟩))
      rcases D.lenD h1 with ⟨kvs, e, _⟩ | ⟨kvs, e, _⟩
      · exact .inl ⟨kvs, e⟩
      · exact .inr ⟨kvs, e⟩
    · refine D.setd h1 rel (Sh.nodup_dd _) (small1000 ldd) (fun hm => ?_) (fun hm => ?_)
      · refine ⟨l, _, _, rfl, rfl, h2, small1000 (by rw [List.length_map, Sh.length_mk]; exact lt), _, rfl, s2.upd2 hl0, ?_, ?_⟩
        · rw [upd_ne ndl, h1, et, Sh.dd_snoc, if_pos hm]
        · rw [upd_same, et]
          congr 2
          unfold Sh.mk
          rw [Sh.nm_snoc, if_pos hm, List.map_append, List.map_append]
          rfl
      · refine ⟨l, _, _, rfl, rfl, by rw [upd_ne ndl.symm]; exact h2, small1000 (by rw [List.length_map, Sh.length_mk]; exact lt), _, rfl, (s2.upd2 hd).upd2 hl0, ?_, ?_⟩
        · rw [upd_ne ndl, upd_same, et, Sh.dd_snoc, if_neg hm]
        · rw [upd_same, et]
          congr 2
          unfold Sh.mk
          rw [Sh.nm_snoc, if_neg hm, List.map_append, List.map_append]
          rfl
  · rintro σ H2 ⟨v, rfl, s2, h1, h2⟩
    rw [hL.1, List.take_length] at h2
    exact ⟨_, rfl, q l H2 s2 hl0 h2⟩
end
section
variable {P : Program} {w : World} {K : PySem.W.Frag} {mg : Str → Option Value} {base : Heap}
theorem scAlike : FnScope ["one", "other"] ["one", "other"] (defScope sAlike) := ⟨rfl, rfl, rfl, by decide +kernel, rfl, by decide +kernel, by decide +kernel⟩
theorem ok_alike {f : Addr} {fd : FuncData} (F : Fun K "ask_alike" "ask_alike" sAlike f fd) (G : Fn P w K mg base "ask_sharing" ["one"] 3 (spAsk K)) (ml : mg "len" = none) : FnOk P w K mg base CX0 4 f fd ["one", "other"] (spAlike K) := by
  refine F.ok scAlike (fun vs H Q E h => ?_) (fun cdv A outer s H vs Q E hr h => ?_)
  · obtain ⟨a, b, ns, ms, rfl, _⟩ := h
    rfl
  obtain ⟨a, b, ns, ms, rfl, hA, hB, gA, gB, hl, q⟩ := h
  refine ⟨_, pss_cons (ps_expr (pe_fn G hr (pa_cons (pv 0) pa_nil))) (pss_cons (ps_expr (pe_fn G hr (pa_cons (pv 1) pa_nil)))
    (pss_one (ps_if (pt_cmpR op_ne (pe_callB call_len_seq rfl ml PySem.boot_len (pa_cons (pv 0) pa_nil)) (pe_callB call_len_seq rfl ml PySem.boot_len (pa_cons (pv 1) pa_nil)) (nomark _)) pss_never pss_nil))), ?_⟩
  refine ⟨_, rfl, a, ns, rfl, hA, gA, _, rfl, b, ms, rfl, hB, gB, _, rfl, a, _, rfl, .inl hA, _, rfl, b, _, rfl, .inl hB, rfl, _, rfl, ?_⟩
  refine iteNS ?_ q
  rw [List.length_map, List.length_map, hl]
theorem scMeet : FnScope ["one", "other"] ["one", "other"] (defScope sMeet) := ⟨rfl, rfl, rfl, by decide +kernel, rfl, by decide +kernel, by decide +kernel⟩
theorem zip_get {ns ms : List Int} {j : Nat} {x y : V} (h1 : (ns.map V.int)[j]? = some x) (h2 : (ms.map V.int)[j]? = some y) : ∃ p, (ns.zip ms)[j]? = some p ∧ x = .int p.1 ∧ y = .int p.2 := by
  obtain ⟨z, e1, rfl⟩ := ints_get h1
  obtain ⟨u, e2, rfl⟩ := ints_get h2
  exact ⟨(z, u), by rw [List.getElem?_zip_eq_some]; exact ⟨e1, e2⟩, rfl, rfl⟩
theorem ok_meet {f : Addr} {fd : FuncData} (F : Fun K "meeting" "meeting" sMeet f fd) (GA : Fn P w K mg base "ask_alike" ["one", "other"] 4 (spAlike K)) (GM : Fn P w K mg base "marked" ["labels"] 1 (spMarked (labPair K)))
    (ml : mg "list" = none) (mz : mg "zip" = none) : FnOk P w K mg base CX0 5 f fd ["one", "other"] (spMeet K) := by
  refine F.ok scMeet (fun vs H Q E h => ?_) (fun cdv A outer s H vs Q E hr h => ?_)
  · obtain ⟨a, b, ns, ms, rfl, _⟩ := h
    rfl
  obtain ⟨a, b, ns, ms, rfl, hA, hB, gA, gB, hl, q⟩ := h
  refine ⟨_, pss_cons (ps_expr (pe_fn GA hr (pa_cons (pv 0) (pa_cons (pv 1) pa_nil))))
    (pss_one (ps_ret (pe_fn GM (hr.mono (by decide)) (pa_cons (pe_listzip rfl rfl ml rfl mz (pa_cons (pv 0) (pa_cons (pv 1) pa_nil))) pa_nil)))), ?_⟩
  have l12 := (Sh.isSh_can gA).2.2
  refine ⟨_, rfl, _, rfl, a, b, ns, ms, rfl, hA, hB, gA, gB, hl, ?_⟩
  refine ⟨_, rfl, _, rfl, a, b, _, _, rfl, hA, hB, fun D Ts H2 hD sm hd hlen hT => ?_⟩
  rw [List.length_map, List.length_map, ← hl, Nat.min_self] at hlen
  refine ⟨D, Ts.map V.ref, ns.zip ms, rfl, SqL.of hd, ⟨by rw [List.length_map, hlen, List.length_zip, ← hl, Nat.min_self], fun j x p e1 e2 => ?_⟩, by rw [List.length_zip]; omega, fun D' H3 sm' hD' hd' => ?_⟩
  · rw [List.getElem?_map] at e1
    cases eT : Ts[j]? with
    | none => rw [eT] at e1; cases e1
    | some T =>
      rw [eT] at e1
      cases e1
      obtain ⟨_, x', y', e3, e4, e5⟩ := hT j T eT
      obtain ⟨p', e6, rfl, rfl⟩ := zip_get e3 e4
      rw [e2] at e6
      cases e6
      exact ⟨T, rfl, e5⟩
  · exact q D' H3 (sm.trans sm') (sm.free hD') hd'
theorem scFiner : FnScope ["one", "other"] ["one", "other"] (defScope sFiner) := ⟨rfl, rfl, rfl, by decide +kernel, rfl, by decide +kernel, by decide +kernel⟩
theorem ok_finer {f : Addr} {fd : FuncData} (F : Fun K "is_finer" "is_finer" sFiner f fd) (G : Fn P w K mg base "meeting" ["one", "other"] 5 (spMeet K)) : FnOk P w K mg base CX0 6 f fd ["one", "other"] (spFiner K) := by
  refine F.ok scFiner (fun vs H Q E h => ?_) (fun cdv A outer s H vs Q E hr h => ?_)
  · obtain ⟨a, b, ns, ms, rfl, _⟩ := h
    rfl
  obtain ⟨a, b, ns, ms, rfl, hA, hB, gA, gB, hl, q⟩ := h
  have hu := hu_of hr
  refine ⟨_, pss_one (ps_ret (pe_cmpR (op_eqLI (Nat.lt_of_succ_lt hu)) (pe_fn G hr (pa_cons (pv 0) (pa_cons (pv 1) pa_nil))) (pv 0) (nomark _))), ?_⟩
  refine ⟨_, rfl, _, rfl, a, b, ns, ms, rfl, hA, hB, gA, gB, hl, fun D H' sm hD hd => ?_⟩
  exact ⟨_, rfl, D, a, _, ns, rfl, rfl, SqL.of hd, sm.seq hA, q H' sm⟩
end
section
variable {P : Program} {w : World} {K : PySem.W.Frag} {mg : Str → Option Value} {base : Heap}
theorem scCell : FnScope ["script", "k"] ["script", "k"] (defScope sCell) := ⟨rfl, rfl, rfl, by decide +kernel, rfl, by decide +kernel, by decide +kernel⟩
theorem ok_cell {f : Addr} {fd : FuncData} (F : Fun K "_law_cell_at" "_law_cell_at" sCell f fd) (ml : mg "len" = none) : FnOk P w K mg base CX0 1 f fd ["script", "k"] (spCell K) := by
  refine F.ok scCell (fun vs H Q E h => ?_) (fun cdv A outer s H vs Q E hr h => ?_)
  · obtain ⟨a, ns, k, rfl, _⟩ := h
    rfl
  obtain ⟨a, ns, k, rfl, hS, h0, q⟩ := h
  refine ⟨_, pss_cons (ps_if (pt_cmpR op_lt (pv 1) (pe_callB call_len_seq rfl ml PySem.boot_len (pa_cons (pv 0) pa_nil)) (nomark _)) (pss_one (ps_ret (pe_ix ix_list (pv 0) (pv 1) (fun _ _ => rfl)))) pss_nil) (pss_one (ps_ret pe_int)), ?_⟩
  refine ⟨_, rfl, _, rfl, a, _, rfl, .inl hS, _, _, rfl, rfl, _, rfl, ?_⟩
  refine ite2 (fun c => ?_) (fun c => ?_)
  · have c' := of_decide_eq_true c
    rw [List.length_map] at c'
    have hk : k.toNat < ns.length := by omega
    have ek : k = ((k.toNat : Nat) : Int) := by omega
    have ha : atI (ns.map V.int) k = some (.int (Sh.cell ns k)) := by
      have z : atI (ns.map V.int) ((k.toNat : Nat) : Int) = some (.int (Sh.cell ns k)) := atI_nat (by
        rw [List.getElem?_map, List.getElem?_eq_getElem hk]
        unfold Sh.cell
        rw [List.getD_eq_getElem?_getD, List.getElem?_eq_getElem hk]
        rfl)
      rw [← ek] at z
      exact z
    exact ⟨_, rfl, _, rfl, a, _, _, _, rfl, rfl, hS, ha, q⟩
  · have c' : ¬ k < (ns.length : Int) := fun z => c (by rw [List.length_map]; exact decide_eq_true z)
    have e : Sh.cell ns k = 0 := by
      unfold Sh.cell
      rw [List.getD_eq_getElem?_getD, List.getElem?_eq_none (by omega)]
      rfl
    rw [e] at q
    exact q
theorem scLM : FnScope ["script", "at", "things", "found", "free", "k", "cell", "mark"] ["script", "at", "things"] (defScope sLMarks) := ⟨rfl, rfl, rfl, by decide +kernel, rfl, by decide +kernel, by decide +kernel⟩
theorem ok_lmarks {f : Addr} {fd : FuncData} (F : Fun K "_law_marks" "_law_marks" sLMarks f fd) (G : Fn P w K mg base "_law_cell_at" ["script", "k"] 1 (spCell K)) (mr : mg "range" = none) (mm : mg "max" = none) : FnOk P w K mg base CX0 2 f fd ["script", "at", "things"] (spLMarks K) := by
  refine F.ok scLM (fun vs H Q E h => ?_) (fun cdv A outer s H vs Q E hr h => ?_)
  · obtain ⟨a, ns, k, n, rfl, _⟩ := h
    rfl
  obtain ⟨a, ns, k, n, rfl, hS, h0, hn0, hn, q⟩ := h
  refine ⟨_, pss_cons (ps_set (i := 3) scLM.nd rfl (Or.inl rfl) (pe_lst pa_nil))
    (pss_cons (ps_set (i := 4) scLM.nd rfl (Or.inl rfl) pe_int)
    (pss_cons (ps_for PassesOwn.never rfl (pi_range1 rfl mr (pa_cons (pv 2) pa_nil)) (pg_name (i := 5) scLM.nd rfl (Or.inl rfl))
      (pss_cons (ps_set (i := 6) scLM.nd rfl (Or.inl rfl) (pe_fn G hr (pa_cons (pv 0) (pa_cons (pe_op op_add (pv 1) (pv 5)) pa_nil))))
      (pss_cons (ps_set (i := 7) scLM.nd rfl (Or.inl rfl) (pe_ix ix_list (pe_lst (pa_cons (pe_op op_mod (pv 6) (pe_op op_add (pv 4) pe_int)) (pa_cons pe_int (pa_cons (pv 4) (pa_cons (pe_op op_mod (pe_op op_mod (pv 6) pe_int) (pe_op op_add (pv 4) pe_int)) pa_nil)))))
        (pe_op op_mod (pe_op op_fdiv (pv 6) pe_int) pe_int) (fun _ _ => rfl)))
      (pss_cons (ps_expr (pe_bm PySem.F.plainAttrs_list PySem.F.slot_list_append PySem.F.type_list_append mt_append (pv 3) (pa_cons (pv 7) pa_nil)))
      (pss_one (ps_set (i := 4) scLM.nd rfl (Or.inl rfl) (pe_callB (call_max2 rfl) rfl mm boot_max (pa_cons (pv 4) (pa_cons (pe_op op_add (pv 7) pe_int) pa_nil)))))))))
    (pss_one (ps_ret (pv 3))))), ?_⟩
  refine ⟨(by show 0 ≤ sizeLine; decide), fun l hl => ?_⟩
  have s0 : Same H (upd H l (.lst [])) := same_upd hl _
  refine ⟨_, rfl, n, rfl, by omega, by omega, for_range (lo := 0) (n := n.toNat) (fun i σ H2 => ∃ (ms : List Int) (v5 v6 v7 : Option V), σ = [some (.ref a), some (.int k), some (.int n), some (.ref l), some (.int (Sh.fr ms)), v5, v6, v7] ∧ Same H H2 ∧ Sh.Can ms ∧ ms.length = i ∧ H2 l = some (.lst (ms.map V.int)))
    ⟨[], none, none, none, rfl, s0, Sh.can_nil, rfl, upd_same⟩ ?_ ?_⟩
  · rintro i σ H2 hi ⟨ms, v5, v6, v7, rfl, s2, hc, hlen, hd⟩
    have hf := Sh.fr_nonneg ms
    refine ⟨_, rfl, _, rfl, _, rfl, _, _, rfl, rfl, a, ns, _, rfl, s2.seq hS, by omega, ?_⟩
    refine ⟨_, rfl, _, rfl, _, _, rfl, rfl, _, _, rfl, rfl, (by show (0 : Int) < Sh.fr ms + 1; omega), _, rfl, _, rfl, _, _, rfl, rfl, (by show (0 : Int) < 3; decide), _, rfl, _, _, rfl, rfl, _, _, rfl, rfl, (by show (0 : Int) < Sh.fr ms + 1; omega), (by show 4 ≤ sizeLine; decide), fun p hp => ?_⟩
    generalize hcell : Sh.cell ns (k + (0 + (i : Int))) = c
    refine ⟨_, rfl, _, _, rfl, rfl, ⟨by decide, by decide⟩, _, _, rfl, rfl, (by show (0 : Int) < 4; decide), ?_⟩
    have i1 := Int.emod_nonneg (c / 13) (by decide : (4 : Int) ≠ 0)
    have i2 := Int.emod_lt_of_pos (c / 13) (by decide : (0 : Int) < 4)
    obtain ⟨j, hj⟩ : ∃ j : Nat, c / 13 % 4 = (j : Int) := ⟨(c / 13 % 4).toNat, by omega⟩
    have hj4 : j < [c % (Sh.fr ms + 1), 0, Sh.fr ms, c % 3 % (Sh.fr ms + 1)].length := by show j < 4; omega
    have hx := List.getElem?_eq_getElem hj4
    obtain ⟨x1, x2⟩ := Sh.pick_ok hf hx
    generalize [c % (Sh.fr ms + 1), 0, Sh.fr ms, c % 3 % (Sh.fr ms + 1)][j] = x at hx x1 x2
    have nlp : l ≠ p := ne_of_none hd hp
    refine ⟨p, _, _, .int x, rfl, rfl, SqL.of upd_same, ?_, ?_⟩
    · rw [hj]
      refine atI_nat ?_
      have : (([c % (Sh.fr ms + 1), 0, Sh.fr ms, c % 3 % (Sh.fr ms + 1)] : List Int).map V.int)[j]? = some (.int x) := by rw [List.getElem?_map, hx]; rfl
      exact this
    refine ⟨_, rfl, .inl ⟨rfl, _, SqL.of (by rw [upd_ne nlp]; exact hd)⟩, _, rfl, l, _, _, rfl, rfl, (by rw [upd_ne nlp]; exact hd), small1000 (by rw [List.length_map]; omega), ?_⟩
    refine ⟨_, rfl, _, rfl, _, _, rfl, rfl, _, _, rfl, ?_⟩
    refine ⟨ms ++ [x], some (.int (0 + (i : Int))), some (.int c), some (.int x), ?_, (s2.upd2 (s2.free hp)).upd2 hl, Sh.can_snoc.mpr ⟨hc, x1, x2⟩, by rw [List.length_append, hlen]; rfl, by rw [upd_same, List.map_append]; rfl⟩
    have : (if x + 1 > Sh.fr ms then x + 1 else Sh.fr ms) = Sh.fr (ms ++ [x]) := by
      rw [Sh.fr_snoc]
      split <;> omega
    show [_, _, _, _, some (V.int (if x + 1 > Sh.fr ms then x + 1 else Sh.fr ms)), _, _, _] = _
    rw [this]
  · rintro σ H2 ⟨ms, v5, v6, v7, rfl, s2, hc, hlen, hd⟩
    exact ⟨_, rfl, q l ms H2 s2 hl hc (by omega) hd⟩
end
def LL (H : Hp) (as : List Addr) (cs : List (List Int)) : Prop := as.length = cs.length ∧ ∀ (k : Nat) (p : Addr) (c : List Int), as[k]? = some p → cs[k]? = some c → H p = some (.lst (c.map V.int))
theorem LL.mono {H H' : Hp} {as : List Addr} {cs : List (List Int)} (h : LL H as cs) (s : Same H H') : LL H' as cs := ⟨h.1, fun k p c e1 e2 => s _ _ (h.2 k p c e1 e2)⟩
theorem LL.snoc {H : Hp} {as : List Addr} {cs : List (List Int)} {p : Addr} {c : List Int} (h : LL H as cs) (hp : H p = some (.lst (c.map V.int))) : LL H (as ++ [p]) (cs ++ [c]) := by
  refine ⟨by rw [List.length_append, List.length_append, h.1]; rfl, fun k q d e1 e2 => ?_⟩
  by_cases hk : k < as.length
  · rw [List.getElem?_append_left hk] at e1
    rw [List.getElem?_append_left (by rw [← h.1]; exact hk)] at e2
    exact h.2 k q d e1 e2
  · have hk' : k < (as ++ [p]).length := (List.getElem?_eq_some_iff.mp e1).1
    have ek : k = as.length := by rw [List.length_append, List.length_singleton] at hk'; omega
    subst ek
    rw [List.getElem?_append_right (Nat.le_refl _), Nat.sub_self] at e1
    rw [h.1, List.getElem?_append_right (Nat.le_refl _), Nat.sub_self] at e2
    have e1' : p = q := by simpa using e1
    have e2' : c = d := by simpa using e2
    subst e1' e2'
    exact hp
def spShares (K : PySem.W.Frag) : Sp := fun vs H Q _ => ∃ (a : Addr) (ns : List Int), vs = [.ref a] ∧ SqL K H a (ns.map V.int) ∧ Sh.isSh ns = true ∧
  ∀ (D : Addr) (as : List Addr) (H' : Hp), Same H H' → H D = none → H' D = some (.lst (as.map V.ref)) → as.Nodup → ¬ D ∈ as → (∀ p, p ∈ as → H p = none) → LL H' as (Sh.shs ns) → Q (.ref D) H'
def spStep (K : PySem.W.Frag) : Sp := fun vs H Q _ => ∃ (a : Addr) (ns : List Int) (p q : Int), vs = [.ref a, .int p, .int q] ∧ SqL K H a (ns.map V.int) ∧ ns.length ≤ 1000 ∧
  ∀ (D : Addr) (H' : Hp), Same H H' → H D = none → H' D = some (.lst ((Sh.stp ns p q).map V.int)) → Q (.ref D) H'
def spClimb (K : PySem.W.Frag) : Sp := fun vs H Q _ => ∃ (a b : Addr) (ns ms : List Int), vs = [.ref a, .ref b] ∧ SqL K H a (ns.map V.int) ∧ SqL K H b (ms.map V.int) ∧ Sh.isSh ns = true ∧ Sh.isSh ms = true ∧ ns.length = ms.length ∧
  ∀ (D : Addr) (as : List Addr) (cs : List (List Int)) (z : List Int) (H' : Hp), Same H H' → H D = none → H' D = some (.lst (as.map V.ref)) → as.Nodup → ¬ D ∈ as → (∀ p, p ∈ as → H p = none) → LL H' as cs → Sh.Clm ns ms cs → cs[cs.length - 1]? = some z → Sh.Join ns ms z → Q (.ref D) H'
section
variable {P : Program} {w : World} {K : PySem.W.Frag} {mg : Str → Option Value} {base : Heap}
theorem nd_mark : (["mark"] : List Str).Nodup := by decide +kernel
theorem scShares : FnScope ["one", "shares", "thing", "mark"] ["one"] (defScope sShares) := ⟨rfl, rfl, rfl, by decide +kernel, rfl, by decide +kernel, by decide +kernel⟩
theorem ok_shares {f : Addr} {fd : FuncData} (F : Fun K "shares_of" "shares_of" sShares f fd) (G : Fn P w K mg base "ask_sharing" ["one"] 3 (spAsk K)) (mr : mg "range" = none) (mm : mg "max" = none) (me : mg "enumerate" = none) :
    FnOk P w K mg base CX0 4 f fd ["one"] (spShares K) := by
  refine F.ok scShares (fun vs H Q E h => ?_) (fun cdv A outer s H vs Q E hr h => ?_)
  · obtain ⟨a, ns, rfl, _⟩ := h
    rfl
  obtain ⟨a, ns, rfl, hS, hg, q⟩ := h
  obtain ⟨hcan, l1, l2⟩ := Sh.isSh_can hg
  have hne : ns ≠ [] := by intro e; rw [e] at l1; simp at l1
  refine ⟨_, pss_cons (ps_expr (pe_fn G hr (pa_cons (pv 0) pa_nil)))
    (pss_cons (ps_comp (k := 1) ["mark"] [none] rfl rfl scShares.nd rfl (Or.inl rfl) (pi_range1 rfl mr (pa_cons (pe_op op_add (pe_callB (call_maxL rfl) rfl mm boot_max (pa_cons (pv 0) pa_nil)) pe_int) pa_nil))
      (fun _ _ _ _ => pg_name (i := 0) nd_mark rfl (Or.inl rfl)) (fun _ _ _ _ => pts_nil) (fun _ _ _ _ => pe_lst pa_nil))
    (pss_cons (ps_for PassesOwn.never rfl (pi_enum rfl me (pa_cons (pv 0) pa_nil)) (pg_tup rfl (pgs_cons (pg_name (i := 2) scShares.nd rfl (Or.inl rfl)) (pgs_cons (pg_name (i := 3) scShares.nd rfl (Or.inl rfl)) pgs_nil)))
      (pss_one (ps_expr (pe_bm PySem.F.plainAttrs_list PySem.F.slot_list_append PySem.F.type_list_append mt_append (pe_ix ix_list (pv 1) (pv 3) (fun _ _ => rfl)) (pa_cons (pv 2) pa_nil)))))
    (pss_one (ps_ret (pv 1))))), ?_⟩
  refine ⟨_, rfl, a, ns, rfl, hS, hg, ?_⟩
  refine ⟨_, rfl, a, ns, rfl, hS, hne, fun M hM hle => ?_⟩
  have hM0 := Sh.can_nonneg hcan M hM
  have hfr := Sh.fr_max hM hle hM0
  have hfl : Sh.fr ns ≤ 12 := by
    have := (Sh.fr_mk ns).1
    rw [Sh.mk_can hcan] at this
    have := Sh.length_dd_le ns
    omega
  refine ⟨_, _, rfl, rfl, _, rfl, by omega, by omega, comp_range (lo := 0) (n := (M + 1).toNat) (fun i ys τ H2 => ∃ (as : List Addr) (v : Option V), ys = as.map V.ref ∧ as.length = i ∧ as.Nodup ∧ τ = [v] ∧ Same H H2 ∧ ∀ p, p ∈ as → H p = none ∧ H2 p = some (.lst []))
    ⟨[], none, rfl, rfl, List.nodup_nil, rfl, Same.refl _, fun p h => by simp at h⟩ ?_ ?_ ?_⟩
  · rintro i ys τ H2 hi ⟨as, v, rfl, hl, _⟩
    exact small1000 (by rw [List.length_map]; omega)
  · rintro i ys τ H2 hi ⟨as, v, rfl, hl, nd, rfl, s2, hp⟩
    refine ⟨(by show 0 ≤ sizeLine; decide), fun p hpn => ?_⟩
    refine ⟨as ++ [p], _, by rw [List.map_append]; rfl, by rw [List.length_append, hl]; rfl, ?_, rfl, s2.upd2 (s2.free hpn), fun r hr' => ?_⟩
    · rw [List.nodup_append]
      refine ⟨nd, by simp, fun x hx y hy => ?_⟩
      rw [List.mem_singleton] at hy
      subst hy
      exact ne_of_none (hp x hx).2 hpn
    · rcases List.mem_append.mp hr' with h | h
      · refine ⟨(hp r h).1, ?_⟩
        rw [upd_ne (ne_of_none (hp r h).2 hpn)]
        exact (hp r h).2
      · rw [List.mem_singleton] at h
        subst h
        exact ⟨s2.free hpn, upd_same⟩
  · rintro ys τ H2 ⟨as, v, rfl, hl, nd, rfl, s2, hp⟩ D hD
    have hDas : ¬ D ∈ as := fun z => by have := (hp D z).2; rw [hD] at this; cases this
    have s3 : Same H (upd H2 D (.lst (as.map V.ref))) := s2.upd2 (s2.free hD)
    refine ⟨_, rfl, a, rfl, ⟨_, s3.seq hS⟩, for_enum (K := K) (a := a) (xs := ns.map V.int) (fun i σ H3 => ∃ v2 v3, σ = [some (.ref a), some (.ref D), v2, v3] ∧ Same H H3 ∧ H3 D = some (.lst (as.map V.ref)) ∧ ∀ (k : Nat) (p : Addr), as[k]? = some p → H3 p = some (.lst ((Sh.sh1 ns i (k : Int)).map V.int)))
      ⟨none, none, rfl, s3, upd_same, fun k p e => ?_⟩ (fun i σ H3 _ ⟨_, _, _, s4, _⟩ => s4.seq hS) ?_ ?_⟩
    · rw [upd_ne (fun (z : p = D) => hDas (by rw [← z]; exact List.mem_of_getElem? e))]
      exact (hp p (List.mem_of_getElem? e)).2
    · rintro i x σ H3 t hi ht ⟨v2, v3, rfl, s4, d4, l4⟩
      obtain ⟨z, hz, rfl⟩ := ints_get hi
      have z0 := Sh.can_nonneg hcan z (List.mem_of_getElem? hz)
      have z1 := Sh.lt_fr z (List.mem_of_getElem? hz)
      have ez : z = ((z.toNat : Nat) : Int) := by omega
      have hzl : z.toNat < as.length := by omega
      have e0 := List.getElem?_eq_getElem hzl
      have hla := l4 _ _ e0
      have nDt : D ≠ t := ne_of_none d4 ht
      have nat : as[z.toNat] ≠ t := ne_of_none hla ht
      refine ⟨t, _, rfl, SqT.of upd_same, rfl, _, _, rfl, _, _, rfl, rfl, ?_⟩
      refine ⟨_, rfl, _, rfl, D, as.map V.ref, z, .ref as[z.toNat], rfl, rfl, SqL.of (by rw [upd_ne nDt]; exact d4), ?_, .inl ⟨rfl, _, SqL.of (by rw [upd_ne nat]; exact hla)⟩, _, rfl, as[z.toNat], _, _, rfl, rfl, (by rw [upd_ne nat]; exact hla), small1000 ?_, ?_⟩
      · have q1 : atI (as.map V.ref) ((z.toNat : Nat) : Int) = some (.ref as[z.toNat]) := atI_nat (by rw [List.getElem?_map, e0]; rfl)
        rw [← ez] at q1
        exact q1
      · rw [List.length_map]
        unfold Sh.sh1
        rw [List.length_map]
        have := List.length_filter_le (fun t => decide (ns[t]? = some ((z.toNat : Nat) : Int))) (List.range i)
        rw [List.length_range] at this
        have : i < ns.length := (List.getElem?_eq_some_iff.mp hz).1
        omega
      · have hH : H as[z.toNat] = none := (hp _ (List.getElem_mem hzl)).1
        refine ⟨_, _, rfl, (s4.upd2 (s4.free ht)).upd2 hH, ?_, fun k p e => ?_⟩
        · rw [upd_ne (fun (e : D = as[z.toNat]) => hDas (by rw [e]; exact List.getElem_mem hzl)), upd_ne nDt]
          exact d4
        · rw [Sh.sh1_succ]
          by_cases ek : k = z.toNat
          · subst ek
            rw [e0] at e
            cases e
            rw [upd_same, ← ez, if_pos hz, List.map_append]
            rfl
          · have np : p ≠ as[z.toNat] := fun e' => by
              subst e'
              obtain ⟨hk1, hk2⟩ := List.getElem?_eq_some_iff.mp e
              exact ek ((List.getElem_inj nd).mp hk2)
            have hk := l4 k p e
            rw [upd_ne np, upd_ne (ne_of_none hk ht), if_neg (fun e' => ek (by rw [hz] at e'; have := Option.some.inj e'; omega)), List.append_nil]
            exact hk
    · rintro σ H3 ⟨v2, v3, rfl, s4, d4, l4⟩
      rw [List.length_map] at l4
      refine ⟨_, rfl, q D as H3 s4 (s2.free hD) d4 nd hDas (fun p h => (hp p h).1) ⟨by rw [Sh.shs_len]; omega, fun k p c e1 e2 => ?_⟩⟩
      have hk : k < (Sh.fr ns).toNat := by
        have := (List.getElem?_eq_some_iff.mp e1).1
        omega
      rw [Sh.shs_get hk] at e2
      rw [← Option.some.inj e2]
      exact l4 k p e1
theorem nd_mgk : (["mark", "gone", "kept"] : List Str).Nodup := by decide +kernel
theorem scStep : FnScope ["marks", "kept", "gone"] ["marks", "kept", "gone"] (defScope sStep) := ⟨rfl, rfl, rfl, by decide +kernel, rfl, by decide +kernel, by decide +kernel⟩
theorem ok_step {f : Addr} {fd : FuncData} (F : Fun K "stepped" "stepped" sStep f fd) (G : Fn P w K mg base "marked" ["labels"] 1 (spMarked (labInt K))) : FnOk P w K mg base CX0 2 f fd ["marks", "kept", "gone"] (spStep K) := by
  refine F.ok scStep (fun vs H Q E h => ?_) (fun cdv A outer s H vs Q E hr h => ?_)
  · obtain ⟨a, ns, p, q, rfl, _⟩ := h
    rfl
  obtain ⟨a, ns, p, q, rfl, hS, hl, k⟩ := h
  refine ⟨_, pss_one (ps_ret (pe_fn G hr (pa_cons (pe_comp ["mark", "gone", "kept"] [none, some 2, some 1] rfl rfl (pi_list (pv 0)) (fun _ _ _ _ => pg_name (i := 0) nd_mgk rfl (Or.inl rfl)) (fun _ _ _ _ => pts_nil)
    (fun _ _ _ _ => pe_ifExp (pt_cmpR op_eq (pv 0) (pv 1) (nomark _)) (pv 2) (pv 0))) pa_nil))), ?_⟩
  refine ⟨_, rfl, a, rfl, ⟨_, hS⟩, comp_list (K := K) (a := a) (xs := ns.map V.int) (fun i zs τ H2 => ∃ v, τ = [v, some (.int q), some (.int p)] ∧ H2 = H ∧ zs = ((ns.take i).map (Sh.sub p q)).map V.int) ⟨none, rfl, rfl, rfl⟩ ?_ ?_ ?_⟩
  · rintro i zs τ H2 hi ⟨v, rfl, rfl, rfl⟩
    exact ⟨hS, small1000 (by rw [List.length_map, List.length_map, List.length_take]; omega)⟩
  · rintro i x zs τ H2 hi ⟨v, rfl, rfl, rfl⟩
    obtain ⟨z, hz, rfl⟩ := ints_get hi
    have fin : ((ns.take i).map (Sh.sub p q)).map V.int ++ [V.int (Sh.sub p q z)] = ((ns.take (i + 1)).map (Sh.sub p q)).map V.int := by
      rw [List.take_add_one, hz, List.map_append, List.map_append]
      rfl
    refine ⟨_, rfl, _, rfl, rfl, _, rfl, ?_⟩
    refine ite2 (fun c => ?_) (fun c => ?_)
    · have c' : z = q := by
        have := of_decide_eq_true c
        injection this
      have e : Sh.sub p q z = p := if_pos c'
      rw [e] at fin
      exact ⟨_, rfl, _, rfl, rfl, fin⟩
    · have c' : ¬ z = q := fun e => c (by rw [e]; simp)
      have e : Sh.sub p q z = z := if_neg c'
      rw [e] at fin
      exact ⟨_, rfl, _, rfl, rfl, fin⟩
  · rintro zs τ H2 ⟨v, rfl, rfl, rfl⟩ D hD
    rw [List.length_map, List.take_length]
    have s1 := same_upd hD (.lst ((ns.map (Sh.sub p q)).map V.int))
    refine ⟨D, _, ns.map (Sh.sub p q), rfl, SqL.of upd_same, labs_int _, by rw [List.length_map]; exact hl, fun D' H3 s3 f3 d3 => ?_⟩
    exact k D' H3 (s1.trans s3) (s1.free f3) d3
end
section
variable {P : Program} {w : World} {K : PySem.W.Frag} {mg : Str → Option Value} {base : Heap}
theorem scNamed : FnScope ["names", "seen", "name"] ["names"] (defScope sNamed) := ⟨rfl, rfl, rfl, by decide +kernel, rfl, by decide +kernel, by decide +kernel⟩
theorem nd_ns : (["name", "seen"] : List Str).Nodup := by decide +kernel
theorem ok_named {α : Type} [DecidableEq α] (L : Lab K α) {f : Addr} {fd : FuncData} (F : Fun K "_law_named" "_law_named" sNamed f fd) : FnOk P w K mg base CX0 1 f fd ["names"] (spMarked L) := by
  refine F.ok scNamed (fun vs H Q E h => ?_) (fun cdv A outer s H vs Q E hr h => ?_)
  · obtain ⟨a, xs, as, rfl, _⟩ := h
    rfl
  obtain ⟨a, xs, as, rfl, hS, hL, hz, q⟩ := h
  have hu := hu_of hr
  refine ⟨_, pss_cons (ps_set (i := 1) scNamed.nd rfl (Or.inr rfl) (pe_lst pa_nil))
    (pss_cons (ps_for PassesOwn.never rfl (pi_list (pv 0)) (pg_name (i := 2) scNamed.nd rfl (Or.inl rfl))
      (pss_one (ps_if (pt_cmpR (op_notInLab L hu) (pv 2) (pv 1) rfl) (pss_one (ps_expr (pe_bm PySem.F.plainAttrs_list PySem.F.slot_list_append PySem.F.type_list_append mt_append (pv 1) (pa_cons (pv 2) pa_nil)))) pss_nil)))
    (pss_one (ps_ret (pe_comp ["name", "seen"] [none, some 1] rfl rfl (pi_list (pv 0)) (fun _ _ _ _ => pg_name (i := 0) nd_ns rfl (Or.inl rfl)) (fun _ _ _ _ => pts_nil)
      (fun _ _ _ _ => pe_bmK (K := K) PySem.F.plainAttrs_list PySem.F.slot_list_index PySem.F.type_list_index (mt_index L hu) (pv 1) (pa_cons (pv 0) pa_nil)))))), ?_⟩
  refine ⟨(by show 0 ≤ sizeLine; decide), fun l hl => ?_⟩
  have s0 : Same H (upd H l (.lst [])) := same_upd hl _
  refine ⟨_, rfl, a, rfl, ⟨_, s0.seq hS⟩, for_list (K := K) (a := a) (xs := xs) (fun i σ H2 => ∃ (v : Option V) (ys : List V), σ = [some (.ref a), some (.ref l), v] ∧ Same H H2 ∧ H2 l = some (.lst ys) ∧ LabsAt L H ys (Sh.dd (as.take i)))
    ⟨none, [], rfl, s0, upd_same, rfl, fun j x b e => by simp at e⟩ (fun i σ H2 _ ⟨_, _, _, s2, _⟩ => s2.seq hS) ?_ ?_⟩
  · rintro i x σ H2 hi ⟨v, ys, rfl, s2, h1, h2⟩
    have hil : i < xs.length := (List.getElem?_eq_some_iff.mp hi).1
    have hia : i < as.length := by rw [← hL.1]; exact hil
    have ea := List.getElem?_eq_getElem hia
    have rel := L.mono s2 (hL.2 i x _ hi ea)
    have et : as.take (i + 1) = as.take i ++ [as[i]] := by rw [List.take_add_one, ea]; rfl
    have lt : (as.take i).length ≤ 1000 := by rw [List.length_take]; omega
    have ldd : (Sh.dd (as.take i)).length ≤ 1000 := Nat.le_trans (Sh.length_dd_le _) lt
    refine ⟨_, rfl, _, rfl, l, ys, _, _, rfl, SqL.of h1, h2.mono s2, rel, _, rfl, ?_⟩
    refine ite2 (fun c => ?_) (fun c => ?_)
    · have c' : ¬ as[i] ∈ Sh.dd (as.take i) := by simpa using c
      refine ⟨_, rfl, .inl ⟨rfl, _, SqL.of h1⟩, _, rfl, l, ys, x, rfl, rfl, h1, small1000 (by rw [h2.1]; exact ldd), ?_⟩
      refine ⟨_, ys ++ [x], rfl, s2.upd2 hl, upd_same, ?_⟩
      rw [et, Sh.dd_snoc, if_neg c']
      exact h2.snoc (hL.2 i x _ hi ea)
    · have c' : as[i] ∈ Sh.dd (as.take i) := by simpa using c
      refine ⟨_, ys, rfl, s2, h1, ?_⟩
      rw [et, Sh.dd_snoc, if_pos c']
      exact h2
  · rintro σ H2 ⟨v, ys, rfl, s2, h1, h2⟩
    rw [hL.1, List.take_length] at h2
    refine ⟨_, rfl, a, rfl, ⟨_, s2.seq hS⟩, comp_list (K := K) (a := a) (xs := xs) (fun i zs τ H3 => ∃ v, τ = [v, some (.ref l)] ∧ H3 = H2 ∧ zs = (((as.take i).map fun x => (((Sh.dd as).idxOf x : Nat) : Int)).map V.int)) ⟨none, rfl, rfl, rfl⟩ ?_ ?_ ?_⟩
    · rintro i zs τ H3 hi ⟨v, rfl, rfl, rfl⟩
      refine ⟨s2.seq hS, small1000 ?_⟩
      rw [List.length_map, List.length_map, List.length_take]
      omega
    · rintro i x zs τ H3 hi ⟨v, rfl, rfl, rfl⟩
      have hil : i < xs.length := (List.getElem?_eq_some_iff.mp hi).1
      have hia : i < as.length := by rw [← hL.1]; exact hil
      have ea := List.getElem?_eq_getElem hia
      have rel := L.mono s2 (hL.2 i x _ hi ea)
      refine ⟨_, rfl, .inl ⟨rfl, _, SqL.of h1⟩, _, rfl, l, ys, Sh.dd as, as[i], x, rfl, rfl, SqL.of h1, h2.mono s2, rel, Sh.mem_dd.mpr (List.getElem_mem hia), _, rfl, rfl, ?_⟩
      rw [List.take_add_one, ea, Option.toList_some, List.map_append, List.map_append]
      rfl
    · rintro zs τ H3 ⟨v, rfl, rfl, rfl⟩ D hD
      refine q D _ (s2.upd2 (s2.free hD)) (s2.free hD) ?_
      have e : (as.map fun x => (((Sh.dd as).idxOf x : Nat) : Int)) = Sh.mk as := by
        unfold Sh.mk Sh.nm
        rw [List.map_map]
        rfl
      rw [upd_same, hL.1, List.take_length, e]
end
section
variable {P : Program} {w : World} {K : PySem.W.Frag} {mg : Str → Option Value} {base : Heap}
theorem scLF : FnScope ["one", "other", "i", "j"] ["one", "other"] (defScope sLFiner) := ⟨rfl, rfl, rfl, by decide +kernel, rfl, by decide +kernel, by decide +kernel⟩
theorem at0 {ns : List Int} {i : Nat} (h : i < ns.length) : atI (ns.map V.int) (0 + (i : Int)) = some (.int ns[i]) := by
  rw [Int.zero_add]
  exact atI_nat (by rw [List.getElem?_map, List.getElem?_eq_getElem h]; rfl)
theorem ok_lfiner {f : Addr} {fd : FuncData} (F : Fun K "_law_finer" "_law_finer" sLFiner f fd) (ml : mg "len" = none) (mr : mg "range" = none) : FnOk P w K mg base CX0 1 f fd ["one", "other"] (spLFiner K) := by
  refine F.ok scLF (fun vs H Q E h => ?_) (fun cdv A outer s H vs Q E hr h => ?_)
  · obtain ⟨a, b, ns, ms, rfl, _⟩ := h
    rfl
  obtain ⟨a, b, ns, ms, rfl, hA, hB, hl, hz, q⟩ := h
  refine ⟨_, pss_cons (ps_for PassesOwn.never rfl (pi_range1 rfl mr (pa_cons (pe_callB call_len_seq rfl ml PySem.boot_len (pa_cons (pv 0) pa_nil)) pa_nil)) (pg_name (i := 2) scLF.nd rfl (Or.inl rfl))
      (pss_one (ps_for PassesOwn.never rfl (pi_range1 rfl mr (pa_cons (pv 2) pa_nil)) (pg_name (i := 3) scLF.nd rfl (Or.inl rfl))
        (pss_one (ps_if (PW.pt (pw_and (pt_cmpR op_eq (pe_ix ix_list (pv 0) (pv 2) (fun _ _ => rfl)) (pe_ix ix_list (pv 0) (pv 3) (fun _ _ => rfl)) (nomark _))
          (pw_and1 (pt_cmpR op_ne (pe_ix ix_list (pv 1) (pv 2) (fun _ _ => rfl)) (pe_ix ix_list (pv 1) (pv 3) (fun _ _ => rfl)) (nomark _))))) (pss_one (ps_ret pe_bl)) pss_nil)))))
    (pss_one (ps_ret pe_bl)), ?_⟩
  refine ⟨_, rfl, a, _, rfl, .inl hA, _, rfl, by rw [List.length_map]; omega, by rw [List.length_map]; omega, ?_⟩
  rw [List.length_map, Int.toNat_natCast]
  refine for_range (lo := 0) (n := ns.length) (fun i σ H2 => ∃ v2 v3, σ = [some (.ref a), some (.ref b), v2, v3] ∧ H2 = H ∧ ∀ i', i' < i → ∀ j, j < i' → ns[i']? = ns[j]? → ms[i']? = ms[j]?) ⟨none, none, rfl, rfl, fun i' h => absurd h (Nat.not_lt_zero _)⟩ ?_ ?_
  · rintro i σ H2 hi ⟨v2, v3, rfl, rfl, hok⟩
    refine ⟨_, rfl, _, rfl, by omega, by omega, ?_⟩
    have e0 : (0 + (i : Int)).toNat = i := by omega
    rw [e0]
    refine for_range (lo := 0) (n := i) (fun j σ H3 => ∃ v3, σ = [some (.ref a), some (.ref b), some (.int (0 + (i : Int))), v3] ∧ H3 = H2 ∧ ∀ j', j' < j → ns[i]? = ns[j']? → ms[i]? = ms[j']?) ⟨_, rfl, rfl, fun j' h => absurd h (Nat.not_lt_zero _)⟩ ?_ ?_
    · rintro j σ H3 hj ⟨v3, rfl, rfl, hok2⟩
      have hjn : j < ns.length := by omega
      refine ⟨_, rfl, _, rfl, a, _, _, _, rfl, rfl, hA, at0 hi, _, rfl, _, rfl, a, _, _, _, rfl, rfl, hA, at0 hjn, rfl, _, rfl, ?_⟩
      refine ite2 (fun c => ?_) (fun c => ?_)
      · have c' : ns[i] = ns[j] := by
          have := of_decide_eq_true c
          injection this
        refine ⟨_, rfl, _, rfl, b, _, _, _, rfl, rfl, hB, at0 (by omega), _, rfl, _, rfl, b, _, _, _, rfl, rfl, hB, at0 (by omega), rfl, _, rfl, ?_⟩
        refine ite2 (fun d => ?_) (fun d => ?_)
        · have d' : ¬ ms[i]'(by omega) = ms[j]'(by omega) := by
            intro e
            rw [e] at d
            simp at d
          have e : Sh.finB ns ms = false := by
            unfold Sh.finB
            refine decide_eq_false fun hall => d' ?_
            have := hall i hi j hj (by rw [List.getElem?_eq_getElem hi, List.getElem?_eq_getElem hjn, c'])
            rw [List.getElem?_eq_getElem (by omega), List.getElem?_eq_getElem (by omega)] at this
            exact Option.some.inj this
          rw [e] at q
          exact q
        · have d' : ms[i]'(by omega) = ms[j]'(by omega) := by
            by_cases e : ms[i]'(by omega) = ms[j]'(by omega)
            · exact e
            · exact absurd (by simp [e]) d
          refine ⟨_, rfl, rfl, fun j' hj' e => ?_⟩
          by_cases ej : j' = j
          · subst ej
            rw [List.getElem?_eq_getElem (by omega), List.getElem?_eq_getElem (by omega), d']
          · exact hok2 j' (by omega) e
      · have c' : ¬ ns[i] = ns[j] := fun e => c (by rw [e]; simp)
        refine iteF ?_
        refine ⟨_, rfl, rfl, fun j' hj' e => ?_⟩
        by_cases ej : j' = j
        · subst ej
          rw [List.getElem?_eq_getElem hi, List.getElem?_eq_getElem hjn] at e
          exact absurd (Option.some.inj e) c'
        · exact hok2 j' (by omega) e
    · rintro σ H3 ⟨v3, rfl, rfl, hok2⟩
      refine ⟨_, _, rfl, rfl, fun i' hi' j hj e => ?_⟩
      by_cases ei : i' = i
      · subst ei; exact hok2 j hj e
      · exact hok i' (by omega) j hj e
  · rintro σ H2 ⟨v2, v3, rfl, rfl, hok⟩
    have e : Sh.finB ns ms = true := by
      unfold Sh.finB
      exact decide_eq_true hok
    rw [e] at q
    exact q
end
def spLFinerT (K : PySem.W.Frag) : Sp := fun vs H Q _ => ∃ (a b : Addr) (ns ms : List Int), vs = [.ref a, .ref b] ∧ SqT K H a (ns.map V.int) ∧ SqL K H b (ms.map V.int) ∧ ns.length = ms.length ∧ ns.length ≤ 1000 ∧ Q (.bl (Sh.finB ns ms)) H
section
variable {P : Program} {w : World} {K : PySem.W.Frag} {mg : Str → Option Value} {base : Heap}
theorem ok_lfinerT {f : Addr} {fd : FuncData} (F : Fun K "_law_finer" "_law_finer" sLFiner f fd) (ml : mg "len" = none) (mr : mg "range" = none) : FnOk P w K mg base CX0 1 f fd ["one", "other"] (spLFinerT K) := by
  refine F.ok scLF (fun vs H Q E h => ?_) (fun cdv A outer s H vs Q E hr h => ?_)
  · obtain ⟨a, b, ns, ms, rfl, _⟩ := h
    rfl
  obtain ⟨a, b, ns, ms, rfl, hA, hB, hl, hz, q⟩ := h
  refine ⟨_, pss_cons (ps_for PassesOwn.never rfl (pi_range1 rfl mr (pa_cons (pe_callB call_len_seq rfl ml PySem.boot_len (pa_cons (pv 0) pa_nil)) pa_nil)) (pg_name (i := 2) scLF.nd rfl (Or.inl rfl))
      (pss_one (ps_for PassesOwn.never rfl (pi_range1 rfl mr (pa_cons (pv 2) pa_nil)) (pg_name (i := 3) scLF.nd rfl (Or.inl rfl))
        (pss_one (ps_if (PW.pt (pw_and (pt_cmpR op_eq (pe_ix ix_tup (pv 0) (pv 2) (fun _ _ => rfl)) (pe_ix ix_tup (pv 0) (pv 3) (fun _ _ => rfl)) (nomark _))
          (pw_and1 (pt_cmpR op_ne (pe_ix ix_list (pv 1) (pv 2) (fun _ _ => rfl)) (pe_ix ix_list (pv 1) (pv 3) (fun _ _ => rfl)) (nomark _))))) (pss_one (ps_ret pe_bl)) pss_nil)))))
    (pss_one (ps_ret pe_bl)), ?_⟩
  refine ⟨_, rfl, a, _, rfl, .inr hA, _, rfl, by rw [List.length_map]; omega, by rw [List.length_map]; omega, ?_⟩
  rw [List.length_map, Int.toNat_natCast]
  refine for_range (lo := 0) (n := ns.length) (fun i σ H2 => ∃ v2 v3, σ = [some (.ref a), some (.ref b), v2, v3] ∧ H2 = H ∧ ∀ i', i' < i → ∀ j, j < i' → ns[i']? = ns[j]? → ms[i']? = ms[j]?) ⟨none, none, rfl, rfl, fun i' h => absurd h (Nat.not_lt_zero _)⟩ ?_ ?_
  · rintro i σ H2 hi ⟨v2, v3, rfl, rfl, hok⟩
    refine ⟨_, rfl, _, rfl, by omega, by omega, ?_⟩
    have e0 : (0 + (i : Int)).toNat = i := by omega
    rw [e0]
    refine for_range (lo := 0) (n := i) (fun j σ H3 => ∃ v3, σ = [some (.ref a), some (.ref b), some (.int (0 + (i : Int))), v3] ∧ H3 = H2 ∧ ∀ j', j' < j → ns[i]? = ns[j']? → ms[i]? = ms[j']?) ⟨_, rfl, rfl, fun j' h => absurd h (Nat.not_lt_zero _)⟩ ?_ ?_
    · rintro j σ H3 hj ⟨v3, rfl, rfl, hok2⟩
      have hjn : j < ns.length := by omega
      refine ⟨_, rfl, _, rfl, a, _, _, _, rfl, rfl, hA, at0 hi, _, rfl, _, rfl, a, _, _, _, rfl, rfl, hA, at0 hjn, rfl, _, rfl, ?_⟩
      refine ite2 (fun c => ?_) (fun c => ?_)
      · have c' : ns[i] = ns[j] := by
          have := of_decide_eq_true c
          injection this
        refine ⟨_, rfl, _, rfl, b, _, _, _, rfl, rfl, hB, at0 (by omega), _, rfl, _, rfl, b, _, _, _, rfl, rfl, hB, at0 (by omega), rfl, _, rfl, ?_⟩
        refine ite2 (fun d => ?_) (fun d => ?_)
        · have d' : ¬ ms[i]'(by omega) = ms[j]'(by omega) := by
            intro e
            rw [e] at d
            simp at d
          have e : Sh.finB ns ms = false := by
            unfold Sh.finB
            refine decide_eq_false fun hall => d' ?_
            have := hall i hi j hj (by rw [List.getElem?_eq_getElem hi, List.getElem?_eq_getElem hjn, c'])
            rw [List.getElem?_eq_getElem (by omega), List.getElem?_eq_getElem (by omega)] at this
            exact Option.some.inj this
          rw [e] at q
          exact q
        · have d' : ms[i]'(by omega) = ms[j]'(by omega) := by
            by_cases e : ms[i]'(by omega) = ms[j]'(by omega)
            · exact e
            · exact absurd (by simp [e]) d
          refine ⟨_, rfl, rfl, fun j' hj' e => ?_⟩
          by_cases ej : j' = j
          · subst ej
            rw [List.getElem?_eq_getElem (by omega), List.getElem?_eq_getElem (by omega), d']
          · exact hok2 j' (by omega) e
      · have c' : ¬ ns[i] = ns[j] := fun e => c (by rw [e]; simp)
        refine iteF ?_
        refine ⟨_, rfl, rfl, fun j' hj' e => ?_⟩
        by_cases ej : j' = j
        · subst ej
          rw [List.getElem?_eq_getElem hi, List.getElem?_eq_getElem hjn] at e
          exact absurd (Option.some.inj e) c'
        · exact hok2 j' (by omega) e
    · rintro σ H3 ⟨v3, rfl, rfl, hok2⟩
      refine ⟨_, _, rfl, rfl, fun i' hi' j hj e => ?_⟩
      by_cases ei : i' = i
      · subst ei; exact hok2 j hj e
      · exact hok i' (by omega) j hj e
  · rintro σ H2 ⟨v2, v3, rfl, rfl, hok⟩
    have e : Sh.finB ns ms = true := by
      unfold Sh.finB
      exact decide_eq_true hok
    rw [e] at q
    exact q
end
def spWhole (K : PySem.W.Frag) : Sp := fun vs H Q _ => ∃ n : Int, vs = [.int n] ∧ Q (.bl true) H
def spNums (K : PySem.W.Frag) : Sp := fun vs H Q _ => ∃ (a b : Addr) (ns ms : List Int), vs = [.ref a, .ref b] ∧ H a = some (.lst (ns.map V.int)) ∧ SqL K H b (ms.map V.int) ∧ Q (.bl (decide (ns = ms))) H
section
variable {P : Program} {w : World} {K : PySem.W.Frag} {mg : Str → Option Value} {base : Heap}
theorem scWhole : FnScope ["found"] ["found"] (defScope sWhole) := ⟨rfl, rfl, rfl, by decide +kernel, rfl, by decide +kernel, by decide +kernel⟩
theorem ok_whole {f : Addr} {fd : FuncData} (F : Fun K "_law_whole" "_law_whole" sWhole f fd) (mi : mg "isinstance" = none) (mn : mg "int" = none) (mb : mg "bool" = none) : FnOk P w K mg base CX0 1 f fd ["found"] (spWhole K) := by
  refine F.ok scWhole (fun vs H Q E h => ?_) (fun cdv A outer s H vs Q E hr h => ?_)
  · obtain ⟨n, rfl, _⟩ := h
    rfl
  obtain ⟨n, rfl, q⟩ := h
  refine ⟨_, pss_one (ps_ret (pe_and (pe_callB call_isinst rfl mi boot_isinstance (pa_cons (pv 0) (pa_cons (pe_bltn (v := .ty "int") rfl mn boot_int rfl) pa_nil)))
    (pe_one (pe_not (pe_callB call_isinst rfl mi boot_isinstance (pa_cons (pv 0) (pa_cons (pe_bltn (v := .ty "bool") rfl mb boot_bool rfl) pa_nil))))))), ?_⟩
  refine ⟨_, rfl, _, "int", _, true, rfl, .int _, rfl, _, rfl, ?_⟩
  refine iteT ?_
  exact ⟨_, rfl, _, "bool", _, false, rfl, .int _, rfl, _, rfl, q⟩
theorem scNums : FnScope ["found", "due", "x"] ["found", "due"] (defScope sNums) := ⟨rfl, rfl, rfl, by decide +kernel, rfl, by decide +kernel, by decide +kernel⟩
theorem ok_nums {f : Addr} {fd : FuncData} (F : Fun K "_law_numbers" "_law_numbers" sNums f fd) (GW : Fn P w K mg base "_law_whole" ["found"] 1 (spWhole K)) (ml : mg "len" = none) (mi : mg "isinstance" = none) (mlst : mg "list" = none) : FnOk P w K mg base CX0 2 f fd ["found", "due"] (spNums K) := by
  refine F.ok scNums (fun vs H Q E h => ?_) (fun cdv A outer s H vs Q E hr h => ?_)
  · obtain ⟨a, b, ns, ms, rfl, _⟩ := h
    rfl
  obtain ⟨a, b, ns, ms, rfl, hA, hB, q⟩ := h
  have hu := hu_of hr
  refine ⟨_, pss_cons (ps_if (PW.pt (pw_or (pt_not (pt_val (pe_callB call_isinst rfl mi boot_isinstance (pa_cons (pv 0) (pa_cons (pe_bltn (v := .ty "list") rfl mlst boot_list rfl) pa_nil)))))
      (pw_or1 (pt_cmpR op_ne (pe_callB call_len_seq rfl ml PySem.boot_len (pa_cons (pv 0) pa_nil)) (pe_callB call_len_seq rfl ml PySem.boot_len (pa_cons (pv 1) pa_nil)) (nomark _))))) (pss_one (ps_ret pe_bl)) pss_nil)
    (pss_cons (ps_for PassesOwn.never rfl (pi_list (pv 0)) (pg_name (i := 2) scNums.nd rfl (Or.inl rfl))
      (pss_one (ps_if (pt_not (pt_val (pe_fn GW hr (pa_cons (pv 2) pa_nil)))) (pss_one (ps_ret pe_bl)) pss_nil)))
    (pss_one (ps_ret (pe_cmpR (op_eqLI (Nat.lt_of_succ_lt hu)) (pv 0) (pv 1) (nomark _))))), ?_⟩
  refine ⟨_, rfl, _, "list", _, true, rfl, .lst hA, rfl, _, rfl, ?_⟩
  refine iteF ?_
  refine ⟨_, rfl, a, _, rfl, .inl (SqL.of hA), _, rfl, b, _, rfl, .inl hB, rfl, _, rfl, ?_⟩
  refine ite2 (fun c => ?_) (fun c => ?_)
  · have e : decide (ns = ms) = false := decide_eq_false fun e => by
      rw [e] at c
      simp at c
    rw [e] at q
    exact q
  refine ⟨_, rfl, a, rfl, ⟨_, SqL.of hA⟩, for_list (K := K) (a := a) (xs := ns.map V.int) (fun i σ H2 => ∃ (v : Option V), σ = [some (.ref a), some (.ref b), v] ∧ H2 = H) ⟨none, rfl, rfl⟩ (fun i σ H2 _ ⟨_, _, e⟩ => by rw [e]; exact SqL.of hA) ?_ ?_⟩
  · rintro i x σ H2 hi ⟨v, rfl, rfl⟩
    obtain ⟨z, hz, rfl⟩ := ints_get hi
    refine ⟨_, rfl, z, rfl, _, rfl, ?_⟩
    exact iteF ⟨_, rfl, rfl⟩
  · rintro σ H2 ⟨v, rfl, rfl⟩
    exact ⟨_, rfl, _, rfl, a, b, ns, ms, rfl, rfl, SqL.of hA, hB, q⟩
end
section
variable {P : Program} {w : World} {K : PySem.W.Frag} {mg : Str → Option Value} {base : Heap}
theorem at_last {α : Type} {xs : List α} {v : α} (h : xs[xs.length - 1]? = some v) : atI xs (-1) = some v := by
  have hl : xs.length - 1 < xs.length := (List.getElem?_eq_some_iff.mp h).1
  have hne : xs ≠ [] := by intro e; rw [e] at hl; simp at hl
  have e : xs = xs.dropLast ++ [v] := by
    have h1 := List.dropLast_concat_getLast hne
    have h2 : xs.getLast hne = v := by
      rw [List.getLast_eq_getElem]
      rw [List.getElem?_eq_getElem hl] at h
      exact Option.some.inj h
    rw [h2] at h1
    exact h1.symm
  rw [e]
  exact atI_last _ _
theorem scClimb : FnScope ["one", "other", "climbed", "share", "thing", "now"] ["one", "other"] (defScope sClimb) := ⟨rfl, rfl, rfl, by decide +kernel, rfl, by decide +kernel, by decide +kernel⟩
structure Up (H0 : Hp) (cl : Addr) (ns ms : List Int) (as : List Addr) (cs : List (List Int)) (z : List Int) (H2 : Hp) : Prop where
  keep : ∀ b o, H0 b = some o → H2 b = some o
  fcl : H0 cl = none
  at' : H2 cl = some (.lst (as.map V.ref))
  nd : as.Nodup
  ncl : ¬ cl ∈ as
  fresh : ∀ p, p ∈ as → H0 p = none
  ll : LL H2 as cs
  clm : Sh.Clm ns ms cs
  last : cs[cs.length - 1]? = some z
theorem ok_climb {f : Addr} {fd : FuncData} (F : Fun K "climb" "climb" sClimb f fd) (GS : Fn P w K mg base "shares_of" ["one"] 4 (spShares K)) (GT : Fn P w K mg base "stepped" ["marks", "kept", "gone"] 2 (spStep K)) (mlst : mg "list" = none) :
    FnOk P w K mg base CX0 5 f fd ["one", "other"] (spClimb K) := by
  refine F.ok scClimb (fun vs H Q E h => ?_) (fun cdv A outer s H vs Q E hr h => ?_)
  · obtain ⟨a, b, ns, ms, rfl, _⟩ := h
    rfl
  obtain ⟨a, b, ns, ms, rfl, hA, hB, gA, gB, hl, q⟩ := h
  obtain ⟨cA, lA1, lA2⟩ := Sh.isSh_can gA
  obtain ⟨cB, lB1, lB2⟩ := Sh.isSh_can gB
  refine ⟨_, pss_cons (ps_set (i := 2) scClimb.nd rfl (Or.inl rfl) (pe_lst (pa_cons (pe_callTy call_list_of rfl mlst boot_list (pa_cons (pv 0) pa_nil)) pa_nil)))
    (pss_cons (ps_for PassesOwn.never rfl (pi_list (pe_fn GS hr (pa_cons (pv 1) pa_nil))) (pg_name (i := 3) scClimb.nd rfl (Or.inl rfl))
      (pss_one (ps_for PassesOwn.never rfl (pi_list (pv 3)) (pg_name (i := 4) scClimb.nd rfl (Or.inl rfl))
        (pss_cons (ps_set (i := 5) scClimb.nd rfl (Or.inl rfl) (pe_ix ix_list (pv 2) (pe_un un_neg pe_int) (fun _ _ => rfl)))
        (pss_one (ps_if (pt_cmpR op_ne (pe_ix ix_list (pv 5) (pv 4) (fun _ _ => rfl)) (pe_ix ix_list (pv 5) (pe_ix ix_list (pv 3) pe_int (fun _ _ => rfl)) (fun _ _ => rfl)) (nomark _))
          (pss_one (ps_expr (pe_bm PySem.F.plainAttrs_list PySem.F.slot_list_append PySem.F.type_list_append mt_append (pv 2)
            (pa_cons (pe_fn GT (hr.mono (by decide)) (pa_cons (pv 5) (pa_cons (pe_ix ix_list (pv 5) (pe_ix ix_list (pv 3) pe_int (fun _ _ => rfl)) (fun _ _ => rfl)) (pa_cons (pe_ix ix_list (pv 5) (pv 4) (fun _ _ => rfl)) pa_nil)))) pa_nil)))) pss_nil))))))
    (pss_one (ps_ret (pv 2)))), ?_⟩
  -- climbed = [list(one)]
  refine ⟨_, rfl, a, _, rfl, .inl hA, fun p0 f0 => ⟨(by show 1 ≤ sizeLine; decide), fun cl fcl => ?_⟩⟩
  have t0 := same_upd f0 (.lst (ns.map V.int))
  have t1 := same_upd fcl (.lst [.ref p0])
  have ncp : ¬ cl = p0 := fun e => by subst e; rw [upd_same] at fcl; cases fcl
  refine ⟨_, rfl, b, ms, rfl, (t0.trans t1).seq hB, gB, fun Ds ss H1 s1 fD dD ndS nDs fS lS => ?_⟩
  have sH1 : Same H H1 := (t0.trans t1).trans s1
  have up0 : Up H cl ns ms [p0] [ns] ns H1 := by
    refine ⟨sH1, t0.free fcl, s1 _ _ upd_same, by simp, by simpa using ncp, fun p hp => ?_, ⟨rfl, fun k p c e1 e2 => ?_⟩, Sh.Clm.start cA, rfl⟩
    · rw [List.mem_singleton] at hp
      subst hp
      exact f0
    · match k, e1, e2 with
      | 0, e1, e2 =>
        cases (Option.some.inj e1)
        cases (Option.some.inj e2)
        exact s1 _ _ (t1 _ _ upd_same)
      | k + 1, e1, e2 => simp at e1
  -- what the loops keep: the heap behind shares_of but the list climbed
  have kcl : ∀ {p : Addr} {o : HO}, H1 p = some o → (upd (upd H p0 (.lst (ns.map V.int))) cl (.lst [.ref p0])) p = none → p ≠ cl := fun {p o} e n z => by subst z; rw [upd_same] at n; cases n
  have keepS : ∀ k p, ss[k]? = some p → p ≠ cl := fun k p e z => by
    have := fS p (List.mem_of_getElem? e)
    rw [z, upd_same] at this
    cases this
  have keepD : Ds ≠ cl := fun z => by rw [z, upd_same] at fD; cases fD
  refine ⟨Ds, rfl, ⟨_, SqL.of dD⟩, for_list (K := K) (a := Ds) (xs := ss.map V.ref) (fun i σ H2 => ∃ (v3 v4 v5 : Option V) (as : List Addr) (cs : List (List Int)) (z : List Int), σ = [some (.ref a), some (.ref b), some (.ref cl), v3, v4, v5] ∧ (∀ p o, H1 p = some o → p ≠ cl → H2 p = some o) ∧ Up H cl ns ms as cs z H2 ∧
      ∀ (x y : Nat) (m : Int), m < (i : Int) → ms[x]? = some m → ms[y]? = some m → Sh.Rel z x y)
    ⟨none, none, none, [p0], [ns], ns, rfl, fun p o e _ => e, up0, fun x y m hm e1 _ => by have := Sh.can_nonneg cB m (List.mem_of_getElem? e1); omega⟩ (fun i σ H2 _ ⟨_, _, _, _, _, _, _, k2, _⟩ => SqL.of (k2 _ _ dD keepD)) ?_ ?_⟩
  · rintro i x σ H2 hi ⟨v3, v4, v5, as, cs, z, rfl, k2, U, done⟩
    obtain ⟨sp, esp, rfl⟩ : ∃ sp, ss[i]? = some sp ∧ x = V.ref sp := by
      rw [List.getElem?_map] at hi
      cases e : ss[i]? with
      | none => rw [e] at hi; cases hi
      | some p => rw [e] at hi; exact ⟨p, rfl, (Option.some.inj hi).symm⟩
    have hik : i < (Sh.fr ms).toNat := by
      have h1 := (List.getElem?_eq_some_iff.mp esp).1
      have h2 := lS.1
      rw [Sh.shs_len] at h2
      omega
    have hsp : H1 sp = some (.lst ((Sh.sh1 ms ms.length (i : Int)).map V.int)) := lS.2 i sp _ esp (Sh.shs_get hik)
    have nsp := keepS i sp esp
    generalize hS : Sh.sh1 ms ms.length (i : Int) = S at hsp
    -- the first thing of the share
    obtain ⟨t0', ht0⟩ : ∃ t : Nat, S[0]? = some (t : Int) := by
      have hm := Sh.can_has cB (k := (i : Int)) (by omega) (by omega)
      obtain ⟨t, ht, e⟩ := Sh.mem_ix hm
      have hin : ((t : Nat) : Int) ∈ S := by rw [← hS]; exact Sh.mem_sh1.mpr ⟨t, rfl, ht, e⟩
      cases S with
      | nil => simp at hin
      | cons u r =>
        have : u ∈ Sh.sh1 ms ms.length (i : Int) := by rw [hS]; simp
        obtain ⟨t', rfl, _⟩ := Sh.mem_sh1.mp this
        exact ⟨t', rfl⟩
    have inS : ∀ x, x ∈ S → ∃ t : Nat, x = (t : Int) ∧ t < ms.length ∧ ms[t]? = some (i : Int) := fun x hx => by rw [← hS] at hx; exact Sh.mem_sh1.mp hx
    obtain ⟨t0, et0, lt0, mt0⟩ := inS _ (List.mem_of_getElem? ht0)
    have et0' : t0' = t0 := by omega
    subst et0'
    have atS0 : atI (S.map V.int) 0 = some (.int (t0' : Int)) := atI_nat (j := 0) (by rw [List.getElem?_map, ht0]; rfl)
    refine ⟨_, rfl, sp, rfl, ⟨_, SqL.of (k2 _ _ hsp nsp)⟩, for_list (K := K) (a := sp) (xs := S.map V.int) (fun j σ H3 => ∃ (v4 v5 : Option V) (as : List Addr) (cs : List (List Int)) (z : List Int), σ = [some (.ref a), some (.ref b), some (.ref cl), some (.ref sp), v4, v5] ∧ (∀ p o, H1 p = some o → p ≠ cl → H3 p = some o) ∧ Up H cl ns ms as cs z H3 ∧
        (∀ (x y : Nat) (m : Int), m < (i : Int) → ms[x]? = some m → ms[y]? = some m → Sh.Rel z x y) ∧ ∀ (j' : Nat) (t : Nat), j' < j → S[j']? = some (t : Int) → Sh.Rel z t t0')
      ⟨_, _, as, cs, z, rfl, k2, U, done, fun j' t h => absurd h (Nat.not_lt_zero _)⟩ (fun j σ H3 _ ⟨_, _, _, _, _, _, k3, _⟩ => SqL.of (k3 _ _ hsp nsp)) ?_ ?_⟩
    · rintro j x σ H3 hj ⟨v4, v5, as, cs, z, rfl, k3, U, done, part⟩
      obtain ⟨u, hu, rfl⟩ := ints_get hj
      obtain ⟨t, rfl, lt, mt⟩ := inS u (List.mem_of_getElem? hu)
      obtain ⟨z1, z2, z3, z4⟩ := U.clm.all z (List.mem_of_getElem? U.last)
      have ht : t < z.length := by omega
      have ht0z : t0' < z.length := by omega
      -- now = climbed[-1]
      have lcs : 0 < cs.length := by
        have := (List.getElem?_eq_some_iff.mp U.last).1
        omega
      have hla : as.length - 1 < as.length := by have := U.ll.1; omega
      have eal := List.getElem?_eq_getElem hla
      have hzl : H3 as[as.length - 1] = some (.lst (z.map V.int)) := U.ll.2 (as.length - 1) _ z eal (by rw [U.ll.1]; exact U.last)
      have atl : atI (as.map V.ref) (-1) = some (.ref as[as.length - 1]) := at_last (by rw [List.length_map, List.getElem?_map, eal]; rfl)
      refine ⟨_, rfl, 1, rfl, cl, _, _, _, rfl, rfl, SqL.of U.at', atl, ?_⟩
      have gz : ∀ {k : Nat} (hk : k < z.length), atI (z.map V.int) (k : Int) = some (.int z[k]) := fun {k} hk => atI_nat (by rw [List.getElem?_map, List.getElem?_eq_getElem hk]; rfl)
      refine ⟨_, rfl, _, rfl, _, _, _, _, rfl, rfl, SqL.of hzl, gz ht, _, rfl, _, rfl, sp, _, _, _, rfl, rfl, SqL.of (k3 _ _ hsp nsp), atS0, _, _, _, _, rfl, rfl, SqL.of hzl, gz ht0z, rfl, _, rfl, ?_⟩
      refine ite2 (fun c => ?_) (fun c => ?_)
      · have c' : z[t] ≠ z[t0'] := fun e => by rw [e] at c; simp at c
        refine ⟨_, rfl, .inl ⟨rfl, _, SqL.of U.at'⟩, _, rfl, _, rfl, _, rfl, sp, _, _, _, rfl, rfl, SqL.of (k3 _ _ hsp nsp), atS0, _, _, _, _, rfl, rfl, SqL.of hzl, gz ht0z, _, rfl, _, rfl, _, _, _, _, rfl, rfl, SqL.of hzl, gz ht,
          _, z, _, _, rfl, SqL.of hzl, by omega, fun pn H4 s4 f4 d4 => ?_⟩
        have ncl : cl ≠ pn := ne_of_none U.at' f4
        have nas : ∀ p, p ∈ as → p ≠ pn := fun p hp => by
          obtain ⟨k, hk, e⟩ := List.getElem_of_mem hp
          have e' := List.getElem?_eq_getElem hk
          rw [e] at e'
          have hkc : k < cs.length := by have := U.ll.1; omega
          exact ne_of_none (U.ll.2 k p _ e' (List.getElem?_eq_getElem hkc)) f4
        have hH : H pn = none := by
          cases e : H pn with
          | none => rfl
          | some o => rw [U.keep _ _ e] at f4; cases f4
        have last' : (cs ++ [Sh.stp z z[t0'] z[t]])[(cs ++ [Sh.stp z z[t0'] z[t]]).length - 1]? = some (Sh.stp z z[t0'] z[t]) := by
          rw [List.length_append, List.length_singleton, Nat.add_sub_cancel, List.getElem?_append_right (Nat.le_refl _), Nat.sub_self]
          rfl
        have U' : Up H cl ns ms (as ++ [pn]) (cs ++ [Sh.stp z z[t0'] z[t]]) (Sh.stp z z[t0'] z[t]) (upd H4 cl (.lst (as.map V.ref ++ [.ref pn]))) := by
          refine ⟨fun p o e => ?_, U.fcl, by rw [upd_same, List.map_append]; rfl, ?_, ?_, fun p hp => ?_, ?_, ?_, last'⟩
          · rw [upd_ne (ne_of_none e U.fcl)]
            exact s4 _ _ (U.keep _ _ e)
          · rw [List.nodup_append]
            refine ⟨U.nd, by simp, fun x hx y hy => ?_⟩
            rw [List.mem_singleton] at hy
            subst hy
            exact nas x hx
          · intro hm
            rcases List.mem_append.mp hm with hm | hm
            · exact U.ncl hm
            · rw [List.mem_singleton] at hm
              exact ncl hm
          · rcases List.mem_append.mp hp with hp | hp
            · exact U.fresh p hp
            · rw [List.mem_singleton] at hp
              subst hp
              exact hH
          · have l4 : LL H4 (as ++ [pn]) (cs ++ [Sh.stp z z[t0'] z[t]]) := (U.ll.mono s4).snoc d4
            refine ⟨l4.1, fun k p c e1 e2 => ?_⟩
            rw [upd_ne (fun e => ?_)]
            · exact l4.2 k p c e1 e2
            · subst e
              rcases List.mem_append.mp (List.mem_of_getElem? e1) with hm | hm
              · exact U.ncl hm
              · rw [List.mem_singleton] at hm
                exact ncl hm
          · refine U.clm.step U.last (s := t0') (t := t) (by omega) (by omega) ?_ (List.getElem?_eq_getElem ht0z) (List.getElem?_eq_getElem ht) c'
            unfold Sh.Rel
            rw [mt, mt0]
        have mono : ∀ x y, x < z.length → y < z.length → Sh.Rel z x y → Sh.Rel (Sh.stp z z[t0'] z[t]) x y := fun x y hx hy h => Sh.stp_mono hx hy h
        refine ⟨cl, _, _, rfl, rfl, s4 _ _ U.at', small1000 ?_, _, _, as ++ [pn], _, _, rfl, fun p o e hp => ?_, U', fun x y m hm e1 e2 => ?_, fun j' t' hj' e => ?_⟩
        · rw [List.length_map]
          have := (Sh.Clm.bound U.clm)
          have := U.ll.1
          omega
        · rw [upd_ne hp]
          exact s4 _ _ (k3 p o e hp)
        · have hx := (List.getElem?_eq_some_iff.mp e1).1
          have hy := (List.getElem?_eq_some_iff.mp e2).1
          exact mono x y (by omega) (by omega) (done x y m hm e1 e2)
        · by_cases ej : j' = j
          · subst ej
            rw [hu] at e
            have et : t = t' := by have := Option.some.inj e; omega
            subst et
            exact Sh.stp_joins (List.getElem?_eq_getElem ht0z) (List.getElem?_eq_getElem ht)
          · obtain ⟨t2, et2, lt2, mt2⟩ := inS _ (List.mem_of_getElem? e)
            have et2' : t' = t2 := by omega
            subst et2'
            exact mono t' t0' (by omega) ht0z (part j' t' (by omega) e)
      · have c' : z[t] = z[t0'] := by
          by_cases e : z[t] = z[t0']
          · exact e
          · exact absurd (by simp [e]) c
        refine ⟨_, _, as, cs, z, rfl, k3, U, done, fun j' t' hj' e => ?_⟩
        by_cases ej : j' = j
        · subst ej
          rw [hu] at e
          have et : t = t' := by have := Option.some.inj e; omega
          subst et
          exact (Sh.rel_get ht ht0z).mpr c'
        · exact part j' t' (by omega) e
    · rintro σ H3 ⟨v4, v5, as, cs, z, rfl, k3, U, done, part⟩
      refine ⟨_, _, _, as, cs, z, rfl, k3, U, fun x y m hm e1 e2 => ?_⟩
      by_cases em : m = (i : Int)
      · subst em
        have mem : ∀ x : Nat, ms[x]? = some (i : Int) → Sh.Rel z x t0' := fun x e => by
          have hx := (List.getElem?_eq_some_iff.mp e).1
          have hin : ((x : Nat) : Int) ∈ S := by rw [← hS]; exact Sh.mem_sh1.mpr ⟨x, rfl, hx, e⟩
          obtain ⟨j, hj, ej⟩ := Sh.mem_ix hin
          exact part j x (by rw [List.length_map]; exact hj) ej
        exact (mem x e1).trans (mem y e2).symm
      · exact done x y m (by omega) e1 e2
  · rintro σ H2 ⟨v3, v4, v5, as, cs, z, rfl, k2, U, done⟩
    refine ⟨_, rfl, q cl as cs z H2 U.keep U.fcl U.at' U.nd U.ncl U.fresh U.ll U.clm U.last (U.clm.join U.last fun i j hi hj r => ?_)⟩
    have h1 := List.getElem?_eq_getElem (show i < ms.length by omega)
    have hb : ms[j]? = some (ms[i]'(by omega)) := by rw [← h1]; exact r.symm
    refine done i j _ ?_ h1 hb
    have hf := Sh.lt_fr _ (List.mem_of_getElem? h1)
    have h2 := lS.1
    rw [Sh.shs_len] at h2
    rw [List.length_map]
    have := Sh.fr_nonneg ms
    omega
end
def spAskFin (K : PySem.W.Frag) : Sp := fun vs H Q _ => ∃ (a b : Addr) (ns ms : List Int), vs = [.ref a, .ref b] ∧ SqL K H a (ns.map V.int) ∧ SqL K H b (ms.map V.int) ∧ Sh.isSh ns = true ∧ Sh.isSh ms = true ∧ ns.length = ms.length ∧ Sh.Fin ns ms ∧ ∀ (H' : Hp), Same H H' → Q .non H'
def numsI (ns ms : List Int) : List Int := (Sh.nums ns ms).map fun (k : Nat) => (k : Int)
def spJN (K : PySem.W.Frag) : Sp := fun vs H Q _ => ∃ (a b : Addr) (ns ms : List Int), vs = [.ref a, .ref b] ∧ SqL K H a (ns.map V.int) ∧ SqL K H b (ms.map V.int) ∧ Sh.isSh ns = true ∧ Sh.isSh ms = true ∧ ns.length = ms.length ∧
  ∀ (D : Addr) (H' : Hp), Same H H' → H D = none → H' D = some (.lst ((numsI ns ms).map V.int)) → Q (.ref D) H'
theorem LL.at {H : Hp} {as : List Addr} {cs : List (List Int)} (h : LL H as cs) {i : Nat} {x : V} (e : (as.map V.ref)[i]? = some x) : ∃ p c, x = .ref p ∧ as[i]? = some p ∧ cs[i]? = some c ∧ H p = some (.lst (c.map V.int)) := by
  rw [List.getElem?_map] at e
  cases eT : as[i]? with
  | none => rw [eT] at e; cases e
  | some p =>
    rw [eT] at e
    cases e
    have hi : i < cs.length := by rw [← h.1]; exact (List.getElem?_eq_some_iff.mp eT).1
    exact ⟨p, cs[i], rfl, rfl, List.getElem?_eq_getElem hi, h.2 i p _ eT (List.getElem?_eq_getElem hi)⟩
theorem fr_12 {ns : List Int} (h : Sh.isSh ns = true) : Sh.fr ns ≤ 12 := by
  obtain ⟨hc, l1, l2⟩ := Sh.isSh_can h
  have := (Sh.fr_mk ns).1
  rw [Sh.mk_can hc] at this
  have := Sh.length_dd_le ns
  omega
section
variable {P : Program} {w : World} {K : PySem.W.Frag} {mg : Str → Option Value} {base : Heap}
theorem scAskFin : FnScope ["one", "other"] ["one", "other"] (defScope sAskFin) := ⟨rfl, rfl, rfl, by decide +kernel, rfl, by decide +kernel, by decide +kernel⟩
theorem ok_askfin {f : Addr} {fd : FuncData} (F : Fun K "ask_finer" "ask_finer" sAskFin f fd) (G : Fn P w K mg base "is_finer" ["one", "other"] 6 (spFiner K)) : FnOk P w K mg base CX0 7 f fd ["one", "other"] (spAskFin K) := by
  refine F.ok scAskFin (fun vs H Q E h => ?_) (fun cdv A outer s H vs Q E hr h => ?_)
  · obtain ⟨a, b, ns, ms, rfl, _⟩ := h
    rfl
  obtain ⟨a, b, ns, ms, rfl, hA, hB, gA, gB, hl, hf, q⟩ := h
  refine ⟨_, pss_one (ps_if (pt_not (pt_val (pe_fn G hr (pa_cons (pv 0) (pa_cons (pv 1) pa_nil))))) pss_never pss_nil), ?_⟩
  refine ⟨_, rfl, _, rfl, a, b, ns, ms, rfl, hA, hB, gA, gB, hl, fun H' sm => ⟨_, rfl, ?_⟩⟩
  rw [(Sh.finer_iff (Sh.isSh_can gA).1 hl).mpr hf]
  exact iteF (q H' sm)
theorem nd_to : (["thing", "one"] : List Str).Nodup := by decide +kernel
theorem scJN : FnScope ["one", "other", "numbers", "share"] ["one", "other"] (defScope sJN) := ⟨rfl, rfl, rfl, by decide +kernel, rfl, by decide +kernel, by decide +kernel⟩
theorem ok_jn {f : Addr} {fd : FuncData} (F : Fun K "joined_numbers" "joined_numbers" sJN f fd) (GS : Fn P w K mg base "shares_of" ["one"] 4 (spShares K)) (ml : mg "len" = none) (mst : mg "set" = none) : FnOk P w K mg base CX0 5 f fd ["one", "other"] (spJN K) := by
  refine F.ok scJN (fun vs H Q E h => ?_) (fun cdv A outer s H vs Q E hr h => ?_)
  · obtain ⟨a, b, ns, ms, rfl, _⟩ := h
    rfl
  obtain ⟨a, b, ns, ms, rfl, hA, hB, gA, gB, hl, q⟩ := h
  obtain ⟨cA, lA1, lA2⟩ := Sh.isSh_can gA
  refine ⟨_, pss_cons (ps_set (i := 2) scJN.nd rfl (Or.inl rfl) (pe_lst pa_nil))
    (pss_cons (ps_for PassesOwn.never rfl (pi_list (pe_fn GS hr (pa_cons (pv 1) pa_nil))) (pg_name (i := 3) scJN.nd rfl (Or.inl rfl))
      (pss_one (ps_expr (pe_bm PySem.F.plainAttrs_list PySem.F.slot_list_append PySem.F.type_list_append mt_append (pv 2) (pa_cons
        (pe_lenset rfl rfl ml rfl mst (pa_cons (pe_comp ["thing", "one"] [none, some 0] rfl rfl (pi_list (pv 3)) (fun _ _ _ _ => pg_name (i := 0) nd_to rfl (Or.inl rfl)) (fun _ _ _ _ => pts_nil)
          (fun _ _ _ _ => pe_ix (ix_listK (K := K)) (pv 1) (pv 0) (fun _ _ => rfl))) pa_nil)) pa_nil)))))
    (pss_one (ps_ret (pv 2)))), ?_⟩
  refine ⟨(by show 0 ≤ sizeLine; decide), fun l hl0 => ?_⟩
  have s0 : Same H (upd H l (.lst [])) := same_upd hl0 _
  refine ⟨_, rfl, b, ms, rfl, s0.seq hB, gB, fun D as H1 s1 fD dD nd nDa fr ll => ?_⟩
  have s01 := s0.trans s1
  have hsl : (Sh.shs ms).length ≤ 12 := by rw [Sh.shs_len]; have := fr_12 gB; omega
  refine ⟨D, rfl, ⟨_, SqL.of dD⟩, for_list (K := K) (a := D) (xs := as.map V.ref) (fun i σ H2 => ∃ v, σ = [some (.ref a), some (.ref b), some (.ref l), v] ∧ Same H H2 ∧ (∀ p o, H1 p = some o → p ≠ l → H2 p = some o) ∧ H2 l = some (.lst (((numsI ns ms).take i).map V.int)))
    ⟨none, rfl, s01, fun p o e _ => e, s1 _ _ upd_same⟩ (fun i σ H2 _ ⟨_, _, _, k2, _⟩ => SqL.of (k2 _ _ dD (fun e => by rw [e, upd_same] at fD; cases fD))) ?_ ?_⟩
  · rintro i x σ H2 hi ⟨v, rfl, s2, k2, h2⟩
    obtain ⟨p, c, rfl, e1, e2, e3⟩ := ll.at hi
    have npl : p ≠ l := fun e => by
      have := fr p (List.mem_of_getElem? e1)
      rw [e, upd_same] at this
      cases this
    have e3' := k2 _ _ e3 npl
    have hcl : c.length ≤ 12 := by
      obtain ⟨k, hk, rfl⟩ := Sh.mem_shs.mp (List.mem_of_getElem? e2)
      unfold Sh.sh1
      rw [List.length_map]
      have := List.length_filter_le (fun t => decide (ms[t]? = some (k : Int))) (List.range ms.length)
      rw [List.length_range] at this
      omega
    have hct : ∀ t, t ∈ c → 0 ≤ t ∧ t < ns.length := fun t ht => by
      obtain ⟨k, hk, rfl⟩ := Sh.mem_shs.mp (List.mem_of_getElem? e2)
      obtain ⟨u, rfl, hu, _⟩ := Sh.mem_sh1.mp ht
      omega
    refine ⟨_, rfl, .inl ⟨rfl, _, SqL.of h2⟩, _, rfl, p, rfl, ⟨_, SqL.of e3'⟩, comp_list (K := K) (a := p) (xs := c.map V.int) (fun j zs τ H3 => ∃ v, τ = [v, some (.ref a)] ∧ H3 = H2 ∧ zs = (((c.take j).map fun t => ns.getD t.toNat 0).map V.int)) ⟨none, rfl, rfl, rfl⟩ ?_ ?_ ?_⟩
    · rintro j zs τ H3 hj ⟨v, rfl, rfl, rfl⟩
      exact ⟨SqL.of e3', small1000 (by rw [List.length_map, List.length_map, List.length_take]; omega)⟩
    · rintro j y zs τ H3 hj ⟨v, rfl, rfl, rfl⟩
      obtain ⟨z, hz, rfl⟩ := ints_get hj
      obtain ⟨z0, z1⟩ := hct z (List.mem_of_getElem? hz)
      have hat : atI (ns.map V.int) z = some (.int (ns.getD z.toNat 0)) := by
        have hzl : z.toNat < ns.length := by omega
        have q1 : atI (ns.map V.int) ((z.toNat : Nat) : Int) = some (.int (ns.getD z.toNat 0)) := atI_nat (by rw [List.getElem?_map, List.getD_eq_getElem?_getD, List.getElem?_eq_getElem hzl]; rfl)
        rw [Int.toNat_of_nonneg z0] at q1
        exact q1
      refine ⟨_, rfl, _, rfl, a, _, _, _, rfl, rfl, s2.seq hA, hat, _, rfl, rfl, ?_⟩
      rw [List.take_add_one, hz, List.map_append, List.map_append]
      rfl
    · rintro zs τ H3 ⟨v, rfl, rfl, rfl⟩ D2 hD2
      rw [List.length_map, List.take_length]
      have t1 := same_upd hD2 (.lst ((c.map fun t => ns.getD t.toNat 0).map V.int))
      refine ⟨D2, c.map (fun t => ns.getD t.toNat 0), rfl, SqL.of upd_same, by rw [List.length_map]; omega, ?_⟩
      have hnl : (numsI ns ms).length ≤ 12 := by unfold numsI Sh.nums; rw [List.length_map, List.length_map]; exact hsl
      refine ⟨l, _, _, rfl, rfl, t1 _ _ h2, small1000 (by rw [List.length_map, List.length_take]; omega), ?_⟩
      refine ⟨_, rfl, (s2.trans t1).upd2 hl0, fun p' o e hp => ?_, ?_⟩
      · rw [upd_ne hp]
        exact t1 _ _ (k2 p' o e hp)
      · have en : (numsI ns ms)[i]? = some (((Sh.dd (c.map fun t => ns.getD t.toNat 0)).length : Nat) : Int) := by
          unfold numsI Sh.nums
          rw [List.getElem?_map, List.getElem?_map, e2]
          rfl
        rw [upd_same, List.take_add_one, en, List.map_append]
        rfl
  · rintro σ H2 ⟨v, rfl, s2, k2, h2⟩
    have e : (numsI ns ms).take (as.map V.ref).length = numsI ns ms := by
      rw [List.take_of_length_le]
      unfold numsI Sh.nums
      rw [List.length_map, List.length_map, List.length_map, ll.1]
      exact Nat.le_refl _
    rw [e] at h2
    exact ⟨_, rfl, q l H2 s2 hl0 h2⟩
theorem nums_pos {ns ms : List Int} (h : Sh.Can ms) (hl : ns.length = ms.length) : ∀ k ∈ Sh.nums ns ms, 1 ≤ k ∧ k ≤ ns.length := by
  intro k hk
  unfold Sh.nums at hk
  obtain ⟨c, hc, rfl⟩ := List.mem_map.mp hk
  have hne := Sh.shs_ne h c hc
  constructor
  · cases c with
    | nil => exact absurd rfl hne
    | cons t c =>
      have : ns.getD t.toNat 0 ∈ Sh.dd ((t :: c).map fun t => ns.getD t.toNat 0) := Sh.mem_dd.mpr (by simp)
      exact List.length_pos_of_mem this
  · obtain ⟨k, hk, rfl⟩ := Sh.mem_shs.mp hc
    have h1 := Sh.length_dd_le ((Sh.sh1 ms ms.length (k : Int)).map fun t => ns.getD t.toNat 0)
    rw [List.length_map] at h1
    unfold Sh.sh1 at h1 ⊢
    rw [List.length_map] at h1
    have := List.length_filter_le (fun t => decide (ms[t]? = some (k : Int))) (List.range ms.length)
    rw [List.length_range] at this
    omega
end
def spRise (K : PySem.W.Frag) : Sp := fun vs H Q _ => ∃ (a b : Addr) (ns ms : List Int), vs = [.ref a, .ref b] ∧ SqL K H a (ns.map V.int) ∧ SqL K H b (ms.map V.int) ∧ Sh.isSh ns = true ∧ Sh.isSh ms = true ∧ ns.length = ms.length ∧ Sh.Fin ns ms ∧
  ∀ (D : Addr) (as : List Addr) (cs : List (List Int)) (H' : Hp), Same H H' → H D = none → H' D = some (.lst (as.map V.ref)) → as.Nodup → ¬ D ∈ as → (∀ p, p ∈ as → H p = none) → LL H' as cs → Sh.Clm ns ms cs → cs[cs.length - 1]? = some ms → Q (.ref D) H'
def spMR1 (K : PySem.W.Frag) : Sp := fun vs H Q _ => ∃ (k : Nat), vs = [.int (k : Int)] ∧ 1 ≤ k ∧ k ≤ 12 ∧ Q (.int ((Sh.m1P (k - 1) : Nat) : Int)) H
def spMR (K : PySem.W.Frag) : Sp := fun vs H Q _ => ∃ (a b : Addr) (ns ms : List Int), vs = [.ref a, .ref b] ∧ SqL K H a (ns.map V.int) ∧ SqL K H b (ms.map V.int) ∧ Sh.isSh ns = true ∧ Sh.isSh ms = true ∧ ns.length = ms.length ∧ Sh.Fin ns ms ∧ ∀ (H' : Hp), Same H H' → Q (.int ((Sh.mrN (Sh.nums ns ms) : Nat) : Int)) H'
theorem join_fin {ns ms z : List Int} (cm : Sh.Can ms) (hl : ns.length = ms.length) (hf : Sh.Fin ns ms) (j : Sh.Join ns ms z) : z = ms := by
  refine Sh.can_ext j.can cm (by rw [j.len, hl]) fun i k hi hk => ?_
  rw [j.len] at hi hk
  rw [j.rel i k hi hk]
  constructor
  · intro c
    exact Sh.conn_le (fun i j hi hj r => hf i j hi hj r) (fun i j hi hj r => r) c
  · exact fun r => .two hi hk r
theorem inN_snd (r s : Nat) : ∀ t, (Sh.inN r s t).2 = s + t
  | 0 => rfl
  | t + 1 => by
    show (Sh.inN r s t).2 + 1 = _
    rw [inN_snd r s t]
    rfl
theorem mrG_snd : ∀ (l : List Nat) (p : Nat × Nat), (Sh.mrG p l).2 = p.2 + Sh.stL l
  | [], p => rfl
  | k :: l, p => by
    show (Sh.mrG (Sh.inN (p.1 * Sh.m1P (k - 1)) p.2 (k - 1)) l).2 = p.2 + ((k - 1) + Sh.stL l)
    rw [mrG_snd l, inN_snd]
    omega
theorem stL_le : ∀ (l : List Nat), (∀ k ∈ l, k ≤ 12) → Sh.stL l ≤ 12 * l.length
  | [], _ => Nat.le_refl _
  | k :: l, h => by
    have := stL_le l fun j hj => h j (List.mem_cons_of_mem _ hj)
    have := h k List.mem_cons_self
    show (k - 1) + Sh.stL l ≤ 12 * (l.length + 1)
    omega
theorem m1_small : ∀ t, t < 12 → Sh.m1P t < 2 ^ 60 := by decide +kernel
section
variable {P : Program} {w : World} {K : PySem.W.Frag} {mg : Str → Option Value} {base : Heap}
theorem scRise : FnScope ["one", "other"] ["one", "other"] (defScope sRise) := ⟨rfl, rfl, rfl, by decide +kernel, rfl, by decide +kernel, by decide +kernel⟩
theorem ok_rise {f : Addr} {fd : FuncData} (F : Fun K "rise" "rise" sRise f fd) (GA : Fn P w K mg base "ask_finer" ["one", "other"] 7 (spAskFin K)) (GC : Fn P w K mg base "climb" ["one", "other"] 5 (spClimb K)) : FnOk P w K mg base CX0 8 f fd ["one", "other"] (spRise K) := by
  refine F.ok scRise (fun vs H Q E h => ?_) (fun cdv A outer s H vs Q E hr h => ?_)
  · obtain ⟨a, b, ns, ms, rfl, _⟩ := h
    rfl
  obtain ⟨a, b, ns, ms, rfl, hA, hB, gA, gB, hl, hf, q⟩ := h
  refine ⟨_, pss_cons (ps_expr (pe_fn GA hr (pa_cons (pv 0) (pa_cons (pv 1) pa_nil)))) (pss_one (ps_ret (pe_fn GC (hr.mono (by decide)) (pa_cons (pv 0) (pa_cons (pv 1) pa_nil))))), ?_⟩
  refine ⟨_, rfl, _, rfl, a, b, ns, ms, rfl, hA, hB, gA, gB, hl, hf, fun H1 s1 => ?_⟩
  refine ⟨_, rfl, _, rfl, a, b, ns, ms, rfl, s1.seq hA, s1.seq hB, gA, gB, hl, fun D as cs z H' sm fD dD nd nDa fr ll clm last jn => ?_⟩
  have ez := join_fin (Sh.isSh_can gB).1 hl hf jn
  subst ez
  exact q D as cs H' (s1.trans sm) (s1.free fD) dD nd nDa (fun p hp => s1.free (fr p hp)) ll clm last
theorem scMR1 : FnScope ["shares", "rises", "left"] ["shares"] (defScope sMR1) := ⟨rfl, rfl, rfl, by decide +kernel, rfl, by decide +kernel, by decide +kernel⟩
theorem ok_mr1 {f : Addr} {fd : FuncData} (F : Fun K "many_rises_to_one_share" "many_rises_to_one_share" sMR1 f fd) (mr : mg "range" = none) : FnOk P w K mg base CX0 1 f fd ["shares"] (spMR1 K) := by
  refine F.ok scMR1 (fun vs H Q E h => ?_) (fun cdv A outer s H vs Q E hr h => ?_)
  · obtain ⟨k, rfl, _⟩ := h
    rfl
  obtain ⟨k, rfl, k1, k2, q⟩ := h
  refine ⟨_, pss_cons (ps_set (i := 1) scMR1.nd rfl (Or.inl rfl) pe_int)
    (pss_cons (ps_for PassesOwn.never rfl (pi_range2 rfl mr (pa_cons pe_int (pa_cons (pe_op op_add (pv 0) pe_int) pa_nil))) (pg_name (i := 2) scMR1.nd rfl (Or.inl rfl))
      (pss_one (ps_aug (i := 1) scMR1.nd rfl (Or.inl rfl) (pe_op op_fdiv (pe_op op_mul (pv 2) (pe_op op_sub (pv 2) pe_int)) pe_int) iop_mul)))
    (pss_one (ps_ret (pv 1)))), ?_⟩
  refine ⟨_, rfl, _, _, rfl, rfl, 2, (k : Int) + 1, rfl, ⟨by decide, by decide, by omega, by omega⟩, for_range (lo := 2) (n := ((k : Int) + 1 - 2).toNat) (fun j σ H2 => ∃ v, σ = [some (.int (k : Int)), some (.int ((Sh.m1P j : Nat) : Int)), v] ∧ H2 = H)
    ⟨none, rfl, rfl⟩ ?_ ?_⟩
  · rintro j σ H2 hj ⟨v, rfl, rfl⟩
    have ep : ((2 : Int) + (j : Int)) * (2 + (j : Int) - 1) = (((j + 2) * (j + 1) : Nat) : Int) := by
      rw [Int.natCast_mul]
      congr 1 <;> omega
    refine ⟨_, rfl, _, rfl, _, rfl, _, _, rfl, rfl, _, _, rfl, rfl, .inr ⟨by omega, by omega⟩, _, _, rfl, rfl, ⟨by decide, by decide⟩, _, _, rfl, rfl, .inl ⟨?_, ?_⟩, ?_⟩
    · omega
    · have := m1_small j (by omega)
      omega
    · refine ⟨some (.int (2 + (j : Int))), ?_, rfl⟩
      have e : ((Sh.m1P j : Nat) : Int) * (((2 : Int) + (j : Int)) * (2 + (j : Int) - 1) / 2) = ((Sh.m1P (j + 1) : Nat) : Int) := by
        rw [ep]
        show _ = ((Sh.m1P j * ((j + 2) * (j + 1) / 2) : Nat) : Int)
        rw [Int.natCast_mul]
        rfl
      show [_, some (V.int (((Sh.m1P j : Nat) : Int) * (((2 : Int) + (j : Int)) * (2 + (j : Int) - 1) / 2))), _] = _
      rw [e]
  · rintro σ H2 ⟨v, rfl, rfl⟩
    rw [show ((k : Int) + 1 - 2).toNat = k - 1 by omega]
    exact ⟨_, rfl, q⟩
theorem scMR : FnScope ["one", "other", "rises", "steps_taken", "joined", "step"] ["one", "other"] (defScope sMR) := ⟨rfl, rfl, rfl, by decide +kernel, rfl, by decide +kernel, by decide +kernel⟩
theorem ok_mr {f : Addr} {fd : FuncData} (F : Fun K "many_rises" "many_rises" sMR f fd) (GA : Fn P w K mg base "ask_finer" ["one", "other"] 7 (spAskFin K)) (GJ : Fn P w K mg base "joined_numbers" ["one", "other"] 5 (spJN K)) (G1 : Fn P w K mg base "many_rises_to_one_share" ["shares"] 1 (spMR1 K)) (mr : mg "range" = none) : FnOk P w K mg base CX0 8 f fd ["one", "other"] (spMR K) := by
  refine F.ok scMR (fun vs H Q E h => ?_) (fun cdv A outer s H vs Q E hr h => ?_)
  · obtain ⟨a, b, ns, ms, rfl, _⟩ := h
    rfl
  obtain ⟨a, b, ns, ms, rfl, hA, hB, gA, gB, hl, hf, q⟩ := h
  have hn12 := (Sh.isSh_can gA).2.2
  have hb := fr_12 gB
  have hnl : (Sh.nums ns ms).length ≤ 12 := by unfold Sh.nums; rw [List.length_map, Sh.shs_len]; omega
  refine ⟨_, pss_cons (ps_expr (pe_fn GA hr (pa_cons (pv 0) (pa_cons (pv 1) pa_nil))))
    (pss_cons (ps_set (i := 2) scMR.nd rfl (Or.inl rfl) pe_int)
    (pss_cons (ps_set (i := 3) scMR.nd rfl (Or.inl rfl) pe_int)
    (pss_cons (ps_for PassesOwn.never rfl (pi_list (pe_fn GJ (hr.mono (by decide)) (pa_cons (pv 0) (pa_cons (pv 1) pa_nil)))) (pg_name (i := 4) scMR.nd rfl (Or.inl rfl))
      (pss_cons (ps_aug (i := 2) scMR.nd rfl (Or.inl rfl) (pe_fn G1 (hr.mono (by decide)) (pa_cons (pv 4) pa_nil)) iop_mul)
      (pss_one (ps_for PassesOwn.never rfl (pi_range2 rfl mr (pa_cons pe_int (pa_cons (pv 4) pa_nil))) (pg_name (i := 5) scMR.nd rfl (Or.inl rfl))
        (pss_cons (ps_aug (i := 3) scMR.nd rfl (Or.inl rfl) pe_int ip_add)
        (pss_one (ps_set (i := 2) scMR.nd rfl (Or.inl rfl) (pe_op op_fdiv (pe_op op_mul (pv 2) (pv 3)) (pv 5)))))))))
    (pss_one (ps_ret (pv 2)))))), ?_⟩
  refine ⟨_, rfl, _, rfl, a, b, ns, ms, rfl, hA, hB, gA, gB, hl, hf, fun H1 s1 => ?_⟩
  refine ⟨_, rfl, _, rfl, a, b, ns, ms, rfl, s1.seq hA, s1.seq hB, gA, gB, hl, fun D H2 s2 fD dD => ?_⟩
  refine ⟨D, rfl, ⟨_, SqL.of dD⟩, for_list (K := K) (a := D) (xs := (numsI ns ms).map V.int) (fun i σ H3 => ∃ v4 v5, σ = [some (.ref a), some (.ref b), some (.int (((Sh.mrS ((Sh.nums ns ms).take i)).1 : Nat) : Int)), some (.int (((Sh.mrS ((Sh.nums ns ms).take i)).2 : Nat) : Int)), v4, v5] ∧ H3 = H2)
    ⟨none, none, rfl, rfl⟩ (fun i σ H3 _ ⟨_, _, _, e⟩ => by rw [e]; exact SqL.of dD) ?_ ?_⟩
  · rintro i x σ H3 hi ⟨v4, v5, rfl, rfl⟩
    obtain ⟨z, hz, rfl⟩ := ints_get hi
    unfold numsI at hz
    rw [List.getElem?_map] at hz
    cases ek : (Sh.nums ns ms)[i]? with
    | none => rw [ek] at hz; cases hz
    | some k =>
      rw [ek] at hz
      have ez : (k : Int) = z := Option.some.inj hz
      subst ez
      obtain ⟨k1, k2⟩ := nums_pos (Sh.isSh_can gB).1 hl k (List.mem_of_getElem? ek)
      have et : (Sh.nums ns ms).take (i + 1) = (Sh.nums ns ms).take i ++ [k] := by rw [List.take_add_one, ek]; rfl
      have hs2 : (Sh.mrS ((Sh.nums ns ms).take i)).2 ≤ 144 := by
        unfold Sh.mrS
        rw [mrG_snd]
        have h1 := stL_le ((Sh.nums ns ms).take i) fun j hj => by
          have := (nums_pos (Sh.isSh_can gB).1 hl j (List.mem_of_mem_take hj)).2
          omega
        rw [List.length_take] at h1
        show 0 + _ ≤ _
        omega
      have en : Sh.mrS ((Sh.nums ns ms).take (i + 1)) = Sh.inN ((Sh.mrS ((Sh.nums ns ms).take i)).1 * Sh.m1P (k - 1)) (Sh.mrS ((Sh.nums ns ms).take i)).2 (k - 1) := by rw [et]; exact Sh.mrG_snoc _ _ _
      rw [en]
      generalize Sh.mrS ((Sh.nums ns ms).take i) = RS at hs2 ⊢
      obtain ⟨r, t⟩ := RS
      have m1 := m1_small (k - 1) (by omega)
      refine ⟨_, rfl, _, rfl, k, rfl, k1, by omega, _, _, rfl, rfl, .inr ⟨by omega, by omega⟩, ?_⟩
      refine ⟨_, rfl, 1, (k : Int), rfl, ⟨by decide, by decide, by omega, by omega⟩, for_range (lo := 1) (n := ((k : Int) - 1).toNat) (fun j σ H4 => ∃ v5, σ = [some (.ref a), some (.ref b), some (.int (((Sh.inN (r * Sh.m1P (k - 1)) t j).1 : Nat) : Int)), some (.int (((Sh.inN (r * Sh.m1P (k - 1)) t j).2 : Nat) : Int)), some (.int (k : Int)), v5] ∧ H4 = H3)
        ⟨v5, ?_, rfl⟩ ?_ ?_⟩
      · show [_, _, some (V.int ((r : Int) * ((Sh.m1P (k - 1) : Nat) : Int))), _, _, _] = [_, _, some (V.int ((r * Sh.m1P (k - 1) : Nat) : Int)), _, _, _]
        rw [Int.natCast_mul]
        rfl
      · rintro j σ H4 hj ⟨v5, rfl, rfl⟩
        have e2 := inN_snd (r * Sh.m1P (k - 1)) t j
        have hs2' : t ≤ 144 := hs2
        refine ⟨_, rfl, _, _, rfl, rfl, ?_⟩
        refine ⟨_, rfl, _, rfl, _, _, rfl, rfl, .inr ⟨by dsimp only; omega, by dsimp only; omega⟩, _, rfl, _, _, rfl, rfl, ⟨by omega, by omega⟩, ?_⟩
        refine ⟨some (.int (1 + (j : Int))), ?_, rfl⟩
        have e3 : (((Sh.inN (r * Sh.m1P (k - 1)) t j).1 : Nat) : Int) * ((((Sh.inN (r * Sh.m1P (k - 1)) t j).2 : Nat) : Int) + 1) / (1 + (j : Int)) = (((Sh.inN (r * Sh.m1P (k - 1)) t (j + 1)).1 : Nat) : Int) := by
          show _ = (((Sh.inN (r * Sh.m1P (k - 1)) t j).1 * ((Sh.inN (r * Sh.m1P (k - 1)) t j).2 + 1) / (j + 1) : Nat) : Int)
          rw [Int.natCast_ediv, Int.natCast_mul, Int.natCast_add, Int.natCast_add, Int.add_comm 1 (j : Int)]
          rfl
        show [_, _, some (V.int ((((Sh.inN (r * Sh.m1P (k - 1)) t j).1 : Nat) : Int) * ((((Sh.inN (r * Sh.m1P (k - 1)) t j).2 : Nat) : Int) + 1) / (1 + (j : Int)))), _, _, _] = _
        rw [e3]
        rfl
      · rintro σ H4 ⟨v5, rfl, rfl⟩
        rw [show ((k : Int) - 1).toNat = k - 1 by omega]
        exact ⟨some (.int (k : Int)), v5, rfl, rfl⟩
  · rintro σ H3 ⟨v4, v5, rfl, rfl⟩
    have e : (Sh.nums ns ms).take ((numsI ns ms).map V.int).length = Sh.nums ns ms := by
      rw [List.take_of_length_le]
      unfold numsI
      rw [List.length_map, List.length_map]
      exact Nat.le_refl _
    rw [e]
    exact ⟨_, rfl, q H3 (s1.trans s2)⟩
end
def spLProd (K : PySem.W.Frag) : Sp := fun vs H Q _ => ∃ (n : Nat), vs = [.int (n : Int)] ∧ n ≤ 12 ∧ Q (.int ((Sh.fac n : Nat) : Int)) H
def spLReck (K : PySem.W.Frag) : Sp := fun vs H Q _ => ∃ (a b : Addr) (ns ms : List Int), vs = [.ref a, .ref b] ∧ SqL K H a (ns.map V.int) ∧ SqL K H b (ms.map V.int) ∧ Sh.isSh ns = true ∧ Sh.isSh ms = true ∧ ns.length = ms.length ∧ Sh.fr ms ≤ Sh.fr ns ∧
  ∀ (H' : Hp), Same H H' → Q (.int ((Sh.rkG (Sh.fac (Sh.fr ns - Sh.fr ms).toNat) (Sh.nums ns ms) / 2 ^ (Sh.fr ns - Sh.fr ms).toNat : Nat) : Int)) H'
theorem at_nn {xs : List Int} {z : Int} (h0 : 0 ≤ z) (h1 : z < xs.length) : atI (xs.map V.int) z = some (.int (xs.getD z.toNat 0)) := by
  have hzl : z.toNat < xs.length := by omega
  have q1 : atI (xs.map V.int) ((z.toNat : Nat) : Int) = some (.int (xs.getD z.toNat 0)) := atI_nat (by rw [List.getElem?_map, List.getD_eq_getElem?_getD, List.getElem?_eq_getElem hzl]; rfl)
  rw [Int.toNat_of_nonneg h0] at q1
  exact q1
theorem fac_small : ∀ t, t < 13 → Sh.fac t < 2 ^ 60 := by decide +kernel
section
variable {P : Program} {w : World} {K : PySem.W.Frag} {mg : Str → Option Value} {base : Heap}
theorem scLProd : FnScope ["number", "found", "k"] ["number"] (defScope sLProd) := ⟨rfl, rfl, rfl, by decide +kernel, rfl, by decide +kernel, by decide +kernel⟩
theorem ok_lprod {f : Addr} {fd : FuncData} (F : Fun K "_law_product" "_law_product" sLProd f fd) (mr : mg "range" = none) : FnOk P w K mg base CX0 1 f fd ["number"] (spLProd K) := by
  refine F.ok scLProd (fun vs H Q E h => ?_) (fun cdv A outer s H vs Q E hr h => ?_)
  · obtain ⟨k, rfl, _⟩ := h
    rfl
  obtain ⟨n, rfl, k2, q⟩ := h
  refine ⟨_, pss_cons (ps_set (i := 1) scLProd.nd rfl (Or.inl rfl) pe_int)
    (pss_cons (ps_for PassesOwn.never rfl (pi_range2 rfl mr (pa_cons pe_int (pa_cons (pe_op op_add (pv 0) pe_int) pa_nil))) (pg_name (i := 2) scLProd.nd rfl (Or.inl rfl))
      (pss_one (ps_set (i := 1) scLProd.nd rfl (Or.inl rfl) (pe_op op_mul (pv 1) (pv 2)))))
    (pss_one (ps_ret (pv 1)))), ?_⟩
  refine ⟨_, rfl, _, _, rfl, rfl, 2, (n : Int) + 1, rfl, ⟨by decide, by decide, by omega, by omega⟩, for_range (lo := 2) (n := ((n : Int) + 1 - 2).toNat) (fun j σ H2 => ∃ v, σ = [some (.int (n : Int)), some (.int ((Sh.facP j : Nat) : Int)), v] ∧ H2 = H)
    ⟨none, rfl, rfl⟩ ?_ ?_⟩
  · rintro j σ H2 hj ⟨v, rfl, rfl⟩
    refine ⟨_, rfl, _, rfl, _, _, rfl, rfl, .inr ⟨by omega, by omega⟩, ?_⟩
    refine ⟨some (.int (2 + (j : Int))), ?_, rfl⟩
    have e : ((Sh.facP j : Nat) : Int) * (2 + (j : Int)) = ((Sh.facP (j + 1) : Nat) : Int) := by
      show _ = ((Sh.facP j * (j + 2) : Nat) : Int)
      rw [Int.natCast_mul]
      congr 1
      omega
    show [_, some (V.int (((Sh.facP j : Nat) : Int) * (2 + (j : Int)))), _] = _
    rw [e]
  · rintro σ H2 ⟨v, rfl, rfl⟩
    rw [show ((n : Int) + 1 - 2).toNat = n - 1 by omega]
    exact ⟨_, rfl, q⟩
theorem nd_koom : (["k", "one", "other", "mark"] : List Str).Nodup := by decide +kernel
theorem scLReck : FnScope ["one", "other", "steps", "found", "halves", "mark", "size", "step"] ["one", "other"] (defScope sLReck) := ⟨rfl, rfl, rfl, by decide +kernel, rfl, by decide +kernel, by decide +kernel⟩
theorem ok_lreck {f : Addr} {fd : FuncData} (F : Fun K "_law_reckoned" "_law_reckoned" sLReck f fd) (GP : Fn P w K mg base "_law_product" ["number"] 1 (spLProd K)) (mr : mg "range" = none) (ml : mg "len" = none) (mm : mg "max" = none) (mst : mg "set" = none) : FnOk P w K mg base CX0 2 f fd ["one", "other"] (spLReck K) := by
  refine F.ok scLReck (fun vs H Q E h => ?_) (fun cdv A outer s H vs Q E hr h => ?_)
  · obtain ⟨a, b, ns, ms, rfl, _⟩ := h
    rfl
  obtain ⟨o1, o2, m1, m2, rfl, g1, g2, h1, h2, hl, hle, q⟩ := h
  obtain ⟨c1, a1, a2⟩ := Sh.isSh_can h1
  obtain ⟨c2, b1, b2⟩ := Sh.isSh_can h2
  have hne1 : m1 ≠ [] := fun e => by rw [e] at a1; simp at a1
  have hne2 : m2 ≠ [] := fun e => by rw [e] at b1; simp at b1
  refine ⟨_, pss_cons (ps_set (i := 2) scLReck.nd rfl (Or.inl rfl) (pe_op op_sub (pe_callB (call_maxL rfl) rfl mm boot_max (pa_cons (pv 0) pa_nil)) (pe_callB (call_maxL rfl) rfl mm boot_max (pa_cons (pv 1) pa_nil))))
    (pss_cons (ps_set (i := 3) scLReck.nd rfl (Or.inl rfl) (pe_fn GP hr (pa_cons (pv 2) pa_nil)))
    (pss_cons (ps_set (i := 4) scLReck.nd rfl (Or.inl rfl) pe_int)
    (pss_cons (ps_for PassesOwn.never rfl (pi_range1 rfl mr (pa_cons (pe_op op_add (pe_callB (call_maxL rfl) rfl mm boot_max (pa_cons (pv 1) pa_nil)) pe_int) pa_nil)) (pg_name (i := 5) scLReck.nd rfl (Or.inr rfl))
      (pss_cons (ps_set (i := 6) scLReck.nd rfl (Or.inl rfl) (pe_lenset rfl rfl ml rfl mst (pa_cons (pe_comp ["k", "one", "other", "mark"] [none, some 0, some 1, some 5] rfl rfl (pi_range1 rfl mr (pa_cons (pe_callB call_len_seq rfl ml PySem.boot_len (pa_cons (pv 0) pa_nil)) pa_nil)) (fun _ _ _ _ => pg_name (i := 0) nd_koom rfl (Or.inl rfl))
        (fun _ _ _ _ => pts_one (pt_cmpR op_eq (pe_ix (ix_listK (K := K)) (pv 2) (pv 0) (fun _ _ => rfl)) (pv 3) (nomark _))) (fun _ _ _ _ => pe_ix (ix_listK (K := K)) (pv 1) (pv 0) (fun _ _ => rfl))) pa_nil)))
      (pss_one (ps_set (i := 3) scLReck.nd rfl (Or.inl rfl) (pe_op op_mul (pv 3) (pe_fn GP hr (pa_cons (pv 6) pa_nil)))))))
    (pss_cons (ps_for PassesOwn.never rfl (pi_range1 rfl mr (pa_cons (pv 2) pa_nil)) (pg_name (i := 7) scLReck.nd rfl (Or.inl rfl))
      (pss_one (ps_set (i := 4) scLReck.nd rfl (Or.inl rfl) (pe_op op_mul (pv 4) pe_int))))
    (pss_one (ps_ret (pe_op op_fdiv (pv 3) (pv 4)))))))), ?_⟩
  refine ⟨_, rfl, o1, m1, rfl, g1, hne1, fun M1 hM1 hle1 => ?_⟩
  refine ⟨_, rfl, o2, m2, rfl, g2, hne2, fun M2 hM2 hle2 => ?_⟩
  have hfr1 := Sh.fr_max hM1 hle1 (Sh.can_nonneg c1 M1 hM1)
  have hfr2 := Sh.fr_max hM2 hle2 (Sh.can_nonneg c2 M2 hM2)
  have f1 := fr_12 h1
  have f2 := fr_12 h2
  have zf2 := Sh.fr_nonneg m2
  obtain ⟨st, est⟩ : ∃ st : Nat, (Sh.fr m1 - Sh.fr m2).toNat = st := ⟨_, rfl⟩
  rw [est] at q
  have ems : M1 - M2 = (st : Int) := by omega
  have st12 : st ≤ 12 := by omega
  refine ⟨_, _, rfl, rfl, ?_⟩
  refine ⟨_, rfl, st, (by show [V.int (M1 - M2)] = _; rw [ems]), st12, ?_⟩
  refine ⟨_, rfl, o2, m2, rfl, g2, hne2, fun M2' hM2' hle2' => ?_⟩
  have hfr2' := Sh.fr_max hM2' hle2' (Sh.can_nonneg c2 M2' hM2')
  have hnl : (Sh.nums m1 m2).length = (Sh.fr m2).toNat := by unfold Sh.nums; rw [List.length_map, Sh.shs_len]
  refine ⟨_, _, rfl, rfl, _, rfl, by omega, by omega, for_range (lo := 0) (n := (M2' + 1).toNat) (fun i σ H9 => ∃ v5 v6, σ = [some (.ref o1), some (.ref o2), some (.int (M1 - M2)), some (.int ((Sh.rkG (Sh.fac st) ((Sh.nums m1 m2).take i) : Nat) : Int)), some (.int 1), v5, v6, none] ∧ Same H H9)
    ⟨none, none, rfl, Same.refl _⟩ ?_ ?_⟩
  · rintro i σ H9 hi ⟨v5, v6, rfl, s9⟩
    have hi' : i < (Sh.fr m2).toNat := by omega
    have g1 := s9.seq g1
    have g2 := s9.seq g2
    refine ⟨_, rfl, o1, _, rfl, .inl g1, _, rfl, by rw [List.length_map]; omega, by rw [List.length_map]; omega, ?_⟩
    rw [List.length_map, Int.toNat_natCast, hl]
    refine comp_range (lo := 0) (n := m2.length) (fun j zs τ H10 => ∃ v, τ = [v, some (.ref o1), some (.ref o2), some (.int (0 + (i : Int)))] ∧ H10 = H9 ∧ zs = (((Sh.sh1 m2 j (i : Int)).map fun t => m1.getD t.toNat 0).map V.int)) ⟨none, rfl, rfl, rfl⟩ ?_ ?_ ?_
    · rintro j zs τ H10 hj ⟨v, rfl, rfl, rfl⟩
      refine small1000 ?_
      rw [List.length_map, List.length_map]
      unfold Sh.sh1
      rw [List.length_map]
      have := List.length_filter_le (fun t => decide (m2[t]? = some (i : Int))) (List.range j)
      rw [List.length_range] at this
      omega
    · rintro j zs τ H10 hj ⟨v, rfl, rfl, rfl⟩
      have ej := List.getElem?_eq_getElem hj
      refine ⟨_, rfl, _, rfl, o2, _, _, _, rfl, rfl, g2, at_nn (by omega) (by omega), _, rfl, rfl, _, rfl, ?_⟩
      have eg : m2.getD (0 + (j : Int)).toNat 0 = m2[j] := by
        rw [show (0 + (j : Int)).toNat = j by omega, List.getD_eq_getElem?_getD, ej]
        rfl
      refine ite2 (fun c => ?_) (fun c => ?_)
      · have c' : m2[j] = (i : Int) := by
          have := of_decide_eq_true c
          injection this with this
          omega
        refine ⟨_, rfl, _, rfl, o1, _, _, _, rfl, rfl, g1, at_nn (by omega) (by omega), _, rfl, rfl, ?_⟩
        rw [Sh.sh1_succ, if_pos (by rw [ej, c']), List.map_append, List.map_append]
        show _ ++ [V.int (m1.getD (0 + (j : Int)).toNat 0)] = _ ++ [V.int (m1.getD ((j : Int)).toNat 0)]
        rw [Int.zero_add]
      · have c' : ¬ m2[j] = (i : Int) := fun e => c (decide_eq_true (by rw [eg, e, Int.zero_add]))
        refine ⟨_, rfl, rfl, ?_⟩
        rw [Sh.sh1_succ, if_neg (by rw [ej]; intro e; exact c' (Option.some.inj e)), List.append_nil]
    · rintro zs τ H10 ⟨v, rfl, rfl, rfl⟩ D hD
      have t1 := same_upd hD (.lst (((Sh.sh1 m2 m2.length (i : Int)).map fun t => m1.getD t.toNat 0).map V.int))
      have hsl : (Sh.sh1 m2 m2.length (i : Int)).length ≤ 12 := by
        unfold Sh.sh1
        rw [List.length_map]
        have := List.length_filter_le (fun t => decide (m2[t]? = some (i : Int))) (List.range m2.length)
        rw [List.length_range] at this
        omega
      refine ⟨D, _, rfl, SqL.of upd_same, by rw [List.length_map]; omega, ?_⟩
      have ek : (Sh.nums m1 m2)[i]? = some (Sh.dd ((Sh.sh1 m2 m2.length (i : Int)).map fun t => m1.getD t.toNat 0)).length := by
        unfold Sh.nums
        rw [List.getElem?_map, Sh.shs_get hi']
        rfl
      generalize (Sh.dd ((Sh.sh1 m2 m2.length (i : Int)).map fun t => m1.getD t.toNat 0)).length = k at ek ⊢
      obtain ⟨k1, k2⟩ := nums_pos c2 (by omega) k (List.mem_of_getElem? ek)
      have fk := fac_small k (by omega)
      refine ⟨_, rfl, _, rfl, k, rfl, by omega, _, _, rfl, rfl, .inr ⟨by omega, by omega⟩, ?_⟩
      refine ⟨some (.int (0 + (i : Int))), some (.int (k : Int)), ?_, s9.trans t1⟩
      rw [List.take_add_one, ek]
      show _ = [_, _, _, some (V.int ((Sh.rkG (Sh.fac st) (_ ++ [k]) : Nat) : Int)), _, _, _, _]
      rw [Sh.rkG_snoc, Int.natCast_mul]
      rfl
  rintro σ H9 ⟨v5, v6, rfl, s9⟩
  have etk : (Sh.nums m1 m2).take (M2' + 1).toNat = Sh.nums m1 m2 := List.take_of_length_le (by omega)
  rw [etk]
  refine ⟨_, rfl, _, rfl, by omega, by omega, for_range (lo := 0) (n := (M1 - M2).toNat) (fun i σ H10 => ∃ v7, σ = [some (.ref o1), some (.ref o2), some (.int (M1 - M2)), some (.int ((Sh.rkG (Sh.fac st) (Sh.nums m1 m2) : Nat) : Int)), some (.int ((2 ^ i : Nat) : Int)), v5, v6, v7] ∧ H10 = H9)
    ⟨none, rfl, rfl⟩ ?_ ?_⟩
  · rintro i σ H10 hi ⟨v7, rfl, rfl⟩
    refine ⟨_, rfl, _, _, rfl, rfl, .inr ⟨by decide, by decide⟩, ?_⟩
    refine ⟨some (.int (0 + (i : Int))), ?_, rfl⟩
    show [_, _, _, _, some (V.int (((2 ^ i : Nat) : Int) * 2)), _, _, _] = [_, _, _, _, some (V.int ((2 ^ (i + 1) : Nat) : Int)), _, _, _]
    rw [Nat.pow_succ, Int.natCast_mul]
    rfl
  rintro σ H10 ⟨v7, rfl, rfl⟩
  rw [show (M1 - M2).toNat = st by omega]
  have pw : 2 ^ st ≤ 2 ^ 12 := Nat.pow_le_pow_right (by decide) st12
  have pp : 0 < 2 ^ st := Nat.pow_pos (by decide)
  refine ⟨_, rfl, _, rfl, _, _, rfl, rfl, ⟨by omega, by omega⟩, ?_⟩
  have qq := q H10 s9
  rw [Int.natCast_ediv] at qq
  exact qq
end
def spGood9 (K : PySem.W.Frag) : Sp := fun vs H Q _ => ∃ (D a b : Addr) (as : List Addr) (cs : List (List Int)) (ns ms : List Int), vs = [.ref D, .ref a, .ref b] ∧ H D = some (.lst (as.map V.ref)) ∧ LL H as cs ∧ SqL K H a (ns.map V.int) ∧ SqL K H b (ms.map V.int) ∧
  Sh.isSh ns = true ∧ Sh.isSh ms = true ∧ ns.length = ms.length ∧ Sh.Clm ns ms cs ∧ cs[cs.length - 1]? = some ms ∧ ∀ (H' : Hp), Same H H' → Q (.bl true) H'
theorem dd_fr {c : List Int} (h : Sh.Can c) : ((Sh.dd c).length : Int) = Sh.fr c := by
  have z := Sh.fr_nonneg c
  rw [Sh.can_dd h, Sh.length_upto]
  omega
theorem stp_fin {c d : List Int} (h : Sh.Stp c d) : Sh.Fin c d := by
  obtain ⟨p, q, hp, hq, hne, rfl⟩ := h
  exact fun i j hi hj e => Sh.stp_mono hi hj e
theorem ref_at {as : List Addr} {k : Nat} {p : Addr} (h : as[k]? = some p) : atI (as.map V.ref) (k : Int) = some (.ref p) := atI_nat (by rw [List.getElem?_map, h]; rfl)
section
variable {P : Program} {w : World} {K : PySem.W.Frag} {mg : Str → Option Value} {base : Heap}
theorem scGood9 : FnScope ["found", "one", "other", "row", "k"] ["found", "one", "other"] (defScope sGood) := ⟨rfl, rfl, rfl, by decide +kernel, rfl, by decide +kernel, by decide +kernel⟩
theorem ok_good9 {f : Addr} {fd : FuncData} (F : Fun K "_law_good" "_law_good" sGood f fd) (GN : Fn P w K mg base "_law_numbers" ["found", "due"] 2 (spNums K)) (GM : Fn P w K mg base "_law_named" ["names"] 1 (spMarked (labInt K))) (GF : Fn P w K mg base "_law_finer" ["one", "other"] 1 (spLFiner K)) (ml : mg "len" = none) (mi : mg "isinstance" = none) (mlst : mg "list" = none) (mm : mg "max" = none) (mr : mg "range" = none) : FnOk P w K mg base CX0 3 f fd ["found", "one", "other"] (spGood9 K) := by
  refine F.ok scGood9 (fun vs H Q E h => ?_) (fun cdv A outer s H vs Q E hr h => ?_)
  · obtain ⟨D, a, b, as, cs, ns, ms, rfl, _⟩ := h
    rfl
  obtain ⟨D, a, b, as, cs, ns, ms, rfl, dD, ll, hA, hB, h1, h2, hl, clm, last, q⟩ := h
  have hu' := Nat.lt_of_succ_lt (hu_of hr)
  have hr1 : Room 1 _ := hr.mono (by decide)
  obtain ⟨c1, a1, a2⟩ := Sh.isSh_can h1
  obtain ⟨c2, b1, b2⟩ := Sh.isSh_can h2
  have hne1 : ns ≠ [] := fun e => by rw [e] at a1; simp at a1
  have hne2 : ms ≠ [] := fun e => by rw [e] at b1; simp at b1
  have lt0 := (List.getElem?_eq_some_iff.mp last).1
  have hlen := clm.dd _ _ last
  have d1 := dd_fr c1
  have d2 := dd_fr c2
  have bnd := clm.bound
  refine ⟨_, pss_cons (ps_if (PW.pt (pw_or (pt_not (pt_val (pe_callB call_isinst rfl mi boot_isinstance (pa_cons (pv 0) (pa_cons (pe_bltn (v := .ty "list") rfl mlst boot_list rfl) pa_nil)))))
      (pw_or1 (pt_cmpR op_ne (pe_callB call_len_seq rfl ml PySem.boot_len (pa_cons (pv 0) pa_nil)) (pe_op op_add (pe_op op_sub (pe_callB (call_maxL rfl) rfl mm boot_max (pa_cons (pv 1) pa_nil)) (pe_callB (call_maxL rfl) rfl mm boot_max (pa_cons (pv 2) pa_nil))) pe_int) (nomark _))))) (pss_one (ps_ret pe_bl)) pss_nil)
    (pss_cons (ps_if (PW.pt (pw_or (pt_cmpR (op_neLI hu') (pe_ix ix_list (pv 0) pe_int (fun _ _ => rfl)) (pv 1) (nomark _)) (pw_or1 (pt_cmpR (op_neLI hu') (pe_ix ix_list (pv 0) (pe_un un_neg pe_int) (fun _ _ => rfl)) (pv 2) (nomark _))))) (pss_one (ps_ret pe_bl)) pss_nil)
    (pss_cons (ps_for PassesOwn.never rfl (pi_list (pv 0)) (pg_name (i := 3) scGood9.nd rfl (Or.inl rfl))
      (pss_one (ps_if (PW.pt (pw_or (pt_not (pt_val (pe_fn GN hr (pa_cons (pv 3) (pa_cons (pe_fn GM hr1 (pa_cons (pv 3) pa_nil)) pa_nil)))))
        (pw_or1 (pt_cmpR op_ne (pe_callB call_len_seq rfl ml PySem.boot_len (pa_cons (pv 3) pa_nil)) (pe_callB call_len_seq rfl ml PySem.boot_len (pa_cons (pv 1) pa_nil)) (nomark _))))) (pss_one (ps_ret pe_bl)) pss_nil)))
    (pss_cons (ps_for PassesOwn.never rfl (pi_range1 rfl mr (pa_cons (pe_op op_sub (pe_callB call_len_seq rfl ml PySem.boot_len (pa_cons (pv 0) pa_nil)) pe_int) pa_nil)) (pg_name (i := 4) scGood9.nd rfl (Or.inl rfl))
      (pss_one (ps_if (PW.pt (pw_or (pt_cmpR op_ne (pe_callB (call_maxL rfl) rfl mm boot_max (pa_cons (pe_ix ix_list (pv 0) (pe_op op_add (pv 4) pe_int) (fun _ _ => rfl)) pa_nil)) (pe_op op_sub (pe_callB (call_maxL rfl) rfl mm boot_max (pa_cons (pe_ix ix_list (pv 0) (pv 4) (fun _ _ => rfl)) pa_nil)) pe_int) (nomark _))
        (pw_or1 (pt_not (pt_val (pe_fn GF hr1 (pa_cons (pe_ix ix_list (pv 0) (pv 4) (fun _ _ => rfl)) (pa_cons (pe_ix ix_list (pv 0) (pe_op op_add (pv 4) pe_int) (fun _ _ => rfl)) pa_nil)))))))) (pss_one (ps_ret pe_bl)) pss_nil)))
    (pss_one (ps_ret pe_bl))))), ?_⟩
  refine ⟨_, rfl, _, "list", _, true, rfl, .lst dD, rfl, _, rfl, ?_⟩
  refine iteF ?_
  refine ⟨_, rfl, D, _, rfl, .inl (SqL.of dD), _, rfl, a, ns, rfl, hA, hne1, fun M1 hM1 hle1 => ?_⟩
  refine ⟨_, rfl, b, ms, rfl, hB, hne2, fun M2 hM2 hle2 => ?_⟩
  have hfr1 := Sh.fr_max hM1 hle1 (Sh.can_nonneg c1 M1 hM1)
  have hfr2 := Sh.fr_max hM2 hle2 (Sh.can_nonneg c2 M2 hM2)
  refine ⟨_, _, rfl, rfl, _, _, rfl, rfl, rfl, _, rfl, ?_⟩
  refine iteNS (by rw [List.length_map, ll.1]; congr 1; omega) ?_
  -- the ends
  have e0 := clm.hd
  have hpos : 0 < as.length := by rw [ll.1]; omega
  have ep0 := List.getElem?_eq_getElem hpos
  have hp0 := ll.2 0 _ _ ep0 e0
  have hla : as.length - 1 < as.length := by omega
  have epl := List.getElem?_eq_getElem hla
  have hpl := ll.2 _ _ ms epl (by rw [ll.1]; exact last)
  have atl : atI (as.map V.ref) (-1) = some (.ref as[as.length - 1]) := at_last (by rw [List.length_map, List.getElem?_map, epl]; rfl)
  refine ⟨_, rfl, D, _, _, _, rfl, rfl, SqL.of dD, ref_at ep0, _, rfl, as[0], a, ns, ns, rfl, rfl, SqL.of hp0, hA, _, rfl, ?_⟩
  refine iteNS rfl ?_
  refine ⟨_, rfl, 1, rfl, D, _, _, _, rfl, rfl, SqL.of dD, atl, _, rfl, as[as.length - 1], b, ms, ms, rfl, rfl, SqL.of hpl, hB, _, rfl, ?_⟩
  refine iteNS rfl ?_
  -- each row
  refine ⟨_, rfl, D, rfl, ⟨_, SqL.of dD⟩, for_list (K := K) (a := D) (xs := as.map V.ref) (fun i σ H2 => ∃ v, σ = [some (.ref D), some (.ref a), some (.ref b), v, none] ∧ Same H H2) ⟨none, rfl, Same.refl _⟩ (fun i σ H2 _ ⟨_, _, s2⟩ => SqL.of (s2 _ _ dD)) ?_ ?_⟩
  · rintro i x σ H2 hi ⟨v, rfl, s2⟩
    obtain ⟨p, c, rfl, e1, e2, e3⟩ := ll.at hi
    obtain ⟨cc, cl, _, _⟩ := clm.all c (List.mem_of_getElem? e2)
    have e3 := s2 _ _ e3
    refine ⟨_, rfl, _, rfl, p, _, c, rfl, SqL.of e3, labs_int _, by omega, fun D2 H3 s3 f3 d3 => ?_⟩
    rw [Sh.mk_can cc] at d3
    refine ⟨p, D2, c, c, rfl, s3 _ _ e3, SqL.of d3, _, rfl, ?_⟩
    rw [decide_eq_true (rfl : c = c)]
    refine iteF ?_
    refine ⟨_, rfl, p, _, rfl, .inl (SqL.of (s3 _ _ e3)), _, rfl, a, _, rfl, .inl ((s2.trans s3).seq hA), rfl, _, rfl, ?_⟩
    refine iteNS (by rw [List.length_map, List.length_map, cl]) ?_
    exact ⟨_, rfl, s2.trans s3⟩
  rintro σ H2 ⟨v, rfl, s2⟩
  have dD := s2 _ _ dD
  refine ⟨_, rfl, D, _, rfl, .inl (SqL.of dD), _, _, rfl, rfl, _, rfl, by rw [List.length_map, ll.1]; omega, by rw [List.length_map, ll.1]; omega, ?_⟩
  refine for_range (lo := 0) (n := (((as.map V.ref).length : Int) - 1).toNat) (fun i σ H3 => ∃ v4, σ = [some (.ref D), some (.ref a), some (.ref b), v, v4] ∧ H3 = H2) ⟨none, rfl, rfl⟩ ?_ ?_
  · rintro i σ H3 hi ⟨v4, rfl, rfl⟩
    rw [List.length_map, ll.1] at hi
    have hi1 : i + 1 < cs.length := by omega
    have ec := List.getElem?_eq_getElem (show i < cs.length by omega)
    have ed := List.getElem?_eq_getElem hi1
    obtain ⟨p, ep⟩ : ∃ p, as[i]? = some p := ⟨_, List.getElem?_eq_getElem (show i < as.length by rw [ll.1]; omega)⟩
    obtain ⟨p', eq⟩ : ∃ p', as[i + 1]? = some p' := ⟨_, List.getElem?_eq_getElem (show i + 1 < as.length by rw [ll.1]; omega)⟩
    have hp := s2 _ _ (ll.2 _ _ _ ep ec)
    have hq := s2 _ _ (ll.2 _ _ _ eq ed)
    have stp := clm.st i _ _ ec ed
    obtain ⟨cc, lc, _, _⟩ := clm.all _ (List.mem_of_getElem? ec)
    obtain ⟨cd, ld, _, _⟩ := clm.all _ (List.mem_of_getElem? ed)
    have sd := stp.dd
    have fd := Sh.finB_iff.mpr (stp_fin stp)
    generalize cs[i] = c at *
    generalize cs[i + 1] = d at *
    have fc := dd_fr cc
    have fd' := dd_fr cd
    have nc : c ≠ [] := fun e => by rw [e] at lc; simp at lc; omega
    have ndd : d ≠ [] := fun e => by rw [e] at ld; simp at ld; omega
    have at0 : atI (as.map V.ref) (0 + (i : Int)) = some (.ref p) := by rw [Int.zero_add]; exact ref_at ep
    have at1 : atI (as.map V.ref) (0 + (i : Int) + 1) = some (.ref p') := by rw [Int.zero_add]; exact ref_at (k := i + 1) eq
    refine ⟨_, rfl, _, rfl, _, _, rfl, rfl, D, _, _, _, rfl, rfl, SqL.of dD, at1, p', d, rfl, SqL.of hq, ndd, fun N1 hN1 hn1 => ?_⟩
    refine ⟨_, rfl, _, rfl, D, _, _, _, rfl, rfl, SqL.of dD, at0, p, c, rfl, SqL.of hp, nc, fun N2 hN2 hn2 => ?_⟩
    have g1 := Sh.fr_max hN1 hn1 (Sh.can_nonneg cd N1 hN1)
    have g2 := Sh.fr_max hN2 hn2 (Sh.can_nonneg cc N2 hN2)
    refine ⟨_, _, rfl, rfl, rfl, _, rfl, ?_⟩
    refine iteNS (by congr 1; omega) ?_
    refine ⟨_, rfl, _, rfl, D, _, _, _, rfl, rfl, SqL.of dD, at0, _, rfl, _, rfl, _, _, rfl, rfl, D, _, _, _, rfl, rfl, SqL.of dD, at1, p, p', c, d, rfl, SqL.of hp, SqL.of hq, by omega, by omega, _, rfl, ?_⟩
    rw [fd]
    refine iteF ?_
    exact ⟨_, rfl, rfl⟩
  rintro σ H3 ⟨v4, rfl, rfl⟩
  exact q _ s2
end
def encR (r : List Nat) : List Key := r.map fun n => Sum.inl ((n : Nat) : Int)
def encD (d : Sh.WD) : List (List Key × V) := d.map fun p => (encR p.1, V.int ((p.2 : Nat) : Int))
theorem encR_kV (r : List Nat) : (encR r).map kV = (r.map Int.ofNat).map V.int := by
  unfold encR
  rw [List.map_map, List.map_map]
  rfl
theorem encR_inj : ∀ {a b : List Nat}, encR a = encR b → a = b
  | [], [], _ => rfl
  | [], _ :: _, h => by simp [encR] at h
  | _ :: _, [], h => by simp [encR] at h
  | x :: a, y :: b, h => by
    have h' : (Sum.inl ((x : Nat) : Int) : Key) :: encR a = Sum.inl ((y : Nat) : Int) :: encR b := h
    injection h' with h1 h2
    injection h1 with h1
    rw [encR_inj h2, show x = y by omega]
theorem val_enc (k : List Nat) : ∀ d : Sh.WD, valV (encD d) (encR k) = (Sh.gtN d k).map fun (v : Nat) => V.int (v : Int)
  | [] => by
    show valV [] _ = _
    rw [valV_nil]
    rfl
  | p :: d => by
    have ih := val_enc k d
    by_cases e : p.1 = k
    · have g : Sh.gtN (p :: d) k = some p.2 := by unfold Sh.gtN; rw [List.find?_cons]; simp [e]
      rw [g]
      exact valV_pos (by show encR p.1 = _; rw [e])
    · have g : Sh.gtN (p :: d) k = Sh.gtN d k := by unfold Sh.gtN; rw [List.find?_cons]; simp [e]
      rw [g, ← ih]
      exact valV_neg (fun z => e (encR_inj z))
theorem put_enc {d : Sh.WD} (nd : (d.map (·.1)).Nodup) (k : List Nat) (v : Nat) : putK (encD d) (encR k) (V.int ((((Sh.gtN d k).getD 0 : Nat) : Int) + (v : Int))) = encD (Sh.bmp k v d) := by
  rw [Sh.bmp_put k v nd]
  unfold putK
  have ea : ((encD d).any fun kv => decide (kv.1 = encR k)) = d.any fun p => decide (p.1 = k) := by
    unfold encD
    rw [List.any_map]
    congr 1
    funext p
    show decide (encR p.1 = encR k) = decide (p.1 = k)
    by_cases e : p.1 = k
    · rw [e]; simp
    · rw [decide_eq_false e, decide_eq_false (fun z => e (encR_inj z))]
  rw [ea]
  split
  · unfold encD
    rw [List.map_map, List.map_map]
    apply List.map_congr_left
    intro p _
    show (if encR p.1 = encR k then (encR p.1, _) else (encR p.1, V.int ((p.2 : Nat) : Int))) = _
    by_cases e : p.1 = k
    · rw [if_pos (by rw [e])]
      show _ = (encR (if p.1 = k then (p.1, (Sh.gtN d k).getD 0 + v) else p).1, V.int (((if p.1 = k then (p.1, (Sh.gtN d k).getD 0 + v) else p).2 : Nat) : Int))
      rw [if_pos e, Int.natCast_add]
    · rw [if_neg (fun z => e (encR_inj z))]
      show _ = (encR (if p.1 = k then (p.1, (Sh.gtN d k).getD 0 + v) else p).1, V.int (((if p.1 = k then (p.1, (Sh.gtN d k).getD 0 + v) else p).2 : Nat) : Int))
      rw [if_neg e]
  · unfold encD
    rw [List.map_append]
    show _ ++ [(encR k, V.int ((((Sh.gtN d k).getD 0 : Nat) : Int) + (v : Int)))] = _ ++ [(encR k, V.int (((Sh.gtN d k).getD 0 + v : Nat) : Int))]
    rw [Int.natCast_add]
def Kp (H : Hp) (L : Addr) (H' : Hp) : Prop := ∀ p o, H p = some o → p ≠ L → H' p = some o
theorem Kp.same {H H1 H2 : Hp} {L : Addr} (k : Kp H L H1) (s : Same H1 H2) : Kp H L H2 := fun p o e n => s _ _ (k p o e n)
theorem Kp.put {H H1 : Hp} {L : Addr} {u : HO} (k : Kp H L H1) : Kp H L (upd H1 L u) := fun p o e n => by rw [upd_ne n]; exact k p o e n
def spLMany (K : PySem.W.Frag) : Sp := fun vs H Q _ => ∃ (a b : Addr) (ns gl : List Int), vs = [.ref a, .ref b] ∧ SqL K H a (ns.map V.int) ∧ SqL K H b ((ns.map (Sh.rho gl)).map V.int) ∧ Sh.Can ns ∧ Sh.Can gl ∧ (gl.length : Int) = Sh.fr ns ∧ ns.length ≤ 12 ∧ 1 ≤ gl.length ∧ gl.length < 7 ∧
  ∀ (H' : Hp), Same H H' → Q (.int ((Sh.mrN (Sh.numN (gl.map Int.toNat)) : Nat) : Int)) H'
theorem sq_ref {K : PySem.W.Frag} {H H' : Hp} {a L : Addr} {xs : List V} (k : Kp H L H') (h : H a = some (.lst xs)) (n : a ≠ L) : SqL K H' a xs := SqL.of (k _ _ h n)
section
variable {P : Program} {w : World} {K : PySem.W.Frag} {mg : Str → Option Value} {base : Heap}
theorem nd_moo : (["mark", "other", "one"] : List Str).Nodup := by decide +kernel
theorem nd_mfs : (["mark", "first", "second"] : List Str).Nodup := by decide +kernel
theorem scLMany : FnScope ["one", "other", "goal", "ways", "step", "later", "row", "first", "second", "joined"] ["one", "other"] (defScope sLMany) := ⟨rfl, rfl, rfl, by decide +kernel, rfl, by decide +kernel, by decide +kernel⟩
theorem ok_lmany {f : Addr} {fd : FuncData} (F : Fun K "_law_many" "_law_many" sLMany f fd) (GN : Fn P w K mg base "_law_named" ["names"] 1 (spMarked (labInt K))) (GF : Fn P w K mg base "_law_finer" ["one", "other"] 1 (spLFinerT K)) (mlst : mg "list" = none) (mm : mg "max" = none) (mr : mg "range" = none) (mt : mg "tuple" = none) : FnOk P w K mg base CX0 2 f fd ["one", "other"] (spLMany K) := by
  refine LQ.ok0 F scLMany (fun vs H Q E h => ?_) (fun cdv A outer s H vs Q E hr h => ?_)
  · obtain ⟨a, b, ns, ms, rfl, _⟩ := h
    rfl
  obtain ⟨a, b, ns, gl, rfl, hA, hB, c1, cg, hgl, l12, g1, g6, q⟩ := h
  have hu := hu_of hr
  have hu0 := Nat.lt_of_succ_lt hu
  have hne1 : ns ≠ [] := fun e => by rw [e] at hgl; have : Sh.fr [] = 0 := rfl; omega
  obtain ⟨c2, f2⟩ := Sh.comp_can c1 cg hgl
  have hne2 : ns.map (Sh.rho gl) ≠ [] := fun e => hne1 (List.map_eq_nil_iff.mp e)
  refine ⟨_, LQ.pss_cons (LQ.QS.mk (ps_comp (k := 2) ["mark", "other", "one"] [none, some 1, some 0] rfl rfl scLMany.nd rfl (Or.inl rfl) (pi_range1 rfl mr (pa_cons (pe_op op_add (pe_callB (call_maxL rfl) rfl mm boot_max (pa_cons (pv 0) pa_nil)) pe_int) pa_nil)) (fun _ _ _ _ => pg_name (i := 0) nd_moo rfl (Or.inl rfl)) (fun _ _ _ _ => pts_nil)
      (fun _ _ _ _ => pe_ix (ix_listK (K := K)) (pv 1) (pe_bmK (K := K) PySem.F.plainAttrs_list PySem.F.slot_list_index PySem.F.type_list_index (mt_index (labInt K) hu) (pv 2) (pa_cons (pv 0) pa_nil)) (fun _ _ => rfl))))
    (LQ.pss_cons (LQ.ps_set (i := 3) scLMany.nd rfl (Or.inl rfl) (LQ.QE.mk (pe_disp1 hu0 (pe_tuprange rfl rfl mt rfl mr (pa_cons (pe_op op_add (pe_callB (call_maxL rfl) rfl mm boot_max (pa_cons (pv 0) pa_nil)) pe_int) pa_nil)) pe_int)))
    (LQ.pss_cons (LQ.ps_for PassesOwn.never rfl (LQ.pi_range1 rfl mr (LQ.pa_cons (LQ.pe_op op_sub (LQ.pe_callB (call_maxL rfl) rfl mm boot_max (LQ.pa_cons (LQ.pv 0) LQ.pa_nil)) (LQ.pe_callB (call_maxL rfl) rfl mm boot_max (LQ.pa_cons (LQ.pv 1) LQ.pa_nil))) LQ.pa_nil)) (pg_name (i := 4) scLMany.nd rfl (Or.inl rfl))
      (LQ.pss_cons (LQ.ps_set (i := 5) scLMany.nd rfl (Or.inl rfl) (LQ.QE.mk pe_dnewT))
      (LQ.pss_cons (LQ.ps_for PassesOwn.never rfl (LQ.pi_list (LQ.pe_callTy (call_listD rfl) rfl mlst boot_list (LQ.pa_cons (LQ.pv 3) LQ.pa_nil))) (pg_name (i := 6) scLMany.nd rfl (Or.inl rfl))
        (LQ.pss_one (LQ.ps_for PassesOwn.never rfl (LQ.pi_range1 rfl mr (LQ.pa_cons (LQ.pe_op op_add (LQ.pe_callB (call_maxT rfl) rfl mm boot_max (LQ.pa_cons (LQ.pv 6) LQ.pa_nil)) LQ.pe_int) LQ.pa_nil)) (pg_name (i := 7) scLMany.nd rfl (Or.inr rfl))
          (LQ.pss_one (LQ.ps_for PassesOwn.never rfl (LQ.pi_range1 rfl mr (LQ.pa_cons (LQ.pv 7) LQ.pa_nil)) (pg_name (i := 8) scLMany.nd rfl (Or.inr rfl))
            (LQ.pss_cons (LQ.ps_set (i := 9) scLMany.nd rfl (Or.inl rfl) (LQ.pe_callTy call_tuple_of rfl mt boot_tuple (LQ.pa_cons (LQ.pe_fn GN hr (LQ.pa_cons (LQ.QE.mk (pe_comp ["mark", "first", "second"] [none, some 7, some 8] rfl rfl (pi_tup (pv 6)) (fun _ _ _ _ => pg_name (i := 0) nd_mfs rfl (Or.inl rfl)) (fun _ _ _ _ => pts_nil)
              (fun _ _ _ _ => pe_ifExp (pt_cmpR op_eq (pv 0) (pv 1) (nomark _)) (pv 2) (pv 0)))) LQ.pa_nil)) LQ.pa_nil)))
            (LQ.pss_one (LQ.ps_if (LQ.pt_val (LQ.pe_fn GF hr (LQ.pa_cons (LQ.pv 9) (LQ.pa_cons (LQ.pv 2) LQ.pa_nil))))
              (LQ.pss_one (LQ.ps_dput hu (LQ.pv 5) (LQ.pv 9) (LQ.pe_op op_add (LQ.QE.mk (pe_dget2 hu (pv 5) (pv 9) pe_int ⟨rfl, rfl, rfl, rfl⟩)) (LQ.pe_dget hu (LQ.pv 3) (LQ.pv 6) (fun _ _ => rfl))) rfl)) LQ.pss_nil))))))))
      (LQ.pss_one (LQ.ps_set (i := 3) scLMany.nd rfl (Or.inl rfl) (LQ.pv 5))))))
    (LQ.pss_one (LQ.ps_ret (LQ.QE.mk (pe_dget2 hu (pv 3) (pe_callTy call_tuple_of rfl mt boot_tuple (pa_cons (pv 2) pa_nil)) pe_int ⟨rfl, rfl, rfl, rfl⟩)))))), ?_⟩
  -- the goal
  refine ⟨_, rfl, a, ns, rfl, hA, hne1, fun M hM hle => ?_⟩
  have hfr := Sh.fr_max hM hle (Sh.can_nonneg c1 M hM)
  have eM : (M + 1).toNat = gl.length := by omega
  refine ⟨_, _, rfl, rfl, _, rfl, by omega, by omega, ?_⟩
  rw [eM]
  refine comp_range (lo := 0) (n := gl.length) (fun j zs τ H2 => ∃ v, τ = [v, some (.ref b), some (.ref a)] ∧ H2 = H ∧ zs = (gl.take j).map V.int) ⟨none, rfl, rfl, rfl⟩ ?_ ?_ ?_
  · rintro j zs τ H2 hj ⟨v, rfl, rfl, rfl⟩
    exact small1000 (by rw [List.length_map, List.length_take]; omega)
  · rintro j zs τ H2 hj ⟨v, rfl, rfl, rfl⟩
    have hin : (0 + (j : Int)) ∈ ns := Sh.can_has c1 (by omega) (by omega)
    have hix := List.idxOf_lt_length_of_mem hin
    have eat : atI ((ns.map (Sh.rho gl)).map V.int) ((ns.idxOf (0 + (j : Int)) : Nat) : Int) = some (.int gl[j]) := atI_nat (by
      rw [List.getElem?_map, List.getElem?_map, List.getElem?_eq_getElem hix, List.getElem_idxOf hix]
      have := Sh.rho_get (row := gl) (m := 0 + (j : Int)) (by omega) (by omega)
      rw [show (0 + (j : Int)).toNat = j by omega, List.getElem?_eq_getElem hj] at this
      show some (V.int (Sh.rho gl (0 + (j : Int)))) = _
      rw [← Option.some.inj this])
    refine ⟨_, rfl, _, rfl, .inl ⟨rfl, _, hA⟩, _, rfl, a, _, ns, 0 + (j : Int), _, rfl, rfl, hA, labs_int _, rfl, hin, b, _, _, _, rfl, rfl, hB, eat, _, rfl, rfl, ?_⟩
    rw [List.take_add_one, List.getElem?_eq_getElem hj, List.map_append]
    rfl
  rintro zs τ H2 ⟨v, rfl, rfl, rfl⟩ G hG
  rw [List.take_length]
  have s1 := same_upd hG (.lst (gl.map V.int))
  have dG : upd H2 G (.lst (gl.map V.int)) G = some (.lst (gl.map V.int)) := upd_same
  generalize upd H2 G (.lst (gl.map V.int)) = H1 at s1 dG ⊢
  have hA := s1.seq hA
  have hB := s1.seq hB
  have q := fun (H' : Hp) (s : Same H1 H') => q H' (s1.trans s)
  clear s1 hG
  -- the first table
  refine fun W0 hW0 => ⟨_, rfl, a, ns, rfl, (same_upd hW0 _).seq hA, hne1, fun M' hM' hle' => ?_⟩
  have hfr' := Sh.fr_max hM' hle' (Sh.can_nonneg c1 M' hM')
  refine ⟨_, _, rfl, rfl, gl.length, (by show [V.int (M' + 1)] = _; rw [show M' + 1 = (gl.length : Int) by omega]), by omega, fun T hT => ?_⟩
  have nTW : W0 ≠ T := ne_of_none upd_same hT
  have w1 := same_upd hW0 (.dT [])
  have w2 := same_upd hT (.tup ((Sh.upto gl.length).map V.int))
  have eT : (Sh.upto gl.length).map V.int = (encR (List.range gl.length)).map kV := by rw [encR_kV]; rfl
  refine ⟨T, .int 1, encR (List.range gl.length), rfl, by rw [upd_ne nTW]; exact upd_same, by rw [upd_same, eT], ?_⟩
  have s1 : Same H1 (upd (upd (upd H1 W0 (.dT [])) T (.tup ((Sh.upto gl.length).map V.int))) W0 (.dT [(encR (List.range gl.length), .int 1)])) := (w1.trans w2).upd2 hW0
  have dW : upd (upd (upd H1 W0 (.dT [])) T (.tup ((Sh.upto gl.length).map V.int))) W0 (.dT [(encR (List.range gl.length), .int 1)]) W0 = some (.dT (encD [(List.range gl.length, 1)])) := upd_same
  generalize upd (upd (upd H1 W0 (.dT [])) T (.tup ((Sh.upto gl.length).map V.int))) W0 (.dT [(encR (List.range gl.length), .int 1)]) = H0 at s1 dW ⊢
  clear w1 w2 nTW hT eT
  have nGW : G ≠ W0 := ne_of_none dG hW0
  -- the steps
  refine ⟨_, rfl, a, ns, rfl, s1.seq hA, hne1, fun M1 hM1 hle1 => ?_⟩
  refine ⟨_, rfl, b, _, rfl, s1.seq hB, hne2, fun M2 hM2 hle2 => ?_⟩
  have hfr1 := Sh.fr_max hM1 hle1 (Sh.can_nonneg c1 M1 hM1)
  have hfr2 := Sh.fr_max hM2 hle2 (Sh.can_nonneg c2 M2 hM2)
  have zg := Sh.fr_nonneg gl
  have fgl : Sh.fr gl ≤ gl.length := by
    have h2 := (Sh.fr_mk gl).1
    rw [Sh.mk_can cg] at h2
    have := Sh.length_dd_le gl
    omega
  refine ⟨_, _, rfl, rfl, _, rfl, by omega, by omega, ?_⟩
  have eN : (M1 - M2).toNat = gl.length - (Sh.fr gl).toNat := by omega
  rw [eN]
  have init : Sh.DOk gl.length [(List.range gl.length, 1)] := ⟨by simp, fun p hp => by
    rw [List.mem_singleton] at hp
    subst hp
    have : List.range gl.length ∈ Sh.allN (List.range gl.length).length := Sh.mem_allN _ (Sh.can_upto _)
    rw [List.length_range] at this
    exact this⟩
  have hal := Sh.allN_len gl.length g6
  have lenD : ∀ d : Sh.WD, Sh.DOk gl.length d → (encD d).length < sizeLine := fun d hd => small1000 (by
    have := hd.len
    unfold encD
    rw [List.length_map]
    omega)
  refine for_range (lo := 0) (n := gl.length - (Sh.fr gl).toNat) (fun i σ H2 => ∃ W v4 v5 v6 v7 v8 v9, σ = [some (.ref a), some (.ref b), some (.ref G), some (.ref W), v4, v5, v6, v7, v8, v9] ∧ Same H1 H2 ∧ H2 W = some (.dT (encD (Sh.latI (Sh.goP gl) i [(List.range gl.length, 1)])))) ⟨W0, none, none, none, none, none, none, rfl, s1, dW⟩ ?_ ?_
  · rintro i σ H2 hi ⟨W, v4, v5, v6, v7, v8, v9, rfl, s2, d2⟩
    have dok := init.iter (P := Sh.goP gl) i
    generalize hWd : Sh.latI (Sh.goP gl) i [(List.range gl.length, 1)] = Wd at d2 dok
    have eWd : Sh.latI (Sh.goP gl) (i + 1) [(List.range gl.length, 1)] = Sh.latP (Sh.goP gl) [] Wd := by rw [Sh.latI_succ, hWd]
    rw [eWd]
    clear eWd hWd
    refine fun L hL => ?_
    have nWL : W ≠ L := ne_of_none d2 hL
    have w3 := same_upd hL (.dT [])
    have d3 : upd H2 L (.dT []) L = some (.dT []) := upd_same
    have d2' := w3 _ _ d2
    have s3 := s2.trans w3
    have hLH1 : H1 L = none := s2.free hL
    generalize upd H2 L (.dT []) = H3 at w3 d3 d2' s3 ⊢
    refine ⟨_, rfl, W, _, rfl, d2', fun DL ts hDL hlt hts => ?_⟩
    have w4 := same_upd hDL (.lst (ts.map V.ref))
    have d4 : upd H3 DL (.lst (ts.map V.ref)) DL = some (.lst (ts.map V.ref)) := upd_same
    have d3' := w4 _ _ d3
    have d2'' := w4 _ _ d2'
    have s4 := s3.trans w4
    have hts' : ∀ (i : Nat) (t : Addr) (p : List Nat × Nat), ts[i]? = some t → Wd[i]? = some p → upd H3 DL (.lst (ts.map V.ref)) t = some (.tup ((p.1.map Int.ofNat).map V.int)) := fun i t p e1 e2 => by
      have := hts i t (encR p.1, V.int ((p.2 : Nat) : Int)) e1 (by unfold encD; rw [List.getElem?_map, e2]; rfl)
      rw [encR_kV] at this
      exact w4 _ _ this
    have nDL : DL ≠ L := fun e => by rw [e, d3] at hDL; cases hDL
    have hlt' : ts.length = Wd.length := by rw [hlt]; unfold encD; rw [List.length_map]
    generalize upd H3 DL (.lst (ts.map V.ref)) = H4 at w4 d4 d3' d2'' s4 hts' ⊢
    clear hts hlt hDL w4 w3 d2 d2' d3 hL
    refine ⟨DL, rfl, ⟨_, SqL.of d4⟩, for_list (K := K) (a := DL) (xs := ts.map V.ref) (fun r σ H5 => ∃ v6 v7 v8 v9, σ = [some (.ref a), some (.ref b), some (.ref G), some (.ref W), some (.int (0 + (i : Int))), some (.ref L), v6, v7, v8, v9] ∧ Kp H4 L H5 ∧ H5 L = some (.dT (encD (Sh.latP (Sh.goP gl) [] (Wd.take r)))))
      ⟨v6, v7, v8, v9, rfl, fun p o e _ => e, d3'⟩ (fun i σ H5 _ ⟨_, _, _, _, _, k5, _⟩ => sq_ref k5 d4 nDL) ?_ ?_⟩
    · rintro r x σ H5 hr' ⟨v6, v7, v8, v9, rfl, k5, d5⟩
      obtain ⟨t, et, rfl⟩ : ∃ t, ts[r]? = some t ∧ x = .ref t := by
        rw [List.getElem?_map] at hr'
        cases e : ts[r]? with
        | none => rw [e] at hr'; cases hr'
        | some t => rw [e] at hr'; exact ⟨t, rfl, (Option.some.inj hr').symm⟩
      have hrl : r < Wd.length := by rw [← hlt']; exact (List.getElem?_eq_some_iff.mp et).1
      have ep := List.getElem?_eq_getElem hrl
      have ht4 := hts' r t _ et ep
      have hpm := List.mem_of_getElem? ep
      have hpr := dok.row _ hpm
      obtain ⟨cp, lp⟩ := Sh.allN_ok hpr
      have hgv := Sh.gt_of dok.nd hpm
      have ntL : t ≠ L := ne_of ht4 d3' (fun z => nomatch z)
      have etk : Wd.take (r + 1) = Wd.take r ++ [Wd[r]] := by rw [List.take_add_one, ep]; rfl
      have dk1 : Sh.DOk gl.length (Sh.latP (Sh.goP gl) [] (Wd.take r)) := Sh.DOk.lat (Sh.DOk.nil _) fun p hp => dok.rowLen p (List.mem_of_mem_take hp)
      rw [etk, Sh.latP_snoc]
      generalize Sh.latP (Sh.goP gl) [] (Wd.take r) = acc at d5 dk1 ⊢
      generalize Wd[r] = p at *
      have hnp : p.1.map Int.ofNat ≠ [] := fun e => by
        have e0 : (p.1.map Int.ofNat).length = 0 := by rw [e]; rfl
        rw [List.length_map] at e0
        omega
      refine ⟨_, rfl, t, p.1.map Int.ofNat, rfl, SqT.of (k5 _ _ ht4 ntL), hnp, fun N hN hn => ?_⟩
      have hfN := Sh.fr_max hN hn (Sh.can_nonneg cp N hN)
      rw [Sh.fr_frN] at hfN
      have hfp : Sh.frN p.1 ≤ 12 := by
        have h2 := (Sh.fr_mk (p.1.map Int.ofNat)).1
        rw [Sh.mk_can cp, Sh.fr_frN] at h2
        have := Sh.length_dd_le (p.1.map Int.ofNat)
        rw [List.length_map] at this
        omega
      refine ⟨_, _, rfl, rfl, _, rfl, by omega, by omega, ?_⟩
      rw [show (N + 1).toNat = Sh.frN p.1 by omega]
      refine for_range (lo := 0) (n := Sh.frN p.1) (fun f σ H6 => ∃ v7 v8 v9, σ = [some (.ref a), some (.ref b), some (.ref G), some (.ref W), some (.int (0 + (i : Int))), some (.ref L), some (.ref t), v7, v8, v9] ∧ Kp H4 L H6 ∧ H6 L = some (.dT (encD (Sh.rowP (Sh.goP gl) p acc f))))
        ⟨v7, v8, v9, rfl, k5, d5⟩ ?_ ?_
      · rintro fi σ H6 hfi ⟨v7, v8, v9, rfl, k6, d6⟩
        refine ⟨_, rfl, _, rfl, by omega, by omega, ?_⟩
        rw [show (0 + (fi : Int)).toNat = fi by omega, Sh.rowP_succ]
        have dk2 := dk1.rows (P := Sh.goP gl) lp fi
        generalize Sh.rowP (Sh.goP gl) p acc fi = accf at d6 dk2 ⊢
        refine for_range (lo := 0) (n := fi) (fun si σ H7 => ∃ v8 v9, σ = [some (.ref a), some (.ref b), some (.ref G), some (.ref W), some (.int (0 + (i : Int))), some (.ref L), some (.ref t), some (.int (0 + (fi : Int))), v8, v9] ∧ Kp H4 L H7 ∧ H7 L = some (.dT (encD (Sh.colP (Sh.goP gl) p fi accf si))))
          ⟨v8, v9, rfl, k6, d6⟩ ?_ ?_
        · rintro si σ H7 hsi ⟨v8, v9, rfl, k7, d7⟩
          rw [Sh.colP_succ]
          have dk3 := dk2.col (P := Sh.goP gl) lp fi si
          generalize Sh.colP (Sh.goP gl) p fi accf si = accs at d7 dk3 ⊢
          have ht7 := k7 _ _ ht4 ntL
          refine ⟨_, rfl, t, rfl, ⟨_, SqT.of ht7⟩, comp_tup (K := K) (a := t) (xs := (p.1.map Int.ofNat).map V.int) (fun j zs τ H8 => ∃ v, τ = [v, some (.int (0 + (fi : Int))), some (.int (0 + (si : Int)))] ∧ H8 = H7 ∧ zs = (((p.1.map Int.ofNat).take j).map (Sh.sub (si : Int) (fi : Int))).map V.int) ⟨none, rfl, rfl, rfl⟩ ?_ ?_ ?_⟩
          · rintro j zs τ H8 hj ⟨v, rfl, rfl, rfl⟩
            exact ⟨SqT.of ht7, small1000 (by rw [List.length_map, List.length_map, List.length_take, List.length_map]; omega)⟩
          · rintro j x zs τ H8 hj ⟨v, rfl, rfl, rfl⟩
            obtain ⟨z, hz, rfl⟩ := ints_get hj
            have fin : (((p.1.map Int.ofNat).take j).map (Sh.sub (si : Int) (fi : Int))).map V.int ++ [V.int (Sh.sub (si : Int) (fi : Int) z)] = (((p.1.map Int.ofNat).take (j + 1)).map (Sh.sub (si : Int) (fi : Int))).map V.int := by
              rw [List.take_add_one, hz, List.map_append, List.map_append]
              rfl
            refine ⟨_, rfl, _, rfl, rfl, _, rfl, ?_⟩
            refine ite2 (fun c => ?_) (fun c => ?_)
            · have c' : z = (fi : Int) := by
                have := of_decide_eq_true c
                injection this with this
                omega
              have e : Sh.sub (si : Int) (fi : Int) z = 0 + (si : Int) := by unfold Sh.sub; rw [if_pos c', Int.zero_add]
              rw [e] at fin
              exact ⟨_, rfl, _, rfl, rfl, fin⟩
            · have c' : ¬ z = (fi : Int) := fun e => c (decide_eq_true (by rw [e, Int.zero_add]))
              have e : Sh.sub (si : Int) (fi : Int) z = z := if_neg c'
              rw [e] at fin
              exact ⟨_, rfl, _, rfl, rfl, fin⟩
          rintro zs τ H8 ⟨v, rfl, rfl, rfl⟩ D hD
          rw [List.length_map, List.take_length]
          have t1 := same_upd hD (.lst (((p.1.map Int.ofNat).map (Sh.sub (si : Int) (fi : Int))).map V.int))
          refine ⟨D, _, (p.1.map Int.ofNat).map (Sh.sub (si : Int) (fi : Int)), rfl, SqL.of upd_same, labs_int _, by rw [List.length_map, List.length_map]; omega, fun D' H9 s9 f9 d9 => ?_⟩
          rw [Sh.mk_suc] at d9
          refine ⟨D', _, rfl, .inl ⟨SqL.of d9, fun J hJ => ?_⟩⟩
          have t2 := t1.trans (s9.trans (same_upd hJ (.tup (((Sh.suc p.1 fi si).map Int.ofNat).map V.int))))
          have dJ : upd H9 J (.tup (((Sh.suc p.1 fi si).map Int.ofNat).map V.int)) J = some (.tup (((Sh.suc p.1 fi si).map Int.ofNat).map V.int)) := upd_same
          have kk := k7.same t2
          have dL := t2 _ _ d7
          generalize upd H9 J (.tup (((Sh.suc p.1 fi si).map Int.ofNat).map V.int)) = H10 at dJ kk dL ⊢
          clear t1 t2 s9 f9 d9 hJ hD k7 d7 ht7
          have lsu : (Sh.suc p.1 fi si).length = gl.length := by rw [Sh.suc_len, lp]
          have dG4 := s4 _ _ dG
          have nGL : G ≠ L := ne_of_none dG hLH1
          refine ⟨_, rfl, _, rfl, J, G, _, gl, rfl, SqT.of dJ, sq_ref kk dG4 nGL, by rw [List.length_map]; exact lsu, by rw [List.length_map, lsu]; omega, _, rfl, ?_⟩
          have ec : Sh.finB ((Sh.suc p.1 fi si).map Int.ofNat) gl = Sh.goP gl (Sh.suc p.1 fi si) := rfl
          rw [ec]
          unfold Sh.oneP
          refine ite2 (fun c => ?_) (fun c => ?_)
          · rw [c]
            have dJ' : H10 J = some (.tup ((encR (Sh.suc p.1 fi si)).map kV)) := by rw [encR_kV]; exact dJ
            have dt' : H10 t = some (.tup ((encR p.1).map kV)) := by rw [encR_kV]; exact kk _ _ ht4 ntL
            have dW' := kk _ _ d2'' nWL
            have gA := DGet.t dL dJ'
            have gB := DGet.t dW' dt'
            rw [val_enc] at gA gB
            rw [hgv] at gB
            have gA' : DGet H10 L (.ref J) ((Sh.gtN accs (Sh.suc p.1 fi si)).map fun (v : Nat) => V.int (v : Int)) := gA
            refine ⟨_, rfl, L, rfl, .inr ⟨_, .inl dL⟩, _, rfl, _, gA', _, rfl, _, rfl, W, _, rfl, gB, ?_⟩
            have ei : ((Sh.gtN accs (Sh.suc p.1 fi si)).map fun (v : Nat) => V.int (v : Int)).getD (V.int 0) = V.int (((Sh.gtN accs (Sh.suc p.1 fi si)).getD 0 : Nat) : Int) := by
              cases Sh.gtN accs (Sh.suc p.1 fi si) <;> rfl
            rw [ei]
            refine ⟨_, _, rfl, rfl, _, rfl, _, rfl, L, _, rfl, DPut.t dL dJ' (lenD _ dk3), ?_⟩
            rw [put_enc dk3.nd]
            exact ⟨some (.int (0 + (si : Int))), some (.ref J), rfl, kk.put, upd_same⟩
          · have c' : Sh.goP gl (Sh.suc p.1 fi si) = false := by
              cases e : Sh.goP gl (Sh.suc p.1 fi si) with
              | false => rfl
              | true => exact absurd e c
            rw [c']
            exact ⟨some (.int (0 + (si : Int))), some (.ref J), rfl, kk, dL⟩
        · rintro σ H7 ⟨v8, v9, rfl, k7, d7⟩
          exact ⟨some (.int (0 + (fi : Int))), v8, v9, rfl, k7, d7⟩
      · rintro σ H6 ⟨v7, v8, v9, rfl, k6, d6⟩
        exact ⟨some (.ref t), v7, v8, v9, rfl, k6, d6⟩
    · rintro σ H5 ⟨v6, v7, v8, v9, rfl, k5, d5⟩
      have etk : Wd.take (ts.map V.ref).length = Wd := List.take_of_length_le (by rw [List.length_map, hlt']; exact Nat.le_refl _)
      rw [etk] at d5
      refine ⟨_, rfl, L, some (.int (0 + (i : Int))), some (.ref L), v6, v7, v8, v9, rfl, fun p o e => ?_, d5⟩
      exact k5 _ _ (s4 _ _ e) (ne_of_none e hLH1)
  rintro σ H2 ⟨W, v4, v5, v6, v7, v8, v9, rfl, s2, d2⟩
  obtain ⟨dkf, gtf⟩ := Sh.lmany cg g1 g6
  generalize Sh.latI (Sh.goP gl) (gl.length - (Sh.fr gl).toNat) [(List.range gl.length, 1)] = Wf at d2 dkf gtf
  have eg := Sh.cast_toNat (Sh.can_nonneg cg)
  refine ⟨_, rfl, W, rfl, .inr ⟨_, .inl d2⟩, _, rfl, G, _, rfl, .inl ⟨SqL.of (s2 _ _ dG), fun J hJ => ?_⟩⟩
  have t2 := same_upd hJ (.tup (gl.map V.int))
  have dJ : upd H2 J (.tup (gl.map V.int)) J = some (.tup ((encR (gl.map Int.toNat)).map kV)) := by rw [upd_same, encR_kV, eg]
  have gA := DGet.t (t2 _ _ d2) dJ
  rw [val_enc, gtf] at gA
  refine ⟨_, gA, ?_⟩
  exact q _ (s2.trans t2)
end
theorem rep0 (n : Nat) : (List.replicate n [V.int 0]).flatten = (List.replicate n (0 : Int)).map V.int := by
  induction n with
  | zero => rfl
  | succ n ih => rw [List.replicate_succ, List.flatten_cons, ih, List.replicate_succ]; rfl
theorem at3 {x y z : Int} {p : Int} (h0 : 0 ≤ p) (h3 : p < 3) (hx : 0 < x) (hy : 0 < y) (hz : 0 < z) : ∃ m, atI [V.int x, V.int y, V.int z] p = some (.int m) ∧ 0 < m := by
  have : p = 0 ∨ p = 1 ∨ p = 2 := by omega
  rcases this with rfl | rfl | rfl
  · exact ⟨x, atI_nat (j := 0) rfl, hx⟩
  · exact ⟨y, atI_nat (j := 1) rfl, hy⟩
  · exact ⟨z, atI_nat (j := 2) rfl, hz⟩
theorem fin_map {m1 : List Int} (g : Int → Int) : Sh.Fin m1 (m1.map g) := fun i j _ _ e => by rw [List.getElem?_map, List.getElem?_map, e]
structure Two (H : Hp) (o1 o2 : Addr) (m1 gl : List Int) : Prop where
  g1 : H o1 = some (.lst (m1.map V.int))
  g2 : H o2 = some (.lst ((m1.map (Sh.rho gl)).map V.int))
  c1 : Sh.Can m1
  l1 : 1 ≤ m1.length
  l2 : m1.length ≤ 12
  cg : Sh.Can gl
  lg : (gl.length : Int) = Sh.fr m1
def R09 (a : Addr) (tn : Int) (σ : L2.St) (H : Hp) : Prop := ∃ (o1 o2 : Addr) (m1 gl : List Int) (vm : Option V), σ = [some (.ref a), some (.int tn), some (.ref o1), some (.ref o2), vm, none, none, none, none] ∧ Two H o1 o2 m1 gl
theorem lq_cut {X : Cx} {st : Stmt} {rest : List Stmt} {u v : TS} {R : L2.St → Hp → Prop} (h1 : LQ.QS X st u) (h2 : LQ.QSs X rest v) : LQ.QSs X (st :: rest) (tCut R u v) := LQ.pss_cut R h1 h2
theorem isLL2 {K : PySem.W.Frag} {H : Hp} {D p q : Addr} {m1 m2 : List Int} (hD : H D = some (.lst [.ref p, .ref q])) (h1 : H p = some (.lst (m1.map V.int))) (h2 : H q = some (.lst (m2.map V.int))) : IsLL K H D [m1, m2] :=
  ⟨[p, q], SqL.of hD, rfl, fun j x ns e1 e2 => by
    match j, e1, e2 with
    | 0, e1, e2 => cases e1; cases e2; exact SqL.of h1
    | 1, e1, e2 => cases e1; cases e2; exact SqL.of h2
    | j + 2, e1, e2 => simp at e1⟩
section
variable {P : Program} {w : World} {K : PySem.W.Frag} {mg : Str → Option Value} {base : Heap}
theorem nd_msm : (["mark", "script", "most"] : List Str).Nodup := by decide +kernel
theorem scLaw : FnScope ["script", "things", "one", "other", "most", "handed", "turn", "found", "told"] ["script"] (defScope sLaw) := ⟨rfl, rfl, rfl, by decide +kernel, rfl, by decide +kernel, by decide +kernel⟩
theorem ok_law {f : Addr} {fd : FuncData} (F : Fun K "law" "law" sLaw f fd) (GC : Fn P w K mg base "_law_cell_at" ["script", "k"] 1 (spCell K)) (GM : Fn P w K mg base "_law_marks" ["script", "at", "things"] 2 (spLMarks K))
    (GN : Fn P w K mg base "_law_named" ["names"] 1 (spMarked (labInt K))) (GR : Fn P w K mg base "rise" ["one", "other"] 8 (spRise K)) (GG : Fn P w K mg base "_law_good" ["found", "one", "other"] 3 (spGood9 K)) (GT : Fn P w K mg base "many_rises" ["one", "other"] 8 (spMR K)) (GW : Fn P w K mg base "_law_whole" ["found"] 1 (spWhole K))
    (GY : Fn P w K mg base "_law_many" ["one", "other"] 2 (spLMany K)) (GK : Fn P w K mg base "_law_reckoned" ["one", "other"] 2 (spLReck K))
    (mlst : mg "list" = none) (mr : mg "range" = none) (mm : mg "max" = none) : FnOk P w K mg base CX0 9 f fd ["script"] (spLaw K) := by
  refine LQ.ok0 F scLaw (fun vs H Q E h => ?_) (fun cdv A outer s H vs Q E hr h => ?_)
  · obtain ⟨a, ns, rfl, _⟩ := h
    rfl
  obtain ⟨a, ns, rfl, hS, hl63, q⟩ := h
  have hu := hu_of hr
  have hr1 : Room 1 _ := hr.mono (by decide)
  have hr2 : Room 2 _ := hr.mono (by decide)
  have hr3 : Room 3 _ := hr.mono (by decide)
  refine ⟨_, LQ.pss_cons (LQ.ps_set (i := 1) scLaw.nd rfl (Or.inl rfl) (LQ.pe_op op_add LQ.pe_int (LQ.pe_op op_mod (LQ.pe_fn GC hr1 (LQ.pa_cons (LQ.pv 0) (LQ.pa_cons LQ.pe_int LQ.pa_nil))) LQ.pe_int)))
    (LQ.pss_cons (LQ.ps_set (i := 2) scLaw.nd rfl (Or.inl rfl) (LQ.pe_fn GM hr2 (LQ.pa_cons (LQ.pv 0) (LQ.pa_cons LQ.pe_int (LQ.pa_cons (LQ.pv 1) LQ.pa_nil)))))
    (LQ.pss_cons (LQ.ps_set (i := 3) scLaw.nd rfl (Or.inl rfl) (LQ.pe_op op_rep (LQ.pe_lst (LQ.pa_cons LQ.pe_int LQ.pa_nil)) (LQ.pv 1)))
    (lq_cut (R := R09 a (1 + Sh.cell ns 0 % 12)) (LQ.ps_if (LQ.pt_cmpR op_eq (LQ.pe_op op_mod (LQ.pe_fn GC hr1 (LQ.pa_cons (LQ.pv 0) (LQ.pa_cons LQ.pe_int LQ.pa_nil))) LQ.pe_int) LQ.pe_int (nomark _))
      (LQ.pss_cons (LQ.ps_set (i := 4) scLaw.nd rfl (Or.inr rfl) (LQ.pe_ix ix_list (LQ.pe_lst (LQ.pa_cons LQ.pe_int (LQ.pa_cons LQ.pe_int (LQ.pa_cons LQ.pe_int LQ.pa_nil)))) (LQ.pe_op op_mod (LQ.pe_op op_fdiv (LQ.pe_fn GC hr1 (LQ.pa_cons (LQ.pv 0) (LQ.pa_cons LQ.pe_int LQ.pa_nil))) LQ.pe_int) LQ.pe_int) (fun _ _ => rfl)))
      (LQ.pss_one (LQ.ps_set (i := 3) scLaw.nd rfl (Or.inl rfl) (LQ.pe_fn GN hr1 (LQ.pa_cons (LQ.QE.mk (pe_comp ["mark", "script", "most"] [none, some 0, some 4] rfl rfl (pi_list (pv 2)) (fun _ _ _ _ => pg_name (i := 0) nd_msm rfl (Or.inl rfl)) (fun _ _ _ _ => pts_nil)
        (fun _ _ _ _ => pe_op op_mod (pe_fn GC hr1 (pa_cons (pv 1) (pa_cons (pe_op op_add pe_int (pv 0)) pa_nil))) (pv 2)))) LQ.pa_nil))))) LQ.pss_nil)
    (LQ.pss_cons (LQ.ps_set (i := 5) scLaw.nd rfl (Or.inl rfl) (LQ.pe_lst (LQ.pa_cons (LQ.pe_callTy call_list_of rfl mlst boot_list (LQ.pa_cons (LQ.pv 2) LQ.pa_nil)) (LQ.pa_cons (LQ.pe_callTy call_list_of rfl mlst boot_list (LQ.pa_cons (LQ.pv 3) LQ.pa_nil)) LQ.pa_nil))))
    (LQ.pss_cons (LQ.ps_for PassesOwn.never rfl (LQ.pi_range1 rfl mr (LQ.pa_cons LQ.pe_int LQ.pa_nil)) (pg_name (i := 6) scLaw.nd rfl (Or.inl rfl))
      (LQ.pss_cons (LQ.ps_set (i := 7) scLaw.nd rfl (Or.inl rfl) (LQ.pe_fn GR hr (LQ.pa_cons (LQ.pe_ix ix_list (LQ.pv 5) LQ.pe_int (fun _ _ => rfl)) (LQ.pa_cons (LQ.pe_ix ix_list (LQ.pv 5) LQ.pe_int (fun _ _ => rfl)) LQ.pa_nil))))
      (LQ.pss_cons (LQ.ps_if (LQ.pt_w (LQ.pw_or (LQ.pt_not (LQ.pt_val (LQ.pe_fn GG hr3 (LQ.pa_cons (LQ.pv 7) (LQ.pa_cons (LQ.pv 2) (LQ.pa_cons (LQ.pv 3) LQ.pa_nil)))))) (LQ.pw_or1 (LQ.pt_cmpR (op_neLL hu) (LQ.pv 5) (LQ.pe_lst (LQ.pa_cons (LQ.pv 2) (LQ.pa_cons (LQ.pv 3) LQ.pa_nil))) (nomark _))))) (LQ.pss_one (LQ.ps_ret LQ.pe_bl)) LQ.pss_nil)
      (LQ.pss_cons (LQ.ps_expr (LQ.QE.mk (pe_bm PySem.F.plainAttrs_list PySem.F.slot_list_append PySem.F.type_list_append mt_append (pe_ix ix_list (pv 7) pe_int (fun _ _ => rfl)) (pa_cons pe_int pa_nil))))
      (LQ.pss_cons (LQ.ps_expr (LQ.QE.mk (pe_bm PySem.F.plainAttrs_list PySem.F.slot_list_append PySem.F.type_list_append mt_append (pe_ix ix_list (pv 7) (pe_un un_neg pe_int) (fun _ _ => rfl)) (pa_cons pe_int pa_nil))))
      (LQ.pss_cons (LQ.ps_expr (LQ.QE.mk (pe_bm0 PySem.F.plainAttrs_list PySem.F.slot_list_clear PySem.F.type_list_clear mt_clear (pv 7))))
      (LQ.pss_one (LQ.ps_if (LQ.pt_cmpR (op_neLL hu) (LQ.pv 5) (LQ.pe_lst (LQ.pa_cons (LQ.pv 2) (LQ.pa_cons (LQ.pv 3) LQ.pa_nil))) (nomark _)) (LQ.pss_one (LQ.ps_ret LQ.pe_bl)) LQ.pss_nil))))))))
    (LQ.pss_cons (LQ.ps_set (i := 8) scLaw.nd rfl (Or.inl rfl) (LQ.pe_fn GT hr (LQ.pa_cons (LQ.pe_ix ix_list (LQ.pv 5) LQ.pe_int (fun _ _ => rfl)) (LQ.pa_cons (LQ.pe_ix ix_list (LQ.pv 5) LQ.pe_int (fun _ _ => rfl)) LQ.pa_nil))))
    (LQ.pss_cons (LQ.ps_if (LQ.pt_w (LQ.pw_or (LQ.pt_not (LQ.pt_val (LQ.pe_fn GW hr1 (LQ.pa_cons (LQ.pv 8) LQ.pa_nil)))) (LQ.pw_or1 (LQ.pt_cmpR op_lt (LQ.pv 8) LQ.pe_int (nomark _))))) (LQ.pss_one (LQ.ps_ret LQ.pe_bl)) LQ.pss_nil)
    (LQ.pss_one (LQ.ps_ret (LQ.pe_cmpR op_eq (LQ.pv 8) (LQ.QE.mk (pe_ifExp (pt_cmpR op_lt (pe_callB (call_maxL rfl) rfl mm boot_max (pa_cons (pv 2) pa_nil)) pe_int (nomark _)) (pe_fn GY hr2 (pa_cons (pv 2) (pa_cons (pv 3) pa_nil))) (pe_fn GK hr2 (pa_cons (pv 2) (pa_cons (pv 3) pa_nil))))) (nomark _))))))))))), ?_⟩
  refine ⟨_, rfl, a, ns, 0, rfl, hS, by decide, _, _, rfl, rfl, (by show (0 : Int) < 12; decide), _, _, rfl, rfl, ?_⟩
  obtain ⟨n, hn⟩ : ∃ n : Nat, 1 + Sh.cell ns 0 % 12 = (n : Int) := ⟨(1 + Sh.cell ns 0 % 12).toNat, by have := Int.emod_nonneg (Sh.cell ns 0) (by decide : (12 : Int) ≠ 0); omega⟩
  have n1 : 1 ≤ n := by have := Int.emod_nonneg (Sh.cell ns 0) (by decide : (12 : Int) ≠ 0); omega
  have n2 : n ≤ 12 := by have := Int.emod_lt_of_pos (Sh.cell ns 0) (by decide : (0 : Int) < 12); omega
  refine ⟨_, rfl, _, rfl, a, ns, 1, (n : Int), (by rw [← hn]; rfl), hS, by decide, by omega, by omega, fun o1 m1 H1 s1 f1 c1 l1 d1 => ?_⟩
  have lm : m1.length = n := by omega
  have z1 := Sh.fr_nonneg m1
  have lgl : ∀ h : Int → Int, ((Sh.mk ((Sh.upto (Sh.fr m1).toNat).map h)).length : Int) = Sh.fr m1 := fun h => by rw [Sh.length_mk, List.length_map, Sh.length_upto]; omega
  refine ⟨(by show 1 ≤ sizeLine; decide), fun pz hpz => ?_⟩
  have t1 := same_upd hpz (.lst [.int 0])
  refine ⟨_, rfl, pz, _, _, rfl, rfl, upd_same, by omega, by omega, small (by show 1 * _ ≤ 1000; omega), fun o2 ho2 => ?_⟩
  rw [show (1 + Sh.cell ns 0 % 12).toNat = n by omega, rep0]
  have t2 := t1.trans (same_upd ho2 (.lst ((List.replicate n (0 : Int)).map V.int)))
  have d1' := t2 _ _ d1
  have d2 : upd (upd H1 pz (.lst [.int 0])) o2 (.lst ((List.replicate n (0 : Int)).map V.int)) o2 = some (.lst ((List.replicate n (0 : Int)).map V.int)) := upd_same
  have hS := (s1.trans t2).seq hS
  generalize upd (upd H1 pz (.lst [.int 0])) o2 (.lst ((List.replicate n (0 : Int)).map V.int)) = H2 at d1' d2 hS ⊢
  clear t1 t2 s1 f1 d1 hpz ho2
  refine ⟨fun σ H3 R => ?_, ?_⟩
  rotate_left
  · -- the second one
    refine ⟨_, rfl, a, ns, 13, rfl, hS, by decide, _, _, rfl, rfl, (by show (0 : Int) < 2; decide), rfl, _, rfl, ?_⟩
    refine ite2 (fun _ => ?_) (fun _ => ?_)
    · refine ⟨(by show 3 ≤ sizeLine; decide), fun pl hpl => ?_⟩
      have t1 := same_upd hpl (.lst [.int 4, .int 3, .int 12])
      obtain ⟨mo, hmo, hmo0⟩ := at3 (x := 4) (y := 3) (z := 12) (Int.emod_nonneg (Sh.cell ns 13 / 2) (by decide : (3 : Int) ≠ 0)) (Int.emod_lt_of_pos (Sh.cell ns 13 / 2) (by decide : (0 : Int) < 3)) (by decide) (by decide) (by decide)
      refine ⟨_, rfl, a, ns, 13, rfl, t1.seq hS, by decide, _, _, rfl, rfl, ⟨by decide, by decide⟩, _, _, rfl, rfl, (by show (0 : Int) < 3; decide), pl, _, _, .int mo, rfl, rfl, SqL.of upd_same, hmo, ?_⟩
      have g1 := t1 _ _ d1'
      have hS := t1.seq hS
      generalize upd H2 pl (.lst [.int 4, .int 3, .int 12]) = H4 at g1 hS ⊢
      clear t1 hpl hmo
      let hf : Int → Int := fun m => Sh.cell ns (14 + m) % mo
      refine ⟨_, rfl, o1, rfl, ⟨_, SqL.of g1⟩, comp_list (K := K) (a := o1) (xs := m1.map V.int) (fun i zs τ H5 => ∃ v, τ = [v, some (.ref a), some (.int mo)] ∧ H5 = H4 ∧ zs = (((m1.take i).map hf).map V.int)) ⟨none, rfl, rfl, rfl⟩ ?_ ?_ ?_⟩
      · rintro i zs τ H5 hi ⟨v, rfl, rfl, rfl⟩
        exact ⟨SqL.of g1, small1000 (by rw [List.length_map, List.length_map, List.length_take]; omega)⟩
      · rintro i x zs τ H5 hi ⟨v, rfl, rfl, rfl⟩
        obtain ⟨z, hz, rfl⟩ := ints_get hi
        have z0 := Sh.can_nonneg c1 z (List.mem_of_getElem? hz)
        refine ⟨_, rfl, _, rfl, _, _, rfl, rfl, a, ns, _, rfl, hS, by omega, _, rfl, _, _, rfl, rfl, hmo0, _, rfl, rfl, ?_⟩
        rw [List.take_add_one, hz, List.map_append, List.map_append]
        rfl
      rintro zs τ H5 ⟨v, rfl, rfl, rfl⟩ D hD
      rw [List.length_map, List.take_length]
      have t1 := same_upd hD (.lst ((m1.map hf).map V.int))
      refine ⟨D, _, m1.map hf, rfl, SqL.of upd_same, labs_int _, by rw [List.length_map]; omega, fun o3 H6 s6 f6' d6 => ?_⟩
      rw [Sh.comp_mk hf c1] at d6
      exact ⟨o1, o3, m1, _, some (.int mo), rfl, ⟨(t1.trans s6) _ _ g1, d6, c1, by omega, by omega, Sh.can_mk _, lgl hf⟩⟩
    · have ez : List.replicate n (0 : Int) = m1.map (Sh.rho (Sh.mk ((Sh.upto (Sh.fr m1).toNat).map fun _ => (0 : Int)))) := by
        rw [← Sh.comp_mk (fun _ => (0 : Int)) c1]
        have : m1.map (fun _ => (0 : Int)) = List.replicate n 0 := by rw [← lm]; exact List.map_const' ..
        rw [this, Sh.mk_can (Sh.can_zero n)]
      rw [ez] at d2
      exact ⟨o1, o2, m1, _, none, rfl, ⟨d1', d2, c1, by omega, by omega, Sh.can_mk _, lgl _⟩⟩
  clear d1' d2 hS lgl z1 lm c1 l1
  obtain ⟨o1, o2, m1, gl, vm, rfl, T⟩ := R
  obtain ⟨g1, g2, c1, l1, l2, cg, lg⟩ := T
  obtain ⟨c2, f2⟩ := Sh.comp_can c1 cg lg
  have lm2 : (m1.map (Sh.rho gl)).length = m1.length := List.length_map _
  have h1 : Sh.isSh m1 = true := Sh.isSh_of c1 l1 l2
  have h2 : Sh.isSh (m1.map (Sh.rho gl)) = true := Sh.isSh_of c2 (by omega) (by omega)
  have ff : Sh.Fin m1 (m1.map (Sh.rho gl)) := fin_map _
  have en := Sh.nums_comp c1 cg lg
  have stl := Sh.stL_num cg
  have npos := Sh.numN_pos cg
  have hne1 : m1 ≠ [] := fun e => by rw [e] at l1; simp at l1
  have f12 := fr_12 h1
  have hB := g2
  generalize hm2 : m1.map (Sh.rho gl) = m2 at g2 c2 f2 lm2 h2 ff en
  rw [hm2] at hB
  -- what is handed in
  refine ⟨_, rfl, o1, _, rfl, .inl (SqL.of g1), fun h1a e1 => ?_⟩
  have t1 := same_upd e1 (.lst (m1.map V.int))
  refine ⟨_, rfl, o2, _, rfl, .inl (SqL.of (t1 _ _ g2)), fun h2a e2 => ?_⟩
  have t2 := same_upd e2 (.lst (m2.map V.int))
  refine ⟨(by show 2 ≤ sizeLine; decide), fun hd e3 => ?_⟩
  have t3 := same_upd e3 (.lst [.ref h1a, .ref h2a])
  have q1 := (t1.trans (t2.trans t3)) _ _ g1
  have q2 := (t1.trans (t2.trans t3)) _ _ g2
  have q3 := (t2.trans t3) _ _ (upd_same (H := H3) (a := h1a) (o := .lst (m1.map V.int)))
  have q4 := t3 _ _ (upd_same (H := upd H3 h1a (.lst (m1.map V.int))) (a := h2a) (o := .lst (m2.map V.int)))
  have q5 : upd (upd (upd H3 h1a (.lst (m1.map V.int))) h2a (.lst (m2.map V.int))) hd (.lst [.ref h1a, .ref h2a]) hd = some (.lst [.ref h1a, .ref h2a]) := upd_same
  generalize upd (upd (upd H3 h1a (.lst (m1.map V.int))) h2a (.lst (m2.map V.int))) hd (.lst [.ref h1a, .ref h2a]) = H4 at q1 q2 q3 q4 q5 ⊢
  clear t1 t2 t3 e1 e2 e3 g1 g2 hB
  refine ⟨_, rfl, by decide, by decide, for_range (lo := 0) (n := (2 : Int).toNat) (fun i σ H5 => ∃ v6 v7, σ = [some (.ref a), some (.int (1 + Sh.cell ns 0 % 12)), some (.ref o1), some (.ref o2), vm, some (.ref hd), v6, v7, none] ∧ H5 o1 = some (.lst (m1.map V.int)) ∧ H5 o2 = some (.lst (m2.map V.int)) ∧ H5 h1a = some (.lst (m1.map V.int)) ∧ H5 h2a = some (.lst (m2.map V.int)) ∧ H5 hd = some (.lst [.ref h1a, .ref h2a]))
    ⟨none, none, rfl, q1, q2, q3, q4, q5⟩ ?_ ?_⟩
  · rintro i σ H5 hi ⟨v6, v7, rfl, q1, q2, q3, q4, q5⟩
    refine ⟨_, rfl, hd, _, _, _, rfl, rfl, SqL.of q5, atI_nat (j := 0) rfl, _, rfl, hd, _, _, _, rfl, rfl, SqL.of q5, atI_nat (j := 1) rfl, h1a, h2a, m1, m2, rfl, SqL.of q3, SqL.of q4, h1, h2, lm2.symm, ff, fun D as cs H6 s6 fD dD nd nDa fr ll clm last => ?_⟩
    refine ⟨_, rfl, _, rfl, _, rfl, D, o1, o2, as, cs, m1, m2, rfl, dD, ll, SqL.of (s6 _ _ q1), SqL.of (s6 _ _ q2), h1, h2, lm2.symm, clm, last, fun H7 s7 => ⟨_, rfl, ?_⟩⟩
    refine iteF ?_
    refine ⟨_, rfl, _, rfl, _, rfl, (by show 2 ≤ sizeLine; decide), fun pl hpl => ?_⟩
    have s8 := s7.trans (same_upd hpl (.lst [.ref o1, .ref o2]))
    have dpl : upd H7 pl (.lst [.ref o1, .ref o2]) pl = some (.lst [.ref o1, .ref o2]) := upd_same
    generalize upd H7 pl (.lst [.ref o1, .ref o2]) = H8 at s8 dpl ⊢
    have s58 := s6.trans s8
    refine ⟨hd, pl, [m1, m2], [m1, m2], rfl, rfl, isLL2 (s58 _ _ q5) (s58 _ _ q3) (s58 _ _ q4), isLL2 dpl (s58 _ _ q1) (s58 _ _ q2), _, rfl, ?_⟩
    refine iteNS rfl ?_
    have lt0 := (List.getElem?_eq_some_iff.mp last).1
    have hpos : 0 < as.length := by rw [ll.1]; omega
    have ep0 := List.getElem?_eq_getElem hpos
    have hp0 := s8 _ _ (ll.2 0 _ _ ep0 clm.hd)
    have hla : as.length - 1 < as.length := by omega
    have epl := List.getElem?_eq_getElem hla
    have hpl' := s8 _ _ (ll.2 _ _ m2 epl (by rw [ll.1]; exact last))
    have atl : atI (as.map V.ref) (-1) = some (.ref as[as.length - 1]) := at_last (by rw [List.length_map, List.getElem?_map, epl]; rfl)
    have at0 : atI (as.map V.ref) 0 = some (.ref as[0]) := atI_nat (j := 0) (by rw [List.getElem?_map, ep0]; rfl)
    have fr0 := fr _ (List.mem_of_getElem? ep0)
    have frl := fr _ (List.mem_of_getElem? epl)
    have nD0 : D ≠ as[0] := fun e => nDa (by rw [e]; exact List.mem_of_getElem? ep0)
    have nDl : D ≠ as[as.length - 1] := fun e => nDa (by rw [e]; exact List.mem_of_getElem? epl)
    generalize as[0] = p0 at *
    generalize as[as.length - 1] = pe at *
    have dD8 := s8 _ _ dD
    refine ⟨_, rfl, D, _, _, _, rfl, rfl, SqL.of dD8, at0, .inl ⟨rfl, _, SqL.of hp0⟩, p0, _, _, rfl, rfl, hp0, small1000 (by rw [List.length_map]; omega), ?_⟩
    have dD9 : upd H8 p0 (.lst (m1.map V.int ++ [.int 0])) D = some (.lst (as.map V.ref)) := by rw [upd_ne nD0]; exact dD8
    obtain ⟨xs, hxs, lxs⟩ : ∃ xs, upd H8 p0 (.lst (m1.map V.int ++ [.int 0])) pe = some (.lst xs) ∧ xs.length ≤ 100 := by
      by_cases e : pe = p0
      · exact ⟨_, by rw [e]; exact upd_same, by rw [List.length_append, List.length_map]; show m1.length + 1 ≤ 100; omega⟩
      · exact ⟨_, by rw [upd_ne e]; exact hpl', by rw [List.length_map]; omega⟩
    refine ⟨_, rfl, 1, rfl, D, _, _, _, rfl, rfl, SqL.of dD9, atl, .inl ⟨rfl, _, SqL.of hxs⟩, pe, _, _, rfl, rfl, hxs, small1000 (by omega), ?_⟩
    have dD10 : upd (upd H8 p0 (.lst (m1.map V.int ++ [.int 0]))) pe (.lst (xs ++ [.int 0])) D = some (.lst (as.map V.ref)) := by rw [upd_ne nDl]; exact dD9
    refine ⟨_, rfl, .inl ⟨rfl, _, SqL.of dD10⟩, D, _, rfl, rfl, dD10, ?_⟩
    have keep : ∀ p o, H5 p = some o → upd (upd (upd H8 p0 (.lst (m1.map V.int ++ [.int 0]))) pe (.lst (xs ++ [.int 0]))) D (.lst []) p = some o := fun p o e => by
      rw [upd_ne (ne_of_none e fD), upd_ne (ne_of_none e frl), upd_ne (ne_of_none e fr0)]
      exact s58 _ _ e
    generalize upd (upd (upd H8 p0 (.lst (m1.map V.int ++ [.int 0]))) pe (.lst (xs ++ [.int 0]))) D (.lst []) = H11 at keep ⊢
    refine ⟨_, rfl, _, rfl, _, rfl, (by show 2 ≤ sizeLine; decide), fun pm hpm => ?_⟩
    have s12 := same_upd hpm (.lst [.ref o1, .ref o2])
    have dpm : upd H11 pm (.lst [.ref o1, .ref o2]) pm = some (.lst [.ref o1, .ref o2]) := upd_same
    generalize upd H11 pm (.lst [.ref o1, .ref o2]) = H12 at s12 dpm ⊢
    have kk : ∀ p o, H5 p = some o → H12 p = some o := fun p o e => s12 _ _ (keep p o e)
    refine ⟨hd, pm, [m1, m2], [m1, m2], rfl, rfl, isLL2 (kk _ _ q5) (kk _ _ q3) (kk _ _ q4), isLL2 dpm (kk _ _ q1) (kk _ _ q2), _, rfl, ?_⟩
    refine iteNS rfl ?_
    exact ⟨some (.int (0 + (i : Int))), some (.ref D), rfl, kk _ _ q1, kk _ _ q2, kk _ _ q3, kk _ _ q4, kk _ _ q5⟩
  rintro σ H5 ⟨v6, v7, rfl, q1, q2, q3, q4, q5⟩
  refine ⟨_, rfl, hd, _, _, _, rfl, rfl, SqL.of q5, atI_nat (j := 0) rfl, _, rfl, hd, _, _, _, rfl, rfl, SqL.of q5, atI_nat (j := 1) rfl, h1a, h2a, m1, m2, rfl, SqL.of q3, SqL.of q4, h1, h2, lm2.symm, ff, fun H6 s6 => ?_⟩
  have st12 : Sh.stL (Sh.nums m1 m2) < 12 := by
    rw [en]
    have hz := Sh.fr_nonneg gl
    have : 0 < Sh.fr gl := by
      obtain ⟨x, hx⟩ := List.exists_mem_of_ne_nil gl (fun e => by
        rw [e] at lg
        have := Sh.lt_fr _ (List.head_mem hne1)
        have := Sh.can_nonneg c1 _ (List.head_mem hne1)
        have e0 : (([] : List Int).length : Int) = 0 := rfl
        omega)
      have := Sh.lt_fr x hx
      have := Sh.can_nonneg cg x hx
      omega
    omega
  have np' : ∀ k ∈ Sh.nums m1 m2, 1 ≤ k := by rw [en]; exact npos
  have pos := Sh.mr_pos np' st12
  refine ⟨_, rfl, _, rfl, _, rfl, ?_⟩
  refine iteF ?_
  refine ⟨_, rfl, _, _, rfl, rfl, _, rfl, ?_⟩
  refine ite2 (fun c => absurd (of_decide_eq_true c) (by omega)) (fun _ => ?_)
  refine ⟨_, rfl, _, rfl, o1, m1, rfl, SqL.of (s6 _ _ q1), hne1, fun M hM hle => ?_⟩
  have hfr := Sh.fr_max hM hle (Sh.can_nonneg c1 M hM)
  refine ⟨_, _, rfl, rfl, _, rfl, ?_⟩
  refine ite2 (fun c => ?_) (fun c => ?_)
  · have c' : M < 6 := of_decide_eq_true c
    refine ⟨_, rfl, _, rfl, o1, o2, m1, gl, rfl, SqL.of (s6 _ _ q1), by rw [hm2]; exact SqL.of (s6 _ _ q2), c1, cg, lg, l2, ?_, by omega, fun H7 s7 => ?_⟩
    · have := Sh.can_nonneg c1 M hM
      omega
    · refine ⟨rfl, ?_⟩
      rw [en, decide_eq_true rfl]
      exact q _
  · have est : (Sh.fr m1 - Sh.fr m2).toNat = Sh.stL (Sh.nums m1 m2) := by
      rw [en, f2]
      have hz := Sh.fr_nonneg gl
      omega
    refine ⟨_, rfl, _, rfl, o1, o2, m1, m2, rfl, SqL.of (s6 _ _ q1), SqL.of (s6 _ _ q2), h1, h2, lm2.symm, ?_, fun H7 s7 => ?_⟩
    · have hz := Sh.fr_nonneg gl
      rw [f2]
      omega
    · rw [est, Sh.rk_div np' st12]
      refine ⟨rfl, ?_⟩
      rw [decide_eq_true rfl]
      exact q _
end
theorem all_mk {l : PySem.W.OpenLaw} {w : World} {K : PySem.W.Frag} {h : Heap} {mg : Str → Option Value} {fa f1 f2 f3 f4 f5 f6 f7 f8 f9 f10 f11 f12 f13 f14 f15 f16 f17 f18 f19 f20 f21 f22 f23 f24 f25 f26 : Addr} (X : K.In h) (G : h.Ns mainGlobals mg) (hfa : mg "law" = some (.ref fa))
    {od1 an1 od2 an2 od3 an3 od4 an4 od5 an5 od6 an6 od7 an7 od8 an8 od9 an9 od10 an10 od11 an11 od12 an12 od13 an13 od14 an14 od15 an15 od16 an16 od17 an17 od18 an18 od19 an19 od20 an20 od21 an21 od22 an22 od23 an23 od24 an24 od25 an25 od26 an26 : Option Addr} {sl1 sl2 sl3 sl4 sl5 sl6 sl7 sl8 sl9 sl10 sl11 sl12 sl13 sl14 sl15 sl16 sl17 sl18 sl19 sl20 sl21 sl22 sl23 sl24 sl25 sl26 : Array (Option Value)} {oc1 kV1 dc1 pm1 cd1 ct1 oc2 kV2 dc2 pm2 cd2 ct2 oc3 kV3 dc3 pm3 cd3 ct3 oc4 kV4 dc4 pm4 cd4 ct4 oc5 kV5 dc5 pm5 cd5 ct5 oc6 kV6 dc6 pm6 cd6 ct6 oc7 kV7 dc7 pm7 cd7 ct7 oc8 kV8 dc8 pm8 cd8 ct8 oc9 kV9 dc9 pm9 cd9 ct9 oc10 kV10 dc10 pm10 cd10 ct10 oc11 kV11 dc11 pm11 cd11 ct11 oc12 kV12 dc12 pm12 cd12 ct12 oc13 kV13 dc13 pm13 cd13 ct13 oc14 kV14 dc14 pm14 cd14 ct14 oc15 kV15 dc15 pm15 cd15 ct15 oc16 kV16 dc16 pm16 cd16 ct16 oc17 kV17 dc17 pm17 cd17 ct17 oc18 kV18 dc18 pm18 cd18 ct18 oc19 kV19 dc19 pm19 cd19 ct19 oc20 kV20 dc20 pm20 cd20 ct20 oc21 kV21 dc21 pm21 cd21 ct21 oc22 kV22 dc22 pm22 cd22 ct22 oc23 kV23 dc23 pm23 cd23 ct23 oc24 kV24 dc24 pm24 cd24 ct24 oc25 kV25 dc25 pm25 cd25 ct25 oc26 kV26 dc26 pm26 cd26 ct26 : Value} {tk0 : Tok}
    (a1 : PySem.W.nsIn K mainGlobals "is_many_things" = some (some (.ref f1))) (l1 : K.lookup f1 = some ⟨oc1, od1, .func (PySem.W.fnOf "is_many_things" "is_many_things" (defArgs sMany) (defBody sMany) (defScope sMany) .none kV1 dc1 pm1 an1 cd1 ct1), sl1⟩) (c1 : PySem.W.codeIn K cd1 "is_many_things" = true) (k1 : PySem.W.keepIn K (.ref f1) = true)
    (a2 : PySem.W.nsIn K mainGlobals "is_sharing" = some (some (.ref f2))) (l2 : K.lookup f2 = some ⟨oc2, od2, .func (PySem.W.fnOf "is_sharing" "is_sharing" (defArgs sIs) (defBody sIs) (defScope sIs) .none kV2 dc2 pm2 an2 cd2 ct2), sl2⟩) (c2 : PySem.W.codeIn K cd2 "is_sharing" = true) (k2 : PySem.W.keepIn K (.ref f2) = true)
    (a3 : PySem.W.nsIn K mainGlobals "ask_sharing" = some (some (.ref f3))) (l3 : K.lookup f3 = some ⟨oc3, od3, .func (PySem.W.fnOf "ask_sharing" "ask_sharing" (defArgs sAsk) (defBody sAsk) (defScope sAsk) .none kV3 dc3 pm3 an3 cd3 ct3), sl3⟩) (c3 : PySem.W.codeIn K cd3 "ask_sharing" = true) (k3 : PySem.W.keepIn K (.ref f3) = true)
    (a4 : PySem.W.nsIn K mainGlobals "marked" = some (some (.ref f4))) (l4 : K.lookup f4 = some ⟨oc4, od4, .func (PySem.W.fnOf "marked" "marked" (defArgs sMarked) (defBody sMarked) (defScope sMarked) .none kV4 dc4 pm4 an4 cd4 ct4), sl4⟩) (c4 : PySem.W.codeIn K cd4 "marked" = true) (k4 : PySem.W.keepIn K (.ref f4) = true)
    (a5 : PySem.W.nsIn K mainGlobals "shares_of" = some (some (.ref f5))) (l5 : K.lookup f5 = some ⟨oc5, od5, .func (PySem.W.fnOf "shares_of" "shares_of" (defArgs sShares) (defBody sShares) (defScope sShares) .none kV5 dc5 pm5 an5 cd5 ct5), sl5⟩) (c5 : PySem.W.codeIn K cd5 "shares_of" = true) (k5 : PySem.W.keepIn K (.ref f5) = true)
    (a6 : PySem.W.nsIn K mainGlobals "ask_alike" = some (some (.ref f6))) (l6 : K.lookup f6 = some ⟨oc6, od6, .func (PySem.W.fnOf "ask_alike" "ask_alike" (defArgs sAlike) (defBody sAlike) (defScope sAlike) .none kV6 dc6 pm6 an6 cd6 ct6), sl6⟩) (c6 : PySem.W.codeIn K cd6 "ask_alike" = true) (k6 : PySem.W.keepIn K (.ref f6) = true)
    (a7 : PySem.W.nsIn K mainGlobals "ask_finer" = some (some (.ref f7))) (l7 : K.lookup f7 = some ⟨oc7, od7, .func (PySem.W.fnOf "ask_finer" "ask_finer" (defArgs sAskFin) (defBody sAskFin) (defScope sAskFin) .none kV7 dc7 pm7 an7 cd7 ct7), sl7⟩) (c7 : PySem.W.codeIn K cd7 "ask_finer" = true) (k7 : PySem.W.keepIn K (.ref f7) = true)
    (a8 : PySem.W.nsIn K mainGlobals "is_finer" = some (some (.ref f8))) (l8 : K.lookup f8 = some ⟨oc8, od8, .func (PySem.W.fnOf "is_finer" "is_finer" (defArgs sFiner) (defBody sFiner) (defScope sFiner) .none kV8 dc8 pm8 an8 cd8 ct8), sl8⟩) (c8 : PySem.W.codeIn K cd8 "is_finer" = true) (k8 : PySem.W.keepIn K (.ref f8) = true)
    (a9 : PySem.W.nsIn K mainGlobals "meeting" = some (some (.ref f9))) (l9 : K.lookup f9 = some ⟨oc9, od9, .func (PySem.W.fnOf "meeting" "meeting" (defArgs sMeet) (defBody sMeet) (defScope sMeet) .none kV9 dc9 pm9 an9 cd9 ct9), sl9⟩) (c9 : PySem.W.codeIn K cd9 "meeting" = true) (k9 : PySem.W.keepIn K (.ref f9) = true)
    (a10 : PySem.W.nsIn K mainGlobals "rise" = some (some (.ref f10))) (l10 : K.lookup f10 = some ⟨oc10, od10, .func (PySem.W.fnOf "rise" "rise" (defArgs sRise) (defBody sRise) (defScope sRise) .none kV10 dc10 pm10 an10 cd10 ct10), sl10⟩) (c10 : PySem.W.codeIn K cd10 "rise" = true) (k10 : PySem.W.keepIn K (.ref f10) = true)
    (a11 : PySem.W.nsIn K mainGlobals "climb" = some (some (.ref f11))) (l11 : K.lookup f11 = some ⟨oc11, od11, .func (PySem.W.fnOf "climb" "climb" (defArgs sClimb) (defBody sClimb) (defScope sClimb) .none kV11 dc11 pm11 an11 cd11 ct11), sl11⟩) (c11 : PySem.W.codeIn K cd11 "climb" = true) (k11 : PySem.W.keepIn K (.ref f11) = true)
    (a12 : PySem.W.nsIn K mainGlobals "stepped" = some (some (.ref f12))) (l12 : K.lookup f12 = some ⟨oc12, od12, .func (PySem.W.fnOf "stepped" "stepped" (defArgs sStep) (defBody sStep) (defScope sStep) .none kV12 dc12 pm12 an12 cd12 ct12), sl12⟩) (c12 : PySem.W.codeIn K cd12 "stepped" = true) (k12 : PySem.W.keepIn K (.ref f12) = true)
    (a13 : PySem.W.nsIn K mainGlobals "joined_numbers" = some (some (.ref f13))) (l13 : K.lookup f13 = some ⟨oc13, od13, .func (PySem.W.fnOf "joined_numbers" "joined_numbers" (defArgs sJN) (defBody sJN) (defScope sJN) .none kV13 dc13 pm13 an13 cd13 ct13), sl13⟩) (c13 : PySem.W.codeIn K cd13 "joined_numbers" = true) (k13 : PySem.W.keepIn K (.ref f13) = true)
    (a14 : PySem.W.nsIn K mainGlobals "many_rises" = some (some (.ref f14))) (l14 : K.lookup f14 = some ⟨oc14, od14, .func (PySem.W.fnOf "many_rises" "many_rises" (defArgs sMR) (defBody sMR) (defScope sMR) .none kV14 dc14 pm14 an14 cd14 ct14), sl14⟩) (c14 : PySem.W.codeIn K cd14 "many_rises" = true) (k14 : PySem.W.keepIn K (.ref f14) = true)
    (a15 : PySem.W.nsIn K mainGlobals "many_rises_to_one_share" = some (some (.ref f15))) (l15 : K.lookup f15 = some ⟨oc15, od15, .func (PySem.W.fnOf "many_rises_to_one_share" "many_rises_to_one_share" (defArgs sMR1) (defBody sMR1) (defScope sMR1) .none kV15 dc15 pm15 an15 cd15 ct15), sl15⟩) (c15 : PySem.W.codeIn K cd15 "many_rises_to_one_share" = true) (k15 : PySem.W.keepIn K (.ref f15) = true)
    (a16 : PySem.W.nsIn K mainGlobals "_law_cell_at" = some (some (.ref f16))) (l16 : K.lookup f16 = some ⟨oc16, od16, .func (PySem.W.fnOf "_law_cell_at" "_law_cell_at" (defArgs sCell) (defBody sCell) (defScope sCell) .none kV16 dc16 pm16 an16 cd16 ct16), sl16⟩) (c16 : PySem.W.codeIn K cd16 "_law_cell_at" = true) (k16 : PySem.W.keepIn K (.ref f16) = true)
    (a17 : PySem.W.nsIn K mainGlobals "_law_whole" = some (some (.ref f17))) (l17 : K.lookup f17 = some ⟨oc17, od17, .func (PySem.W.fnOf "_law_whole" "_law_whole" (defArgs sWhole) (defBody sWhole) (defScope sWhole) .none kV17 dc17 pm17 an17 cd17 ct17), sl17⟩) (c17 : PySem.W.codeIn K cd17 "_law_whole" = true) (k17 : PySem.W.keepIn K (.ref f17) = true)
    (a18 : PySem.W.nsIn K mainGlobals "_law_numbers" = some (some (.ref f18))) (l18 : K.lookup f18 = some ⟨oc18, od18, .func (PySem.W.fnOf "_law_numbers" "_law_numbers" (defArgs sNums) (defBody sNums) (defScope sNums) .none kV18 dc18 pm18 an18 cd18 ct18), sl18⟩) (c18 : PySem.W.codeIn K cd18 "_law_numbers" = true) (k18 : PySem.W.keepIn K (.ref f18) = true)
    (a19 : PySem.W.nsIn K mainGlobals "_law_marks" = some (some (.ref f19))) (l19 : K.lookup f19 = some ⟨oc19, od19, .func (PySem.W.fnOf "_law_marks" "_law_marks" (defArgs sLMarks) (defBody sLMarks) (defScope sLMarks) .none kV19 dc19 pm19 an19 cd19 ct19), sl19⟩) (c19 : PySem.W.codeIn K cd19 "_law_marks" = true) (k19 : PySem.W.keepIn K (.ref f19) = true)
    (a20 : PySem.W.nsIn K mainGlobals "_law_named" = some (some (.ref f20))) (l20 : K.lookup f20 = some ⟨oc20, od20, .func (PySem.W.fnOf "_law_named" "_law_named" (defArgs sNamed) (defBody sNamed) (defScope sNamed) .none kV20 dc20 pm20 an20 cd20 ct20), sl20⟩) (c20 : PySem.W.codeIn K cd20 "_law_named" = true) (k20 : PySem.W.keepIn K (.ref f20) = true)
    (a21 : PySem.W.nsIn K mainGlobals "_law_finer" = some (some (.ref f21))) (l21 : K.lookup f21 = some ⟨oc21, od21, .func (PySem.W.fnOf "_law_finer" "_law_finer" (defArgs sLFiner) (defBody sLFiner) (defScope sLFiner) .none kV21 dc21 pm21 an21 cd21 ct21), sl21⟩) (c21 : PySem.W.codeIn K cd21 "_law_finer" = true) (k21 : PySem.W.keepIn K (.ref f21) = true)
    (a22 : PySem.W.nsIn K mainGlobals "_law_many" = some (some (.ref f22))) (l22 : K.lookup f22 = some ⟨oc22, od22, .func (PySem.W.fnOf "_law_many" "_law_many" (defArgs sLMany) (defBody sLMany) (defScope sLMany) .none kV22 dc22 pm22 an22 cd22 ct22), sl22⟩) (c22 : PySem.W.codeIn K cd22 "_law_many" = true) (k22 : PySem.W.keepIn K (.ref f22) = true)
    (a23 : PySem.W.nsIn K mainGlobals "_law_product" = some (some (.ref f23))) (l23 : K.lookup f23 = some ⟨oc23, od23, .func (PySem.W.fnOf "_law_product" "_law_product" (defArgs sLProd) (defBody sLProd) (defScope sLProd) .none kV23 dc23 pm23 an23 cd23 ct23), sl23⟩) (c23 : PySem.W.codeIn K cd23 "_law_product" = true) (k23 : PySem.W.keepIn K (.ref f23) = true)
    (a24 : PySem.W.nsIn K mainGlobals "_law_reckoned" = some (some (.ref f24))) (l24 : K.lookup f24 = some ⟨oc24, od24, .func (PySem.W.fnOf "_law_reckoned" "_law_reckoned" (defArgs sLReck) (defBody sLReck) (defScope sLReck) .none kV24 dc24 pm24 an24 cd24 ct24), sl24⟩) (c24 : PySem.W.codeIn K cd24 "_law_reckoned" = true) (k24 : PySem.W.keepIn K (.ref f24) = true)
    (a25 : PySem.W.nsIn K mainGlobals "_law_good" = some (some (.ref f25))) (l25 : K.lookup f25 = some ⟨oc25, od25, .func (PySem.W.fnOf "_law_good" "_law_good" (defArgs sGood) (defBody sGood) (defScope sGood) .none kV25 dc25 pm25 an25 cd25 ct25), sl25⟩) (c25 : PySem.W.codeIn K cd25 "_law_good" = true) (k25 : PySem.W.keepIn K (.ref f25) = true)
    (a26 : PySem.W.nsIn K mainGlobals "law" = some (some (.ref f26))) (l26 : K.lookup f26 = some ⟨oc26, od26, .func (PySem.W.fnOf "law" "law" (defArgs sLaw) (defBody sLaw) (defScope sLaw) .none kV26 dc26 pm26 an26 cd26 ct26), sl26⟩) (c26 : PySem.W.codeIn K cd26 "law" = true) (k26 : PySem.W.keepIn K (.ref f26) = true)
    (z0 : PySem.W.nsIn K mainGlobals "len" = some none)
    (z1 : PySem.W.nsIn K mainGlobals "range" = some none)
    (z2 : PySem.W.nsIn K mainGlobals "max" = some none)
    (z3 : PySem.W.nsIn K mainGlobals "enumerate" = some none)
    (z4 : PySem.W.nsIn K mainGlobals "list" = some none)
    (z5 : PySem.W.nsIn K mainGlobals "zip" = some none)
    (z6 : PySem.W.nsIn K mainGlobals "set" = some none)
    (z7 : PySem.W.nsIn K mainGlobals "isinstance" = some none)
    (z8 : PySem.W.nsIn K mainGlobals "int" = some none)
    (z9 : PySem.W.nsIn K mainGlobals "bool" = some none)
    (z10 : PySem.W.nsIn K mainGlobals "tuple" = some none)
    (q0 : PySem.W.nsIn K mainGlobals "MOST_THINGS" = some (some (.int 12 tk0)))
    : ∃ fd : FuncData, (∀ (s : Shared) (v : Value), BindsTo s fd ⟨[v], []⟩ [("script", v)]) ∧ ∀ base : Heap, K.In base → base.Ns mainGlobals mg → FnOk l.prog w K mg base CX0 9 fa fd ["script"] (spLaw K) := by
  have e := hfa.symm.trans (PySem.W.mg_of X G a26)
  cases e
  have F1 := fun_mk (st := sMany) l1 c1 k1
  have b1 := F1.binds (ps := ["number"]) fun _ _ _ _ _ _ us hl => match us, hl with | [_], _ => rfl
  have m1 := PySem.W.mg_of X G a1
  have F2 := fun_mk (st := sIs) l2 c2 k2
  have b2 := F2.binds (ps := ["one"]) fun _ _ _ _ _ _ us hl => match us, hl with | [_], _ => rfl
  have m2 := PySem.W.mg_of X G a2
  have F3 := fun_mk (st := sAsk) l3 c3 k3
  have b3 := F3.binds (ps := ["one"]) fun _ _ _ _ _ _ us hl => match us, hl with | [_], _ => rfl
  have m3 := PySem.W.mg_of X G a3
  have F4 := fun_mk (st := sMarked) l4 c4 k4
  have b4 := F4.binds (ps := ["labels"]) fun _ _ _ _ _ _ us hl => match us, hl with | [_], _ => rfl
  have m4 := PySem.W.mg_of X G a4
  have F5 := fun_mk (st := sShares) l5 c5 k5
  have b5 := F5.binds (ps := ["one"]) fun _ _ _ _ _ _ us hl => match us, hl with | [_], _ => rfl
  have m5 := PySem.W.mg_of X G a5
  have F6 := fun_mk (st := sAlike) l6 c6 k6
  have b6 := F6.binds (ps := ["one", "other"]) fun _ _ _ _ _ _ us hl => match us, hl with | [_, _], _ => rfl
  have m6 := PySem.W.mg_of X G a6
  have F7 := fun_mk (st := sAskFin) l7 c7 k7
  have b7 := F7.binds (ps := ["one", "other"]) fun _ _ _ _ _ _ us hl => match us, hl with | [_, _], _ => rfl
  have m7 := PySem.W.mg_of X G a7
  have F8 := fun_mk (st := sFiner) l8 c8 k8
  have b8 := F8.binds (ps := ["one", "other"]) fun _ _ _ _ _ _ us hl => match us, hl with | [_, _], _ => rfl
  have m8 := PySem.W.mg_of X G a8
  have F9 := fun_mk (st := sMeet) l9 c9 k9
  have b9 := F9.binds (ps := ["one", "other"]) fun _ _ _ _ _ _ us hl => match us, hl with | [_, _], _ => rfl
  have m9 := PySem.W.mg_of X G a9
  have F10 := fun_mk (st := sRise) l10 c10 k10
  have b10 := F10.binds (ps := ["one", "other"]) fun _ _ _ _ _ _ us hl => match us, hl with | [_, _], _ => rfl
  have m10 := PySem.W.mg_of X G a10
  have F11 := fun_mk (st := sClimb) l11 c11 k11
  have b11 := F11.binds (ps := ["one", "other"]) fun _ _ _ _ _ _ us hl => match us, hl with | [_, _], _ => rfl
  have m11 := PySem.W.mg_of X G a11
  have F12 := fun_mk (st := sStep) l12 c12 k12
  have b12 := F12.binds (ps := ["marks", "kept", "gone"]) fun _ _ _ _ _ _ us hl => match us, hl with | [_, _, _], _ => rfl
  have m12 := PySem.W.mg_of X G a12
  have F13 := fun_mk (st := sJN) l13 c13 k13
  have b13 := F13.binds (ps := ["one", "other"]) fun _ _ _ _ _ _ us hl => match us, hl with | [_, _], _ => rfl
  have m13 := PySem.W.mg_of X G a13
  have F14 := fun_mk (st := sMR) l14 c14 k14
  have b14 := F14.binds (ps := ["one", "other"]) fun _ _ _ _ _ _ us hl => match us, hl with | [_, _], _ => rfl
  have m14 := PySem.W.mg_of X G a14
  have F15 := fun_mk (st := sMR1) l15 c15 k15
  have b15 := F15.binds (ps := ["shares"]) fun _ _ _ _ _ _ us hl => match us, hl with | [_], _ => rfl
  have m15 := PySem.W.mg_of X G a15
  have F16 := fun_mk (st := sCell) l16 c16 k16
  have b16 := F16.binds (ps := ["script", "k"]) fun _ _ _ _ _ _ us hl => match us, hl with | [_, _], _ => rfl
  have m16 := PySem.W.mg_of X G a16
  have F17 := fun_mk (st := sWhole) l17 c17 k17
  have b17 := F17.binds (ps := ["found"]) fun _ _ _ _ _ _ us hl => match us, hl with | [_], _ => rfl
  have m17 := PySem.W.mg_of X G a17
  have F18 := fun_mk (st := sNums) l18 c18 k18
  have b18 := F18.binds (ps := ["found", "due"]) fun _ _ _ _ _ _ us hl => match us, hl with | [_, _], _ => rfl
  have m18 := PySem.W.mg_of X G a18
  have F19 := fun_mk (st := sLMarks) l19 c19 k19
  have b19 := F19.binds (ps := ["script", "at", "things"]) fun _ _ _ _ _ _ us hl => match us, hl with | [_, _, _], _ => rfl
  have m19 := PySem.W.mg_of X G a19
  have F20 := fun_mk (st := sNamed) l20 c20 k20
  have b20 := F20.binds (ps := ["names"]) fun _ _ _ _ _ _ us hl => match us, hl with | [_], _ => rfl
  have m20 := PySem.W.mg_of X G a20
  have F21 := fun_mk (st := sLFiner) l21 c21 k21
  have b21 := F21.binds (ps := ["one", "other"]) fun _ _ _ _ _ _ us hl => match us, hl with | [_, _], _ => rfl
  have m21 := PySem.W.mg_of X G a21
  have F22 := fun_mk (st := sLMany) l22 c22 k22
  have b22 := F22.binds (ps := ["one", "other"]) fun _ _ _ _ _ _ us hl => match us, hl with | [_, _], _ => rfl
  have m22 := PySem.W.mg_of X G a22
  have F23 := fun_mk (st := sLProd) l23 c23 k23
  have b23 := F23.binds (ps := ["number"]) fun _ _ _ _ _ _ us hl => match us, hl with | [_], _ => rfl
  have m23 := PySem.W.mg_of X G a23
  have F24 := fun_mk (st := sLReck) l24 c24 k24
  have b24 := F24.binds (ps := ["one", "other"]) fun _ _ _ _ _ _ us hl => match us, hl with | [_, _], _ => rfl
  have m24 := PySem.W.mg_of X G a24
  have F25 := fun_mk (st := sGood) l25 c25 k25
  have b25 := F25.binds (ps := ["found", "one", "other"]) fun _ _ _ _ _ _ us hl => match us, hl with | [_, _, _], _ => rfl
  have m25 := PySem.W.mg_of X G a25
  have F26 := fun_mk (st := sLaw) l26 c26 k26
  have y0 := PySem.W.mg_none_of X G z0
  have y1 := PySem.W.mg_none_of X G z1
  have y2 := PySem.W.mg_none_of X G z2
  have y3 := PySem.W.mg_none_of X G z3
  have y4 := PySem.W.mg_none_of X G z4
  have y5 := PySem.W.mg_none_of X G z5
  have y6 := PySem.W.mg_none_of X G z6
  have y7 := PySem.W.mg_none_of X G z7
  have y8 := PySem.W.mg_none_of X G z8
  have y9 := PySem.W.mg_none_of X G z9
  have y10 := PySem.W.mg_none_of X G z10
  have w0 := PySem.W.mg_of X G q0
  refine ⟨PySem.W.fnOf "law" "law" (defArgs sLaw) (defBody sLaw) (defScope sLaw) .none kV26 dc26 pm26 an26 cd26 ct26, fun s v => .of_eq rfl, fun base _ _ => ?_⟩
  have g1 : Fn l.prog w K mg base "is_many_things" ["number"] 1 (spMany K) := ⟨_, _, m1, k1, b1, ok_many F1 w0⟩
  have g2 : Fn l.prog w K mg base "is_sharing" ["one"] 2 (spIs K) := ⟨_, _, m2, k2, b2, ok_is F2 g1 y0⟩
  have g3 : Fn l.prog w K mg base "ask_sharing" ["one"] 3 (spAsk K) := ⟨_, _, m3, k3, b3, ok_ask F3 g2⟩
  have g4 : Fn l.prog w K mg base "marked" ["labels"] 1 (spMarked (labPair K)) := ⟨_, _, m4, k4, b4, ok_marked (dlPair K) F4 y0⟩
  have g5 : Fn l.prog w K mg base "marked" ["labels"] 1 (spMarked (labInt K)) := ⟨_, _, m4, k4, b4, ok_marked (dlInt K) F4 y0⟩
  have g6 : Fn l.prog w K mg base "shares_of" ["one"] 4 (spShares K) := ⟨_, _, m5, k5, b5, ok_shares F5 g3 y1 y2 y3⟩
  have g7 : Fn l.prog w K mg base "ask_alike" ["one", "other"] 4 (spAlike K) := ⟨_, _, m6, k6, b6, ok_alike F6 g3 y0⟩
  have g8 : Fn l.prog w K mg base "meeting" ["one", "other"] 5 (spMeet K) := ⟨_, _, m9, k9, b9, ok_meet F9 g7 g4 y4 y5⟩
  have g9 : Fn l.prog w K mg base "is_finer" ["one", "other"] 6 (spFiner K) := ⟨_, _, m8, k8, b8, ok_finer F8 g8⟩
  have g10 : Fn l.prog w K mg base "ask_finer" ["one", "other"] 7 (spAskFin K) := ⟨_, _, m7, k7, b7, ok_askfin F7 g9⟩
  have g11 : Fn l.prog w K mg base "stepped" ["marks", "kept", "gone"] 2 (spStep K) := ⟨_, _, m12, k12, b12, ok_step F12 g5⟩
  have g12 : Fn l.prog w K mg base "climb" ["one", "other"] 5 (spClimb K) := ⟨_, _, m11, k11, b11, ok_climb F11 g6 g11 y4⟩
  have g13 : Fn l.prog w K mg base "rise" ["one", "other"] 8 (spRise K) := ⟨_, _, m10, k10, b10, ok_rise F10 g10 g12⟩
  have g14 : Fn l.prog w K mg base "joined_numbers" ["one", "other"] 5 (spJN K) := ⟨_, _, m13, k13, b13, ok_jn F13 g6 y0 y6⟩
  have g15 : Fn l.prog w K mg base "many_rises_to_one_share" ["shares"] 1 (spMR1 K) := ⟨_, _, m15, k15, b15, ok_mr1 F15 y1⟩
  have g16 : Fn l.prog w K mg base "many_rises" ["one", "other"] 8 (spMR K) := ⟨_, _, m14, k14, b14, ok_mr F14 g10 g14 g15 y1⟩
  have g17 : Fn l.prog w K mg base "_law_cell_at" ["script", "k"] 1 (spCell K) := ⟨_, _, m16, k16, b16, ok_cell F16 y0⟩
  have g18 : Fn l.prog w K mg base "_law_marks" ["script", "at", "things"] 2 (spLMarks K) := ⟨_, _, m19, k19, b19, ok_lmarks F19 g17 y1 y2⟩
  have g19 : Fn l.prog w K mg base "_law_whole" ["found"] 1 (spWhole K) := ⟨_, _, m17, k17, b17, ok_whole F17 y7 y8 y9⟩
  have g20 : Fn l.prog w K mg base "_law_numbers" ["found", "due"] 2 (spNums K) := ⟨_, _, m18, k18, b18, ok_nums F18 g19 y0 y7 y4⟩
  have g21 : Fn l.prog w K mg base "_law_named" ["names"] 1 (spMarked (labInt K)) := ⟨_, _, m20, k20, b20, ok_named (labInt K) F20⟩
  have g22 : Fn l.prog w K mg base "_law_finer" ["one", "other"] 1 (spLFiner K) := ⟨_, _, m21, k21, b21, ok_lfiner F21 y0 y1⟩
  have g23 : Fn l.prog w K mg base "_law_finer" ["one", "other"] 1 (spLFinerT K) := ⟨_, _, m21, k21, b21, ok_lfinerT F21 y0 y1⟩
  have g24 : Fn l.prog w K mg base "_law_good" ["found", "one", "other"] 3 (spGood9 K) := ⟨_, _, m25, k25, b25, ok_good9 F25 g20 g21 g22 y0 y7 y4 y2 y1⟩
  have g25 : Fn l.prog w K mg base "_law_product" ["number"] 1 (spLProd K) := ⟨_, _, m23, k23, b23, ok_lprod F23 y1⟩
  have g26 : Fn l.prog w K mg base "_law_reckoned" ["one", "other"] 2 (spLReck K) := ⟨_, _, m24, k24, b24, ok_lreck F24 g25 y1 y0 y2 y6⟩
  have g27 : Fn l.prog w K mg base "_law_many" ["one", "other"] 2 (spLMany K) := ⟨_, _, m22, k22, b22, ok_lmany F22 g21 g23 y4 y2 y1 y10⟩
  exact ok_law F26 g17 g18 g21 g13 g24 g16 g19 g27 g26 y4 y1 y2
theorem walk {l : PySem.W.OpenLaw} {q : Program} {loose : List Str} {XP : (Str → Option Value) → Heap → Prop} {YP : World → Heap → Prop} {d : DefRec} {K : Params → PySem.W.Frag} (hn : l.most = some 63) (hdf : d.params.defaults = [])
    (hY : ∀ (w : World) (h : Heap), YP w h → (K w.params).In h)
    (F : ∀ (w : World) (mg : Str → Option Value) (fa : Addr) (h : Heap), (K w.params).In h → h.Ns mainGlobals mg → mg d.name = some (.ref fa) →
      ∃ fd : FuncData, (∀ (s : Shared) (u : Value), BindsTo s fd ⟨[u], []⟩ [("script", u)]) ∧ ∀ base : Heap, (K w.params).In base → base.Ns mainGlobals mg → FnOk l.prog w (K w.params) mg base CX0 9 fa fd ["script"] (spLaw (K w.params))) :
    PySem.W.WalkO q loose XP YP l.row.toRowW d [] (fun f vs => PySem.call f vs) :=
  L2.walk_of (n := 63) (k := 9) (x := "script") (CX := fun _ => CX0) (sp := fun w => spLaw (K w.params)) hn (by decide) hdf ⟨rfl, by decide, by decide⟩ hY F (fun _ _ a ns hl _ hS => ⟨a, ns, rfl, hS, hl, fun _ => rfl⟩) fun _ _ _ _ _ z => z
end K
open PySem PySem.W PyProof.Rows
set_option maxRecDepth 100000 in
set_option maxHeartbeats 0 in
theorem PySem.Challenge.cw_sharings_k09_whole_rises_holds : PySem.Challenge.rw_sharings_k09_whole_rises.Holds := by
  w_on; o_law; k_head; (case hw => w_witness2)
  k_fill
  refine K.walk (l := PySem.Challenge.rw_sharings_k09_whole_rises) rfl rfl (fun w h Y => PySem.W.kIn_of Y) ?F
  case F =>
    intro w mg fa h KX G hmg
    refine' K.all_mk KX G hmg ?a1 ?l1 ?c1 ?k1 ?a2 ?l2 ?c2 ?k2 ?a3 ?l3 ?c3 ?k3 ?a4 ?l4 ?c4 ?k4 ?a5 ?l5 ?c5 ?k5 ?a6 ?l6 ?c6 ?k6 ?a7 ?l7 ?c7 ?k7 ?a8 ?l8 ?c8 ?k8 ?a9 ?l9 ?c9 ?k9 ?a10 ?l10 ?c10 ?k10 ?a11 ?l11 ?c11 ?k11 ?a12 ?l12 ?c12 ?k12 ?a13 ?l13 ?c13 ?k13 ?a14 ?l14 ?c14 ?k14 ?a15 ?l15 ?c15 ?k15 ?a16 ?l16 ?c16 ?k16 ?a17 ?l17 ?c17 ?k17 ?a18 ?l18 ?c18 ?k18 ?a19 ?l19 ?c19 ?k19 ?a20 ?l20 ?c20 ?k20 ?a21 ?l21 ?c21 ?k21 ?a22 ?l22 ?c22 ?k22 ?a23 ?l23 ?c23 ?k23 ?a24 ?l24 ?c24 ?k24 ?a25 ?l25 ?c25 ?k25 ?a26 ?l26 ?c26 ?k26 ?z0 ?z1 ?z2 ?z3 ?z4 ?z5 ?z6 ?z7 ?z8 ?z9 ?z10 ?q0
    (case a1 => k_is)
    (case l1 => k_is)
    (case c1 => k_is)
    (case k1 => k_is)
    (case a2 => k_is)
    (case l2 => k_is)
    (case c2 => k_is)
    (case k2 => k_is)
    (case a3 => k_is)
    (case l3 => k_is)
    (case c3 => k_is)
    (case k3 => k_is)
    (case a4 => k_is)
    (case l4 => k_is)
    (case c4 => k_is)
    (case k4 => k_is)
    (case a5 => k_is)
    (case l5 => k_is)
    (case c5 => k_is)
    (case k5 => k_is)
    (case a6 => k_is)
    (case l6 => k_is)
    (case c6 => k_is)
    (case k6 => k_is)
    (case a7 => k_is)
    (case l7 => k_is)
    (case c7 => k_is)
    (case k7 => k_is)
    (case a8 => k_is)
    (case l8 => k_is)
    (case c8 => k_is)
    (case k8 => k_is)
    (case a9 => k_is)
    (case l9 => k_is)
    (case c9 => k_is)
    (case k9 => k_is)
    (case a10 => k_is)
    (case l10 => k_is)
    (case c10 => k_is)
    (case k10 => k_is)
    (case a11 => k_is)
    (case l11 => k_is)
    (case c11 => k_is)
    (case k11 => k_is)
    (case a12 => k_is)
    (case l12 => k_is)
    (case c12 => k_is)
    (case k12 => k_is)
    (case a13 => k_is)
    (case l13 => k_is)
    (case c13 => k_is)
    (case k13 => k_is)
    (case a14 => k_is)
    (case l14 => k_is)
    (case c14 => k_is)
    (case k14 => k_is)
    (case a15 => k_is)
    (case l15 => k_is)
    (case c15 => k_is)
    (case k15 => k_is)
    (case a16 => k_is)
    (case l16 => k_is)
    (case c16 => k_is)
    (case k16 => k_is)
    (case a17 => k_is)
    (case l17 => k_is)
    (case c17 => k_is)
    (case k17 => k_is)
    (case a18 => k_is)
    (case l18 => k_is)
    (case c18 => k_is)
    (case k18 => k_is)
    (case a19 => k_is)
    (case l19 => k_is)
    (case c19 => k_is)
    (case k19 => k_is)
    (case a20 => k_is)
    (case l20 => k_is)
    (case c20 => k_is)
    (case k20 => k_is)
    (case a21 => k_is)
    (case l21 => k_is)
    (case c21 => k_is)
    (case k21 => k_is)
    (case a22 => k_is)
    (case l22 => k_is)
    (case c22 => k_is)
    (case k22 => k_is)
    (case a23 => k_is)
    (case l23 => k_is)
    (case c23 => k_is)
    (case k23 => k_is)
    (case a24 => k_is)
    (case l24 => k_is)
    (case c24 => k_is)
    (case k24 => k_is)
    (case a25 => k_is)
    (case l25 => k_is)
    (case c25 => k_is)
    (case k25 => k_is)
    (case a26 => k_is)
    (case l26 => k_is)
    (case c26 => k_is)
    (case k26 => k_is)
    (case z0 => k_is)
    (case z1 => k_is)
    (case z2 => k_is)
    (case z3 => k_is)
    (case z4 => k_is)
    (case z5 => k_is)
    (case z6 => k_is)
    (case z7 => k_is)
    (case z8 => k_is)
    (case z9 => k_is)
    (case z10 => k_is)
    (case q0 => k_is)
