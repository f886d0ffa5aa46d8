import PyProof.Rows.All
import Wide.All
import OpenK.AllK
import Wide.FinOn
import Lean
import PyProof.EqAt
import PyProof.EqKinds
import PyProof.TupleCall
import PyProof.NeData
import PyProof.EqLayable
import PyProof.ConsumeWalk
import PyProof.StrWalks
import PyProof.FString5
import PyProof.CallStr
import KE.KDictList
import KE.KDictSum
import PyProof.Rows.SortWalk
import PyProof.ListRange
import PyProof.EnumFor
import PyProof.EnumMake
import PyProof.EnumStmt
import PyProof.DictWalks
import PyProof.DictItems
import KE.KEqDict
import PyProof.Claim2Refuses
import KE.KDictLaws
import PyProof.WalkInts
import KE.KSortTup
import KE.KNest
import KE.KLam
import KE.KNestM
import PyProof.DictUpdate
import KE.KMinKey
import PySem.Challenge.RW_roadnet_k58_whole_names_however_late
set_option Elab.async false
set_option linter.all false
set_option maxRecDepth 100000
/-! THE HAND LAYER, for ints, bools, texts, own classes, LISTS and tuples (index, slices, in, append, pop ..), calls, loops. Paste it whole ahead of your own text; what your proof does not reach may be deleted. -/
namespace L2
open PySem PySem.Spec PyProof.Rows

/-- a key: an int or a str -/
abbrev Key := Sum Int Str
def keyIs : Key → Value → Bool
  | .inl k, v => Value.isInt k v
  | .inr x, v => Value.isStrOf x v
def keyH (w : World) : Key → Int
  | .inl k => hashInt k
  | .inr x => hashStr w x
theorem keyIs_shape : ∀ {k : Key} {v : Value}, keyIs k v = true → (∃ i t, k = Sum.inl i ∧ v = Value.int i t) ∨ (∃ x t, k = Sum.inr x ∧ v = Value.str x t)
  | .inl i, v, h => by
    obtain ⟨t, e⟩ := Value.isInt_shape (k := i) (v := v) h
    exact .inl ⟨i, t, rfl, e⟩
  | .inr x, v, h => by
    obtain ⟨t, e⟩ := Value.isStrOf_shape (x := x) (v := v) h
    exact .inr ⟨x, t, rfl, e⟩
theorem keyIs_int (i : Int) (t : Tok) : keyIs (.inl i) (.int i t) = true := by simp [keyIs, Value.isInt]
theorem keyIs_str (x : Str) (t : Tok) : keyIs (.inr x) (.str x t) = true := by simp [keyIs, Value.isStrOf]
theorem key_ll (a b : Int) : decide ((Sum.inl a : Key) = Sum.inl b) = (a == b) := by
  by_cases e : a = b
  · subst e; simp
  · have h : ¬ (Sum.inl a : Key) = Sum.inl b := fun q => e (Sum.inl.inj q)
    rw [decide_eq_false h]
    exact (beq_eq_false_iff_ne.mpr e).symm
theorem key_rr (a b : Str) : decide ((Sum.inr a : Key) = Sum.inr b) = decide (a = b) := by
  by_cases e : a = b
  · subst e; simp
  · have h : ¬ (Sum.inr a : Key) = Sum.inr b := fun q => e (Sum.inr.inj q)
    rw [decide_eq_false h, decide_eq_false e]
theorem key_lr (a : Int) (b : Str) : decide ((Sum.inl a : Key) = Sum.inr b) = false := decide_eq_false (fun q => nomatch q)
theorem key_rl (a : Str) (b : Int) : decide ((Sum.inr a : Key) = Sum.inl b) = false := decide_eq_false (fun q => nomatch q)

def mixKind (prog : Program) (w : World) : PySem.KeyKind prog w Key where
  is := keyIs
  hash := keyH w
  inj := fun v a b ha hb => by
    rcases keyIs_shape ha with ⟨i, t, rfl, rfl⟩ | ⟨x, t, rfl, rfl⟩
    · rcases keyIs_shape hb with ⟨j, u, rfl, e⟩ | ⟨y, u, rfl, e⟩
      · injection e with e1 _; rw [e1]
      · exact nomatch e
    · rcases keyIs_shape hb with ⟨j, u, rfl, e⟩ | ⟨y, u, rfl, e⟩
      · exact nomatch e
      · injection e with e1 _; rw [e1]
  byValue := fun k v h => by
    rcases keyIs_shape h with ⟨i, t, rfl, rfl⟩ | ⟨x, t, rfl, rfl⟩ <;> rfl
  pyHash := fun hv h => by
    rcases keyIs_shape hv with ⟨i, t, rfl, rfl⟩ | ⟨x, t, rfl, rfl⟩
    · exact wpAny_pyHash_int h
    · exact wpAny_pyHash_str h
  eqBool := fun hu hv h => by
    rcases keyIs_shape hu with ⟨i, t, rfl, rfl⟩ | ⟨x, t, rfl, rfl⟩
    · rcases keyIs_shape hv with ⟨j, u, rfl, rfl⟩ | ⟨y, u, rfl, rfl⟩
      · rw [key_ll] at h; exact wpAny_eqBool_int h
      · rw [key_lr] at h; exact SeqAt.EqAt.int_str i t y u _ _ _ _ h
    · rcases keyIs_shape hv with ⟨j, u, rfl, rfl⟩ | ⟨y, u, rfl, rfl⟩
      · rw [key_rl] at h; exact SeqAt.EqAt.str_int x t j u _ _ _ _ h
      · rw [key_rr] at h; exact wpAny_eqBool_str h
  «strs» := fun k x t v h => by
    rcases keyIs_shape h with ⟨i, u, rfl, e⟩ | ⟨y, u, rfl, e⟩
    · exact nomatch e
    · injection e with e1 _
      subst e1
      cases v <;> rfl

theorem mixKind_int (prog : Program) (w : World) (i : Int) (t : Tok) : (mixKind prog w).is (.inl i) (.int i t) = true := keyIs_int i t
theorem mixKind_str (prog : Program) (w : World) (x : Str) (t : Tok) : (mixKind prog w).is (.inr x) (.str x t) = true := keyIs_str x t
end L2

namespace L2
open PySem PySem.Spec PyProof.Rows

/-- a value, without the heap -/
inductive V where
  | non | bl (b : Bool) | int (i : Int) | str (x : Str) | byt (b : Array UInt8) | flt (b : UInt64) | ref (a : Addr) | ty (n : String)
  deriving DecidableEq

def RelV : V → Value → Prop
  | .non, u => u = Value.none
  | .bl b, u => u = Value.bool b
  | .int i, u => ∃ t, u = Value.int i t
  | .str x, u => ∃ t, u = Value.str x t
  | .byt b, u => ∃ t, u = Value.bytes b t
  | .flt b, u => ∃ t, u = Value.float b t
  | .ref a, u => u = Value.ref a
  | .ty n, u => u = Value.type n

abbrev Vals : List V → List Value → Prop := Paired RelV
theorem Vals.length {xs : List V} {us : List Value} (r : Vals xs us) : xs.length = us.length := Paired.length r
theorem Vals.get : ∀ {xs : List V} {us : List Value} {i : Nat} {x : V}, Vals xs us → xs[i]? = some x → ∃ u, us[i]? = some u ∧ RelV x u
  | _, _, _, _, .nil, e => by simp at e
  | _, _, 0, _, .cons r _, e => by simp at e; subst e; exact ⟨_, rfl, r⟩
  | _, _, i + 1, x, .cons _ t, e => by
    obtain ⟨u, h1, h2⟩ := Vals.get (i := i) (x := x) t (by simpa using e)
    exact ⟨u, by simpa using h1, h2⟩
theorem Vals.set {x : V} {u : Value} (r : RelV x u) : ∀ {xs : List V} {us : List Value} (i : Nat), Vals xs us → Vals (xs.set i x) (us.set i u)
  | _, _, _, .nil => .nil
  | _, _, 0, .cons _ t => .cons r t
  | _, _, i + 1, .cons q t => .cons q (Vals.set r i t)
theorem Vals.append : ∀ {xs ys : List V} {us ws : List Value}, Vals xs us → Vals ys ws → Vals (xs ++ ys) (us ++ ws)
  | _, _, _, _, .nil, s => s
  | _, _, _, _, .cons r t, s => .cons r (Vals.append t s)
theorem Vals.take : ∀ {xs : List V} {us : List Value} (n : Nat), Vals xs us → Vals (xs.take n) (us.take n)
  | _, _, 0, _ => .nil
  | _, _, _ + 1, .nil => .nil
  | _, _, n + 1, .cons r t => .cons r (Vals.take n t)
theorem Vals.drop : ∀ {xs : List V} {us : List Value} (n : Nat), Vals xs us → Vals (xs.drop n) (us.drop n)
  | _, _, 0, r => r
  | _, _, _ + 1, .nil => .nil
  | _, _, n + 1, .cons _ t => Vals.drop n t
theorem Vals.none_of : ∀ {xs : List V} {us : List Value} {i : Nat}, Vals xs us → xs[i]? = none → us[i]? = none := fun {xs us i} r e => by
  have h1 := r.length
  have h2 : xs.length ≤ i := List.getElem?_eq_none_iff.mp e
  exact List.getElem?_eq_none_iff.mpr (by omega)

def RelO : Option V → Option Value → Prop
  | some v, some u => RelV v u
  | none, none => True
  | _, _ => False
def KV {κ : Type} : List (κ × V) → List (κ × Value) → Prop := Paired fun (p : κ × V) (q : κ × Value) => p.1 = q.1 ∧ RelV p.2 q.2

/-- a key of a dict (00_mix): an int or a text -/
def kV : Key → V
  | .inl i => .int i
  | .inr x => .str x

/-- what stands at a tracked address -/
inductive HO where
  /-- a list -/
  | lst (xs : List V)
  /-- a tuple (never changes) -/
  | tup (xs : List V)
  /-- a dict whose keys are ints and texts; one whose keys are tuples of ints and texts (the empty one is both) -/
  | dK (kvs : List (Key × V)) | dT (kvs : List (List Key × V))
  /-- a set of ints: its members, its size -/
  | set (S : Int → Bool) (n : Nat)
  /-- an instance of the class at C, its dict at dx, its attributes -/
  | ins (C dx : Addr) (fs : List (Str × V))
  /-- the dict of the instance at x -/
  | own (x : Addr)
  /-- the dict of an exception -/
  | xd (fs : List (Str × V))
  /-- a bound method, f of x -/
  | met (f x : Addr)
  /-- a range object lo, lo + 1, .. below hi -/
  | rng (lo hi : Int)
  /-- a thing that is known to the object (the script; a dict while a loop walks it): read, never written while it is so -/
  | frz (o : Obj) (u : HO)
  /-- a code object's table -/
  | tbl (ps : Array Value)
  /-- any other thing, by what is true of its one object (a def of one's own: SetO a S n := HO.ext fun h => ..) -/
  | ext (φ : Heap → Prop)

abbrev Hp := Addr → Option HO
def upd (H : Hp) (a : Addr) (o : HO) : Hp := fun b => if b = a then some o else H b
theorem upd_same {H : Hp} {a : Addr} {o : HO} : upd H a o a = some o := by unfold upd; rw [if_pos rfl]
theorem upd_ne {H : Hp} {a b : Addr} {o : HO} (h : b ≠ a) : upd H a o b = H b := by unfold upd; rw [if_neg h]
theorem upd_upd {H : Hp} {a : Addr} {o u : HO} : upd (upd H a o) a u = upd H a u := by
  funext b; unfold upd; split <;> rfl
/-- two objects of different content stand apart -/
theorem ne_of {H : Hp} {a b : Addr} {o u : HO} (h : H a = some o) (h' : H b = some u) (d : o ≠ u) : a ≠ b := by
  intro e; subst e; rw [h] at h'; exact d (Option.some.inj h')
theorem ne_of_none {H : Hp} {a b : Addr} {o : HO} (h : H a = some o) (h' : H b = none) : a ≠ b := by
  intro e; subst e; rw [h] at h'; cases h'

section
variable (P : Program) (w : World)
def ObjOk (H : Hp) (h : Heap) (a : Addr) : HO → Prop
  | .lst xs => xs.length ≤ sizeLine ∧ ∃ (its : List Value) (n : Nat), Vals xs its ∧ h.get? a = some { cls := .type "list", data := .seq its.toArray n }
  | .tup xs => xs.length ≤ sizeLine ∧ ∃ its : List Value, Vals xs its ∧ IsTup h a its.toArray
  | .dK kvs => kvs.length ≤ sizeLine ∧ (a == sysModules) = false ∧ ∃ vs, KV kvs vs ∧ h.DictOf (mixKind P w) a vs
  | .dT kvs => kvs.length ≤ sizeLine ∧ (a == sysModules) = false ∧ ∃ xs : List (List Key × Addr × Value),
      Paired (fun (p : List Key × V) (q : List Key × Addr × Value) => p.1 = q.1 ∧ H q.2.1 = some (.tup (p.1.map kV)) ∧ RelV p.2 q.2.2) kvs xs ∧
      ∃ o es ep, h.get? a = some o ∧ o.ExactDict ∧ o.data = .dict es ep ∧ es.toList = xs.map (entryOfKey (tupleKind (mixKind P w))) ∧ (xs.map (·.1)).Nodup
  | .set S n => h.SetOf (intKind P w) a S n
  | .ins C dx fs => H dx = some (.own a) ∧ fs.length ≤ 1000 ∧ dx ≠ a ∧ h.get? a = some (PySem.W.instObj C dx) ∧
      ∃ mA, h.Ns1 dx mA ∧ (∀ f, RelO (fs.lookup f) (mA f)) ∧ PySem.Within mA (fs.map (·.1))
  | .own _ => ∃ o, h.get? a = some o
  | .xd fs => ∃ mA, h.Ns1 a mA ∧ ∀ f, RelO (fs.lookup f) (mA f)
  | .rng lo hi => ∃ t u v, h.get? a = some { cls := .type "range", data := .fields #[.int lo t, .int hi u, .int 1 v] }
  | .frz o u => h.get? a = some o ∧ ObjOk H h a u
  | .tbl ps => h.get? a = some { cls := .none, data := .fields ps }
  | .met f x => h.get? a = some (PySem.W.methodObj (.ref f) (.ref x))
  | .ext φ => φ h ∧ (∃ o, h.get? a = some o) ∧ ∀ h1 h2 : Heap, φ h1 → (∀ o, h1.get? a = some o → h2.get? a = some o) → φ h2
/-- the abstract heap is held -/
def HOk (H : Hp) (h : Heap) : Prop := ∀ a o, H a = some o → ObjOk P w H h a o
end

section
variable {P : Program} {w : World} {H H' : Hp} {h h' : Heap} {a : Addr} {o : HO}
theorem ObjOk.lt (x : ObjOk P w H h a o) : a < h.objs.size := by
  cases o with
  | lst xs => obtain ⟨_, _, _, _, e⟩ := x; exact Heap.lt_size e
  | tup xs => obtain ⟨_, _, _, p⟩ := x; exact p.lt
  | dK kvs => obtain ⟨_, _, _, _, o, _, _, e, _⟩ := x; exact Heap.lt_size e
  | dT kvs => obtain ⟨_, _, _, _, o, _, _, e, _⟩ := x; exact Heap.lt_size e
  | set S n => obtain ⟨o, _, _, _, e, _⟩ := x; exact Heap.lt_size e
  | ins C dx fs => obtain ⟨_, _, _, e, _⟩ := x; exact Heap.lt_size e
  | own y => obtain ⟨_, e⟩ := x; exact Heap.lt_size e
  | xd fs => obtain ⟨_, ⟨_, _, _, e, _⟩, _⟩ := x; exact Heap.lt_size e
  | rng lo hi => obtain ⟨_, _, _, e⟩ := x; exact Heap.lt_size e
  | frz ob u => obtain ⟨e, _⟩ := x; exact Heap.lt_size e
  | tbl ps => exact Heap.lt_size (show h.get? a = some _ from x)
  | met f y => exact Heap.lt_size (show h.get? a = some _ from x)
  | ext φ => obtain ⟨_, ⟨_, e⟩, _⟩ := x; exact Heap.lt_size e
theorem Paired.mapP {α β : Type} {F G : α → β → Prop} : ∀ {l₁ : List α} {l₂ : List β}, Paired F l₁ l₂ → (∀ a b, F a b → G a b) → Paired G l₁ l₂
  | _, _, .nil, _ => .nil
  | _, _, .cons r t, f => .cons (f _ _ r) (Paired.mapP t f)
/-- what an object's description leans on: its own object, its own dict, the tuples -/
theorem ObjOk.stay (x : ObjOk P w H h a o) (k : ∀ b u, (b = a ∨ H b = some (.own a)) → h.get? b = some u → h'.get? b = some u)
    (ho : ∀ b, H b = some (.own a) → H' b = some (.own a)) (ht : ∀ b xs, H b = some (.tup xs) → H' b = some (.tup xs)) : ObjOk P w H' h' a o := by
  induction o with
  | lst xs => obtain ⟨z, its, n, r, e⟩ := x; exact ⟨z, its, n, r, k _ _ (.inl rfl) e⟩
  | tup xs => obtain ⟨z, its, r, ob, e, c⟩ := x; exact ⟨z, its, r, ob, k _ _ (.inl rfl) e, c⟩
  | dK kvs => obtain ⟨z, y, vs, r, ob, es, ep, e, c⟩ := x; exact ⟨z, y, vs, r, ob, es, ep, k _ _ (.inl rfl) e, c⟩
  | dT kvs =>
    obtain ⟨z, y, xs, r, ob, es, ep, e, c⟩ := x
    exact ⟨z, y, xs, Paired.mapP r fun p q z => ⟨z.1, ht _ _ z.2.1, z.2.2⟩, ob, es, ep, k _ _ (.inl rfl) e, c⟩
  | set S n => obtain ⟨ob, es, ep, t, e, c⟩ := x; exact ⟨ob, es, ep, t, k _ _ (.inl rfl) e, c⟩
  | ins C dx fs =>
    obtain ⟨d, z, ne, e, mA, ⟨od, es, ep, e2, c⟩, r⟩ := x
    exact ⟨ho _ d, z, ne, k _ _ (.inl rfl) e, mA, ⟨od, es, ep, k _ _ (.inr d) e2, c⟩, r⟩
  | own y => obtain ⟨ob, e⟩ := x; exact ⟨ob, k _ _ (.inl rfl) e⟩
  | xd fs => obtain ⟨mA, ⟨od, es, ep, e, c⟩, r⟩ := x; exact ⟨mA, ⟨od, es, ep, k _ _ (.inl rfl) e, c⟩, r⟩
  | rng lo hi => obtain ⟨t, u, v, e⟩ := x; exact ⟨t, u, v, k _ _ (.inl rfl) e⟩
  | frz ob u ih => obtain ⟨e, q⟩ := x; exact ⟨k _ _ (.inl rfl) e, ih q⟩
  | tbl ps =>
    have e : h.get? a = some { cls := .none, data := .fields ps } := x
    show h'.get? a = some { cls := .none, data := .fields ps }
    exact k a _ (.inl rfl) e
  | met f y =>
    have e : h.get? a = some (PySem.W.methodObj (.ref f) (.ref y)) := x
    show h'.get? a = some (PySem.W.methodObj (.ref f) (.ref y))
    exact k a _ (.inl rfl) e
  | ext φ => obtain ⟨p, ⟨o, e⟩, st⟩ := x; exact ⟨st _ _ p fun o q => k _ _ (.inl rfl) q, ⟨o, k _ _ (.inl rfl) e⟩, st⟩
theorem HOk.lt (x : HOk P w H h) (e : H a = some o) : a < h.objs.size := (x a o e).lt
theorem HOk.fresh (x : HOk P w H h) (e : h.objs.size ≤ a) : H a = none := by
  cases q : H a with
  | none => rfl
  | some u => exact absurd (Nat.lt_of_lt_of_le (x.lt q) e) (Nat.lt_irrefl _)
/-- every object of the heap is kept -/
theorem HOk.kept (x : HOk P w H h) (k : ∀ b u, h.get? b = some u → h'.get? b = some u) : HOk P w H h' := fun a o e =>
  (x a o e).stay (fun b u _ q => k b u q) (fun _ q => q) fun _ _ q => q
/-- a new object is laid and tracked -/
theorem HOk.laid (x : HOk P w H h) (k : ∀ b u, h.get? b = some u → h'.get? b = some u) (hp : h.objs.size ≤ a) (new : ObjOk P w (upd H a o) h' a o) : HOk P w (upd H a o) h' := fun b u e => by
  have hn := x.fresh hp
  by_cases hb : b = a
  · subst hb; rw [upd_same] at e; cases e; exact new
  · rw [upd_ne hb] at e
    exact (x b u e).stay (fun c v _ q => k c v q) (fun c q => by rw [upd_ne (ne_of_none q hn)]; exact q) fun c xs q => by rw [upd_ne (ne_of_none q hn)]; exact q
end

/-- what may be read as u: it is u, or a known u -/
def Rd (H : Hp) (a : Addr) (u : HO) : Prop := H a = some u ∨ ∃ o, H a = some (.frz o u)
theorem Rd.of {H : Hp} {a : Addr} {u : HO} (h : H a = some u) : Rd H a u := .inl h
theorem Rd.ok {P : Program} {w : World} {H : Hp} {h : Heap} {a : Addr} {u : HO} (r : Rd H a u) (x : HOk P w H h) : ObjOk P w H h a u := by
  rcases r with r | ⟨o, r⟩
  · exact x a u r
  · obtain ⟨_, q⟩ := x a _ r
    exact q
/-- what may be written -/
def Mut : Option HO → Prop
  | some (.lst _) => True
  | some (.dK _) => True
  | some (.dT _) => True
  | some (.set _ _) => True
  | some (.ins _ _ _) => True
  | some (.ext _) => True
  | _ => False
section
variable {P : Program} {w : World} {H : Hp} {h h' : Heap} {x e : Addr} {o' : HO}
/-- the object at e is changed: x itself, or the dict of the instance x -/
theorem HOk.write (ok : HOk P w H h) (mu : Mut (H x)) (he : e = x ∨ H e = some (.own x)) (k : ∀ b u, b ≠ e → h.get? b = some u → h'.get? b = some u) (heo : ∃ u, h'.get? e = some u)
    (new : ObjOk P w (upd H x o') h' x o') : HOk P w (upd H x o') h' := fun b u q => by
  have nown : ∀ c y, H c = some (.own y) → c ≠ x := fun c y r z => by subst z; rw [r] at mu; exact mu
  have ntup : ∀ c xs, H c = some (.tup xs) → c ≠ x := fun c xs r z => by subst z; rw [r] at mu; exact mu
  by_cases hb : b = x
  · subst hb; rw [upd_same] at q; cases q; exact new
  · rw [upd_ne hb] at q
    by_cases hbe : b = e
    · have q' : H b = some (.own x) := by
        rcases he with z | z
        · exact absurd (hbe.trans z) hb
        · rw [hbe]; exact z
      rw [q] at q'; cases q'
      obtain ⟨v, hv⟩ := heo
      exact ⟨v, by rw [hbe]; exact hv⟩
    · refine (ok b u q).stay (fun c v hc r => k c v ?_ r) (fun c r => by rw [upd_ne (nown c b r)]; exact r) fun c xs r => by rw [upd_ne (ntup c xs r)]; exact r
      rcases hc with rfl | hc
      · exact hbe
      · rintro rfl
        rcases he with z | z
        · exact nown c b hc z
        · rw [hc] at z; cases z; exact hb rfl
end

/-! ### kept unless tracked; of the frames at fs (the callers') the slots may change (an exception that passes writes there); of the records at ex (iterators) nothing is said -/
structure Un (fs ex : List Addr) (H H' : Hp) (h h' : Heap) : Prop where
  keep : ∀ b o, h.get? b = some o → H b = none → b ∉ fs → b ∉ ex → h'.get? b = some o
  slot : ∀ b o, h.get? b = some o → H b = none → b ∈ fs → b ∉ ex → ∃ sl, h'.get? b = some { o with slots := sl }
  free : ∀ b o, h.get? b = some o → H b = none → b ∉ ex → H' b = none
  there : ∀ b o, h.get? b = some o → b ∉ ex → ∃ o', h'.get? b = some o'
  tups : ∀ b xs, H b = some (.tup xs) → H' b = some (.tup xs)
  frzs : ∀ b o u, H b = some (.frz o u) → H' b = some (.frz o u)
  tbls : ∀ b ps, H b = some (.tbl ps) → ∃ more, H' b = some (.tbl (ps ++ more))
section
variable {fs fs' ex ex' : List Addr} {H H1 H2 : Hp} {h h1 h2 h' : Heap} {a x e : Addr} {o : HO}
theorem Un.any (u : Un fs ex H H1 h h1) {b : Addr} {ob : Obj} (q : h.get? b = some ob) (n : H b = none) (hx : b ∉ ex) : ∃ sl, h1.get? b = some { ob with slots := sl } := by
  by_cases hb : b ∈ fs
  · exact u.slot b ob q n hb hx
  · exact ⟨ob.slots, u.keep b ob q n hb hx⟩
theorem Un.trans (a : Un fs ex H H1 h h1) (b : Un fs ex H1 H2 h1 h2) : Un fs ex H H2 h h2 where
  keep := fun c ob q n hc hx => b.keep c ob (a.keep c ob q n hc hx) (a.free c ob q n hx) hc hx
  slot := fun c ob q n hc hx => by
    obtain ⟨sl, e1⟩ := a.slot c ob q n hc hx
    obtain ⟨sl', e2⟩ := b.slot c _ e1 (a.free c ob q n hx) hc hx
    exact ⟨sl', e2⟩
  free := fun c ob q n hx => by
    obtain ⟨o', e1⟩ := a.there c ob q hx
    exact b.free c o' e1 (a.free c ob q n hx) hx
  there := fun c ob q hx => by
    obtain ⟨o', e1⟩ := a.there c ob q hx
    exact b.there c o' e1 hx
  tups := fun c xs q => b.tups c xs (a.tups c xs q)
  frzs := fun c ob xs q => b.frzs c ob xs (a.frzs c ob xs q)
  tbls := fun c ps q => by
    obtain ⟨m1, e1⟩ := a.tbls c ps q
    obtain ⟨m2, e2⟩ := b.tbls c _ e1
    exact ⟨m1 ++ m2, by rw [e2, Array.append_assoc]⟩
theorem Un.kept (k : ∀ b u, h.get? b = some u → h'.get? b = some u) : Un fs ex H H h h' :=
  ⟨fun b ob q _ _ _ => k b ob q, fun b ob q _ _ _ => ⟨ob.slots, k b ob q⟩, fun _ _ _ n _ => n, fun b ob q _ => ⟨ob, k b ob q⟩, fun _ _ q => q, fun _ _ _ q => q, fun _ ps q => ⟨#[], by rw [q]; simp⟩⟩
theorem Un.refl : Un fs ex H H h h := Un.kept fun _ _ q => q
theorem Un.laid (k : ∀ b u, h.get? b = some u → h'.get? b = some u) (hp : h.objs.size ≤ a) (hn : H a = none) : Un fs ex H (upd H a o) h h' where
  keep := fun b u q _ _ _ => k b u q
  slot := fun b u q _ _ _ => ⟨u.slots, k b u q⟩
  free := fun b u q n _ => by rw [upd_ne (Nat.ne_of_lt (Nat.lt_of_lt_of_le (Heap.lt_size q) hp))]; exact n
  there := fun b u q _ => ⟨u, k b u q⟩
  tups := fun b xs q => by rw [upd_ne (ne_of_none q hn)]; exact q
  frzs := fun b u xs q => by rw [upd_ne (ne_of_none q hn)]; exact q
  tbls := fun b ps q => ⟨#[], by rw [upd_ne (ne_of_none q hn), q]; simp⟩
theorem Un.write (mu : Mut (H x)) (he : e = x ∨ H e = some (.own x)) (k : ∀ b u, b ≠ e → h.get? b = some u → h'.get? b = some u) (heo : ∃ u, h'.get? e = some u) : Un fs ex H (upd H x o) h h' := by
  have hx : ∀ b, H b = none → b ≠ x := fun b n z => by subst z; rw [n] at mu; exact mu
  have hb : ∀ b, H b = none → b ≠ e := fun b n z => by
    subst z
    rcases he with r | r
    · exact hx b n r
    · rw [n] at r; cases r
  have hm : ∀ b u, H b = some u → ¬ Mut (some u) → b ≠ x := fun b u q nm z => by subst z; rw [q] at mu; exact nm mu
  refine ⟨fun b u q n _ _ => k b u (hb b n) q, fun b u q n _ _ => ⟨u.slots, k b u (hb b n) q⟩, fun b u q n _ => by rw [upd_ne (hx b n)]; exact n, fun b u q _ => ?_,
    fun b xs q => by rw [upd_ne (hm b _ q fun z => z)]; exact q, fun b u xs q => by rw [upd_ne (hm b _ q fun z => z)]; exact q, fun b ps q => ⟨#[], by rw [upd_ne (hm b _ q fun z => z), q]; simp⟩⟩
  by_cases hbe : b = e
  · subst hbe; exact heo
  · exact ⟨u, k b u hbe q⟩
theorem Un.mono (u : Un fs ex H H1 h h1) (hs : ∀ b ∈ fs, b ∈ fs') (hx : ∀ b ∈ ex, b ∈ ex') : Un fs' ex' H H1 h h1 :=
  ⟨fun b ob q n hb he => u.keep b ob q n (fun z => hb (hs b z)) fun z => he (hx b z), fun _ _ q n _ he => u.any q n fun z => he (hx _ z), fun b ob q n he => u.free b ob q n fun z => he (hx b z), fun b ob q he => u.there b ob q fun z => he (hx b z), u.tups, u.frzs, u.tbls⟩
end

/-! ### the heap without what is tracked -/
def trk (h : Heap) (H : Hp) : List Addr := (List.range h.objs.size).filter fun a => (H a).isSome
def hidT (h : Heap) (H : Hp) : Heap := PySem.W.hideAll h (trk h H)
theorem hidT_size (h : Heap) (H : Hp) : (hidT h H).objs.size = h.objs.size := PySem.W.hideAll_size _ _
theorem hidT_get {h : Heap} {H : Hp} {b : Addr} {o : Obj} (e : h.get? b = some o) (n : H b = none) : (hidT h H).get? b = some o :=
  PySem.W.hideAll_get _ e fun hm => by
    have q : (H b).isSome = true := (List.mem_filter.mp hm).2
    rw [n] at q; simp at q
theorem of_hidT {h : Heap} {H : Hp} {b : Addr} {o : Obj} (e : (hidT h H).get? b = some o) : h.get? b = some o ∧ H b = none := by
  have e' : h.get? b = some o := PySem.W.of_hideAll (trk h H) e
  refine ⟨e', ?_⟩
  cases q : H b with
  | none => rfl
  | some x =>
    have hm : b ∈ trk h H := List.mem_filter.mpr ⟨List.mem_range.mpr (Heap.lt_size e'), by simp [q]⟩
    have z : (hidT h H).get? b = none := PySem.W.hideAll_none (trk h H) hm
    rw [z] at e; cases e

/-! ### OpenK's ledger, filled with every new object but one -/
def allNews (g h : Heap) (L : Addr) : List (Addr × Obj) := (List.range h.objs.size).filterMap fun a => if a = L ∨ (g.get? a).isSome = true then none else (h.get? a).map fun o => (a, o)
def rest (g h : Heap) (L d : Addr) : List (Addr × Obj) := (allNews g h L).filter fun p => decide (p.1 ≠ d)
end L2

namespace L2
open PySem PySem.Spec PyProof.Rows

/-- the module's facts, over the base: the heap at the law's entry without what is tracked there -/
structure Mod (K : PySem.W.Frag) (mg : Str → Option Value) (base : Heap) : Prop where
  kin : K.In base
  glob : base.Ns mainGlobals mg
  blt : ∃ mb, base.Ns builtinsNs mb ∧ ∀ x : Str, x ≠ "__name__" → mb x = bootBuiltins x
  nolimit : base.NoLimit

/-- the context: a def's body (or a comprehension's block) running. base: fixed through the whole law; s₀, H₀: the entry; outer: the frames whose slots others may change (a def's callers); stack: all frames that run;
   ex: iterators that were made ahead of the entry and are walked here (a comprehension's); fn: the names whose cells were made at the entry (a def: all; a comprehension's block: its own); calm: not within an except suite; pn: pins that every state bears; xe: what is wanted of an exception that leaves the code -/
structure Cx where
  prog : Program
  w : World
  K : PySem.W.Frag
  mg : Str → Option Value
  base : Heap
  A : Around
  N : List Str
  s₀ : Shared
  H₀ : Hp
  env : Env
  outer : List Env
  stack : List Env
  ex : List Addr
  fn : Str → Bool
  calm : Bool
  pn : List (Addr × Obj)
  xe : Value → Shared → Prop
/-- the callers' frames -/
def frs (l : List Env) : List Addr := l.filterMap (·.frame)
abbrev Cx.fs (X : Cx) : List Addr := frs X.outer

def Vis (sc : Scope) (x : Str) : Prop := sc.names.lookup x = some .local ∨ sc.names.lookup x = some .cell ∨ sc.names.lookup x = some .free
def Loc (sc : Scope) (x : Str) : Prop := sc.names.lookup x = some .local ∨ sc.names.lookup x = some .cell
def Look (env : Env) (h : Heap) (m : Str → Option Value) (x : Str) (u : Value) : Prop :=
  (env.kindOf x = some .local ∧ m x = some u) ∨ ((env.kindOf x = some .cell ∨ env.kindOf x = some .free) ∧ ∃ c, env.cells.lookup x = some c ∧ h.IsCell c (some u))

structure Cx.Ok (X : Cx) : Prop where
  mod : Mod X.K X.mg X.base
  kind : X.env.scope.kind = .function
  glob : X.env.globals = mainGlobals
  blt : X.env.builtins = builtinsNs
  above : X.s₀.heap.objs.size ≤ X.env.locals
  inj : ∀ x y c, X.env.cells.lookup x = some c → X.env.cells.lookup y = some c → x = y
  has : ∀ x, (X.env.kindOf x = some .cell ∨ X.env.kindOf x = some .free) → ∃ c, X.env.cells.lookup x = some c
  cab : ∀ x c, X.fn x = true → X.env.cells.lookup x = some c → X.s₀.heap.objs.size ≤ c
  hd : X.calm = true → X.A.handled = none
  frames : X.A.frames = some X.stack
  stk : X.stack = X.outer ∨ (X.stack = X.env :: X.outer ∧ X.env.frame = some X.env.locals)
  exf : ∀ b ∈ X.ex, b ≠ X.env.locals ∧ ∀ x c, X.env.cells.lookup x = some c → c ≠ b
  bs : ∀ b o, X.base.get? b = some o → X.s₀.heap.get? b = some o ∧ X.H₀ b = none
  bsz : X.base.objs.size ≤ X.s₀.heap.objs.size
  noex : ∀ b o, X.base.get? b = some o → b ∉ X.ex
  exfs : ∀ b ∈ X.ex, b ∉ X.fs
  funs : X.s₀.heap.FunFrames X.base X.outer
  frf : ∀ b ∈ X.fs, X.H₀ b = none

structure Inv (X : Cx) (pins : List (Addr × Obj)) (σ : List (Option V)) (H : Hp) (s : Shared) : Prop where
  ok : X.Ok
  os : s.os = X.s₀.os
  bare : AllBare s.gens
  base : Un X.fs X.ex X.H₀ H X.s₀.heap s.heap
  loc : ∃ m, s.heap.Ns X.env.locals m ∧ ∀ (i : Nat) (x : Str) (v : V), X.N[i]? = some x → σ[i]? = some (some v) → Vis X.env.scope x → ∃ u, RelV v u ∧ Look X.env s.heap m x u
  cell : ∀ x c, X.env.cells.lookup x = some c → ∃ v, s.heap.IsCell c v
  free : H X.env.locals = none
  freeC : ∀ x c, X.env.cells.lookup x = some c → H c = none
  pin : ∀ p ∈ X.pn ++ pins, s.heap.get? p.1 = some p.2 ∧ H p.1 = none ∧ p.1 ≠ X.env.locals ∧ p.1 ∉ X.fs ∧ ∀ v, p.2.data ≠ .cell v
  hok : HOk X.prog X.w H s.heap
  len : σ.length = X.N.length

section
variable {X : Cx} {pins : List (Addr × Obj)} {σ : List (Option V)} {H H' : Hp} {s : Shared} {h' : Heap}

theorem Cx.Ok.nofr (ok : X.Ok) {b : Addr} {o : Obj} (e : X.base.get? b = some o) : b ∉ X.fs := fun hb => by
  have := (ok.funs.mem hb).1
  rw [e] at this; cases this
theorem Inv.bs (I : Inv X pins σ H s) : ∀ b o, X.base.get? b = some o → s.heap.get? b = some o ∧ H b = none := fun b o e =>
  ⟨I.base.keep b o (I.ok.bs b o e).1 (I.ok.bs b o e).2 (I.ok.nofr e) (I.ok.noex b o e), I.base.free b o (I.ok.bs b o e).1 (I.ok.bs b o e).2 (I.ok.noex b o e)⟩
theorem Inv.bk (I : Inv X pins σ H s) : ∀ b o, X.base.get? b = some o → s.heap.get? b = some o := fun b o e => (I.bs b o e).1
theorem Inv.mod (I : Inv X pins σ H s) : Mod X.K X.mg X.base := I.ok.mod
theorem Inv.kIn (I : Inv X pins σ H s) : X.K.In s.heap := I.ok.mod.kin.keeps I.bk
theorem Inv.nolimit (I : Inv X pins σ H s) : s.heap.NoLimit := I.ok.mod.nolimit.keeps I.bk
/-- the frame over the base: for OpenK's rules (K.In X.base is I.mod.kin) -/
theorem Inv.fr (I : Inv X pins σ H s) : ∃ m, Fr X.base X.env.locals s.heap m :=
  let ⟨m, hn, _⟩ := I.loc
  ⟨m, hn, I.bk, Nat.le_trans I.ok.bsz I.ok.above⟩
theorem Inv.lt (I : Inv X pins σ H s) : X.env.locals < s.heap.objs.size := let ⟨_, hn, _⟩ := I.loc; hn.lt
theorem Inv.sz (I : Inv X pins σ H s) : X.s₀.heap.objs.size ≤ s.heap.objs.size := Nat.le_trans I.ok.above (Nat.le_of_lt I.lt)
theorem Inv.nofs (I : Inv X pins σ H s) {a : Addr} (h : s.heap.objs.size ≤ a) : a ∉ X.fs := fun hb => by
  obtain ⟨_, o, ho, _⟩ := I.ok.funs.mem hb
  exact absurd (Nat.lt_of_lt_of_le (Heap.lt_size ho) (Nat.le_trans I.sz h)) (Nat.lt_irrefl _)
theorem Inv.cne (I : Inv X pins σ H s) : ∀ x c, X.env.cells.lookup x = some c → c ≠ X.env.locals := fun x c e z => by
  obtain ⟨v, o, ho, hd⟩ := I.cell x c e
  obtain ⟨m, ⟨o', es, ep, ho', hd', _⟩, _⟩ := I.loc
  rw [z, ho'] at ho; cases ho; rw [hd'] at hd; cases hd
theorem Inv.funs (I : Inv X pins σ H s) : s.heap.FunFrames X.base X.outer := by
  have all : ∀ (l : List Env), (∀ b ∈ frs l, b ∈ X.fs) → X.s₀.heap.FunFrames X.base l → s.heap.FunFrames X.base l := by
    intro l
    induction l with
    | nil => intro _ _; trivial
    | cons env r ih =>
      intro hs hl
      obtain ⟨hk, ⟨L, o, hf, hn, ho, hd⟩, hr⟩ := hl
      have hL : L ∈ X.fs := hs L (by unfold frs; rw [List.filterMap_cons, hf]; exact List.mem_cons_self)
      obtain ⟨sl, e⟩ := I.base.slot L o ho (I.ok.frf L hL) hL fun z => I.ok.exfs L z hL
      exact ⟨hk, ⟨L, _, hf, hn, e, hd⟩, ih (fun b hb => hs b (by unfold frs; rw [List.filterMap_cons, hf]; exact List.mem_cons_of_mem _ hb)) hr⟩
  exact all X.outer (fun _ hb => hb) I.ok.funs

/-- the frames that run, for a call -/
theorem Inv.stack (I : Inv X pins σ H s) : s.heap.FunFrames X.base X.stack := by
  rcases I.ok.stk with e | ⟨e, hf⟩
  · rw [e]; exact I.funs
  · rw [e]
    obtain ⟨m, hn, _⟩ := I.loc
    refine .cons (by rw [I.ok.kind]; decide) hf hn ?_ I.funs
    exact Heap.get?_none_of_le (Nat.le_trans I.ok.bsz I.ok.above)
theorem Inv.stkSub (I : Inv X pins σ H s) : ∀ b ∈ frs X.stack, b ∈ X.env.locals :: X.fs := fun b hb => by
  rcases I.ok.stk with e | ⟨e, hf⟩
  · rw [e] at hb; exact List.mem_cons_of_mem _ hb
  · rw [e] at hb
    unfold frs at hb
    rw [List.filterMap_cons, hf] at hb
    exact hb
theorem Inv.stkFree (I : Inv X pins σ H s) : ∀ b ∈ frs X.stack, H b = none := fun b hb => by
  rcases List.mem_cons.mp (I.stkSub b hb) with e | hb
  · rw [e]; exact I.free
  · obtain ⟨_, o, ho, _⟩ := I.ok.funs.mem hb
    exact I.base.free b o ho (I.ok.frf b hb) fun z => I.ok.exfs b z hb

/-- THE STEP: the untracked objects but the frame and the records at ch are kept (the callers' frames up to slots), the frame's map is kept, the new abstract heap is held -/
theorem Inv.step {g' : Array GenState} {t' : Nat} {d' : Drawn} {ch : List Addr} (I : Inv X pins σ H s)
    (hch : ∀ b ∈ ch, (b ∈ X.ex ∨ X.s₀.heap.objs.size ≤ b) ∧ b ≠ X.env.locals ∧ (∀ x c, X.env.cells.lookup x = some c → c ≠ b) ∧ ∀ p ∈ X.pn ++ pins, p.1 ≠ b)
    (keep : ∀ b o, b ≠ X.env.locals → b ∉ X.fs → b ∉ ch → s.heap.get? b = some o → H b = none → h'.get? b = some o)
    (slot : ∀ b o, b ≠ X.env.locals → b ∈ X.fs → b ∉ ch → s.heap.get? b = some o → H b = none → ∃ sl, h'.get? b = some { o with slots := sl }) (free : ∀ b o, b ∉ ch → s.heap.get? b = some o → H b = none → H' b = none)
    (there : ∀ b o, b ∉ ch → s.heap.get? b = some o → ∃ o', h'.get? b = some o')
    (tups : ∀ b xs, H b = some (.tup xs) → H' b = some (.tup xs)) (frzs : ∀ b o u, H b = some (.frz o u) → H' b = some (.frz o u)) (tbls : ∀ b ps, H b = some (.tbl ps) → ∃ more, H' b = some (.tbl (ps ++ more)))
    (ns : ∀ m, s.heap.Ns X.env.locals m → h'.Ns X.env.locals m) (hok : HOk X.prog X.w H' h') (hg : AllBare g') :
    Inv X pins σ H' { s with heap := h', gens := g', drawn := d', toks := t' } := by
  have neL : ∀ b o, X.s₀.heap.get? b = some o → b ≠ X.env.locals := fun b o e => Nat.ne_of_lt (Nat.lt_of_lt_of_le (Heap.lt_size e) I.ok.above)
  have neC : ∀ b o, X.s₀.heap.get? b = some o → b ∉ X.ex → b ∉ ch := fun b o e hx hb => by
    rcases (hch b hb).1 with z | z
    · exact hx z
    · exact absurd (Nat.lt_of_lt_of_le (Heap.lt_size e) z) (Nat.lt_irrefl _)
  have cellK : ∀ x c, X.env.cells.lookup x = some c → ∀ v, s.heap.IsCell c v → h'.IsCell c v := fun x c e v ⟨o, ho, hd⟩ => by
    have nch : c ∉ ch := fun z => (hch c z).2.2.1 x c e rfl
    by_cases hc : c ∈ X.fs
    · obtain ⟨sl, q⟩ := slot c o (I.cne x c e) hc nch ho (I.freeC x c e)
      exact ⟨_, q, hd⟩
    · exact ⟨o, keep c o (I.cne x c e) hc nch ho (I.freeC x c e), hd⟩
  refine ⟨I.ok, I.os, hg, ⟨fun b o e n hb hx => ?_, fun b o e n hb hx => ?_, fun b o e n hx => ?_, fun b o e hx => ?_, fun b xs e => tups b xs (I.base.tups b xs e), fun b o xs e => frzs b o xs (I.base.frzs b o xs e), fun b ps e => ?_⟩, ?_, fun x c e => ?_, ?_, fun x c e => ?_, fun p hp => ?_, hok, I.len⟩
  · exact keep b o (neL b o e) hb (neC b o e hx) (I.base.keep b o e n hb hx) (I.base.free b o e n hx)
  · obtain ⟨sl, e1⟩ := I.base.slot b o e n hb hx
    obtain ⟨sl', e2⟩ := slot b _ (neL b o e) hb (neC b o e hx) e1 (I.base.free b o e n hx)
    exact ⟨sl', e2⟩
  · obtain ⟨o', e1⟩ := I.base.there b o e hx
    exact free b o' (neC b o e hx) e1 (I.base.free b o e n hx)
  · obtain ⟨o', e1⟩ := I.base.there b o e hx
    exact there b o' (neC b o e hx) e1
  · obtain ⟨m1, e1⟩ := I.base.tbls b ps e
    obtain ⟨m2, e2⟩ := tbls b _ e1
    exact ⟨m1 ++ m2, by rw [e2, Array.append_assoc]⟩
  · obtain ⟨m, hn, hl⟩ := I.loc
    refine ⟨m, ns m hn, fun i x v e1 e2 e3 => ?_⟩
    obtain ⟨u, r, l⟩ := hl i x v e1 e2 e3
    refine ⟨u, r, ?_⟩
    rcases l with l | ⟨k, c, e, z⟩
    · exact .inl l
    · exact .inr ⟨k, c, e, cellK x c e _ z⟩
  · obtain ⟨v, z⟩ := I.cell x c e
    exact ⟨v, cellK x c e v z⟩
  · obtain ⟨m, ⟨o, _, _, ho, _⟩, _⟩ := I.loc
    exact free _ o (fun z => (hch _ z).2.1 rfl) ho I.free
  · obtain ⟨v, o, ho, hd⟩ := I.cell x c e
    exact free c o (fun z => (hch c z).2.2.1 x c e rfl) ho (I.freeC x c e)
  · obtain ⟨e, n, ne, nf, d⟩ := I.pin p hp
    have nch : p.1 ∉ ch := fun z => (hch p.1 z).2.2.2 p hp rfl
    exact ⟨keep p.1 p.2 ne nf nch e n, free p.1 p.2 nch e n, ne, nf, d⟩
/-- .. where the frame's own object is kept too -/
theorem Inv.un {t' : Nat} (I : Inv X pins σ H s) (u : Un X.fs [] H H' s.heap h') (hok : HOk X.prog X.w H' h') : Inv X pins σ H' { s with heap := h', toks := t' } := by
  obtain ⟨m, ⟨o, es, ep, ho, r⟩, _⟩ := id I.loc
  obtain ⟨sl, hL⟩ := u.any ho I.free (by simp)
  exact I.step (g' := s.gens) (d' := s.drawn) (ch := []) (fun _ z => nomatch z) (fun b o _ hb _ e n => u.keep b o e n hb (by simp)) (fun b o _ hb _ e n => u.slot b o e n hb (by simp)) (fun b o _ e n => u.free b o e n (by simp)) (fun b o _ e => u.there b o e (by simp)) u.tups u.frzs u.tbls (fun m' hm => by
    obtain ⟨o', es', ep', ho', r'⟩ := hm
    rw [ho] at ho'; cases ho'
    exact ⟨_, es', ep', hL, r'⟩) hok I.bare
/-- behind a call (or a comprehension's block): the slots of this frame may have changed too, the records at ch may have turned -/
theorem Inv.call {g' : Array GenState} {t' : Nat} {d' : Drawn} {ch : List Addr} (I : Inv X pins σ H s) (u : Un (frs X.stack) ch H H' s.heap h') (hok : HOk X.prog X.w H' h') (hg : AllBare g')
    (hch : ∀ b ∈ ch, (b ∈ X.ex ∨ X.s₀.heap.objs.size ≤ b) ∧ b ≠ X.env.locals ∧ (∀ x c, X.env.cells.lookup x = some c → c ≠ b) ∧ ∀ p ∈ X.pn ++ pins, p.1 ≠ b) :
    Inv X pins σ H' { s with heap := h', gens := g', drawn := d', toks := t' } := by
  obtain ⟨m, ⟨o, es, ep, ho, r⟩, _⟩ := id I.loc
  obtain ⟨sl, hL⟩ := u.any ho I.free fun z => (hch _ z).2.1 rfl
  exact I.step (ch := ch) hch (fun b o hL hb hc e n => u.keep b o e n (fun z => (List.mem_cons.mp (I.stkSub b z)).elim hL hb) hc) (fun b o _ _ hc e n => u.any e n hc) (fun b o hc e n => u.free b o e n hc) (fun b o hc e => u.there b o e hc) u.tups u.frzs u.tbls (fun m' hm => by
    obtain ⟨o', es', ep', ho', r'⟩ := hm
    rw [ho] at ho'; cases ho'
    exact ⟨_, es', ep', hL, r'⟩) hok hg
/-- an untracked record of ours (an iterator) has turned -/
theorem Inv.turned {t' : Nat} {it : Addr} (I : Inv X pins σ H s) (k : ∀ b o, b ≠ it → s.heap.get? b = some o → h'.get? b = some o) (hn : H it = none) (hL : it ≠ X.env.locals)
    (h1 : it ∈ X.ex ∨ X.s₀.heap.objs.size ≤ it) (h2 : ∀ x c, X.env.cells.lookup x = some c → c ≠ it) (h3 : ∀ p ∈ X.pn ++ pins, p.1 ≠ it) : Inv X pins σ H { s with heap := h', toks := t' } := by
  have nit : ∀ b u, H b = some u → b ≠ it := fun b u e z => by rw [z, hn] at e; cases e
  refine I.step (g' := s.gens) (d' := s.drawn) (ch := [it]) (fun b hb => ?_) (fun b o _ _ hc e _ => k b o (fun z => hc (by simp [z])) e) (fun b o _ _ hc e _ => ⟨o.slots, k b o (fun z => hc (by simp [z])) e⟩) (fun _ _ _ _ n => n)
    (fun b o hc e => ⟨o, k b o (fun z => hc (by simp [z])) e⟩) (fun _ _ e => e) (fun _ _ _ e => e) (fun b ps e => ⟨#[], by rw [e]; simp⟩) (fun m hm => ?_) (fun b u e => ?_) I.bare
  · have e : b = it := by simpa using hb
    subst e
    exact ⟨h1, hL, h2, h3⟩
  · obtain ⟨o, es, ep, ho, r⟩ := hm
    exact ⟨o, es, ep, k _ o (Ne.symm hL) ho, r⟩
  · refine (I.hok b u e).stay (fun c v hc q => k c v ?_ q) (fun _ q => q) fun _ _ q => q
    rcases hc with z | z
    · rw [z]; exact nit b u e
    · exact nit c _ z
theorem Inv.tok (I : Inv X pins σ H s) (t : Nat) : Inv X pins σ H { s with toks := t } := I.un (h' := s.heap) (t' := t) Un.refl I.hok
/-- all objects kept -/
theorem Inv.kept {t' : Nat} (I : Inv X pins σ H s) (k : ∀ b u, s.heap.get? b = some u → h'.get? b = some u) : Inv X pins σ H { s with heap := h', toks := t' } := I.un (Un.kept k) (I.hok.kept k)
/-- a new object laid and tracked -/
theorem Inv.laid {a : Addr} {o : HO} {t' : Nat} (I : Inv X pins σ H s) (k : ∀ b u, s.heap.get? b = some u → h'.get? b = some u) (hp : s.heap.objs.size ≤ a) (new : ObjOk X.prog X.w (upd H a o) h' a o) :
    Inv X pins σ (upd H a o) { s with heap := h', toks := t' } := I.un (Un.laid k hp (I.hok.fresh hp)) (I.hok.laid k hp new)
/-- an object written -/
theorem Inv.write {x e : Addr} {o : HO} {t' : Nat} (I : Inv X pins σ H s) (mu : Mut (H x)) (he : e = x ∨ H e = some (.own x)) (k : ∀ b u, b ≠ e → s.heap.get? b = some u → h'.get? b = some u) (heo : ∃ u, h'.get? e = some u)
    (new : ObjOk X.prog X.w (upd H x o) h' x o) : Inv X pins σ (upd H x o) { s with heap := h', toks := t' } := I.un (Un.write mu he k heo) (I.hok.write mu he k heo new)
/-- forgetting slots, pins -/
theorem Inv.weak {σ' : List (Option V)} (I : Inv X pins σ H s) (hl : σ'.length = σ.length) (w : ∀ (i : Nat) v, σ'[i]? = some (some v) → σ[i]? = some (some v)) : Inv X pins σ' H s :=
  ⟨I.ok, I.os, I.bare, I.base, let ⟨m, hn, hl'⟩ := I.loc; ⟨m, hn, fun i x v e1 e2 e3 => hl' i x v e1 (w i v e2) e3⟩, I.cell, I.free, I.freeC, I.pin, I.hok, hl.trans I.len⟩
theorem Inv.pins_of {pins' : List (Addr × Obj)} (I : Inv X pins σ H s) (h : ∀ p ∈ pins', s.heap.get? p.1 = some p.2 ∧ H p.1 = none ∧ p.1 ≠ X.env.locals ∧ p.1 ∉ X.fs ∧ ∀ v, p.2.data ≠ .cell v) : Inv X pins' σ H s :=
  ⟨I.ok, I.os, I.bare, I.base, I.loc, I.cell, I.free, I.freeC, fun p hp => (List.mem_append.mp hp).elim (fun z => I.pin p (List.mem_append_left _ z)) (h p), I.hok, I.len⟩

theorem nodup_ix {N : List Str} (hN : N.Nodup) {i j : Nat} {x : Str} (a : N[i]? = some x) (b : N[j]? = some x) : i = j := by
  obtain ⟨h1, e1⟩ := List.getElem?_eq_some_iff.mp a
  obtain ⟨h2, e2⟩ := List.getElem?_eq_some_iff.mp b
  exact (List.getElem_inj hN).mp (e1.trans e2.symm)

/-- a name is stored; what changed -/
theorem store_ok2 {M : Model} {A : Around} {E : Value → Shared → Prop} {i : Nat} {x : Str} {v : V} {u : Value} {Q : Unit → Shared → Prop} (I : Inv X pins σ H s) (hN : X.N.Nodup) (hi : X.N[i]? = some x) (hx : Loc X.env.scope x) (r : RelV v u)
    (h : ∀ s', Inv X pins (σ.set i (some v)) H s' → (∃ a, Heap.SameBut a s.heap s'.heap ∧ (a = X.env.locals ∨ X.env.cells.lookup x = some a)) → Q () s') (hf : X.fn x = true ∨ X.env.scope.names.lookup x = some .local := by first | exact .inl rfl | exact .inr rfl | assumption) : wpAny M A (storeName X.env x u) Q E s := by
  obtain ⟨m, hn, hl⟩ := id I.loc
  have hcls : (X.env.scope.kind == .class || (X.env.scope.kind == .module && X.env.locals != X.env.globals)) = false := by rw [I.ok.kind]; rfl
  have hiσ : i < σ.length := by rw [I.len]; exact (List.getElem?_eq_some_iff.mp hi).1
  have cne := I.cne
  have tracked : ∀ {a : Addr} {h' : Heap}, (∃ o, s.heap.get? a = some o ∧ H a = none) → Heap.SameBut a s.heap h' → HOk X.prog X.w H h' := fun {a h'} ha hs b ob e => by
    obtain ⟨_, _, hfree⟩ := ha
    refine (I.hok b ob e).stay (fun c w' hc q => (hs.2 c ?_).trans q) (fun _ q => q) fun _ _ q => q
    rintro rfl
    rcases hc with rfl | hc
    · rw [hfree] at e; cases e
    · rw [hfree] at hc; cases hc
  rcases hx with hk | hk
  · refine wpAny_storeName_local hk hn (fun h' hn' hs => ?_) hcls
    obtain ⟨oL, _, _, hoL, _⟩ := id hn
    refine h _ ⟨I.ok, I.os, I.bare, ⟨fun b o e n hb hx => ?_, fun b o e n hb hx => ?_, I.base.free, fun b o e hx => ?_, I.base.tups, I.base.frzs, I.base.tbls⟩, ⟨_, hn', fun j y v' e1 e2 e3 => ?_⟩, fun y c e => ?_, I.free, I.freeC, fun p hp => ?_, tracked ⟨oL, hoL, I.free⟩ hs, by simpa using I.len⟩ ⟨_, hs, .inl rfl⟩
    · exact (hs.2 b (Nat.ne_of_lt (Nat.lt_of_lt_of_le (Heap.lt_size e) I.ok.above))).trans (I.base.keep b o e n hb hx)
    · obtain ⟨sl, e1⟩ := I.base.slot b o e n hb hx
      exact ⟨sl, (hs.2 b (Nat.ne_of_lt (Nat.lt_of_lt_of_le (Heap.lt_size e) I.ok.above))).trans e1⟩
    · obtain ⟨o', e1⟩ := I.base.there b o e hx
      exact ⟨o', (hs.2 b (Nat.ne_of_lt (Nat.lt_of_lt_of_le (Heap.lt_size e) I.ok.above))).trans e1⟩
    · by_cases hj : j = i
      · subst hj
        rw [hi] at e1; cases e1
        rw [List.getElem?_set_self hiσ] at e2
        cases e2
        exact ⟨u, r, .inl ⟨hk, by simp⟩⟩
      · rw [List.getElem?_set_ne (Ne.symm hj)] at e2
        obtain ⟨u', r', q⟩ := hl j y v' e1 e2 e3
        refine ⟨u', r', ?_⟩
        rcases q with ⟨k, e⟩ | ⟨k, c, e, z⟩
        · refine .inl ⟨k, ?_⟩
          have : y ≠ x := fun e => hj (nodup_ix hN e1 (e ▸ hi))
          simp [this, e]
        · exact .inr ⟨k, c, e, z.sameBut hs (cne y c e)⟩
    · obtain ⟨w', z⟩ := I.cell y c e
      exact ⟨w', z.sameBut hs (cne y c e)⟩
    · obtain ⟨e, n, ne, nf, d⟩ := I.pin p hp
      exact ⟨(hs.2 p.1 ne).trans e, n, ne, nf, d⟩
  · have hfn : X.fn x = true := by
      rcases hf with z | z
      · exact z
      · rw [z] at hk; cases hk
    obtain ⟨c, hc⟩ := I.ok.has x (.inl hk)
    obtain ⟨w', z⟩ := I.cell x c hc
    refine wpAny_storeName_cell I.ok.kind hk hc z (fun h' hc' hs => ?_)
    obtain ⟨oc, hoc, hocd⟩ := id z
    refine h { s with heap := h' } ⟨I.ok, I.os, I.bare, ⟨fun b o e n hb hx => ?_, fun b o e n hb hx => ?_, I.base.free, fun b o e hx => ?_, I.base.tups, I.base.frzs, I.base.tbls⟩, ⟨m, hn.sameBut hs (Ne.symm (cne x c hc)), fun j y v' e1 e2 e3 => ?_⟩, fun y c' e => ?_, I.free, I.freeC, fun p hp => ?_, tracked ⟨oc, hoc, I.freeC x c hc⟩ hs, by simpa using I.len⟩ ⟨c, hs, .inr hc⟩
    · exact (hs.2 b (Nat.ne_of_lt (Nat.lt_of_lt_of_le (Heap.lt_size e) (I.ok.cab x c hfn hc)))).trans (I.base.keep b o e n hb hx)
    · obtain ⟨sl, e1⟩ := I.base.slot b o e n hb hx
      exact ⟨sl, (hs.2 b (Nat.ne_of_lt (Nat.lt_of_lt_of_le (Heap.lt_size e) (I.ok.cab x c hfn hc)))).trans e1⟩
    · obtain ⟨o', e1⟩ := I.base.there b o e hx
      exact ⟨o', (hs.2 b (Nat.ne_of_lt (Nat.lt_of_lt_of_le (Heap.lt_size e) (I.ok.cab x c hfn hc)))).trans e1⟩
    · by_cases hj : j = i
      · subst hj
        rw [hi] at e1; cases e1
        rw [List.getElem?_set_self hiσ] at e2
        cases e2
        exact ⟨u, r, .inr ⟨.inl hk, c, hc, hc'⟩⟩
      · rw [List.getElem?_set_ne (Ne.symm hj)] at e2
        obtain ⟨u', r', q⟩ := hl j y v' e1 e2 e3
        refine ⟨u', r', ?_⟩
        rcases q with q | ⟨k, c', e, z'⟩
        · exact .inl q
        · refine .inr ⟨k, c', e, z'.sameBut hs ?_⟩
          rintro rfl
          exact hj (nodup_ix hN e1 (I.ok.inj _ _ _ e hc ▸ hi))
    · by_cases hcc : c' = c
      · subst hcc; exact ⟨_, hc'⟩
      · obtain ⟨w2, z2⟩ := I.cell y c' e
        exact ⟨w2, z2.sameBut hs hcc⟩
    · obtain ⟨e, n, ne, nf, d⟩ := I.pin p hp
      refine ⟨(hs.2 p.1 ?_).trans e, n, ne, nf, d⟩
      intro q
      rw [q, hoc] at e
      have q' : oc = p.2 := Option.some.inj e
      exact d w' (by rw [← q']; exact hocd)
theorem store_ok {M : Model} {A : Around} {E : Value → Shared → Prop} {i : Nat} {x : Str} {v : V} {u : Value} {Q : Unit → Shared → Prop} (I : Inv X pins σ H s) (hN : X.N.Nodup) (hi : X.N[i]? = some x) (hx : Loc X.env.scope x) (r : RelV v u)
    (h : ∀ s', Inv X pins (σ.set i (some v)) H s' → Q () s') (hf : X.fn x = true ∨ X.env.scope.names.lookup x = some .local := by first | exact .inl rfl | exact .inr rfl | assumption) : wpAny M A (storeName X.env x u) Q E s :=
  store_ok2 I hN hi hx r (fun s' I' _ => h s' I') hf
/-- behind a call or a block, the state as it is -/
theorem Inv.call' {s' : Shared} {ch : List Addr} (I : Inv X pins σ H s) (ho : s'.os = s.os) (u : Un (frs X.stack) ch H H' s.heap s'.heap) (hok : HOk X.prog X.w H' s'.heap) (hg : AllBare s'.gens)
    (hch : ∀ b ∈ ch, (b ∈ X.ex ∨ X.s₀.heap.objs.size ≤ b) ∧ b ≠ X.env.locals ∧ (∀ x c, X.env.cells.lookup x = some c → c ≠ b) ∧ ∀ p ∈ X.pn ++ pins, p.1 ≠ b) : Inv X pins σ H' s' := by
  obtain ⟨h', g', d', t', o'⟩ := s'
  have e : o' = s.os := ho
  subst e
  exact I.call (g' := g') (t' := t') (d' := d') u hok hg hch
end

/-! ### the judgements -/
/-- an exception: its class, its own dict's address (where it has one), the abstract heap behind it -/
abbrev XK := Value → Option Addr → Hp → Prop
abbrev St := List (Option V)
abbrev VK := V → Hp → Prop
/-- an expression's reading; a test's; an argument list's -/
abbrev TE := St → Hp → VK → Prop
abbrev TT := St → Hp → (Bool → Hp → Prop) → Prop
abbrev TA := St → Hp → (List V → Hp → Prop) → Prop
/-- what is wanted behind a statement -/
structure Ends where
  nx : St → Hp → Prop
  rt : VK
  bk : St → Hp → Prop := fun _ _ => False
  ct : St → Hp → Prop := fun _ _ => False
abbrev TS := Ends → St → Hp → Prop

def EP (X : Cx) (pins : List (Addr × Obj)) (σ : St) (Q : VK) (u : Value) (s' : Shared) : Prop := ∃ v H', Inv X pins σ H' s' ∧ RelV v u ∧ Q v H'
def TP (X : Cx) (pins : List (Addr × Obj)) (σ : St) (Q : Bool → Hp → Prop) (b : Bool) (s' : Shared) : Prop := ∃ H', Inv X pins σ H' s' ∧ Q b H'
def AP (X : Cx) (pins : List (Addr × Obj)) (σ : St) (Q : List V → Hp → Prop) (us : List Value) (s' : Shared) : Prop := ∃ vs H', Inv X pins σ H' s' ∧ Vals vs us ∧ Q vs H'
def SP (X : Cx) (pins : List (Addr × Obj)) (D : Ends) (f : Flow) (s' : Shared) : Prop :=
  match f with
  | .next => ∃ σ' H', Inv X pins σ' H' s' ∧ D.nx σ' H'
  | .brk => ∃ σ' H', Inv X pins σ' H' s' ∧ D.bk σ' H'
  | .cont => ∃ σ' H', Inv X pins σ' H' s' ∧ D.ct σ' H'
  | .ret u => ∃ v σ' H', Inv X pins σ' H' s' ∧ RelV v u ∧ D.rt v H'

def PE (X : Cx) (e : Expr) (t : TE) : Prop :=
  ∀ (pins : List (Addr × Obj)) (s : Shared) (σ : St) (H : Hp) (Q : VK), Inv X pins σ H s → t σ H Q → wpAny (model X.prog X.w) X.A (eval e X.env) (EP X pins σ Q) X.xe s
def PT (X : Cx) (e : Expr) (t : TT) : Prop :=
  ∀ (pins : List (Addr × Obj)) (s : Shared) (σ : St) (H : Hp) (Q : Bool → Hp → Prop), Inv X pins σ H s → t σ H Q → wpAny (model X.prog X.w) X.A (isTrue e X.env (eval e X.env)) (TP X pins σ Q) X.xe s
/-- a test whatever its 'whole' is (and, or) -/
def PW (X : Cx) (e : Expr) (t : TT) : Prop :=
  ∀ (whole : Sem Value) (pins : List (Addr × Obj)) (s : Shared) (σ : St) (H : Hp) (Q : Bool → Hp → Prop), Inv X pins σ H s → t σ H Q → wpAny (model X.prog X.w) X.A (isTrue e X.env whole) (TP X pins σ Q) X.xe s
theorem PW.pt {X : Cx} {e : Expr} {t : TT} (h : PW X e t) : PT X e t := h _
/-- an argument list (no star), from the left -/
def PA (X : Cx) (es : List Expr) (t : TA) : Prop :=
  ∀ (pos : Pos) (pins : List (Addr × Obj)) (s : Shared) (σ : St) (H : Hp) (Q : List V → Hp → Prop), Inv X pins σ H s → t σ H Q → wpAny (model X.prog X.w) X.A (spliced (backTo pos (starEach es X.env))) (AP X pins σ Q) X.xe s
def PS (X : Cx) (st : Stmt) (t : TS) : Prop :=
  ∀ (pins : List (Addr × Obj)) (s : Shared) (σ : St) (H : Hp) (D : Ends), Inv X pins σ H s → t D σ H → wpAny (model X.prog X.w) X.A (exec st X.env) (SP X pins D) X.xe s
def PSs (X : Cx) (st : List Stmt) (t : TS) : Prop :=
  ∀ (pins : List (Addr × Obj)) (s : Shared) (σ : St) (H : Hp) (D : Ends), Inv X pins σ H s → t D σ H → wpAny (model X.prog X.w) X.A (execs st X.env) (SP X pins D) X.xe s
/-- weaken the end -/
theorem thn {α : Type} {t : Sem α} {Q Q' : α → Shared → Prop} {M : Model} {A : Around} {E : Value → Shared → Prop} {s : Shared} (h : wpAny M A t Q E s) (hQ : ∀ a s, Q a s → Q' a s) : wpAny M A t Q' E s := wpAny_mono h hQ fun _ _ x => x
end L2

namespace L2
open PySem PySem.Spec PyProof.Rows
section
variable {X : Cx}

/-! ### names and constants -/
def tVar (i : Nat) : TE := fun σ H Q => ∃ v, σ[i]? = some (some v) ∧ Q v H
def tC (v : V) : TE := fun _ H Q => Q v H
theorem pe_var {i : Nat} {x : Str} {pos : Pos} (hN : X.N[i]? = some x) (hv : Vis X.env.scope x) (hd : (x == ("__debug__" : Str)) = false := by decide) (hcd : (x == ("__classdict__" : Str)) = false := by decide) : PE X (.Name x pos) (tVar i) := by
  intro pins s σ H Q I h
  obtain ⟨v, e, h⟩ := h
  obtain ⟨m, hn, hl⟩ := I.loc
  obtain ⟨u, r, l⟩ := hl i x v hN e hv
  have fin : EP X pins σ Q u s := ⟨v, H, I, r, h⟩
  rcases l with ⟨hk, hm⟩ | ⟨hk, c, hc, hcell⟩
  · exact wpAny_Name (wpAny_loadName_local I.ok.kind hk hn hm fin) hd
  · rcases hk with hk | hk
    · exact wpAny_Name (wpAny_loadName_cell I.ok.kind hk hc hcell fin) hd
    · exact wpAny_Name (wpAny_loadName_free I.ok.kind hk hc hcell fin hcd) hd
theorem pe_int {i j pos} : PE X (.Constant (.int i) j pos) (tC (.int i)) := fun _ _ _ H _ I h => wpAny_Constant_int ⟨.int i, H, I.tok _, ⟨_, rfl⟩, h⟩
theorem pe_bl {b j pos} : PE X (.Constant (.bool b) j pos) (tC (.bl b)) := fun _ _ _ H _ I h => Constant_bool ⟨.bl b, H, I, rfl, h⟩
theorem pe_non {j pos} : PE X (.Constant .none j pos) (tC .non) := fun _ _ _ H _ I h => Constant_none ⟨.non, H, I, rfl, h⟩
theorem pe_str {x j pos} : PE X (.Constant (.str x) j pos) (tC (.str x)) := fun _ _ _ H _ I h => Calls.Constant_str ⟨.str x, H, I.tok _, ⟨_, rfl⟩, h⟩

/-- a global name of the def -/
def Gl (X : Cx) (x : Str) : Prop := X.env.kindOf x = some .globalImplicit
theorem ld_glob {E : Value → Shared → Prop} {pins : List (Addr × Obj)} {s : Shared} {σ : St} {H : Hp} {x : Str} {u : Value} {pos : Pos} {Q : Value → Shared → Prop} (I : Inv X pins σ H s) (hg : Gl X x) (hm : X.mg x = some u) (h : Q u s)
    (hd : (x == ("__debug__" : Str)) = false := by decide) : wpAny (model X.prog X.w) X.A (eval (.Name x pos) X.env) Q E s :=
  Calls.Name_function_global I.ok.kind hg (Calls.loadGlobal_global (by rw [I.ok.glob]; exact I.mod.glob.keeps I.bk) hm h) hd
theorem ld_blt {E : Value → Shared → Prop} {pins : List (Addr × Obj)} {s : Shared} {σ : St} {H : Hp} {x : Str} {u : Value} {pos : Pos} {Q : Value → Shared → Prop} (I : Inv X pins σ H s) (hg : Gl X x) (hm : X.mg x = none) (hv : bootBuiltins x = some u) (h : Q u s)
    (hn : x ≠ "__name__" := by decide) (hd : (x == ("__debug__" : Str)) = false := by decide) : wpAny (model X.prog X.w) X.A (eval (.Name x pos) X.env) Q E s := by
  obtain ⟨mb, h1, h2⟩ := I.mod.blt
  exact Calls.Name_function_global I.ok.kind hg (Calls.loadGlobal_builtin (by rw [I.ok.glob]; exact I.mod.glob.keeps I.bk) hm (by rw [I.ok.blt]; exact h1.keeps I.bk) ((h2 x hn).trans hv) h) hd
/-- a module's constant, a class, a function, as a value -/
theorem pe_glob {x : Str} {v : V} {u : Value} {pos : Pos} (hg : Gl X x) (hm : X.mg x = some u) (r : RelV v u) (hd : (x == ("__debug__" : Str)) = false := by decide) : PE X (.Name x pos) (tC v) :=
  fun _ _ _ H _ I h => ld_glob I hg hm ⟨v, H, I, r, h⟩ hd
theorem pe_bltn {x : Str} {v : V} {u : Value} {pos : Pos} (hg : Gl X x) (hm : X.mg x = none) (hv : bootBuiltins x = some u) (r : RelV v u) (hn : x ≠ "__name__" := by decide) (hd : (x == ("__debug__" : Str)) = false := by decide) : PE X (.Name x pos) (tC v) :=
  fun _ _ _ H _ I h => ld_blt I hg hm hv ⟨v, H, I, r, h⟩ hn hd

/-! ### arithmetic -/
variable {a b : Expr} {ta tb : TE} {pos : Pos}
/-! ### comparisons -/
/-! ### and, or, not -/
variable {tA tB' : TT} {rest : List Expr}
def tAnd (t u : TT) : TT := fun σ H Q => t σ H fun c H1 => if c = true then u σ H1 Q else Q false H1
def tOr (t u : TT) : TT := fun σ H Q => t σ H fun c H1 => if c = true then Q true H1 else u σ H1 Q
def tNot (t : TT) : TT := fun σ H Q => t σ H fun c H1 => Q (!c) H1
theorem pw_and1 (ha : PT X a tA) : PW X (.BoolOp .And [a] pos) tA := by
  intro wh pins s σ H Q I h
  refine isTrue_and (thn (ha pins s σ H Q I h) fun c s1 e => ?_)
  cases c with
  | true => exact isTrue_and_nil e
  | false => exact e
theorem pw_or1 (ha : PT X a tA) : PW X (.BoolOp .Or [a] pos) tA := by
  intro wh pins s σ H Q I h
  refine isTrue_or (thn (ha pins s σ H Q I h) fun c s1 e => ?_)
  cases c with
  | false => exact isTrue_or_nil e
  | true => exact e
theorem pw_and (ha : PT X a tA) (hb : PW X (.BoolOp .And (b :: rest) pos) tB') : PW X (.BoolOp .And (a :: b :: rest) pos) (tAnd tA tB') := by
  intro wh pins s σ H Q I h
  refine isTrue_and (thn (ha pins s σ H _ I h) fun c s1 ⟨H1, I1, q1⟩ => ?_)
  cases c with
  | true => exact hb wh pins s1 σ H1 Q I1 q1
  | false => exact ⟨H1, I1, q1⟩
theorem pw_or (ha : PT X a tA) (hb : PW X (.BoolOp .Or (b :: rest) pos) tB') : PW X (.BoolOp .Or (a :: b :: rest) pos) (tOr tA tB') := by
  intro wh pins s σ H Q I h
  refine isTrue_or (thn (ha pins s σ H _ I h) fun c s1 ⟨H1, I1, q1⟩ => ?_)
  cases c with
  | true => exact ⟨H1, I1, q1⟩
  | false => exact hb wh pins s1 σ H1 Q I1 q1
theorem pt_not (ha : PT X a tA) : PT X (.UnaryOp .Not a pos) (tNot tA) := by
  intro pins s σ H Q I h
  exact isTrue_not (ha pins s σ H (fun c H1 => Q (!c) H1) I h)
/-- .. as values (bools) -/
def tAndV (ta tb : TE) : TE := fun σ H Q => ta σ H fun x H1 => ∃ c, x = .bl c ∧ if c = true then tb σ H1 Q else Q (.bl false) H1
def tOrV (ta tb : TE) : TE := fun σ H Q => ta σ H fun x H1 => ∃ c, x = .bl c ∧ if c = true then Q (.bl true) H1 else tb σ H1 Q
def tNotV (ta : TE) : TE := fun σ H Q => ta σ H fun x H1 => ∃ c, x = .bl c ∧ Q (.bl (!c)) H1
theorem pe_one {op} {t : TE} (h : PE X a t) : PE X (.BoolOp op [a] pos) t := fun pins s σ H Q I hw => BoolOp_one (h pins s σ H Q I hw)
theorem pe_and (ha : PE X a ta) (hb : PE X (.BoolOp .And (b :: rest) pos) tb) : PE X (.BoolOp .And (a :: b :: rest) pos) (tAndV ta tb) := by
  intro pins s σ H Q I h
  refine BoolOp_and (thn (ha pins s σ H _ I h) fun v s1 ⟨x, H1, I1, r1, q1⟩ => ?_)
  obtain ⟨c, rfl, q1⟩ := q1
  cases r1
  refine wpAny_truthy_bool ?_
  cases c with
  | true => exact hb pins s1 σ H1 Q I1 q1
  | false => exact ⟨.bl false, H1, I1, rfl, q1⟩
theorem pe_or (ha : PE X a ta) (hb : PE X (.BoolOp .Or (b :: rest) pos) tb) : PE X (.BoolOp .Or (a :: b :: rest) pos) (tOrV ta tb) := by
  intro pins s σ H Q I h
  refine BoolOp_or (thn (ha pins s σ H _ I h) fun v s1 ⟨x, H1, I1, r1, q1⟩ => ?_)
  obtain ⟨c, rfl, q1⟩ := q1
  cases r1
  refine wpAny_truthy_bool ?_
  cases c with
  | false => exact hb pins s1 σ H1 Q I1 q1
  | true => exact ⟨.bl true, H1, I1, rfl, q1⟩
/-- a if t else b -/
def tIf (t : TT) (ta tb : TE) : TE := fun σ H Q => t σ H fun c H1 => if c = true then ta σ H1 Q else tb σ H1 Q
theorem pe_ifExp {c : Expr} (hc : PT X c tA) (ha : PE X a ta) (hb : PE X b tb) : PE X (.IfExp c a b pos) (tIf tA ta tb) := by
  intro pins s σ H Q I h
  refine wpAny_IfExp (thn (hc pins s σ H _ I h) fun d s1 ⟨H1, I1, q1⟩ => ?_)
  cases d with
  | true => exact ha pins s1 σ H1 Q I1 q1
  | false => exact hb pins s1 σ H1 Q I1 q1
end
end L2

namespace L2
open PySem PySem.Spec PyProof.Rows

/-! ### a list, a tuple that is read: tracked, frozen, or an object of the module -/
def SqL (K : PySem.W.Frag) (H : Hp) (a : Addr) (xs : List V) : Prop :=
  Rd H a (.lst xs) ∨
    ∃ (o : Obj) (its : Array Value) (n : Nat), K.lookup a = some o ∧ o.cls = .type "list" ∧ o.dict = none ∧ o.data = .seq its n ∧ its.size ≤ sizeLine ∧ Vals xs its.toList
def SqT (K : PySem.W.Frag) (H : Hp) (a : Addr) (xs : List V) : Prop :=
  Rd H a (.tup xs) ∨
    ∃ (o : Obj) (its : Array Value) (n : Nat), K.lookup a = some o ∧ o.cls = .type "tuple" ∧ o.data = .seq its n ∧ its.size ≤ sizeLine ∧ Vals xs its.toList
def absV : Value → Option V
  | .none => some .non
  | .bool b => some (.bl b)
  | .int i _ => some (.int i)
  | .str x _ => some (.str x)
  | .bytes b _ => some (.byt b)
  | .float b _ => some (.flt b)
  | .ref a => some (.ref a)
  | .type n => some (.ty n)
  | _ => none
theorem RelV.abs {x : V} {u : Value} (r : RelV x u) : absV u = some x := by
  cases x with
  | non => cases r; rfl
  | bl _ => cases r; rfl
  | int _ => obtain ⟨t, rfl⟩ := r; rfl
  | str _ => obtain ⟨t, rfl⟩ := r; rfl
  | byt _ => obtain ⟨t, rfl⟩ := r; rfl
  | flt _ => obtain ⟨t, rfl⟩ := r; rfl
  | ref _ => cases r; rfl
  | ty _ => cases r; rfl
theorem RelV.inj {x y : V} {u : Value} (r : RelV x u) (q : RelV y u) : x = y := Option.some.inj (r.abs.symm.trans q.abs)
theorem Vals.inj : ∀ {xs ys : List V} {us : List Value}, Vals xs us → Vals ys us → xs = ys
  | _, _, _, .nil, .nil => rfl
  | _, _, _, .cons r t, .cons r' t' => by rw [r.inj r', Vals.inj t t']
section
variable {X : Cx} {pins : List (Addr × Obj)} {σ : St} {H : Hp} {s : Shared} {a : Addr} {xs ys : List V}
theorem SqL.of {K : PySem.W.Frag} (h : H a = some (.lst xs)) : SqL K H a xs := .inl (.inl h)
theorem SqT.of {K : PySem.W.Frag} (h : H a = some (.tup xs)) : SqT K H a xs := .inl (.inl h)
theorem Inv.list (I : Inv X pins σ H s) (h : SqL X.K H a xs) : ∃ its : List Value, Vals xs its ∧ PlainL s.heap a its.toArray ∧ xs.length ≤ sizeLine := by
  rcases h with h | ⟨o, its, n, hk, hc, hd, hs, hz, r⟩
  · obtain ⟨z, its, n, r, e⟩ := h.ok I.hok
    exact ⟨its, r, ⟨_, n, e, rfl, rfl, rfl⟩, z⟩
  · refine ⟨its.toList, r, ⟨o, n, I.kIn a o hk, hc, hd, by simpa using hs⟩, ?_⟩
    have e := r.length
    simp only [Array.length_toList] at e
    omega
theorem Inv.tuple (I : Inv X pins σ H s) (h : SqT X.K H a xs) : ∃ its : List Value, Vals xs its ∧ IsTup s.heap a its.toArray ∧ xs.length ≤ sizeLine := by
  rcases h with h | ⟨o, its, n, hk, hc, hs, hz, r⟩
  · obtain ⟨z, its, r, p⟩ := h.ok I.hok
    exact ⟨its, r, p, z⟩
  · refine ⟨its.toList, r, ⟨o, I.kIn a o hk, hc, n, by simpa using hs⟩, ?_⟩
    have e := r.length
    simp only [Array.length_toList] at e
    omega
theorem Inv.list_inj (I : Inv X pins σ H s) (h : SqL X.K H a xs) (h' : SqL X.K H a ys) : xs = ys := by
  obtain ⟨its, r, ⟨o, n, e, _, _, d⟩, _⟩ := I.list h
  obtain ⟨its', r', ⟨o', n', e', _, _, d'⟩, _⟩ := I.list h'
  rw [e] at e'; cases e'
  rw [d] at d'
  injection d' with d1 _
  have : its = its' := by simpa using congrArg Array.toList d1
  subst this
  exact r.inj r'
end

/-! ### another wish about exceptions -/
abbrev Cx.wish (X : Cx) (E : Value → Shared → Prop) : Cx := { X with xe := E }
/-- no exception leaves -/
abbrev Cx.nox (X : Cx) : Cx := X.wish fun _ _ => False
theorem Cx.Ok.wish {X : Cx} (ok : X.Ok) (E : Value → Shared → Prop) : (X.wish E).Ok :=
  ⟨ok.mod, ok.kind, ok.glob, ok.blt, ok.above, ok.inj, ok.has, ok.cab, ok.hd, ok.frames, ok.stk, ok.exf, ok.bs, ok.bsz, ok.noex, ok.exfs, ok.funs, ok.frf⟩
theorem Cx.Ok.unwish {X : Cx} {E : Value → Shared → Prop} (ok : (X.wish E).Ok) : X.Ok :=
  ⟨ok.mod, ok.kind, ok.glob, ok.blt, ok.above, ok.inj, ok.has, ok.cab, ok.hd, ok.frames, ok.stk, ok.exf, ok.bs, ok.bsz, ok.noex, ok.exfs, ok.funs, ok.frf⟩
section
variable {X : Cx} {pins : List (Addr × Obj)} {σ : St} {H : Hp} {s : Shared} {E : Value → Shared → Prop}
theorem Inv.wish (I : Inv X pins σ H s) (E : Value → Shared → Prop) : Inv (X.wish E) pins σ H s := ⟨I.ok.wish E, I.os, I.bare, I.base, I.loc, I.cell, I.free, I.freeC, I.pin, I.hok, I.len⟩
theorem Inv.unwish (I : Inv (X.wish E) pins σ H s) : Inv X pins σ H s := ⟨I.ok.unwish, I.os, I.bare, I.base, I.loc, I.cell, I.free, I.freeC, I.pin, I.hok, I.len⟩
theorem SP.unwish {D : Ends} {f : Flow} {s' : Shared} (h : SP (X.wish E) pins D f s') : SP X pins D f s' := by
  cases f with
  | next => obtain ⟨σ', H', I, q⟩ := h; exact ⟨σ', H', I.unwish, q⟩
  | brk => obtain ⟨σ', H', I, q⟩ := h; exact ⟨σ', H', I.unwish, q⟩
  | cont => obtain ⟨σ', H', I, q⟩ := h; exact ⟨σ', H', I.unwish, q⟩
  | ret u => obtain ⟨v, σ', H', I, r, q⟩ := h; exact ⟨v, σ', H', I.unwish, r, q⟩
theorem PE.nox {e : Expr} {t : TE} (h : PE X.nox e t) : PE X e t := fun pins s σ H Q I hw =>
  wpAny_mono (h pins s σ H Q (I.wish _) hw) (fun _ _ ⟨v, H', I', r, q⟩ => ⟨v, H', I'.unwish, r, q⟩) fun _ _ z => False.elim z
theorem PT.nox {e : Expr} {t : TT} (h : PT X.nox e t) : PT X e t := fun pins s σ H Q I hw =>
  wpAny_mono (h pins s σ H Q (I.wish _) hw) (fun _ _ ⟨H', I', q⟩ => ⟨H', I'.unwish, q⟩) fun _ _ z => False.elim z
theorem PSs.nox {st : List Stmt} {t : TS} (h : PSs X.nox st t) : PSs X st t := fun pins s σ H D I hw =>
  wpAny_mono (h pins s σ H D (I.wish _) hw) (fun _ _ q => q.unwish) fun _ _ z => False.elim z
end

/-! ### blocks and small statements -/
section
variable {X : Cx} {st : Stmt} {rest : List Stmt} {t u : TS} {e : Expr} {te : TE} {pos : Pos}
def tNext : TS := fun D σ H => D.nx σ H
def tSeq (t u : TS) : TS := fun D σ H => t { D with nx := u D } σ H
theorem pss_nil : PSs X [] tNext := fun _ _ σ H _ I h => wpAny_execs_nil ⟨σ, H, I, h⟩
theorem pss_cons (h1 : PS X st t) (h2 : PSs X rest u) : PSs X (st :: rest) (tSeq t u) := by
  intro pins s σ H D I h
  refine wpAny_execs_cons (thn (h1 pins s σ H { D with nx := u D } I h) fun f s1 q => ?_)
  cases f with
  | next =>
    obtain ⟨σ', H', I', q⟩ := q
    exact h2 pins s1 σ' H' D I' q
  | ret v => exact q
  | brk => exact q
  | cont => exact q
theorem pss_one (h1 : PS X st t) : PSs X [st] t := by
  intro pins s σ H D I h
  refine wpAny_execs_cons (thn (h1 pins s σ H D I h) fun f s1 q => ?_)
  cases f with
  | next => exact wpAny_execs_nil q
  | ret v => exact q
  | brk => exact q
  | cont => exact q
/-- in a def's body nothing is shown -/
theorem Inv.quiet {pins : List (Addr × Obj)} {σ : St} {H : Hp} {s : Shared} (I : Inv X pins σ H s) : interactive X.env = false := by simp [interactive, I.ok.kind]
/-- an expression whose value is dropped -/
def tDrop (te : TE) : TS := fun D σ H => te σ H fun _ H1 => D.nx σ H1
theorem ps_expr (he : PE X e te) (hs : swapsWith e none pos.line X.env = pure false := by rfl) : PS X (.Expr e pos) (tDrop te) := by
  intro pins s σ H D I h
  exact wpAny_Expr_any (thn (he pins s σ H _ I h) fun v s1 ⟨x, H1, I1, r1, q1⟩ => ⟨σ, H1, I1, q1⟩) I.quiet hs
def tRet (te : TE) : TS := fun D σ H => te σ H D.rt
theorem ps_ret (he : PE X e te) : PS X (.Return (some e) pos) (tRet te) := by
  intro pins s σ H D I h
  exact wpAny_Return_some (thn (he pins s σ H _ I h) fun v s1 ⟨x, H1, I1, r1, q1⟩ => ⟨x, σ, H1, I1, r1, q1⟩)
def tRetN : TS := fun D _ H => D.rt .non H
def tIfS (c : TT) (t u : TS) : TS := fun D σ H => c σ H fun b H1 => if b = true then t D σ H1 else u D σ H1
theorem ps_if {c : Expr} {a b : List Stmt} {tc : TT} (hc : PT X c tc) (ha : PSs X a t) (hb : PSs X b u) : PS X (.If c a b pos) (tIfS tc t u) := by
  intro pins s σ H D I h
  refine wpAny_If (thn (hc pins s σ H _ I h) fun d s1 ⟨H1, I1, q1⟩ => ?_)
  cases d with
  | true => exact ha pins s1 σ H1 D I1 q1
  | false => exact hb pins s1 σ H1 D I1 q1
/-- code that the proof never comes to -/
def tNever : TS := fun _ _ _ => False
theorem ps_never : PS X st tNever := fun _ _ _ _ _ _ h => h.elim
end

/-! ### targets -/
abbrev TG := V → St → Hp → (St → Hp → Prop) → Prop
abbrev TGs := List V → St → Hp → (St → Hp → Prop) → Prop
def PG (X : Cx) (target : Expr) (t : TG) : Prop :=
  ∀ (pins : List (Addr × Obj)) (s : Shared) (σ : St) (H : Hp) (v : V) (u : Value) (Q : St → Hp → Prop), Inv X pins σ H s → RelV v u → t v σ H Q →
    wpAny (model X.prog X.w) X.A (assign target X.env u) (fun _ s' => ∃ σ' H', Inv X pins σ' H' s' ∧ Q σ' H') X.xe s
/-- several targets, one after another -/
def PGs (X : Cx) (ts : List Expr) (t : TGs) : Prop :=
  ∀ (pins : List (Addr × Obj)) (s : Shared) (σ : St) (H : Hp) (vs : List V) (us : List Value) (Q : St → Hp → Prop), Inv X pins σ H s → Vals vs us → t vs σ H Q →
    wpAny (model X.prog X.w) X.A (assignInOrder ((assignEach ts X.env).map (·.2)) us) (fun _ s' => ∃ σ' H', Inv X pins σ' H' s' ∧ Q σ' H') X.xe s
/-- o[i] = v, by values -/
abbrev TSet := V → V → V → Hp → (Hp → Prop) → Prop
def PSet (X : Cx) (t : TSet) : Prop :=
  ∀ (pins : List (Addr × Obj)) (s : Shared) (σ : St) (H : Hp) (o i v : V) (ov iv u : Value) (Q : Hp → Prop), Inv X pins σ H s → RelV o ov → RelV i iv → RelV v u → t o i v H Q →
    wpAny (model X.prog X.w) X.A (setItem ov iv u) (fun _ s' => ∃ H', Inv X pins σ H' s' ∧ Q H') X.xe s
section
variable {X : Cx} {pos : Pos}
def gName (i : Nat) : TG := fun v σ H Q => Q (σ.set i (some v)) H
theorem pg_name {i : Nat} {x : Str} (hN : X.N.Nodup) (hi : X.N[i]? = some x) (hx : Loc X.env.scope x) (hf : X.fn x = true ∨ X.env.scope.names.lookup x = some .local := by first | exact .inl rfl | exact .inr rfl | assumption) : PG X (.Name x pos) (gName i) := by
  intro pins s σ H v u Q I r h
  exact wpAny_assign_Name (store_ok I hN hi hx r (fun s' I' => ⟨_, H, I', h⟩) hf)
def gNil : TGs := fun vs σ H Q => vs = [] ∧ Q σ H
def gCons (t : TG) (u : TGs) : TGs := fun vs σ H Q => ∃ v r, vs = v :: r ∧ t v σ H fun σ' H' => u r σ' H' Q
theorem pgs_nil : PGs X [] gNil := by
  intro pins s σ H vs us Q I r h
  obtain ⟨e, h⟩ := h
  subst e
  cases r
  exact assignInOrder_nil ⟨σ, H, I, h⟩
theorem pgs_cons {e : Expr} {es : List Expr} {t : TG} {u : TGs} (h1 : PG X e t) (h2 : PGs X es u)
    (hs : (assignEach (e :: es) X.env).map (·.2) = assign e X.env :: (assignEach es X.env).map (·.2) := by rfl) : PGs X (e :: es) (gCons t u) := by
  intro pins s σ H vs us Q I r h
  obtain ⟨v, vr, e1, h⟩ := h
  subst e1
  cases r with
  | cons r rr =>
    rw [hs]
    refine assignInOrder_cons (thn (h1 pins s σ H _ _ _ I r h) fun _ s1 ⟨σ1, H1, I1, q1⟩ => ?_)
    exact h2 pins s1 σ1 H1 _ _ Q I1 rr q1
/-- (a, b, ..) = a tuple of that length -/
def gTup (K : PySem.W.Frag) (n : Nat) (t : TGs) : TG := fun v σ H Q => ∃ a xs, v = .ref a ∧ SqT K H a xs ∧ xs.length = n ∧ t xs σ H Q
theorem pg_tup {es : List Expr} {k : Nat} {t : TGs} {n : Nat} (hc : X.calm = true) (h : PGs X es t)
    (hn : (assignEach es X.env).length = n := by rfl) (hst : (assignEach es X.env).findIdx? (·.1) = none := by rfl) : PG X (.Tuple es k pos) (gTup X.K n t) := by
  intro pins s σ H v u Q I r hw
  obtain ⟨a, xs, e1, hq, hl, hw⟩ := hw
  subst e1
  cases r
  obtain ⟨its, rv, ht, hz⟩ := I.tuple hq
  refine assign_Tuple_tuple (I.ok.hd hc) ht (by simp [hn, ← hl, rv.length]) hst fun h' hx => ?_
  have I1 : Inv X pins σ H { s with heap := h' } := I.kept (t' := s.toks) fun b o e => hx b o (Nat.ne_of_lt (Heap.lt_size e)) e
  exact h pins _ σ H xs _ Q I1 (by simpa using rv) hw
/-- o[i] = .. -/
def gSub (to ti : TE) (t : TSet) : TG := fun v σ H Q => to σ H fun o H1 => ti σ H1 fun i H2 => t o i v H2 fun H3 => Q σ H3
theorem pg_sub {o i : Expr} {to ti : TE} {t : TSet} (ho : PE X o to) (hi : PE X i ti) (hs : PSet X t)
    (ha : ∀ v, assign (.Subscript o i pos) X.env v = (do
      let ov ← holding [v] (eval o X.env)
      let iv ← holding [v, ov] (eval i X.env)
      standAt pos
      holding [v, ov, iv] (setItem ov iv v)
      release [v, ov, iv] []) := by intro _; rfl) : PG X (.Subscript o i pos) (gSub to ti t) := by
  intro pins s σ H v u Q I r h
  rw [ha]
  refine wpAny_bind (wpAny_holding (thn (ho pins s σ H _ I h) fun ov s1 ⟨x, H1, I1, r1, q1⟩ => ?_))
  refine wpAny_bind (wpAny_holding (thn (hi pins s1 σ H1 _ I1 q1) fun iv s2 ⟨y, H2, I2, r2, q2⟩ => ?_))
  refine wpAny_bind (wpAny_standAt (wpAny_bind (wpAny_holding (thn (hs pins s2 σ H2 x y v ov iv u _ I2 r1 r2 r q2) fun _ s3 ⟨H3, I3, q3⟩ => ?_))))
  exact wpAny_release ⟨σ, H3, I3, q3⟩
/-- target = value -/
def tAsg (te : TE) (g : TG) : TS := fun D σ H => te σ H fun x H1 => g x σ H1 D.nx
theorem ps_asg {tg e : Expr} {te : TE} {g : TG} (he : PE X e te) (hg : PG X tg g) (hs : swapsWithSole [tg] e pos.line X.env = pure false := by rfl) (hw : swappedStores [tg] e X.env = pure none := by rfl)
    (h1 : (assignEach [tg] X.env).map (·.2) = [assign tg X.env] := by rfl) : PS X (.Assign [tg] e pos) (tAsg te g) := by
  intro pins s σ H D I h
  refine wpAny_Assign_stores (thn (he pins s σ H _ I h) fun v s1 ⟨x, H1, I1, r1, q1⟩ => ?_) hs hw
  rw [h1]
  exact thn (hg pins s1 σ H1 x v _ I1 r1 q1) fun _ s2 q => q
/-- name = value -/
theorem ps_set {i : Nat} {x : Str} {e : Expr} {te : TE} {pos' : Pos} (hN : X.N.Nodup) (hi : X.N[i]? = some x) (hx : Loc X.env.scope x) (he : PE X e te) (hs : swapsWith e (some (.Name x pos')) pos.line X.env = pure false := by rfl) (hf : X.fn x = true ∨ X.env.scope.names.lookup x = some .local := by first | exact .inl rfl | exact .inr rfl | assumption) :
    PS X (.Assign [.Name x pos'] e pos) (tAsg te (gName i)) := by
  intro pins s σ H D I h
  refine wpAny_Assign_Name (thn (he pins s σ H _ I h) fun v s1 ⟨y, H1, I1, r1, q1⟩ => ?_) hs
  exact store_ok I1 hN hi hx r1 (fun s2 I2 => ⟨_, H1, I2, q1⟩) hf
end

/-! ### while -/
section
variable {X : Cx} {pos : Pos}
/-- the invariant W with its measure -/
def tWhile (c : TT) (tb : TS) : TS := fun D σ H => ∃ W : Nat → St → Hp → Prop, (∃ m, W m σ H) ∧ ∀ m σ H, W m σ H →
  c σ H fun b H1 => if b = true then ∃ N : St → Hp → Prop, (∀ σ' H', N σ' H' → ∃ m', m' < m ∧ W m' σ' H') ∧ tb { D with nx := N, ct := N, bk := D.nx } σ H1 else D.nx σ H1
end

/-! ### what a loop or a comprehension walks -/
/-- at turn i: it yields x (the heap may grow), or it stops -/
structure It where
  go : Nat → Hp → Prop
  yld : Nat → Hp → V → Hp → Prop
  stop : Nat → Hp → Prop
/-- the iterator's own objects may turn: they are not the frame's, not pinned, younger than the entry (or a comprehension's own) -/
def FpOk (X : Cx) (pins : List (Addr × Obj)) (H : Hp) (b : Addr) : Prop :=
  H b = none ∧ b ≠ X.env.locals ∧ b ∉ X.fs ∧ (b ∈ X.ex ∨ X.s₀.heap.objs.size ≤ b) ∧ (∀ x c, X.env.cells.lookup x = some c → c ≠ b) ∧ ∀ p ∈ X.pn ++ pins, p.1 ≠ b
theorem Inv.fpOk {X : Cx} {pins : List (Addr × Obj)} {σ : St} {H H' : Hp} {s : Shared} {b : Addr} (I : Inv X pins σ H s) (hb : s.heap.objs.size ≤ b) (hn : H' b = none) : FpOk X pins H' b := by
  refine ⟨hn, Nat.ne_of_gt (Nat.lt_of_lt_of_le I.lt hb), I.nofs hb, .inr (Nat.le_trans I.sz hb), fun x c e z => ?_, fun p hp z => ?_⟩
  · obtain ⟨v, q⟩ := I.cell x c e
    exact absurd (Nat.lt_of_lt_of_le q.lt (by rw [z]; exact hb)) (Nat.lt_irrefl _)
  · exact absurd (Nat.lt_of_lt_of_le (Heap.lt_size (I.pin p hp).1) (by rw [z]; exact hb)) (Nat.lt_irrefl _)
structure Turn (P : Program) (w : World) (K : PySem.W.Frag) (tg : Expr) (J : It) (fp : List Addr) (it : Addr) (tn : Nat → Heap → Prop) : Prop where
  mem : it ∈ fp
  obj : ∀ i h, tn i h → ∀ b ∈ fp, ∃ o, h.get? b = some o ∧ ∀ v, o.data ≠ .cell v
  keep : ∀ i h h', tn i h → (∀ b ∈ fp, ∀ o, h.get? b = some o → h'.get? b = some o) → tn i h'
  item : ∀ (X : Cx), X.prog = P → X.w = w → X.K = K → X.calm = true → ∀ (i : Nat) (pins : List (Addr × Obj)) (s : Shared) (σ : St) (H : Hp) (E : Value → Shared → Prop), Inv X pins σ H s → (∀ b ∈ fp, FpOk X pins H b) → tn i s.heap → J.go i H →
    wpAny (model P w) X.A (pyNext (.ref it)) (fun r s1 => ∃ u, r = some u ∧
      wpAny (model P w) X.A (letOwnedTupleGo tg (.ref it) u) (fun _ s2 => ∃ x H', Inv X pins σ H' s2 ∧ RelV x u ∧ J.yld i H x H' ∧ tn (i + 1) s2.heap ∧ ∀ b ∈ fp, H' b = none) E s1) E s
  done : ∀ (X : Cx), X.prog = P → X.w = w → X.K = K → X.calm = true → ∀ (i : Nat) (pins : List (Addr × Obj)) (s : Shared) (σ : St) (H : Hp) (E : Value → Shared → Prop), Inv X pins σ H s → (∀ b ∈ fp, FpOk X pins H b) → tn i s.heap → J.stop i H →
    wpAny (model P w) X.A (pyNext (.ref it)) (fun r s1 => r = none ∧ Inv X pins σ H s1) E s
  self : ∀ (A : Around) (i : Nat) (s : Shared) (Q : Value → Shared → Prop) (E : Value → Shared → Prop), tn i s.heap → Q (.ref it) s → wpAny (model P w) A (pyIter (.ref it)) Q E s
abbrev TI := St → Hp → (It → Hp → Prop) → Prop
/-- an iterator has come -/
def PIE (X : Cx) (pins : List (Addr × Obj)) (σ : St) (tg : Expr) (R : It → Hp → Prop) (itv : Value) (s2 : Shared) : Prop :=
  ∃ (it : Addr) (fp : List Addr) (tn : Nat → Heap → Prop) (J : It) (H' : Hp), itv = .ref it ∧ Inv X pins σ H' s2 ∧ Turn X.prog X.w X.K tg J fp it tn ∧ tn 0 s2.heap ∧ (∀ b ∈ fp, FpOk X pins H' b) ∧ R J H'
def PI (X : Cx) (tg iter : Expr) (wi : TI) : Prop :=
  ∀ (pins : List (Addr × Obj)) (s : Shared) (σ : St) (H : Hp) (R : It → Hp → Prop), Inv X pins σ H s → wi σ H R →
    wpAny (model X.prog X.w) X.A (eval iter X.env) (fun v s1 => wpAny (model X.prog X.w) X.A (pyIter v) (PIE X pins σ tg R) X.xe s1) X.xe s

/-- the step ahead of the store is nothing for an iterator that keeps no tuple -/
theorem go_of {M : Model} {A : Around} {E : Value → Shared → Prop} {s : Shared} {tg : Expr} {it : Addr} {u : Value} {o : Obj} {n : String} {vs : Array Value} {Q : Unit → Shared → Prop} (ho : s.heap.get? it = some o) (hc : o.cls = .type n) (hd : o.data = .fields vs)
    (hn : ["enumerate", "zip", "dict_itemiterator", "dict_reverseitemiterator", "odict_iterator", "itertools.zip_longest", "itertools.pairwise"].contains n = false) (hQ : Q () s) : wpAny M A (letOwnedTupleGo tg (.ref it) u) Q E s := by
  unfold letOwnedTupleGo
  cases tg <;> first
    | exact wpAny_pure hQ
    | (cases u <;> first
        | exact wpAny_pure hQ
        | (refine wpAny_bind (wpAny_load ho ?_)
           rw [hc, hd]
           show wpAny M A (if (["enumerate", "zip", "dict_itemiterator", "dict_reverseitemiterator", "odict_iterator", "itertools.zip_longest", "itertools.pairwise"].contains n && vs[0]? == some (rawInt _)) = true then _ else _) Q E s
           rw [if_neg (by intro h; rw [hn, Bool.false_and] at h; cases h)]
           exact wpAny_pure hQ))

/-- the list at a, as it stands at each turn (a loop may append to it) -/
def Itl (K : PySem.W.Frag) (a : Addr) : It :=
  ⟨fun i H => ∃ xs x, SqL K H a xs ∧ xs[i]? = some x, fun i H x H' => H' = H ∧ ∀ xs, SqL K H a xs → xs[i]? = some x, fun i H => ∃ xs, SqL K H a xs ∧ xs.length ≤ i⟩
/-- lo, lo + 1, .. (n of them) -/
def Itr (lo : Int) (n : Nat) : It := ⟨fun i _ => i < n, fun i H x H' => H' = H ∧ x = .int (lo + i), fun i _ => n ≤ i⟩
theorem turn_list {P : Program} {w : World} {K : PySem.W.Frag} {tg : Expr} (a it : Addr) : Turn P w K tg (Itl K a) [it] it (fun i h => h.IsListIter it a i) where
  mem := by simp
  obj := fun i h st b hb => by
    have e : b = it := by simpa using hb
    subst e
    obtain ⟨o, e, c, d⟩ := st
    exact ⟨o, e, fun v z => by rw [d] at z; cases z⟩
  keep := fun i h h' st k => st.at fun o e => k it (by simp) o e
  item := by
    intro X hP hw hK hc i pins s σ H E I hf st hg
    subst hP hw hK
    obtain ⟨xs, x, hq, hx⟩ := hg
    obtain ⟨its, rv, p, hz⟩ := I.list hq
    obtain ⟨u, hu, ru⟩ := rv.get hx
    obtain ⟨f0, f1, f2, f3, f4, f5⟩ := hf it (by simp)
    refine wpAny_pyNext_list_item st p.isList (x := u) (by simpa using hu) fun h' st' sb => ?_
    have I1 : Inv X pins σ H { s with heap := h' } := I.turned (t' := s.toks) (fun b o hb e => (sb.2 b hb).trans e) f0 f1 f3 f4 f5
    obtain ⟨o, e, c, d⟩ := id st'
    exact ⟨u, rfl, go_of (s := { s with heap := h' }) e c d (by decide) ⟨x, H, I1, ru, ⟨rfl, fun ys hy => by rw [I.list_inj hy hq]; exact hx⟩, st', fun b hb => (hf b hb).1⟩⟩
  done := by
    intro X hP hw hK hc i pins s σ H E I hf st hg
    subst hP hw hK
    obtain ⟨xs, hq, hx⟩ := hg
    obtain ⟨its, rv, p, hz⟩ := I.list hq
    obtain ⟨f0, f1, f2, f3, f4, f5⟩ := hf it (by simp)
    have hl := rv.length
    exact wpAny_pyNext_list_end (I.ok.hd hc) st p.isList (by simp; omega) fun h' eb => ⟨rfl, I.turned (t' := s.toks) (fun b o hb e => eb b o hb e) f0 f1 f3 f4 f5⟩
  self := fun _ _ _ _ _ st h => wpAny_pyIter_listiter st h
theorem turn_range {P : Program} {w : World} {K : PySem.W.Frag} {tg : Expr} (it : Addr) (lo : Int) (n : Nat) : Turn P w K tg (Itr lo n) [it] it (fun i h => IsRangeIter h it (lo + (i : Nat) * 1) ((n : Int) - (i : Nat)) 1) where
  mem := by simp
  obj := fun i h st b hb => by
    have e : b = it := by simpa using hb
    subst e
    exact ⟨_, st, fun v z => by
      have z' : Data.fields _ = Data.cell v := z
      cases z'⟩
  keep := fun i h h' st k => k it (by simp) _ st
  item := by
    intro X hP hw hK hc i pins s σ H E I hf st hg
    subst hP hw hK
    obtain ⟨f0, f1, f2, f3, f4, f5⟩ := hf it (by simp)
    have W := Walks.range (prog := X.prog) (w := X.w) (I.ok.hd hc) it lo 1 n
    refine W.item i s _ _ hg st fun v h' tk hv st' kk => ?_
    obtain ⟨t, rfl⟩ := hv
    have I1 : Inv X pins σ H { s with heap := h', toks := tk } := I.turned (fun b o hb e => kk b o (by simpa using hb) e) f0 f1 f3 f4 f5
    refine ⟨_, rfl, go_of (s := { s with heap := h', toks := tk }) (n := "range_iterator") st' rfl rfl (by decide) ⟨.int (lo + i), H, I1, ⟨t, ?_⟩, ⟨rfl, rfl⟩, st', fun b hb => (hf b hb).1⟩⟩
    rw [Int.mul_one]
  done := by
    intro X hP hw hK hc i pins s σ H E I hf st hg
    subst hP hw hK
    obtain ⟨f0, f1, f2, f3, f4, f5⟩ := hf it (by simp)
    exact wpAny_pyNext_range_end (I.ok.hd hc) st (by have : n ≤ i := hg; omega) fun h' eb => ⟨rfl, I.turned (t' := s.toks) (fun b o hb e => eb b o hb e) f0 f1 f3 f4 f5⟩
  self := fun _ _ _ _ _ st h => wpAny_pyIter_rangeiter st h
end L2

namespace L2
open PySem PySem.Spec PyProof.Rows
section
variable {X : Cx} {tg : Expr}
def iList (K : PySem.W.Frag) (tl : TE) : TI := fun σ H R => tl σ H fun x H1 => ∃ a, x = .ref a ∧ (∃ xs, SqL K H1 a xs) ∧ R (Itl K a) H1
theorem pi_list {l : Expr} {tl : TE} (hl : PE X l tl) : PI X tg l (iList X.K tl) := by
  intro pins s σ H R I h
  refine thn (hl pins s σ H _ I h) fun v s1 ⟨x, H1, I1, r1, q1⟩ => ?_
  obtain ⟨a, e, ⟨xs, hq⟩, q⟩ := q1
  subst e
  cases r1
  obtain ⟨its, rv, p, hz⟩ := I1.list hq
  refine wpAny_pyIter_list p.isList ?_
  refine ⟨s1.heap.objs.size, [s1.heap.objs.size], _, _, H1, rfl, I1.kept (t' := s1.toks) fun b o e => Heap.get?_push_of_some _ e, turn_list a _, ⟨_, Heap.get?_push_size _ rfl, rfl, rfl⟩, fun b hb => ?_, q⟩
  have e : b = s1.heap.objs.size := by simpa using hb
  subst e
  exact I1.fpOk (Nat.le_refl _) (I1.hok.fresh (Nat.le_refl _))
/-- a range object just made, walked -/
theorem range_it {pins : List (Addr × Obj)} {σ : St} {H : Hp} {s : Shared} {R : It → Hp → Prop} {E : Value → Shared → Prop} {lo hi : Int} {t u v : Tok} {tk : Nat} (I : Inv X pins σ H s) (h1 : -(2 ^ 62) ≤ lo) (h2 : lo < 2 ^ 62) (h3 : -(2 ^ 62) ≤ hi) (h4 : hi < 2 ^ 62)
    (q : R (Itr lo (hi - lo).toNat) H) : wpAny (model X.prog X.w) X.A (pyIter (.ref s.heap.objs.size)) (PIE X pins σ tg R) E { s with heap := s.heap.push { cls := .type "range", data := .fields #[.int lo t, .int hi u, .int 1 v] }, toks := tk } := by
  refine wpAny_pyIter_range (IsRange.new ..) (small_one h1 h2 h3 h4) ?_
  have I1 : Inv X pins σ H { s with heap := s.heap.push { cls := .type "range", data := .fields #[.int lo t, .int hi u, .int 1 v] }, toks := tk } := I.kept fun b o e => Heap.get?_push_of_some _ e
  refine ⟨(s.heap.push { cls := .type "range", data := .fields #[.int lo t, .int hi u, .int 1 v] }).objs.size, [(s.heap.push { cls := .type "range", data := .fields #[.int lo t, .int hi u, .int 1 v] }).objs.size], _, _, H, rfl,
    I1.kept (t' := tk) fun b o e => Heap.get?_push_of_some _ e, turn_range _ lo (hi - lo).toNat, ?_, fun b hb => ?_, q⟩
  · have e1 : lo + ((0 : Nat) : Int) * 1 = lo := by simp
    have e2 : (((hi - lo).toNat : Nat) : Int) - ((0 : Nat) : Int) = Builtin.Range.rangeSize lo hi 1 := by rw [rangeSize_one]; split <;> omega
    show IsRangeIter _ _ (lo + ((0 : Nat) : Int) * 1) ((((hi - lo).toNat : Nat) : Int) - ((0 : Nat) : Int)) 1
    rw [e1, e2]
    exact Heap.get?_push_size _ rfl
  · have e : b = (s.heap.push { cls := .type "range", data := .fields #[.int lo t, .int hi u, .int 1 v] }).objs.size := by simpa using hb
    subst e
    exact I1.fpOk (Nat.le_refl _) (I1.hok.fresh (Nat.le_refl _))
def iRng1 (ta : TA) : TI := fun σ H R => ta σ H fun vs H1 => ∃ j : Int, vs = [.int j] ∧ -(2 ^ 62) ≤ j ∧ j < 2 ^ 62 ∧ R (Itr 0 j.toNat) H1
def iRng2 (ta : TA) : TI := fun σ H R => ta σ H fun vs H1 => ∃ i j : Int, vs = [.int i, .int j] ∧ (-(2 ^ 62) ≤ i ∧ i < 2 ^ 62 ∧ -(2 ^ 62) ≤ j ∧ j < 2 ^ 62) ∧ R (Itr i (j - i).toNat) H1
theorem pi_range1 {a : Expr} {ta : TA} {p pos : Pos} (hg : Gl X "range") (hm : X.mg "range" = none) (ha : PA X [a] ta) (hs : starEach [a] X.env = [(false, eval a X.env)] := by rfl) : PI X tg (.Call (.Name "range" p) [a] [] pos) (iRng1 ta) := by
  intro pins s σ H R I h
  refine Call_ (ld_blt I hg hm boot_range (PyProof.Rows.callWith_type1 (thn (ha pos pins s σ H _ I h) fun us s1 ⟨vs, H1, I1, r1, q1⟩ => ?_) hs rfl))
  obtain ⟨j, e, q1, q2, q⟩ := q1
  subst e
  cases r1 with
  | cons r rr =>
    cases rr
    obtain ⟨t, rfl⟩ := r
    exact call_range_1 (range_it I1 (by omega) (by omega) q1 q2 (by simpa using q))
theorem pi_range2 {a b : Expr} {ta : TA} {p pos : Pos} (hg : Gl X "range") (hm : X.mg "range" = none) (ha : PA X [a, b] ta) (hs : starEach [a, b] X.env = [(false, eval a X.env), (false, eval b X.env)] := by rfl) (hs2 : starEach [b] X.env = [(false, eval b X.env)] := by rfl) :
    PI X tg (.Call (.Name "range" p) [a, b] [] pos) (iRng2 ta) := by
  intro pins s σ H R I h
  refine Call_ (ld_blt I hg hm boot_range (PyProof.Rows.callWith_type1 (thn (ha pos pins s σ H _ I h) fun us s1 ⟨vs, H1, I1, r1, q1⟩ => ?_) (by rw [hs, hs2]) (by rw [hs2]; rfl)))
  obtain ⟨i, j, e, ⟨q1, q2, q3, q4⟩, q⟩ := q1
  subst e
  cases r1 with
  | cons r rr =>
    cases rr with
    | cons r' rr =>
      cases rr
      obtain ⟨t, rfl⟩ := r
      obtain ⟨t', rfl⟩ := r'
      exact call_range_2 (range_it I1 q1 q2 q3 q4 q)

/-! ### for -/
/-- W: the invariant by the turn and a measure; N: what the body is to reach -/
def tFor (wi : TI) (g : TG) (tb : TS) : TS := fun D σ H => wi σ H fun J H1 => ∃ W : Nat → Nat → St → Hp → Prop, (∃ m, W 0 m σ H1) ∧ ∀ i m σ H, W i m σ H →
  (J.stop i H ∧ D.nx σ H) ∨ (J.go i H ∧ ∃ N : St → Hp → Prop, (∀ σ' H', N σ' H' → ∃ m', m' < m ∧ W (i + 1) m' σ' H') ∧ ∀ x H', J.yld i H x H' → g x σ H' fun σ2 H2 => tb { D with nx := N, ct := N, bk := D.nx } σ2 H2)
/-- the records at fp as they stand -/
def pinsAt (fp : List Addr) (h : Heap) : List (Addr × Obj) := fp.filterMap fun b => (h.get? b).map fun o => (b, o)
theorem mem_pinsAt {fp : List Addr} {h : Heap} {b : Addr} {o : Obj} (hb : b ∈ fp) (e : h.get? b = some o) : (b, o) ∈ pinsAt fp h := List.mem_filterMap.mpr ⟨b, hb, by rw [e]; rfl⟩
theorem of_pinsAt {fp : List Addr} {h : Heap} {p : Addr × Obj} (hp : p ∈ pinsAt fp h) : p.1 ∈ fp ∧ h.get? p.1 = some p.2 := by
  obtain ⟨b, hb, e⟩ := List.mem_filterMap.mp hp
  cases q : h.get? b with
  | none => rw [q] at e; cases e
  | some o =>
    rw [q] at e
    have e' : (b, o) = p := Option.some.inj e
    subst e'
    exact ⟨hb, q⟩
theorem Inv.pinned {pins : List (Addr × Obj)} {σ : St} {H : Hp} {s : Shared} {fp : List Addr} (I : Inv X pins σ H s) (hf : ∀ b ∈ fp, FpOk X pins H b) (ho : ∀ b ∈ fp, ∃ o, s.heap.get? b = some o ∧ ∀ v, o.data ≠ .cell v) : Inv X (pins ++ pinsAt fp s.heap) σ H s :=
  I.pins_of fun p hp => (List.mem_append.mp hp).elim (fun z => I.pin p (List.mem_append_right _ z)) fun z => by
    obtain ⟨hb, e⟩ := of_pinsAt z
    obtain ⟨f0, f1, f2, _⟩ := hf p.1 hb
    obtain ⟨o, e', d⟩ := ho p.1 hb
    rw [e] at e'; cases e'
    exact ⟨e, f0, f1, f2, d⟩
theorem Inv.unpinned {pins pl : List (Addr × Obj)} {σ : St} {H : Hp} {s : Shared} (I : Inv X (pins ++ pl) σ H s) : Inv X pins σ H s := I.pins_of fun p hp => I.pin p (List.mem_append_right _ (List.mem_append_left _ hp))
theorem ps_for {iter : Expr} {body : List Stmt} {wi : TI} {g : TG} {tb : TS} {pos : Pos} (hp : PassesOwn (model X.prog X.w) X.A X.env X.xe) (hc : X.calm = true) (hi : PI X tg iter wi) (hg : PG X tg g) (hb : PSs X body tb)
    (hs : ∀ x, foldedSetIterable iter X.env x = pure x := by intro _; rfl) : PS X (.For tg iter body [] pos) (tFor wi g tb) := by
  intro pins s σ H D I h
  refine wpAny_For (thn (hi pins s σ H _ I h) fun v s1 h1 => thn h1 fun itv s2 h2 => ?_) hs
  obtain ⟨it, fp, tn, J, H2, e, I2, T, st2, f2, W, ⟨m0, w0⟩, turn⟩ := h2
  subst e
  -- what stays true of the iterator's objects through the loop
  have stat : ∀ {H' : Hp}, (∀ b ∈ fp, H' b = none) → ∀ b ∈ fp, FpOk X pins H' b := fun hn b hb => ⟨hn b hb, (f2 b hb).2⟩
  refine codeAny_forLoop_any (fun n s' => ∃ i σ' H', Inv X pins σ' H' s' ∧ tn i s'.heap ∧ (∀ b ∈ fp, H' b = none) ∧ W i n σ' H') ?_ m0 ⟨0, σ, H2, I2, st2, fun b hb => (f2 b hb).1, w0⟩
  rintro n s3 ⟨i, σ3, H3, I3, st3, fr3, w3⟩
  rcases turn i n σ3 H3 w3 with ⟨stop, qn⟩ | ⟨go, N, hN, step⟩
  · refine wpAny_passesOwn hp (thn (T.done X rfl rfl rfl hc i pins s3 σ3 H3 X.xe I3 (stat fr3) st3 stop) fun r s4 ⟨hr, I4⟩ => ?_)
    subst hr
    exact wpAny_execs_nil ⟨σ3, H3, I4, qn⟩
  · refine wpAny_passesOwn hp (thn (T.item X rfl rfl rfl hc i pins s3 σ3 H3 X.xe I3 (stat fr3) st3 go) fun r s4 ⟨u, hr, h4⟩ => ?_)
    subst hr
    refine wpAny_passesOwn hp (thn h4 fun _ s5 ⟨x, H5, I5, r5, y5, st5, fr5⟩ => ?_)
    have I5' := I5.pinned (stat fr5) (T.obj _ _ st5)
    refine wpAny_passesOwn hp (thn (hg _ s5 σ3 H5 x u _ I5' r5 (step x H5 y5)) fun _ s6 ⟨σ6, H6, I6, q6⟩ => ?_)
    refine wpAny_passesOwn hp (thn (hb _ s6 σ6 H6 _ I6 q6) fun f s7 q7 => ?_)
    have again : ∀ {σ7 : St} {H7 : Hp}, Inv X (pins ++ pinsAt fp s5.heap) σ7 H7 s7 → N σ7 H7 → ∃ m, m < n ∧ ∃ i σ' H', Inv X pins σ' H' s7 ∧ tn i s7.heap ∧ (∀ b ∈ fp, H' b = none) ∧ W i m σ' H' := fun {σ7 H7} I7 n7 => by
      obtain ⟨m', hm, w7⟩ := hN σ7 H7 n7
      refine ⟨m', hm, i + 1, σ7, H7, I7.unpinned, T.keep _ _ _ st5 fun b hb o e => (I7.pin (b, o) (List.mem_append_right _ (List.mem_append_right _ (mem_pinsAt hb e)))).1, fun b hb => ?_, w7⟩
      obtain ⟨o, e, d⟩ := T.obj _ _ st5 b hb
      exact (I7.pin (b, o) (List.mem_append_right _ (List.mem_append_right _ (mem_pinsAt hb e)))).2.1
    cases f with
    | next => obtain ⟨σ7, H7, I7, n7⟩ := q7; exact again I7 n7
    | cont => obtain ⟨σ7, H7, I7, n7⟩ := q7; exact again I7 n7
    | brk => obtain ⟨σ7, H7, I7, q7⟩ := q7; exact ⟨σ7, H7, I7.unpinned, q7⟩
    | ret v => obtain ⟨x7, σ7, H7, I7, r7, q7⟩ := q7; exact ⟨x7, σ7, H7, I7.unpinned, r7, q7⟩
end

/-! ### the forms one uses -/
/-- over a list that the body leaves as it is -/
theorem for_list {K : PySem.W.Frag} {a : Addr} {xs : List V} {g : TG} {tb : TS} {D : Ends} {σ : St} {H : Hp} (Pv : Nat → St → Hp → Prop) (h0 : Pv 0 σ H) (hl : ∀ i σ H, i ≤ xs.length → Pv i σ H → SqL K H a xs)
    (hs : ∀ i x σ H, xs[i]? = some x → Pv i σ H → g x σ H fun σ2 H2 => tb { D with nx := Pv (i + 1), ct := Pv (i + 1), bk := D.nx } σ2 H2) (hd : ∀ σ H, Pv xs.length σ H → D.nx σ H) :
    ∃ W : Nat → Nat → St → Hp → Prop, (∃ m, W 0 m σ H) ∧ ∀ i m σ H, W i m σ H →
      ((Itl K a).stop i H ∧ D.nx σ H) ∨ ((Itl K a).go i H ∧ ∃ N : St → Hp → Prop, (∀ σ' H', N σ' H' → ∃ m', m' < m ∧ W (i + 1) m' σ' H') ∧ ∀ x H', (Itl K a).yld i H x H' → g x σ H' fun σ2 H2 => tb { D with nx := N, ct := N, bk := D.nx } σ2 H2) := by
  refine ⟨fun i m σ H => m = xs.length - i ∧ i ≤ xs.length ∧ Pv i σ H, ⟨xs.length, by simp, Nat.zero_le _, h0⟩, ?_⟩
  rintro i m σ H ⟨rfl, hi, p⟩
  have q := hl i σ H hi p
  by_cases hlt : i < xs.length
  · refine .inr ⟨⟨xs, xs[i], q, by simp [hlt]⟩, Pv (i + 1), fun σ' H' p' => ⟨xs.length - (i + 1), by omega, rfl, hlt, p'⟩, fun x H' y => ?_⟩
    obtain ⟨e, y⟩ := y
    subst e
    exact hs i x σ _ (y xs q) p
  · have e : i = xs.length := by omega
    subst e
    exact .inl ⟨⟨xs, q, Nat.le_refl _⟩, hd σ H p⟩
theorem for_range {lo : Int} {n : Nat} {g : TG} {tb : TS} {D : Ends} {σ : St} {H : Hp} (Pv : Nat → St → Hp → Prop) (h0 : Pv 0 σ H)
    (hs : ∀ i σ H, i < n → Pv i σ H → g (.int (lo + i)) σ H fun σ2 H2 => tb { D with nx := Pv (i + 1), ct := Pv (i + 1), bk := D.nx } σ2 H2) (hd : ∀ σ H, Pv n σ H → D.nx σ H) :
    ∃ W : Nat → Nat → St → Hp → Prop, (∃ m, W 0 m σ H) ∧ ∀ i m σ H, W i m σ H →
      ((Itr lo n).stop i H ∧ D.nx σ H) ∨ ((Itr lo n).go i H ∧ ∃ N : St → Hp → Prop, (∀ σ' H', N σ' H' → ∃ m', m' < m ∧ W (i + 1) m' σ' H') ∧ ∀ x H', (Itr lo n).yld i H x H' → g x σ H' fun σ2 H2 => tb { D with nx := N, ct := N, bk := D.nx } σ2 H2) := by
  refine ⟨fun i m σ H => m = n - i ∧ i ≤ n ∧ Pv i σ H, ⟨n, by simp, Nat.zero_le _, h0⟩, ?_⟩
  rintro i m σ H ⟨rfl, hi, p⟩
  by_cases hlt : i < n
  · refine .inr ⟨hlt, Pv (i + 1), fun σ' H' p' => ⟨n - (i + 1), by omega, rfl, hlt, p'⟩, fun x H' y => ?_⟩
    obtain ⟨e, y⟩ := y
    subst e y
    exact hs i σ _ hlt p
  · have e : i = n := by omega
    subst e
    exact .inl ⟨Nat.le_refl _, hd σ H p⟩
/-- while, by a word and a measure of the state -/
theorem while_by {c : TT} {tb : TS} {D : Ends} {σ : St} {H : Hp} (Pv : St → Hp → Prop) (μ : St → Hp → Nat) (h0 : Pv σ H)
    (hs : ∀ σ H, Pv σ H → c σ H fun b H1 => if b = true then tb { D with nx := fun σ' H' => Pv σ' H' ∧ μ σ' H' < μ σ H, ct := fun σ' H' => Pv σ' H' ∧ μ σ' H' < μ σ H, bk := D.nx } σ H1 else D.nx σ H1)
    (mono : ∀ σ H Q Q', (∀ b H1, Q b H1 → Q' b H1) → c σ H Q → c σ H Q') : tWhile c tb D σ H := by
  refine ⟨fun m σ H => m = μ σ H ∧ Pv σ H, ⟨_, rfl, h0⟩, ?_⟩
  rintro m σ H ⟨rfl, p⟩
  refine mono σ H _ _ (fun b H1 q => ?_) (hs σ H p)
  cases b with
  | true => exact ⟨_, fun σ' H' ⟨p', l⟩ => ⟨_, l, rfl, p'⟩, q⟩
  | false => exact q
end L2

namespace L2
open PySem PySem.Spec PyProof.Rows

abbrev R2 := V → V → Hp → VK → Prop
/-- a two-place operation on values: f is binaryOp op, inplaceOp op or compareOp op -/
def OpR (X : Cx) (f : Value → Value → Sem Value) (r : R2) : Prop :=
  ∀ (pins : List (Addr × Obj)) (s : Shared) (σ : St) (H : Hp) (x y : V) (v u : Value) (Q : VK), Inv X pins σ H s → RelV x v → RelV y u → r x y H Q →
    wpAny (model X.prog X.w) X.A (f v u) (EP X pins σ Q) X.xe s
/-- a one-place operation -/
def UnR (X : Cx) (f : Value → Sem Value) (r : V → Hp → VK → Prop) : Prop :=
  ∀ (pins : List (Addr × Obj)) (s : Shared) (σ : St) (H : Hp) (x : V) (v : Value) (Q : VK), Inv X pins σ H s → RelV x v → r x H Q →
    wpAny (model X.prog X.w) X.A (f v) (EP X pins σ Q) X.xe s
/-- a call of a value that is known (a builtin, a type) with values -/
def CallR (X : Cx) (f : Value) (r : List V → Hp → VK → Prop) : Prop :=
  ∀ (pins : List (Addr × Obj)) (s : Shared) (σ : St) (H : Hp) (xs : List V) (us : List Value) (Q : VK), Inv X pins σ H s → Vals xs us → r xs H Q →
    wpAny (model X.prog X.w) X.A (call f us) (EP X pins σ Q) X.xe s
/-- a value's truth -/
def TruR (X : Cx) (r : V → Hp → (Bool → Hp → Prop) → Prop) : Prop :=
  ∀ (pins : List (Addr × Obj)) (s : Shared) (σ : St) (H : Hp) (x : V) (v : Value) (Q : Bool → Hp → Prop), Inv X pins σ H s → RelV x v → r x H Q →
    wpAny (model X.prog X.w) X.A (truthy v) (TP X pins σ Q) X.xe s

def tOp (r : R2) (ta tb : TE) : TE := fun σ H Q => ta σ H fun x H1 => tb σ H1 fun y H2 => r x y H2 Q
def tUn (r : V → Hp → VK → Prop) (ta : TE) : TE := fun σ H Q => ta σ H fun x H1 => r x H1 Q
/-- ints in, under C, and a value out -/
def rI (C : Int → Int → Prop) (g : Int → Int → V) : R2 := fun x y H Q => ∃ i j, x = .int i ∧ y = .int j ∧ C i j ∧ Q (g i j) H
def rI0 (g : Int → Int → V) : R2 := fun x y H Q => ∃ i j, x = .int i ∧ y = .int j ∧ Q (g i j) H
def rU (g : Int → V) : V → Hp → VK → Prop := fun x H Q => ∃ i, x = .int i ∧ Q (g i) H

section
variable {X : Cx} {a b c : Expr} {ta tb tc : TE} {pos : Pos}

theorem binT (ha : PE X a ta) (hb : PE X b tb) {pins : List (Addr × Obj)} {s : Shared} {σ : St} {H : Hp} {R : V → V → Hp → Prop} (I : Inv X pins σ H s)
    (h : ta σ H fun x H1 => tb σ H1 fun y H2 => R x y H2) {Q : Value → Shared → Prop} {f : Value → Value → Sem Value}
    (hf : ∀ v u s2 x y H2, Inv X pins σ H2 s2 → RelV x v → RelV y u → R x y H2 → wpAny (model X.prog X.w) X.A (f v u) Q X.xe s2) :
    wpAny (model X.prog X.w) X.A (eval a X.env) (fun v s₁ => wpAny (model X.prog X.w) X.A (eval b X.env) (fun u s₂ => wpAny (model X.prog X.w) X.A (f v u) Q X.xe s₂) X.xe s₁) X.xe s := by
  refine thn (ha pins s σ H _ I h) fun v s1 ⟨x, H1, I1, r1, q1⟩ => ?_
  refine thn (hb pins s1 σ H1 _ I1 q1) fun u s2 ⟨y, H2, I2, r2, q2⟩ => ?_
  exact hf v u s2 x y H2 I2 r1 r2 q2

theorem pe_op {op : Operator} {r : R2} (ho : OpR X (binaryOp op) r) (ha : PE X a ta) (hb : PE X b tb) : PE X (.BinOp a op b pos) (tOp r ta tb) := by
  intro pins s σ H Q I h
  exact wpAny_BinOp (binT ha hb I h fun v u s2 x y H2 I2 rx ry q => ho pins s2 σ H2 x y v u Q I2 rx ry q)
theorem pe_un {op : UnaryOp} {r : V → Hp → VK → Prop} (ho : UnR X (unaryOp op) r) (ha : PE X a ta) : PE X (.UnaryOp op a pos) (tUn r ta) := by
  intro pins s σ H Q I h
  exact UnaryOp_ (thn (ha pins s σ H _ I h) fun v s1 ⟨x, H1, I1, r1, q1⟩ => ho pins s1 σ H1 x v Q I1 r1 q1)
/-! ### ints -/
theorem opI {f : Value → Value → Sem Value} {C : Int → Int → Prop} {g : Int → Int → Int}
    (rule : ∀ (i j : Int) (t u : Tok) (s : Shared) (Q : Value → Shared → Prop) (E : Value → Shared → Prop), C i j → Q (.int (g i j) s.toks) { s with toks := s.toks + 1 } → wpAny (model X.prog X.w) X.A (f (.int i t) (.int j u)) Q E s) :
    OpR X f (rI C fun i j => .int (g i j)) := by
  intro pins s σ H x y v u Q I rx ry h
  obtain ⟨i, j, rfl, rfl, hc, q⟩ := h
  obtain ⟨t, rfl⟩ := rx
  obtain ⟨t', rfl⟩ := ry
  exact rule i j t t' s _ _ hc ⟨.int (g i j), H, I.tok _, ⟨_, rfl⟩, q⟩
theorem opI0 {f : Value → Value → Sem Value} {g : Int → Int → Int}
    (rule : ∀ (i j : Int) (t u : Tok) (s : Shared) (Q : Value → Shared → Prop) (E : Value → Shared → Prop), Q (.int (g i j) s.toks) { s with toks := s.toks + 1 } → wpAny (model X.prog X.w) X.A (f (.int i t) (.int j u)) Q E s) :
    OpR X f (rI0 fun i j => .int (g i j)) := by
  intro pins s σ H x y v u Q I rx ry h
  obtain ⟨i, j, rfl, rfl, q⟩ := h
  obtain ⟨t, rfl⟩ := rx
  obtain ⟨t', rfl⟩ := ry
  exact rule i j t t' s _ _ ⟨.int (g i j), H, I.tok _, ⟨_, rfl⟩, q⟩
theorem opB0 {f : Value → Value → Sem Value} {g : Int → Int → Bool}
    (rule : ∀ (i j : Int) (t u : Tok) (s : Shared) (Q : Value → Shared → Prop) (E : Value → Shared → Prop), Q (.bool (g i j)) s → wpAny (model X.prog X.w) X.A (f (.int i t) (.int j u)) Q E s) :
    OpR X f (rI0 fun i j => .bl (g i j)) := by
  intro pins s σ H x y v u Q I rx ry h
  obtain ⟨i, j, rfl, rfl, q⟩ := h
  obtain ⟨t, rfl⟩ := rx
  obtain ⟨t', rfl⟩ := ry
  exact rule i j t t' s _ _ ⟨.bl (g i j), H, I, rfl, q⟩

def CDiv (i j : Int) : Prop := 0 < j ∧ j < 1073741824
def CMul (i j : Int) : Prop := (-(2 ^ 64) < i ∧ i < 2 ^ 64) ∨ (-(2 ^ 64) < j ∧ j < 2 ^ 64)
theorem CMul.ok {i j : Int} (h : CMul i j) : IntMulOk i j := by
  rcases h with ⟨h1, h2⟩ | ⟨h1, h2⟩
  · exact .of_left (intBits_le_64 h1 h2)
  · exact .of_right (intBits_le_64 h1 h2)
theorem op_add : OpR X (binaryOp .Add) (rI0 fun i j => .int (i + j)) := opI0 fun _ _ _ _ _ _ _ q => add_int q
theorem op_sub : OpR X (binaryOp .Sub) (rI0 fun i j => .int (i - j)) := opI0 fun _ _ _ _ _ _ _ q => sub_int q
theorem op_mul : OpR X (binaryOp .Mult) (rI CMul fun i j => .int (i * j)) := opI fun _ _ _ _ _ _ _ hc q => mul_int q hc.ok
/-- // by a positive divisor -/
theorem op_fdiv : OpR X (binaryOp .FloorDiv) (rI CDiv fun i j => .int (i / j)) := opI fun i j _ _ _ _ _ hc q => by
  have h1 : (0 : Int) < j := hc.1
  have h2 : j < 1073741824 := hc.2
  exact floordiv_int (by omega) (by rw [Int.fdiv_eq_ediv_of_nonneg i (by omega)]; exact q) (.inl (PyProof.noPylong_small (by omega)))
/-- % by a positive divisor of any size -/
theorem op_mod : OpR X (binaryOp .Mod) (rI (fun _ j => 0 < j) fun i j => .int (i % j)) := opI fun i j _ _ _ _ _ hc q => by
  have h1 : (0 : Int) < j := hc
  exact mod_int' (by omega) (by rw [Int.fmod_eq_emod_of_nonneg i (by omega)]; exact q)
theorem unI {f : Value → Sem Value} {g : Int → Int}
    (rule : ∀ (i : Int) (t : Tok) (s : Shared) (Q : Value → Shared → Prop) (E : Value → Shared → Prop), Q (.int (g i) s.toks) { s with toks := s.toks + 1 } → wpAny (model X.prog X.w) X.A (f (.int i t)) Q E s) :
    UnR X f (rU fun i => .int (g i)) := by
  intro pins s σ H x v Q I rx h
  obtain ⟨i, rfl, q⟩ := h
  obtain ⟨t, rfl⟩ := rx
  exact rule i t s _ _ ⟨.int (g i), H, I.tok _, ⟨_, rfl⟩, q⟩
theorem un_neg : UnR X (unaryOp .USub) (rU fun i => .int (-i)) := unI fun _ _ _ _ _ q => neg_int q
/-! ### bools among ints: n += (a < b) -/
end

/-! ### comparisons -/
/-- the scalars that == tells apart as data does -/
def scal : V → V → Bool
  | .non, .non => true | .non, .int _ => true | .int _, .non => true | .non, .bl _ => true | .bl _, .non => true | .non, .str _ => true | .str _, .non => true
  | .int _, .int _ => true | .bl _, .bl _ => true | .str _, .str _ => true | .byt _, .byt _ => true
  | .int _, .str _ => true | .str _, .int _ => true | .bl _, .str _ => true | .str _, .bl _ => true
  | _, _ => false
def rEq : R2 := fun x y H Q => scal x y = true ∧ Q (.bl (decide (x = y))) H
def rNe : R2 := fun x y H Q => scal x y = true ∧ Q (.bl (!decide (x = y))) H

theorem dec_int {i j : Int} : decide (V.int i = V.int j) = (i == j) := by
  rw [Bool.eq_iff_iff]
  simp
theorem dec_bl {i j : Bool} : decide (V.bl i = V.bl j) = (i == j) := by
  rw [Bool.eq_iff_iff]
  simp
theorem dec_str {i j : Str} : decide (V.str i = V.str j) = (i == j) := by
  rw [Bool.eq_iff_iff]
  simp
theorem dec_byt {i j : Array UInt8} : decide (V.byt i = V.byt j) = (i.toList == j.toList) := by
  rw [Bool.eq_iff_iff]
  cases i
  cases j
  simp

section
variable {X : Cx} {a b c : Expr} {ta tb tc : TE} {pos : Pos}
theorem fin_bl {pins : List (Addr × Obj)} {σ : St} {H : Hp} {s : Shared} {Q : VK} {k k' : Bool} (I : Inv X pins σ H s) (q : Q (.bl k) H) (e : k = k') : EP X pins σ Q (.bool k') s := by
  subst e
  exact ⟨.bl k, H, I, rfl, q⟩
theorem op_eq : OpR X (compareOp .Eq) rEq := by
  intro pins s σ H x y v u Q I rx ry h
  obtain ⟨hs, q⟩ := h
  cases x with
  | non =>
    cases rx
    cases y with
    | non => cases ry; exact PySem.EqNone.eq_none_none (fin_bl I q (by simp))
    | bl j => cases ry; exact PySem.EqNone.eq_none_bool (fin_bl I q (by simp))
    | int j => obtain ⟨t', rfl⟩ := ry; exact PySem.EqNone.eq_none_int (fin_bl I q (by simp))
    | str j => obtain ⟨t', rfl⟩ := ry; exact PySem.EqNone.eq_none_str (fin_bl I q (by simp))
    | _ => exact absurd (show false = true from hs) Bool.false_ne_true
  | bl i =>
    cases rx
    cases y with
    | non => cases ry; exact PySem.EqNone.eq_bool_none (fin_bl I q (by simp))
    | bl j => cases ry; exact eq_bool (fin_bl I q dec_bl)
    | str j => obtain ⟨t', rfl⟩ := ry; exact PySem.EqMixed.eq_bool_str (fin_bl I q (by simp))
    | _ => exact absurd (show false = true from hs) Bool.false_ne_true
  | int i =>
    obtain ⟨t, rfl⟩ := rx
    cases y with
    | non => cases ry; exact PySem.EqNone.eq_int_none (fin_bl I q (by simp))
    | int j => obtain ⟨t', rfl⟩ := ry; exact eq_int (fin_bl I q dec_int)
    | str j => obtain ⟨t', rfl⟩ := ry; exact PySem.EqMixed.eq_int_str (fin_bl I q (by simp))
    | _ => exact absurd (show false = true from hs) Bool.false_ne_true
  | str i =>
    obtain ⟨t, rfl⟩ := rx
    cases y with
    | non => cases ry; exact PySem.EqNone.eq_str_none (fin_bl I q (by simp))
    | bl j => cases ry; exact PySem.EqMixed.eq_str_bool (fin_bl I q (by simp))
    | int j => obtain ⟨t', rfl⟩ := ry; exact PySem.EqMixed.eq_str_int (fin_bl I q (by simp))
    | str j => obtain ⟨t', rfl⟩ := ry; exact eq_str (fin_bl I q dec_str)
    | _ => exact absurd (show false = true from hs) Bool.false_ne_true
  | byt i =>
    obtain ⟨t, rfl⟩ := rx
    cases y with
    | byt j => obtain ⟨t', rfl⟩ := ry; exact PySem.W.eq_bytes (fin_bl I q dec_byt)
    | _ => exact absurd (show false = true from hs) Bool.false_ne_true
  | _ => cases y <;> exact absurd (show false = true from hs) Bool.false_ne_true
theorem op_ne : OpR X (compareOp .NotEq) rNe := by
  intro pins s σ H x y v u Q I rx ry h
  obtain ⟨hs, q⟩ := h
  cases x with
  | non =>
    cases rx
    cases y with
    | non => cases ry; exact PySem.EqNone.ne_none_none (fin_bl I q (by simp))
    | bl j => cases ry; exact PySem.EqNone.ne_none_bool (fin_bl I q (by simp))
    | int j => obtain ⟨t', rfl⟩ := ry; exact PySem.EqNone.ne_none_int (fin_bl I q (by simp))
    | str j => obtain ⟨t', rfl⟩ := ry; exact PySem.EqNone.ne_none_str (fin_bl I q (by simp))
    | _ => exact absurd (show false = true from hs) Bool.false_ne_true
  | bl i =>
    cases rx
    cases y with
    | non => cases ry; exact PySem.EqNone.ne_bool_none (fin_bl I q (by simp))
    | bl j => cases ry; exact ne_bool (fin_bl I q (congrArg not dec_bl))
    | str j => obtain ⟨t', rfl⟩ := ry; exact PySem.EqMixed.ne_bool_str (fin_bl I q (by simp))
    | _ => exact absurd (show false = true from hs) Bool.false_ne_true
  | int i =>
    obtain ⟨t, rfl⟩ := rx
    cases y with
    | non => cases ry; exact PySem.EqNone.ne_int_none (fin_bl I q (by simp))
    | int j => obtain ⟨t', rfl⟩ := ry; exact ne_int (fin_bl I q (congrArg not dec_int))
    | str j => obtain ⟨t', rfl⟩ := ry; exact PySem.EqMixed.ne_int_str (fin_bl I q (by simp))
    | _ => exact absurd (show false = true from hs) Bool.false_ne_true
  | str i =>
    obtain ⟨t, rfl⟩ := rx
    cases y with
    | non => cases ry; exact PySem.EqNone.ne_str_none (fin_bl I q (by simp))
    | bl j => cases ry; exact PySem.EqMixed.ne_str_bool (fin_bl I q (by simp))
    | int j => obtain ⟨t', rfl⟩ := ry; exact PySem.EqMixed.ne_str_int (fin_bl I q (by simp))
    | str j => obtain ⟨t', rfl⟩ := ry; exact ne_str (fin_bl I q (congrArg not dec_str))
    | _ => exact absurd (show false = true from hs) Bool.false_ne_true
  | byt i =>
    obtain ⟨t, rfl⟩ := rx
    cases y with
    | byt j => obtain ⟨t', rfl⟩ := ry; exact PySem.W.ne_bytes (fin_bl I q (congrArg not dec_byt))
    | _ => exact absurd (show false = true from hs) Bool.false_ne_true
  | _ => cases y <;> exact absurd (show false = true from hs) Bool.false_ne_true

theorem op_lt : OpR X (compareOp .Lt) (rI0 fun i j => .bl (decide (i < j))) := opB0 fun _ _ _ _ _ _ _ q => lt_int q
theorem op_le : OpR X (compareOp .LtE) (rI0 fun i j => .bl (decide (i ≤ j))) := opB0 fun _ _ _ _ _ _ _ q => le_int q
theorem op_gt : OpR X (compareOp .Gt) (rI0 fun i j => .bl (decide (j < i))) := opB0 fun _ _ _ _ _ _ _ q => gt_int q
theorem op_ge : OpR X (compareOp .GtE) (rI0 fun i j => .bl (decide (j ≤ i))) := opB0 fun _ _ _ _ _ _ _ q => ge_int q
/-- is None, is not None: the right side a value none -/
theorem op_isN : OpR X (compareOp .Is) (fun x y H Q => y = .non ∧ Q (.bl (decide (x = .non))) H) := by
  intro pins s σ H x y v u Q I rx ry h
  obtain ⟨rfl, q⟩ := h
  cases ry
  refine is_none_gen (fin_bl I q ?_)
  cases x <;> first
    | (cases rx; rfl)
    | (obtain ⟨t, rfl⟩ := rx; rfl)
theorem op_notN : OpR X (compareOp .IsNot) (fun x y H Q => y = .non ∧ Q (.bl (!decide (x = .non))) H) := by
  intro pins s σ H x y v u Q I rx ry h
  obtain ⟨rfl, q⟩ := h
  cases ry
  refine isnot_none_gen (fin_bl I q ?_)
  cases x <;> first
    | (cases rx; rfl)
    | (obtain ⟨t, rfl⟩ := rx; rfl)

/-- two rules for one operation: by cases -/
theorem OpR.or {f : Value → Value → Sem Value} {r r' : R2} (h : OpR X f r) (h' : OpR X f r') : OpR X f (fun x y H Q => r x y H Q ∨ r' x y H Q) := by
  intro pins s σ H x y v u Q I rx ry q
  rcases q with q | q
  · exact h pins s σ H x y v u Q I rx ry q
  · exact h' pins s σ H x y v u Q I rx ry q

theorem nomark (b : Expr) {op : CmpOp} (h : op ≠ .In := by decide) (h2 : op ≠ .NotIn := by decide) : behindInMarks op b = false := by
  have e1 : (op == CmpOp.In) = false := by cases op <;> first | rfl | exact absurd rfl h
  have e2 : (op == CmpOp.NotIn) = false := by cases op <;> first | rfl | exact absurd rfl h2
  cases b <;> simp [behindInMarks, e1, e2]
/-- a comparison as a value; hm: nomark b, or (for in, not in) by with_unfolding_all rfl -/
theorem pe_cmpR {op : CmpOp} {r : R2} (ho : OpR X (compareOp op) r) (ha : PE X a ta) (hb : PE X b tb) (hm : behindInMarks op b = false) : PE X (.Compare a [op] [b] pos) (tOp r ta tb) := by
  intro pins s σ H Q I h
  exact wpAny_Compare1 (binT ha hb I h fun v u s2 x y H2 I2 rx ry q => ho pins s2 σ H2 x y v u Q I2 rx ry q) hm
/-- a reading of a value as a test -/
def tTest (t : TE) : TT := fun σ H Q => t σ H fun x H' => ∃ k, x = .bl k ∧ Q k H'
theorem pt_cmpR {op : CmpOp} {r : R2} (ho : OpR X (compareOp op) r) (ha : PE X a ta) (hb : PE X b tb) (hm : behindInMarks op b = false) : PT X (.Compare a [op] [b] pos) (tTest (tOp r ta tb)) := by
  intro pins s σ H Q I h
  refine wpAny_isTrue_Compare1 (thn (ha pins s σ H _ I h) fun v s1 ⟨x, H1, I1, r1, q1⟩ => thn (hb pins s1 σ H1 _ I1 q1) fun u s2 ⟨y, H2, I2, r2, q2⟩ =>
    thn (ho pins s2 σ H2 x y v u _ I2 r1 r2 q2) fun c s3 ⟨z, H3, I3, r3, k, e, q3⟩ => ?_) hm
  subst e
  cases r3
  exact wpAny_truthy_bool ⟨H3, I3, q3⟩
/-- a op1 b op2 c -/
def tChain (r r' : R2) (ta tb tc : TE) : TE := fun σ H Q => ta σ H fun x H1 => tb σ H1 fun y H2 => r x y H2 fun z H3 => ∃ k, z = .bl k ∧
  (if k = true then tc σ H3 fun w' H4 => r' y w' H4 Q else Q (.bl false) H3)
theorem pe_chain {op op' : CmpOp} {r r' : R2} (ho : OpR X (compareOp op) r) (ho' : OpR X (compareOp op') r') (ha : PE X a ta) (hb : PE X b tb) (hc : PE X c tc)
    (hm : lastMarks [op, op'] [b, c] = false := by with_unfolding_all rfl) : PE X (.Compare a [op, op'] [b, c] pos) (tChain r r' ta tb tc) := by
  intro pins s σ H Q I h
  refine Compare_chain (thn (ha pins s σ H _ I h) fun v s1 ⟨x, H1, I1, r1, q1⟩ => chain_link (thn (hb pins s1 σ H1 _ I1 q1) fun u s2 ⟨y, H2, I2, r2, q2⟩ =>
    thn (ho pins s2 σ H2 x y v u _ I2 r1 r2 q2) fun d s3 ⟨z, H3, I3, r3, k, e, q3⟩ => ?_)) hm
  subst e
  cases r3
  refine wpAny_truthy_bool ?_
  cases k with
  | false => exact ite_ff ⟨.bl false, H3, I3, rfl, q3⟩
  | true => exact ite_tt (chain_last (thn (hc pins s3 σ H3 _ I3 q3) fun w' s4 ⟨z', H4, I4, r4, q4⟩ => ho' pins s4 σ H4 y z' u w' Q I4 r2 r4 q4))
theorem pt_chain {op op' : CmpOp} {r r' : R2} (ho : OpR X (compareOp op) r) (ho' : OpR X (compareOp op') r') (ha : PE X a ta) (hb : PE X b tb) (hc : PE X c tc)
    (hm : lastMarks [op, op'] [b, c] = false := by with_unfolding_all rfl) : PT X (.Compare a [op, op'] [b, c] pos) (tTest (tChain r r' ta tb tc)) := by
  intro pins s σ H Q I h
  refine isTrue_chain (thn (ha pins s σ H _ I h) fun v s1 ⟨x, H1, I1, r1, q1⟩ => test_link (thn (hb pins s1 σ H1 _ I1 q1) fun u s2 ⟨y, H2, I2, r2, q2⟩ =>
    thn (ho pins s2 σ H2 x y v u _ I2 r1 r2 q2) fun d s3 ⟨z, H3, I3, r3, k, e, q3⟩ => ?_)) hm
  subst e
  cases r3
  refine wpAny_truthy_bool ?_
  cases k with
  | false =>
    obtain ⟨k', e', q'⟩ := q3
    cases e'
    exact ite_ff ⟨H3, I3, q'⟩
  | true =>
    refine ite_tt (test_last (thn (hc pins s3 σ H3 _ I3 q3) fun w' s4 ⟨z', H4, I4, r4, q4⟩ => thn (ho' pins s4 σ H4 y z' u w' _ I4 r2 r4 q4) fun d' s5 ⟨z2, H5, I5, r5, k2, e2, q5⟩ => ?_))
    subst e2
    cases r5
    exact wpAny_truthy_bool ⟨H5, I5, q5⟩

/-! ### truth -/
/-- a value's truth by the abstract heap -/
def TruV (K : PySem.W.Frag) (x : V) (H : Hp) (k : Bool) : Prop :=
  match x with
  | .non => k = false
  | .bl b => k = b
  | .int i => k = (i != 0)
  | .str y => y.length ≤ sizeLine ∧ k = ((y.length : Int) != 0)
  | .byt y => y.size ≤ sizeLine ∧ k = ((y.size : Int) != 0)
  | .ref p => (∃ xs, SqL K H p xs ∧ k = !xs.isEmpty) ∨ (∃ xs, SqT K H p xs ∧ k = !xs.isEmpty) ∨ ∃ kvs, H p = some (.dK kvs) ∧ k = !kvs.isEmpty
  | _ => False
theorem isEmpty_kv {κ : Type} {kvs : List (κ × V)} {vs : List (κ × Value)} (r : KV kvs vs) : (!vs.isEmpty) = !kvs.isEmpty := by
  cases r <;> rfl
theorem isEmpty_of {xs : List V} {its : List Value} (r : Vals xs its) : (!its.toArray.isEmpty) = !xs.isEmpty := by
  cases r <;> simp
theorem line63 : (sizeLine : Nat) < 2 ^ 63 := by rw [sizeLine_eq]; decide
theorem tru_ok : TruR X (fun x H Q => ∃ k, TruV X.K x H k ∧ Q k H) := by
  intro pins s σ H x v Q I rx h
  obtain ⟨k, e, q⟩ := h
  have hl := line63
  have hs : sizeLine = 16777216 := sizeLine_eq
  cases x with
  | non =>
    cases rx
    have e' : k = false := e
    subst e'
    exact truthy_none ⟨H, I, q⟩
  | bl b =>
    cases rx
    have e' : k = b := e
    subst e'
    exact wpAny_truthy_bool ⟨H, I, q⟩
  | int i =>
    obtain ⟨t, rfl⟩ := rx
    have e' : k = (i != 0) := e
    subst e'
    exact PySem.P.truthy_int ⟨H, I, q⟩
  | str y =>
    obtain ⟨t, rfl⟩ := rx
    obtain ⟨hy, e'⟩ : y.length ≤ sizeLine ∧ k = ((y.length : Int) != 0) := e
    subst e'
    exact PySem.P.truthy_str (by omega) ⟨H, I.tok _, q⟩
  | byt y =>
    obtain ⟨t, rfl⟩ := rx
    obtain ⟨hy, e'⟩ : y.size ≤ sizeLine ∧ k = ((y.size : Int) != 0) := e
    subst e'
    exact PySem.W.truthy_bytes (by omega) ⟨H, I.tok _, q⟩
  | ref p =>
    cases rx
    have e' : (∃ xs, SqL X.K H p xs ∧ k = !xs.isEmpty) ∨ (∃ xs, SqT X.K H p xs ∧ k = !xs.isEmpty) ∨ ∃ kvs, H p = some (.dK kvs) ∧ k = !kvs.isEmpty := e
    rcases e' with ⟨xs, hx, e'⟩ | ⟨xs, hx, e'⟩ | ⟨kvs, hx, e'⟩
    · subst e'
      obtain ⟨its, r, pl, hz⟩ := I.list hx
      have hlen := r.length
      exact wpAny_truthy_list pl.isList (by simp only [List.size_toArray]; omega) ⟨H, I.tok _, by rw [isEmpty_of r]; exact q⟩
    · subst e'
      obtain ⟨its, r, pl, hz⟩ := I.tuple hx
      have hlen := r.length
      exact truthy_tuple pl (by simp only [List.size_toArray]; omega) ⟨H, I.tok _, by rw [isEmpty_of r]; exact q⟩
    · subst e'
      obtain ⟨hz, hS, vs, r, m⟩ : kvs.length ≤ sizeLine ∧ (p == sysModules) = false ∧ ∃ vs, KV kvs vs ∧ s.heap.DictOf (mixKind X.prog X.w) p vs := I.hok p _ hx
      have hlen : kvs.length = vs.length := Paired.length r
      exact wpAny_truthy_dict hS m (by omega) ⟨H, I.tok _, by rw [isEmpty_kv r]; exact q⟩
  | _ => exact (show False from e).elim
/-! ### strs and bytes -/
/-! ### scalar builtins, by CallR -/
theorem vals1 {x : V} {us : List Value} (r : Vals [x] us) : ∃ u, us = [u] ∧ RelV x u := by
  cases r with
  | cons r1 r2 => cases r2; exact ⟨_, rfl, r1⟩
theorem vals2 {x y : V} {us : List Value} (r : Vals [x, y] us) : ∃ u w', us = [u, w'] ∧ RelV x u ∧ RelV y w' := by
  cases r with
  | cons r1 r2 =>
    cases r2 with
    | cons r3 r4 => cases r4; exact ⟨_, _, rfl, r1, r3⟩
theorem call_max2 (hc : X.calm = true) : CallR X (.builtin "max") (fun xs H Q => ∃ i j, xs = [.int i, .int j] ∧ Q (.int (if j > i then j else i)) H) := by
  intro pins s σ H xs us Q I r h
  obtain ⟨i, j, rfl, q⟩ := h
  obtain ⟨u, w', rfl, ⟨t, rfl⟩, ⟨t', rfl⟩⟩ := vals2 r
  refine max_two_ints (I.ok.hd hc) fun h' tk k => ⟨_, H, I.kept k, ?_, q⟩
  by_cases hj : j > i
  · rw [if_pos hj, if_pos hj]; exact ⟨_, rfl⟩
  · rw [if_neg hj, if_neg hj]; exact ⟨_, rfl⟩
end
end L2

namespace L2
open PySem PySem.Spec PyProof.Rows

/-! ### an instance, its attributes a map -/
structure ObjM (h : Heap) (x dx C : Addr) (mA : Str → Option Value) : Prop where
  obj : h.get? x = some (PySem.W.instObj C dx)
  ns : h.Ns1 dx mA
  ne : dx ≠ x

theorem lookIn_ns {h : Heap} {dx : Addr} {mA : Str → Option Value} (n : h.Ns1 dx mA) : ∃ od, h.get? dx = some od ∧ ∀ name, PySem.W.lookIn name od = some (mA name) := by
  obtain ⟨o, es, ep, ho, hd, hk, _, hm⟩ := n
  refine ⟨o, ho, fun name => ?_⟩
  have e := hm name
  unfold nsFind findBy at e
  rw [← Array.find?_toList] at e
  unfold PySem.W.lookIn
  rw [hd]
  dsimp only
  split
  · rename_i y q
    rw [q] at e
    exact congrArg some e
  · rename_i q
    rw [q] at e
    have a : es.toList.any (·.refKey) = false := by
      rw [List.any_eq_false]
      intro y hy
      obtain ⟨z, t, hkey⟩ := hk y (Array.mem_toList_iff.mp hy)
      simp [DictEntry.refKey, hkey]
    have a' : ¬ es.toList.any (·.refKey) = true := by rw [a]; exact Bool.false_ne_true
    rw [if_neg a']
    exact congrArg some e

theorem ObjM.look {h : Heap} {x dx C : Addr} {mA : Str → Option Value} (I : ObjM h x dx C mA) : ∃ od, PySem.W.InstAt h x (PySem.W.instObj C dx) C (some od) ∧ ∀ name, PySem.W.lookIn name od = some (mA name) :=
  let ⟨od, ho, hl⟩ := lookIn_ns I.ns
  ⟨od, ⟨I.obj, rfl, rfl, ho⟩, hl⟩

section
variable {prog : Program} {w : World} {A : Around} {E : Value → Shared → Prop} {s : Shared} {K : PySem.W.Frag} {x dx C f : Addr} {mA : Str → Option Value} {name : Str} {v : Value}

theorem get_map {expr : Bool} {Q : Value → Shared → Prop} (X : K.In s.heap) (I : ObjM s.heap x dx C mA) (hg : PySem.W.plainGet K C name = true) (hh : PySem.W.hasDictIn K C = true)
    (ha : PySem.W.findIn K (.ref C) name = some none) (hv : mA name = some v) (hv' : PySem.W.handedIn v = true) (h : Q v { s with toks := s.toks + 1 }) :
    wpAny (model prog w) A (getAttr (.ref x) name expr) Q E s := by
  obtain ⟨od, J, hl⟩ := I.look
  exact PySem.W.get_value X J (PySem.W.plainGet_of hg).1 (PySem.W.findObj_own hh ha rfl (by rw [hl, hv])) hv' h

theorem get_meth {pl : Sem Bool} {Q : Value × List Value → Shared → Prop} (X : K.In s.heap) (I : ObjM s.heap x dx C mA) (hg : PySem.W.plainGet K C name = true)
    (hf : PySem.W.findIn K (.ref C) name = some (some (.ref f))) (ht : PySem.W.isFn K (.ref f) = true) (hv : mA name = none) (h : Q (.ref f, [.ref x]) s) :
    wpAny (model prog w) A (getMethod (.ref x) name pl) Q E s := by
  obtain ⟨od, J, hl⟩ := I.look
  exact PySem.W.method_fn X J (PySem.W.plainGet_of hg).1 (PySem.W.plainGet_of hg).2 hf (beq_iff_eq.mp ht) (by show (PySem.W.lookIn name od).map (·.isSome) = some false; rw [hl, hv]; rfl) h

theorem set_map {ns : List Str} {Q : Unit → Shared → Prop} (X : K.In s.heap) (I : ObjM s.heap x dx C mA)
    (hs : PySem.W.findIn K (.ref C) "__setattr__" = some (some (.builtin "object.__setattr__"))) (hp : PySem.W.plainOver K C = true) (ht : PySem.W.takerIn K C name = some none) (hh : PySem.W.hasDictIn K C = true)
    (hw : PySem.Within mA ns) (hsz : ns.length ≤ sizeLine)
    (h : ∀ h', ObjM h' x dx C (fun y => if y = name then some v else mA y) → Heap.SameBut dx s.heap h' → Q () { s with heap := h', toks := s.toks + 2 }) :
    wpAny (model prog w) A (setAttr (.ref x) name v) Q E s := by
  obtain ⟨od, J, hl⟩ := I.look
  refine PySem.W.set_plain X J hs (PySem.W.osa_open (s := { s with toks := s.toks + 1 }) (r := none) X J hp ht fun b => ?_)
  obtain ⟨cd, hc, hd'⟩ := PySem.W.any_some hh
  have hx : s.heap.get? x = some ⟨.ref C, some dx, .plain, #[]⟩ := I.obj
  refine wpAny_bind (wpAny_pure (wpAny_bind (wpAny_bind (wpAny_loadPart hx (wpAny_bind (PySem.W.Looks.here (s := { s with toks := s.toks + 1 }) (PySem.W.looks_clsIn X hc) ?_))))))
  rw [hd']
  refine wpAny_pure (a := some dx) (wpAny_bind (wpAny_pure (wpAny_bind ?_)))
  refine wpAny_nsSet1 (s := { s with toks := s.toks + 1 }) I.ns fun h' hn2 hs2 => ?_
  obtain ⟨oD, esD, epD, hoD, hdD, hcD⟩ := hn2.count (PySem.Within.cons name v hw)
  refine wpAny_bind (wpAny_lookBehind hoD (by rw [hdD]; exact pastItsLine_dict (Nat.le_trans hcD (by rw [List.length_cons]; omega))) ?_)
  exact wpAny_pure (h _ ⟨(hs2.2 _ (Ne.symm I.ne)).trans I.obj, hn2, I.ne⟩ hs2)

/-- C(..): the dict at the heap's end, the instance behind it; then its __init__ -/
theorem make_map {R : Result → Shared → Prop} {vs : List Value} {kw : List (Str × Value)} (X : K.In s.heap) (hm : PySem.W.makesIn K C = true)
    (hi : PySem.W.findIn K (.ref C) "__init__" = some (some (.ref f))) (hf : PySem.W.typeIn K (.ref f) = some (.type "function"))
    (h : codeAny (model prog w) (A.under (.builtin "type.__call__" ⟨.ref C :: vs, kw⟩)) (.call (.ref f) ⟨.ref (s.heap.objs.size + 1) :: vs, kw⟩) (PySem.W.InitBack (s.heap.objs.size + 1) R)
      { s with heap := (s.heap.push PySem.W.emptyDict).push (PySem.W.instObj C s.heap.objs.size) }) :
    codeAny (model prog w) A (.call (.ref C) ⟨vs, kw⟩) R s := by
  obtain ⟨hh, g, d, t, os⟩ := s
  exact PySem.W.make_core (PySem.W.makes_of X hm) (PySem.W.looks_findIn X hi) (fun self => PySem.W.bind_fn X self hf) (.inl rfl) h
end

/-! ### the attributes as a list of pairs -/
def putF (f : Str) (v : V) : List (Str × V) → List (Str × V)
  | [] => [(f, v)]
  | (g, x) :: r => if g = f then (g, v) :: r else (g, x) :: putF f v r
theorem lookup_putF (f g : Str) (v : V) : ∀ fs : List (Str × V), (putF f v fs).lookup g = if g = f then some v else fs.lookup g
  | [] => by
    show List.lookup g [(f, v)] = _
    by_cases h : g = f
    · have hb : (g == f) = true := beq_iff_eq.mpr h
      simp only [List.lookup, hb, if_pos h]
    · have hb : (g == f) = false := beq_eq_false_iff_ne.mpr h
      simp only [List.lookup, hb, if_neg h]
  | (k, x) :: r => by
    have ih := lookup_putF f g v r
    rw [show putF f v ((k, x) :: r) = (if k = f then (k, v) :: r else (k, x) :: putF f v r) from rfl]
    by_cases hk : k = f
    · rw [if_pos hk]
      by_cases h : g = k
      · have hb : (g == k) = true := beq_iff_eq.mpr h
        simp only [List.lookup, hb, if_pos (h.trans hk)]
      · have hb : (g == k) = false := beq_eq_false_iff_ne.mpr h
        simp only [List.lookup, hb, if_neg (fun e : g = f => h (e.trans hk.symm))]
    · rw [if_neg hk]
      by_cases h : g = k
      · have hb : (g == k) = true := beq_iff_eq.mpr h
        simp only [List.lookup, hb, if_neg (fun e : g = f => hk (h.symm.trans e))]
      · have hb : (g == k) = false := beq_eq_false_iff_ne.mpr h
        simp only [List.lookup, hb]
        exact ih
theorem keys_putF (f : Str) (v : V) : ∀ fs : List (Str × V), f ∈ (putF f v fs).map (·.1) ∧ ∀ g, g ∈ fs.map (·.1) → g ∈ (putF f v fs).map (·.1)
  | [] => ⟨by simp [putF], fun g h => by simp at h⟩
  | (k, x) :: r => by
    obtain ⟨i1, i2⟩ := keys_putF f v r
    rw [show putF f v ((k, x) :: r) = (if k = f then (k, v) :: r else (k, x) :: putF f v r) from rfl]
    by_cases hk : k = f
    · rw [if_pos hk]
      subst hk
      exact ⟨by simp, fun g h => by simpa using h⟩
    · rw [if_neg hk]
      refine ⟨?_, fun g h => ?_⟩
      · rw [List.map_cons]
        exact List.mem_cons_of_mem _ i1
      · rw [List.map_cons] at h ⊢
        rcases List.mem_cons.mp h with e | e
        · exact List.mem_cons.mpr (.inl e)
        · exact List.mem_cons_of_mem _ (i2 g e)
theorem length_putF (f : Str) (v : V) : ∀ fs : List (Str × V), (putF f v fs).length ≤ fs.length + 1
  | [] => by simp [putF]
  | (k, x) :: r => by
    have ih := length_putF f v r
    rw [show putF f v ((k, x) :: r) = (if k = f then (k, v) :: r else (k, x) :: putF f v r) from rfl]
    by_cases hk : k = f
    · rw [if_pos hk, List.length_cons, List.length_cons]; omega
    · rw [if_neg hk, List.length_cons, List.length_cons]; omega

theorem RelO.some_of {v : V} {o : Option Value} (r : RelO (some v) o) : ∃ u, o = some u ∧ RelV v u := by
  cases o with
  | none => exact (show False from r).elim
  | some u => exact ⟨u, rfl, r⟩
theorem RelO.none_of {o : Option Value} (r : RelO none o) : o = none := by
  cases o with
  | none => rfl
  | some u => exact (show False from r).elim
theorem handed_of {v : V} {u : Value} (r : RelV v u) : PySem.W.handedIn u = true := by
  cases v with
  | non => cases (show u = Value.none from r); rfl
  | bl b => cases (show u = Value.bool b from r); rfl
  | int i => obtain ⟨t, e⟩ := (show ∃ t, u = Value.int i t from r); cases e; rfl
  | str x => obtain ⟨t, e⟩ := (show ∃ t, u = Value.str x t from r); cases e; rfl
  | byt b => obtain ⟨t, e⟩ := (show ∃ t, u = Value.bytes b t from r); cases e; rfl
  | flt b => obtain ⟨t, e⟩ := (show ∃ t, u = Value.float b t from r); cases e; rfl
  | ref a => cases (show u = Value.ref a from r); rfl
  | ty n => cases (show u = Value.type n from r); rfl

section
variable {P : Program} {w : World} {H H' : Hp} {h h' : Heap} {a C dx : Addr} {fs fs' : List (Str × V)}
theorem ins_get (hok : HOk P w H h) (e : H a = some (.ins C dx fs)) : ∃ mA, ObjM h a dx C mA ∧ (∀ f, RelO (fs.lookup f) (mA f)) ∧ PySem.Within mA (fs.map (·.1)) ∧ fs.length ≤ 1000 ∧ H dx = some (.own a) := by
  obtain ⟨d, z, ne, ob, mA, n, r, q⟩ := (show ObjOk P w H h a (.ins C dx fs) from hok a _ e)
  exact ⟨mA, ⟨ob, n, ne⟩, r, q, z, d⟩
end

/-! ### what of the text a class must have -/
structure Cls (K : PySem.W.Frag) (C : Addr) : Prop where
  pg : PySem.W.plainGet K C Str.empty = true
  hd : PySem.W.hasDictIn K C = true
  po : PySem.W.plainOver K C = true
  sa : PySem.W.findIn K (.ref C) "__setattr__" = some (some (.builtin "object.__setattr__"))
theorem Cls.get {K : PySem.W.Frag} {C : Addr} (c : Cls K C) (f : Str) : PySem.W.plainGet K C f = true := c.pg
/-- no class of it has the name -/
def NoAttr (K : PySem.W.Frag) (C : Addr) (f : Str) : Prop := PySem.W.findIn K (.ref C) f = some none
theorem NoAttr.taker {K : PySem.W.Frag} {C : Addr} {f : Str} (n : NoAttr K C f) : PySem.W.takerIn K C f = some none := by
  unfold PySem.W.takerIn
  rw [show PySem.W.findIn K (.ref C) f = some none from n]
  rfl
/-- a constant of the class -/
structure Con (K : PySem.W.Frag) (C : Addr) (f : Str) (v : V) (u : Value) : Prop where
  at_ : PySem.W.findIn K (.ref C) f = some (some u)
  rel : RelV v u
  get : PySem.W.specialIn K u "__get__" = some none
  cp : PySem.W.copiedNames.contains f = false
/-- a method: a plain def of the class or of one above it -/
structure Meth (K : PySem.W.Frag) (C : Addr) (m : Str) (f : Addr) : Prop where
  at_ : PySem.W.findIn K (.ref C) m = some (some (.ref f))
  fn : PySem.W.isFn K (.ref f) = true
  kp : PySem.W.keepIn K (.ref f) = true

section
variable {X : Cx} {pins : List (Addr × Obj)} {σ : St} {H : Hp} {s : Shared} {a C dx : Addr} {fs : List (Str × V)} {f : Str} {v : V} {A : Around} {E : Value → Shared → Prop}

theorem getattr_ok {b : Bool} {Q : Value → Shared → Prop} (I : Inv X pins σ H s) (e : H a = some (.ins C dx fs)) (c : Cls X.K C) (n : NoAttr X.K C f) (l : fs.lookup f = some v)
    (h : ∀ u s', Inv X pins σ H s' → RelV v u → Q u s') : wpAny (model X.prog X.w) A (getAttr (.ref a) f b) Q E s := by
  obtain ⟨mA, O, r, _, _, _⟩ := ins_get I.hok e
  obtain ⟨u, hu, ru⟩ := RelO.some_of (v := v) (o := mA f) (by rw [← l]; exact r f)
  exact get_map I.kIn O (c.get f) c.hd n hu (handed_of ru) (h u _ (I.tok _) ru)

theorem getmeth_ok {m : Str} {g : Addr} {pl : Sem Bool} {Q : Value × List Value → Shared → Prop} (I : Inv X pins σ H s) (e : H a = some (.ins C dx fs)) (c : Cls X.K C) (k : Meth X.K C m g) (l : fs.lookup m = none)
    (h : Q (.ref g, [.ref a]) s) : wpAny (model X.prog X.w) A (getMethod (.ref a) m pl) Q E s := by
  obtain ⟨mA, O, r, _, _, _⟩ := ins_get I.hok e
  have hn : mA m = none := RelO.none_of (by rw [← l]; exact r m)
  exact get_meth I.kIn O (c.get m) k.at_ k.fn hn h

theorem setattr_ok {y : V} {u : Value} {Q : Unit → Shared → Prop} (I : Inv X pins σ H s) (e : H a = some (.ins C dx fs)) (c : Cls X.K C) (n : NoAttr X.K C f) (hl : fs.length < 1000) (ry : RelV y u)
    (h : ∀ s', Inv X pins σ (upd H a (.ins C dx (putF f y fs))) s' → Q () s') : wpAny (model X.prog X.w) A (setAttr (.ref a) f u) Q E s := by
  obtain ⟨mA, O, r, wi, _, ho⟩ := ins_get I.hok e
  have hz : (fs.map (·.1)).length ≤ sizeLine := by rw [List.length_map, sizeLine_eq]; omega
  refine set_map I.kIn O c.sa c.po n.taker c.hd wi hz fun h' O' sb => h _ ?_
  have hd : ∃ o, h'.get? dx = some o := let ⟨o, _, _, e', _⟩ := O'.ns; ⟨o, e'⟩
  refine I.write (x := a) (e := dx) (by rw [e]; exact True.intro) (.inr ho) (fun b q hb z => (sb.2 b hb).trans z) hd ?_
  refine ⟨by rw [upd_ne O.ne]; exact ho, ?_, O.ne, O'.obj, _, O'.ns, fun g => ?_, fun g hg => ?_⟩
  · have := length_putF f y fs; omega
  · show RelO ((putF f y fs).lookup g) (if g = f then some u else mA g)
    rw [lookup_putF]
    by_cases q : g = f
    · rw [if_pos q, if_pos q]; exact ry
    · rw [if_neg q, if_neg q]; exact r g
  · by_cases q : g = f
    · rw [q]; exact (keys_putF f y fs).1
    · refine (keys_putF f y fs).2 g (wi g fun z => hg ?_)
      show (if g = f then some u else mA g) = none
      rw [if_neg q]; exact z

/-- a new instance, tracked, without attributes -/
theorem Inv.made (I : Inv X pins σ H s) : Inv X pins σ (upd (upd H s.heap.objs.size (.own (s.heap.objs.size + 1))) (s.heap.objs.size + 1) (.ins C s.heap.objs.size []))
    { s with heap := (s.heap.push PySem.W.emptyDict).push (PySem.W.instObj C s.heap.objs.size) } := by
  have e1 : (s.heap.push PySem.W.emptyDict).get? s.heap.objs.size = some PySem.W.emptyDict := Heap.get?_push_size s.heap rfl
  have e2 : ((s.heap.push PySem.W.emptyDict).push (PySem.W.instObj C s.heap.objs.size)).get? (s.heap.objs.size + 1) = some (PySem.W.instObj C s.heap.objs.size) := by
    have := Heap.get?_push_size (s.heap.push PySem.W.emptyDict) (o := PySem.W.instObj C s.heap.objs.size) rfl
    rwa [Heap.size_push] at this
  have e3 : (s.heap.push PySem.W.emptyDict).Ns s.heap.objs.size (fun _ => none) := ⟨PySem.W.emptyDict, #[], _, e1, rfl, (fun e he => absurd he (by simp)), fun _ => rfl⟩
  have I1 := I.laid (a := s.heap.objs.size) (o := .own (s.heap.objs.size + 1)) (h' := s.heap.push PySem.W.emptyDict) (t' := s.toks) (fun b u q => Heap.get?_push_of_some _ q) (Nat.le_refl _) ⟨_, e1⟩
  refine I1.laid (a := s.heap.objs.size + 1) (o := .ins C s.heap.objs.size []) (t' := s.toks) (fun b u q => Heap.get?_push_of_some _ q) (Nat.le_of_eq (Heap.size_push _ _)) ?_
  have ne : s.heap.objs.size ≠ s.heap.objs.size + 1 := Nat.ne_of_lt (Nat.lt_succ_self _)
  refine ⟨by rw [upd_ne ne, upd_same], Nat.zero_le _, ne, e2, fun _ => none, (Heap.Ns1.of_empty e3).at fun o q => Heap.get?_push_of_some _ q, fun _ => True.intro, fun y hy => absurd rfl hy⟩

/-- e.f where nothing but the object is asked: through attributeBase (super) and the last hold -/
theorem attr_of {prog : Program} {w : World} {env : Env} {e : Expr} {f : Str} {pos : Pos} {s : Shared} {Q : Value → Shared → Prop} (hb : attributeBase e f env (eval e env) = eval e env)
    (h : wpAny (model prog w) A (eval e env) (fun o s₁ => wpAny (model prog w) A (getAttr o f true) Q E s₁) E s) : wpAny (model prog w) A (eval (.Attribute e f pos) env) Q E s :=
  Attribute_any_ h (by rw [arm_eval_Attribute, hb])
end

/-! ### readings and rules -/
/-- e.f, an attribute of the instance -/
def tFld (K : PySem.W.Frag) (ta : TE) (f : Str) : TE := fun σ H Q => ta σ H fun x H1 => ∃ a C dx fs v, x = .ref a ∧ H1 a = some (.ins C dx fs) ∧ Cls K C ∧ NoAttr K C f ∧ fs.lookup f = some v ∧ Q v H1
/-- e.f = value -/
def sFld (K : PySem.W.Frag) (ta tv : TE) (f : Str) : TS := fun D σ H => tv σ H fun y H1 => ta σ H1 fun x H2 => ∃ a C dx fs, x = .ref a ∧ H2 a = some (.ins C dx fs) ∧ Cls K C ∧ NoAttr K C f ∧ fs.length < 1000 ∧
  D.nx σ (upd H2 a (.ins C dx (putF f y fs)))
section
variable {X : Cx} {o e value : Expr} {f : Str} {pos pos' tpos : Pos} {ta tv : TE}
theorem pe_fld (he : PE X e ta) (hb : attributeBase e f X.env (eval e X.env) = eval e X.env) : PE X (.Attribute e f pos) (tFld X.K ta f) := by
  intro pins s σ H Q I h
  refine attr_of hb (thn (he pins s σ H _ I h) fun u s1 ⟨x, H1, I1, rx, a, C, dx, fs, v, ex, ea, c, n, l, q⟩ => ?_)
  subst ex
  obtain rfl : u = Value.ref a := rx
  exact getattr_ok I1 ea c n l fun u' s2 I2 ru => ⟨v, H1, I2, ru, q⟩
theorem ps_fld (ha : PE X o ta) (hv : PE X value tv) (hs : swapsWith value (some (.Attribute o f pos')) pos.line X.env = pure false) : PS X (.Assign [.Attribute o f pos'] value pos) (sFld X.K ta tv f) := by
  intro pins s σ H D I h
  refine plainObj_wpAny_Assign_Attribute (thn (hv pins s σ H _ I h) fun u s1 ⟨y, H1, I1, ry, q⟩ => thn (ha pins s1 σ H1 _ I1 q) fun ov s2 ⟨x, H2, I2, rx, a, C, dx, fs, ex, ea, c, n, l, q2⟩ => ?_) hs
  subst ex
  obtain rfl : ov = Value.ref a := rx
  exact setattr_ok I2 ea c n l ry fun s3 I3 => ⟨σ, _, I3, q2⟩
end

/-! ### isinstance -/
section
variable {X : Cx} {pins : List (Addr × Obj)} {σ : St} {H : Hp} {s : Shared} {A : Around} {E : Value → Shared → Prop} {Q : Value → Shared → Prop} {c : Value} {b : Bool}
/-- the type of a value, as the fragment's deciders take it; for an instance its class -/
inductive TyOf (K : PySem.W.Frag) (H : Hp) : V → Value → Prop where
  | non : TyOf K H .non (.type "NoneType")
  | bl (x : Bool) : TyOf K H (.bl x) (.type "bool")
  | int (i : Int) : TyOf K H (.int i) (.type "int")
  | str (x : Str) : TyOf K H (.str x) (.type "str")
  | flt (x : UInt64) : TyOf K H (.flt x) (.type "float")
  | lst {a : Addr} {xs : List V} (e : H a = some (.lst xs)) : TyOf K H (.ref a) (.type "list")
  | frz {a : Addr} {o : Obj} {xs : List V} (e : H a = some (.frz o (.lst xs))) : TyOf K H (.ref a) (.type "list")
  | tup {a : Addr} {xs : List V} (e : H a = some (.tup xs)) : TyOf K H (.ref a) (.type "tuple")
  | dK {a : Addr} {kvs : List (Key × V)} (e : H a = some (.dK kvs)) : TyOf K H (.ref a) (.type "dict")
  | dT {a : Addr} {kvs : List (List Key × V)} (e : H a = some (.dT kvs)) : TyOf K H (.ref a) (.type "dict")
  | ins {a C dx : Addr} {fs : List (Str × V)} (e : H a = some (.ins C dx fs)) (cl : Cls K C) (ha : PySem.W.findIn K (.ref C) "__class__" = some (some (.builtin "object.__class__")))
      (hn : PySem.W.specialIn K (.builtin "object.__class__") "__get__" = some (some (.builtin "getset_descriptor.__get__"))) (htk : PySem.W.takesIn K (.builtin "object.__class__") = some true)
      (hm : PySem.W.mroIn K C (.type "object") = some true) : TyOf K H (.ref a) (.ref C)
/-- isinstance(x, c) for one class c, a built-in or an own one: kitOne's answer -/
theorem isinst_ok {x : V} {u t : Value} (I : Inv X pins σ H s) (rx : RelV x u) (ty : TyOf X.K H x t) (e : PySem.W.kitOne X.K t c = some b) (h : ∀ tk, Q (.bool b) { s with toks := tk }) :
    wpAny (model X.prog X.w) A (call (.builtin "isinstance") [u, c]) Q E s := by
  cases ty with
  | non => cases (show u = Value.none from rx); exact PySem.W.kia_one PySem.W.kitx_none I.kIn True.intro e (fun z => nomatch z) h
  | bl y => cases (show u = Value.bool y from rx); exact PySem.W.kia_one PySem.W.kitx_bool I.kIn True.intro e (fun z => nomatch z) h
  | int i => obtain ⟨t, q⟩ := (show ∃ t, u = Value.int i t from rx); cases q; exact PySem.W.kia_one PySem.W.kitx_int I.kIn True.intro e (fun z => nomatch z) h
  | str y => obtain ⟨t, q⟩ := (show ∃ t, u = Value.str y t from rx); cases q; exact PySem.W.kia_one PySem.W.kitx_str I.kIn True.intro e (fun z => nomatch z) h
  | flt y => obtain ⟨t, q⟩ := (show ∃ t, u = Value.float y t from rx); cases q; exact PySem.W.kia_one PySem.W.kitx_float I.kIn True.intro e (fun z => nomatch z) h
  | @lst a xs ea =>
    cases (show u = Value.ref a from rx)
    obtain ⟨_, _, n, _, h1⟩ := (show ObjOk X.prog X.w H s.heap a (.lst xs) from I.hok a _ ea)
    exact PySem.W.kia_one PySem.W.kitx_list I.kIn ⟨_, h1, rfl⟩ e (fun z => nomatch z) h
  | @frz a ob xs ea =>
    cases (show u = Value.ref a from rx)
    obtain ⟨_, _, _, n, _, h1⟩ := (show ObjOk X.prog X.w H s.heap a (.frz ob (.lst xs)) from I.hok a _ ea)
    exact PySem.W.kia_one PySem.W.kitx_list I.kIn ⟨_, h1, rfl⟩ e (fun z => nomatch z) h
  | @tup a xs ea =>
    cases (show u = Value.ref a from rx)
    obtain ⟨_, _, _, p⟩ := (show ObjOk X.prog X.w H s.heap a (.tup xs) from I.hok a _ ea)
    obtain ⟨o, h1, h2, _⟩ := p
    exact PySem.W.kia_one PySem.W.kitx_tuple I.kIn ⟨o, h1, h2⟩ e (fun z => nomatch z) h
  | @dK a kvs ea =>
    cases (show u = Value.ref a from rx)
    obtain ⟨_, _, vs, _, p⟩ := (show ObjOk X.prog X.w H s.heap a (.dK kvs) from I.hok a _ ea)
    obtain ⟨o, es, ep, h1, h2, _⟩ := p
    exact PySem.W.kia_one PySem.W.kitx_dict I.kIn ⟨o, h1, h2.1⟩ e (fun z => nomatch z) h
  | @dT a kvs ea =>
    cases (show u = Value.ref a from rx)
    obtain ⟨_, _, xs, _, o, es, ep, h1, h2, _⟩ := (show ObjOk X.prog X.w H s.heap a (.dT kvs) from I.hok a _ ea)
    exact PySem.W.kia_one PySem.W.kitx_dict I.kIn ⟨o, h1, h2.1⟩ e (fun z => nomatch z) h
  | @ins a C dx fs ea cl ha hn htk hm =>
    cases (show u = Value.ref a from rx)
    obtain ⟨mA, O, _⟩ := ins_get I.hok ea
    obtain ⟨od, J, _⟩ := O.look
    exact PySem.W.kia_one (PySem.W.kitx_own (cl.get _) cl.hd ha hn htk hm) I.kIn J e (fun z => nomatch z) h
end
end L2

namespace L2
open PySem PySem.Spec PyProof.Rows

/-! ### room -/
structure Room (k : Nat) (A : Around) : Prop where
  hd : A.handled = none
  dp : A.depth + 3 * k + 5 < recursionLimit
  un : A.units + 16 * k + 200 < cLine
theorem Room.mono {j k : Nat} {A : Around} (r : Room k A) (h : j ≤ k) : Room j A := ⟨r.hd, by have := r.dp; omega, by have := r.un; omega⟩
theorem Room.deeper {k : Nat} {A : Around} (r : Room (k + 1) A) (env : Env) : Room k (A.deeper env) :=
  ⟨r.hd, by have := r.dp; show A.depth + 1 + 3 * k + 5 < _; omega, by have := r.un; show A.units + 3 + 16 * k + 200 < _; omega⟩
theorem Room.in1 {k : Nat} {A : Around} (r : Room (k + 1) A) : Room k A.in1 :=
  ⟨r.hd, by have := r.dp; show A.depth + 3 * k + 5 < _; omega, by have := r.un; show A.units + 1 + 16 * k + 200 < _; omega⟩
theorem make_depth {A : Around} {C : Addr} {us : List Value} {kw : List (Str × Value)} : (A.under (.builtin "type.__call__" ⟨.ref C :: us, kw⟩)).depth = A.depth + 1 := by
  first | rfl | simp [Around.under, Code.weight, Code.isCreation, Code.isGuard, Code.isCaller, Code.frames, Code.isFrame, guardIds]
theorem make_units {A : Around} {C : Addr} {us : List Value} {kw : List (Str × Value)} : (A.under (.builtin "type.__call__" ⟨.ref C :: us, kw⟩)).units = A.units + 1 := by
  first | rfl | simp [Around.under, Code.cUnits, Code.frames, Code.isFrame]
theorem Room.make {k : Nat} {A : Around} (r : Room (k + 1) A) (C : Addr) (us : List Value) (kw : List (Str × Value)) : Room k (A.under (.builtin "type.__call__" ⟨.ref C :: us, kw⟩)) :=
  ⟨r.hd, by have := r.dp; rw [make_depth]; omega, by have := r.un; rw [make_units]; omega⟩
theorem Room.depth {k : Nat} {A : Around} (r : Room k A) : A.depth < recursionLimit := by have := r.dp; omega
theorem Room.units {k : Nat} {A : Around} (r : Room k A) : A.units + 64 < cLine := by have := r.un; omega
/-! ### argument lists and displays -/
def tNil : TA := fun _ H Q => Q [] H
def tCons (ta : TE) (tr : TA) : TA := fun σ H Q => ta σ H fun x H1 => tr σ H1 fun xs H2 => Q (x :: xs) H2
section
variable {X : Cx} {e : Expr} {es : List Expr} {te : TE} {t : TA} {pos : Pos}
theorem pa_nil : PA X [] tNil := fun _ _ _ _ H Q I h => Calls.spliced_nil ⟨[], H, I, .nil, h⟩
theorem pa_cons (ha : PE X e te) (hr : PA X es t) (hs : starEach (e :: es) X.env = (false, eval e X.env) :: starEach es X.env := by rfl) : PA X (e :: es) (tCons te t) := by
  intro pos pins s σ H Q I h
  rw [hs]
  show wpAny _ _ (spliced ((false, eval e X.env) :: backTo pos (starEach es X.env))) _ _ s
  refine Calls.spliced_cons (thn (ha pins s σ H _ I h) fun u s1 ⟨x, H1, I1, r1, q1⟩ => ?_)
  exact thn (hr pos pins s1 σ H1 _ I1 q1) fun us s2 ⟨xs, H2, I2, r2, q2⟩ => ⟨x :: xs, H2, I2, .cons r1 r2, q2⟩

/-- a tuple, a list of written items -/
def tTup (t : TA) : TE := fun σ H Q => t σ H fun xs H1 => xs.length ≤ sizeLine ∧ ∀ p, H1 p = none → Q (.ref p) (upd H1 p (.tup xs))
def tLst (t : TA) : TE := fun σ H Q => t σ H fun xs H1 => xs.length ≤ sizeLine ∧ ∀ p, H1 p = none → Q (.ref p) (upd H1 p (.lst xs))
theorem pe_tup {x1} (h : PA X es t) : PE X (.Tuple es x1 pos) (tTup t) := by
  intro pins s σ H Q I hq
  refine wpAny_Tuple_spliced (thn (h pos pins s σ H _ I hq) fun us s1 ⟨xs, H1, I1, r, z, q⟩ => ⟨by rw [← r.length]; exact z, ?_⟩)
  have hf : H1 s1.heap.objs.size = none := I1.hok.fresh (Nat.le_refl _)
  refine ⟨.ref s1.heap.objs.size, upd H1 s1.heap.objs.size (.tup xs), I1.laid (t' := s1.toks) (fun b u e => Heap.get?_push_of_some _ e) (Nat.le_refl _) ?_, rfl, q _ hf⟩
  exact ⟨z, us, r, ⟨_, Heap.get?_push_size _ rfl, rfl, _, rfl⟩⟩
theorem pe_lst (h : PA X es t) : PE X (.List es pos) (tLst t) := by
  intro pins s σ H Q I hq
  refine wpAny_List_spliced (thn (h pos pins s σ H _ I hq) fun us s1 ⟨xs, H1, I1, r, z, q⟩ => ⟨by rw [← r.length]; exact z, ?_⟩)
  have hf : H1 s1.heap.objs.size = none := I1.hok.fresh (Nat.le_refl _)
  refine ⟨.ref s1.heap.objs.size, upd H1 s1.heap.objs.size (.lst xs), I1.laid (t' := s1.toks) (fun b u e => Heap.get?_push_of_some _ e) (Nat.le_refl _) ?_, rfl, q _ hf⟩
  exact ⟨z, us, 0, r, Heap.get?_push_size _ rfl⟩
end

/-! ### what a def promises -/
/-- a def's promise: the bound arguments in the parameters' order, the heap, the wanted end, the wanted exception -/
abbrev Sp := List V → Hp → VK → XK → Prop
/-- how an exception lies behind a call (file 08 gives it): the callers' frames, abstract heap and state ahead of the call, the wish, the exception, the state -/
abbrev CXT := List Env → Hp → Shared → XK → Value → Shared → Prop

/-- the state at a call -/
structure Env0 (P : Program) (w : World) (K : PySem.W.Frag) (mg : Str → Option Value) (base : Heap) (A : Around) (outer : List Env) (s : Shared) (H : Hp) : Prop where
  frames : A.frames = some outer
  mod : Mod K mg base
  bs : ∀ b o, base.get? b = some o → s.heap.get? b = some o ∧ H b = none
  bsz : base.objs.size ≤ s.heap.objs.size
  funs : s.heap.FunFrames base outer
  frf : ∀ b ∈ frs outer, H b = none
  hok : HOk P w H s.heap
  bare : AllBare s.gens
/-- a call's end -/
def CE (outer : List Env) (P : Program) (w : World) (H : Hp) (s : Shared) (Q : VK) (u : Value) (s' : Shared) : Prop :=
  ∃ v H', s'.os = s.os ∧ AllBare s'.gens ∧ Un (frs outer) [] H H' s.heap s'.heap ∧ HOk P w H' s'.heap ∧ RelV v u ∧ Q v H'
def CR (CX : CXT) (outer : List Env) (P : Program) (w : World) (H : Hp) (s : Shared) (Q : VK) (E : XK) (r : Result) (s' : Shared) : Prop :=
  match r with
  | .ok (.ret u) => CE outer P w H s Q u s'
  | .ok _ => False
  | .error e => CX outer H s E e s'
structure FnOk (P : Program) (w : World) (K : PySem.W.Frag) (mg : Str → Option Value) (base : Heap) (CX : CXT) (k : Nat) (f : Addr) (fd : FuncData) (ps : List Str) (sp : Sp) : Prop where
  len : ∀ vs H Q E, sp vs H Q E → vs.length = ps.length
  run : ∀ (A : Around) (outer : List Env) (s : Shared) (H : Hp) (args : Args) (us : List Value) (vs : List V) (Q : VK) (E : XK), Room k A → Env0 P w K mg base A outer s H → BindsTo s fd args (ps.zip us) → Vals vs us → sp vs H Q E →
    codeAny (model P w) A (.call (.ref f) args) (CR CX outer P w H s Q E) s
theorem FnOk.mono {P : Program} {w : World} {K : PySem.W.Frag} {mg : Str → Option Value} {base : Heap} {CX : CXT} {j k : Nat} {f : Addr} {fd : FuncData} {ps : List Str} {sp : Sp} (F : FnOk P w K mg base CX j f fd ps sp) (h : j ≤ k) :
    FnOk P w K mg base CX k f fd ps sp := ⟨F.len, fun A outer s H args us vs Q E hr => F.run A outer s H args us vs Q E (hr.mono h)⟩
/-- a weaker promise -/
theorem FnOk.imp {P : Program} {w : World} {K : PySem.W.Frag} {mg : Str → Option Value} {base : Heap} {CX : CXT} {k : Nat} {f : Addr} {fd : FuncData} {ps : List Str} {sp sp' : Sp} (F : FnOk P w K mg base CX k f fd ps sp)
    (h : ∀ vs H Q E, sp' vs H Q E → sp vs H Q E) : FnOk P w K mg base CX k f fd ps sp' :=
  ⟨fun vs H Q E q => F.len vs H Q E (h _ _ _ _ q), fun A outer s H args us vs Q E hr he hb hv hs => F.run A outer s H args us vs Q E hr he hb hv (h _ _ _ _ hs)⟩

theorem Env0.make {P : Program} {w : World} {K : PySem.W.Frag} {mg : Str → Option Value} {base : Heap} {A : Around} {outer : List Env} {s : Shared} {H : Hp} (e : Env0 P w K mg base A outer s H) (C : Addr) (us : List Value) (kw : List (Str × Value)) :
    Env0 P w K mg base (A.under (.builtin "type.__call__" ⟨.ref C :: us, kw⟩)) outer s H := ⟨by first | exact e.frames | (simpa [Around.under, Code.envs, Code.isFrame, pushEnvs] using e.frames), e.mod, e.bs, e.bsz, e.funs, e.frf, e.hok, e.bare⟩
theorem Env0.in1 {P : Program} {w : World} {K : PySem.W.Frag} {mg : Str → Option Value} {base : Heap} {A : Around} {outer : List Env} {s : Shared} {H : Hp} (e : Env0 P w K mg base A outer s H) :
    Env0 P w K mg base A.in1 outer s H := ⟨e.frames, e.mod, e.bs, e.bsz, e.funs, e.frf, e.hok, e.bare⟩

section
variable {X : Cx} {pins : List (Addr × Obj)} {σ : St} {H : Hp} {s s' : Shared}
/-- from a body: what a callee wants -/
theorem Inv.env0 (I : Inv X pins σ H s) : Env0 X.prog X.w X.K X.mg X.base X.A X.stack s H :=
  ⟨I.ok.frames, I.ok.mod, I.bs, Nat.le_trans I.ok.bsz I.sz, I.stack, I.stkFree, I.hok, I.bare⟩
/-- behind a call -/
theorem Inv.after {Q : VK} {u : Value} (I : Inv X pins σ H s) (h : CE X.stack X.prog X.w H s Q u s') : EP X pins σ Q u s' := by
  obtain ⟨v, H', os, bare, un, hok, r, q⟩ := h
  obtain ⟨hh, g, d, t, os'⟩ := s'
  obtain rfl : os' = s.os := os
  exact ⟨v, H', I.call (h' := hh) (g' := g) (d' := d) (t' := t) (ch := []) un hok bare (fun b z => absurd z (by simp)), r, q⟩
end

/-! ### calls -/
/-- f(..): the written arguments, then the defaults dvs; E: what is wanted of an exception -/
def tCall (sp : Sp) (dvs : List V) (E : XK) (t : TA) : TE := fun σ H Q => t σ H fun vs H1 => sp (vs ++ dvs) H1 Q E
/-- o.m(..) of an instance of the class at C -/
def tMeth (C : Addr) (m : Str) (sp : Sp) (dvs : List V) (E : XK) (ta : TE) (t : TA) : TE := fun σ H Q => ta σ H fun x H1 => ∃ a dx fs, x = .ref a ∧ H1 a = some (.ins C dx fs) ∧ fs.lookup m = none ∧
  t σ H1 fun vs H2 => sp (x :: (vs ++ dvs)) H2 Q E
/-- C(..): a new instance and its dict, then __init__ -/
def tMake (C : Addr) (sp : Sp) (dvs : List V) (E : XK) (t : TA) : TE := fun σ H Q => t σ H fun vs H1 => ∀ x dx, H1 x = none → H1 dx = none → dx ≠ x →
  sp (.ref x :: (vs ++ dvs)) (upd (upd H1 dx (.own x)) x (.ins C dx [])) (fun v H2 => v = .non ∧ Q (.ref x) H2) E

/-- how the parameters are bound: us the positional arguments, kw the keywords' values by name, ds the defaults that fill up -/
def Binds (K : PySem.W.Frag) (fd : FuncData) (ps : List Str) (ds : List Value) : Prop :=
  ∀ (s : Shared) (us : List Value), K.In s.heap → (us ++ ds).length = ps.length → BindsTo s fd ⟨us, []⟩ (ps.zip (us ++ ds))
/-- every parameter is given -/
theorem Binds.all {K : PySem.W.Frag} {fd : FuncData} {ps : List Str} (h : ∀ us : List Value, us.length = ps.length → bindArgs fd ⟨us, []⟩ = pure (ps.zip us)) : Binds K fd ps [] := fun s us _ hl => by
  rw [List.append_nil] at hl ⊢
  exact .of_eq (h us hl)

/-- an exception of a callee reaches what this body wants of exceptions -/
def Passes (CX : CXT) (X : Cx) (E : XK) : Prop := ∀ (pins : List (Addr × Obj)) (σ : St) (H : Hp) (s : Shared) (e : Value) (s' : Shared), Inv X pins σ H s → CX X.stack H s E e s' → X.xe e s'

section
variable {X : Cx} {CX : CXT} {k : Nat} {f C : Addr} {fd : FuncData} {ps : List Str} {sp : Sp} {dvs : List V} {ds : List Value} {E : XK} {x m : Str} {p pos apos : Pos} {e o : Expr} {es : List Expr} {ta : TE} {t : TA}

/-- the callee runs -/
theorem run_fn {pins : List (Addr × Obj)} {σ : St} {H : Hp} {s : Shared} {Q : VK} {us : List Value} {vs : List V} (F : FnOk X.prog X.w X.K X.mg X.base CX k f fd ps sp) (hr : Room k X.A) (hb : Binds X.K fd ps ds) (hd : Vals dvs ds) (hx : Passes CX X E)
    (I : Inv X pins σ H s) (r : Vals vs us) (h : sp (vs ++ dvs) H Q E) : wpAny (model X.prog X.w) X.A (call (.ref f) us) (EP X pins σ Q) X.xe s := by
  have r2 : Vals (vs ++ dvs) (us ++ ds) := r.append hd
  have hl : (us ++ ds).length = ps.length := by rw [← r2.length]; exact F.len _ _ _ _ h
  refine wpAny_call (codeAny_mono (F.run X.A X.stack s H ⟨us, []⟩ (us ++ ds) (vs ++ dvs) Q E hr I.env0 (hb s us I.kIn hl) r2 h) fun r s' hq => ?_)
  cases r with
  | error e => exact hx pins σ H s e s' I hq
  | ok fl =>
    cases fl with
    | ret u => exact I.after hq
    | next => exact False.elim hq
    | brk => exact False.elim hq
    | cont => exact False.elim hq

theorem pe_call (F : FnOk X.prog X.w X.K X.mg X.base CX k f fd ps sp) (hr : Room k X.A) (hg : Gl X x) (hm : X.mg x = some (.ref f)) (hk : PySem.W.keepIn X.K (.ref f) = true) (hb : Binds X.K fd ps ds) (hd : Vals dvs ds) (hx : Passes CX X E)
    (ha : PA X (e :: es) t) (hdb : (x == ("__debug__" : Str)) = false := by decide) (he : starEach (e :: es) X.env = (false, eval e X.env) :: starEach es X.env := by rfl) (hpl : (backTo pos (starEach es X.env)).any (·.1) = false := by rfl) :
    PE X (.Call (.Name x p) (e :: es) [] pos) (tCall sp dvs E t) := by
  intro pins s σ H Q I h
  refine wpAny_Call_Name_kw (ld_glob I hg hm ?_ hdb)
  refine PySem.W.callWith_K (h₀ := X.base) I.ok.mod.kin hk (thn (ha pos pins s σ H _ I h) fun us s1 ⟨vs, H1, I1, r, q⟩ => ⟨I1.kIn, ?_⟩) he hpl
  exact run_fn F hr hb hd hx I1 r q
/-- o.m(e, ..) -/
theorem pe_meth {pl : Sem Bool} (he : PE X o ta) (c : Cls X.K C) (hm : Meth X.K C m f) (F : FnOk X.prog X.w X.K X.mg X.base CX k f fd ps sp) (hr : Room k X.A) (hb : Binds X.K fd ps ds) (hd : Vals dvs ds) (hx : Passes CX X E) (ha : PA X (e :: es) t)
    (hst : starEach (e :: es) X.env = (false, eval e X.env) :: starEach es X.env := by rfl) (hpl : (backTo pos (starEach es X.env)).any (·.1) = false := by rfl)
    (ht : eval (.Call (.Attribute o m apos) (e :: es) [] pos) X.env = (do
      let ov ← eval o X.env
      standAt apos.atName
      let (f, first) ← holding [ov] (getMethod ov m pl)
      callWith pos f first (backTo pos (starEach (e :: es) X.env)) (backToKw pos (keywordEach [] X.env))) := by rfl) :
    PE X (.Call (.Attribute o m apos) (e :: es) [] pos) (tMeth C m sp dvs E ta t) := by
  intro pins s σ H Q I h
  refine PySem.W.methodCall_KW (pl := pl) (thn (he pins s σ H _ I h) fun u s1 ⟨x, H1, I1, rx, a, dx, fs, ex, ea, l, q⟩ => ?_) ht
  subst ex
  obtain rfl : u = Value.ref a := rx
  refine getmeth_ok I1 ea c hm l ?_
  refine PySem.W.callWith_K (first := [.ref a]) (h₀ := X.base) I.ok.mod.kin hm.kp (thn (ha pos pins s1 σ H1 _ I1 q) fun us s2 ⟨vs, H2, I2, r, q2⟩ => ⟨I2.kIn, ?_⟩) hst hpl
  exact run_fn (us := .ref a :: us) (vs := .ref a :: vs) F hr hb hd hx I2 (.cons rfl r) q2
/-- what a class must have to be made -/
structure Mk (K : PySem.W.Frag) (C f : Addr) : Prop where
  makes : PySem.W.makesIn K C = true
  init : PySem.W.findIn K (.ref C) "__init__" = some (some (.ref f))
  fn : PySem.W.isFn K (.ref f) = true
  kp : PySem.W.keepIn K (.ref C) = true

theorem run_make {pins : List (Addr × Obj)} {σ : St} {H : Hp} {s : Shared} {Q : VK} {us : List Value} {vs : List V} (M : Mk X.K C f) (F : FnOk X.prog X.w X.K X.mg X.base CX k f fd ps sp) (hr : Room (k + 1) X.A) (hb : Binds X.K fd ps ds) (hd : Vals dvs ds)
    (hx : Passes CX X E) (I : Inv X pins σ H s) (r : Vals vs us)
    (h : ∀ x dx, H x = none → H dx = none → dx ≠ x → sp (.ref x :: (vs ++ dvs)) (upd (upd H dx (.own x)) x (.ins C dx [])) (fun v H2 => v = .non ∧ Q (.ref x) H2) E) :
    wpAny (model X.prog X.w) X.A (call (.ref C) us) (EP X pins σ Q) X.xe s := by
  have hq := h (s.heap.objs.size + 1) s.heap.objs.size (I.hok.fresh (Nat.le_succ _)) (I.hok.fresh (Nat.le_refl _)) (Nat.ne_of_lt (Nat.lt_succ_self _))
  have I2 := Inv.made (C := C) I
  have r2 : Vals (V.ref (s.heap.objs.size + 1) :: (vs ++ dvs)) (Value.ref (s.heap.objs.size + 1) :: (us ++ ds)) := .cons rfl (r.append hd)
  have hl : (Value.ref (s.heap.objs.size + 1) :: us ++ ds).length = ps.length := by
    have e := r2.length
    rw [F.len _ _ _ _ hq] at e
    exact e.symm
  refine wpAny_call (make_map (f := f) I.kIn M.makes M.init (beq_iff_eq.mp M.fn) (codeAny_mono (F.run _ X.stack _ _ ⟨Value.ref (s.heap.objs.size + 1) :: us, []⟩ (Value.ref (s.heap.objs.size + 1) :: (us ++ ds)) _ _ E (hr.make C us [])
    (I2.env0.make C us []) (hb _ (Value.ref (s.heap.objs.size + 1) :: us) I2.kIn hl) r2 hq) fun r s' hq' => ?_))
  cases r with
  | error e => exact hx pins σ _ _ e s' I2 hq'
  | ok fl =>
    cases fl with
    | ret u =>
      obtain ⟨v, H', I3, rv, ev, q3⟩ := I2.after hq'
      subst ev
      exact ⟨rv, ⟨V.ref (s.heap.objs.size + 1), H', I3, rfl, q3⟩⟩
    | next => exact False.elim hq'
    | brk => exact False.elim hq'
    | cont => exact False.elim hq'
theorem pe_make (M : Mk X.K C f) (F : FnOk X.prog X.w X.K X.mg X.base CX k f fd ps sp) (hr : Room (k + 1) X.A) (hg : Gl X x) (hm : X.mg x = some (.ref C)) (hb : Binds X.K fd ps ds) (hd : Vals dvs ds) (hx : Passes CX X E)
    (ha : PA X (e :: es) t) (hdb : (x == ("__debug__" : Str)) = false := by decide) (he : starEach (e :: es) X.env = (false, eval e X.env) :: starEach es X.env := by rfl) (hpl : (backTo pos (starEach es X.env)).any (·.1) = false := by rfl) :
    PE X (.Call (.Name x p) (e :: es) [] pos) (tMake C sp dvs E t) := by
  intro pins s σ H Q I h
  refine wpAny_Call_Name_kw (ld_glob I hg hm ?_ hdb)
  refine PySem.W.callWith_K (h₀ := X.base) I.ok.mod.kin M.kp (thn (ha pos pins s σ H _ I h) fun us s1 ⟨vs, H1, I1, r, q⟩ => ⟨I1.kIn, ?_⟩) he hpl
  exact run_make M F hr hb hd hx I1 r q
theorem pe_make0 (M : Mk X.K C f) (F : FnOk X.prog X.w X.K X.mg X.base CX k f fd ps sp) (hr : Room (k + 1) X.A) (hg : Gl X x) (hm : X.mg x = some (.ref C)) (hb : Binds X.K fd ps ds) (hd : Vals dvs ds) (hx : Passes CX X E)
    (hdb : (x == ("__debug__" : Str)) = false := by decide) : PE X (.Call (.Name x p) [] [] pos) (tMake C sp dvs E tNil) := by
  intro pins s σ H Q I h
  refine wpAny_Call_Name_kw (ld_glob I hg hm ?_ hdb)
  exact PySem.W.callWith_K0 I.kIn M.kp (run_make (us := []) M F hr hb hd hx I .nil h)
end

/-! ### keywords -/
section
variable {X : Cx} {CX : CXT} {k : Nat} {f C : Addr} {fd : FuncData} {ps ks : List Str} {sp : Sp} {E : XK} {x m : Str} {p pos apos kpos : Pos} {e o : Expr} {es : List Expr} {kws : List Keyword} {te ta : TE} {t tk : TA} {nm : Option Str}
/-- how a call with keywords binds: g puts the positional values us and the keywords' values ws (names ks) in the parameters' order, defaults among them -/
structure KBinds (K : PySem.W.Frag) (fd : FuncData) (ps ks : List Str) (g : List Value → List Value → List Value) (gV : List V → List V → List V) : Prop where
  to : ∀ (s : Shared) (us ws : List Value), K.In s.heap → (g us ws).length = ps.length → BindsTo s fd ⟨us, ks.zip ws⟩ (ps.zip (g us ws))
  rel : ∀ {vs : List V} {us : List Value} {zs : List V} {ws : List Value}, Vals vs us → Vals zs ws → Vals (gV vs zs) (g us ws)
variable {g : List Value → List Value → List Value} {gV : List V → List V → List V}
end

/-! ### a def's body keeps its promise -/
/-- names: the parameters first -/
structure FnScope (N P : List Str) (sc : Scope) : Prop where
  kind : sc.kind = .function
  co : sc.isCoroutine = false
  gen : sc.isGenerator = false
  nd : N.Nodup
  pre : N.take P.length = P
  par : ∀ x ∈ P, sc.names.lookup x = some .local ∨ sc.names.lookup x = some .cell
  nofree : ∀ y ∈ sc.names, y.2 ≠ .free

theorem bindL_out {kindOf : Str → Option NameKind} {x : Str} : ∀ {binds : List (Str × Value)} {m : Str → Option Value}, (∀ v, (x, v) ∉ binds) → bindL kindOf binds m x = m x
  | [], _, _ => rfl
  | (n, v) :: r, m, h => by
    unfold bindL
    rw [bindL_out fun w hw => h w (List.mem_cons_of_mem _ hw)]
    split
    · have : x ≠ n := by rintro rfl; exact h v List.mem_cons_self
      simp [this]
    · rfl
theorem bindC_out {kindOf : Str → Option NameKind} {x : Str} : ∀ {binds : List (Str × Value)} {m : Str → Option Value}, (∀ v, (x, v) ∉ binds) → bindC kindOf binds m x = m x
  | [], _, _ => rfl
  | (n, v) :: r, m, h => by
    unfold bindC
    rw [bindC_out fun w hw => h w (List.mem_cons_of_mem _ hw)]
    split
    · rfl
    · have : x ≠ n := by rintro rfl; exact h v List.mem_cons_self
      simp [this]
theorem bindL_get {kindOf : Str → Option NameKind} {x : Str} {v : Value} : ∀ {P : List Str} {vs : List Value} {i : Nat} {m : Str → Option Value}, P.Nodup → P[i]? = some x → vs[i]? = some v → kindOf x = some .local →
    bindL kindOf (P.zip vs) m x = some v
  | [], _, _, _, _, h, _, _ => by simp at h
  | _ :: _, [], _, _, _, _, h, _ => by simp at h
  | p :: P, w :: vs, 0, m, nd, h1, h2, hk => by
    simp at h1 h2; subst h1; subst h2
    show bindL kindOf ((p, w) :: P.zip vs) m p = _
    unfold bindL
    rw [bindL_out fun v hv => (List.nodup_cons.mp nd).1 (List.of_mem_zip hv).1, if_pos hk]
    simp
  | p :: P, w :: vs, i + 1, m, nd, h1, h2, hk => by
    show bindL kindOf ((p, w) :: P.zip vs) m x = _
    unfold bindL
    exact bindL_get (i := i) (List.nodup_cons.mp nd).2 (by simpa using h1) (by simpa using h2) hk
theorem bindC_get {kindOf : Str → Option NameKind} {x : Str} {v : Value} : ∀ {P : List Str} {vs : List Value} {i : Nat} {m : Str → Option Value}, P.Nodup → P[i]? = some x → vs[i]? = some v → kindOf x ≠ some .local →
    bindC kindOf (P.zip vs) m x = some v
  | [], _, _, _, _, h, _, _ => by simp at h
  | _ :: _, [], _, _, _, _, h, _ => by simp at h
  | p :: P, w :: vs, 0, m, nd, h1, h2, hk => by
    simp at h1 h2; subst h1; subst h2
    show bindC kindOf ((p, w) :: P.zip vs) m p = _
    unfold bindC
    rw [bindC_out fun v hv => (List.nodup_cons.mp nd).1 (List.of_mem_zip hv).1, if_neg hk]
    simp
  | p :: P, w :: vs, i + 1, m, nd, h1, h2, hk => by
    show bindC kindOf ((p, w) :: P.zip vs) m x = _
    unfold bindC
    exact bindC_get (i := i) (List.nodup_cons.mp nd).2 (by simpa using h1) (by simpa using h2) hk

/-- the names' values at the entry -/
def start (N : List Str) (vs : List V) : St := vs.map some ++ List.replicate (N.length - vs.length) none

/-- the context of a def's body, at its entry; an exception leaves the frame, then lies as CX says -/
def cxOf (CX : CXT) (P : Program) (w : World) (K : PySem.W.Frag) (mg : Str → Option Value) (base : Heap) (N : List Str) (qual : Str) (scope : Scope) (f : Addr) (cd : Value) (A : Around) (outer : List Env) (s : Shared) (H : Hp) (E : XK) : Cx where
  prog := P
  w := w
  K := K
  mg := mg
  base := base
  A := A.deeper (envOfC qual scope s.heap.objs.size f cd)
  N := N
  s₀ := s
  H₀ := H
  env := envOfC qual scope s.heap.objs.size f cd
  outer := outer
  stack := envOfC qual scope s.heap.objs.size f cd :: outer
  ex := []
  calm := true
  fn := fun _ => true
  pn := []
  xe := fun e s' => wpAny (model P w) (A.deeper (envOfC qual scope s.heap.objs.size f cd)) (leaving (envOfC qual scope s.heap.objs.size f cd) e) (fun _ s'' => CX outer H s E e s'') (fun e' s'' => CX outer H s E e' s'') s'

theorem cell_has {sc : Scope} {n : Nat} {x : Str} (h : sc.names.lookup x = some .cell) : ∃ c, (cellsFrom n sc.names []).lookup x = some c := by
  have q := PySem.W.cellsFrom_some sc.names n [] (.inl h)
  exact Option.isSome_iff_exists.mp q

theorem inv_start {CX : CXT} {P : Program} {w : World} {K : PySem.W.Frag} {mg : Str → Option Value} {base : Heap} {N ps : List Str} {qual : Str} {scope : Scope} {f : Addr} {cd : Value} {A : Around} {outer : List Env} {s s1 : Shared} {H : Hp} {E : XK} {us : List Value} {vs : List V}
    (S : FnScope N ps scope) (hd : A.handled = none) (e0 : Env0 P w K mg base A outer s H) (hl : vs.length = ps.length) (r : Vals vs us)
    (x : InCallC s s.heap.objs.size (bindL (envOfC qual scope s.heap.objs.size f cd).kindOf (ps.zip us) fun _ => none) (cellsFrom (s.heap.objs.size + 1) scope.names []) (bindC (envOfC qual scope s.heap.objs.size f cd).kindOf (ps.zip us) fun _ => none) s1) :
    Inv (cxOf CX P w K mg base N qual scope f cd A outer s H E) [] (start N vs) H s1 := by
  have hpl : ps.length ≤ N.length := by have := congrArg List.length S.pre; rw [List.length_take] at this; omega
  obtain ⟨h1, tk, rfl, hk⟩ := x.done
  have noA : ∀ b : Addr, b ∉ (cxOf CX P w K mg base N qual scope f cd A outer s H E).ex := fun b z => absurd (show b ∈ ([] : List Addr) from z) (by simp)
  refine ⟨⟨e0.mod, S.kind, rfl, rfl, Nat.le_refl _, fun y z c h1 h2 => ?_, fun y hy => ?_, fun y c _ h => ?_, fun _ => hd, Around.frames_deeper e0.frames, .inr ⟨rfl, rfl⟩, fun b z => absurd z (noA b), e0.bs, e0.bsz, fun b _ _ => noA b, fun b z => absurd z (noA b), e0.funs, e0.frf⟩,
    rfl, e0.bare, Un.kept hk, ⟨_, x.toInCall.ns, fun i y v h1 h2 h3 => ?_⟩, fun y c h => ⟨_, x.cell y c h⟩, e0.hok.fresh (Nat.le_refl _), fun y c h => ?_, fun p hp => absurd (show p ∈ ([] : List (Addr × Obj)) from hp) (by simp), e0.hok.kept hk, ?_⟩
  · exact name_of_addr x.apart (PySem.mem_of_lookup h1) (PySem.mem_of_lookup h2)
  · have hy : scope.names.lookup y = some .cell ∨ scope.names.lookup y = some .free := hy
    rcases hy with hy | hy
    · exact cell_has hy
    · exact absurd rfl (S.nofree _ (PySem.mem_of_lookup hy))
  · exact Nat.le_of_lt (x.above y c (PySem.mem_of_lookup h))
  · have hi : i < vs.length := by
      unfold start at h2
      by_cases hi : i < vs.length
      · exact hi
      · rw [List.getElem?_append_right (by simpa using hi)] at h2
        rw [List.getElem?_replicate] at h2
        split at h2 <;> cases h2
    have ha : vs[i]? = some v := by
      unfold start at h2
      rw [List.getElem?_append_left (by simpa using hi), List.getElem?_map] at h2
      cases e : vs[i]? with
      | none => rw [e] at h2; cases h2
      | some a => rw [e] at h2; cases h2; rfl
    obtain ⟨u, hu, rv⟩ := r.get ha
    have hp : ps[i]? = some y := by
      rw [← S.pre, List.getElem?_take_of_lt (by omega)]; exact h1
    have ndP : ps.Nodup := by rw [← S.pre]; exact S.nd.sublist (List.take_sublist _ _)
    refine ⟨u, rv, ?_⟩
    rcases S.par y (List.mem_of_getElem? hp) with k | k
    · exact .inl ⟨k, bindL_get ndP hp hu k⟩
    · obtain ⟨c, e⟩ := cell_has (n := s.heap.objs.size + 1) k
      refine .inr ⟨.inl k, c, e, ?_⟩
      have q := x.cell y c e
      rw [bindC_get ndP hp hu (by show scope.names.lookup y ≠ _; rw [k]; decide)] at q
      exact q
  · exact e0.hok.fresh (Nat.le_of_lt (x.above y c (PySem.mem_of_lookup h)))
  · unfold start
    show _ = N.length
    rw [List.length_append, List.length_map, List.length_replicate]
    omega

/-- THE RULE: a def (or a method) of the text, by its body. The body's reading t is chosen for each entry; it is run at the parameters' values -/
theorem fn_of {CX : CXT} {P : Program} {w : World} {K : PySem.W.Frag} {mg : Str → Option Value} {base : Heap} {k : Nat} {f : Addr} {name qual : Str} {params : Arguments} {body : List Stmt} {scope : Scope} {dV kV doc pm cdv ct oc : Value} {an od : Option Addr}
    {osl : Array (Option Value)} {N ps : List Str} {sp : Sp} (lk : K.lookup f = some ⟨oc, od, .func (PySem.W.fnOf name qual params body scope dV kV doc pm an cdv ct), osl⟩) (hcd : PySem.W.codeIn K cdv qual = true) (S : FnScope N ps scope)
    (len : ∀ vs H Q E, sp vs H Q E → vs.length = ps.length)
    (hbody : ∀ (A : Around) (outer : List Env) (s : Shared) (H : Hp) (vs : List V) (Q : VK) (E : XK), Room k (A.deeper (envOfC qual scope s.heap.objs.size f cdv)) → sp vs H Q E →
      ∃ t, PSs (cxOf CX P w K mg base N qual scope f cdv A outer s H E) body t ∧ t { nx := fun _ H' => Q .non H', rt := Q } (start N vs) H) :
    FnOk P w K mg base CX (k + 1) f (PySem.W.fnOf name qual params body scope dV kV doc pm an cdv ct) ps sp := by
  refine ⟨len, fun A outer s H args us vs Q E hr e0 hb r hsp => ?_⟩
  have hl := len _ _ _ _ hsp
  have KX : K.In s.heap := e0.mod.kin.keeps fun b o e => (e0.bs b o e).1
  have lim : s.heap.NoLimit := e0.mod.nolimit.keeps fun b o e => (e0.bs b o e).1
  have hkind : ∀ y ∈ ps.zip us, scope.names.lookup y.1 = some .local ∨ (scope.names.lookup y.1 = some .cell ∧ ((cellsFrom (s.heap.objs.size + 1) scope.names []).lookup y.1).isSome = true) := fun ⟨n, v⟩ hy => by
    rcases S.par n (List.of_mem_zip hy).1 with q | q
    · exact .inl q
    · exact .inr ⟨q, PySem.W.cellsFrom_some _ _ _ (.inl q)⟩
  refine codeAny_call_function hr.depth (KX _ _ lk) rfl S.co S.gen rfl (PySem.W.codeRec_of KX hcd) (hb _ _ _ _ ?_)
  refine wpAny_newFunctionEnv_cells S.kind hkind fun env he s1 x => ?_
  subst he
  refine ⟨lim.keeps x.toInCall.keep, codeAny_func ?_⟩
  obtain ⟨t, ht, hq⟩ := hbody A outer s H vs Q E (hr.deeper _) hsp
  have I : Inv (cxOf CX P w K mg base N qual scope f cdv A outer s H E) [] (start N vs) H s1 := inv_start S hr.hd e0 hl r x
  refine wpAny_mono (ht [] s1 (start N vs) H _ I hq) (fun fl s' hs => ?_) fun e s' hs => hs
  have fin : ∀ {σ' : St} {H' : Hp} {v : V} {u : Value}, Inv (cxOf CX P w K mg base N qual scope f cdv A outer s H E) [] σ' H' s' → RelV v u → Q v H' → CE outer P w H s Q u s' :=
    fun {σ' H' v u} J rv q => ⟨v, H', J.os, J.bare, J.base, J.hok, rv, q⟩
  cases fl with
  | ret u =>
    obtain ⟨v, σ', H', J, rv, q⟩ := hs
    exact fin J rv q
  | next =>
    obtain ⟨σ', H', J, q⟩ := hs
    exact fin (v := V.non) (u := Value.none) J rfl q
  | brk =>
    obtain ⟨_, _, _, q⟩ := hs
    exact False.elim q
  | cont =>
    obtain ⟨_, _, _, q⟩ := hs
    exact False.elim q
end L2

namespace L2
open PySem PySem.Spec PyProof.Rows
section
variable {X : Cx} {x : Str} {p pos : Pos} {e : Expr} {es : List Expr} {t : TA} {id T : String} {r : List V → Hp → VK → Prop}

def tCB (r : List V → Hp → VK → Prop) (t : TA) : TE := fun σ H Q => t σ H fun vs H1 => r vs H1 Q
/-- f(e, ..), f a built-in function -/
theorem pe_callB (hc : CallR X (.builtin id) r) (hg : Gl X x) (hm : X.mg x = none) (hv : bootBuiltins x = some (.builtin id)) (ha : PA X (e :: es) t) (hn : x ≠ "__name__" := by decide) (hdb : (x == ("__debug__" : Str)) = false := by decide)
    (he : starEach (e :: es) X.env = (false, eval e X.env) :: starEach es X.env := by rfl) (hpl : (backTo pos (starEach es X.env)).any (·.1) = false := by rfl) : PE X (.Call (.Name x p) (e :: es) [] pos) (tCB r t) := by
  intro pins s σ H Q I h
  refine wpAny_Call_Name_kw (ld_blt I hg hm hv ?_ hn hdb)
  exact PyProof.Rows.callWith_builtin1 (thn (ha pos pins s σ H _ I h) fun us s1 ⟨vs, H1, I1, r1, q1⟩ => hc pins s1 σ H1 vs us Q I1 r1 q1) he hpl
end
end L2

namespace HT
open PySem PyProof.Rows

section
open PySem.SeqAt
open PySem.AutoSeq1 (wpAny_loadPart')
open PySem.MeetsSeq PySem.MeetsSeq2 PySem.MeetsSeq3

end

section
variable {prog : Program} {w : World} {A : Around} {E : Value → Shared → Prop} {s : Shared}

/-! ### t[a:b], not the whole -/
/-- a slice's bound as a place among n (d where it is left out) -/
def sIx (n d : Nat) : Option Int → Nat
  | none => d
  | some v => if v < 0 then (v + (n : Int)).toNat else min v.toNat n
theorem sIx_le (n d : Nat) (hd : d ≤ n) (o : Option Int) : sIx n d o ≤ n := by
  cases o with
  | none => exact hd
  | some v =>
    show (if v < 0 then (v + (n : Int)).toNat else min v.toNat n) ≤ n
    by_cases hv : v < 0
    · rw [if_pos hv]; omega
    · rw [if_neg hv]; exact Nat.min_le_right _ _
theorem clip_eq (v : Int) (n d : Nat) : (if v < 0 then max (v + (n : Int)) 0 else min v (n : Int)) = ((sIx n d (some v) : Nat) : Int) := by
  show (if v < 0 then max (v + (n : Int)) 0 else min v (n : Int)) = (((if v < 0 then (v + (n : Int)).toNat else min v.toNat n) : Nat) : Int)
  by_cases hv : v < 0
  · simp only [if_pos hv]; omega
  · simp only [if_neg hv]; omega
theorem adjust_gen (lo hi : Option Int) (n : Nat) : Builtin.Slice.sliceAdjust lo hi 1 (n : Int) = (((sIx n 0 lo : Nat) : Int), ((sIx n n hi : Nat) : Int)) := by
  have h1 : ¬ ((1 : Int) < 0) := by omega
  unfold Builtin.Slice.sliceAdjust
  simp only [h1, if_false]
  refine Prod.ext ?_ ?_
  · cases lo with
    | none => rfl
    | some v => exact clip_eq v n 0
  · cases hi with
    | none => rfl
    | some v => exact clip_eq v n n
theorem places_gen (i j : Nat) : Builtin.Slice.slicePlaces (i : Int) (j : Int) 1 = j - i := by
  unfold Builtin.Slice.slicePlaces
  have h1 : (1 : Int) > 0 := by omega
  simp only [h1, if_true, Int.ediv_one]
  split <;> omega
theorem slicePart_ {v : Value} {o : Option Int} {Q : Option Int → Shared → Prop} (p : IsPart v o) (h : Q o s) : wpAny (model prog w) A (Builtin.Slice.slicePartIndex v) Q E s := by
  cases p with
  | none => exact slicePart_none h
  | int i t => exact slicePart_int h
theorem sliceApplied_gen {sl : Addr} {vl vu : Value} {lo hi : Option Int} {n : Nat} {Q : Int × Int × Nat → Shared → Prop} (hs : s.heap.IsSliceOf sl vl vu .none) (pl : IsPart vl lo) (pu : IsPart vu hi)
    (h : Q (((sIx n 0 lo : Nat) : Int), 1, sIx n n hi - sIx n 0 lo) s) : wpAny (model prog w) A (Builtin.Slice.sliceApplied (.ref sl) (pure (n : Int))) Q E s := by
  obtain ⟨os, hos, hcs, hds⟩ := id hs
  unfold Builtin.Slice.sliceApplied Builtin.Slice.sliceFields
  refine wpAny_bind (wpAny_bind (wpAny_field hos hds (x := vl) rfl (wpAny_bind (wpAny_field hos hds (x := vu) rfl (wpAny_bind (wpAny_field hos hds (x := .none) rfl (wpAny_pure ?_)))))))
  refine wpAny_bind (slicePart_none ?_)
  show wpAny _ _ (if ((1 : Int) == 0) = true then _ else _) _ _ s
  rw [if_neg (by decide)]
  refine wpAny_bind (slicePart_ pl (wpAny_bind (slicePart_ pu (wpAny_bind (wpAny_pure ?_)))))
  show wpAny _ _ (match Builtin.Slice.sliceAdjust lo hi 1 (n : Int) with | (lo, hi) => pure (lo, (1 : Int), Builtin.Slice.slicePlaces lo hi 1)) _ _ s
  rw [adjust_gen lo hi n]
  show wpAny _ _ (pure (((sIx n 0 lo : Nat) : Int), (1 : Int), Builtin.Slice.slicePlaces ((sIx n 0 lo : Nat) : Int) ((sIx n n hi : Nat) : Int) 1)) _ _ s
  rw [places_gen]
  exact wpAny_pure h
theorem pick_gen (xs : Array Value) (i k : Nat) : ((List.range k).filterMap fun (m : Nat) => xs[((i : Int) + (m : Int) * 1).toNat]?).toArray = ((xs.toList.drop i).take k).toArray := by
  have e : (fun (m : Nat) => xs[((i : Int) + (m : Int) * 1).toNat]?) = fun m => xs[i + m]? := by
    funext m
    have : ((i : Int) + (m : Int) * 1).toNat = i + m := by omega
    rw [this]
  rw [e]
  have := pick_run xs i k
  rw [List.filterMap_map] at this
  have e2 : ((fun x => xs[x]?) ∘ fun x => i + x) = fun m => xs[i + m]? := rfl
  rw [e2] at this
  rw [this]

theorem getItem_tuple_cut {t sl : Addr} {items : Array Value} {vl vu : Value} {lo hi : Option Int} {Q : Value → Shared → Prop} (ht : IsTup s.heap t items) (hs : s.heap.IsSliceOf sl vl vu .none) (pl : IsPart vl lo) (pu : IsPart vu hi)
    (hw : ¬ (sIx items.size 0 lo = 0 ∧ sIx items.size items.size hi = items.size))
    (h : Q (.ref s.heap.objs.size) { s with heap := s.heap.push { cls := .type "tuple", data := .seq ((items.toList.drop (sIx items.size 0 lo)).take (sIx items.size items.size hi - sIx items.size 0 lo)).toArray } })
    (hsz : items.size ≤ sizeLine) : wpAny (model prog w) A (getItem (.ref t) (.ref sl)) Q E s := by
  have htake : sizeOk (.seq ((items.toList.drop (sIx items.size 0 lo)).take (sIx items.size items.size hi - sIx items.size 0 lo)).toArray) := by
    show ((items.toList.drop (sIx items.size 0 lo)).take (sIx items.size items.size hi - sIx items.size 0 lo)).toArray.size ≤ sizeLine
    rw [List.size_toArray, List.length_take, List.length_drop, Array.length_toList]
    omega
  have hj : sIx items.size items.size hi ≤ items.size := sIx_le _ _ (Nat.le_refl _) hi
  obtain ⟨os, hos, hcs, hds⟩ := id hs
  have hTs : s.TypeIs (.ref sl) "slice" := ⟨os, hos, hcs⟩
  unfold getItem
  try with_reducible refine wpAny_holding ?_
  first | refine wpAny_bind (wpAny_pure ?_) | skip
  refine wpAny_bind (wpAny_sequenceKey ht.typeIs (by decide) ?_)
  refine wpAny_bind (wpAny_callSpecial?_slot (name := Str.ofString "__getitem__") ht.typeIs PyProof.Rows.slot_tuple_getitem
    (wpAny_call_entry PyProof.Rows.slot_tuple_getitem ht.typeIs entry_tuple_getitem ?_ (args_tuple_getitem _ _)))
  show wpAny _ _ (Builtin.Tuple.tupleItemsOf (.ref t) >>= _) _ _ s
  refine wpAny_bind (tupleItemsOf_ ht ?_)
  refine wpAny_bind (wpAny_typeOf hTs ?_)
  rw [if_pos (by decide)]
  refine wpAny_bind (sliceApplied_gen hs pl pu ?_)
  have hno : ¬ ((((sIx items.size 0 lo : Nat) : Int) == 0 && (1 : Int) == 1 && (sIx items.size items.size hi - sIx items.size 0 lo) == items.size) = true) := by
    intro q
    rw [Bool.and_eq_true, Bool.and_eq_true] at q
    have q1 : ((sIx items.size 0 lo : Nat) : Int) = 0 := eq_of_beq q.1.1
    have q2 : sIx items.size items.size hi - sIx items.size 0 lo = items.size := eq_of_beq q.2
    exact hw ⟨by omega, by omega⟩
  show wpAny _ _ (if (((sIx items.size 0 lo : Nat) : Int) == 0 && (1 : Int) == 1 && (sIx items.size items.size hi - sIx items.size 0 lo) == items.size) = true then _ else _) _ _ s
  rw [if_neg hno, pick_gen]
  first
    | exact wpAny_bind (m := Builtin.Tuple.tupleExact _) (wpAny_newObj_type (wpAny_pure ⟨_, rfl, wpAny_pure h⟩) htake)
    | exact wpAny_bind (m := Builtin.Tuple.tupleExact _) (wpAny_newObj_type (wpAny_bind (wpAny_pure (wpAny_pure ⟨_, rfl, wpAny_pure h⟩))) htake)
    | exact wpAny_bind (wpAny_bind (m := Builtin.Tuple.tupleExact _) (wpAny_newObj_type (wpAny_pure (wpAny_pure ⟨_, rfl, wpAny_pure h⟩)) htake))
    | exact wpAny_bind (wpAny_bind (m := Builtin.Tuple.tupleExact _) (wpAny_newObj_type (wpAny_pure ⟨_, rfl, wpAny_pure h⟩) htake))
end
end HT

namespace L2
open PySem PySem.Spec PyProof.Rows

/-! ### the parts of a slice -/
abbrev TO := St → Hp → (Option Int → Hp → Prop) → Prop
/-- a slice's part (left out, or an int) -/
def PO (X : Cx) (e : Option Expr) (t : TO) : Prop :=
  ∀ (pins : List (Addr × Obj)) (s : Shared) (σ : St) (H : Hp) (Q : Option Int → Hp → Prop), Inv X pins σ H s → t σ H Q →
    wpAny (model X.prog X.w) X.A (evalPart e X.env) (fun u s' => ∃ o H', Inv X pins σ H' s' ∧ IsPart u o ∧ Q o H') X.xe s
def tNoPart : TO := fun _ H Q => Q none H
def tPart (t : TE) : TO := fun σ H Q => t σ H fun x H1 => ∃ i, x = .int i ∧ Q (some i) H1

section
variable {X : Cx} {e : Expr} {te : TE} {lo hi : Option Expr} {tl th : TO} {pos p2 : Pos}

theorem po_none : PO X none tNoPart := by
  intro pins s σ H Q I h
  rw [evalPart_none]
  exact wpAny_pure ⟨none, H, I, .none, h⟩
theorem po_some (h : PE X e te) : PO X (some e) (tPart te) := by
  intro pins s σ H Q I hw
  rw [evalPart_some]
  refine thn (h pins s σ H _ I hw) fun u s1 ⟨x, H1, I1, r1, q1⟩ => ?_
  obtain ⟨i, rfl, q⟩ := q1
  obtain ⟨t, rfl⟩ := r1
  exact ⟨some i, H1, I1, .int i t, q⟩

/-- what a slice of a value is, by values: the slice object stands at sl -/
def SlR (X : Cx) (r : V → Option Int → Option Int → Hp → VK → Prop) : Prop :=
  ∀ (pins : List (Addr × Obj)) (s : Shared) (σ : St) (H : Hp) (x : V) (v vl vu : Value) (lo hi : Option Int) (sl : Addr) (Q : VK), Inv X pins σ H s → RelV x v → s.heap.IsSliceOf sl vl vu .none → IsPart vl lo → IsPart vu hi → r x lo hi H Q →
    ∃ T id, typeLookup (.type T) "__getitem__" = pure (some (.builtin id)) ∧ s.TypeIs v T ∧ wpAny (model X.prog X.w) X.A (getItem v (.ref sl)) (EP X pins σ Q) X.xe s
theorem SlR.or {r r' : V → Option Int → Option Int → Hp → VK → Prop} (h : SlR X r) (h' : SlR X r') : SlR X (fun x lo hi H Q => r x lo hi H Q ∨ r' x lo hi H Q) := by
  intro pins s σ H x v vl vu lo hi sl Q I rx hs pl pu q
  rcases q with q | q
  · exact h pins s σ H x v vl vu lo hi sl Q I rx hs pl pu q
  · exact h' pins s σ H x v vl vu lo hi sl Q I rx hs pl pu q
def tSl (r : V → Option Int → Option Int → Hp → VK → Prop) (te : TE) (tl th : TO) : TE := fun σ H Q => te σ H fun x H1 => tl σ H1 fun l H2 => th σ H2 fun u H3 => r x l u H3 Q
/-- a[lo:hi], any a -/
theorem pe_slice {r : V → Option Int → Option Int → Hp → VK → Prop} (hr : SlR X r) (he : PE X e te) (hl : PO X lo tl) (hu : PO X hi th) : PE X (.Subscript e (.Slice lo hi none p2) pos) (tSl r te tl th) := by
  intro pins s σ H Q I h
  refine Subscript_ (thn (he pins s σ H _ I h) fun v s1 ⟨x, H1, I1, r1, q1⟩ => ?_)
  refine wpAny_Slice (thn (hl pins s1 σ H1 _ I1 q1) fun vl s2 ⟨l, H2, I2, pl, q2⟩ => thn (hu pins s2 σ H2 _ I2 q2) fun vu s3 ⟨u, H3, I3, pu, q3⟩ => ?_)
  rw [evalPart_none]
  refine wpAny_pure ?_
  have I4 : Inv X pins σ H3 { s3 with heap := s3.heap.push { cls := .type "slice", data := .fields #[vl, vu, .none] } } := I3.kept (t' := s3.toks) fun b ob q => Heap.get?_push_of_some _ q
  obtain ⟨T, id, hT, ht, hg⟩ := hr pins { s3 with heap := s3.heap.push { cls := .type "slice", data := .fields #[vl, vu, .none] } } σ H3 x v vl vu l u s3.heap.objs.size Q I4 r1 (Heap.IsSliceOf.new ..) pl pu q3
  show wpAny (model X.prog X.w) X.A (subscriptTail e (.Slice lo hi none p2) v (.ref s3.heap.objs.size)) (EP X pins σ Q) X.xe { s3 with heap := s3.heap.push { cls := .type "slice", data := .fields #[vl, vu, .none] } }
  exact tail_any (ops := [.ref s3.heap.objs.size, v]) ht hT hg (by with_unfolding_all rfl)

/-- the items of xs[lo:hi] -/
def cutV (xs : List V) (lo hi : Option Int) : List V := (xs.drop (HT.sIx xs.length 0 lo)).take (HT.sIx xs.length xs.length hi - HT.sIx xs.length 0 lo)
theorem cutV_length (xs : List V) (lo hi : Option Int) : (cutV xs lo hi).length ≤ xs.length := by
  unfold cutV
  rw [List.length_take, List.length_drop]
  omega
/-- t[lo:hi], not the whole of it (the whole would be t itself) -/
def rSlT (K : PySem.W.Frag) : V → Option Int → Option Int → Hp → VK → Prop := fun x lo hi H Q => ∃ a xs, x = .ref a ∧ SqT K H a xs ∧
  ¬ (HT.sIx xs.length 0 lo = 0 ∧ HT.sIx xs.length xs.length hi = xs.length) ∧ ∀ p, H p = none → Q (.ref p) (upd H p (.tup (cutV xs lo hi)))
theorem sl_tup : SlR X (rSlT X.K) := by
  intro pins s σ H x v vl vu lo hi sl Q I rx hs pl pu h
  obtain ⟨a, xs, rfl, hx, hw, q⟩ := h
  cases rx
  obtain ⟨its, r, ht, hz⟩ := I.tuple hx
  have hlen : its.toArray.size = xs.length := by rw [List.size_toArray]; exact r.length.symm
  refine ⟨"tuple", _, PyProof.Rows.slot_tuple_getitem.lookup, ht.typeIs, ?_⟩
  refine HT.getItem_tuple_cut ht hs pl pu (by rw [hlen]; exact hw) ?_ (by rw [hlen]; exact hz)
  rw [hlen]
  refine ⟨.ref s.heap.objs.size, _, I.laid (t' := s.toks) (o := .tup (cutV xs lo hi)) (fun b ob q => Heap.get?_push_of_some _ q) (Nat.le_refl _) ?_, rfl, q _ (I.hok.fresh (Nat.le_refl _))⟩
  exact ⟨Nat.le_trans (cutV_length xs lo hi) hz, _, (r.drop (HT.sIx xs.length 0 lo)).take (HT.sIx xs.length xs.length hi - HT.sIx xs.length 0 lo), IsTup.new _ _⟩

/-! ### t < u, t + u -/
end
end L2

namespace L2
open PySem PySem.Spec PyProof.Rows

/-! ### places -/
/-- the place that an index of any sign means -/
def ixN (n : Nat) (i : Int) : Option Nat := if 0 ≤ i then (if i < n then some i.toNat else none) else if -(n : Int) ≤ i then some (i + n).toNat else none
def atI {α : Type} (xs : List α) (i : Int) : Option α := (ixN xs.length i).bind fun j => xs[j]?
theorem ixN_seq {n : Nat} {i : Int} {j : Nat} (h : ixN n i = some j) : seqIndex? i n = some j ∧ j < n ∧ -(n : Int) ≤ i ∧ i < n := by
  unfold ixN at h
  by_cases h0 : 0 ≤ i
  · rw [if_pos h0] at h
    by_cases h1 : i < n
    · rw [if_pos h1] at h
      have e : i.toNat = j := Option.some.inj h
      exact ⟨by rw [seqIndex_of h0 h1, e], by omega, by omega, h1⟩
    · rw [if_neg h1] at h; cases h
  · rw [if_neg h0] at h
    by_cases h1 : -(n : Int) ≤ i
    · rw [if_pos h1] at h
      have e : (i + n).toNat = j := Option.some.inj h
      exact ⟨by rw [seqIndex_neg (by omega) h1, e], by omega, h1, by omega⟩
    · rw [if_neg h1] at h; cases h
theorem atI_get {α : Type} {xs : List α} {i : Int} {v : α} (h : atI xs i = some v) : ∃ j, seqIndex? i xs.length = some j ∧ xs[j]? = some v ∧ j < xs.length ∧ -(xs.length : Int) ≤ i ∧ i < xs.length := by
  unfold atI at h
  cases e : ixN xs.length i with
  | none => rw [e] at h; cases h
  | some j =>
    rw [e] at h
    obtain ⟨h1, h2, h3, h4⟩ := ixN_seq e
    exact ⟨j, h1, h, h2, h3, h4⟩
theorem atI_nat {α : Type} {xs : List α} {j : Nat} {v : α} (h : xs[j]? = some v) : atI xs (j : Int) = some v := by
  have hj : j < xs.length := (List.getElem?_eq_some_iff.mp h).1
  have e : ixN xs.length (j : Int) = some j := by
    unfold ixN
    rw [if_pos (by omega), if_pos (by omega)]; simp
  unfold atI; rw [e]; exact h
/-! ### what may be subscripted -/
/-- what stands as an index of a plain subscript -/
def PlainIx (b : Expr) : Prop := ∀ o i, subscripted b false o i = operate [o, i] (getItem o i)
/-- a subscript by values -/
def IxR (X : Cx) (r : R2) : Prop :=
  ∀ (value slice : Expr) (pins : List (Addr × Obj)) (s : Shared) (σ : St) (H : Hp) (x y : V) (v u : Value) (Q : VK), Inv X pins σ H s → RelV x v → RelV y u → r x y H Q →
    subscripted slice false v u = operate [v, u] (getItem v u) → wpAny (model X.prog X.w) X.A (subscriptTail value slice v u) (EP X pins σ Q) X.xe s
/-- a call of a builtin's method by values: the receiver, the arguments -/
def MtR (X : Cx) (id : String) (r : V → List V → Hp → VK → Prop) : Prop :=
  ∀ (pins : List (Addr × Obj)) (s : Shared) (σ : St) (H : Hp) (x : V) (xs : List V) (v : Value) (us : List Value) (Q : VK), Inv X pins σ H s → RelV x v → Vals xs us → r x xs H Q →
    wpAny (model X.prog X.w) X.A (call (.builtin id) (v :: us)) (EP X pins σ Q) X.xe s
section
variable {X : Cx} {a b : Expr} {ta tb : TE} {pos : Pos}
theorem IxR.or {r r' : R2} (h : IxR X r) (h' : IxR X r') : IxR X (fun x y H Q => r x y H Q ∨ r' x y H Q) := by
  intro value slice pins s σ H x y v u Q I rx ry q hs
  rcases q with q | q
  · exact h value slice pins s σ H x y v u Q I rx ry q hs
  · exact h' value slice pins s σ H x y v u Q I rx ry q hs
theorem MtR.or {id : String} {r r' : V → List V → Hp → VK → Prop} (h : MtR X id r) (h' : MtR X id r') : MtR X id (fun x xs H Q => r x xs H Q ∨ r' x xs H Q) := by
  intro pins s σ H x xs v us Q I rx rs q
  rcases q with q | q
  · exact h pins s σ H x xs v us Q I rx rs q
  · exact h' pins s σ H x xs v us Q I rx rs q
/-- a[b] -/
theorem pe_ix {r : R2} (hr : IxR X r) (ha : PE X a ta) (hb : PE X b tb) (hs : PlainIx b) : PE X (.Subscript a b pos) (tOp r ta tb) := by
  intro pins s σ H Q I h
  exact Subscript_ (binT ha hb I h fun v u s2 x y H2 I2 rx ry q => hr a b pins s2 σ H2 x y v u Q I2 rx ry q (hs _ _))

def rIxL (K : PySem.W.Frag) : R2 := fun x y H Q => ∃ p xs i v, x = .ref p ∧ y = .int i ∧ SqL K H p xs ∧ atI xs i = some v ∧ Q v H
def rIxT (K : PySem.W.Frag) : R2 := fun x y H Q => ∃ p xs i v, x = .ref p ∧ y = .int i ∧ SqT K H p xs ∧ atI xs i = some v ∧ Q v H
theorem ix_list : IxR X (rIxL X.K) := by
  intro value slice pins s σ H x y v u Q I rx ry h hs
  obtain ⟨p, xs, i, z, rfl, rfl, hq, he, q⟩ := h
  cases rx
  obtain ⟨t, rfl⟩ := ry
  obtain ⟨its, r, pl, hz⟩ := I.list hq
  obtain ⟨j, h1, h2, h3, h4, h5⟩ := atI_get he
  obtain ⟨w, ew, rw'⟩ := r.get h2
  have hl := r.length
  have hn := line63
  have fin : EP X pins σ Q w s := ⟨z, H, I, rw', q⟩
  by_cases h0 : 0 ≤ i
  · have hj : i.toNat = j := by
      rw [seqIndex_of h0 h5] at h1
      exact Option.some.inj h1
    exact item_listR pl.isList h0 (by omega) (by rw [hj]; simpa using ew) fin hs
  · have hj : (i + (its.toArray.size : Int)).toNat = j := by
      rw [seqIndex_neg (by omega) h4] at h1
      rw [List.size_toArray, ← hl]
      exact Option.some.inj h1
    exact subscriptTail_builtinR (x := w) pl.isList.typeIs slot_list_getitem.lookup
      (wpAny_getItem_list_neg (Q := fun r s' => r = w ∧ EP X pins σ Q r s') pl.isList (by omega) (by rw [List.size_toArray] <;> omega) (by omega) (by rw [hj]; simpa using ew) ⟨rfl, fin⟩) hs
theorem ix_tup : IxR X (rIxT X.K) := by
  intro value slice pins s σ H x y v u Q I rx ry h hs
  obtain ⟨p, xs, i, z, rfl, rfl, hq, he, q⟩ := h
  cases rx
  obtain ⟨t, rfl⟩ := ry
  obtain ⟨its, r, pl, hz⟩ := I.tuple hq
  obtain ⟨j, h1, h2, h3, h4, h5⟩ := atI_get he
  obtain ⟨w, ew, rw'⟩ := r.get h2
  have hl := r.length
  have hn := line63
  have fin : EP X pins σ Q w s := ⟨z, H, I, rw', q⟩
  exact subscriptTail_builtinR (x := w) pl.typeIs slot_tuple_getitem.lookup
    (getItem_tuple (j := j) (Q := fun r s' => r = w ∧ EP X pins σ Q r s') pl (by omega) (by omega) (by rw [List.size_toArray, ← hl]; exact h1) (by simpa using ew) ⟨rfl, fin⟩) hs
/-! ### xs[i] = v, any sign -/
/-- the list's object behind a store -/
theorem mapSeq_set (its : List Value) (n j : Nat) (u : Value) : Obj.mapSeq (·.setIfInBounds j u) { cls := .type "list", data := .seq its.toArray n } = { cls := .type "list", data := .seq (its.set j u).toArray n } := by
  simp [Obj.mapSeq]
theorem Inv.lst {pins : List (Addr × Obj)} {σ : St} {H : Hp} {s : Shared} {p : Addr} {xs : List V} (I : Inv X pins σ H s) (h : H p = some (.lst xs)) :
    ∃ (its : List Value) (n : Nat), Vals xs its ∧ s.heap.get? p = some { cls := .type "list", data := .seq its.toArray n } ∧ xs.length ≤ sizeLine := by
  obtain ⟨z, its, n, r, e⟩ := I.hok p _ h
  exact ⟨its, n, r, e, z⟩
/-- the list at p is written by an update of its object -/
theorem Inv.lstUpd {pins : List (Addr × Obj)} {σ : St} {H : Hp} {s : Shared} {p : Addr} {xs ys : List V} {its its' : List Value} {n n' : Nat} {f : Obj → Obj} (I : Inv X pins σ H s) (h : H p = some (.lst xs))
    (ho : s.heap.get? p = some { cls := .type "list", data := .seq its.toArray n }) (hf : f { cls := .type "list", data := .seq its.toArray n } = { cls := .type "list", data := .seq its'.toArray n' }) (r : Vals ys its') (hz : ys.length ≤ sizeLine) (t : Nat) :
    Inv X pins σ (upd H p (.lst ys)) { s with heap := s.heap.update p f, toks := t } := by
  have e : (s.heap.update p f).get? p = some { cls := .type "list", data := .seq its'.toArray n' } := by
    rw [Heap.get?_update_self f ho (by rw [hf] <;> rfl), hf]
  refine I.write (x := p) (e := p) (by rw [h]; trivial) (.inl rfl) (fun b u hb q => (Heap.get?_update_other _ _ (Ne.symm hb)).trans q) ⟨_, e⟩ ?_
  exact ⟨hz, its', n', r, e⟩
def rSetL : V → V → V → Hp → (Hp → Prop) → Prop := fun o i v H Q => ∃ p xs k j, o = .ref p ∧ i = .int k ∧ H p = some (.lst xs) ∧ ixN xs.length k = some j ∧ Q (upd H p (.lst (xs.set j v)))
theorem set_list : PSet X rSetL := by
  intro pins s σ H o i v ov iv u Q I ro ri rv h
  obtain ⟨p, xs, k, j, rfl, rfl, hp, hj, q⟩ := h
  cases ro
  obtain ⟨t, rfl⟩ := ri
  obtain ⟨its, n, r, ho, hz⟩ := I.lst hp
  obtain ⟨h1, h2, h3, h4⟩ := ixN_seq hj
  have hl := r.length
  have hn := line63
  have I' : Inv X pins σ (upd H p (.lst (xs.set j v))) { s with heap := s.heap.update p (Obj.mapSeq (·.setIfInBounds j u)) } :=
    I.lstUpd hp ho (mapSeq_set its n j u) (r.set rv j) (by rw [List.length_set]; exact hz) s.toks
  by_cases h0 : 0 ≤ k
  · have hk : k.toNat = j := by
      rw [seqIndex_of h0 h4] at h1
      exact Option.some.inj h1
    exact PySem.W.ki_setAt ho h0 (by omega) (by rw [List.size_toArray, ← hl]; exact h4) (by rw [hk]; exact ⟨_, I', q⟩)
  · have hk : (k + (its.toArray.size : Int)).toNat = j := by
      rw [seqIndex_neg (by omega) h3] at h1
      rw [List.size_toArray, ← hl]
      exact Option.some.inj h1
    exact PySem.W.ki_setBack ho (by omega) (by rw [List.size_toArray, ← hl]; exact h3) (by omega) (by rw [hk]; exact ⟨_, I', q⟩)

/-! ### slices -/
theorem slice_bounds (lo hi : Option Int) (n : Nat) : (sliceBounds lo hi none n).1 = ((HT.sIx n 0 lo : Nat) : Int) ∧ (sliceBounds lo hi none n).2.1 = ((HT.sIx n n hi : Nat) : Int) ∧ (sliceBounds lo hi none n).2.2 = 1 := by
  refine ⟨?_, ?_, rfl⟩
  · cases lo with
    | none => simp [sliceBounds, HT.sIx]
    | some i =>
      simp only [sliceBounds, HT.sIx, Option.getD_none, show (1 : Int) > 0 by decide, if_true]
      by_cases h : i < 0
      · simp only [h, if_true] <;> omega
      · simp only [h, if_false] <;> omega
  · cases hi with
    | none => simp [sliceBounds, HT.sIx]
    | some i =>
      simp only [sliceBounds, HT.sIx, Option.getD_none, show (1 : Int) > 0 by decide, if_true]
      by_cases h : i < 0
      · simp only [h, if_true] <;> omega
      · simp only [h, if_false] <;> omega
theorem slicePick_cut (its : List Value) (lo hi : Option Int) : slicePick its.toArray lo hi none = ((its.drop (HT.sIx its.length 0 lo)).take (HT.sIx its.length its.length hi - HT.sIx its.length 0 lo)).toArray := by
  obtain ⟨h1, h2, h3⟩ := slice_bounds lo hi its.toArray.size
  unfold slicePick
  rw [h1, h2, h3]
  simp only [sliceRange_one, pick_run, List.size_toArray] <;> rfl
/-- xs[lo:hi] of a list: a new list -/
def rSlL (K : PySem.W.Frag) : V → Option Int → Option Int → Hp → VK → Prop := fun x lo hi H Q => ∃ a xs, x = .ref a ∧ SqL K H a xs ∧ ∀ p, H p = none → Q (.ref p) (upd H p (.lst (cutV xs lo hi)))
theorem sl_list : SlR X (rSlL X.K) := by
  intro pins s σ H x v vl vu lo hi sl Q I rx hs pl pu h
  obtain ⟨a, xs, rfl, hx, q⟩ := h
  cases rx
  obtain ⟨its, r, ht, hz⟩ := I.list hx
  have hlen := r.length
  refine ⟨"list", _, slot_list_getitem.lookup, ht.isList.typeIs, ?_⟩
  refine wpAny_getItem_list_slice ht.isList hs pl pu .none (by simp) ?_ (by rw [List.size_toArray] <;> omega)
  rw [slicePick_cut, ← hlen]
  refine ⟨.ref s.heap.objs.size, _, I.laid (t' := s.toks) (o := .lst (cutV xs lo hi)) (fun b ob q => Heap.get?_push_of_some _ q) (Nat.le_refl _) ?_, rfl, q _ (I.hok.fresh (Nat.le_refl _))⟩
  exact ⟨Nat.le_trans (cutV_length xs lo hi) hz, _, 0, (r.drop (HT.sIx xs.length 0 lo)).take (HT.sIx xs.length xs.length hi - HT.sIx xs.length 0 lo), Heap.get?_push_size _ rfl⟩

/-! ### in, not in: flat items -/
def flatV : V → Bool
  | .non => true
  | .bl _ => true
  | .int _ => true
  | .str _ => true
  | _ => false
/-- == of flat values -/
def eqV : V → V → Bool
  | .non, .non => true
  | .bl a, .bl b => a == b
  | .bl a, .int b => (if a then 1 else 0) == b
  | .int a, .bl b => a == (if b then 1 else 0)
  | .int a, .int b => a == b
  | .str a, .str b => a == b
  | _, _ => false
theorem eqAt_V {A : Around} {s : Shared} {y x : V} {u v : Value} (ry : RelV y u) (rx : RelV x v) (fy : flatV y = true) (fx : flatV x = true) : SeqAt.EqAt A s u v (eqV y x) := by
  cases y with
  | non =>
    cases ry
    cases x with
    | non => cases rx; exact SeqAt.EqAt.same _
    | bl b => cases rx; exact SeqAt.EqAt.none_bool b
    | int b => obtain ⟨t, rfl⟩ := rx; exact SeqAt.EqAt.none_int b t
    | str b => obtain ⟨t, rfl⟩ := rx; exact SeqAt.EqAt.none_str b t
    | _ => exact absurd (show false = true from fx) Bool.false_ne_true
  | bl a =>
    cases ry
    cases x with
    | non => cases rx; exact SeqAt.EqAt.bool_none a
    | bl b => cases rx; exact SeqAt.EqAt.bool_bool a b
    | int b => obtain ⟨t, rfl⟩ := rx; exact SeqAt.EqAt.bool_int a b t
    | str b => obtain ⟨t, rfl⟩ := rx; exact SeqAt.EqAt.bool_str a b t
    | _ => exact absurd (show false = true from fx) Bool.false_ne_true
  | int a =>
    obtain ⟨t', rfl⟩ := ry
    cases x with
    | non => cases rx; exact SeqAt.EqAt.int_none a t'
    | bl b => cases rx; exact SeqAt.EqAt.int_bool a t' b
    | int b => obtain ⟨t, rfl⟩ := rx; exact SeqAt.EqAt.int_int a t' b t
    | str b => obtain ⟨t, rfl⟩ := rx; exact SeqAt.EqAt.int_str a t' b t
    | _ => exact absurd (show false = true from fx) Bool.false_ne_true
  | str a =>
    obtain ⟨t', rfl⟩ := ry
    cases x with
    | non => cases rx; exact SeqAt.EqAt.str_none a t'
    | bl b => cases rx; exact SeqAt.EqAt.str_bool a t' b
    | int b => obtain ⟨t, rfl⟩ := rx; exact SeqAt.EqAt.str_int a t' b t
    | str b => obtain ⟨t, rfl⟩ := rx; exact SeqAt.EqAt.str_str a t' b t
    | _ => exact absurd (show false = true from fx) Bool.false_ne_true
  | _ => exact absurd (show false = true from fy) Bool.false_ne_true
/-- the items' answers, read off the values (a value's own answer does not lean on its token) -/
def eqU (x : V) (u : Value) : Bool := match u with
  | .none => eqV .non x
  | .bool b => eqV (.bl b) x
  | .int i _ => eqV (.int i) x
  | .str z _ => eqV (.str z) x
  | _ => false
theorem eqU_of {x y : V} {u : Value} (r : RelV y u) (f : flatV y = true) : eqU x u = eqV y x := by
  cases y with
  | non => cases r; rfl
  | bl b => cases r; rfl
  | int i => obtain ⟨t, rfl⟩ := r; rfl
  | str z => obtain ⟨t, rfl⟩ := r; rfl
  | _ => exact absurd (show false = true from f) Bool.false_ne_true
theorem any_eqU {x : V} : ∀ {xs : List V} {us : List Value}, Vals xs us → xs.all flatV = true → us.any (eqU x) = xs.any fun y => eqV y x
  | _, _, .nil, _ => rfl
  | y :: xs, u :: us, .cons r t, f => by
    rw [List.all_cons, Bool.and_eq_true] at f
    rw [List.any_cons, List.any_cons, eqU_of r f.1, any_eqU t f.2]
theorem mem_eqAt {A : Around} {s : Shared} {x : V} {v : Value} (rx : RelV x v) (fx : flatV x = true) : ∀ {xs : List V} {us : List Value}, Vals xs us → xs.all flatV = true → ∀ u ∈ us, SeqAt.EqAt A s u v (eqU x u)
  | _, _, .nil, _ => fun u hu => by cases hu
  | y :: xs, u :: us, .cons r t, f => fun u' hu => by
    rw [List.all_cons, Bool.and_eq_true] at f
    rcases List.mem_cons.mp hu with rfl | hu
    · rw [eqU_of r f.1]; exact eqAt_V r rx f.1 fx
    · exact mem_eqAt rx fx t f.2 u' hu
def inV (x : V) (xs : List V) : Bool := xs.any fun y => eqV y x
/-- x in a list or tuple of flat items -/
def rIn (K : PySem.W.Frag) (neg : Bool) : R2 := fun x y H Q => ∃ p xs, y = .ref p ∧ (SqL K H p xs ∨ SqT K H p xs) ∧ flatV x = true ∧ xs.all flatV = true ∧ Q (.bl (if neg then !inV x xs else inV x xs)) H
theorem op_in_seq : OpR X (compareOp .In) (rIn X.K false) := by
  intro pins s σ H x y v u Q I rx ry h
  obtain ⟨p, xs, rfl, hq, fx, fs, q⟩ := h
  cases ry
  rcases hq with hq | hq
  · obtain ⟨its, r, pl, hz⟩ := I.list hq
    refine SeqAt.in_listAt (eqU x) pl.isList (fun w hw => mem_eqAt rx fx r fs w (by simpa using hw)) ⟨.bl _, H, I, rfl, ?_⟩
    rw [show its.toArray.any (eqU x) = its.any (eqU x) by simp, any_eqU r fs]
    exact q
  · obtain ⟨its, r, pl, hz⟩ := I.tuple hq
    refine SeqAt.in_tupleAt (eqU x) pl (fun w hw => mem_eqAt rx fx r fs w (by simpa using hw)) ⟨.bl _, H, I, rfl, ?_⟩
    rw [show its.toArray.any (eqU x) = its.any (eqU x) by simp, any_eqU r fs]
    exact q
theorem op_notIn_seq : OpR X (compareOp .NotIn) (rIn X.K true) := by
  intro pins s σ H x y v u Q I rx ry h
  obtain ⟨p, xs, rfl, hq, fx, fs, q⟩ := h
  cases ry
  rcases hq with hq | hq
  · obtain ⟨its, r, pl, hz⟩ := I.list hq
    refine SeqAt.notIn_listAt (eqU x) pl.isList (fun w hw => mem_eqAt rx fx r fs w (by simpa using hw)) ⟨.bl _, H, I, rfl, ?_⟩
    rw [show its.toArray.any (eqU x) = its.any (eqU x) by simp, any_eqU r fs]
    exact q
  · obtain ⟨its, r, pl, hz⟩ := I.tuple hq
    refine SeqAt.notIn_tupleAt (eqU x) pl (fun w hw => mem_eqAt rx fx r fs w (by simpa using hw)) ⟨.bl _, H, I, rfl, ?_⟩
    rw [show its.toArray.any (eqU x) = its.any (eqU x) by simp, any_eqU r fs]
    exact q
/-! ### len, list(x), tuple(x) of any list or tuple that is read -/
theorem call_len_seq : CallR X (.builtin "len") (fun xs H Q => ∃ p ys, xs = [.ref p] ∧ (SqL X.K H p ys ∨ SqT X.K H p ys) ∧ Q (.int ys.length) H) := by
  intro pins s σ H xs us Q I r h
  obtain ⟨p, ys, rfl, hq, q⟩ := h
  obtain ⟨u, rfl, rx⟩ := vals1 r
  cases rx
  have hn := line63
  rcases hq with hq | hq
  · obtain ⟨its, r', pl, hz⟩ := I.list hq
    have hlen := r'.length
    exact Calls.call_len_list pl.isList (by simp only [List.size_toArray] <;> omega) ⟨.int ys.length, H, I.tok _, ⟨s.toks + 1, by rw [List.size_toArray, hlen]⟩, q⟩
  · obtain ⟨its, r', pl, hz⟩ := I.tuple hq
    have hlen := r'.length
    exact len_tuple pl (by simp only [List.size_toArray] <;> omega) ⟨.int ys.length, H, I.tok _, ⟨s.toks + 1, by rw [List.size_toArray, hlen]⟩, q⟩
theorem call_len_str : CallR X (.builtin "len") (fun xs H Q => ∃ z, xs = [.str z] ∧ z.length ≤ sizeLine ∧ Q (.int z.length) H) := by
  intro pins s σ H xs us Q I r h
  obtain ⟨z, rfl, hz, q⟩ := h
  obtain ⟨u, rfl, t, rfl⟩ := vals1 r
  have hn := line63
  exact len_str (by omega) ⟨.int z.length, H, I.tok _, ⟨_, rfl⟩, q⟩
theorem CallR.or {f : Value} {r r' : List V → Hp → VK → Prop} (h : CallR X f r) (h' : CallR X f r') : CallR X f (fun xs H Q => r xs H Q ∨ r' xs H Q) := by
  intro pins s σ H xs us Q I rs q
  rcases q with q | q
  · exact h pins s σ H xs us Q I rs q
  · exact h' pins s σ H xs us Q I rs q
/-! ### the call of a builtin's method: o.m(..) -/
/-- the value is of that builtin type -/
def tyV (K : PySem.W.Frag) (T : String) (x : V) (H : Hp) : Prop := match x with
  | .str _ => T = "str"
  | .int _ => T = "int"
  | .ref p => (T = "list" ∧ ∃ xs, SqL K H p xs) ∨ (T = "tuple" ∧ ∃ o, K.lookup p = some o ∧ o.cls = .type "tuple" ∧ o.dict = none) ∨
      (T = "dict" ∧ ((∃ kvs, H p = some (.dK kvs)) ∨ ∃ kvs, H p = some (.dT kvs))) ∨ (T = "set" ∧ ∃ S n, H p = some (.set S n))
  | _ => False
theorem tyV_is {pins : List (Addr × Obj)} {σ : St} {H : Hp} {s : Shared} {T : String} {x : V} {v : Value} (I : Inv X pins σ H s) (r : RelV x v) (ty : tyV X.K T x H) :
    s.TypeIs v T ∧ ∀ a, v = .ref a → ∃ ob, s.heap.get? a = some ob ∧ ob.dict = none := by
  cases x with
  | str z =>
    obtain ⟨t, rfl⟩ := r
    cases (show T = "str" from ty)
    exact ⟨typeIs_str s z t, fun _ e => nomatch e⟩
  | int i =>
    obtain ⟨t, rfl⟩ := r
    cases (show T = "int" from ty)
    exact ⟨typeIs_int s i t, fun _ e => nomatch e⟩
  | ref p =>
    cases r
    rcases ty with ⟨rfl, xs, hq⟩ | ⟨rfl, o, hk, hc, hd⟩ | ⟨rfl, hk⟩ | ⟨rfl, S, n, hk⟩
    · obtain ⟨its, _, pl, _⟩ := I.list hq
      refine ⟨pl.isList.typeIs, fun a e => ?_⟩
      cases e
      obtain ⟨o, n, e, c, hd, _⟩ := pl
      exact ⟨o, e, hd⟩
    · refine ⟨⟨o, I.kIn p o hk, hc⟩, fun a e => ?_⟩
      cases e
      exact ⟨o, I.kIn _ o hk, hd⟩
    · have z : ∃ o, s.heap.get? p = some o ∧ o.ExactDict := by
        rcases hk with ⟨kvs, hk⟩ | ⟨kvs, hk⟩
        · obtain ⟨_, _, _, _, o, _, _, e, ex, _⟩ := I.hok p _ hk
          exact ⟨o, e, ex⟩
        · obtain ⟨_, _, _, _, o, _, _, e, ex, _⟩ := I.hok p _ hk
          exact ⟨o, e, ex⟩
      obtain ⟨o, e, ex⟩ := z
      refine ⟨⟨o, e, ex.1⟩, fun a e2 => ?_⟩
      cases e2
      exact ⟨o, e, ex.2.1⟩
    · obtain ⟨o, _, _, _, e, ex, _⟩ := I.hok p _ hk
      refine ⟨⟨o, e, ex.1⟩, fun a e2 => ?_⟩
      cases e2
      exact ⟨o, e, ex.2.1⟩
  | _ => exact False.elim ty
def tBM0 (K : PySem.W.Frag) (T : String) (r : V → List V → Hp → VK → Prop) (to : TE) : TE := fun σ H Q => to σ H fun x H1 => tyV K T x H1 ∧ r x [] H1 Q
def tBM (K : PySem.W.Frag) (T : String) (r : V → List V → Hp → VK → Prop) (to : TE) (t : TA) : TE := fun σ H Q => to σ H fun x H1 => tyV K T x H1 ∧ t σ H1 fun xs H2 => r x xs H2 Q
variable {o e : Expr} {es : List Expr} {to : TE} {t : TA} {name : Str} {apos cpos : Pos} {T id : String} {r : V → List V → Hp → VK → Prop}
/- xs.append(e), list.index on a module's tuple .. are MtR facts of 06m -/
end
end L2

namespace L2
open PySem PySem.Spec PyProof.Rows

def MtM (X : Cx) (id : String) (r : V → List V → Hp → VK → Prop) : Prop :=
  ∀ (pins : List (Addr × Obj)) (s : Shared) (σ : St) (H : Hp) (x : V) (xs : List V) (v : Value) (us : List Value) (Q : VK), Inv X pins σ H s → RelV x v → Vals xs us → r x xs H Q →
    wpAny (model X.prog X.w) X.A (call (.builtin id) (v :: us)) (EP X pins σ Q) X.xe s

/-! ### lists of values -/
theorem Vals.one : ∀ {x : V} {us : List Value}, Vals [x] us → ∃ u, us = [u] ∧ RelV x u
  | _, _, .cons r .nil => ⟨_, rfl, r⟩
theorem Vals.two : ∀ {x y : V} {us : List Value}, Vals [x, y] us → ∃ u v, us = [u, v] ∧ RelV x u ∧ RelV y v
  | _, _, _, .cons r (.cons q .nil) => ⟨_, _, rfl, r, q⟩
theorem Vals.zero : ∀ {us : List Value}, Vals [] us → us = []
  | _, .nil => rfl
theorem Vals.reverse {xs : List V} {us : List Value} (h : Vals xs us) : Vals xs.reverse us.reverse := by
  induction h with
  | nil => exact .nil
  | cons r t ih => rw [List.reverse_cons, List.reverse_cons]; exact Vals.append ih (.cons r .nil)
section
variable {X : Cx} {pins : List (Addr × Obj)} {σ : St} {H : Hp} {s : Shared} {l b : Addr} {xs ys zs : List V}

/-! ### the two steps: a tracked list is rewritten, a new list is laid -/
theorem Inv.lset {its its' : List Value} {n : Nat} {f : Array Value → Array Value} {t' : Nat} (I : Inv X pins σ H s) (hH : H l = some (.lst xs))
    (e : s.heap.get? l = some { cls := .type "list", data := .seq its.toArray n }) (hf : f its.toArray = its'.toArray) (hv : Vals ys its') (hz : ys.length ≤ sizeLine) :
    Inv X pins σ (upd H l (.lst ys)) { s with heap := s.heap.update l (Obj.mapSeq f), toks := t' } := by
  have q := PySem.IsL.update e f
  rw [hf] at q
  refine I.write (x := l) (e := l) (by rw [hH]; exact trivial) (.inl rfl) (fun b' u hb hu => (Heap.get?_update_other s.heap (Obj.mapSeq f) (Ne.symm hb)).trans hu) ⟨_, q⟩ ?_
  exact ⟨hz, its', _, hv, q⟩
theorem Inv.lnew {its : List Value} {t' : Nat} (I : Inv X pins σ H s) (hv : Vals ys its) (hz : ys.length ≤ sizeLine) :
    Inv X pins σ (upd H s.heap.objs.size (.lst ys)) { s with heap := s.heap.push { cls := .type "list", data := .seq its.toArray }, toks := t' } :=
  I.laid (fun _ _ q => Heap.get?_push_of_some _ q) (Nat.le_refl _) ⟨hz, its, 0, hv, Heap.get?_push_size _ rfl⟩
theorem Inv.fresh (I : Inv X pins σ H s) : H s.heap.objs.size = none := I.hok.fresh (Nat.le_refl _)
theorem Inv.lstM (I : Inv X pins σ H s) (hH : H l = some (.lst xs)) : xs.length ≤ sizeLine ∧ ∃ (its : List Value) (n : Nat), Vals xs its ∧ xs.length = its.length ∧ s.heap.get? l = some { cls := .type "list", data := .seq its.toArray n } := by
  obtain ⟨z, its, n, r, e⟩ := I.hok l _ hH
  exact ⟨z, its, n, r, r.length, e⟩

end

section
variable {X : Cx}

/-! ### methods -/
def rAppend : V → List V → Hp → VK → Prop := fun x vs H Q => ∃ l xs y, x = .ref l ∧ vs = [y] ∧ H l = some (.lst xs) ∧ xs.length < sizeLine ∧ Q .non (upd H l (.lst (xs ++ [y])))
theorem mt_append : MtM X "list.append" rAppend := by
  intro pins s σ H x vs v us Q I rx rv h
  obtain ⟨l, xs, y, rfl, rfl, hH, hz, q⟩ := h
  cases rx
  obtain ⟨u, rfl, ru⟩ := rv.one
  obtain ⟨z, its, n, r, hl, e⟩ := I.lstM hH
  refine call_meets F.slot_list_append ⟨_, e, rfl⟩ F.entry_list_append (F.args_list_append_2 _ _) (PySem.list_append l its.toArray n u (by rw [List.size_toArray]; omega)) ⟨e, ?_⟩
  refine ⟨.non, _, I.lset (its' := its ++ [u]) hH e (by simp) (r.append (.cons ru .nil)) ?_, rfl, q⟩
  rw [List.length_append, List.length_singleton]
  omega

/-! ### list + list, list += list, list * int -/
def rCat : R2 := fun x y H Q => ∃ l b xs zs, x = .ref l ∧ y = .ref b ∧ H l = some (.lst xs) ∧ H b = some (.lst zs) ∧ xs.length + zs.length ≤ sizeLine ∧ ∀ p, H p = none → Q (.ref p) (upd H p (.lst (xs ++ zs)))
theorem op_cat : OpR X (binaryOp .Add) rCat := by
  intro pins s σ H x y v u Q I rx ry h
  obtain ⟨l, b, xs, zs, rfl, rfl, hH, hB, hz, q⟩ := h
  cases rx
  cases ry
  obtain ⟨z, its, n, r, hl, e⟩ := I.lstM hH
  obtain ⟨z2, its2, n2, r2, hl2, e2⟩ := I.lstM hB
  refine PySem.P.add_list e e2 ?_ (by rw [List.size_toArray, List.size_toArray]; omega)
  have ea : its.toArray ++ its2.toArray = (its ++ its2).toArray := by simp
  rw [ea]
  exact ⟨.ref _, _, I.lnew (t' := s.toks) (r.append r2) (by rw [List.length_append]; omega), rfl, q _ I.fresh⟩
/-! ### del xs[i] -/
end

/-! ### xs[a:b] = ys -/
section
variable {prog : Program} {w : World} {A : Around} {E : Value → Shared → Prop} {s : Shared}
end

section
variable {X : Cx}
end
end L2

namespace Att
open PySem PySem.W PySem.Calls PyProof.Rows

/-! ### the script -/
theorem ints_of_wellAll {P : Params} {h : Heap} : ∀ (ns : List Int) (vs : List Value), WellAll P h vs (ns.map WData.int) → IntsAre vs ns := by
  intro ns
  induction ns with
  | nil =>
    intro vs w
    rw [List.map_nil] at w
    cases w
    exact .nil
  | cons n ns ih =>
    intro vs w
    rw [List.map_cons] at w
    cases w with
    | cons a b =>
      cases a
      exact .cons _ _ (ih _ b)

theorem script_of {l : OpenLaw} {n : Nat} (hn : l.most = some n) {P : Params} {h : Heap} {args : List WData} {vals : List Value}
    (hpre : l.row.toRowW.claim.pre args = true) (hwl : WellAll P h vals args) :
    ∃ a vs ns, vals = [Value.ref a] ∧ args = [WData.list (ns.map WData.int)] ∧ h.get? a = some { cls := .type "list", data := .seq vs.toArray } ∧ IntsAre vs ns ∧ ns.length ≤ n := by
  have hsh : WShape.hasAll [] args [.list .int] = true := (pre_splitW hpre).1
  have hc : l.pre.holds [] { args := args } = true := (pre_splitW hpre).2
  obtain ⟨d, r, rfl, h1, h2⟩ := hasAllW_cons hsh
  obtain rfl := hasAllW_nil h2
  obtain ⟨xs, rfl, h3⟩ := hasW_list h1
  obtain ⟨ns, rfl⟩ := items_int h3
  have hlen : ns.length ≤ n := by
    unfold OpenLaw.pre at hc
    have h4 : (WTm.not (.lt (.lit (.int (n : Int))) (.len (.arg 0)))).holds [] { args := [.list (ns.map .int)] } = true := by
      have h4 := (holds_andW hc).1
      rw [hn] at h4
      exact h4
    have h5 := condW_of h4 (w_not (w_lt w_lit (w_len_list (w_arg rfl))))
    rw [List.length_map] at h5
    refine Nat.le_of_not_lt fun q => ?_
    have q' : (n : Int) < ((ns.length : Nat) : Int) := by omega
    first
      | (rw [decide_eq_true q'] at h5; exact absurd h5 (by decide))
      | (simp at h5; omega)
  cases hwl with
  | cons w1 w2 =>
    cases w2
    cases w1 with
    | list ho hall => exact ⟨_, _, ns, rfl, rfl, ho, ints_of_wellAll ns _ hall, hlen⟩

theorem post_true (l : OpenLaw) (args : List WData) : l.row.toRowW.claim.post args (.bool true) args = true :=
  postW_of (r := l.row.toRowW) (X := (true == true))
    (show WShape.has [] (.bool true) .bool = true by first | rfl | decide | simp [WShape.has, WShape.arms, WShape.armsAll])
    (show (WTm.eq .res (.lit (.bool true))).value [] { args := args, res := some (.bool true), after := args } = some (.bool (true == true)) from w_eq_bool (w_res rfl) w_lit) rfl

/-! ### the attachment: holds_open's last premise (the goal 'hc' behind k_head) from a wpAny of the law's body -/
/-- the same from a codeAny of the CALL (for a layer whose function contracts speak of calls) -/
theorem attach_call {l : OpenLaw} {n : Nat} {q : Program} {loose : List Str} {XP : (Str → Option Value) → Heap → Prop} {YP : World → Heap → Prop} {d : DefRec}
    (hn : l.most = some n) (hdf : d.params.defaults = [])
    (call : ∀ (w : World) (s₀ s₁ : Shared) (mg mb : Str → Option Value) (fa : Addr) (o : Obj) (pm cd doc : Value) (a : Addr) (vs : List Value) (ns : List Int),
      Ground q loose [] XP w s₀ mg mb s₁.heap → YP w s₁.heap →
      s₁.heap.get? fa = some o → o.data = .func (docDef d.name d.params d.body d.scope pm cd doc) → s₁.heap.CodeRec cd d.name → mg d.name = some (.ref fa) →
      s₁.heap.get? a = some { cls := .type "list", data := .seq vs.toArray } → IntsAre vs ns → ns.length ≤ n → s₁.gens = #[] →
      codeAny (model l.prog w) callerA (.call (.ref fa) ⟨[.ref a], []⟩) (fun r s' => r = .ok (.ret (.bool true)) ∧ OldK s₁.heap s'.heap ∧ s'.os = s₁.os ∧ AllBare s'.gens) s₁) :
    WalkO q loose XP YP l.row.toRowW d [] (fun f vs => PySem.call f vs) := by
  intro w s₀ s₁ mg mb G Y fa o pm cd doc dV kV ho hd hcd hD hmg hg args vals as hpre hlay hrd hwl hlo
  obtain rfl : dV = .none := Dflts.none hD hdf
  obtain rfl : kV = .none := Dflts.noKw hD
  obtain ⟨a, vs, ns, rfl, rfl, hobj, hints, hlen⟩ := script_of hn hpre hwl
  refine enter_call (codeAny_mono (call w s₀ s₁ mg mb fa o pm cd doc a vs ns G Y ho (fd_plain hd) hcd hmg hobj hints hlen hg) fun r s' hq => ?_)
  obtain ⟨rfl, h2, h3, h4⟩ := hq
  exact ⟨.inl ⟨.bool true, .bool true, [], rfl, fun _ => rfl, .bool true, post_true l _, fun _ => ⟨List.Pairwise.nil, fun _ hm => (nomatch hm)⟩⟩, h2, h3, h4⟩

/-! ### rules over ANY heap (no ledger) from facts about the written part K: the library's own take a ledger (News) for what they write -/
section
variable {prog : Program} {w : World} {A : Around} {E : Value → Shared → Prop} {s : Shared} {K : Frag}

/-! the whole heap as the ledger: makes every rule that writes through a ledger a rule over any heap -/
def ledger (h : Heap) (L d : Addr) : List (Addr × Obj) := (List.range h.objs.size).filterMap fun a => if a = L ∨ a = d then none else (h.get? a).map fun o => (a, o)
end
end Att

namespace L2
open PySem PySem.Spec PyProof.Rows

theorem vals_ints : ∀ {vs : List Value} {ns : List Int}, IntsAre vs ns → Vals (ns.map V.int) vs
  | _, _, .nil => .nil
  | _, _, .cons n t h => .cons ⟨t, rfl⟩ (vals_ints h)

end L2

namespace L2
open PySem PySem.Spec PyProof.Rows

abbrev KOf {K : PySem.W.Frag} {h : Heap} (_ : K.In h) : PySem.W.Frag := K

end L2

/-! SHORT WORDS over the layer: a def of the text, its body, what a loop and a test want. -/
namespace L2
open PySem PySem.Spec PyProof.Rows

/-! ### the text by places -/
/-- the j-th statement of a class's body -/
def inClass (s : Stmt) (j : Nat) : Stmt := match s with
  | .ClassDef _ _ _ body _ _ _ _ _ _ _ => body.getD j (.Pass ⟨0, 0, 0, 0⟩)
  | _ => .Pass ⟨0, 0, 0, 0⟩
def defArgs (s : Stmt) : Arguments := match s with
  | .FunctionDef _ a _ _ _ _ _ _ _ _ => a
  | _ => { posonlyargs := [], args := [], vararg := none, kwonlyargs := [], kw_defaults := [], kwarg := none, defaults := [] }
def defBody (s : Stmt) : List Stmt := match s with
  | .FunctionDef _ _ b _ _ _ _ _ _ _ => b
  | _ => []
def defScope (s : Stmt) : Scope := match s with
  | .FunctionDef _ _ _ _ _ _ sc _ _ _ => sc
  | _ => { kind := .function, names := [], isGenerator := false, isCoroutine := false }

/-! ### no exception leaves a def -/
abbrev CX0 : CXT := fun _ _ _ _ _ _ => False
abbrev E0 : XK := fun _ _ _ => False
theorem pass0 {X : Cx} : Passes CX0 X E0 := fun _ _ _ _ _ _ _ h => h.elim

/-! ### a def (or method) of the text as it stands behind the top -/
structure Fun (K : PySem.W.Frag) (x qual : Str) (st : Stmt) (f : Addr) (fd : FuncData) : Prop where
  ex : ∃ (oc : Value) (od : Option Addr) (kV doc pm : Value) (an : Option Addr) (cdv ct : Value) (osl : Array (Option Value)),
    fd = PySem.W.fnOf x qual (defArgs st) (defBody st) (defScope st) .none kV doc pm an cdv ct ∧ K.lookup f = some ⟨oc, od, .func fd, osl⟩ ∧ PySem.W.codeIn K cdv qual = true
  kp : PySem.W.keepIn K (.ref f) = true
section
variable {P : Program} {w : World} {K : PySem.W.Frag} {mg : Str → Option Value} {base : Heap}
/-- THE RULE for a def: its body as a term of rules, and the reading of that term -/
theorem Fun.ok {x qual : Str} {st : Stmt} {f : Addr} {fd : FuncData} {N ps : List Str} {k : Nat} {sp : Sp} (F : Fun K x qual st f fd) (S : FnScope N ps (defScope st)) (len : ∀ vs H Q E, sp vs H Q E → vs.length = ps.length)
    (hbody : ∀ (cdv : Value) (A : Around) (outer : List Env) (s : Shared) (H : Hp) (vs : List V) (Q : VK) (E : XK), Room k (A.deeper (envOfC qual (defScope st) s.heap.objs.size f cdv)) → sp vs H Q E →
      ∃ t, PSs (cxOf CX0 P w K mg base N qual (defScope st) f cdv A outer s H E).nox (defBody st) t ∧ t { nx := fun _ H' => Q .non H', rt := Q } (start N vs) H) : FnOk P w K mg base CX0 (k + 1) f fd ps sp := by
  obtain ⟨oc, od, kV, doc, pm, an, cdv, ct, osl, rfl, lk, hcd⟩ := F.ex
  refine fn_of lk hcd S len fun A outer s H vs Q E hr hsp => ?_
  obtain ⟨t, h, q⟩ := hbody cdv A outer s H vs Q E hr hsp
  exact ⟨t, h.nox, q⟩
/-- how its arguments bind (no defaults): h is «fun _ _ _ _ _ _ us hl => match us, hl with | [_, _], _ => rfl», one _ a parameter -/
theorem Fun.binds {x qual : Str} {st : Stmt} {f : Addr} {fd : FuncData} {ps : List Str} (F : Fun K x qual st f fd)
    (h : ∀ (kV doc pm : Value) (an : Option Addr) (cdv ct : Value) (us : List Value), us.length = ps.length → bindArgs (PySem.W.fnOf x qual (defArgs st) (defBody st) (defScope st) .none kV doc pm an cdv ct) ⟨us, []⟩ = pure (ps.zip us)) : Binds K fd ps [] := by
  obtain ⟨oc, od, kV, doc, pm, an, cdv, ct, osl, rfl, lk, hcd⟩ := F.ex
  exact .all (h kV doc pm an cdv ct)
theorem fun_mk {x qual : Str} {st : Stmt} {f : Addr} {oc : Value} {od an : Option Addr} {osl : Array (Option Value)} {kV doc pm cdv ct : Value} (l : K.lookup f = some ⟨oc, od, .func (PySem.W.fnOf x qual (defArgs st) (defBody st) (defScope st) .none kV doc pm an cdv ct), osl⟩)
    (c : PySem.W.codeIn K cdv qual = true) (k : PySem.W.keepIn K (.ref f) = true) : Fun K x qual st f (PySem.W.fnOf x qual (defArgs st) (defBody st) (defScope st) .none kV doc pm an cdv ct) := ⟨⟨oc, od, kV, doc, pm, an, cdv, ct, osl, rfl, l, c⟩, k⟩
end
/-! ### expressions in short: the name that stands in the i-th slot -/
section
variable {X : Cx}
theorem pv (i : Nat) {x : Str} {pos : Pos} (hN : X.N[i]? = some x := by rfl) (hv : Vis X.env.scope x := by first | exact Or.inl rfl | exact Or.inr (Or.inl rfl) | exact Or.inr (Or.inr rfl)) (hd : (x == ("__debug__" : Str)) = false := by decide)
    (hcd : (x == ("__classdict__" : Str)) = false := by decide) : PE X (.Name x pos) (tVar i) := pe_var hN hv hd hcd
end

/-! ### tests -/
theorem iteF {A B : Prop} (h : B) : if false = true then A else B := by
  rw [if_neg Bool.false_ne_true]
  exact h
theorem iteT {A B : Prop} (h : A) : if true = true then A else B := by
  rw [if_pos rfl]
  exact h
theorem ite2 {c A B : Prop} [Decidable c] (h1 : c → A) (h2 : ¬ c → B) : if c then A else B := by
  by_cases h : c
  · rw [if_pos h]
    exact h1 h
  · rw [if_neg h]
    exact h2 h
/-! ### heaps -/
/-- all that was tracked is as it was -/
def Same (H H' : Hp) : Prop := ∀ b o, H b = some o → H' b = some o
theorem Same.refl (H : Hp) : Same H H := fun _ _ h => h
theorem Same.trans {H H1 H2 : Hp} (a : Same H H1) (b : Same H1 H2) : Same H H2 := fun c o h => b c o (a c o h)
theorem Same.free {H H' : Hp} (e : Same H H') {l : Addr} (h : H' l = Option.none) : H l = Option.none := by
  cases q : H l with
  | none => rfl
  | some o =>
    rw [e l o q] at h
    cases h
theorem Same.seq {K : PySem.W.Frag} {H H' : Hp} {a : Addr} {xs : List V} (e : Same H H') (h : SqL K H a xs) : SqL K H' a xs := by
  rcases h with (h | ⟨o, h⟩) | h
  · exact .inl (.inl (e _ _ h))
  · exact .inl (.inr ⟨o, e _ _ h⟩)
  · exact .inr h

end L2
namespace L2
open PySem PySem.Spec PyProof.Rows

/-! ### lists of pairs as tables -/
section
variable {κ : Type} [DecidableEq κ]
def valV (kvs : List (κ × V)) (k : κ) : Option V := (kvs.find? fun kv => decide (kv.1 = k)).map (·.2)
/-- in its place, or at the end -/
def putK (kvs : List (κ × V)) (k : κ) (v : V) : List (κ × V) :=
  if (kvs.any fun kv => decide (kv.1 = k)) = true then kvs.map (fun kv => if kv.1 = k then (kv.1, v) else kv) else kvs ++ [(k, v)]
def dropK (kvs : List (κ × V)) (k : κ) : List (κ × V) := kvs.filter fun kv => decide (kv.1 ≠ k)

theorem valV_nil {k : κ} : valV ([] : List (κ × V)) k = none := rfl
theorem valV_pos {p : κ × V} {r : List (κ × V)} {k : κ} (e : p.1 = k) : valV (p :: r) k = some p.2 := by simp [valV, List.find?_cons, e]
theorem valV_neg {p : κ × V} {r : List (κ × V)} {k : κ} (e : ¬ p.1 = k) : valV (p :: r) k = valV r k := by simp [valV, List.find?_cons, e]
theorem valV_any (k : κ) : ∀ kvs : List (κ × V), (kvs.any fun kv => decide (kv.1 = k)) = (valV kvs k).isSome
  | [] => rfl
  | p :: r => by
    rw [List.any_cons]
    by_cases e : p.1 = k
    · simp only [valV_pos e, decide_eq_true e, Bool.true_or, Option.isSome_some]
    · rw [valV_neg e, decide_eq_false e, Bool.false_or]; exact valV_any k r
theorem valV_map (k j : κ) (y : V) : ∀ kvs : List (κ × V), valV (kvs.map fun kv => if kv.1 = k then (kv.1, y) else kv) j = (valV kvs j).map fun x => if j = k then y else x
  | [] => rfl
  | p :: r => by
    have ih := valV_map k j y r
    rw [List.map_cons]
    by_cases h : p.1 = k
    · rw [if_pos h]
      by_cases e : p.1 = j
      · rw [valV_pos (p := (p.1, y)) e, valV_pos e, Option.map_some, if_pos (e.symm.trans h)]
      · rw [valV_neg (p := (p.1, y)) e, valV_neg e, ih]
    · rw [if_neg h]
      by_cases e : p.1 = j
      · rw [valV_pos (p := p) e, valV_pos e, Option.map_some, if_neg (fun z => h (e.trans z))]
      · rw [valV_neg (p := p) e, valV_neg e, ih]
theorem valV_snoc (k j : κ) (y : V) : ∀ kvs : List (κ × V), valV kvs k = none → valV (kvs ++ [(k, y)]) j = if j = k then some y else valV kvs j
  | [], _ => by
    by_cases e : k = j
    · rw [if_pos e.symm]; exact valV_pos (p := (k, y)) e
    · rw [if_neg (fun z => e z.symm)]; exact valV_neg (p := (k, y)) e
  | p :: r, hn => by
    rw [List.cons_append]
    have hk : ¬ p.1 = k := fun z => by rw [valV_pos z] at hn; cases hn
    rw [valV_neg hk] at hn
    have ih := valV_snoc k j y r hn
    by_cases e : p.1 = j
    · rw [valV_pos e, valV_pos e, if_neg (fun z => hk (e.trans z))]
    · rw [valV_neg e, valV_neg e, ih]
theorem valV_put (kvs : List (κ × V)) (k j : κ) (y : V) : valV (putK kvs k y) j = if j = k then some y else valV kvs j := by
  unfold putK
  by_cases a : (kvs.any fun kv => decide (kv.1 = k)) = true
  · rw [if_pos a, valV_map]
    rw [valV_any] at a
    by_cases e : j = k
    · obtain ⟨x, hx⟩ := Option.isSome_iff_exists.mp a
      rw [if_pos e, e, hx, Option.map_some, if_pos rfl]
    · rw [if_neg e]
      cases valV kvs j with
      | none => rfl
      | some x => rw [Option.map_some, if_neg e]
  · rw [if_neg a]
    refine valV_snoc k j y kvs ?_
    rw [valV_any] at a
    cases q : valV kvs k with
    | none => rfl
    | some x => rw [q] at a; exact (a rfl).elim
theorem length_putK (kvs : List (κ × V)) (k : κ) (v : V) : (putK kvs k v).length ≤ kvs.length + 1 := by
  unfold putK
  split
  · rw [List.length_map]; omega
  · rw [List.length_append, List.length_cons, List.length_nil]; omega
theorem putK_new {kvs : List (κ × V)} {k : κ} (v : V) (h : valV kvs k = none) : putK kvs k v = kvs ++ [(k, v)] := by
  unfold putK
  rw [valV_any, h]
  exact if_neg (by decide)

theorem RelO.isSome_eq {o : Option V} {u : Option Value} (r : RelO o u) : o.isSome = u.isSome := by
  cases o with
  | none => cases u with
    | none => rfl
    | some _ => exact (show False from r).elim
  | some _ => cases u with
    | none => exact (show False from r).elim
    | some _ => rfl
theorem RelO.getD {o : Option V} {u : Option Value} {d : V} {d' : Value} (r : RelO o u) (rd : RelV d d') : RelV (o.getD d) (u.getD d') := by
  cases o with
  | none => cases u with
    | none => exact rd
    | some _ => exact (show False from r).elim
  | some _ => cases u with
    | none => exact (show False from r).elim
    | some _ => exact r

/-- raw tables of the same keys -/
theorem KV.val {kvs : List (κ × V)} {vs : List (κ × Value)} (r : KV kvs vs) (k : κ) : RelO (valV kvs k) (valueAt vs k) := by
  unfold KV at r
  induction r with
  | nil => exact True.intro
  | @cons p q ps qs h t ih =>
    obtain ⟨h1, h2⟩ := h
    by_cases e : p.1 = k
    · have e' : q.1 = k := h1.symm.trans e
      have b : valueAt (q :: qs) k = some q.2 := by simp [valueAt, List.find?_cons, e']
      rw [valV_pos e, b]; exact h2
    · have e' : ¬ q.1 = k := fun z => e (h1.trans z)
      have b : valueAt (q :: qs) k = valueAt qs k := by simp [valueAt, List.find?_cons, e']
      rw [valV_neg e, b]; exact ih
theorem KV.any {kvs : List (κ × V)} {vs : List (κ × Value)} (r : KV kvs vs) (k : κ) : (kvs.any fun kv => decide (kv.1 = k)) = vs.any fun kv => decide (kv.1 = k) := by
  unfold KV at r
  induction r with
  | nil => rfl
  | cons h t ih => rw [List.any_cons, List.any_cons, ih, h.1]
theorem KV.repl {kvs : List (κ × V)} {vs : List (κ × Value)} (r : KV kvs vs) (k : κ) {y : V} {u : Value} (ry : RelV y u) :
    KV (kvs.map fun kv => if kv.1 = k then (kv.1, y) else kv) (vs.map fun kv => if kv.1 = k then (kv.1, u) else kv) := by
  unfold KV at r ⊢
  induction r with
  | nil => exact .nil
  | @cons p q ps qs h t ih =>
    rw [List.map_cons, List.map_cons]
    refine .cons ?_ ih
    obtain ⟨h1, h2⟩ := h
    by_cases e : p.1 = k
    · rw [if_pos e, if_pos (h1.symm.trans e)]; exact ⟨h1, ry⟩
    · rw [if_neg e, if_neg (fun z => e (h1.trans z))]; exact ⟨h1, h2⟩
theorem KV.put {kvs : List (κ × V)} {vs : List (κ × Value)} (r : KV kvs vs) (k : κ) {y : V} {u : Value} (ry : RelV y u) : KV (putK kvs k y) (stored vs k u) := by
  unfold putK stored
  rw [r.any k]
  by_cases e : (vs.any fun kv => decide (kv.1 = k)) = true
  · rw [if_pos e, if_pos e]; exact r.repl k ry
  · rw [if_neg e, if_neg e]; exact Paired.snoc r ⟨rfl, ry⟩
theorem KV.drop {kvs : List (κ × V)} {vs : List (κ × Value)} (r : KV kvs vs) (k : κ) : KV (dropK kvs k) (without vs k) := by
  unfold KV at r ⊢
  unfold dropK without
  induction r with
  | nil => exact .nil
  | @cons p q ps qs h t ih =>
    obtain ⟨h1, h2⟩ := h
    rw [List.filter_cons, List.filter_cons]
    by_cases e : p.1 = k
    · have a : ¬ decide (p.1 ≠ k) = true := by simp [e]
      have b : ¬ decide (q.1 ≠ k) = true := by simp [h1.symm.trans e]
      rw [if_neg a, if_neg b]; exact ih
    · have e' : ¬ q.1 = k := fun z => e (h1.trans z)
      have a : decide (p.1 ≠ k) = true := by simp [e]
      have b : decide (q.1 ≠ k) = true := by simp [e']
      rw [if_pos a, if_pos b]; exact .cons ⟨h1, h2⟩ ih
theorem KV.keys {kvs : List (κ × V)} {vs : List (κ × Value)} (r : KV kvs vs) : kvs.map (·.1) = vs.map (·.1) := by
  unfold KV at r
  induction r with
  | nil => rfl
  | cons h t ih => rw [List.map_cons, List.map_cons, ih, h.1]
theorem KV.length {kvs : List (κ × V)} {vs : List (κ × Value)} (r : KV kvs vs) : kvs.length = vs.length := Paired.length r
end


/-! ### a tracked dict, its keys ints and texts or tuples of these -/
theorem kV_is {P : Program} {w : World} {k : Key} {u : Value} (r : RelV (kV k) u) : (mixKind P w).is k u = true := by
  cases k with
  | inl i => obtain ⟨t, e⟩ := (show ∃ t, u = Value.int i t from r); subst e; exact mixKind_int P w i t
  | inr x => obtain ⟨t, e⟩ := (show ∃ t, u = Value.str x t from r); subst e; exact mixKind_str P w x t
theorem items_are {P : Program} {w : World} : ∀ {ks : List Key} {us : List Value}, Vals (ks.map kV) us → ItemsAre (mixKind P w) ks us
  | [], _, r => by rw [List.map_nil] at r; cases r; exact .nil
  | k :: ks, _, r => by
    rw [List.map_cons] at r
    cases r with
    | cons h t => exact .cons (kV_is h) (items_are t)

/-- raw entries of a dict with tuple keys -/
abbrev KT (H : Hp) : List (List Key × V) → List (List Key × Addr × Value) → Prop := Paired fun p q => p.1 = q.1 ∧ H q.2.1 = some (.tup (p.1.map kV)) ∧ RelV p.2 q.2.2
theorem KT.val {H : Hp} {kvs : List (List Key × V)} {xs : List (List Key × Addr × Value)} (r : KT H kvs xs) (k : List Key) : RelO (valV kvs k) ((atKey xs k).map (·.2)) := by
  induction r with
  | nil => exact True.intro
  | @cons p q ps qs h t ih =>
    obtain ⟨h1, _, h2⟩ := h
    by_cases e : p.1 = k
    · have e' : q.1 = k := h1.symm.trans e
      have b : atKey (q :: qs) k = some q.2 := by simp [atKey, List.find?_cons, e']
      rw [valV_pos e, b]; exact h2
    · have e' : ¬ q.1 = k := fun z => e (h1.trans z)
      have b : atKey (q :: qs) k = atKey qs k := by simp [atKey, List.find?_cons, e']
      rw [valV_neg e, b]; exact ih
theorem KT.repl {H : Hp} {kvs : List (List Key × V)} {xs : List (List Key × Addr × Value)} (r : KT H kvs xs) (k : List Key) {y : V} {u : Value} (ry : RelV y u) :
    KT H (kvs.map fun kv => if kv.1 = k then (kv.1, y) else kv) (xs.map (putAt k u)) := by
  induction r with
  | nil => exact .nil
  | @cons p q ps qs h t ih =>
    rw [List.map_cons, List.map_cons]
    refine .cons ?_ ih
    obtain ⟨h1, h2, h3⟩ := h
    unfold putAt
    by_cases e : p.1 = k
    · rw [if_pos e, if_pos (h1.symm.trans e)]; exact ⟨h1, h2, ry⟩
    · rw [if_neg e, if_neg (fun z => e (h1.trans z))]; exact ⟨h1, h2, h3⟩
theorem KT.put {H : Hp} {kvs : List (List Key × V)} {xs : List (List Key × Addr × Value)} (r : KT H kvs xs) (k : List Key) {b : Addr} {y : V} {u : Value} (hb : H b = some (.tup (k.map kV))) (ry : RelV y u) :
    KT H (putK kvs k y) (storedH xs k b u) := by
  have e : (kvs.any fun kv => decide (kv.1 = k)) = (atKey xs k).isSome := by
    rw [valV_any, (r.val k).isSome_eq, Option.isSome_map]
  unfold putK storedH
  rw [e]
  by_cases q : (atKey xs k).isSome = true
  · rw [if_pos q, if_pos q]; exact r.repl k ry
  · rw [if_neg q, if_neg q]; exact Paired.snoc r ⟨rfl, hb, ry⟩
theorem KT.keeps {H H' : Hp} {kvs : List (List Key × V)} {xs : List (List Key × Addr × Value)} (r : KT H kvs xs) (ht : ∀ b ys, H b = some (.tup ys) → H' b = some (.tup ys)) : KT H' kvs xs :=
  Paired.mapP r fun _ _ z => ⟨z.1, ht _ _ z.2.1, z.2.2⟩

section
variable {P : Program} {w : World} {H : Hp} {h : Heap} {a : Addr}
theorem rd_of {u : HO} (ok : HOk P w H h) (e : Rd H a u) : ObjOk P w H h a u := e.ok ok
theorem dk_rd {kvs : List (Key × V)} (ok : HOk P w H h) (e : Rd H a (.dK kvs)) : kvs.length ≤ sizeLine ∧ (a == sysModules) = false ∧ ∃ vs, KV kvs vs ∧ h.DictOf (mixKind P w) a vs :=
  show ObjOk P w H h a (.dK kvs) from rd_of ok e
theorem dk_of {kvs : List (Key × V)} (ok : HOk P w H h) (e : H a = some (.dK kvs)) : kvs.length ≤ sizeLine ∧ (a == sysModules) = false ∧ ∃ vs, KV kvs vs ∧ h.DictOf (mixKind P w) a vs := dk_rd ok (.inl e)
/-- a tracked tuple of ints and texts is a key -/
theorem key_of {ks : List Key} (ok : HOk P w H h) (e : H a = some (.tup (ks.map kV))) : (tupleKind (mixKind P w)).is h ks a := by
  obtain ⟨_, its, r, o, h1, h2, n, h3⟩ := (show ObjOk P w H h a (.tup (ks.map kV)) from ok a _ e)
  exact ⟨o, its.toArray, n, h1, h2, h3, by simpa using items_are r⟩
theorem dt_rd {kvs : List (List Key × V)} (ok : HOk P w H h) (e : Rd H a (.dT kvs)) : kvs.length ≤ sizeLine ∧ (a == sysModules) = false ∧
    ∃ xs, KT H kvs xs ∧ h.DictOfH (tupleKind (mixKind P w)) a xs := by
  obtain ⟨z, y, xs, r, o, es, ep, h1, h2, h3, h4, h5⟩ := (show ObjOk P w H h a (.dT kvs) from rd_of ok e)
  refine ⟨z, y, xs, r, o, es, ep, h1, h2, h3, h4, fun x hx => ?_, h5⟩
  have all : ∀ {l : List (List Key × V)} {m : List (List Key × Addr × Value)}, KT H l m → ∀ x ∈ m, (tupleKind (mixKind P w)).is h x.1 x.2.1 := by
    intro l m q
    induction q with
    | nil => intro x hx; exact nomatch hx
    | @cons p q ps qs hq t ih =>
      intro x hx
      rcases List.mem_cons.mp hx with e | hx
      · subst e
        exact key_of ok (by rw [← hq.1]; exact hq.2.1)
      · exact ih x hx
  exact all r x hx
theorem dt_of {kvs : List (List Key × V)} (ok : HOk P w H h) (e : H a = some (.dT kvs)) : kvs.length ≤ sizeLine ∧ (a == sysModules) = false ∧
    ∃ xs, KT H kvs xs ∧ h.DictOfH (tupleKind (mixKind P w)) a xs := dt_rd ok (.inl e)
end

/-- what the dict at a holds at the key y -/
def DGet (H : Hp) (a : Addr) (y : V) (r : Option V) : Prop :=
  (∃ kvs k, Rd H a (.dK kvs) ∧ y = kV k ∧ r = valV kvs k) ∨ ∃ kvs k b, Rd H a (.dT kvs) ∧ y = .ref b ∧ H b = some (.tup (k.map kV)) ∧ r = valV kvs k
/-- the heap behind a[y] = v -/
def DPut (H : Hp) (a : Addr) (y v : V) (H' : Hp) : Prop :=
  (∃ kvs k, H a = some (.dK kvs) ∧ y = kV k ∧ kvs.length < sizeLine ∧ H' = upd H a (.dK (putK kvs k v))) ∨
  ∃ kvs k b, H a = some (.dT kvs) ∧ y = .ref b ∧ H b = some (.tup (k.map kV)) ∧ kvs.length < sizeLine ∧ H' = upd H a (.dT (putK kvs k v))
theorem DGet.k {H : Hp} {a : Addr} {kvs : List (Key × V)} {k : Key} (e : H a = some (.dK kvs)) : DGet H a (kV k) (valV kvs k) := .inl ⟨kvs, k, .inl e, rfl, rfl⟩
theorem DGet.t {H : Hp} {a b : Addr} {kvs : List (List Key × V)} {k : List Key} (e : H a = some (.dT kvs)) (eb : H b = some (.tup (k.map kV))) : DGet H a (.ref b) (valV kvs k) := .inr ⟨kvs, k, b, .inl e, rfl, eb, rfl⟩
theorem DPut.k {H : Hp} {a : Addr} {kvs : List (Key × V)} {k : Key} {v : V} (e : H a = some (.dK kvs)) (hl : kvs.length < sizeLine) : DPut H a (kV k) v (upd H a (.dK (putK kvs k v))) := .inl ⟨kvs, k, e, rfl, hl, rfl⟩
theorem DPut.t {H : Hp} {a b : Addr} {kvs : List (List Key × V)} {k : List Key} {v : V} (e : H a = some (.dT kvs)) (eb : H b = some (.tup (k.map kV))) (hl : kvs.length < sizeLine) :
    DPut H a (.ref b) v (upd H a (.dT (putK kvs k v))) := .inr ⟨kvs, k, b, e, rfl, eb, hl, rfl⟩


section
variable {X : Cx} {pins : List (Addr × Obj)} {σ : St} {H : Hp} {s : Shared} {a : Addr} {y v : V} {u r : Value} {o : Option V} {A : Around} {E : Value → Shared → Prop}

theorem Inv.big (I : Inv X pins σ H s) : sysModules < s.heap.objs.size := by
  have h : mainGlobals < s.heap.objs.size := (I.mod.glob.keeps I.bk).lt
  exact Nat.lt_trans (by decide) h

/-- d[y], there -/
theorem d_getItem {Q : Value → Shared → Prop} (hu : A.units + 1 < cLine) (I : Inv X pins σ H s) (g : DGet H a y (some v)) (ry : RelV y u) (h : ∀ w' s', Inv X pins σ H s' → RelV v w' → Q w' s') :
    wpAny (model X.prog X.w) A (getItem (.ref a) u) Q E s := by
  rcases g with ⟨kvs, k, e, ey, l⟩ | ⟨kvs, k, b, e, ey, eb, l⟩
  · subst ey
    obtain ⟨z, hd, vs, rel, dd⟩ := dk_rd I.hok e
    obtain ⟨w', hw, rw'⟩ := RelO.some_of (v := v) (o := valueAt vs k) (by rw [l]; exact rel.val k)
    exact wpAny_getItem_of (kV_is ry) dd.mapOf hw (h w' _ (I.tok _) rw')
  · subst ey
    cases (show u = Value.ref b from ry)
    obtain ⟨z, hd, xs, rel, dd⟩ := dt_rd I.hok e
    obtain ⟨w', hw, rw'⟩ := RelO.some_of (v := v) (o := (atKey xs k).map (·.2)) (by rw [l]; exact rel.val k)
    obtain ⟨p, hp, hp2⟩ := Option.map_eq_some_iff.mp hw
    refine wpAny_getItem_heap (tupleKind_room_in1 hu) (key_of I.hok eb) dd hp ?_
    rw [hp2]
    exact h w' _ (I.tok _) rw'
/-- y in d -/
theorem d_in {Q : Value → Shared → Prop} (hu : A.units + 1 < cLine) (I : Inv X pins σ H s) (g : DGet H a y o) (ry : RelV y u) (h : ∀ s', Inv X pins σ H s' → Q (.bool o.isSome) s') :
    wpAny (model X.prog X.w) A (compareOp .In u (.ref a)) Q E s := by
  rcases g with ⟨kvs, k, e, ey, l⟩ | ⟨kvs, k, b, e, ey, eb, l⟩
  · subst ey
    obtain ⟨z, hd, vs, rel, dd⟩ := dk_rd I.hok e
    refine wpAny_in_of (kV_is ry) hd dd.mapOf ?_
    rw [← (rel.val k).isSome_eq, ← l]
    exact h _ (I.tok _)
  · subst ey
    cases (show u = Value.ref b from ry)
    obtain ⟨z, hd, xs, rel, dd⟩ := dt_rd I.hok e
    refine wpAny_in_heap (tupleKind_room_in1 hu) (key_of I.hok eb) hd dd ?_
    have q := (rel.val k).isSome_eq
    rw [Option.isSome_map] at q
    rw [← q, ← l]
    exact h _ (I.tok _)
theorem d_notIn {Q : Value → Shared → Prop} (hu : A.units + 1 < cLine) (I : Inv X pins σ H s) (g : DGet H a y o) (ry : RelV y u) (h : ∀ s', Inv X pins σ H s' → Q (.bool (!o.isSome)) s') :
    wpAny (model X.prog X.w) A (compareOp .NotIn u (.ref a)) Q E s := by
  rcases g with ⟨kvs, k, e, ey, l⟩ | ⟨kvs, k, b, e, ey, eb, l⟩
  · subst ey
    obtain ⟨z, hd, vs, rel, dd⟩ := dk_rd I.hok e
    refine wpAny_notIn_of (kV_is ry) hd dd.mapOf ?_
    rw [← (rel.val k).isSome_eq, ← l]
    exact h _ (I.tok _)
  · subst ey
    cases (show u = Value.ref b from ry)
    obtain ⟨z, hd, xs, rel, dd⟩ := dt_rd I.hok e
    refine wpAny_notIn_heap (tupleKind_room_in1 hu) (key_of I.hok eb) hd dd ?_
    have q := (rel.val k).isSome_eq
    rw [Option.isSome_map] at q
    rw [← q, ← l]
    exact h _ (I.tok _)
/-- a dict's object is replaced -/
theorem d_write {h' : Heap} {t' : Nat} {ob : HO} (I : Inv X pins σ H s) (mu : Mut (H a)) (hs : Heap.SameBut a s.heap h') (he : ∃ q, h'.get? a = some q) (new : ObjOk X.prog X.w (upd H a ob) h' a ob) :
    Inv X pins σ (upd H a ob) { s with heap := h', toks := t' } :=
  I.write (x := a) (e := a) mu (.inl rfl) (fun b q hb z => (hs.2 b hb).trans z) he new
theorem dk_new {P : Program} {w : World} {H' : Hp} {h' : Heap} {kvs : List (Key × V)} {vs : List (Key × Value)} (z : kvs.length ≤ sizeLine) (hd : (a == sysModules) = false) (rel : KV kvs vs) (dd : h'.DictOf (mixKind P w) a vs) :
    ObjOk P w H' h' a (.dK kvs) := ⟨z, hd, vs, rel, dd⟩
/-- d[y] = v -/
theorem d_setItem {H' : Hp} {Q : Unit → Shared → Prop} (hu : A.units + 1 < cLine) (I : Inv X pins σ H s) (g : DPut H a y v H') (ry : RelV y u) (rv : RelV v r) (h : ∀ s', Inv X pins σ H' s' → Q () s') :
    wpAny (model X.prog X.w) A (setItem (.ref a) u r) Q E s := by
  rcases g with ⟨kvs, k, e, ey, l, eH⟩ | ⟨kvs, k, b, e, ey, eb, l, eH⟩
  · subst ey eH
    obtain ⟨z, hd, vs, rel, dd⟩ := dk_of I.hok e
    have hz : vs.length ≤ sizeLine := by rw [← rel.length]; exact z
    have hl : (putK kvs k v).length ≤ sizeLine := by have := length_putK kvs k v; omega
    refine wpAny_setItem_pairs (hsz := hz) (kV_is ry) dd fun h' dd' hs => h _ ?_
    have he : ∃ q, h'.get? a = some q := let ⟨q, _, _, hq, _⟩ := dd'; ⟨q, hq⟩
    exact d_write I (by rw [e]; exact True.intro) hs he (dk_new hl hd (rel.put k rv) dd')
  · subst ey eH
    cases (show u = Value.ref b from ry)
    obtain ⟨z, hd, xs, rel, dd⟩ := dt_of I.hok e
    have hz : xs.length ≤ sizeLine := by rw [← Paired.length rel]; exact z
    have hl : (putK kvs k v).length ≤ sizeLine := by have := length_putK kvs k v; omega
    refine wpAny_setItem_heap (hsz := hz) (tupleKind_room_in1 hu) (key_of I.hok eb) dd fun h' dd' hs => h _ ?_
    obtain ⟨q, es, ep, hq, h2, h3, h4, _, h5⟩ := dd'
    refine d_write I (by rw [e]; exact True.intro) hs ⟨q, hq⟩ ⟨hl, hd, _, (rel.put k eb rv).keeps fun c ys ec => ?_, q, es, ep, hq, h2, h3, h4, h5⟩
    rw [upd_ne (ne_of ec e (fun z => nomatch z))]
    exact ec
end

section
variable {X : Cx} {pins : List (Addr × Obj)} {σ : St} {H : Hp} {s : Shared} {a : Addr} {kvs : List (Key × V)} {k : Key} {u : Value} {A : Around} {E : Value → Shared → Prop}
/-- len(d) -/
theorem d_len {Q : Value → Shared → Prop} (I : Inv X pins σ H s) (e : Rd H a (.dK kvs)) (h : ∀ t s', Inv X pins σ H s' → Q (.int kvs.length t) s') : wpAny (model X.prog X.w) A (call (.builtin "len") [.ref a]) Q E s := by
  obtain ⟨z, hd, vs, rel, dd⟩ := dk_rd I.hok e
  refine call_len_dict hd dd (by rw [← rel.length]; rw [sizeLine_eq] at z; omega) ?_
  rw [← rel.length]
  exact h _ _ (I.tok _)
end


/-! ### readings and rules -/
theorem dict_typeIs {X : Cx} {pins : List (Addr × Obj)} {σ : St} {H : Hp} {s : Shared} {a : Addr} {y : V} {o : Option V} (I : Inv X pins σ H s) (g : DGet H a y o) : s.TypeIs (.ref a) "dict" := by
  rcases g with ⟨kvs, k, e, _, _⟩ | ⟨kvs, k, b, e, _, _, _⟩
  · obtain ⟨_, _, vs, _, dd⟩ := dk_rd I.hok e
    exact dd.typeIs
  · obtain ⟨_, _, xs, _, dd⟩ := dt_rd I.hok e
    exact dd.typeIs
/-- d[y] -/
def tDGet (td ty : TE) : TE := fun σ H Q => td σ H fun x H1 => ty σ H1 fun y H2 => ∃ a v, x = .ref a ∧ DGet H2 a y (some v) ∧ Q v H2
/-- d[y] = v -/
def sDPut (td ty tv : TE) : TS := fun D σ H => tv σ H fun v H1 => td σ H1 fun x H2 => ty σ H2 fun y H3 => ∃ a H4, x = .ref a ∧ DPut H3 a y v H4 ∧ D.nx σ H4
section
variable {X : Cx} {o i e value : Expr} {pos pos' tpos : Pos} {td ty tv : TE}
end


/-! ### displays -/
theorem dk_empty {P : Program} {w : World} {H : Hp} (h : Heap) (hb : sysModules < h.objs.size) : ObjOk P w H (h.push { cls := .type "dict", data := .dict #[] }) h.objs.size (.dK []) :=
  ⟨Nat.zero_le _, beq_eq_false_iff_ne.mpr (Ne.symm (Nat.ne_of_lt hb)), [], .nil, Heap.DictOf.new h⟩
/-- {}, to be a dict of the kind that is wanted -/
def tDNewK : TE := fun _ H Q => ∀ p, H p = none → Q (.ref p) (upd H p (.dK []))
section
variable {X : Cx} {pos : Pos}
theorem pe_dnewK : PE X (.Dict [] [] pos) tDNewK := fun pins s σ H Q I h =>
  wpAny_Dict_empty ⟨.ref s.heap.objs.size, _, I.laid (a := s.heap.objs.size) (o := .dK []) (t' := s.toks) (fun _ _ q => Heap.get?_push_of_some _ q) (Nat.le_refl _) (dk_empty s.heap I.big), rfl, h _ (I.hok.fresh (Nat.le_refl _))⟩
end

/-- the pairs of a display, from the left -/
def tPairs : List (TE × TE) → St → Hp → (List (V × V) → Hp → Prop) → Prop
  | [], _, H, Q => Q [] H
  | (tk, tv) :: r, σ, H, Q => tk σ H fun x H1 => tv σ H1 fun y H2 => tPairs r σ H2 fun ps H3 => Q ((x, y) :: ps) H3
abbrev VV : List (V × V) → List (Value × Value) → Prop := Paired fun p q => RelV p.1 q.1 ∧ RelV p.2 q.2
def PPs (X : Cx) (pos : Pos) (keys : List (Option Expr)) (values : List Expr) (trs : List (TE × TE)) : Prop :=
  ∀ (pins : List (Addr × Obj)) (s : Shared) (σ : St) (H : Hp) (Q : List (V × V) → Hp → Prop), Inv X pins σ H s → tPairs trs σ H Q →
    wpAny (model X.prog X.w) X.A (evalPairs (pairTrees keys values X.env pos)) (fun vs s' => ∃ ps H', Inv X pins σ H' s' ∧ VV ps vs ∧ Q ps H') X.xe s
theorem pps_nil {X : Cx} {pos : Pos} : PPs X pos [] [] [] := fun pins s σ H Q I h => pairTrees_nil_walk ⟨[], H, I, .nil, h⟩
theorem pps_cons {X : Cx} {pos : Pos} {k v : Expr} {ks : List (Option Expr)} {vs : List Expr} {tk tv : TE} {trs : List (TE × TE)} (hk : PE X k tk) (hv : PE X v tv) (hr : PPs X pos ks vs trs) :
    PPs X pos (some k :: ks) (v :: vs) ((tk, tv) :: trs) := fun pins s σ H Q I h =>
  pairTrees_cons_walk (thn (hk pins s σ H _ I h) fun u s1 ⟨x, H1, I1, rx, q1⟩ => thn (hv pins s1 σ H1 _ I1 q1) fun w2 s2 ⟨y, H2, I2, ry, q2⟩ =>
    thn (hr pins s2 σ H2 _ I2 q2) fun ws s3 ⟨ps, H3, I3, rel, q3⟩ => ⟨(x, y) :: ps, H3, I3, .cons ⟨rx, ry⟩ rel, q3⟩)

def mergeK (kvs more : List (Key × V)) : List (Key × V) := more.foldl (fun acc kv => putK acc kv.1 kv.2) kvs
theorem KV.merge : ∀ {more : List (Key × V)} {rs : List (Key × Value)} {kvs : List (Key × V)} {vs : List (Key × Value)}, KV more rs → KV kvs vs → KV (mergeK kvs more) (merged vs rs) := by
  intro more rs kvs vs r
  unfold KV at r
  induction r generalizing kvs vs with
  | nil => intro q; exact q
  | @cons p q ps qs h t ih =>
    intro r0
    have e : KV (putK kvs p.1 p.2) (stored vs q.1 q.2) := by
      have := r0.put p.1 h.2
      rw [← h.1]; exact this
    exact ih e
theorem length_mergeK : ∀ (more kvs : List (Key × V)), (mergeK kvs more).length ≤ kvs.length + more.length
  | [], kvs => by show kvs.length ≤ kvs.length + 0; omega
  | p :: r, kvs => by
    have h1 := length_mergeK r (putK kvs p.1 p.2)
    have h2 := length_putK kvs p.1 p.2
    show (mergeK (putK kvs p.1 p.2) r).length ≤ _
    rw [List.length_cons]; omega
theorem carries_of {P : Program} {w : World} : ∀ {kvs : List (Key × V)} {ws : List (Value × Value)}, VV (kvs.map fun kv => (kV kv.1, kv.2)) ws → ∃ rs, Carries (mixKind P w) ws rs ∧ KV kvs rs
  | [], _, r => by rw [List.map_nil] at r; cases r; exact ⟨[], True.intro, .nil⟩
  | p :: kvs, _, r => by
    rw [List.map_cons] at r
    cases r with
    | @cons a b as bs h t =>
      obtain ⟨rs, c, q⟩ := carries_of (P := P) (w := w) t
      obtain ⟨b1, b2⟩ := b
      exact ⟨(p.1, b2) :: rs, ⟨kV_is h.1, rfl, c⟩, .cons ⟨rfl, h.2⟩ q⟩
/-- {k: v, ..} with keys ints and texts; the new dict stands empty while the pairs are made -/
def tDisp (trs : List (TE × TE)) : TE := fun σ H Q => ∀ p, H p = none → tPairs trs σ (upd H p (.dK [])) fun ps H2 => H2 p = some (.dK []) ∧ ∃ kvs : List (Key × V), ps = kvs.map (fun kv => (kV kv.1, kv.2)) ∧ kvs.length ≤ 15 ∧ Q (.ref p) (upd H2 p (.dK (mergeK [] kvs)))
theorem pe_disp {X : Cx} {pos : Pos} {keys : List (Option Expr)} {values : List Expr} {trs : List (TE × TE)} (h : PPs X pos keys values trs) (hall : keys.all (·.isSome) = true) (hl : keys.length = values.length) (h0 : keys ≠ [])
    (h15 : keys.length ≤ 15) : PE X (.Dict keys values pos) (tDisp trs) := by
  intro pins s σ H Q I q
  have hn := I.hok.fresh (Nat.le_refl s.heap.objs.size)
  have I1 := I.laid (a := s.heap.objs.size) (o := .dK []) (h' := s.heap.push { cls := .type "dict", data := .dict #[] }) (t' := s.toks) (fun _ _ q => Heap.get?_push_of_some _ q) (Nat.le_refl _) (dk_empty s.heap I.big)
  refine wpAny_Dict_walk (knd := mixKind X.prog X.w) hall hl h0 h15 (thn (h pins _ σ _ _ I1 (q _ hn)) fun ws s2 ⟨ps, H2, I2, rel, e, kvs, ep, lk, q2⟩ => ?_)
  subst ep
  obtain ⟨rs, c, rk⟩ := carries_of (P := X.prog) (w := X.w) rel
  obtain ⟨z, hd, vs0, r0, dd⟩ := dk_of I2.hok e
  cases r0
  refine ⟨rs, c, dd, fun h' dd' hs => ⟨.ref s.heap.objs.size, _, ?_, rfl, q2⟩⟩
  have hz : (mergeK [] kvs).length ≤ sizeLine := by
    have h1 := length_mergeK kvs []
    rw [List.length_nil] at h1
    rw [sizeLine_eq]; omega
  have he : ∃ q, h'.get? s.heap.objs.size = some q := let ⟨q, _, _, hq, _⟩ := dd'; ⟨q, hq⟩
  exact d_write I2 (by rw [e]; exact True.intro) hs he (dk_new hz hd (rk.merge .nil) dd')


/-! ### methods -/
/-- a method call o.m(e) of a built-in, with one argument: what must be seen of the text -/
structure M1 (X : Cx) (o : Expr) (m : Str) (apos : Pos) (e : Expr) (cpos : Pos) : Prop where
  base : attributeBase o m X.env (eval o X.env) = eval o X.env
  few : ((backTo cpos (starEach [e] X.env)).all (fun x => !x.1) && (backToKw cpos (keywordEach [] X.env)).all (fun x => x.1.isSome)
    && decide (([e] : List Expr).length + ([] : List Keyword).length + (if ([] : List Keyword).isEmpty then 0 else 1) < 30)) = true
  line : (apos.endLine == cpos.line) = true
  trees : backTo cpos (starEach [e] X.env) = [(false, eval e X.env)]
structure M2 (X : Cx) (o : Expr) (m : Str) (apos : Pos) (e f : Expr) (cpos : Pos) : Prop where
  base : attributeBase o m X.env (eval o X.env) = eval o X.env
  few : ((backTo cpos (starEach [e, f] X.env)).all (fun x => !x.1) && (backToKw cpos (keywordEach [] X.env)).all (fun x => x.1.isSome)
    && decide (([e, f] : List Expr).length + ([] : List Keyword).length + (if ([] : List Keyword).isEmpty then 0 else 1) < 30)) = true
  line : (apos.endLine == cpos.line) = true
  trees : backTo cpos (starEach [e, f] X.env) = [(false, eval e X.env), (false, eval f X.env)]

/-- a is a dict, whatever its keys -/
def IsD (H : Hp) (a : Addr) : Prop := (∃ kvs, Rd H a (.dK kvs)) ∨ ∃ kvs, Rd H a (.dT kvs)
theorem isD_at {X : Cx} {pins : List (Addr × Obj)} {σ : St} {H : Hp} {s : Shared} {a : Addr} (I : Inv X pins σ H s) (d : IsD H a) :
    s.TypeIs (.ref a) "dict" ∧ (∀ b, Value.ref a = .ref b → ∃ ob, s.heap.get? b = some ob ∧ ob.dict = none) ∧ (a == sysModules) = false := by
  rcases d with ⟨kvs, e⟩ | ⟨kvs, e⟩
  · obtain ⟨_, hd, vs, _, dd⟩ := dk_rd I.hok e
    refine ⟨dd.typeIs, fun b q => ?_, hd⟩
    cases q
    obtain ⟨ob, _, _, h1, h2, _⟩ := dd
    exact ⟨ob, h1, h2.2.1⟩
  · obtain ⟨_, hd, xs, _, dd⟩ := dt_rd I.hok e
    refine ⟨dd.typeIs, fun b q => ?_, hd⟩
    cases q
    obtain ⟨ob, _, _, h1, h2, _⟩ := dd
    exact ⟨ob, h1, h2.2.1⟩

section
variable {X : Cx} {pins : List (Addr × Obj)} {σ : St} {H : Hp} {s : Shared} {a : Addr} {y d : V} {u r : Value} {o : Option V} {A : Around} {E : Value → Shared → Prop}
/-- d.get(y, x) -/
theorem d_get2 {Q : Value → Shared → Prop} (hu : A.units + 1 < cLine) (I : Inv X pins σ H s) (g : DGet H a y o) (ry : RelV y u) (rd : RelV d r) (h : ∀ w' s', Inv X pins σ H s' → RelV (o.getD d) w' → Q w' s') :
    wpAny (model X.prog X.w) A (call (.builtin "dict.get") [.ref a, u, r]) Q E s := by
  rcases g with ⟨kvs, k, e, ey, l⟩ | ⟨kvs, k, b, e, ey, eb, l⟩
  · subst ey
    obtain ⟨z, hd, vs, rel, dd⟩ := dk_rd I.hok e
    refine call_meetsIn PySem.F.slot_dict_get dd.typeIs PySem.F.entry_dict_get (PySem.F.args_dict_get_3 _ _ _) (meets_dict_get_default (mixKind X.prog X.w) a (kV_is ry) hd r) ⟨_, dd.mapOf, h _ _ (I.tok _) ?_⟩
    rw [l]
    exact (rel.val k).getD rd
  · subst ey
    cases (show u = Value.ref b from ry)
    obtain ⟨z, hd, xs, rel, dd⟩ := dt_rd I.hok e
    refine call_meetsIn PySem.F.slot_dict_get dd.typeIs PySem.F.entry_dict_get (PySem.F.args_dict_get_3 _ _ _) (meetsH_dict_get_default (tupleKind (mixKind X.prog X.w)) a b hd r) ⟨tupleKind_room_in1 hu, k, xs, key_of I.hok eb, dd, h _ _ (I.tok _) ?_⟩
    rw [l]
    exact (rel.val k).getD rd
end

section
variable {X : Cx} {o e f : Expr} {apos cpos : Pos} {td ty tx : TE}
end

/-! ### dict(d): a copy -/
section
variable {X : Cx} {pins : List (Addr × Obj)} {σ : St} {H : Hp} {s : Shared} {a : Addr} {kvs : List (Key × V)} {A : Around} {E : Value → Shared → Prop}
end


section
variable {X : Cx} {pins : List (Addr × Obj)} {σ : St} {H : Hp} {s : Shared} {a : Addr} {y : V} {u : Value} {A : Around} {E : Value → Shared → Prop}
end
end L2

namespace L2
open PySem PySem.Spec PyProof.Rows
/-! ### a dict's pairs: keys that differ -/
section
variable {κ : Type} [DecidableEq κ]
theorem valV_not {kvs : List (κ × V)} {k : κ} (h : valV kvs k = none) : ¬ k ∈ kvs.map (·.1) := by
  intro m
  obtain ⟨p, hp, e⟩ := List.mem_map.mp m
  have q : (kvs.any fun kv => decide (kv.1 = k)) = true := List.any_eq_true.mpr ⟨p, hp, decide_eq_true e⟩
  rw [valV_any, h] at q
  exact absurd q (by simp)
theorem nd_snoc : ∀ {l : List κ} {k : κ}, l.Nodup → ¬ k ∈ l → (l ++ [k]).Nodup
  | [], k, _, _ => by simp
  | a :: r, k, h, hk => by
    obtain ⟨h1, h2⟩ := List.nodup_cons.mp h
    show (a :: (r ++ [k])).Nodup
    refine List.nodup_cons.mpr ⟨fun m => ?_, nd_snoc h2 fun m => hk (List.mem_cons.mpr (Or.inr m))⟩
    rcases List.mem_append.mp m with q | q
    · exact h1 q
    · exact hk (List.mem_cons.mpr (Or.inl (List.mem_singleton.mp q).symm))
theorem nd_putK {kvs : List (κ × V)} {k : κ} (v : V) (hn : (kvs.map (·.1)).Nodup) (h : valV kvs k = none) : ((putK kvs k v).map (·.1)).Nodup := by
  rw [putK_new v h, List.map_append]
  exact nd_snoc hn (valV_not h)
end
end L2
/-! A list comprehension in the hand layer: one clause, any target, any tests. -/
namespace L2
open PySem PySem.Spec PyProof.Rows

section
variable {prog : Program} {w : World} {A : Around} {R : Result → Shared → Prop} {s : Shared}
abbrev testsOf (ifs : List Expr) (env : Env) : Sem Bool :=
  forIn ifs true fun c r => if r = true then do let ok ← isTrue c env (eval c env); pure (ForInStep.yield ok) else pure (ForInStep.yield r)

theorem compLoop_gen {elt target iter : Expr} {ifs : List Expr} {scope : Scope} {pos : Pos} {it acc : Value} {env : Env} {nE : Value → Shared → Prop} (hE : nE = notedBy (model prog w) A env fun e s' => R (.error e) s') (I : Nat → Shared → Prop)
    (turn : ∀ n s, I n s → wpAny (model prog w) A (pyNext it) (fun r s1 => match r with
      | none => R (.ok .next) s1
      | some v => wpAny (model prog w) A (letOwnedTupleGo target it v) (fun _ s1b => wpAny (model prog w) A (assign target env v) (fun _ s2 =>
          wpAny (model prog w) A (testsOf ifs env) (fun ok s3 =>
            if ok = true then wpAny (model prog w) A (eval elt env) (fun x s4 =>
              wpAny (model prog w) A (call (.builtin "list.append") [acc, x]) (fun _ s5 => ∃ m, m < n ∧ I m s5) nE s4) nE s3
            else ∃ m, m < n ∧ I m s3) nE s2) nE s1b) nE s1) nE s)
    (n : Nat) (h : I n s) :
    codeAny (model prog w) A (.compLoop (.ListComp elt [⟨target, iter, ifs, 0⟩] scope pos) 0 it acc env) R s := by
  subst hE
  refine codeAny_loop rfl I (fun n s hI => ?_) n h
  show wpAny _ A ((compTurn (.ListComp elt [⟨target, iter, ifs, 0⟩] scope pos) 0 it acc env).onRaise (fun x => do noteFrame x env; theTreesLotGoes x)) _ _ s
  refine wpAny_noted ?_
  rw [compTurn_list]
  refine wpAny_bind (wpAny_standAt (wpAny_bind (wpAny_mono (turn n s hI) (fun r s1 h1 => ?_) fun _ _ h' => h')))
  cases r with
  | none => exact wpAny_pure h1
  | some v =>
    refine wpAny_bind (wpAny_mono h1 (fun _ s1b h1b => ?_) fun _ _ h' => h')
    refine wpAny_bind (wpAny_mono h1b (fun _ s2 h2 => wpAny_bind (wpAny_mono h2 (fun ok s3 h3 => ?_) fun _ _ h' => h')) fun _ _ h' => h')
    cases ok with
    | false => exact wpAny_pure ⟨rfl, h3⟩
    | true =>
      exact wpAny_bind (wpAny_bind (wpAny_mono h3 (fun x s4 h4 => wpAny_bind (wpAny_mono h4 (fun _ s5 h5 => wpAny_pure (wpAny_pure ⟨rfl, h5⟩)) fun _ _ h' => h')) fun _ _ h' => h'))
end

/-! ### the block's cells -/
def clOf (cells : List (Str × Addr)) : List (Str × NameKind) → List (Str × Addr) → List (Str × Addr)
  | [], acc => acc
  | (n, k) :: r, acc => clOf cells r (if k == NameKind.free then (n, (cells.lookup n).getD 0) :: acc else acc)

theorem closure_forIn (env : Env) : ∀ (names : List (Str × NameKind)) (acc : List (Str × Addr)), (∀ y ∈ names, y.2 = .free → ∃ c, env.cells.lookup y.1 = some c) →
    (forIn names acc fun x (r : List (Str × Addr)) => match x with
      | (name, kind) => if (kind == NameKind.free) = true then (do let a ← cellOf env name; pure (ForInStep.yield ((name, a) :: r))) else pure (ForInStep.yield r) : Sem (List (Str × Addr))) = pure (clOf env.cells names acc)
  | [], acc, _ => by simp [clOf]
  | (n, k) :: r, acc, h => by
    have ih := fun acc => closure_forIn env r acc fun y hy => h y (List.mem_cons_of_mem _ hy)
    rw [List.forIn_cons]
    unfold clOf
    by_cases hk : k = .free
    · subst hk
      obtain ⟨c, e⟩ := h (n, .free) List.mem_cons_self rfl
      simp only [beq_self_eq_true, if_true, cellOf, e, Option.getD_some, pure_bind]
      exact ih _
    · have hb : (k == NameKind.free) = false := by simpa using hk
      simp only [hb, Bool.false_eq_true, if_false, pure_bind]
      exact ih _

theorem closureFor_eq {scope : Scope} {env : Env} (h : ∀ y ∈ scope.names, y.2 = .free → ∃ c, env.cells.lookup y.1 = some c) : closureFor scope env = pure (clOf env.cells scope.names []) := by
  have e := closure_forIn env scope.names [] h
  unfold closureFor
  first
    | (rw [e]; rfl)
    | (simp only [bind_pure]; exact e)
    | (show (_ >>= _) = _; rw [e]; rfl)

theorem clOf_lookup {cells : List (Str × Addr)} {x : Str} {c : Addr} : ∀ (names : List (Str × NameKind)) (acc : List (Str × Addr)), (∀ y ∈ names, y.2 = .free → ∃ c, cells.lookup y.1 = some c) →
    (∀ d, acc.lookup x = some d → cells.lookup x = some d) → (clOf cells names acc).lookup x = some c → cells.lookup x = some c
  | [], acc, _, ha, e => ha c e
  | (n, k) :: r, acc, h, ha, e => by
    unfold clOf at e
    refine clOf_lookup r _ (fun y hy => h y (List.mem_cons_of_mem _ hy)) (fun d hd => ?_) e
    by_cases hk : k = .free
    · subst hk
      obtain ⟨c', e'⟩ := h (n, .free) List.mem_cons_self rfl
      have e2 : cells.lookup n = some c' := e'
      rw [if_pos (beq_self_eq_true _), e2] at hd
      cases hx : x == n with
      | true =>
        have : x = n := eq_of_beq hx
        subst this
        simp only [List.lookup_cons, hx, Option.getD_some] at hd
        rw [e2]
        exact hd
      | false =>
        simp only [List.lookup_cons, hx] at hd
        exact ha d hd
    · have hb : ¬ (k == NameKind.free) = true := by simpa using hk
      rw [if_neg hb] at hd
      exact ha d hd

theorem clOf_keeps {cells : List (Str × Addr)} {x : Str} : ∀ (names : List (Str × NameKind)) (acc : List (Str × Addr)), (acc.lookup x).isSome = true → ((clOf cells names acc).lookup x).isSome = true
  | [], _, h => h
  | (n, k) :: r, acc, h => by
    unfold clOf
    refine clOf_keeps r _ ?_
    by_cases hk : (k == NameKind.free) = true
    · rw [if_pos hk]
      cases hx : x == n with
      | true => simp only [List.lookup_cons, hx, Option.isSome_some]
      | false => simp only [List.lookup_cons, hx]; exact h
    · rw [if_neg hk]; exact h

theorem clOf_has {cells : List (Str × Addr)} {x : Str} : ∀ (names : List (Str × NameKind)) (acc : List (Str × Addr)), (x, NameKind.free) ∈ names → ((clOf cells names acc).lookup x).isSome = true
  | (n, k) :: r, acc, h => by
    unfold clOf
    rcases List.mem_cons.mp h with e | h
    · cases e
      refine clOf_keeps r _ ?_
      rw [if_pos (beq_self_eq_true _)]
      simp only [List.lookup_cons, beq_self_eq_true, Option.isSome_some]
    · exact clOf_has r _ h

theorem relab_lookup {env : Env} (x : Str) : ∀ names : List (Str × NameKind),
    (names.map fun (n, k) => if (k == NameKind.free && env.scope.kind == .function && env.kindOf n == some .cell) then (n, NameKind.cell) else (n, k)).lookup x =
      (names.lookup x).map fun k => if (k == NameKind.free && env.scope.kind == .function && env.kindOf x == some .cell) then NameKind.cell else k
  | [] => rfl
  | (n, k) :: r => by
    have ih := relab_lookup (env := env) x r
    rw [List.map_cons]
    cases hx : x == n with
    | true =>
      have : x = n := eq_of_beq hx
      subst this
      show List.lookup x ((if (k == NameKind.free && env.scope.kind == .function && env.kindOf x == some .cell) = true then (x, NameKind.cell) else (x, k)) :: _) = _
      by_cases hc : (k == NameKind.free && env.scope.kind == .function && env.kindOf x == some .cell) = true
      · rw [if_pos hc]; simp only [List.lookup_cons, hx, Option.map_some]; rw [if_pos hc]
      · rw [if_neg hc]; simp only [List.lookup_cons, hx, Option.map_some]; rw [if_neg hc]
    | false =>
      show List.lookup x ((if (k == NameKind.free && env.scope.kind == .function && env.kindOf n == some .cell) = true then (n, NameKind.cell) else (n, k)) :: _) = _
      by_cases hc : (k == NameKind.free && env.scope.kind == .function && env.kindOf n == some .cell) = true
      · rw [if_pos hc]; simp only [List.lookup_cons, hx]; exact ih
      · rw [if_neg hc]; simp only [List.lookup_cons, hx]; exact ih

/-- what is asked of the block's names: own are the clause's, caps are captured -/
structure CScope (own caps : List Str) (scope osc : Scope) : Prop where
  kind : scope.kind = .function
  nocell : ∀ y ∈ scope.names, y.2 ≠ .cell
  loc : ∀ y ∈ scope.names, y.2 = .local → scope.names.lookup y.1 = some .local
  fr : ∀ y ∈ scope.names, y.2 = .free → osc.names.lookup y.1 = some .cell ∨ osc.names.lookup y.1 = some .free
  cap : ∀ x ∈ caps, scope.names.lookup x = some .free
  nd : (own ++ caps).Nodup

/-- the block's context -/
def cxC (X : Cx) (scope : Scope) (N' : List Str) (C : Addr) (fp : List Addr) (s : Shared) (H : Hp) : Cx where
  prog := X.prog
  w := X.w
  K := X.K
  mg := X.mg
  base := X.base
  A := X.A
  N := N'
  s₀ := s
  H₀ := H
  env := compEnvC scope (clOf X.env.cells scope.names []) C X.env
  outer := X.stack
  stack := X.stack
  ex := fp
  fn := fun _ => false
  calm := X.calm
  pn := X.pn
  xe := fun _ _ => False

/-- the block's slots: own ones unset, captured ones as they stand -/
def cSt (n : Nat) (js : List Nat) (σ : St) : St := List.replicate n none ++ js.map fun j => (σ[j]?).join

/-- the tests of a clause -/
def PF (X : Cx) (ifs : List Expr) (t : TT) : Prop :=
  ∀ (pins : List (Addr × Obj)) (s : Shared) (σ : St) (H : Hp) (Q : Bool → Hp → Prop), Inv X pins σ H s → t σ H Q → wpAny (model X.prog X.w) X.A (testsOf ifs X.env) (TP X pins σ Q) X.xe s
def tYes : TT := fun _ H Q => Q true H
theorem pf_nil {X : Cx} : PF X [] tYes := fun pins s σ H Q I h => by
  show wpAny _ _ (forIn [] true _) _ _ s
  rw [List.forIn_nil]
  exact wpAny_pure ⟨H, I, h⟩
theorem pf_one {X : Cx} {c : Expr} {tc : TT} (hc : PT X c tc) : PF X [c] tc := fun pins s σ H Q I h => by
  show wpAny _ _ (forIn [c] true _) _ _ s
  rw [List.forIn_cons]
  simp only [List.forIn_nil, if_true]
  refine wpAny_bind (wpAny_bind (thn (hc pins s σ H Q I h) fun b s1 q => wpAny_pure ?_))
  exact wpAny_pure q

/-- W: the invariant by the turn, a measure, what was gathered; D: where it is gathered -/
def tComp (n : Nat) (js : List Nat) (wi : TI) (g : TG) (tc : TT) (te : TE) : TE := fun σ H Q => wi σ H fun J H1 => ∀ D, H1 D = none → ∃ W : Nat → Nat → List V → Hp → Prop, (∃ m, W 0 m [] (upd H1 D (.lst []))) ∧ ∀ i m acc H, W i m acc H →
  H D = some (.lst acc) ∧ ((J.stop i H ∧ Q (.ref D) H) ∨ (J.go i H ∧ acc.length < sizeLine ∧ ∃ Nx : List V → Hp → Prop, (∀ acc' H', Nx acc' H' → ∃ m', m' < m ∧ W (i + 1) m' acc' H') ∧
    ∀ x H', J.yld i H x H' → g x (cSt n js σ) H' fun σ2 H2 => σ2.drop n = (cSt n js σ).drop n ∧ tc σ2 H2 fun b H3 => if b = true then te σ2 H3 fun v H4 => H4 D = some (.lst acc) ∧ Nx (acc ++ [v]) (upd H4 D (.lst (acc ++ [v]))) else H3 D = some (.lst acc) ∧ Nx acc H3))

section
variable {X : Cx} {pins : List (Addr × Obj)} {σ : St} {H : Hp} {s : Shared}

abbrev capN (X : Cx) (js : List Nat) : List Str := js.map fun j => (X.N[j]?).getD Str.empty
theorem js_ok {X : Cx} {js : List Nat} (h : (js.all fun j => decide (j < X.N.length)) = true) : ∀ j ∈ js, ∃ x, X.N[j]? = some x := fun j hj => by
  have := of_decide_eq_true (List.all_eq_true.mp h j hj)
  exact ⟨X.N[j], List.getElem?_eq_getElem this⟩

/-- the block begins: its frame is laid at C -/
theorem Inv.block {scope : Scope} {own : List Str} {js : List Nat} {fp : List Addr} {h' : Heap} {t' : Nat} {m : Str → Option Value} (I : Inv X pins σ H s) (S : CScope own (capN X js) scope X.env.scope) (hj : ∀ j ∈ js, ∃ x, X.N[j]? = some x)
    (hf : ∀ b ∈ fp, FpOk X pins H b) (hfo : ∀ b ∈ fp, ∃ o, s.heap.get? b = some o) (hn : h'.Ns s.heap.objs.size m) (hk : ∀ b o, s.heap.get? b = some o → h'.get? b = some o) :
    Inv (cxC X scope (own ++ capN X js) s.heap.objs.size fp s H) pins (cSt own.length js σ) H { s with heap := h', toks := t' } := by
  have hfr : ∀ y ∈ scope.names, y.2 = .free → ∃ c, X.env.cells.lookup y.1 = some c := fun y hy e => I.ok.has y.1 (S.fr y hy e)
  have hcl : ∀ x c, (clOf X.env.cells scope.names []).lookup x = some c → X.env.cells.lookup x = some c := fun x c e => clOf_lookup scope.names [] hfr (fun d z => nomatch z) e
  have hlt : ∀ b o, s.heap.get? b = some o → b ≠ s.heap.objs.size := fun b o e => Nat.ne_of_lt (Heap.lt_size e)
  have nstk : ∀ b, b ≠ X.env.locals → b ∉ X.fs → b ∉ frs X.stack := fun b h1 h2 hb => (List.mem_cons.mp (I.stkSub b hb)).elim h1 h2
  have hrl : ∀ x, (relabel scope X.env).names.lookup x = (scope.names.lookup x).map fun k => if (k == NameKind.free && X.env.scope.kind == .function && X.env.kindOf x == some .cell) then NameKind.cell else k := fun x => relab_lookup x scope.names
  refine ⟨⟨I.ok.mod, S.kind, I.ok.glob, I.ok.blt, Nat.le_refl _, fun x y c h1 h2 => I.ok.inj x y c (hcl x c h1) (hcl y c h2), fun x hx => ?_, (fun x c z => nomatch z), I.ok.hd, I.ok.frames, .inl rfl, fun b hb => ?_, I.bs, Nat.le_trans I.ok.bsz I.sz, fun b o e hb => ?_, fun b hb => ?_, I.stack, I.stkFree⟩,
    rfl, I.bare, Un.kept hk, ⟨m, hn, fun i x v h1 h2 h3 => ?_⟩, fun x c e => ?_, I.hok.fresh (Nat.le_refl _), fun x c e => I.freeC x c (hcl x c e), fun p hp => ?_, I.hok.kept hk, ?_⟩
  · have hx' : (relabel scope X.env).names.lookup x = some .cell ∨ (relabel scope X.env).names.lookup x = some .free := hx
    rw [hrl] at hx'
    cases e : scope.names.lookup x with
    | none => rw [e] at hx'; rcases hx' with z | z <;> cases z
    | some k =>
      have hm : (x, k) ∈ scope.names := PySem.mem_of_lookup e
      have hkf : k = .free := by
        rw [e] at hx'
        cases k with
        | free => rfl
        | cell => exact absurd rfl (S.nocell _ hm)
        | _ => exfalso; revert hx'; simp
      subst hkf
      exact Option.isSome_iff_exists.mp (clOf_has scope.names [] hm)
  · obtain ⟨o, e⟩ := hfo b hb
    obtain ⟨_, _, _, _, f4, _⟩ := hf b hb
    exact ⟨hlt b o e, fun x c z => f4 x c (hcl x c z)⟩
  · obtain ⟨_, _, _, f3, _⟩ := hf b hb
    rcases f3 with z | z
    · exact I.ok.noex b o e z
    · exact absurd (Nat.lt_of_lt_of_le (Heap.lt_size (I.ok.bs b o e).1) z) (Nat.lt_irrefl _)
  · obtain ⟨_, f1, f2, _⟩ := hf b hb
    exact nstk b f1 f2
  · -- a captured name
    have h1' : (own ++ capN X js)[i]? = some x := h1
    have hi : own.length ≤ i := by
      rcases Nat.lt_or_ge i own.length with z | z
      · exfalso
        unfold cSt at h2
        rw [List.getElem?_append_left (by simpa using z), List.getElem?_replicate] at h2
        split at h2 <;> cases h2
      · exact z
    rw [List.getElem?_append_right hi] at h1'
    unfold cSt at h2
    rw [List.getElem?_append_right (by simpa using hi), List.length_replicate, List.getElem?_map] at h2
    unfold capN at h1'
    rw [List.getElem?_map] at h1'
    cases ej : js[i - own.length]? with
    | none => rw [ej] at h2; cases h2
    | some j =>
      rw [ej] at h1' h2
      obtain ⟨y, ey⟩ := hj j (List.mem_of_getElem? ej)
      have exy : y = x := by
        have z : some ((X.N[j]?).getD Str.empty) = some x := h1'
        rw [ey] at z
        exact Option.some.inj z
      subst exy
      have es : σ[j]? = some (some v) := by
        have z : some ((σ[j]?).join) = some (some v) := h2
        cases q : σ[j]? with
        | none => rw [q] at z; cases z
        | some o => rw [q] at z; cases o with
          | none => cases z
          | some v' => cases z; rfl
      have hcap : y ∈ capN X js := List.mem_map.mpr ⟨j, List.mem_of_getElem? ej, by rw [ey]; rfl⟩
      have hfree : scope.names.lookup y = some .free := S.cap y hcap
      have hm : (y, NameKind.free) ∈ scope.names := PySem.mem_of_lookup hfree
      have ho := S.fr _ hm rfl
      obtain ⟨m0, hn0, hl0⟩ := I.loc
      obtain ⟨u, r, l⟩ := hl0 j y v ey es (ho.elim (fun z => .inr (.inl z)) fun z => .inr (.inr z))
      refine ⟨u, r, .inr ⟨?_, ?_⟩⟩
      · show (relabel scope X.env).names.lookup y = _ ∨ (relabel scope X.env).names.lookup y = _
        rw [hrl, hfree, Option.map_some]
        by_cases hcc : (NameKind.free == NameKind.free && X.env.scope.kind == .function && X.env.kindOf y == some .cell) = true
        · rw [if_pos hcc]; exact .inl rfl
        · rw [if_neg hcc]; exact .inr rfl
      · rcases l with ⟨k, _⟩ | ⟨_, c, e, z⟩
        · have k' : X.env.scope.names.lookup y = some .local := k
          rcases ho with z | z <;> (rw [k'] at z; cases z)
        · obtain ⟨c', e'⟩ := Option.isSome_iff_exists.mp (clOf_has (cells := X.env.cells) scope.names [] hm)
          have := hcl y c' e'
          rw [e] at this
          cases this
          refine ⟨c, e', ?_⟩
          obtain ⟨oc, ho', hd⟩ := z
          exact ⟨oc, hk c oc ho', hd⟩
  · obtain ⟨v, o, ho, hd⟩ := I.cell x c (hcl x c e)
    exact ⟨v, o, hk c o ho, hd⟩
  · obtain ⟨e, n, ne, nf, d⟩ := I.pin p hp
    exact ⟨hk _ _ e, n, hlt _ _ e, nstk p.1 ne nf, d⟩
  · unfold cSt
    show _ = (own ++ capN X js).length
    simp

/-- the block is left: its frame's object may have changed -/
theorem Inv.unblock {scope : Scope} {N' : List Str} {fp : List Addr} {σb : St} {H' : Hp} {s' : Shared} {h' : Heap} (I : Inv X pins σ H s) (hf : ∀ b ∈ fp, FpOk X pins H b)
    (B : Inv (cxC X scope N' s.heap.objs.size fp s H) pins σb H' s') (hs : Heap.SameBut s.heap.objs.size s'.heap h') : Inv X pins σ H' { s' with heap := h' } := by
  have hlt : ∀ b o, s.heap.get? b = some o → b ≠ s.heap.objs.size := fun b o e => Nat.ne_of_lt (Heap.lt_size e)
  have hu : Un (frs X.stack) fp H H' s.heap s'.heap := B.base
  have hfree : H' s.heap.objs.size = none := B.free
  refine I.call' (s' := { s' with heap := h' }) (ch := fp) B.os ⟨fun b o e n hb hx => ?_, fun b o e n hb hx => ?_, hu.free, fun b o e hx => ?_, hu.tups, hu.frzs, hu.tbls⟩ (fun b u e => ?_) B.bare fun b hb => ?_
  · exact (hs.2 b (hlt b o e)).trans (hu.keep b o e n hb hx)
  · obtain ⟨sl, z⟩ := hu.slot b o e n hb hx
    exact ⟨sl, (hs.2 b (hlt b o e)).trans z⟩
  · obtain ⟨o', z⟩ := hu.there b o e hx
    exact ⟨o', (hs.2 b (hlt b o e)).trans z⟩
  · refine (B.hok b u e).stay (fun c v hc q => (hs.2 c ?_).trans q) (fun _ q => q) fun _ _ q => q
    rintro rfl
    rcases hc with z | z
    · rw [← z, hfree] at e; cases e
    · rw [hfree] at z; cases z
  · obtain ⟨_, f1, f2, f3, f4, f5⟩ := hf b hb
    exact ⟨f3, f1, f4, f5⟩
end

section
variable {X : Cx} {elt tg iter : Expr} {ifs : List Expr} {scope : Scope} {pos : Pos} {own : List Str} {js : List Nat} {wi : TI} {g : TG} {tc : TT} {te : TE}

theorem comp_core (hc : X.calm = true) (S : CScope own (capN X js) scope X.env.scope) (hj : ∀ j ∈ js, ∃ x, X.N[j]? = some x) (hi : PI X tg iter wi)
    (hg : ∀ C fp s H, PG (cxC X scope (own ++ capN X js) C fp s H) tg g) (ht : ∀ C fp s H, PF (cxC X scope (own ++ capN X js) C fp s H) ifs tc) (he : ∀ C fp s H, PE (cxC X scope (own ++ capN X js) C fp s H) elt te)
    {pins : List (Addr × Obj)} {σ : St} {H : Hp} {s : Shared} {Q : VK} (I : Inv X pins σ H s) (h : tComp own.length js wi g tc te σ H Q) {RR : Value → Addr → Result → Shared → Prop}
    (hRR : ∀ D C s' m H', s'.heap.Ns C m → H' C = none → C ≠ X.env.locals → C ∉ X.fs → (∀ x c, X.env.cells.lookup x = some c → c ≠ C) → X.s₀.heap.objs.size ≤ C → (∀ p ∈ X.pn ++ pins, p.1 ≠ C) → (∀ h', Heap.SameBut C s'.heap h' → Inv X pins σ H' { s' with heap := h' }) → Q (.ref D) H' → RR (.ref D) C (.ok .next) s') :
    wpAny (model X.prog X.w) X.A (eval iter X.env) (fun x s1 => wpAny (model X.prog X.w) X.A (pyIter x) (fun it s2 => wpAny (model X.prog X.w) X.A (newList []) (fun acc s3 =>
      wpAny (model X.prog X.w) X.A (newFunctionEnv scope X.env.globals (clOf X.env.cells scope.names []) [] X.env.qual none .none (some X.env)) (fun cenv s4 =>
        codeAny (model X.prog X.w) X.A (.compStart (.ListComp elt [⟨tg, iter, ifs, 0⟩] scope pos) 0 it acc { cenv with scope := relabel scope X.env }) (RR acc cenv.locals) s4) X.xe s3) X.xe s2) X.xe s1) X.xe s := by
  refine thn (hi pins s σ H _ I h) fun v s1 h1 => thn h1 fun itv s2 h2 => ?_
  obtain ⟨it, fp, tn, J, H2, e, I2, T, st2, f2, hq⟩ := h2
  subst e
  refine wpAny_newList ?_ (by simp)
  have I3 := I2.lnew (t' := s2.toks) (ys := []) (its := []) .nil (by simp)
  have hDn : H2 s2.heap.objs.size = none := I2.fresh
  generalize hD : s2.heap.objs.size = D at I3 hDn ⊢
  generalize hH3 : upd H2 D (.lst []) = H3 at I3
  generalize hs3 : ({ s2 with heap := s2.heap.push { cls := .type "list", data := .seq ([] : List Value).toArray }, toks := s2.toks } : Shared) = s3 at I3
  have k3 : ∀ b o, s2.heap.get? b = some o → s3.heap.get? b = some o := fun b o e => by rw [← hs3]; exact Heap.get?_push_of_some _ e
  have st3 : tn 0 s3.heap := T.keep _ _ _ st2 fun b _ o e => k3 b o e
  have fo2 : ∀ b ∈ fp, ∃ o, s2.heap.get? b = some o := fun b hb => (T.obj _ _ st2 b hb).imp fun _ z => z.1
  have neD : ∀ b ∈ fp, b ≠ D := fun b hb => by
    obtain ⟨o, e⟩ := fo2 b hb
    rw [← hD]
    exact Nat.ne_of_lt (Heap.lt_size e)
  have f3 : ∀ b ∈ fp, FpOk X pins H3 b := fun b hb => by
    obtain ⟨a0, a1⟩ := f2 b hb
    exact ⟨by rw [← hH3, upd_ne (neD b hb)]; exact a0, a1⟩
  have fo3 : ∀ b ∈ fp, ∃ o, s3.heap.get? b = some o := fun b hb => (fo2 b hb).imp fun o e => k3 b o e
  obtain ⟨W, ⟨m0, w0⟩, turn⟩ := hq D hDn
  rw [hH3] at w0
  refine wpAny_newFunctionEnv S.nocell (by intro y hy; simp at hy) (fun h4 hns4 hsb4 => ?_) S.kind
  have k4 : ∀ b o, s3.heap.get? b = some o → h4.get? b = some o := fun b o e => hsb4.extBut b o (Nat.ne_of_lt (Heap.lt_size e)) (Heap.get?_push_of_some _ e)
  have B4 := I3.block (t' := s3.toks + ([] : List (Str × Value)).length) S hj f3 fo3 hns4 k4
  have st4 : tn 0 h4 := T.keep _ _ _ st3 fun b _ o e => k4 b o e
  have f4 : ∀ b ∈ fp, FpOk (cxC X scope (own ++ capN X js) s3.heap.objs.size fp s3 H3) pins H3 b := fun b hb => by
    obtain ⟨a0, a1, a2, a3, a4, a5⟩ := f3 b hb
    obtain ⟨o, e⟩ := fo3 b hb
    exact ⟨a0, (B4.ok.exf b hb).1, B4.ok.exfs b hb, .inl hb, (B4.ok.exf b hb).2, a5⟩
  have nL : s3.heap.objs.size ≠ X.env.locals := Nat.ne_of_gt I3.lt
  have nF : s3.heap.objs.size ∉ X.fs := I3.nofs (Nat.le_refl _)
  have nC : ∀ x c, X.env.cells.lookup x = some c → c ≠ s3.heap.objs.size := fun x c e => by
    obtain ⟨_, o, ho, _⟩ := I3.cell x c e
    exact Nat.ne_of_lt (Heap.lt_size ho)
  -- the loop
  have loop : ∀ s5 : Shared, s5 = { s3 with heap := h4, toks := s3.toks + ([] : List (Str × Value)).length } →
      codeAny (model X.prog X.w) X.A (.compLoop (.ListComp elt [⟨tg, iter, ifs, 0⟩] scope pos) 0 (.ref it) (.ref D) (compEnvC scope (clOf X.env.cells scope.names []) s3.heap.objs.size X.env)) (RR (.ref D) s3.heap.objs.size) s5 := by
    rintro s5 rfl
    have stat : ∀ {H' : Hp}, (∀ b ∈ fp, H' b = none) → ∀ b ∈ fp, FpOk (cxC X scope (own ++ capN X js) s3.heap.objs.size fp s3 H3) pins H' b := fun hn b hb => ⟨hn b hb, (f4 b hb).2⟩
    refine compLoop_gen rfl (fun n s' => ∃ i acc H', Inv (cxC X scope (own ++ capN X js) s3.heap.objs.size fp s3 H3) pins (cSt own.length js σ) H' s' ∧ tn i s'.heap ∧ (∀ b ∈ fp, H' b = none) ∧ W i n acc H') ?_ m0
      ⟨0, [], H3, B4, st4, fun b hb => (f3 b hb).1, w0⟩
    rintro n s6 ⟨i, acc, H6, B6, st6, fr6, w6⟩
    obtain ⟨hacc, way⟩ := turn i n acc H6 w6
    rcases way with ⟨stop, q⟩ | ⟨go, hz, Nx, hN, step⟩
    · refine thn (T.done (cxC X scope (own ++ capN X js) s3.heap.objs.size fp s3 H3) rfl rfl rfl hc i pins s6 _ H6 _ B6 (stat fr6) st6 stop) fun r s7 ⟨hr, B7⟩ => ?_
      subst hr
      obtain ⟨m, hm, _⟩ := B7.loc
      exact hRR D _ s7 m H6 hm B7.free nL nF nC I3.sz (fun p hp => Nat.ne_of_lt (Heap.lt_size (I3.pin p hp).1)) (fun h' hs => I3.unblock f3 B7 hs) q
    · refine thn (T.item (cxC X scope (own ++ capN X js) s3.heap.objs.size fp s3 H3) rfl rfl rfl hc i pins s6 _ H6 _ B6 (stat fr6) st6 go) fun r s7 ⟨u, hr, h7⟩ => ?_
      subst hr
      refine thn h7 fun _ s8 ⟨x, H8, B8, r8, y8, st8, fr8⟩ => ?_
      have B8' := B8.pinned (stat fr8) (T.obj _ _ st8)
      have away : ∀ {s9 : Shared} {σ9 : St} {H9 : Hp} {acc' : List V}, Inv (cxC X scope (own ++ capN X js) s3.heap.objs.size fp s3 H3) (pins ++ pinsAt fp s8.heap) σ9 H9 s9 → σ9.drop own.length = (cSt own.length js σ).drop own.length → Nx acc' H9 →
          ∃ m', m' < n ∧ ∃ i acc H', Inv (cxC X scope (own ++ capN X js) s3.heap.objs.size fp s3 H3) pins (cSt own.length js σ) H' s9 ∧ tn i s9.heap ∧ (∀ b ∈ fp, H' b = none) ∧ W i m' acc H' := fun {s9 σ9 H9 acc'} B9 hd nx => by
        obtain ⟨m', hm, w9⟩ := hN acc' H9 nx
        refine ⟨m', hm, i + 1, acc', H9, B9.unpinned.weak ?_ ?_, T.keep _ _ _ st8 fun b hb o e => (B9.pin (b, o) (List.mem_append_right _ (List.mem_append_right _ (mem_pinsAt hb e)))).1, fun b hb => ?_, w9⟩
        · rw [B9.len, B6.len]
        · intro k v hv
          unfold cSt at hv
          have hk : own.length ≤ k := by
            rcases Nat.lt_or_ge k own.length with z | z
            · exfalso
              rw [List.getElem?_append_left (by simpa using z), List.getElem?_replicate] at hv
              split at hv <;> cases hv
            · exact z
          have e1 : σ9[k]? = (σ9.drop own.length)[k - own.length]? := by rw [List.getElem?_drop]; congr 1; omega
          rw [e1, hd, List.getElem?_drop]
          have e2 : own.length + (k - own.length) = k := by omega
          rw [e2]
          exact hv
        · obtain ⟨o, e, d⟩ := T.obj _ _ st8 b hb
          exact (B9.pin (b, o) (List.mem_append_right _ (List.mem_append_right _ (mem_pinsAt hb e)))).2.1
      refine wpAny_mono (hg _ _ _ _ _ s8 _ H8 x u _ B8' r8 (step x H8 y8)) (fun _ s9 ⟨σ9, H9, B9, hd9, q9⟩ => ?_) fun _ _ f => f.elim
      refine wpAny_mono (ht _ _ _ _ _ s9 σ9 H9 _ B9 q9) (fun b s10 ⟨H10, B10, q10⟩ => ?_) fun _ _ f => f.elim
      cases b with
      | false =>
        rw [if_neg Bool.false_ne_true] at q10 ⊢
        exact away B10 hd9 q10.2
      | true =>
        rw [if_pos rfl] at q10 ⊢
        refine wpAny_mono (he _ _ _ _ _ s10 σ9 H10 _ B10 q10) (fun y s11 ⟨z, H11, B11, r11, q11⟩ => ?_) fun _ _ f => f.elim
        obtain ⟨hl11, nx⟩ := q11
        refine wpAny_mono (mt_append (X := cxC X scope (own ++ capN X js) s3.heap.objs.size fp s3 H3) _ s11 σ9 H11 (.ref D) [z] (.ref D) [y] (fun _ H12 => Nx (acc ++ [z]) H12) B11 rfl (.cons r11 .nil) ⟨D, acc, z, rfl, rfl, hl11, hz, nx⟩) (fun _ s12 ⟨_, H12, B12, _, q12⟩ => ?_) fun _ _ f => f.elim
        exact away B12 hd9 q12
  exact codeAny_compStart_list (loop _ rfl) (T.self X.A 0 _ _ _ st4 (loop _ rfl))

/-- a list comprehension -/
theorem pe_comp (own caps : List Str) (js : List Nat) (hc : X.calm = true) {osc : Scope} (S : CScope own caps scope osc) (hi : PI X tg iter wi)
    (hg : ∀ C fp s H, PG (cxC X scope (own ++ caps) C fp s H) tg g) (ht : ∀ C fp s H, PF (cxC X scope (own ++ caps) C fp s H) ifs tc) (he : ∀ C fp s H, PE (cxC X scope (own ++ caps) C fp s H) elt te)
    (ho : X.env.scope = osc := by rfl) (hcp : capN X js = caps := by rfl) (hj : (js.all fun j => decide (j < X.N.length)) = true := by rfl)
    (hs : ∀ x, foldedSetIterable iter X.env x = pure x := by intro _; rfl) : PE X (.ListComp elt [⟨tg, iter, ifs, 0⟩] scope pos) (tComp own.length js wi g tc te) := by
  subst ho
  subst hcp
  intro pins s σ H Q I h
  have hfr : ∀ y ∈ scope.names, y.2 = .free → ∃ c, X.env.cells.lookup y.1 = some c := fun y hy e => I.ok.has y.1 (S.fr y hy e)
  rw [eval_ListComp]
  refine wpAny_comprehension_free (use := none) rfl hs (closureFor_eq hfr) S.kind S.loc ?_
  refine comp_core hc S (js_ok hj) hi hg ht he I h (RR := fun acc C => compPost (model X.prog X.w) X.A X.xe none (EP X pins σ Q) acc C) ?_
  intro D C s' m H' hn hf h1 h2 h3 h4 h5 hI hq
  exact ⟨m, hn, fun h' hs' => ⟨.ref D, H', hI h' hs', rfl, hq⟩⟩

/-- x = [ .. for .. ], where the store goes ahead of the block's end -/
theorem ps_setC {i : Nat} {x : Str} {pos' spos : Pos} (own caps : List Str) (js : List Nat) (hc : X.calm = true) (hN : X.N.Nodup) (hxi : X.N[i]? = some x) (hx : Loc X.env.scope x)
    {osc : Scope} (S : CScope own caps scope osc) (hi : PI X tg iter wi)
    (hg : ∀ C fp s H, PG (cxC X scope (own ++ caps) C fp s H) tg g) (ht : ∀ C fp s H, PF (cxC X scope (own ++ caps) C fp s H) ifs tc) (he : ∀ C fp s H, PE (cxC X scope (own ++ caps) C fp s H) elt te)
    (hsw : swapsWith (.ListComp elt [⟨tg, iter, ifs, 0⟩] scope pos) (some (.Name x pos')) spos.line X.env = pure true)
    (ho : X.env.scope = osc := by rfl) (hcp : capN X js = caps := by rfl) (hj : (js.all fun j => decide (j < X.N.length)) = true := by rfl)
    (hf : X.fn x = true ∨ X.env.scope.names.lookup x = some .local := by first | exact .inl rfl | exact .inr rfl | assumption)
    (hs : ∀ x, foldedSetIterable iter X.env x = pure x := by intro _; rfl) : PS X (.Assign [.Name x pos'] (.ListComp elt [⟨tg, iter, ifs, 0⟩] scope pos) spos) (tAsg (tComp own.length js wi g tc te) (gName i)) := by
  subst ho
  subst hcp
  intro pins s σ H D0 I h
  have hfr : ∀ y ∈ scope.names, y.2 = .free → ∃ c, X.env.cells.lookup y.1 = some c := fun y hy e => I.ok.has y.1 (S.fr y hy e)
  have h' : tComp own.length js wi g tc te σ H (fun v H1 => D0.nx (σ.set i (some v)) H1) := h
  unfold exec
  refine wpAny_bind (wpAny_standAt (wpAny_bind (wpAny_of_eq (show swapsWithSole _ _ _ _ = _ from hsw) ?_)))
  simp only [if_true]
  unfold evalThenUse
  refine wpAny_bind (wpAny_bind ?_)
  refine wpAny_comprehension_free (use := some _) (Q := fun _ s' => wpAny _ _ (pure PUnit.unit) (fun _ s'' => wpAny _ _ (pure Flow.next) (SP X pins D0) X.xe s'') X.xe s') rfl hs (closureFor_eq hfr) S.kind S.loc ?_
  refine comp_core hc S (js_ok hj) hi hg ht he I h' (RR := fun acc C => compPost (model X.prog X.w) X.A X.xe (some _) _ acc C) ?_
  intro D C s' m H' hn hfree h1 h2 h3 h4 h5 hI hq
  have I' : Inv X pins σ H' s' := hI s'.heap (.refl ..)
  obtain ⟨o, es, ep, ho, hod, r⟩ := id hn
  show wpAny _ _ (assign (.Name x pos') X.env (.ref D)) _ _ s'
  refine wpAny_assign_Name (store_ok2 I' hN hxi hx (v := .ref D) rfl (fun s2 I2 ⟨a, hsa, ha⟩ => ?_) hf)
  have hCa : C ≠ a := by
    rcases ha with z | z
    · rw [z]; exact h1
    · exact (h3 x a z).symm
  refine ⟨m, hn.sameBut hsa hCa, fun h'' hs'' => wpAny_pure (wpAny_pure ?_)⟩
  refine ⟨_, H', ?_, hq⟩
  -- what is left: the block's frame changes once more
  exact I2.turned (t' := s2.toks) (it := C) (fun b o hb e => (hs''.2 b hb).trans e) hfree (Ne.symm h1 |>.symm) (.inr h4) h3 h5
end
end L2
/-! Data and its equality, any and all, isinstance, slices of tuples, own defs in short. -/
namespace L2
open PySem PySem.Spec PyProof.Rows

/-! ### data -/
mutual
inductive Has (K : PySem.W.Frag) (H : Hp) : V → PyData → Prop
  | non : Has K H .non .none
  | bl (b : Bool) : Has K H (.bl b) (.bool b)
  | int (i : Int) : Has K H (.int i) (.int i)
  | str (x : Str) : Has K H (.str x) (.str x)
  | lst {a : Addr} {xs : List V} {ds : List PyData} : SqL K H a xs → HasAll K H xs ds → Has K H (.ref a) (.list ds)
  | tup {a : Addr} {xs : List V} {ds : List PyData} : SqT K H a xs → HasAll K H xs ds → Has K H (.ref a) (.tuple ds)
inductive HasAll (K : PySem.W.Frag) (H : Hp) : List V → List PyData → Prop
  | nil : HasAll K H [] []
  | cons {x : V} {xs : List V} {d : PyData} {ds : List PyData} : Has K H x d → HasAll K H xs ds → HasAll K H (x :: xs) (d :: ds)
end

section
variable {X : Cx} {pins : List (Addr × Obj)} {σ : St} {H : Hp} {s : Shared}
mutual
theorem Has.reads (I : Inv X pins σ H s) : ∀ {x : V} {d : PyData} {u : Value}, Has X.K H x d → RelV x u → ∃ as, Reads s.heap u d as
  | _, _, _, .non, r => by cases r; exact ⟨_, .none⟩
  | _, _, _, .bl b, r => by cases r; exact ⟨_, .bool b⟩
  | _, _, _, .int i, r => by obtain ⟨t, rfl⟩ := r; exact ⟨_, .int i t⟩
  | _, _, _, .str x, r => by obtain ⟨t, rfl⟩ := r; exact ⟨_, .str x t⟩
  | _, _, _, .lst h hs, r => by
    cases r
    obtain ⟨its, rv, ⟨o, n, ho, hc, hd, hs'⟩, hz⟩ := I.list h
    obtain ⟨as, ra⟩ := HasAll.reads I hs rv
    exact ⟨_, .list ho hc hs' ra⟩
  | _, _, _, .tup h hs, r => by
    cases r
    obtain ⟨its, rv, ⟨o, ho, hc, n, hs'⟩, hz⟩ := I.tuple h
    obtain ⟨as, ra⟩ := HasAll.reads I hs rv
    exact ⟨_, .tuple ho hc hs' ra⟩
theorem HasAll.reads (I : Inv X pins σ H s) : ∀ {xs : List V} {ds : List PyData} {us : List Value}, HasAll X.K H xs ds → Vals xs us → ∃ as, ReadsAll s.heap us ds as
  | _, _, _, .nil, r => by cases r; exact ⟨_, .nil⟩
  | _, _, _, .cons h hs, .cons r rs => by
    obtain ⟨as, ra⟩ := Has.reads I h r
    obtain ⟨bs, rb⟩ := HasAll.reads I hs rs
    exact ⟨_, .cons ra rb⟩
end
end

def rEqD (K : PySem.W.Frag) : R2 := fun x y H Q => ∃ d e, Has K H x d ∧ Has K H y e ∧ SeqAt.shaped d = true ∧ SeqAt.shaped e = true ∧ Q (.bl (PyData.eqv d e)) H
section
variable {X : Cx}
theorem op_eqD (hu : X.A.units + 64 < cLine) : OpR X (compareOp .Eq) (rEqD X.K) := by
  intro pins s σ H x y v u Q I rx ry h
  obtain ⟨d, e, hd, he, sd, se, q⟩ := h
  obtain ⟨as, ra⟩ := hd.reads I rx
  obtain ⟨bs, rb⟩ := he.reads I ry
  exact SeqAt.compareEq_reads ra rb (SeqAt.canLay_of_shaped sd) (SeqAt.canLay_of_shaped se) (SeqAt.room_of_shaped sd hu) ⟨.bl _, H, I, rfl, q⟩
/-! ### any, all of a list of truths -/
theorem vals_bl : ∀ {bs : List Bool} {us : List Value}, Vals (bs.map V.bl) us → us = bs.map Value.bool
  | [], _, r => by cases r; rfl
  | b :: bs, _, .cons r t => by
    cases r
    rw [vals_bl t]
    rfl
theorem range_all (bs : List Bool) : (List.range bs.length).all (fun i => bs.getD i false) = bs.all id := by
  rw [Bool.eq_iff_iff, List.all_eq_true, List.all_eq_true]
  constructor
  · intro h b hb
    obtain ⟨i, hi, e⟩ := List.mem_iff_getElem.mp hb
    have := h i (List.mem_range.mpr hi)
    rw [List.getD_eq_getElem?_getD, List.getElem?_eq_getElem hi] at this
    rw [← e]; exact this
  · intro h i hi
    have hi := List.mem_range.mp hi
    rw [List.getD_eq_getElem?_getD, List.getElem?_eq_getElem hi]
    exact h _ (List.getElem_mem hi)
theorem truthOf_bools (prog : Program) (w : World) (A : Around) (bs : List Bool) : TruthOf prog w A (fun i v => ((bs.map Value.bool).toArray)[i]? = some v) fun i => bs.getD i false := by
  intro i v s Q E hP hQ
  simp only [List.getElem?_toArray, List.getElem?_map] at hP
  cases e : bs[i]? with
  | none => rw [e] at hP; cases hP
  | some b =>
    rw [e] at hP
    cases hP
    dsimp only at hQ
    rw [List.getD_eq_getElem?_getD, e] at hQ
    exact wpAny_truthy_bool hQ
theorem call_all (hc : X.calm = true) : CallR X (.builtin "all") (fun xs H Q => ∃ (p : Addr) (bs : List Bool), xs = [.ref p] ∧ SqL X.K H p (bs.map V.bl) ∧ Q (.bl (bs.all id)) H) := by
  intro pins s σ H xs us Q I r h
  obtain ⟨p, bs, rfl, hq, q⟩ := h
  obtain ⟨u, rfl, rx⟩ := vals1 r
  cases rx
  obtain ⟨its, rv, pl, hz⟩ := I.list hq
  have e := vals_bl rv
  subst e
  have hne : p ≠ s.heap.objs.size := by obtain ⟨o, n, ho, _⟩ := pl; exact Nat.ne_of_lt (Heap.lt_size ho)
  refine call_all_walk (wpAny_pyIter_list pl.isList ?_)
  refine ⟨_, _, _, _, _, _, fun i => bs.getD i false, rfl, Walks.list (A := X.A.in1) (show X.A.in1.handled = none from I.ok.hd hc) s.heap.objs.size p hne (bs.map Value.bool).toArray, ⟨⟨_, Heap.get?_push_size _ rfl, rfl, rfl⟩, (pl.keeps fun b o e => Heap.get?_push_of_some _ e).isList⟩, truthOf_bools _ _ _ bs, fun h' tk hk => ?_⟩
  refine ⟨.bl (bs.all id), H, I.kept (t' := tk) fun b o e => hk b o (by simp; exact Nat.ne_of_lt (Heap.lt_size e)) (Heap.get?_push_of_some _ e), ?_, q⟩
  show Value.bool _ = Value.bool _
  rw [← range_all]
  simp

/-! ### isinstance -/
def clsV : V → Value
  | .ty n => .type n
  | .ref a => .ref a
  | _ => .none
theorem call_isinst : CallR X (.builtin "isinstance") (fun xs H Q => ∃ x c t b, xs = [x, c] ∧ (∃ n, c = .ty n) ∧ TyOf X.K H x t ∧ PySem.W.kitOne X.K t (clsV c) = some b ∧ Q (.bl b) H) := by
  intro pins s σ H xs us Q I r h
  obtain ⟨x, c, t, b, rfl, ⟨n, rfl⟩, ty, e, q⟩ := h
  obtain ⟨u, w', rfl, rx, rc⟩ := vals2 r
  cases rc
  exact isinst_ok I rx ty e fun tk => ⟨.bl b, H, I.tok _, rfl, q⟩
end
end L2

/-! ### a def of the text, and its promise, in short -/
namespace L2
open PySem PySem.Spec PyProof.Rows
/-- the def x stands at the top as st -/
def Def (K : PySem.W.Frag) (mg : Str → Option Value) (x : Str) (st : Stmt) : Prop := ∃ f fd, mg x = some (.ref f) ∧ Fun K x x st f fd
/-- the def x keeps the promise sp -/
def Own (P : Program) (w : World) (K : PySem.W.Frag) (mg : Str → Option Value) (base : Heap) (k : Nat) (x : Str) (ps : List Str) (sp : Sp) : Prop :=
  ∃ f fd, mg x = some (.ref f) ∧ PySem.W.keepIn K (.ref f) = true ∧ Binds K fd ps [] ∧ FnOk P w K mg base CX0 k f fd ps sp
theorem Def.own {P : Program} {w : World} {K : PySem.W.Frag} {mg : Str → Option Value} {base : Heap} {x : Str} {st : Stmt} {N ps : List Str} {k : Nat} {sp : Sp} (D : Def K mg x st) (S : FnScope N ps (defScope st))
    (hb : ∀ (kV doc pm : Value) (an : Option Addr) (cdv ct : Value) (us : List Value), us.length = ps.length → bindArgs (PySem.W.fnOf x x (defArgs st) (defBody st) (defScope st) .none kV doc pm an cdv ct) ⟨us, []⟩ = pure (ps.zip us))
    (len : ∀ vs H Q E, sp vs H Q E → vs.length = ps.length)
    (hbody : ∀ (f : Addr) (cdv : Value) (A : Around) (outer : List Env) (s : Shared) (H : Hp) (vs : List V) (Q : VK) (E : XK), Room k (A.deeper (envOfC x (defScope st) s.heap.objs.size f cdv)) → sp vs H Q E →
      ∃ t, PSs (cxOf CX0 P w K mg base N x (defScope st) f cdv A outer s H E).nox (defBody st) t ∧ t { nx := fun _ H' => Q .non H', rt := Q } (start N vs) H) : Own P w K mg base (k + 1) x ps sp := by
  obtain ⟨f, fd, hm, F⟩ := D
  exact ⟨f, fd, hm, F.kp, F.binds hb, F.ok S len (hbody f)⟩
theorem def_mk {K : PySem.W.Frag} {h : Heap} {mg : Str → Option Value} (X : K.In h) (G : h.Ns mainGlobals mg) {x : Str} {st : Stmt} {f : Addr} {oc : Value} {od an : Option Addr} {osl : Array (Option Value)} {kV doc pm cdv ct : Value}
    (a : PySem.W.nsIn K mainGlobals x = some (some (.ref f)))
    (l : K.lookup f = some ⟨oc, od, .func (PySem.W.fnOf x x (defArgs st) (defBody st) (defScope st) .none kV doc pm an cdv ct), osl⟩) (c : PySem.W.codeIn K cdv x = true) (k : PySem.W.keepIn K (.ref f) = true) : Def K mg x st :=
  ⟨f, _, PySem.W.mg_of X G a, fun_mk l c k⟩
section
variable {X : Cx} {j k : Nat} {x : Str} {ps : List Str} {sp : Sp} {p pos : Pos} {e : Expr} {es : List Expr} {t : TA}
theorem pe_fn (F : Own X.prog X.w X.K X.mg X.base j x ps sp) (hr : Room k X.A) (ha : PA X (e :: es) t) (hk : j ≤ k := by decide) (hg : Gl X x := by rfl)
    (hdb : (x == ("__debug__" : Str)) = false := by decide) (he : starEach (e :: es) X.env = (false, eval e X.env) :: starEach es X.env := by rfl) (hpl : (backTo pos (starEach es X.env)).any (·.1) = false := by rfl) :
    PE X (.Call (.Name x p) (e :: es) [] pos) (tCall sp [] E0 t) := by
  obtain ⟨f, fd, hm, kp, hb, F⟩ := F
  exact pe_call F (hr.mono hk) hg hm kp hb .nil pass0 ha hdb he hpl
end
/-- the names of built-ins that no def of the text takes -/
def Blt (mg : Str → Option Value) : Prop := ∀ x : Str, x ∈ (["len", "any", "all", "max", "min", "isinstance", "list", "tuple", "int", "bool", "str", "dict", "range"] : List Str) → mg x = none
theorem blt_mk {K : PySem.W.Frag} {h : Heap} {mg : Str → Option Value} (X : K.In h) (G : h.Ns mainGlobals mg) (z0 : PySem.W.nsIn K mainGlobals "len" = some none) (z1 : PySem.W.nsIn K mainGlobals "any" = some none) (z2 : PySem.W.nsIn K mainGlobals "all" = some none) (z3 : PySem.W.nsIn K mainGlobals "max" = some none) (z4 : PySem.W.nsIn K mainGlobals "min" = some none) (z5 : PySem.W.nsIn K mainGlobals "isinstance" = some none) (z6 : PySem.W.nsIn K mainGlobals "list" = some none) (z7 : PySem.W.nsIn K mainGlobals "tuple" = some none) (z8 : PySem.W.nsIn K mainGlobals "int" = some none) (z9 : PySem.W.nsIn K mainGlobals "bool" = some none) (z10 : PySem.W.nsIn K mainGlobals "str" = some none) (z11 : PySem.W.nsIn K mainGlobals "dict" = some none) (z12 : PySem.W.nsIn K mainGlobals "range" = some none) : Blt mg := by
  intro x hx
  simp only [List.mem_cons, List.not_mem_nil, or_false] at hx
  rcases hx with rfl | rfl | rfl | rfl | rfl | rfl | rfl | rfl | rfl | rfl | rfl | rfl | rfl
  · exact PySem.W.mg_none_of X G z0
  · exact PySem.W.mg_none_of X G z1
  · exact PySem.W.mg_none_of X G z2
  · exact PySem.W.mg_none_of X G z3
  · exact PySem.W.mg_none_of X G z4
  · exact PySem.W.mg_none_of X G z5
  · exact PySem.W.mg_none_of X G z6
  · exact PySem.W.mg_none_of X G z7
  · exact PySem.W.mg_none_of X G z8
  · exact PySem.W.mg_none_of X G z9
  · exact PySem.W.mg_none_of X G z10
  · exact PySem.W.mg_none_of X G z11
  · exact PySem.W.mg_none_of X G z12
theorem bt_len : bootBuiltins "len" = some (.builtin "len") := by decide +kernel
theorem bt_all : bootBuiltins "all" = some (.builtin "all") := by decide +kernel
theorem bt_max : bootBuiltins "max" = some (.builtin "max") := by decide +kernel
theorem bt_isinstance : bootBuiltins "isinstance" = some (.builtin "isinstance") := by decide +kernel
theorem bt_str : bootBuiltins "str" = some (.type "str") := by decide +kernel
end L2

namespace HT
open PySem PySem.Spec PyProof.Rows
section
variable {prog : Program} {w : World} {A : Around} {E : Value → Shared → Prop} {s : Shared}
/-- the whole of a tuple is the tuple itself -/
theorem getItem_tuple_whole {t sl : Addr} {items : Array Value} {vl vu : Value} {lo hi : Option Int} {Q : Value → Shared → Prop} (ht : IsTup s.heap t items) (hs : s.heap.IsSliceOf sl vl vu .none) (pl : IsPart vl lo) (pu : IsPart vu hi)
    (hw : sIx items.size 0 lo = 0 ∧ sIx items.size items.size hi = items.size)
    (h : Q (.ref t) s) : wpAny (model prog w) A (getItem (.ref t) (.ref sl)) Q E s := by
  obtain ⟨os, hos, hcs, hds⟩ := id hs
  have hTs : s.TypeIs (.ref sl) "slice" := ⟨os, hos, hcs⟩
  unfold getItem
  try with_reducible refine wpAny_holding ?_
  first | refine wpAny_bind (wpAny_pure ?_) | skip
  refine wpAny_bind (wpAny_sequenceKey ht.typeIs (by decide) ?_)
  refine wpAny_bind (wpAny_callSpecial?_slot (name := Str.ofString "__getitem__") ht.typeIs PyProof.Rows.slot_tuple_getitem
    (wpAny_call_entry PyProof.Rows.slot_tuple_getitem ht.typeIs entry_tuple_getitem ?_ (args_tuple_getitem _ _)))
  show wpAny _ _ (Builtin.Tuple.tupleItemsOf (.ref t) >>= _) _ _ s
  refine wpAny_bind (tupleItemsOf_ ht ?_)
  refine wpAny_bind (wpAny_typeOf hTs ?_)
  rw [if_pos (by decide)]
  refine wpAny_bind (sliceApplied_gen hs pl pu ?_)
  have hyes : (((sIx items.size 0 lo : Nat) : Int) == 0 && (1 : Int) == 1 && (sIx items.size items.size hi - sIx items.size 0 lo) == items.size) = true := by
    rw [hw.1, hw.2]; simp
  show wpAny _ _ (if (((sIx items.size 0 lo : Nat) : Int) == 0 && (1 : Int) == 1 && (sIx items.size items.size hi - sIx items.size 0 lo) == items.size) = true then _ else _) _ _ s
  rw [if_pos hyes]
  unfold Builtin.Tuple.tupleIsExact
  refine wpAny_bind (wpAny_bind (wpAny_typeOf ht.typeIs (wpAny_pure ?_)))
  rw [if_pos (by decide)]
  exact wpAny_bind (wpAny_rule (wpAny_pure ⟨_, rfl, wpAny_pure h⟩))
end
end HT

namespace L2
open PySem PySem.Spec PyProof.Rows
section
variable {X : Cx}
/-- t[lo:hi]: the whole is t itself -/
def rSlW (K : PySem.W.Frag) : V → Option Int → Option Int → Hp → VK → Prop := fun x lo hi H Q => ∃ a xs, x = .ref a ∧ SqT K H a xs ∧ ((HT.sIx xs.length 0 lo = 0 ∧ HT.sIx xs.length xs.length hi = xs.length) → Q (.ref a) H) ∧
  (¬ (HT.sIx xs.length 0 lo = 0 ∧ HT.sIx xs.length xs.length hi = xs.length) → ∀ p, H p = none → Q (.ref p) (upd H p (.tup (cutV xs lo hi))))
theorem sl_tupW : SlR X (rSlW X.K) := by
  intro pins s σ H x v vl vu lo hi sl Q I rx hs pl pu h
  obtain ⟨a, xs, rfl, hx, q1, q2⟩ := h
  by_cases hw : HT.sIx xs.length 0 lo = 0 ∧ HT.sIx xs.length xs.length hi = xs.length
  · cases rx
    obtain ⟨its, r, ht, hz⟩ := I.tuple hx
    have hlen : its.toArray.size = xs.length := by rw [List.size_toArray]; exact r.length.symm
    refine ⟨"tuple", _, PyProof.Rows.slot_tuple_getitem.lookup, ht.typeIs, ?_⟩
    exact HT.getItem_tuple_whole ht hs pl pu (by rw [hlen]; exact hw) ⟨.ref a, H, I, rfl, q1 hw⟩
  · exact sl_tup pins s σ H _ v vl vu lo hi sl Q I rx hs pl pu ⟨a, xs, rfl, hx, hw, q2 hw⟩
end
end L2
/-! The rules that read through the fragment, with the fragment named: so that a block's terms do not hang on the block's context. -/
namespace L2
open PySem PySem.Spec PyProof.Rows
section
variable {X : Cx} (K : PySem.W.Frag)
theorem sl_listK (h : X.K = K := by rfl) : SlR X (rSlL K) := by subst h; exact sl_list
def rLen (K : PySem.W.Frag) : List V → Hp → VK → Prop := fun xs H Q => ∃ p ys, xs = [.ref p] ∧ (SqL K H p ys ∨ SqT K H p ys) ∧ Q (.int ys.length) H
def rListOf (K : PySem.W.Frag) : List V → Hp → VK → Prop := fun xs H Q => ∃ p ys, xs = [.ref p] ∧ (SqL K H p ys ∨ SqT K H p ys) ∧ ∀ l, H l = none → Q (.ref l) (upd H l (.lst ys))
def rTupOf (K : PySem.W.Frag) : List V → Hp → VK → Prop := fun xs H Q => ∃ p ys, xs = [.ref p] ∧ ((SqL K H p ys ∧ ∀ l, H l = none → Q (.ref l) (upd H l (.tup ys))) ∨ (SqT K H p ys ∧ Q (.ref p) H))
def rAny (K : PySem.W.Frag) : List V → Hp → VK → Prop := fun xs H Q => ∃ (p : Addr) (bs : List Bool), xs = [.ref p] ∧ SqL K H p (bs.map V.bl) ∧ Q (.bl (bs.any id)) H
def rAll (K : PySem.W.Frag) : List V → Hp → VK → Prop := fun xs H Q => ∃ (p : Addr) (bs : List Bool), xs = [.ref p] ∧ SqL K H p (bs.map V.bl) ∧ Q (.bl (bs.all id)) H
def rIsI (K : PySem.W.Frag) : List V → Hp → VK → Prop := fun xs H Q => ∃ x c t b, xs = [x, c] ∧ (∃ n, c = .ty n) ∧ TyOf K H x t ∧ PySem.W.kitOne K t (clsV c) = some b ∧ Q (.bl b) H
theorem pi_listK {tg l : Expr} {tl : TE} (hl : PE X l tl) (h : X.K = K := by rfl) : PI X tg l (iList K tl) := by subst h; exact pi_list hl
def tTru (K : PySem.W.Frag) (ta : TE) : TT := fun σ H Q => ta σ H fun x H' => ∃ k, TruV K x H' k ∧ Q k H'
theorem pg_tupK {es : List Expr} {k : Nat} {t : TGs} {n : Nat} {pos : Pos} (hc : X.calm = true) (hg : PGs X es t)
    (hn : (assignEach es X.env).length = n := by rfl) (hst : (assignEach es X.env).findIdx? (·.1) = none := by rfl) (h : X.K = K := by rfl) : PG X (.Tuple es k pos) (gTup K n t) := by
  subst h; exact pg_tup hc hg hn hst
theorem pe_fldK {e : Expr} {ta : TE} {f : Str} {pos : Pos} (he : PE X e ta) (hb : attributeBase e f X.env (eval e X.env) = eval e X.env := by rfl) (h : X.K = K := by rfl) : PE X (.Attribute e f pos) (tFld K ta f) := by subst h; exact pe_fld he hb
end
end L2
/-! The forms of a comprehension that one uses. -/
namespace L2
open PySem PySem.Spec PyProof.Rows

/-- what tComp asks of an iterator -/
def CompW (n : Nat) (js : List Nat) (g : TG) (tc : TT) (te : TE) (σ : St) (Q : VK) (J : It) (H1 : Hp) : Prop :=
  ∀ D, H1 D = none → ∃ W : Nat → Nat → List V → Hp → Prop, (∃ m, W 0 m [] (upd H1 D (.lst []))) ∧ ∀ i m acc H, W i m acc H →
    H D = some (.lst acc) ∧ ((J.stop i H ∧ Q (.ref D) H) ∨ (J.go i H ∧ acc.length < sizeLine ∧ ∃ Nx : List V → Hp → Prop, (∀ acc' H', Nx acc' H' → ∃ m', m' < m ∧ W (i + 1) m' acc' H') ∧
      ∀ x H', J.yld i H x H' → g x (cSt n js σ) H' fun σ2 H2 => σ2.drop n = (cSt n js σ).drop n ∧ tc σ2 H2 fun b H3 => if b = true then te σ2 H3 fun v H4 => H4 D = some (.lst acc) ∧ Nx (acc ++ [v]) (upd H4 D (.lst (acc ++ [v]))) else H3 D = some (.lst acc) ∧ Nx acc H3))
section
variable {n : Nat} {js : List Nat} {g : TG} {tc : TT} {te : TE} {σ : St} {Q : VK} {H1 : Hp}
/-- over a list that stays -/
theorem comp_list {K : PySem.W.Frag} {a : Addr} {xs : List V} (hz : xs.length ≤ sizeLine) (Pv : Addr → Nat → List V → Hp → Prop) (h0 : ∀ D, H1 D = none → Pv D 0 [] (upd H1 D (.lst [])))
    (hl : ∀ D i acc H, H1 D = none → i ≤ xs.length → Pv D i acc H → H D = some (.lst acc) ∧ SqL K H a xs ∧ acc.length ≤ i)
    (hs : ∀ D i x acc H, H1 D = none → xs[i]? = some x → Pv D i acc H → g x (cSt n js σ) H fun σ2 H2 => σ2.drop n = (cSt n js σ).drop n ∧ tc σ2 H2 fun b H3 => if b = true then te σ2 H3 fun v H4 => H4 D = some (.lst acc) ∧ Pv D (i + 1) (acc ++ [v]) (upd H4 D (.lst (acc ++ [v]))) else H3 D = some (.lst acc) ∧ Pv D (i + 1) acc H3)
    (hd : ∀ D acc H, H1 D = none → Pv D xs.length acc H → Q (.ref D) H) : CompW n js g tc te σ Q (Itl K a) H1 := by
  intro D hD
  refine ⟨fun i m acc H => m = xs.length - i ∧ i ≤ xs.length ∧ Pv D i acc H, ⟨xs.length, by simp, Nat.zero_le _, h0 D hD⟩, ?_⟩
  rintro i m acc H ⟨rfl, hi, p⟩
  obtain ⟨e1, q, e3⟩ := hl D i acc H hD hi p
  refine ⟨e1, ?_⟩
  by_cases hlt : i < xs.length
  · refine .inr ⟨⟨xs, xs[i], q, by simp [hlt]⟩, by omega, Pv D (i + 1), fun acc' H' p' => ⟨xs.length - (i + 1), by omega, rfl, hlt, p'⟩, fun x H' y => ?_⟩
    obtain ⟨e, y⟩ := y
    subst e
    exact hs D i x acc _ hD (y xs q) p
  · have e : i = xs.length := by omega
    subst e
    exact .inl ⟨⟨xs, q, Nat.le_refl _⟩, hd D acc H hD p⟩
/-- over a range -/
theorem comp_range {lo : Int} {m : Nat} (hz : m ≤ sizeLine) (Pv : Addr → Nat → List V → Hp → Prop) (h0 : ∀ D, H1 D = none → Pv D 0 [] (upd H1 D (.lst [])))
    (hl : ∀ D i acc H, H1 D = none → i ≤ m → Pv D i acc H → H D = some (.lst acc) ∧ acc.length ≤ i)
    (hs : ∀ D i acc H, H1 D = none → i < m → Pv D i acc H → g (.int (lo + i)) (cSt n js σ) H fun σ2 H2 => σ2.drop n = (cSt n js σ).drop n ∧ tc σ2 H2 fun b H3 => if b = true then te σ2 H3 fun v H4 => H4 D = some (.lst acc) ∧ Pv D (i + 1) (acc ++ [v]) (upd H4 D (.lst (acc ++ [v]))) else H3 D = some (.lst acc) ∧ Pv D (i + 1) acc H3)
    (hd : ∀ D acc H, H1 D = none → Pv D m acc H → Q (.ref D) H) : CompW n js g tc te σ Q (Itr lo m) H1 := by
  intro D hD
  refine ⟨fun i k acc H => k = m - i ∧ i ≤ m ∧ Pv D i acc H, ⟨m, by simp, Nat.zero_le _, h0 D hD⟩, ?_⟩
  rintro i k acc H ⟨rfl, hi, p⟩
  obtain ⟨e1, e3⟩ := hl D i acc H hD hi p
  refine ⟨e1, ?_⟩
  by_cases hlt : i < m
  · refine .inr ⟨hlt, by omega, Pv D (i + 1), fun acc' H' p' => ⟨m - (i + 1), by omega, rfl, hlt, p'⟩, fun x H' y => ?_⟩
    obtain ⟨e, y⟩ := y
    subst e y
    exact hs D i acc _ hD hlt p
  · have e : i = m := by omega
    subst e
    exact .inl ⟨Nat.le_refl _, hd D acc H hD p⟩

theorem Same.upd_new {H : Hp} {a : Addr} {o : HO} (h : H a = none) : Same H (upd H a o) := fun b u e => by
  rw [upd_ne (ne_of_none e h)]
  exact e
theorem Same.upd {H0 H : Hp} {a : Addr} {o : HO} (e : Same H0 H) (h : H0 a = none) : Same H0 (upd H a o) := fun b u q => by
  rw [upd_ne (ne_of_none q h)]
  exact e b u q
theorem gName_mono (i : Nat) : ∀ (x : V) (σ : St) (H : Hp) (P P' : St → Hp → Prop), (∀ σ2 H2, P σ2 H2 → P' σ2 H2) → gName i x σ H P → gName i x σ H P' := fun _ _ _ _ _ h q => h _ _ q
end

/-! ### readings in short, for simp -/
theorem cxOf_K {CX : CXT} {P : Program} {w : World} {K : PySem.W.Frag} {mg : Str → Option Value} {base : Heap} {N : List Str} {qual : Str} {scope : Scope} {f : Addr} {cd : Value} {A : Around} {outer : List Env} {s : Shared} {H : Hp} {E : XK} :
    (cxOf CX P w K mg base N qual scope f cd A outer s H E).K = K := rfl
theorem cxC_K {X : Cx} {scope : Scope} {N' : List Str} {C : Addr} {fp : List Addr} {s : Shared} {H : Hp} : (cxC X scope N' C fp s H).K = X.K := rfl
theorem upd_none {H : Hp} {p a : Addr} {o : HO} (h : upd H p o a = none) : a ≠ p ∧ H a = none := by
  unfold upd at h
  split at h
  · cases h
  · rename_i z; exact ⟨z, h⟩
section
variable {H : Hp} {Q : VK} {i j : Int} {b c : Bool} {x y : Str}
theorem rEq_ii : rEq (.int i) (.int j) H Q = Q (.bl (decide (i = j))) H := by simp [rEq, scal]
theorem rNe_ii : rNe (.int i) (.int j) H Q = Q (.bl (!decide (i = j))) H := by simp [rNe, scal]
theorem rEq_bb : rEq (.bl b) (.bl c) H Q = Q (.bl (decide (b = c))) H := by simp [rEq, scal]
theorem rNe_bb : rNe (.bl b) (.bl c) H Q = Q (.bl (!decide (b = c))) H := by simp [rNe, scal]
theorem cmul_mod {a m b : Int} (h0 : 0 < m) (h1 : m ≤ 2147483648) : CMul (a % m) b := by
  have h2 := Int.emod_nonneg a (show m ≠ 0 by omega)
  have h3 := Int.emod_lt_of_pos a h0
  exact .inl ⟨by omega, by omega⟩
theorem atI_in {α : Type} {xs : List α} {k : Int} (h0 : 0 ≤ k) (h1 : k < xs.length) : ∃ v, v ∈ xs ∧ atI xs k = some v := by
  obtain ⟨n, rfl⟩ := Int.eq_ofNat_of_zero_le h0
  have hn : n < xs.length := by omega
  exact ⟨xs[n], List.getElem_mem hn, atI_nat (List.getElem?_eq_getElem hn)⟩
end
theorem truV_bl {K : PySem.W.Frag} {H : Hp} {b k : Bool} : TruV K (.bl b) H k = (k = b) := rfl
theorem clsV_ty {n : String} : clsV (.ty n) = .type n := rfl
/-- what tFor asks of an iterator -/
def ForW (g : TG) (tb : TS) (D : Ends) (σ : St) (J : It) (H1 : Hp) : Prop := ∃ W : Nat → Nat → St → Hp → Prop, (∃ m, W 0 m σ H1) ∧ ∀ i m σ H, W i m σ H →
  (J.stop i H ∧ D.nx σ H) ∨ (J.go i H ∧ ∃ N : St → Hp → Prop, (∀ σ' H', N σ' H' → ∃ m', m' < m ∧ W (i + 1) m' σ' H') ∧ ∀ x H', J.yld i H x H' → g x σ H' fun σ2 H2 => tb { D with nx := N, ct := N, bk := D.nx } σ2 H2)
theorem tFor_eq {wi : TI} {g : TG} {tb : TS} {D : Ends} {σ : St} {H : Hp} : tFor wi g tb D σ H = wi σ H fun J H1 => ForW g tb D σ J H1 := rfl
theorem tComp_eq {n : Nat} {js : List Nat} {wi : TI} {g : TG} {tc : TT} {te : TE} {σ : St} {H : Hp} {Q : VK} : tComp n js wi g tc te σ H Q = wi σ H fun J H1 => CompW n js g tc te σ Q J H1 := rfl
/-- what was just made -/
theorem new_same {H H' : Hp} {p : Addr} {o : HO} (h : upd H p o = H') (hp : H p = none) : Same H H' ∧ H' p = some o := by
  subst h
  exact ⟨Same.upd_new hp, upd_same⟩
end L2
/-! Lists of tuples of ints on the abstract heap. -/
namespace L2
open PySem PySem.Spec PyProof.Rows
def TupI (H : Hp) (x : V) (d : List Int) : Prop := ∃ t, x = .ref t ∧ H t = some (.tup (d.map V.int))
abbrev DeedsX (H : Hp) (xs : List V) (ds : List (List Int)) : Prop := Paired (TupI H) xs ds
def DeedsAt (H : Hp) (a : Addr) (ds : List (List Int)) : Prop := ∃ xs, H a = some (.lst xs) ∧ DeedsX H xs ds
def dD (d : List Int) : PyData := .tuple (d.map PyData.int)
section
variable {H H' : Hp} {x : V} {d : List Int} {xs ys : List V} {ds es : List (List Int)} {a : Addr} {o : HO}
theorem TupI.same (e : Same H H') (h : TupI H x d) : TupI H' x d := let ⟨t, p, q⟩ := h; ⟨t, p, e _ _ q⟩
theorem TupI.upd (h : TupI H x d) (ha : ∀ zs, H a ≠ some (.tup zs)) : TupI (upd H a o) x d := by
  obtain ⟨t, p, q⟩ := h
  refine ⟨t, p, ?_⟩
  rw [upd_ne]
  · exact q
  · rintro rfl; exact ha _ q
theorem DeedsX.same (e : Same H H') (h : DeedsX H xs ds) : DeedsX H' xs ds := Paired.mapP h fun _ _ z => z.same e
theorem DeedsX.upd (h : DeedsX H xs ds) (ha : ∀ zs, H a ≠ some (.tup zs)) : DeedsX (upd H a o) xs ds := Paired.mapP h fun _ _ z => z.upd ha
theorem DeedsX.len (h : DeedsX H xs ds) : xs.length = ds.length := Paired.length h
theorem paired_append {α β : Type} {F : α → β → Prop} : ∀ {l1 m1 : List α} {l2 m2 : List β}, Paired F l1 l2 → Paired F m1 m2 → Paired F (l1 ++ m1) (l2 ++ m2)
  | _, _, _, _, .nil, s => s
  | _, _, _, _, .cons r t, s => .cons r (paired_append t s)
theorem paired_get {α β : Type} {F : α → β → Prop} : ∀ {l1 : List α} {l2 : List β} {i : Nat} {x : α}, Paired F l1 l2 → l1[i]? = some x → ∃ y, l2[i]? = some y ∧ F x y
  | _, _, _, _, .nil, e => by simp at e
  | _, _, 0, _, .cons r _, e => by simp at e; subst e; exact ⟨_, rfl, r⟩
  | _, _, i + 1, x, .cons _ t, e => by
    obtain ⟨u, h1, h2⟩ := paired_get (i := i) (x := x) t (by simpa using e)
    exact ⟨u, by simpa using h1, h2⟩
theorem paired_mem {α β : Type} {F : α → β → Prop} {l1 : List α} {l2 : List β} {x : α} (h : Paired F l1 l2) (hx : x ∈ l1) : ∃ y, y ∈ l2 ∧ F x y := by
  obtain ⟨i, hi, e⟩ := List.mem_iff_getElem.mp hx
  obtain ⟨y, e2, f⟩ := paired_get h (List.getElem?_eq_some_iff.mpr ⟨hi, e⟩)
  exact ⟨y, List.mem_of_getElem? e2, f⟩
theorem DeedsAt.same (e : Same H H') (h : DeedsAt H a ds) : DeedsAt H' a ds := let ⟨xs, p, q⟩ := h; ⟨xs, e _ _ p, q.same e⟩
theorem hasAll_ints {K : PySem.W.Frag} : ∀ d : List Int, HasAll K H (d.map V.int) (d.map PyData.int)
  | [] => .nil
  | i :: d => .cons (.int i) (hasAll_ints d)
theorem TupI.has {K : PySem.W.Frag} (h : TupI H x d) : Has K H x (dD d) := by
  obtain ⟨t, rfl, e⟩ := h
  exact .tup (SqT.of e) (hasAll_ints d)
theorem DeedsX.has {K : PySem.W.Frag} : ∀ {xs : List V} {ds : List (List Int)}, DeedsX H xs ds → HasAll K H xs (ds.map dD)
  | _, _, .nil => .nil
  | _, _, .cons r t => .cons r.has (DeedsX.has t)
theorem DeedsAt.has {K : PySem.W.Frag} (h : DeedsAt H a ds) : Has K H (.ref a) (.list (ds.map dD)) := let ⟨_, p, q⟩ := h; .lst (SqL.of p) q.has
/-! equality of such data -/
/-! cuts -/
theorem cutV_map (d : List Int) (lo hi : Option Int) : ∃ e : List Int, cutV (d.map V.int) lo hi = e.map V.int := by
  unfold cutV
  exact ⟨(d.drop (HT.sIx (d.map V.int).length 0 lo)).take (HT.sIx (d.map V.int).length (d.map V.int).length hi - HT.sIx (d.map V.int).length 0 lo), by rw [List.map_take, List.map_drop]⟩
end
end L2
/-! Own classes in short; dicts with written keys; is with a truth. -/
namespace L2
open PySem PySem.Spec PyProof.Rows
/-- the method m of the class at C stands as st -/
def DefM (K : PySem.W.Frag) (C : Addr) (m qual : Str) (st : Stmt) : Prop := ∃ f fd, Meth K C m f ∧ Fun K m qual st f fd
/-- the class's __init__ stands as st, and the class can be made -/
def DefI (K : PySem.W.Frag) (C : Addr) (qual : Str) (st : Stmt) : Prop := ∃ f fd, Mk K C f ∧ Fun K "__init__" qual st f fd
def OwnM (P : Program) (w : World) (K : PySem.W.Frag) (mg : Str → Option Value) (base : Heap) (k : Nat) (C : Addr) (m : Str) (ps : List Str) (sp : Sp) : Prop :=
  ∃ f fd, Meth K C m f ∧ Binds K fd ps [] ∧ FnOk P w K mg base CX0 k f fd ps sp
def OwnI (P : Program) (w : World) (K : PySem.W.Frag) (mg : Str → Option Value) (base : Heap) (k : Nat) (C : Addr) (ps : List Str) (sp : Sp) : Prop :=
  ∃ f fd, Mk K C f ∧ Binds K fd ps [] ∧ FnOk P w K mg base CX0 k f fd ps sp
/-- the class x stands at C; none of it or above it has the names -/
structure ClsD (K : PySem.W.Frag) (mg : Str → Option Value) (x : Str) (C : Addr) (attrs : List Str) : Prop where
  mgC : mg x = some (.ref C)
  cl : Cls K C
  no : ∀ f ∈ attrs, NoAttr K C f
section
variable {P : Program} {w : World} {K : PySem.W.Frag} {mg : Str → Option Value} {base : Heap} {C : Addr} {m qual : Str} {st : Stmt} {N ps : List Str} {k : Nat} {sp : Sp}
theorem DefM.own (D : DefM K C m qual st) (S : FnScope N ps (defScope st))
    (hb : ∀ (kV doc pm : Value) (an : Option Addr) (cdv ct : Value) (us : List Value), us.length = ps.length → bindArgs (PySem.W.fnOf m qual (defArgs st) (defBody st) (defScope st) .none kV doc pm an cdv ct) ⟨us, []⟩ = pure (ps.zip us))
    (len : ∀ vs H Q E, sp vs H Q E → vs.length = ps.length)
    (hbody : ∀ (f : Addr) (cdv : Value) (A : Around) (outer : List Env) (s : Shared) (H : Hp) (vs : List V) (Q : VK) (E : XK), Room k (A.deeper (envOfC qual (defScope st) s.heap.objs.size f cdv)) → sp vs H Q E →
      ∃ t, PSs (cxOf CX0 P w K mg base N qual (defScope st) f cdv A outer s H E).nox (defBody st) t ∧ t { nx := fun _ H' => Q .non H', rt := Q } (start N vs) H) : OwnM P w K mg base (k + 1) C m ps sp := by
  obtain ⟨f, fd, hm, F⟩ := D
  exact ⟨f, fd, hm, F.binds hb, F.ok S len (hbody f)⟩
theorem DefI.own (D : DefI K C qual st) (S : FnScope N ps (defScope st))
    (hb : ∀ (kV doc pm : Value) (an : Option Addr) (cdv ct : Value) (us : List Value), us.length = ps.length → bindArgs (PySem.W.fnOf "__init__" qual (defArgs st) (defBody st) (defScope st) .none kV doc pm an cdv ct) ⟨us, []⟩ = pure (ps.zip us))
    (len : ∀ vs H Q E, sp vs H Q E → vs.length = ps.length)
    (hbody : ∀ (f : Addr) (cdv : Value) (A : Around) (outer : List Env) (s : Shared) (H : Hp) (vs : List V) (Q : VK) (E : XK), Room k (A.deeper (envOfC qual (defScope st) s.heap.objs.size f cdv)) → sp vs H Q E →
      ∃ t, PSs (cxOf CX0 P w K mg base N qual (defScope st) f cdv A outer s H E).nox (defBody st) t ∧ t { nx := fun _ H' => Q .non H', rt := Q } (start N vs) H) : OwnI P w K mg base (k + 1) C ps sp := by
  obtain ⟨f, fd, hm, F⟩ := D
  exact ⟨f, fd, hm, F.binds hb, F.ok S len (hbody f)⟩
theorem defM_mk {f : Addr} {oc : Value} {od an : Option Addr} {osl : Array (Option Value)} {kV doc pm cdv ct : Value} (a : PySem.W.findIn K (.ref C) m = some (some (.ref f))) (i : PySem.W.isFn K (.ref f) = true)
    (l : K.lookup f = some ⟨oc, od, .func (PySem.W.fnOf m qual (defArgs st) (defBody st) (defScope st) .none kV doc pm an cdv ct), osl⟩) (c : PySem.W.codeIn K cdv qual = true) (k : PySem.W.keepIn K (.ref f) = true) : DefM K C m qual st :=
  ⟨f, _, ⟨a, i, k⟩, fun_mk l c k⟩
theorem defI_mk {f : Addr} {oc : Value} {od an : Option Addr} {osl : Array (Option Value)} {kV doc pm cdv ct : Value} (a : PySem.W.findIn K (.ref C) "__init__" = some (some (.ref f))) (i : PySem.W.isFn K (.ref f) = true)
    (l : K.lookup f = some ⟨oc, od, .func (PySem.W.fnOf "__init__" qual (defArgs st) (defBody st) (defScope st) .none kV doc pm an cdv ct), osl⟩) (c : PySem.W.codeIn K cdv qual = true) (k : PySem.W.keepIn K (.ref f) = true)
    (mk : PySem.W.makesIn K C = true) (kc : PySem.W.keepIn K (.ref C) = true) : DefI K C qual st :=
  ⟨f, _, ⟨mk, a, i, kc⟩, fun_mk l c k⟩
end
section
variable {X : Cx} {j k : Nat} {C : Addr} {x m : Str} {ps : List Str} {sp : Sp} {p pos apos : Pos} {o e : Expr} {es : List Expr} {ta : TE} {t : TA}
theorem pe_mth {pl : Sem Bool} (M : OwnM X.prog X.w X.K X.mg X.base j C m ps sp) (c : Cls X.K C) (hr : Room k X.A) (he : PE X o ta) (ha : PA X (e :: es) t) (hk : j ≤ k := by decide)
    (hst : starEach (e :: es) X.env = (false, eval e X.env) :: starEach es X.env := by rfl) (hpl : (backTo pos (starEach es X.env)).any (·.1) = false := by rfl)
    (ht : eval (.Call (.Attribute o m apos) (e :: es) [] pos) X.env = (do
      let ov ← eval o X.env
      standAt apos.atName
      let (f, first) ← holding [ov] (getMethod ov m pl)
      callWith pos f first (backTo pos (starEach (e :: es) X.env)) (backToKw pos (keywordEach [] X.env))) := by rfl) :
    PE X (.Call (.Attribute o m apos) (e :: es) [] pos) (tMeth C m sp [] E0 ta t) := by
  obtain ⟨f, fd, hm, hb, F⟩ := M
  exact pe_meth (pl := pl) he c hm F (hr.mono hk) hb .nil pass0 ha hst hpl ht
theorem pe_mak (M : OwnI X.prog X.w X.K X.mg X.base j C ps sp) (hr : Room k X.A) (hm : X.mg x = some (.ref C)) (ha : PA X (e :: es) t) (hk : j + 1 ≤ k := by decide) (hg : Gl X x := by rfl)
    (hdb : (x == ("__debug__" : Str)) = false := by decide) (he : starEach (e :: es) X.env = (false, eval e X.env) :: starEach es X.env := by rfl) (hpl : (backTo pos (starEach es X.env)).any (·.1) = false := by rfl) :
    PE X (.Call (.Name x p) (e :: es) [] pos) (tMake C sp [] E0 t) := by
  obtain ⟨f, fd, hk', hb, F⟩ := M
  exact pe_make hk' F (hr.mono hk) hg hm hb .nil pass0 ha hdb he hpl
/-- x is True, x is False, of a truth -/
def rIsB : R2 := fun x y H Q => ∃ a b, x = .bl a ∧ y = .bl b ∧ Q (.bl (decide (a = b))) H
def rIsntB : R2 := fun x y H Q => ∃ a b, x = .bl a ∧ y = .bl b ∧ Q (.bl (!decide (a = b))) H
theorem op_isB : OpR X (compareOp .Is) rIsB := by
  intro pins s σ H x y v u Q I rx ry h
  obtain ⟨a, b, rfl, rfl, q⟩ := h
  cases rx
  cases ry
  exact is_bool (fin_bl I q (by cases a <;> cases b <;> rfl))
end
/-- a name of the top that holds a known value -/
theorem pe_glb {X : Cx} {x : Str} {v : V} {pos : Pos} (h : ∃ u, X.mg x = some u ∧ RelV v u) (hg : Gl X x := by rfl) (hd : (x == ("__debug__" : Str)) = false := by decide) : PE X (.Name x pos) (tC v) := by
  obtain ⟨u, hm, r⟩ := h
  exact pe_glob hg hm r hd
/-! dicts with written text keys -/
theorem DGet.s {H : Hp} {a : Addr} {kvs : List (Key × V)} {x : Str} {v : V} (e : H a = some (.dK kvs)) (h : valV kvs (Sum.inr x : Key) = some v) : DGet H a (.str x) (some v) := by
  have := DGet.k (k := Sum.inr x) e
  rw [h] at this
  exact this
theorem DPut.s {H : Hp} {a : Addr} {kvs : List (Key × V)} {x : Str} {v : V} {kvs' : List (Key × V)} (e : H a = some (.dK kvs)) (hl : kvs.length < sizeLine) (h : putK kvs (Sum.inr x : Key) v = kvs') : DPut H a (.str x) v (upd H a (.dK kvs')) := by
  subst h
  exact DPut.k (k := Sum.inr x) e hl
def tDGs (td : TE) (x : Str) : TE := fun σ H Q => td σ H fun d H1 => ∃ a kvs v, d = .ref a ∧ H1 a = some (.dK kvs) ∧ valV kvs (Sum.inr x : Key) = some v ∧ Q v H1
def sDPs (td tv : TE) (x : Str) : TS := fun D σ H => tv σ H fun v H1 => td σ H1 fun d H2 => ∃ a kvs, d = .ref a ∧ H2 a = some (.dK kvs) ∧ kvs.length < sizeLine ∧ D.nx σ (upd H2 a (.dK (putK kvs (Sum.inr x : Key) v)))
section
variable {X : Cx} {o value : Expr} {td tv : TE} {x : Str} {j : Nat} {pos pos' cpos : Pos}
end
theorem glb_mk {K : PySem.W.Frag} {h : Heap} {mg : Str → Option Value} (X : K.In h) (G : h.Ns mainGlobals mg) {x : Str} {i : Int} {t : Tok} (a : PySem.W.nsIn K mainGlobals x = some (some (.int i t))) : ∃ u, mg x = some u ∧ RelV (.int i) u :=
  ⟨_, PySem.W.mg_of X G a, t, rfl⟩
end L2
namespace K04
/-! The mathematics of a list's fairness: over flags, true where a deed has no delay. -/
def Run (c : List Bool) (k : Nat) : Prop := ∃ i, i + k ≤ c.length ∧ ∀ j, j < k → c[i + j]? = some true
def Tail (c : List Bool) (k : Nat) : Prop := k ≤ c.length ∧ ∀ j, j < k → c[c.length - k + j]? = some true

theorem Run.zero (c : List Bool) : Run c 0 := ⟨0, by omega, fun j h => by omega⟩
theorem Tail.zero (c : List Bool) : Tail c 0 := ⟨by omega, fun j h => by omega⟩

theorem Run.snoc {c : List Bool} {e : Bool} {k : Nat} : Run (c ++ [e]) k ↔ Run c k ∨ Tail (c ++ [e]) k := by
  constructor
  · rintro ⟨i, h1, h2⟩
    simp at h1
    by_cases h : i + k = c.length + 1
    · refine .inr ⟨by simp; omega, fun j hj => ?_⟩
      have e2 : (c ++ [e]).length - k + j = i + j := by simp; omega
      rw [e2]; exact h2 j hj
    · refine .inl ⟨i, by omega, fun j hj => ?_⟩
      have := h2 j hj
      rw [List.getElem?_append_left (by omega)] at this
      exact this
  · rintro (⟨i, h1, h2⟩ | ⟨h1, h2⟩)
    · exact ⟨i, by simp; omega, fun j hj => by rw [List.getElem?_append_left (by omega)]; exact h2 j hj⟩
    · exact ⟨(c ++ [e]).length - k, by omega, h2⟩

/-- of k places one after another, round and round, none has a delay -/
def Ring (b : List Bool) (k : Nat) : Prop := ∃ st, st < b.length ∧ ∀ j, j < k → b[(st + j) % b.length]? = some true

theorem Ring.lt {b : List Bool} {k : Nat} (hf : false ∈ b) (h : Ring b k) : k < b.length := by
  obtain ⟨st, hs, h⟩ := h
  rcases Nat.lt_or_ge k b.length with z | z
  · exact z
  · exfalso
    obtain ⟨i, hi, e⟩ := List.mem_iff_getElem.mp hf
    have q := h ((i + b.length - st) % b.length) (Nat.lt_of_lt_of_le (Nat.mod_lt _ (by omega)) z)
    have e2 : (st + (i + b.length - st) % b.length) % b.length = i := by
      rw [Nat.add_mod_mod]
      have : st + (i + b.length - st) = i + b.length := by omega
      rw [this, Nat.add_mod_right, Nat.mod_eq_of_lt hi]
    rw [e2, List.getElem?_eq_getElem hi, e] at q
    cases q

end K04
/-! Letters, pairs under way, a road, over the abstract heap. -/
namespace L2
open PySem PySem.Spec PyProof.Rows
def optV : Option Int → V
  | some n => .int n
  | none => .non
/-- all but the places of S stays -/
def Keep (S : List Addr) (H H' : Hp) : Prop := ∀ b o, H b = some o → b ∉ S → H' b = some o
section
variable {S T : List Addr} {H H1 H2 : Hp} {a b : Addr} {o : HO}
theorem Keep.refl : Keep S H H := fun _ _ h _ => h
theorem Keep.trans (k : Keep S H H1) (j : Keep S H1 H2) : Keep S H H2 := fun b o h n => j b o (k b o h n) n
theorem Same.keep (s : Same H H1) : Keep S H H1 := fun b o h _ => s b o h
theorem Keep.same (k : Keep S H H1) (s : Same H1 H2) : Keep S H H2 := fun b o h n => s b o (k b o h n)
theorem Keep.mono (k : Keep S H H1) (h : ∀ b ∈ S, b ∈ T) : Keep T H H1 := fun b o e n => k b o e fun z => n (h b z)
theorem Keep.upd (k : Keep S H H1) (h : a ∈ S ∨ H a = none) : Keep S H (upd H1 a o) := fun b u e n => by
  rw [upd_ne]
  · exact k b u e n
  · rintro rfl
    rcases h with z | z
    · exact n z
    · rw [z] at e; cases e
theorem Keep.free (k : Keep S H H1) (h : H1 b = none) (hb : b ∉ S) : H b = none := by
  cases e : H b with
  | none => rfl
  | some o => rw [k b o e hb] at h; cases h
/-- what is new may change -/
theorem Keep.less (k : Keep S H1 H2) (s : Same H H1) (h : ∀ b ∈ S, b ∈ T ∨ H b = none) : Keep T H H2 := fun b o e n => k b o (s b o e) fun z => by
  rcases h b z with q | q
  · exact n q
  · rw [q] at e; cases e
end
/-- a letter and what it says -/
inductive LetV (H : Hp) : V → PyData → Prop
  | str {t : Str} (ok : PyData.strOk t = true) : LetV H (.str t) (.str t)
  | int (n : Int) : LetV H (.int n) (.int n)
  | lst {p : Addr} {n : Int} : H p = some (.lst [.int n]) → LetV H (.ref p) (.list [.int n])
  | tup {p : Addr} {t : Str} {n : Int} (ok : PyData.strOk t = true) : H p = some (.tup [.str t, .int n]) → LetV H (.ref p) (.tuple [.str t, .int n])
/-- no letter lies here -/
def Soft (H : Hp) (b : Addr) : Prop := (∀ xs, H b ≠ some (.tup xs)) ∧ ∀ n, H b ≠ some (.lst [.int n])
section
variable {S : List Addr} {H H' : Hp} {x : V} {d : PyData} {b : Addr}
theorem Soft.of_ins {C dx : Addr} {fs : List (Str × V)} (h : H b = some (.ins C dx fs)) : Soft H b := ⟨(fun xs e => by rw [h] at e; cases e), (fun n e => by rw [h] at e; cases e)⟩
theorem Soft.of_dK {kvs : List (Key × V)} (h : H b = some (.dK kvs)) : Soft H b := ⟨(fun xs e => by rw [h] at e; cases e), (fun n e => by rw [h] at e; cases e)⟩
theorem LetV.keep (k : Keep S H H') (hs : ∀ b ∈ S, Soft H b) : LetV H x d → LetV H' x d
  | .str ok => .str ok
  | .int n => .int n
  | .lst h => .lst (k _ _ h fun z => (hs _ z).2 _ h)
  | .tup ok h => .tup ok (k _ _ h fun z => (hs _ z).1 _ h)
theorem LetV.same (s : Same H H') (h : LetV H x d) : LetV H' x d := h.keep (S := []) s.keep (fun _ z => nomatch z)
theorem LetV.has {K : PySem.W.Frag} : LetV H x d → Has K H x d
  | .str _ => .str _
  | .int n => .int n
  | .lst h => .lst (SqL.of h) (.cons (.int _) .nil)
  | .tup _ h => .tup (SqT.of h) (.cons (.str _) (.cons (.int _) .nil))
theorem LetV.refl : LetV H x d → PyData.eqv d d = true
  | .str t => by simp [PyData.eqv]
  | .int n => by simp [PyData.eqv]
  | .lst h => by simp [PyData.eqv, PyData.eqvAll]
  | .tup _ h => by simp [PyData.eqv, PyData.eqvAll]
theorem LetV.lay : LetV H x d → PyData.canLay0 d = true
  | .str ok => by simp [PyData.canLay0, ok]
  | .int n => by simp [PyData.canLay0]
  | .lst h => by simp [PyData.canLay0, PyData.canLayAll0]
  | .tup ok h => by simp [PyData.canLay0, PyData.canLayAll0, ok]
theorem LetV.depth : LetV H x d → d.depth ≤ 3
  | .str t => by simp [PyData.depth]
  | .int n => by simp [PyData.depth]
  | .lst h => by simp [PyData.depth, PyData.depthAll]
  | .tup _ h => by simp [PyData.depth, PyData.depthAll]
end
def LetsX (H : Hp) (zs : List V) (qs : List PyData) : Prop := Paired (LetV H) zs qs
section
variable {S : List Addr} {H H' : Hp}
theorem LetsX.keep (k : Keep S H H') (hs : ∀ b ∈ S, Soft H b) {zs : List V} {qs : List PyData} (h : LetsX H zs qs) : LetsX H' zs qs := Paired.mapP h fun _ _ z => z.keep k hs
theorem LetsX.same (s : Same H H') {zs : List V} {qs : List PyData} (h : LetsX H zs qs) : LetsX H' zs qs := Paired.mapP h fun _ _ z => z.same s
theorem LetsX.has {K : PySem.W.Frag} : ∀ {zs : List V} {qs : List PyData}, LetsX H zs qs → HasAll K H zs qs
  | _, _, .nil => .nil
  | _, _, .cons r t => .cons r.has (LetsX.has t)
theorem LetsX.refl : ∀ {zs : List V} {qs : List PyData}, LetsX H zs qs → PyData.eqvAll qs qs = true
  | _, _, .nil => by simp [PyData.eqvAll]
  | _, _, .cons r t => by rw [PyData.eqvAll, r.refl, LetsX.refl t]; rfl
theorem LetsX.lay : ∀ {zs : List V} {qs : List PyData}, LetsX H zs qs → PyData.canLayAll0 qs = true
  | _, _, .nil => by simp [PyData.canLayAll0]
  | _, _, .cons r t => by rw [PyData.canLayAll0, r.lay, LetsX.lay t]; rfl
theorem LetsX.depth : ∀ {zs : List V} {qs : List PyData}, LetsX H zs qs → PyData.depthAll qs ≤ 3
  | _, _, .nil => by simp [PyData.depthAll]
  | _, _, .cons r t => by
    have h1 := r.depth
    have h2 := LetsX.depth t
    rw [PyData.depthAll]
    omega
theorem LetsX.shaped {zs : List V} {qs : List PyData} (h : LetsX H zs qs) : SeqAt.shaped (.list qs) = true := by
  have := h.depth
  unfold SeqAt.shaped
  rw [PyData.canLay0, h.lay, PyData.depth, decide_eq_true (by omega)]; rfl
end
/-- a pair of a turn and a letter -/
def PairV (H : Hp) (x : V) (p : Int × PyData) : Prop := ∃ t y, x = .ref t ∧ H t = some (.tup [.int p.1, y]) ∧ LetV H y p.2
def PairsX (H : Hp) (xs : List V) (us : List (Int × PyData)) : Prop := Paired (PairV H) xs us
section
variable {S : List Addr} {H H' : Hp} {xs : List V} {us : List (Int × PyData)} {b : Addr}
theorem PairV.keep (k : Keep S H H') (hs : ∀ b ∈ S, Soft H b) {x : V} {p : Int × PyData} (h : PairV H x p) : PairV H' x p := by
  obtain ⟨t, y, e, h1, h2⟩ := h
  exact ⟨t, y, e, k _ _ h1 fun z => (hs _ z).1 _ h1, h2.keep k hs⟩
theorem PairsX.keep (k : Keep S H H') (hs : ∀ b ∈ S, Soft H b) (h : PairsX H xs us) : PairsX H' xs us := Paired.mapP h fun _ _ z => z.keep k hs
theorem PairsX.same (s : Same H H') (h : PairsX H xs us) : PairsX H' xs us := h.keep (S := []) s.keep (fun _ z => nomatch z)
theorem PairsX.len (h : PairsX H xs us) : xs.length = us.length := Paired.length h
theorem deeds_keep {a : Addr} {ds : List (List Int)} (k : Keep S H H') (hs : ∀ b ∈ S, Soft H b) (ha : a ∉ S) (h : DeedsAt H a ds) : DeedsAt H' a ds := by
  obtain ⟨xs, e, d⟩ := h
  exact ⟨xs, k _ _ e ha, Paired.mapP d fun _ _ ⟨t, p, q⟩ => ⟨t, p, k _ _ q fun z => (hs _ z).1 _ q⟩⟩
theorem Soft.keep {T : List Addr} (k : Keep T H H') (hb : b ∉ T) (hn : H b ≠ none) (h : Soft H b) : Soft H' b := by
  cases e : H b with
  | none => exact absurd e hn
  | some o =>
    have := k b o e hb
    refine ⟨fun xs q => h.1 xs ?_, fun n q => h.2 n ?_⟩
    · rw [this] at q; rw [e]; exact q
    · rw [this] at q; rw [e]; exact q
end
/-- the delays of what is sent in turn z -/
def del (ds : List (List Int)) (z : Int) : List Int := if ds = [] then [1] else ds.getD (z.toNat % ds.length) []
/-! ### a road -/
def rf (l : Addr) (ls la : Option Int) (u : Addr) : List (Str × V) := [("deeds", .ref l), ("last_sent", optV ls), ("last_asked", optV la), ("underway", .ref u)]
section
variable {l u : Addr} {ls la : Option Int}
end
structure RoadAt (C : Addr) (H : Hp) (x dx l u : Addr) (ds : List (List Int)) (ls la : Option Int) (us : List (Int × PyData)) : Prop where
  ins : H x = some (.ins C dx (rf l ls la u))
  deeds : DeedsAt H l ds
  und : ∃ xs, H u = some (.lst xs) ∧ PairsX H xs us
  ne : l ≠ u
section
variable {S : List Addr} {C : Addr} {H H' : Hp} {x dx l u : Addr} {ds : List (List Int)} {ls la : Option Int} {us : List (Int × PyData)}
theorem RoadAt.keep (k : Keep S H H') (hs : ∀ b ∈ S, Soft H b) (hx : x ∉ S) (hl : l ∉ S) (hu : u ∉ S) (R : RoadAt C H x dx l u ds ls la us) : RoadAt C H' x dx l u ds ls la us := by
  obtain ⟨xs, e, p⟩ := R.und
  exact ⟨k _ _ R.ins hx, deeds_keep k hs hl R.deeds, ⟨xs, k _ _ e hu, p.keep k hs⟩, R.ne⟩
theorem RoadAt.same (s : Same H H') (R : RoadAt C H x dx l u ds ls la us) : RoadAt C H' x dx l u ds ls la us := R.keep (S := []) s.keep (fun _ z => nomatch z) (fun z => nomatch z) (fun z => nomatch z) (fun z => nomatch z)
theorem RoadAt.xl (R : RoadAt C H x dx l u ds ls la us) : x ≠ l := let ⟨_, e, _⟩ := R.deeds; ne_of R.ins e (by intro z; cases z)
end
/-! ### what isinstance tells of a letter -/
end L2
namespace L2
open PySem PySem.Spec PyProof.Rows
theorem Same.seqT {K : PySem.W.Frag} {H H' : Hp} {a : Addr} {xs : List V} (e : Same H H') (h : SqT K H a xs) : SqT K H' a xs := by
  rcases h with h | h
  · rcases h with h | ⟨o, h⟩
    · exact .inl (.inl (e _ _ h))
    · exact .inl (.inr ⟨o, e _ _ h⟩)
  · exact .inr h
theorem SqT.keep {K : PySem.W.Frag} {S : List Addr} {H H' : Hp} {a : Addr} {xs : List V} (k : Keep S H H') (hs : ∀ b ∈ S, ∃ ys, H b = some (.lst ys)) (h : SqT K H a xs) : SqT K H' a xs := by
  rcases h with h | h
  · rcases h with h | ⟨o, h⟩
    · exact .inl (.inl (k _ _ h fun z => by obtain ⟨ys, e⟩ := hs _ z; rw [h] at e; cases e))
    · exact .inl (.inr ⟨o, k _ _ h fun z => by obtain ⟨ys, e⟩ := hs _ z; rw [h] at e; cases e⟩)
  · exact .inr h
end L2
/-! Data that cannot change: numbers, texts, tuples of such. -/
namespace L2
open PySem PySem.Spec PyProof.Rows
mutual
inductive Im (H : Hp) : V → PyData → Prop
  | non : Im H .non .none
  | bl (b : Bool) : Im H (.bl b) (.bool b)
  | int (n : Int) : Im H (.int n) (.int n)
  | str {t : Str} (ok : PyData.strOk t = true) : Im H (.str t) (.str t)
  | tup {p : Addr} {xs : List V} {ds : List PyData} : H p = some (.tup xs) → Ims H xs ds → xs.length ≤ 1000 → Im H (.ref p) (.tuple ds)
inductive Ims (H : Hp) : List V → List PyData → Prop
  | nil : Ims H [] []
  | cons {x : V} {xs : List V} {d : PyData} {ds : List PyData} : Im H x d → Ims H xs ds → Ims H (x :: xs) (d :: ds)
end
/-- no tuple lies here -/
def NoT (H : Hp) (b : Addr) : Prop := ∀ xs, H b ≠ some (.tup xs)
section
variable {S : List Addr} {H H' : Hp} {b : Addr}
theorem NoT.of_ins {C dx : Addr} {fs : List (Str × V)} (h : H b = some (.ins C dx fs)) : NoT H b := fun xs e => by rw [h] at e; cases e
theorem NoT.of_lst {xs : List V} (h : H b = some (.lst xs)) : NoT H b := fun xs e => by rw [h] at e; cases e
theorem NoT.of_dK {kvs : List (Key × V)} (h : H b = some (.dK kvs)) : NoT H b := fun xs e => by rw [h] at e; cases e
mutual
theorem Im.keep (k : Keep S H H') (hs : ∀ b ∈ S, NoT H b) : ∀ {x : V} {d : PyData}, Im H x d → Im H' x d
  | _, _, .non => .non
  | _, _, .bl b => .bl b
  | _, _, .int n => .int n
  | _, _, .str ok => .str ok
  | _, _, .tup h hx hl => .tup (k _ _ h fun z => hs _ z _ h) (Ims.keep k hs hx) hl
theorem Ims.keep (k : Keep S H H') (hs : ∀ b ∈ S, NoT H b) : ∀ {xs : List V} {ds : List PyData}, Ims H xs ds → Ims H' xs ds
  | _, _, .nil => .nil
  | _, _, .cons r t => .cons (Im.keep k hs r) (Ims.keep k hs t)
end
theorem Im.same (s : Same H H') {x : V} {d : PyData} (h : Im H x d) : Im H' x d := h.keep (S := []) s.keep (fun _ z => nomatch z)
theorem Ims.same (s : Same H H') {xs : List V} {ds : List PyData} (h : Ims H xs ds) : Ims H' xs ds := h.keep (S := []) s.keep (fun _ z => nomatch z)
mutual
theorem Im.has {K : PySem.W.Frag} : ∀ {x : V} {d : PyData}, Im H x d → Has K H x d
  | _, _, .non => .non
  | _, _, .bl b => .bl b
  | _, _, .int n => .int n
  | _, _, .str _ => .str _
  | _, _, .tup h hx _ => .tup (SqT.of h) (Ims.has hx)
theorem Ims.has {K : PySem.W.Frag} : ∀ {xs : List V} {ds : List PyData}, Ims H xs ds → HasAll K H xs ds
  | _, _, .nil => .nil
  | _, _, .cons r t => .cons (Im.has r) (Ims.has t)
end
mutual
theorem Im.refl : ∀ {x : V} {d : PyData}, Im H x d → PyData.eqv d d = true
  | _, _, .non => by simp [PyData.eqv]
  | _, _, .bl b => by simp [PyData.eqv]
  | _, _, .int n => by simp [PyData.eqv]
  | _, _, .str _ => by simp [PyData.eqv]
  | _, _, .tup _ hx _ => by rw [PyData.eqv]; exact Ims.refl hx
theorem Ims.refl : ∀ {xs : List V} {ds : List PyData}, Ims H xs ds → PyData.eqvAll ds ds = true
  | _, _, .nil => by simp [PyData.eqvAll]
  | _, _, .cons r t => by rw [PyData.eqvAll, Im.refl r, Ims.refl t]; rfl
end
mutual
theorem Im.lay : ∀ {x : V} {d : PyData}, Im H x d → PyData.canLay0 d = true
  | _, _, .non => by simp [PyData.canLay0]
  | _, _, .bl b => by simp [PyData.canLay0]
  | _, _, .int n => by simp [PyData.canLay0]
  | _, _, .str ok => by simp [PyData.canLay0, ok]
  | _, _, .tup _ hx _ => by rw [PyData.canLay0]; exact Ims.lay hx
theorem Ims.lay : ∀ {xs : List V} {ds : List PyData}, Ims H xs ds → PyData.canLayAll0 ds = true
  | _, _, .nil => by simp [PyData.canLayAll0]
  | _, _, .cons r t => by rw [PyData.canLayAll0, Im.lay r, Ims.lay t]; rfl
end
theorem Ims.len : ∀ {xs : List V} {ds : List PyData}, Ims H xs ds → xs.length = ds.length
  | _, _, .nil => rfl
  | _, _, .cons _ t => by rw [List.length_cons, List.length_cons, Ims.len t]
theorem Ims.get : ∀ {xs : List V} {ds : List PyData} {i : Nat} {x : V}, Ims H xs ds → xs[i]? = some x → ∃ d, ds[i]? = some d ∧ Im H x d
  | _, _, _, _, .nil, e => by simp at e
  | _, _, 0, _, .cons r _, e => by simp at e; subst e; exact ⟨_, rfl, r⟩
  | _, _, i + 1, x, .cons _ t, e => by
    obtain ⟨u, h1, h2⟩ := Ims.get (i := i) (x := x) t (by simpa using e)
    exact ⟨u, by simpa using h1, h2⟩
theorem Ims.app : ∀ {xs ys : List V} {ds es : List PyData}, Ims H xs ds → Ims H ys es → Ims H (xs ++ ys) (ds ++ es)
  | _, _, _, _, .nil, s => s
  | _, _, _, _, .cons r t, s => .cons r (Ims.app t s)
theorem Ims.take : ∀ {xs : List V} {ds : List PyData} (n : Nat), Ims H xs ds → Ims H (xs.take n) (ds.take n)
  | _, _, 0, _ => by simp only [List.take_zero]; exact .nil
  | _, _, _ + 1, .nil => .nil
  | _, _, n + 1, .cons r t => .cons r (Ims.take n t)
theorem Ims.drop : ∀ {xs : List V} {ds : List PyData} (n : Nat), Ims H xs ds → Ims H (xs.drop n) (ds.drop n)
  | _, _, 0, r => r
  | _, _, _ + 1, .nil => .nil
  | _, _, n + 1, .cons _ t => Ims.drop n t
theorem Ims.one {x : V} {d : PyData} (h : Im H x d) : Ims H [x] [d] := .cons h .nil
theorem shaped_of {d : PyData} (h : PyData.canLay0 d = true) (hd : d.depth ≤ 64) : SeqAt.shaped d = true := by
  unfold SeqAt.shaped
  rw [h, decide_eq_true hd]; rfl
end
/-! ### sum of a list of numbers -/
theorem ints_vals : ∀ {ns : List Int} {us : List Value}, Vals (ns.map V.int) us → IntsAre us ns
  | [], _, .nil => .nil
  | _ :: _, _, .cons ⟨_, rfl⟩ r => .cons _ _ (ints_vals r)
section
variable {X : Cx}
theorem call_sum (hc : X.calm = true) : CallR X (.builtin "sum") (fun xs H Q => ∃ (p : Addr) (ns : List Int), xs = [.ref p] ∧ SqL X.K H p (ns.map V.int) ∧ Q (.int ns.sum) H) := by
  intro pins s σ H xs us Q I r h
  obtain ⟨p, ns, rfl, hq, q⟩ := h
  obtain ⟨u, rfl, rx⟩ := vals1 r
  cases rx
  obtain ⟨its, rv, pl, hz⟩ := I.list hq
  have hi := ints_vals rv
  obtain ⟨xs, hx⟩ := hi.allInts.items
  have hl := pl.isList
  rw [hx] at hl
  refine sum_intListG (show X.A.handled = none from I.ok.hd hc) hl fun h' tk t' hk => ⟨.int ns.sum, H, I.kept (t' := tk) hk, ?_, q⟩
  have e1 : ns = xs.toList.map (·.1) := by
    rw [← nums_intItems, ← hx]
    exact (show numsOf its.toArray.toList = ns from hi.numsOf).symm
  rw [preSum_eq, List.take_of_length_le (by simp), ← e1]
  exact ⟨_, rfl⟩
end
theorem bt_sum : bootBuiltins "sum" = some (.builtin "sum") := by decide +kernel
section
variable {X : Cx} {j k : Nat} {C : Addr} {x m : Str} {ps : List Str} {sp : Sp} {p pos apos : Pos} {o : Expr} {ta : TE}
theorem pe_mak0 (M : OwnI X.prog X.w X.K X.mg X.base j C ps sp) (hr : Room k X.A) (hm : X.mg x = some (.ref C)) (hk : j + 1 ≤ k := by decide) (hg : Gl X x := by rfl) (hdb : (x == ("__debug__" : Str)) = false := by decide) :
    PE X (.Call (.Name x p) [] [] pos) (tMake C sp [] E0 tNil) := by
  obtain ⟨f, fd, hk', hb, F⟩ := M
  exact pe_make0 hk' F (hr.mono hk) hg hm hb .nil pass0 hdb
end
/-! ### numbered parcels -/
/-- a pair of a number and a parcel -/
def pd (p : Int × PyData) : PyData := .tuple [.int p.1, p.2]
section
variable {S : List Addr} {H H' : Hp}
theorem Ims.pair {v : V} {p : Int × PyData} (h : Im H v (pd p)) : ∃ t y, v = .ref t ∧ H t = some (.tup [.int p.1, y]) ∧ Im H y p.2 := by
  unfold pd at h
  cases h with
  | @tup t xs ds e hx hl =>
    cases hx with
    | cons r1 hx =>
      cases r1
      cases hx with
      | cons r2 hx =>
        cases hx
        exact ⟨t, _, rfl, e, r2⟩
theorem Im.pair {t : Addr} {y : V} {n : Int} {d : PyData} (e : H t = some (.tup [.int n, y])) (h : Im H y d) : Im H (.ref t) (pd (n, d)) := .tup e (.cons (.int n) (.cons h .nil)) (by simp)
end
/-- what the taker does with a pair -/
def tk (s : Int × List PyData) (p : Int × PyData) : Int × List PyData := if p.1 = s.1 then (s.1 + 1, s.2 ++ [p.2]) else s
end L2
/-! Readings that may be weakened: what while_by asks of a test. -/
namespace L2
open PySem PySem.Spec PyProof.Rows
/-! ### a list and another one, both only read -/
section
variable {X : Cx}
end
end L2
/-! Readings by what stands at an address itself: they run by simp alone. -/
namespace L2
open PySem PySem.Spec PyProof.Rows
section
variable {X : Cx}
theorem OpR.weak {f : Value → Value → Sem Value} {r r' : R2} (h : OpR X f r) (w : ∀ x y H Q, r' x y H Q → r x y H Q) : OpR X f r' :=
  fun pins s σ H x y v u Q I rx ry q => h pins s σ H x y v u Q I rx ry (w _ _ _ _ q)
theorem IxR.weak {r r' : R2} (h : IxR X r) (w : ∀ x y H Q, r' x y H Q → r x y H Q) : IxR X r' :=
  fun value slice pins s σ H x y v u Q I rx ry q hs => h value slice pins s σ H x y v u Q I rx ry (w _ _ _ _ q) hs
theorem CallR.weak {f : Value} {r r' : List V → Hp → VK → Prop} (h : CallR X f r) (w : ∀ xs H Q, r' xs H Q → r xs H Q) : CallR X f r' :=
  fun pins s σ H xs us Q I rs q => h pins s σ H xs us Q I rs (w _ _ _ q)
theorem SlR.weak {r r' : V → Option Int → Option Int → Hp → VK → Prop} (h : SlR X r) (w : ∀ x l u H Q, r' x l u H Q → r x l u H Q) : SlR X r' :=
  fun pins s σ H x v vl vu lo hi sl Q I rx hs pl pu q => h pins s σ H x v vl vu lo hi sl Q I rx hs pl pu (w _ _ _ _ _ q)

/-! ### a subscript -/
def getO : HO → V → Option V
  | .lst xs, .int i => atI xs i
  | .tup xs, .int i => atI xs i
  | .dK kvs, .int i => valV kvs (Sum.inl i)
  | .dK kvs, .str x => valV kvs (Sum.inr x)
  | _, _ => none
theorem getO_l {xs : List V} {i : Int} : getO (.lst xs) (.int i) = atI xs i := rfl
theorem getO_t {xs : List V} {i : Int} : getO (.tup xs) (.int i) = atI xs i := rfl
theorem getO_ds {kvs : List (Key × V)} {x : Str} : getO (.dK kvs) (.str x) = valV kvs (Sum.inr x) := rfl
def rGet : R2 := fun x y H Q => ∃ p o v, x = .ref p ∧ H p = some o ∧ getO o y = some v ∧ Q v H
theorem ix_dict (hu : X.A.units + 1 < cLine) : IxR X (fun x y H Q => ∃ a v, x = .ref a ∧ DGet H a y (some v) ∧ Q v H) := by
  intro value slice pins s σ H x y v u Q I rx ry h hs
  obtain ⟨a, z, rfl, g, q⟩ := h
  cases rx
  exact tail_any (dict_typeIs I g) PySem.F.slot_dict_getitem.lookup (d_getItem hu I g ry fun w' s3 I3 rw' => ⟨z, H, I3, rw', q⟩) hs
theorem ix_get (hu : X.A.units + 1 < cLine) : IxR X rGet := by
  intro value slice pins s σ H x y v u Q I rx ry h hs
  obtain ⟨p, o, z, rfl, e, g, q⟩ := h
  cases o with
  | lst xs => cases y <;> first | exact ix_list value slice pins s σ H _ _ v u Q I rx ry ⟨p, xs, _, z, rfl, rfl, SqL.of e, g, q⟩ hs | cases g
  | tup xs => cases y <;> first | exact ix_tup value slice pins s σ H _ _ v u Q I rx ry ⟨p, xs, _, z, rfl, rfl, SqT.of e, g, q⟩ hs | cases g
  | dK kvs =>
    cases y with
    | int i => exact ix_dict hu value slice pins s σ H _ _ v u Q I rx ry ⟨p, z, rfl, .inl ⟨kvs, Sum.inl i, .inl e, rfl, g.symm⟩, q⟩ hs
    | str x => exact ix_dict hu value slice pins s σ H _ _ v u Q I rx ry ⟨p, z, rfl, .inl ⟨kvs, Sum.inr x, .inl e, rfl, g.symm⟩, q⟩ hs
    | _ => cases g
  | _ => cases y <;> cases g

/-! ### len -/
def lenO : HO → Option Nat
  | .lst xs => some xs.length
  | .tup xs => some xs.length
  | .dK kvs => some kvs.length
  | _ => none
def lenX (H : Hp) : V → Option Nat
  | .ref p => (H p).bind lenO
  | .str z => if z.length ≤ sizeLine then some z.length else none
  | _ => none
theorem lenX_r {H : Hp} {p : Addr} : lenX H (.ref p) = (H p).bind lenO := rfl
theorem lenO_l {xs : List V} : lenO (.lst xs) = some xs.length := rfl
def rLenX : List V → Hp → VK → Prop := fun xs H Q => ∃ x n, xs = [x] ∧ lenX H x = some n ∧ Q (.int n) H
theorem call_lenX : CallR X (.builtin "len") rLenX := by
  intro pins s σ H xs us Q I r h
  obtain ⟨x, n, rfl, g, q⟩ := h
  cases x with
  | ref p =>
    cases e : H p with
    | none => rw [lenX_r, e] at g; cases g
    | some o =>
      rw [lenX_r, e] at g
      cases o with
      | lst xs => cases g; exact call_len_seq pins s σ H _ us Q I r ⟨p, xs, rfl, .inl (SqL.of e), q⟩
      | tup xs => cases g; exact call_len_seq pins s σ H _ us Q I r ⟨p, xs, rfl, .inr (SqT.of e), q⟩
      | dK kvs =>
        cases g
        obtain ⟨u, rfl, rx⟩ := vals1 r
        cases rx
        exact d_len I (.inl e) fun t s' I' => ⟨.int _, H, I', ⟨t, rfl⟩, q⟩
      | _ => cases g
  | str z =>
    have g' : (if z.length ≤ sizeLine then some z.length else none) = some n := g
    split at g'
    · cases g'
      rename_i hz
      exact call_len_str pins s σ H _ us Q I r ⟨z, rfl, hz, q⟩
    · cases g'
  | _ => cases g

/-! ### truth -/
def truO : HO → Option Bool
  | .lst xs => some (!xs.isEmpty)
  | .tup xs => some (!xs.isEmpty)
  | .dK kvs => some (!kvs.isEmpty)
  | _ => none
def truX (H : Hp) : V → Option Bool
  | .non => some false
  | .bl b => some b
  | .int i => some (i != 0)
  | .ref p => (H p).bind truO
  | _ => none
theorem truX_b {H : Hp} {b : Bool} : truX H (.bl b) = some b := rfl
theorem truX_r {H : Hp} {p : Addr} : truX H (.ref p) = (H p).bind truO := rfl
theorem truO_l {xs : List V} : truO (.lst xs) = some (!xs.isEmpty) := rfl
def tTruX (ta : TE) : TT := fun σ H Q => ta σ H fun x H' => ∃ k, truX H' x = some k ∧ Q k H'
theorem tru_x : TruR X (fun x H Q => ∃ k, truX H x = some k ∧ Q k H) := by
  intro pins s σ H x v Q I rx h
  obtain ⟨k, g, q⟩ := h
  refine tru_ok pins s σ H x v Q I rx ⟨k, ?_, q⟩
  cases x with
  | non => cases g; rfl
  | bl b => cases g; rfl
  | int i => cases g; rfl
  | ref p =>
    cases e : H p with
    | none => rw [truX_r, e] at g; cases g
    | some o =>
      rw [truX_r, e] at g
      cases o with
      | lst xs => cases g; exact .inl ⟨xs, SqL.of e, rfl⟩
      | tup xs => cases g; exact .inr (.inl ⟨xs, SqT.of e, rfl⟩)
      | dK kvs => cases g; exact .inr (.inr ⟨kvs, e, rfl⟩)
      | _ => cases g
  | _ => cases g
theorem pt_truX {a : Expr} {ta : TE} (ha : PE X a ta) (he : ∀ whole, isTrue a X.env whole = (do let v ← whole; standAt a.pos; holding [v] (truthy v)) := by intro _; rfl) : PT X a (tTruX ta) := by
  intro pins s σ H Q I h
  exact isTrue_plain (thn (ha pins s σ H _ I h) fun v s1 ⟨x, H1, I1, r1, q1⟩ => tru_x pins s1 σ H1 x v Q I1 r1 q1) (he _)

/-! ### in, not in -/
def inO : HO → V → Option Bool
  | .lst xs, x => if flatV x = true ∧ xs.all flatV = true then some (inV x xs) else none
  | .tup xs, x => if flatV x = true ∧ xs.all flatV = true then some (inV x xs) else none
  | .dK kvs, .int i => some (valV kvs (Sum.inl i)).isSome
  | .dK kvs, .str z => some (valV kvs (Sum.inr z)).isSome
  | _, _ => none
theorem inO_ds {kvs : List (Key × V)} {z : Str} : inO (.dK kvs) (.str z) = some (valV kvs (Sum.inr z)).isSome := rfl
def rInX : R2 := fun x y H Q => ∃ p o b, y = .ref p ∧ H p = some o ∧ inO o x = some b ∧ Q (.bl b) H
def rNotInX : R2 := fun x y H Q => ∃ p o b, y = .ref p ∧ H p = some o ∧ inO o x = some b ∧ Q (.bl (!b)) H
theorem op_inX (hu : X.A.units + 1 < cLine) : OpR X (compareOp .In) rInX := by
  intro pins s σ H x y v u Q I rx ry h
  obtain ⟨p, o, b, rfl, e, g, q⟩ := h
  cases o with
  | lst xs =>
    have g' : (if flatV x = true ∧ xs.all flatV = true then some (inV x xs) else none) = some b := g
    split at g'
    · rename_i hz
      cases g'
      exact op_in_seq pins s σ H _ _ v u Q I rx ry ⟨p, xs, rfl, .inl (SqL.of e), hz.1, hz.2, q⟩
    · cases g'
  | tup xs =>
    have g' : (if flatV x = true ∧ xs.all flatV = true then some (inV x xs) else none) = some b := g
    split at g'
    · rename_i hz
      cases g'
      exact op_in_seq pins s σ H _ _ v u Q I rx ry ⟨p, xs, rfl, .inr (SqT.of e), hz.1, hz.2, q⟩
    · cases g'
  | dK kvs =>
    cases ry
    cases x with
    | int i => cases g; exact d_in hu I (.inl ⟨kvs, Sum.inl i, .inl e, rfl, rfl⟩) rx fun s' I' => ⟨.bl _, H, I', rfl, q⟩
    | str z => cases g; exact d_in hu I (.inl ⟨kvs, Sum.inr z, .inl e, rfl, rfl⟩) rx fun s' I' => ⟨.bl _, H, I', rfl, q⟩
    | _ => cases g
  | _ => cases x <;> cases g
theorem op_notinX (hu : X.A.units + 1 < cLine) : OpR X (compareOp .NotIn) rNotInX := by
  intro pins s σ H x y v u Q I rx ry h
  obtain ⟨p, o, b, rfl, e, g, q⟩ := h
  cases o with
  | lst xs =>
    have g' : (if flatV x = true ∧ xs.all flatV = true then some (inV x xs) else none) = some b := g
    split at g'
    · rename_i hz
      cases g'
      exact op_notIn_seq pins s σ H _ _ v u Q I rx ry ⟨p, xs, rfl, .inl (SqL.of e), hz.1, hz.2, q⟩
    · cases g'
  | tup xs =>
    have g' : (if flatV x = true ∧ xs.all flatV = true then some (inV x xs) else none) = some b := g
    split at g'
    · rename_i hz
      cases g'
      exact op_notIn_seq pins s σ H _ _ v u Q I rx ry ⟨p, xs, rfl, .inr (SqT.of e), hz.1, hz.2, q⟩
    · cases g'
  | dK kvs =>
    cases ry
    cases x with
    | int i => cases g; exact d_notIn hu I (.inl ⟨kvs, Sum.inl i, .inl e, rfl, rfl⟩) rx fun s' I' => ⟨.bl _, H, I', rfl, q⟩
    | str z => cases g; exact d_notIn hu I (.inl ⟨kvs, Sum.inr z, .inl e, rfl, rfl⟩) rx fun s' I' => ⟨.bl _, H, I', rfl, q⟩
    | _ => cases g
  | _ => cases x <;> cases g

/-! ### o[i] = v -/
def setO : HO → V → V → Option HO
  | .lst xs, .int k, v => (ixN xs.length k).map fun j => .lst (xs.set j v)
  | .dK kvs, .int i, v => if kvs.length < sizeLine then some (.dK (putK kvs (Sum.inl i) v)) else none
  | .dK kvs, .str z, v => if kvs.length < sizeLine then some (.dK (putK kvs (Sum.inr z) v)) else none
  | _, _, _ => none
theorem setO_l {xs : List V} {k : Int} {v : V} : setO (.lst xs) (.int k) v = (ixN xs.length k).map fun j => .lst (xs.set j v) := rfl
def rSetX : V → V → V → Hp → (Hp → Prop) → Prop := fun o i v H Q => ∃ p ob ob', o = .ref p ∧ H p = some ob ∧ setO ob i v = some ob' ∧ Q (upd H p ob')
theorem set_x (hu : X.A.units + 1 < cLine) : PSet X rSetX := by
  intro pins s σ H o i v ov iv u Q I ro ri rv h
  obtain ⟨p, ob, ob', rfl, e, g, q⟩ := h
  cases ob with
  | lst xs =>
    cases i with
    | int k =>
      cases z : ixN xs.length k with
      | none => rw [setO_l, z] at g; cases g
      | some j =>
        rw [setO_l, z] at g
        cases g
        exact set_list pins s σ H _ _ v ov iv u Q I ro ri rv ⟨p, xs, k, j, rfl, rfl, e, z, q⟩
    | _ => cases g
  | dK kvs =>
    cases ro
    cases i with
    | int k =>
      have g' : (if kvs.length < sizeLine then some (HO.dK (putK kvs (Sum.inl k) v)) else none) = some ob' := g
      split at g'
      · rename_i hz
        cases g'
        exact d_setItem hu I (.inl ⟨kvs, Sum.inl k, e, rfl, hz, rfl⟩) ri rv fun s' I' => ⟨_, I', q⟩
      · cases g'
    | str k =>
      have g' : (if kvs.length < sizeLine then some (HO.dK (putK kvs (Sum.inr k) v)) else none) = some ob' := g
      split at g'
      · rename_i hz
        cases g'
        exact d_setItem hu I (.inl ⟨kvs, Sum.inr k, e, rfl, hz, rfl⟩) ri rv fun s' I' => ⟨_, I', q⟩
      · cases g'
    | _ => cases g
  | _ => cases i <;> cases g

/-! ### slices, list(x), tuple(x) -/
def rSlX : V → Option Int → Option Int → Hp → VK → Prop := fun x lo hi H Q => ∃ a xs, x = .ref a ∧ H a = some (.lst xs) ∧ ∀ p, H p = none → Q (.ref p) (upd H p (.lst (cutV xs lo hi)))
theorem sl_X : SlR X rSlX := sl_list.weak fun _ _ _ _ _ ⟨a, xs, e, h, q⟩ => ⟨a, xs, e, SqL.of h, q⟩
/-- a slice of a tuple, by its content alone -/
def rSlTX : V → Option Int → Option Int → Hp → VK → Prop := fun x lo hi H Q => ∃ a xs, x = .ref a ∧ H a = some (.tup xs) ∧ ∀ p H', (H' = H ∨ (H p = none ∧ H' = upd H p (.tup (cutV xs lo hi)))) → H' p = some (.tup (cutV xs lo hi)) → Q (.ref p) H'
theorem cutV_whole {xs : List V} {lo hi : Option Int} (h : HT.sIx xs.length 0 lo = 0 ∧ HT.sIx xs.length xs.length hi = xs.length) : cutV xs lo hi = xs := by
  unfold cutV
  rw [h.1, h.2]
  simp
theorem sl_TX : SlR X rSlTX := sl_tupW.weak fun _ lo hi H Q ⟨a, xs, e, h, q⟩ => ⟨a, xs, e, SqT.of h, fun w => q a H (.inl rfl) (by rw [cutV_whole w]; exact h), fun _ p hp => q p _ (.inr ⟨hp, rfl⟩) upd_same⟩
def seqO : HO → Option (List V)
  | .lst xs => some xs
  | .tup xs => some xs
  | _ => none
theorem seqO_t {xs : List V} : seqO (.tup xs) = some xs := rfl
/-! ### targets and loops -/
/-! ### equality of scalars, of data -/
/-- data that may be compared -/
def Dt (H : Hp) (v : V) (d : PyData) : Prop := (∀ K : PySem.W.Frag, Has K H v d) ∧ PyData.canLay0 d = true ∧ PyData.eqv d d = true
def Dts (H : Hp) (xs : List V) (ds : List PyData) : Prop := (∀ K : PySem.W.Frag, HasAll K H xs ds) ∧ PyData.canLayAll0 ds = true ∧ PyData.eqvAll ds ds = true
theorem Im.dt {H : Hp} {v : V} {d : PyData} (h : Im H v d) : Dt H v d := ⟨fun _ => h.has, h.lay, h.refl⟩
theorem Ims.dts {H : Hp} {v : List V} {d : List PyData} (h : Ims H v d) : Dts H v d := ⟨fun _ => h.has, h.lay, h.refl⟩
theorem Dt.has {K : PySem.W.Frag} {H : Hp} {v : V} {d : PyData} (h : Dt H v d) : Has K H v d := h.1 K
theorem Dt.lay {H : Hp} {v : V} {d : PyData} (h : Dt H v d) : PyData.canLay0 d = true := h.2.1
theorem Dt.ls {H : Hp} {l : Addr} {xs : List V} {ds : List PyData} (e : H l = some (.lst xs)) (m : Dts H xs ds) : Dt H (.ref l) (.list ds) := ⟨fun K => .lst (SqL.of e) (m.1 K), by rw [PyData.canLay0]; exact m.2.1, by rw [PyData.eqv]; exact m.2.2⟩
theorem Dt.l {H : Hp} {l : Addr} {xs : List V} {ds : List PyData} (e : H l = some (.lst xs)) (m : Ims H xs ds) : Dt H (.ref l) (.list ds) := .ls e m.dts
theorem Dts.nil {H : Hp} : Dts H [] [] := ⟨fun _ => .nil, by simp [PyData.canLayAll0], by simp [PyData.eqvAll]⟩
theorem Dts.cons {H : Hp} {x : V} {xs : List V} {d : PyData} {ds : List PyData} (h : Dt H x d) (t : Dts H xs ds) : Dts H (x :: xs) (d :: ds) :=
  ⟨fun K => .cons (h.1 K) (t.1 K), by rw [PyData.canLayAll0, h.2.1, t.2.1]; rfl, by rw [PyData.eqvAll, h.2.2, t.2.2]; rfl⟩
theorem Dts.app {H : Hp} {ys : List V} {es : List PyData} (t : Dts H ys es) : ∀ {xs : List V} {ds : List PyData}, Dts H xs ds → Dts H (xs ++ ys) (ds ++ es)
  | [], [], _ => t
  | [], _ :: _, h => by cases h.1 [] 
  | _ :: _, [], h => by cases h.1 []
  | x :: xs, d :: ds, h => by
    refine .cons ⟨fun K => ?_, ?_, ?_⟩ (Dts.app t ⟨fun K => ?_, ?_, ?_⟩)
    · cases h.1 K with | cons a b => exact a
    · have := h.2.1; rw [PyData.canLayAll0, Bool.and_eq_true] at this; exact this.1
    · have := h.2.2; rw [PyData.eqvAll, Bool.and_eq_true] at this; exact this.1
    · cases h.1 K with | cons a b => exact b
    · have := h.2.1; rw [PyData.canLayAll0, Bool.and_eq_true] at this; exact this.2
    · have := h.2.2; rw [PyData.eqvAll, Bool.and_eq_true] at this; exact this.2
def rEqX : R2 := fun x y H Q => ∃ d e, Dt H x d ∧ Dt H y e ∧ d.depth ≤ 60 ∧ e.depth ≤ 60 ∧ Q (.bl (PyData.eqv d e)) H
theorem op_eqX (hu : X.A.units + 64 < cLine) : OpR X (compareOp .Eq) rEqX := (op_eqD hu).weak fun _ _ _ _ ⟨d, e, h1, h2, d1, d2, q⟩ => ⟨d, e, h1.has, h2.has, shaped_of h1.lay (by omega), shaped_of h2.lay (by omega), q⟩
/-! ### methods of a list -/
def tBL (r : V → List V → Hp → VK → Prop) (to : TE) (t : TA) : TE := fun σ H Q => to σ H fun x H1 => ∃ p xs, x = .ref p ∧ H1 p = some (.lst xs) ∧ t σ H1 fun xs H2 => r x xs H2 Q
theorem PE.weak {e : Expr} {t t' : TE} (h : PE X e t) (w : ∀ σ H Q, t' σ H Q → t σ H Q) : PE X e t' := fun pins s σ H Q I q => h pins s σ H Q I (w _ _ _ q)
theorem pe_lm {o e : Expr} {es : List Expr} {to : TE} {t : TA} {name : Str} {apos cpos : Pos} {id : String} {r : V → List V → Hp → VK → Prop}
    (slot : Slot "list" name id) (hty : typeOf (.builtin id) = pure (.type "method_descriptor")) (hm : MtR X id r) (ho : PE X o to) (ha : PA X (e :: es) t)
    (hbase : attributeBase o name X.env (eval o X.env) = eval o X.env := by rfl)
    (hfew : ((backTo cpos (starEach (e :: es) X.env)).all (fun x => !x.1) && (backToKw cpos (keywordEach [] X.env)).all (fun x => x.1.isSome)
      && decide ((e :: es).length + ([] : List Keyword).length + (if ([] : List Keyword).isEmpty then 0 else 1) < 30)) = true := by rfl)
    (hline : (apos.endLine == cpos.line) = true := by rfl) (hs : starEach (e :: es) X.env = (false, eval e X.env) :: starEach es X.env := by rfl) (hplain : (backTo cpos (starEach es X.env)).any (·.1) = false := by rfl) :
    PE X (.Call (.Attribute o name apos) (e :: es) [] cpos) (tBL r to t) := by
  intro pins s σ H Q I h
  refine wpAny_Call_method_late hbase hfew hline rfl (thn (ho pins s σ H _ I h) fun v s1 ⟨x, H1, I1, r1, p, xs, ex, ep, q1⟩ => ?_)
  subst ex
  obtain ⟨h1, h2⟩ := tyV_is I1 r1 (show tyV X.K "list" (.ref p) H1 from .inl ⟨rfl, xs, SqL.of ep⟩)
  refine ⟨"list", id, PySem.F.plainAttrs_list, slot, hty, h1, h2, ?_⟩
  have hA := ha cpos pins s1 σ H1 _ I1 q1
  rw [hs] at hA ⊢
  refine Calls.callWith_builtin (by show (false || (backTo cpos (starEach es X.env)).any (·.1)) = false; rw [hplain] <;> rfl) (Calls.evalArgs_plain ?_)
  exact thn hA fun us s2 ⟨vs, H2, I2, r2, q2⟩ => hm pins s2 σ H2 _ vs v us Q I2 r1 r2 q2
def rSumX : List V → Hp → VK → Prop := fun xs H Q => ∃ (p : Addr) (ns : List Int), xs = [.ref p] ∧ H p = some (.lst (ns.map V.int)) ∧ Q (.int ns.sum) H
theorem call_sumX (hc : X.calm = true) : CallR X (.builtin "sum") rSumX := (call_sum hc).weak fun _ _ _ ⟨p, ns, e, h, q⟩ => ⟨p, ns, e, SqL.of h, q⟩
theorem make_same {H H' : Hp} {x dx : Addr} {o1 o2 : HO} (hx : H x = none) (hdx : H dx = none) (k : Keep [x] (upd (upd H dx o1) x o2) H') : Same H H' := fun b o e => by
  have n1 : b ≠ x := ne_of_none e hx
  have n2 : b ≠ dx := ne_of_none e hdx
  exact k b o (by rw [upd_ne n1, upd_ne n2]; exact e) (by simp; exact n1)
/-! ### a body in parts -/
theorem rNe_nn {H : Hp} {Q : VK} : rNe .non .non H Q = Q (.bl false) H := by simp [rNe, scal]
theorem rEq_ni {i : Int} {H : Hp} {Q : VK} : rEq .non (.int i) H Q = Q (.bl false) H := by simp [rEq, scal]
theorem noT1 {H : Hp} {b : Addr} (h : NoT H b) : ∀ c ∈ [b], NoT H c := fun c hc => by rw [List.mem_singleton] at hc; subst hc; exact h
theorem noT2 {H : Hp} {a b : Addr} (h1 : NoT H a) (h2 : NoT H b) : ∀ c ∈ [a, b], NoT H c := fun c hc => by
  rcases List.mem_cons.mp hc with rfl | hc
  · exact h1
  · rw [List.mem_singleton] at hc; subst hc; exact h2
theorem ixN_20 : ixN 2 0 = some 0 := rfl
theorem ixN_21 : ixN 2 1 = some 1 := rfl
/-! ### the first branch of an if in parts -/
/-! ### small facts for simp -/
theorem atI_0 {α : Type} {a : α} {l : List α} : atI (a :: l) 0 = some a := by simp [atI, ixN]
theorem atI_1 {α : Type} {a b : α} {l : List α} : atI (a :: b :: l) 1 = some b := by
  simp only [atI, ixN, List.length_cons]
  rw [if_pos (by decide), if_pos (by omega)]
  rfl
theorem atI_2 {α : Type} {a b c : α} {l : List α} : atI (a :: b :: c :: l) 2 = some c := by
  simp only [atI, ixN, List.length_cons]
  rw [if_pos (by decide), if_pos (by omega)]
  rfl
theorem atI_3 {α : Type} {a b c d : α} {l : List α} : atI (a :: b :: c :: d :: l) 3 = some d := by
  simp only [atI, ixN, List.length_cons]
  rw [if_pos (by decide), if_pos (by omega)]
  rfl
theorem atI_nat' {α : Type} {l : List α} {n : Nat} : atI l (n : Int) = l[n]? := by
  unfold atI ixN
  rw [if_pos (by omega)]
  split
  · simp
  · rw [List.getElem?_eq_none (by omega)]; rfl
theorem atI_pos {α : Type} {l : List α} {k : Int} (h0 : 0 ≤ k) : atI l k = l[k.toNat]? := by
  obtain ⟨n, rfl⟩ := Int.eq_ofNat_of_zero_le h0
  exact atI_nat'
/-! ### isinstance with a built-in class -/
def tyO : HO → Option String
  | .lst _ => some "list"
  | .tup _ => some "tuple"
  | .dK _ => some "dict"
  | _ => none
def tyX (H : Hp) : V → Option String
  | .non => some "NoneType"
  | .bl _ => some "bool"
  | .int _ => some "int"
  | .str _ => some "str"
  | .ref p => (H p).bind tyO
  | _ => none
theorem tyX_s {H : Hp} {z : Str} : tyX H (.str z) = some "str" := rfl
theorem tyX_r {H : Hp} {p : Addr} : tyX H (.ref p) = (H p).bind tyO := rfl
def kT : String → String → Option Bool
  | "NoneType", "int" => some false
  | "NoneType", "bool" => some false
  | "NoneType", "str" => some false
  | "NoneType", "list" => some false
  | "NoneType", "tuple" => some false
  | "NoneType", "dict" => some false
  | "bool", "int" => some true
  | "bool", "bool" => some true
  | "bool", "str" => some false
  | "bool", "list" => some false
  | "bool", "tuple" => some false
  | "bool", "dict" => some false
  | "int", "int" => some true
  | "int", "bool" => some false
  | "int", "str" => some false
  | "int", "list" => some false
  | "int", "tuple" => some false
  | "int", "dict" => some false
  | "str", "int" => some false
  | "str", "bool" => some false
  | "str", "str" => some true
  | "str", "list" => some false
  | "str", "tuple" => some false
  | "str", "dict" => some false
  | "list", "int" => some false
  | "list", "bool" => some false
  | "list", "str" => some false
  | "list", "list" => some true
  | "list", "tuple" => some false
  | "list", "dict" => some false
  | "tuple", "int" => some false
  | "tuple", "bool" => some false
  | "tuple", "str" => some false
  | "tuple", "list" => some false
  | "tuple", "tuple" => some true
  | "tuple", "dict" => some false
  | "dict", "int" => some false
  | "dict", "bool" => some false
  | "dict", "str" => some false
  | "dict", "list" => some false
  | "dict", "tuple" => some false
  | "dict", "dict" => some true
  | _, _ => none
theorem kT_stst : kT "str" "str" = some true := rfl
theorem kT_kit (K : PySem.W.Frag) {a b : String} {r : Bool} (h : kT a b = some r) : PySem.W.kitOne K (.type a) (.type b) = some r := by
  unfold kT at h
  split at h <;> first | (cases h; first | rfl | (with_unfolding_all rfl)) | cases h
def rIsIX : List V → Hp → VK → Prop := fun xs H Q => ∃ x n t r, xs = [x, .ty n] ∧ tyX H x = some t ∧ kT t n = some r ∧ Q (.bl r) H
theorem tyX_of {K : PySem.W.Frag} {H : Hp} {x : V} {t : String} (h : tyX H x = some t) : TyOf K H x (.type t) := by
  cases x with
  | non => cases h; exact .non
  | bl b => cases h; exact .bl b
  | int i => cases h; exact .int i
  | str z => cases h; exact .str z
  | ref p =>
    cases e : H p with
    | none => rw [tyX_r, e] at h; cases h
    | some o =>
      rw [tyX_r, e] at h
      cases o with
      | lst xs => cases h; exact .lst e
      | tup xs => cases h; exact .tup e
      | dK kvs => cases h; exact .dK e
      | _ => cases h
  | _ => cases h
theorem call_isiX : CallR X (.builtin "isinstance") rIsIX := call_isinst.weak fun _ _ _ ⟨x, n, t, r, e, h, k, q⟩ => ⟨x, .ty n, .type t, r, e, ⟨n, rfl⟩, tyX_of h, kT_kit _ k, q⟩
theorem setO_ds' {kvs : List (Key × V)} {z : Str} {v : V} : setO (.dK kvs) (.str z) v = if kvs.length < sizeLine then some (.dK (putK kvs (Sum.inr z) v)) else none := rfl
theorem lenX_s' {H : Hp} {z : Str} : lenX H (.str z) = if z.length ≤ sizeLine then some z.length else none := rfl
theorem inO_l' {xs : List V} {x : V} : inO (.lst xs) x = if flatV x = true ∧ xs.all flatV = true then some (inV x xs) else none := rfl
end
end L2
/-! Loops over texts and over a dict's keys; texts compared. -/
namespace L2
open PySem PySem.Spec PyProof.Rows
section
variable {X : Cx}
/-- what is walked stands fast: these values, in this order -/
def Itv (xs : List V) : It := ⟨fun i _ => i < xs.length, fun i H x H' => H' = H ∧ xs[i]? = some x, fun i _ => i = xs.length⟩
/-- the signs of a text -/
def signs (z : Str) : List V := z.cps.toList.map fun c => V.str ⟨#[c]⟩
theorem signs_len {z : Str} : (signs z).length = z.length := by simp [signs, Str.length]
theorem turn_str {P : Program} {w : World} {K : PySem.W.Frag} {tg : Expr} {z : Str} {it : Addr} {St : Nat → Heap → Prop} (W : ∀ A' : Around, A'.handled = none → Walks P w A' it [it] [it] z.cps.size (SignAt z) St)
    (ob : ∀ i h, St i h → ∃ o n vs, h.get? it = some o ∧ o.cls = .type n ∧ o.data = .fields vs ∧ ["enumerate", "zip", "dict_itemiterator", "dict_reverseitemiterator", "odict_iterator", "itertools.zip_longest", "itertools.pairwise"].contains n = false)
    (sf : ∀ (A : Around) (i : Nat) (s : Shared) (Q : Value → Shared → Prop) (E : Value → Shared → Prop), St i s.heap → Q (.ref it) s → wpAny (model P w) A (pyIter (.ref it)) Q E s) :
    Turn P w K tg (Itv (signs z)) [it] it St where
  mem := by simp
  obj := fun i h st b hb => by
    have e : b = it := by simpa using hb
    subst e
    obtain ⟨o, n, vs, e, c, d, _⟩ := ob i h st
    exact ⟨o, e, fun v z => by rw [d] at z; cases z⟩
  keep := fun i h h' st k => (W { handled := none } rfl).frame i h h' st k
  item := by
    intro X hP hw hK hc i pins s σ H E I hf st hg
    subst hP hw hK
    obtain ⟨f0, f1, f2, f3, f4, f5⟩ := hf it (by simp)
    have hi : i < z.cps.size := by
      have := hg
      simp only [Itv, signs_len, Str.length] at this
      exact this
    refine (W X.A (I.ok.hd hc)).item i s _ _ hi st fun v h' tk hv st' kk => ?_
    obtain ⟨c, u, hcv, rfl⟩ := hv
    have I1 : Inv X pins σ H { s with heap := h', toks := tk } := I.turned (fun b o hb e => kk b o (by simpa using hb) e) f0 f1 f3 f4 f5
    obtain ⟨o, n, vs, eo, ec, ed, en⟩ := ob _ _ st'
    refine ⟨_, rfl, go_of (s := { s with heap := h', toks := tk }) eo ec ed en ⟨.str ⟨#[c]⟩, H, I1, ⟨u, rfl⟩, ⟨rfl, ?_⟩, st', fun b hb => (hf b hb).1⟩⟩
    simp [signs, hcv]
  done := by
    intro X hP hw hK hc i pins s σ H E I hf st hg
    subst hP hw hK
    obtain ⟨f0, f1, f2, f3, f4, f5⟩ := hf it (by simp)
    have hi : i = z.cps.size := by
      have := hg
      simp only [Itv, signs_len, Str.length] at this
      exact this
    subst hi
    exact (W X.A (I.ok.hd hc)).done s _ _ st fun h' tk kk => ⟨rfl, I.turned (fun b o hb e => kk b o (by simpa using hb) e) f0 f1 f3 f4 f5⟩
  self := sf
def iStr (tl : TE) : TI := fun σ H R => tl σ H fun x H1 => ∃ z, x = .str z ∧ R (Itv (signs z)) H1
theorem pi_str {tg l : Expr} {tl : TE} (hl : PE X l tl) : PI X tg l (iStr tl) := by
  intro pins s σ H R I h
  refine thn (hl pins s σ H _ I h) fun v s1 ⟨x, H1, I1, r1, q1⟩ => ?_
  obtain ⟨z, e, q⟩ := q1
  subst e
  obtain ⟨t, rfl⟩ := r1
  have fin : ∀ (o : Obj) (n : String) (vs : Array Value) (St : Nat → Heap → Prop), (∀ A' : Around, A'.handled = none → Walks X.prog X.w A' s1.heap.objs.size [s1.heap.objs.size] [s1.heap.objs.size] z.cps.size (SignAt z) St) → St 0 (s1.heap.push o) →
      (∀ i h, St i h → ∃ o n vs, h.get? s1.heap.objs.size = some o ∧ o.cls = .type n ∧ o.data = .fields vs ∧ ["enumerate", "zip", "dict_itemiterator", "dict_reverseitemiterator", "odict_iterator", "itertools.zip_longest", "itertools.pairwise"].contains n = false) →
      (∀ (A : Around) (i : Nat) (s : Shared) (Q : Value → Shared → Prop) (E : Value → Shared → Prop), St i s.heap → Q (.ref s1.heap.objs.size) s → wpAny (model X.prog X.w) A (pyIter (.ref s1.heap.objs.size)) Q E s) →
      PIE X pins σ tg R (.ref s1.heap.objs.size) { s1 with heap := s1.heap.push o } := fun o n vs St W s0 ob sf =>
    ⟨s1.heap.objs.size, [s1.heap.objs.size], St, Itv (signs z), H1, rfl, I1.kept (t' := s1.toks) fun b o' e => Heap.get?_push_of_some _ e, turn_str W ob sf, s0, fun b hb => by
      have e : b = s1.heap.objs.size := by simpa using hb
      subst e
      exact (I1.fpOk (Nat.le_refl _) (I1.hok.fresh (Nat.le_refl _))), q⟩
  cases ha : z.cps.all (· < 128)
  · exact wpAny_pyIter_wide ha (fin _ "str_iterator" #[] _ (fun A' hA => Walks.strWide hA _ z t) ⟨_, Heap.get?_push_size _ rfl, rfl, rfl⟩ (fun i h ⟨o, e, c, d⟩ => ⟨o, _, _, e, c, d, by decide⟩) (fun A i s Q E st hq => wpAny_pyIter_striter_wide st hq))
  · exact wpAny_pyIter_ascii ha (fin _ "str_ascii_iterator" #[] _ (fun A' hA => Walks.strAscii hA _ z t) ⟨_, Heap.get?_push_size _ rfl, rfl, rfl⟩ (fun i h ⟨o, e, c, d⟩ => ⟨o, _, _, e, c, d, by decide⟩) (fun A i s Q E st hq => wpAny_pyIter_striter_ascii st hq))
/-! ### loops and comprehensions over what stands fast -/
theorem comp_itv {n : Nat} {js : List Nat} {g : TG} {tc : TT} {te : TE} {σ : St} {Q : VK} {H1 : Hp} {xs : List V} (hz : xs.length ≤ 100000) (Pv : Addr → Nat → List V → Hp → Prop) (h0 : ∀ D, H1 D = none → Pv D 0 [] (upd H1 D (.lst [])))
    (hl : ∀ D i acc H, H1 D = none → i ≤ xs.length → Pv D i acc H → H D = some (.lst acc) ∧ acc.length ≤ i)
    (hs : ∀ D i x acc H, H1 D = none → xs[i]? = some x → Pv D i acc H → g x (cSt n js σ) H fun σ2 H2 => σ2.drop n = (cSt n js σ).drop n ∧ tc σ2 H2 fun b H3 => if b = true then te σ2 H3 fun v H4 => H4 D = some (.lst acc) ∧ Pv D (i + 1) (acc ++ [v]) (upd H4 D (.lst (acc ++ [v]))) else H3 D = some (.lst acc) ∧ Pv D (i + 1) acc H3)
    (hd : ∀ D acc H, H1 D = none → Pv D xs.length acc H → Q (.ref D) H) : CompW n js g tc te σ Q (Itv xs) H1 := by
  intro D hD
  refine ⟨fun i m acc H => m = xs.length - i ∧ i ≤ xs.length ∧ Pv D i acc H, ⟨xs.length, by simp, Nat.zero_le _, h0 D hD⟩, ?_⟩
  rintro i m acc H ⟨rfl, hi, p⟩
  obtain ⟨e1, e3⟩ := hl D i acc H hD hi p
  refine ⟨e1, ?_⟩
  by_cases hlt : i < xs.length
  · refine .inr ⟨hlt, by rw [sizeLine_eq]; omega, Pv D (i + 1), fun acc' H' p' => ⟨xs.length - (i + 1), by omega, rfl, hlt, p'⟩, fun x H' y => ?_⟩
    obtain ⟨e, y⟩ := y
    subst e
    exact hs D i x acc _ hD y p
  · have e : i = xs.length := by omega
    subst e
    exact .inl ⟨rfl, hd D acc H hD p⟩
/-- nothing is made but the list -/
theorem comp_itvP {n : Nat} {js : List Nat} {g : TG} {te : TE} {σ : St} {Q : VK} {H1 : Hp} {xs : List V} (hz : xs.length ≤ 100000) (f : V → V)
    (hs : ∀ (H : Hp) x (Q' : VK), x ∈ xs → Same H1 H → Q' (f x) H → g x (cSt n js σ) H fun σ2 H2 => σ2.drop n = (cSt n js σ).drop n ∧ te σ2 H2 Q')
    (hq : ∀ D, H1 D = none → Q (.ref D) (upd H1 D (.lst (xs.map f)))) (gm : ∀ x σ H P P', (∀ σ2 H2, P σ2 H2 → P' σ2 H2) → g x σ H P → g x σ H P') : CompW n js g tYes te σ Q (Itv xs) H1 := by
  refine comp_itv hz (fun D i acc H => acc = (xs.take i).map f ∧ H = upd H1 D (.lst acc)) (fun D _ => ⟨by simp, rfl⟩) ?_ ?_ ?_
  · rintro D i acc H hD hi ⟨rfl, rfl⟩
    exact ⟨upd_same, by simp; omega⟩
  · rintro D i x acc H hD hxi ⟨rfl, rfl⟩
    refine gm _ _ _ _ _ (fun σ2 H2 h => ?_) (hs _ x (fun v H4 => H4 D = some (.lst ((xs.take i).map f)) ∧ (((xs.take i).map f) ++ [v] = (xs.take (i + 1)).map f ∧ upd H4 D (.lst (((xs.take i).map f) ++ [v])) = upd H1 D (.lst (((xs.take i).map f) ++ [v])))) (List.mem_of_getElem? hxi) (Same.upd_new hD) ⟨upd_same, ?_, by rw [upd_upd]⟩)
    · exact ⟨h.1, h.2⟩
    · rw [List.take_add_one, hxi]
      simp
  · rintro D acc H hD ⟨rfl, rfl⟩
    rw [List.take_length]
    exact hq D hD
/-! ### texts -/
def rLeS : R2 := fun x y H Q => ∃ a b, x = .str a ∧ y = .str b ∧ Q (.bl (!decide (b.cps.toList < a.cps.toList))) H
theorem op_leS : OpR X (compareOp .LtE) rLeS := by
  intro pins s σ H x y v u Q I rx ry h
  obtain ⟨a, b, rfl, rfl, q⟩ := h
  obtain ⟨t, rfl⟩ := rx
  obtain ⟨t', rfl⟩ := ry
  exact PySem.P.le_str ⟨.bl _, H, I, rfl, q⟩
theorem rEq_ss {a b : Str} {H : Hp} {Q : VK} : rEq (.str a) (.str b) H Q = Q (.bl (decide (a = b))) H := by simp [rEq, scal]
def rAllX : List V → Hp → VK → Prop := fun xs H Q => ∃ (p : Addr) (bs : List Bool), xs = [.ref p] ∧ H p = some (.lst (bs.map V.bl)) ∧ Q (.bl (bs.all id)) H
theorem call_allX (hc : X.calm = true) : CallR X (.builtin "all") rAllX := (call_all hc).weak fun _ _ _ ⟨p, bs, e, h, q⟩ => ⟨p, bs, e, SqL.of h, q⟩
/-! ### list(d) -/
/-! ### a, b = a list -/
theorem draw_list {prog : Program} {w : World} {A : Around} {E : Value → Shared → Prop} {it l : Addr} {items : Array Value} (hne : l ≠ it) : ∀ (n i : Nat) (s : Shared) (Q : List Value → Shared → Prop), s.heap.IsListIter it l i → s.heap.IsList l items → i + n ≤ items.size →
    (∀ h', h'.IsListIter it l (i + n) → Heap.SameBut it s.heap h' → Q ((items.toList.drop i).take n) { s with heap := h' }) → wpAny (model prog w) A (draw (.ref it) n) Q E s
  | 0, i, s, Q, hit, _, _, hQ => by
    show wpAny _ _ (pure []) Q E s
    exact wpAny_pure (by simpa using hQ s.heap hit (Heap.SameBut.refl ..))
  | n + 1, i, s, Q, hit, ht, hle, hQ => by
    have hlt : i < items.size := by omega
    show wpAny _ _ (pyNext (.ref it) >>= _) Q E s
    refine wpAny_bind (wpAny_pyNext_list_item hit ht (x := items[i]) (by simp [hlt]) fun h₁ hit₁ hs₁ => ?_)
    have ht1 : h₁.IsList l items := by
      obtain ⟨o, ho, r⟩ := ht
      exact ⟨o, hs₁.extBut _ _ hne ho, r⟩
    refine wpAny_bind (wpAny_holding (draw_list hne n (i + 1) _ _ hit₁ ht1 (by omega) fun h₂ hit₂ hs₂ => wpAny_pure ?_))
    have hd : items.toList.drop i = items[i] :: items.toList.drop (i + 1) := by simp [List.drop_eq_getElem_cons, hlt]
    have := hQ h₂ (by rw [show i + (n + 1) = i + 1 + n by omega]; exact hit₂) (hs₁.trans hs₂)
    rw [hd, List.take_succ_cons] at this
    exact this
theorem unpackItems_list {prog : Program} {w : World} {A : Around} {E : Value → Shared → Prop} {s : Shared} {t : Addr} {items : Array Value} {Q : List Value → Shared → Prop} (hh : A.handled = none) (ht : s.heap.IsList t items)
    (hQ : ∀ h', Heap.ExtBut s.heap.objs.size s.heap h' → Q items.toList { s with heap := h' }) : wpAny (model prog w) A (unpackItems (.ref t) items.size none) Q E s := by
  have hlt : t ≠ s.heap.objs.size := by obtain ⟨o, ho, _⟩ := ht; exact Nat.ne_of_lt (Heap.lt_size ho)
  unfold unpackItems
  refine wpAny_bind ?_
  · unfold notIterableAtAll
    refine wpAny_bind (wpAny_specialOf ht.typeIs PySem.F.slot_list_iter.lookup ?_)
    refine wpAny_pure ?_
    simp only [Bool.false_eq_true, if_false]
    refine wpAny_bind (wpAny_holding (wpAny_pyIter_list ht ?_))
    have ht0 : ∀ o', (s.heap.push o').IsList t items := fun o' => by
      obtain ⟨o, ho, r⟩ := ht
      exact ⟨o, Heap.get?_push_of_some _ ho, r⟩
    refine wpAny_bind (wpAny_holding (draw_list hlt items.size 0 _ _ ⟨_, Heap.get?_push_size _ rfl, rfl, rfl⟩ (ht0 _) (by omega) fun h₁ hit₁ hs₁ => ?_))
    have hall : List.take items.size (List.drop 0 items.toList) = items.toList := by
      rw [List.drop_zero]; exact List.take_of_length_le (by simp)
    rw [hall]
    rw [if_neg (by simp)]
    have ht₁ : h₁.IsList t items := by
      obtain ⟨o, ho, r⟩ := ht0 _
      exact ⟨o, hs₁.extBut _ _ hlt ho, r⟩
    refine wpAny_bind (wpAny_holding (wpAny_pyNext_list_end hh hit₁ ht₁ (by simp) fun h₂ he₂ => ?_))
    simp only [Option.isSome_none, Bool.false_eq_true, if_false]
    refine wpAny_pure (hQ h₂ fun b o hb e => he₂ b o hb (hs₁.extBut b o hb (Heap.get?_push_of_some _ e)))
theorem assign_Tuple_list {prog : Program} {w : World} {A : Around} {E : Value → Shared → Prop} {s : Shared} {env : Env} {elts : List Expr} {x1} {pos : Pos} {t : Addr} {items : Array Value} {Q : Unit → Shared → Prop} (hh : A.handled = none) (ht : s.heap.IsList t items)
    (hn : (assignEach elts env).length = items.size) (hstar : (assignEach elts env).findIdx? (·.1) = none)
    (h : ∀ h', Heap.ExtBut s.heap.objs.size s.heap h' → wpAny (model prog w) A (assignInOrder ((assignEach elts env).map (·.2)) items.toList) Q E { s with heap := h' }) :
    wpAny (model prog w) A (assign (.Tuple elts x1 pos) env (.ref t)) Q E s := by
  rw [assign_Tuple]
  refine wpAny_bind (wpAny_standAt ?_)
  unfold unpack
  rw [hn, hstar]
  exact wpAny_bind (wpAny_holding (unpackItems_list hh ht h))
/-- a, b, .. = a tuple or a list of that length -/
def gSeqX (n : Nat) (t : TGs) : TG := fun v σ H Q => ∃ a o xs, v = .ref a ∧ H a = some o ∧ seqO o = some xs ∧ xs.length = n ∧ t xs σ H Q
theorem pg_seqX {es : List Expr} {k : Nat} {t : TGs} {n : Nat} {pos : Pos} (hc : X.calm = true) (hg : PGs X es t)
    (hn : (assignEach es X.env).length = n := by rfl) (hst : (assignEach es X.env).findIdx? (·.1) = none := by rfl) : PG X (.Tuple es k pos) (gSeqX n t) := by
  intro pins s σ H v u Q I rv q
  obtain ⟨a, o, xs, e, hx, g, hl, q⟩ := q
  cases o with
  | tup ys => cases g; exact pg_tupK (K := X.K) (k := k) (pos := pos) hc hg hn hst rfl pins s σ H v u Q I rv ⟨a, _, e, SqT.of hx, hl, q⟩
  | lst ys =>
    cases g
    subst e
    cases rv
    obtain ⟨its, r, ht, hz⟩ := I.list (SqL.of (K := X.K) hx)
    refine assign_Tuple_list (I.ok.hd hc) ht.isList (by simp [hn, ← hl, r.length]) hst fun h' hx' => ?_
    have I1 : Inv X pins σ H { s with heap := h' } := I.kept (t' := s.toks) fun b o e => hx' b o (Nat.ne_of_lt (Heap.lt_size e)) e
    exact hg pins _ σ H _ _ Q I1 (by simpa using r) q
  | _ => cases g
end
end L2
/-! A dict's keys as a view; sorted. -/
namespace L2
open PySem PySem.Spec PyProof.Rows
section
variable {X : Cx}
/-! ### range objects, list(range(..)) -/
end
end L2
/-! for i, x in enumerate(a list). -/
namespace L2
open PySem PySem.Spec PyProof.Rows
/-- the pairs of place and thing of the list at a -/
def Ite (K : PySem.W.Frag) (a : Addr) : It :=
  ⟨fun i H => ∃ xs x, SqL K H a xs ∧ xs[i]? = some x, fun i H x H' => ∃ p, x = .ref p ∧ H p = none ∧ ∀ xs, SqL K H a xs → ∃ y, xs[i]? = some y ∧ H' = upd H p (.tup [.int i, y]), fun i H => ∃ xs, SqL K H a xs ∧ xs.length ≤ i⟩
theorem turn_enum {P : Program} {w : World} {K : PySem.W.Frag} {elts : List Expr} {x1} {tpos : Pos} (a e it : Addr) (hne : e ≠ it) :
    Turn P w K (.Tuple elts x1 tpos) (Ite K a) [e, it] e (fun i h => (∃ old, IsEnum h e it i old) ∧ h.IsListIter it a i) where
  mem := by simp
  obj := fun i h st b hb => by
    obtain ⟨⟨old, h1⟩, h2⟩ := st
    rcases List.mem_cons.mp hb with rfl | hb
    · exact ⟨_, h1, fun v z => by cases z⟩
    · have e : b = it := by simpa using hb
      subst e
      obtain ⟨o, e, c, d⟩ := h2
      exact ⟨o, e, fun v z => by rw [d] at z; cases z⟩
  keep := fun i h h' st k => by
    obtain ⟨⟨old, h1⟩, h2⟩ := st
    exact ⟨⟨old, k e (by simp) _ h1⟩, h2.at fun o q => k it (by simp) o q⟩
  item := by
    intro X hP hw hK hc i pins s σ H E I hf st hg
    subst hP hw hK
    obtain ⟨⟨old, he⟩, hit⟩ := st
    obtain ⟨xs, x, hq, hx⟩ := hg
    obtain ⟨its, rv, p, hz⟩ := I.list hq
    obtain ⟨u, hu, ru⟩ := rv.get hx
    have fe := hf e (by simp)
    have fi := hf it (by simp)
    refine wpAny_pyNext_enum_item he hit p.isList (x := u) (by simpa using hu) hne fun h' eo hit' ht hsz hk => ?_
    have hH : H s.heap.objs.size = none := I.hok.fresh (Nat.le_refl _)
    have ne : ∀ b o, s.heap.get? b = some o → b ≠ s.heap.objs.size := fun b o q => Nat.ne_of_lt (Heap.lt_size q)
    have nx : ∀ b, b ∉ [e, it] → b ≠ e ∧ b ≠ it := fun b hb => ⟨fun z => hb (by simp [z]), fun z => hb (by simp [z])⟩
    have I1 : Inv X pins σ (upd H s.heap.objs.size (.tup [.int i, x])) { s with heap := h', gens := s.gens, drawn := s.drawn, toks := s.toks + 1 } := I.call (ch := [e, it]) (h' := h') (g' := s.gens) (d' := s.drawn) (t' := s.toks + 1)
      ⟨fun b o q n hb hb2 => hk b o (nx b hb2).1 (nx b hb2).2 q, fun b o q n hb hb2 => ⟨o.slots, hk b o (nx b hb2).1 (nx b hb2).2 q⟩, fun b o q n hb2 => by rw [upd_ne (ne b o q)]; exact n, fun b o q hb2 => ⟨o, hk b o (nx b hb2).1 (nx b hb2).2 q⟩,
        fun b ys q => by rw [upd_ne (ne_of_none q hH)]; exact q, fun b o ys q => by rw [upd_ne (ne_of_none q hH)]; exact q, fun b ps q => ⟨#[], by rw [upd_ne (ne_of_none q hH), q]; simp⟩⟩
      (fun b o q => by
        by_cases hb : b = s.heap.objs.size
        · subst hb
          rw [upd_same] at q
          cases q
          exact ⟨by rw [sizeLine_eq]; show 2 ≤ 16777216; decide, [.int i s.toks, u], .cons ⟨_, rfl⟩ (.cons ru .nil), ⟨_, ht, rfl, 0, rfl⟩⟩
        · rw [upd_ne hb] at q
          refine (I.hok b o q).stay (fun c v hc r => ?_) (fun c r => by rw [upd_ne (ne_of_none r hH)]; exact r) fun c ys r => by rw [upd_ne (ne_of_none r hH)]; exact r
          have hcn : H c ≠ none := by
            rcases hc with rfl | hc
            · rw [q]; exact fun z => nomatch z
            · rw [hc]; exact fun z => nomatch z
          exact hk c v (fun z => hcn (z ▸ fe.1)) (fun z => hcn (z ▸ fi.1)) r) I.bare
      (fun b hb => by
        have F : FpOk X pins H b := hf b hb
        exact ⟨F.2.2.2.1, F.2.1, F.2.2.2.2.1, F.2.2.2.2.2⟩)
    refine ⟨_, rfl, wpAny_letOwnedTupleGo_enum (s := { s with heap := h', toks := s.toks + 1 }) eo fun h2 e2 sb => ?_⟩
    have nep : ∀ b ∈ [e, it], upd H s.heap.objs.size (.tup [.int i, x]) b = none := fun b hb => by
      have hb' : b ≠ s.heap.objs.size := by
        rcases List.mem_cons.mp hb with rfl | hb
        · exact ne _ _ he
        · have e' : b = it := by simpa using hb
          subst e'
          obtain ⟨o, q, _⟩ := hit
          exact ne _ _ q
      rw [upd_ne hb']
      exact (hf b hb).1
    have I2 : Inv X pins σ (upd H s.heap.objs.size (.tup [.int i, x])) { s with heap := h2, toks := s.toks + 1 } := I1.turned (t' := s.toks + 1) (fun b o hb q => (sb.2 b hb).trans q) (nep e (by simp)) fe.2.1 fe.2.2.2.1 fe.2.2.2.2.1 fe.2.2.2.2.2
    refine ⟨.ref s.heap.objs.size, _, I2, rfl, ⟨_, rfl, hH, fun ys hy => ⟨x, by rw [I.list_inj hy hq]; exact hx, rfl⟩⟩, ⟨⟨u, ?_⟩, ?_⟩, nep⟩
    · have : ((i + 1 : Nat) : Int) = (i : Int) + 1 := by omega
      rw [this]
      exact e2
    · exact hit'.extBut sb.extBut (Ne.symm hne)
  done := by
    intro X hP hw hK hc i pins s σ H E I hf st hg
    subst hP hw hK
    obtain ⟨⟨old, he⟩, hit⟩ := st
    obtain ⟨xs, hq, hx⟩ := hg
    obtain ⟨its, rv, p, hz⟩ := I.list hq
    obtain ⟨f0, f1, f2, f3, f4, f5⟩ := hf it (by simp)
    have hl := rv.length
    exact wpAny_pyNext_enum_end (I.ok.hd hc) he hit p.isList (by simp; omega) fun h' eb => ⟨rfl, I.turned (t' := s.toks) (fun b o hb q => eb b o hb q) f0 f1 f3 f4 f5⟩
  self := fun _ _ _ _ _ st h => by
    obtain ⟨⟨old, he⟩, _⟩ := st
    exact wpAny_pyIter_enum he h
section
variable {X : Cx}
def iEnum (K : PySem.W.Frag) (ta : TA) : TI := fun σ H R => ta σ H fun vs H1 => ∃ a, vs = [.ref a] ∧ (∃ xs, SqL K H1 a xs) ∧ R (Ite K a) H1
theorem bt_enumerate : bootBuiltins "enumerate" = some (.type "enumerate") := by decide +kernel
theorem pi_enum (K : PySem.W.Frag) {elts : List Expr} {x1} {tpos : Pos} {l : Expr} {ta : TA} {p pos : Pos} (hg : Gl X "enumerate") (hm : X.mg "enumerate" = none) (ha : PA X [l] ta) (hs : starEach [l] X.env = [(false, eval l X.env)] := by rfl) (hK : X.K = K := by rfl) :
    PI X (.Tuple elts x1 tpos) (.Call (.Name "enumerate" p) [l] [] pos) (iEnum K ta) := by
  subst hK
  intro pins s σ H R I h
  refine Call_ (ld_blt I hg hm bt_enumerate (PyProof.Rows.callWith_type1 (thn (ha pos pins s σ H _ I h) fun us s1 ⟨vs, H1, I1, r1, q1⟩ => ?_) hs rfl))
  obtain ⟨a, e, ⟨xs, hq⟩, q⟩ := q1
  subst e
  obtain ⟨u, rfl, rx⟩ := vals1 r1
  cases rx
  obtain ⟨its, rv, pl, hz⟩ := I1.list hq
  refine call_enumerate_list pl.isList fun h' he hit hsz hk => ?_
  refine wpAny_pyIter_enum (s := { s1 with heap := h' }) he ?_
  refine ⟨s1.heap.objs.size + 1, [s1.heap.objs.size + 1, s1.heap.objs.size], _, _, H1, rfl, I1.kept (t' := s1.toks) hk, turn_enum a _ _ (Nat.succ_ne_self _), ⟨⟨_, he⟩, hit⟩, fun b hb => ?_, q⟩
  rcases List.mem_cons.mp hb with rfl | hb
  · exact I1.fpOk (Nat.le_succ _) (I1.hok.fresh (Nat.le_succ _))
  · have e : b = s1.heap.objs.size := by simpa using hb
    subst e
    exact I1.fpOk (Nat.le_refl _) (I1.hok.fresh (Nat.le_refl _))
end
theorem for_enum {K : PySem.W.Frag} {a : Addr} {xs : List V} {g : TG} {tb : TS} {D : Ends} {σ : St} {H : Hp} (Pv : Nat → St → Hp → Prop) (h0 : Pv 0 σ H) (hl : ∀ i σ H, i ≤ xs.length → Pv i σ H → SqL K H a xs)
    (hs : ∀ i x p σ H, xs[i]? = some x → H p = none → Pv i σ H → g (.ref p) σ (upd H p (.tup [.int i, x])) fun σ2 H2 => tb { D with nx := Pv (i + 1), ct := Pv (i + 1), bk := D.nx } σ2 H2) (hd : ∀ σ H, Pv xs.length σ H → D.nx σ H) : ForW g tb D σ (Ite K a) H := by
  refine ⟨fun i m σ H => m = xs.length - i ∧ i ≤ xs.length ∧ Pv i σ H, ⟨xs.length, by simp, Nat.zero_le _, h0⟩, ?_⟩
  rintro i m σ H ⟨rfl, hi, p⟩
  have q := hl i σ H hi p
  by_cases hlt : i < xs.length
  · refine .inr ⟨⟨xs, xs[i], q, by simp [hlt]⟩, Pv (i + 1), fun σ' H' p' => ⟨xs.length - (i + 1), by omega, rfl, hlt, p'⟩, fun x H' y => ?_⟩
    obtain ⟨pp, rfl, hp, y⟩ := y
    obtain ⟨z, hz, rfl⟩ := y xs q
    exact hs i z pp σ H hz hp p
  · have e : i = xs.length := by omega
    subst e
    exact .inl ⟨⟨xs, q, Nat.le_refl _⟩, hd σ H p⟩
end L2
namespace L2
open PySem
/-- not a starred one -/
def noStar : Expr → Bool
  | .Starred .. => false
  | _ => true
theorem star_cons {e : Expr} {es : List Expr} {env : Env} (h : noStar e = true) : starEach (e :: es) env = (false, eval e env) :: starEach es env := by
  cases e <;> first | rfl | cases h
section
variable {X : Cx} {e : Expr} {es : List Expr} {te : TE} {t : TA}
/-- pa_cons, quick in long lists -/
theorem pa_cX (ha : PE X e te) (hr : PA X es t) (h : noStar e = true := by rfl) : PA X (e :: es) (tCons te t) := pa_cons ha hr (star_cons h)
end
/-! PSs, PS closed to the elaborator: it can't evaluate the program's text inside them -/
structure WSs (X : Cx) (sts : List Stmt) (t : TS) : Prop where
  h : PSs X sts t
structure WS (X : Cx) (st : Stmt) (t : TS) : Prop where
  h : PS X st t
section
variable {X : Cx} {st : Stmt} {rest : List Stmt} {t u : TS}
end
end L2
/-! Slices and multiples of texts. -/
namespace L2
open PySem PySem.Spec PyProof.Rows
section
variable {X : Cx}
end
mutual
theorem Has.same {K : PySem.W.Frag} {H H' : Hp} (s : Same H H') : ∀ {x : V} {d : PyData}, Has K H x d → Has K H' x d
  | _, _, .non => .non
  | _, _, .bl b => .bl b
  | _, _, .int i => .int i
  | _, _, .str x => .str x
  | _, _, .lst h hs => .lst (s.seq h) (HasAll.same s hs)
  | _, _, .tup h hs => .tup (s.seqT h) (HasAll.same s hs)
theorem HasAll.same {K : PySem.W.Frag} {H H' : Hp} (s : Same H H') : ∀ {xs : List V} {ds : List PyData}, HasAll K H xs ds → HasAll K H' xs ds
  | _, _, .nil => .nil
  | _, _, .cons h hs => .cons (Has.same s h) (HasAll.same s hs)
end
theorem Dt.same {H H' : Hp} {x : V} {d : PyData} (h : Dt H x d) (s : Same H H') : Dt H' x d := ⟨fun K => (h.1 K).same s, h.2⟩
theorem Dts.same {H H' : Hp} {x : List V} {d : List PyData} (h : Dts H x d) (s : Same H H') : Dts H' x d := ⟨fun K => (h.1 K).same s, h.2⟩
end L2
/-! Floor division by a wide divisor. -/
namespace L2
open PySem PySem.Spec PyProof.Rows
section
variable {X : Cx}
def CDivW (_i j : Int) : Prop := 0 < j ∧ j.natAbs.log2 < 9000
theorem op_fdivW : OpR X (binaryOp .FloorDiv) (rI CDivW fun i j => .int (i / j)) := opI fun i j _ _ _ _ _ hc q => by
  have h1 : (0 : Int) < j := hc.1
  exact floordiv_int (by omega) (by rw [Int.fdiv_eq_ediv_of_nonneg i (by omega)]; exact q) (.inl (PyProof.noPylong_of_log2 hc.2))
theorem cdivw_of {i j : Int} (h : 0 < j) (h2 : j < 2 ^ 200) : CDivW i j := by
  refine ⟨h, ?_⟩
  have hz : j.natAbs ≠ 0 := by omega
  rw [Nat.log2_lt hz]
  have h3 : j.natAbs < 2 ^ 200 := by omega
  exact Nat.lt_of_lt_of_le h3 (Nat.pow_le_pow_right (by decide) (by decide))
end
end L2
/-! Loops over a dict: its keys, its values, its items. While it is walked, the dict is held as it is. -/
namespace L2
open PySem PySem.Spec PyProof.Rows
section
variable {X : Cx} {pins : List (Addr × Obj)} {σ : St} {H : Hp} {s : Shared} {d : Addr} {kvs : List (Key × V)}
theorem Inv.frz (I : Inv X pins σ H s) (e : H d = some (.dK kvs)) : ∃ o, s.heap.get? d = some o ∧ Inv X pins σ (upd H d (.frz o (.dK kvs))) s := by
  obtain ⟨hz, hS, vs, rel, o, es, ep, ho, r⟩ := I.hok d _ e
  refine ⟨o, ho, I.un (t' := s.toks) (h' := s.heap) ⟨fun b o q _ _ _ => q, fun b o q _ _ _ => ⟨o.slots, q⟩, fun b o _ n _ => ?_, fun b o q _ => ⟨o, q⟩, fun b xs q => ?_, fun b o u q => ?_, fun b ps q => ?_⟩ fun b u q => ?_⟩
  · rw [upd_ne (Ne.symm (ne_of_none e n))]; exact n
  · rw [upd_ne (ne_of q e (by intro z; cases z))]; exact q
  · rw [upd_ne (ne_of q e (by intro z; cases z))]; exact q
  · exact ⟨#[], by rw [upd_ne (ne_of q e (by intro z; cases z)), q]; simp⟩
  · by_cases hb : b = d
    · subst hb
      rw [upd_same] at q
      cases q
      exact ⟨ho, hz, hS, vs, rel, o, es, ep, ho, r⟩
    · rw [upd_ne hb] at q
      exact (I.hok b u q).stay (fun _ _ _ r => r) (fun c r => by rw [upd_ne (ne_of r e (by intro z; cases z))]; exact r) fun c xs r => by rw [upd_ne (ne_of r e (by intro z; cases z))]; exact r
theorem KV.at {vs : List (Key × Value)} (r : KV kvs vs) {i : Nat} {p : Key × V} (h : kvs[i]? = some p) : ∃ u, vs[i]? = some (p.1, u) ∧ RelV p.2 u := by
  obtain ⟨q, hq, h1, h2⟩ := paired_get r h
  exact ⟨q.2, by rw [hq, h1], h2⟩
end
section
variable {P : Program} {w : World} {K : PySem.W.Frag} {tg : Expr} {d it : Addr} {o : Obj} {kvs : List (Key × V)}
end
section
variable {X : Cx}
/-! ### behind the loop -/
def Unf (H H' H'' : Hp) : Prop := H'' = H' ∨ ∃ d o kvs, H' d = some (.frz o (.dK kvs)) ∧ (∀ o u, H d ≠ some (.frz o u)) ∧ H'' = upd H' d (.dK kvs)
theorem Unf.of {H H' : Hp} {d : Addr} {o : Obj} {kvs kvs0 : List (Key × V)} (e : H' d = some (.frz o (.dK kvs))) (e0 : H d = some (.dK kvs0)) : Unf H H' (upd H' d (.dK kvs)) := .inr ⟨d, o, kvs, e, (fun o u z => by rw [e0] at z; cases z), rfl⟩
end
/-! ### a dict and an empty one -/
end L2
/-! d.get, d.pop by the dict's content; data in a list of data. -/
namespace L2
open PySem PySem.Spec PyProof.Rows
def keyV : V → Option Key
  | .int i => some (.inl i)
  | .str x => some (.inr x)
  | _ => none
theorem keyV_s {x : Str} : keyV (.str x) = some (.inr x) := rfl
theorem keyV_k {y : V} {k : Key} (h : keyV y = some k) : y = kV k := by
  cases y <;> simp [keyV] at h <;> (subst h; rfl)
def tDGX2 (td ty tx : TE) : TE := fun σ H Q => td σ H fun x H1 => ∃ a kvs, x = .ref a ∧ H1 a = some (.dK kvs) ∧ ty σ H1 fun y H2 => tx σ H2 fun z H3 => ∃ kvs2 k, H3 a = some (.dK kvs2) ∧ keyV y = some k ∧ Q ((valV kvs2 k).getD z) H3
section
variable {X : Cx} {o e f : Expr} {td ty tx : TE} {apos cpos : Pos}
theorem pe_dgX2 (hu : X.A.units + 1 < cLine) (ho : PE X o td) (he : PE X e ty) (hf : PE X f tx) (m : M2 X o "get" apos e f cpos) : PE X (.Call (.Attribute o "get" apos) [e, f] [] cpos) (tDGX2 td ty tx) := by
  intro pins s σ H Q I h
  refine wpAny_Call_method m.base m.few m.line PySem.F.plainAttrs_dict PySem.F.slot_dict_get PySem.F.type_dict_get (thn (ho pins s σ H _ I h) fun u s1 ⟨x, H1, I1, rx, a, kvs, ex, ed, q1⟩ => ?_)
  subst ex
  obtain rfl : u = Value.ref a := rx
  obtain ⟨t1, t2, _⟩ := isD_at I1 (.inl ⟨kvs, .inl ed⟩)
  refine ⟨t1, t2, ?_⟩
  rw [m.trees]
  refine Calls.callWith_builtin rfl (Calls.evalArgs_plain (Calls.spliced_cons (thn (he pins s1 σ H1 _ I1 q1) fun iv s2 ⟨y, H2, I2, ry, q2⟩ =>
    Calls.spliced_cons (thn (hf pins s2 σ H2 _ I2 q2) fun fv s3 ⟨z, H3, I3, rz, kvs2, k, ed2, hk, q3⟩ => Calls.spliced_nil ?_))))
  exact d_get2 hu I3 (.inl ⟨kvs2, k, .inl ed2, keyV_k hk, rfl⟩) ry rz fun w' s4 I4 rw' => ⟨_, H3, I4, rw', q3⟩
/-! ### data in a list of data -/
end
end L2
/-! d.setdefault, sorted(d), min of two tuples of numbers. -/
namespace L2
open PySem PySem.Spec PyProof.Rows
section
variable {X : Cx} {o e f : Expr} {td ty tx : TE} {apos cpos : Pos}
def tDSD (td ty tx : TE) : TE := fun σ H Q => td σ H fun x H1 => ∃ a kvs, x = .ref a ∧ H1 a = some (.dK kvs) ∧ ty σ H1 fun y H2 => tx σ H2 fun z H3 => ∃ kvs2 k, H3 a = some (.dK kvs2) ∧ keyV y = some k ∧ kvs2.length < sizeLine ∧
  (∀ v, valV kvs2 k = some v → Q v H3) ∧ (valV kvs2 k = none → Q z (upd H3 a (.dK (putK kvs2 k z))))
theorem pe_dsd (ho : PE X o td) (he : PE X e ty) (hf : PE X f tx) (m : M2 X o "setdefault" apos e f cpos) : PE X (.Call (.Attribute o "setdefault" apos) [e, f] [] cpos) (tDSD td ty tx) := by
  intro pins s σ H Q I h
  refine wpAny_Call_method m.base m.few m.line PySem.F.plainAttrs_dict PySem.F.slot_dict_setdefault PySem.F.type_dict_setdefault (thn (ho pins s σ H _ I h) fun u s1 ⟨x, H1, I1, rx, a, kvs, ex, ed, q1⟩ => ?_)
  subst ex
  obtain rfl : u = Value.ref a := rx
  obtain ⟨t1, t2, _⟩ := isD_at I1 (.inl ⟨kvs, .inl ed⟩)
  refine ⟨t1, t2, ?_⟩
  rw [m.trees]
  refine Calls.callWith_builtin rfl (Calls.evalArgs_plain (Calls.spliced_cons (thn (he pins s1 σ H1 _ I1 q1) fun iv s2 ⟨y, H2, I2, ry, q2⟩ =>
    Calls.spliced_cons (thn (hf pins s2 σ H2 _ I2 q2) fun fv s3 ⟨z, H3, I3, rz, kvs2, k, ed3, hk, hl, h1, h2⟩ => Calls.spliced_nil ?_))))
  have ey := keyV_k hk
  subst ey
  obtain ⟨hz, hd, vs, rel, dd⟩ := dk_of I3.hok ed3
  have hln := rel.length
  refine call_meetsIn PySem.F.slot_dict_setdefault dd.typeIs PySem.F.entry_dict_setdefault (PySem.F.args_dict_setdefault_3 _ _ _) (kt_meets_setdefault (mixKind X.prog X.w) a (kV_is ry) hd fv) ⟨vs, dd, by omega, fun v hv => ?_, fun hn h' dd' hs => ?_⟩
  · have rv := rel.val k
    rw [hv] at rv
    cases hval : valV kvs2 k with
    | none => rw [hval] at rv; exact absurd rv (by simp [RelO])
    | some w0 =>
      rw [hval] at rv
      exact ⟨w0, H3, I3.tok _, rv, h1 w0 hval⟩
  · have hval : valV kvs2 k = none := by
      have rv := rel.val k
      rw [hn] at rv
      cases hval : valV kvs2 k with
      | none => rfl
      | some w0 => rw [hval] at rv; exact absurd rv (by simp [RelO])
    have hex : ∃ q, h'.get? a = some q := let ⟨q, _, _, hq, _⟩ := dd'; ⟨q, hq⟩
    have hpl := length_putK kvs2 k z
    exact ⟨z, _, d_write I3 (by rw [ed3]; exact True.intro) hs hex (dk_new (by omega) hd (rel.put k rz) dd'), rz, h2 hval⟩
end
/-! ### sorted(d) -/
section
variable {X : Cx}
end
/-! ### the less of two tuples -/
section
variable {prog : Program} {w : World} {A : Around} {E : Value → Shared → Prop} {s : Shared}
end
section
variable {X : Cx}
end
end L2
namespace L2
open PySem PySem.Spec PyProof.Rows
/-! a list and an empty one, whatever the list holds -/
def rNeNil : R2 := fun x y H Q => ∃ (p q : Addr) (xs : List V), x = .ref p ∧ y = .ref q ∧ H p = some (.lst xs) ∧ H q = some (.lst []) ∧ Q (.bl (!xs.isEmpty)) H
theorem op_neNil {X : Cx} (hu : X.A.units + 64 < cLine) : OpR X (compareOp .NotEq) rNeNil := by
  intro pins s σ H x y v u Q I rx ry h
  obtain ⟨p, q, xs, rfl, rfl, hp, hq, k⟩ := h
  cases rx
  cases ry
  obtain ⟨its, r, pl, z1⟩ := I.list (SqL.of (K := X.K) hp)
  obtain ⟨its2, r2, pl2, z2⟩ := I.list (SqL.of (K := X.K) hq)
  have l1 := r.length
  have l2 := r2.length
  have e2 : its2 = [] := List.length_eq_zero_iff.mp l2.symm
  subst e2
  cases xs with
  | nil =>
    have e1 : its = [] := List.length_eq_zero_iff.mp l1.symm
    subst e1
    exact SeqAt.RcNeAt.lists (e := fun _ => true) pl.isList pl2.isList rfl (by omega) (fun j h1 h2 => absurd h1 (by simp)) _ _ _ _ ⟨.bl false, H, I, rfl, k⟩
  | cons a b =>
    refine SeqAt.RcNeAt.lists_lengths pl.isList pl2.isList ?_ (by omega) _ _ _ _ ⟨.bl true, H, I, rfl, k⟩
    simp at l1
    simp
    intro z
    rw [z] at l1
    simp at l1
end L2
/-! Two dicts keyed by tuples that hold the same. -/
namespace L2
open PySem PySem.Spec PyProof.Rows
section
variable {prog : Program} {w : World} {κ : Type} [DecidableEq κ] {knd : HeapKind prog w κ} {A : Around} {E : Value → Shared → Prop} {s : Shared}
end
theorem KT.find {H : Hp} {kvs : List (List Key × V)} {xs : List (List Key × Addr × Value)} (r : KT H kvs xs) {x : List Key × Addr × Value} (h : x ∈ xs) : ∃ kv ∈ kvs, kv.1 = x.1 ∧ RelV kv.2 x.2.2 := by
  induction r with
  | nil => cases h
  | @cons p q ps qs hq t ih =>
    rcases List.mem_cons.mp h with e | h
    · subst e
      exact ⟨p, .head _, hq.1, hq.2.2⟩
    · obtain ⟨kv, h1, h2⟩ := ih h
      exact ⟨kv, .tail _ h1, h2⟩
/-! ### a list, or a tuple, and an empty one, whatever it holds -/
def rEqNil : R2 := fun x y H Q => ∃ (p q : Addr) (xs : List V), x = .ref p ∧ y = .ref q ∧ H p = some (.lst xs) ∧ H q = some (.lst []) ∧ Q (.bl xs.isEmpty) H
theorem op_eqNil {X : Cx} (hu : X.A.units + 64 < cLine) : OpR X (compareOp .Eq) rEqNil := by
  intro pins s σ H x y v u Q I rx ry h
  obtain ⟨p, q, xs, rfl, rfl, hp, hq, k⟩ := h
  cases rx
  cases ry
  obtain ⟨its, r, pl, z1⟩ := I.list (SqL.of (K := X.K) hp)
  obtain ⟨its2, r2, pl2, z2⟩ := I.list (SqL.of (K := X.K) hq)
  have l1 := r.length
  have l2 := r2.length
  have e2 : its2 = [] := List.length_eq_zero_iff.mp l2.symm
  subst e2
  cases xs with
  | nil =>
    have e1 : its = [] := List.length_eq_zero_iff.mp l1.symm
    subst e1
    exact SeqAt.RcAt.lists (e := fun _ => true) pl.isList pl2.isList rfl (by omega) (fun j h1 h2 => absurd h1 (by simp)) _ _ _ _ ⟨.bl true, H, I, rfl, k⟩
  | cons a b =>
    refine SeqAt.RcAt.lists_lengths pl.isList pl2.isList ?_ (by omega) _ _ _ _ ⟨.bl false, H, I, rfl, k⟩
    simp at l1
    simp
    intro z
    rw [z] at l1
    simp at l1
end L2
/-! sum of lists, the greatest of a list. -/
namespace L2
open PySem PySem.Spec PyProof.Rows
section
variable {prog : Program} {w : World} {A : Around} {R : Result → Shared → Prop} {I : Addr} {fp wr : List Addr} {n : Nat} {P : Nat → Value → Prop} {St : Nat → Heap → Prop}
end
namespace SL
end SL
section
variable {prog : Program} {w : World} {A : Around} {E : Value → Shared → Prop} {s : Shared}
end
section
variable {X : Cx}
/-- the greatest of a list of numbers -/
def rMaxL : List V → Hp → VK → Prop := fun xs H Q => ∃ (p : Addr) (ns : List Int), xs = [.ref p] ∧ H p = some (.lst (ns.map V.int)) ∧ ns ≠ [] ∧ ∀ m : Int, m ∈ ns → (∀ n ∈ ns, n ≤ m) → Q (.int m) H
theorem best_is (f : Nat → Int) : ∀ n, argBest (fun i j => decide (f i > f j)) n ≤ n ∧ ∀ j, j ≤ n → f j ≤ f (argBest (fun i j => decide (f i > f j)) n)
  | 0 => ⟨Nat.le_refl _, fun j hj => by
      have : j = 0 := by omega
      subst this
      exact Int.le_refl _⟩
  | n + 1 => by
    obtain ⟨h1, h2⟩ := best_is f n
    have e : argBest (fun i j => decide (f i > f j)) (n + 1) = if f (n + 1) > f (argBest (fun i j => decide (f i > f j)) n) then n + 1 else argBest (fun i j => decide (f i > f j)) n := by
      simp [argBest]
    rw [e]
    split
    · rename_i h
      refine ⟨Nat.le_refl _, fun j hj => ?_⟩
      by_cases ej : j = n + 1
      · subst ej; exact Int.le_refl _
      · have := h2 j (by omega); omega
    · rename_i h
      refine ⟨by omega, fun j hj => ?_⟩
      by_cases ej : j = n + 1
      · subst ej; omega
      · exact h2 j (by omega)
theorem call_maxL (hc : X.calm = true) : CallR X (.builtin "max") rMaxL := by
  intro pins s σ H xs us Q I r h
  obtain ⟨p, ns, rfl, hp, hne, k⟩ := h
  obtain ⟨u, rfl, rx⟩ := vals1 r
  cases rx
  obtain ⟨its, rv, pl, hz⟩ := I.list (SqL.of (K := X.K) hp)
  have hi := ints_vals rv
  obtain ⟨xs, hx⟩ := hi.allInts.items
  have hl := pl.isList
  rw [hx] at hl
  have e1 : ns = xs.toList.map (·.1) := by
    rw [← nums_intItems, ← hx]
    exact (show numsOf its.toArray.toList = ns from hi.numsOf).symm
  have hlen : ns.length = xs.size := by rw [e1]; simp
  have hpos : 0 < xs.size := by rw [← hlen]; exact Nat.pos_of_ne_zero fun z => hne (List.eq_nil_of_length_eq_zero z)
  refine max_intList (show X.A.handled = none from I.ok.hd hc) hl hpos fun v h' tk hv hk => ?_
  obtain ⟨b1, b2⟩ := best_is (numAt xs) (xs.size - 1)
  generalize argBest (fun i j => decide (numAt xs i > numAt xs j)) (xs.size - 1) = b at hv b1 b2
  have hb : b < xs.size := by omega
  have hnum : ∀ j, j < xs.size → ns[j]? = some (numAt xs j) := fun j hj => by
    unfold numAt
    rw [e1, List.getElem?_map, Array.getElem?_toList, Array.getElem?_eq_getElem hj]
    rfl
  obtain ⟨t, rfl⟩ := intItems_at hv
  refine ⟨.int (numAt xs b), H, I.kept (t' := tk) hk, ⟨t, rfl⟩, k _ (List.mem_of_getElem? (hnum b hb)) fun n hn => ?_⟩
  obtain ⟨j, hj⟩ := List.mem_iff_getElem?.mp hn
  have hjl : j < ns.length := (List.getElem?_eq_some_iff.mp hj).1
  rw [hnum j (by omega)] at hj
  cases hj
  exact b2 j (by omega)
end
end L2
set_option maxHeartbeats 4000000
/-! sorted of tuples of numbers: a rearrangement, whatever the comparisons say. -/
namespace L2
open PySem PySem.Spec PyProof.Rows PySem.W
section
variable {α β : Type}
end
def PR (N : Nat) (p : Array Nat) : Prop := p.toList.Perm (List.range N)
theorem PR.get {N : Nat} {p : Array Nat} (h : PR N p) (hN : 0 < N) (i : Nat) : p.getD i 0 < N := by
  rw [Array.getD_eq_getD_getElem?]
  cases e : p[i]? with
  | none => exact hN
  | some x =>
    have : x ∈ p.toList := by rw [Array.mem_toList_iff]; exact Array.mem_of_getElem? e
    exact List.mem_range.mp (h.mem_iff.mp this)
section
variable {N : Nat} (hN : 0 < N)
include hN
end
section
variable {prog : Program} {w : World} {A : Around} {E : Value → Shared → Prop} {s : Shared}
/-- an int ahead, then ints -/
def IT (h : Heap) (m : Nat) (v : Value) : Prop := ∃ (b : Addr) (o : Obj) (xs : Array Value) (n : Nat) (ns : List Int), v = .ref b ∧ h.get? b = some o ∧ o.cls = .type "tuple" ∧ o.data = .seq xs n ∧ IntsAre xs.toList ns ∧ ns.length = m + 1
theorem IT.keep {h h' : Heap} {m : Nat} {v : Value} (x : IT h m v) (k : ∀ b o, v = .ref b → h.get? b = some o → h'.get? b = some o) : IT h' m v := by
  obtain ⟨b, o, xs, n, ns, e, g, r⟩ := x
  exact ⟨b, o, xs, n, ns, e, k b o e g, r⟩
end
section
variable {X : Cx}
/-- four numbers -/
abbrev Q4 := Int × Int × Int × Int
def q4 (t : Q4) : List V := [.int t.1, .int t.2.1, .int t.2.2.1, .int t.2.2.2]
end
end L2
/-! Functions that a def makes, with what they keep of its names. -/
namespace L2
open PySem PySem.Spec PyProof.Rows PySem.W
/-- a function that was made -/
def FnO (f : Addr) (fd : FuncData) : HO := .ext fun h => ∃ o, h.get? f = some o ∧ o.data = .func fd
/-- its code -/
def CodeO (c : Addr) (qual : Str) : HO := .ext fun h => h.CodeRec (.ref c) qual
/-- a name's value that is kept -/
def CellO (c : Addr) (v : V) : HO := .ext fun h => ∃ u, RelV v u ∧ h.IsCell c (some u)
section
variable {P : Program} {w : World} {H H' : Hp} {h h' : Heap} {f c : Addr} {fd : FuncData} {qual : Str} {v : V}
theorem fnO_ok {o : Obj} (e : h.get? f = some o) (d : o.data = .func fd) : ObjOk P w H h f (FnO f fd) := ⟨⟨o, e, d⟩, ⟨o, e⟩, fun h1 h2 ⟨o, e, d⟩ k => ⟨o, k o e, d⟩⟩
theorem codeO_ok (e : h.CodeRec (.ref c) qual) : ObjOk P w H h c (CodeO c qual) := by
  refine ⟨e, ?_, fun h1 h2 x k => ?_⟩
  · obtain ⟨c', o, vs, t, e1, e2, _⟩ := e
    cases e1
    exact ⟨o, e2⟩
  · obtain ⟨c', o, vs, t, e1, e2, r⟩ := x
    cases e1
    exact ⟨c, o, vs, t, rfl, k o e2, r⟩
theorem cellO_ok {u : Value} (r : RelV v u) (e : h.IsCell c (some u)) : ObjOk P w H h c (CellO c v) := by
  refine ⟨⟨u, r, e⟩, ?_, fun h1 h2 x k => ?_⟩
  · obtain ⟨o, e1, _⟩ := e
    exact ⟨o, e1⟩
  · obtain ⟨u, r, o, e1, e2⟩ := x
    exact ⟨u, r, o, k o e1, e2⟩
end
def IsFn (H : Hp) (f : Addr) : Prop := ∃ fd, H f = some (FnO f fd)
/-- what a call of the function at f comes to -/
def Runs (P : Program) (w : World) (K : PySem.W.Frag) (mg : Str → Option Value) (base : Heap) (k : Nat) (f : Addr) (vs : List V) (H : Hp) (Q : VK) : Prop :=
  ∀ (A : Around) (outer : List Env) (s : Shared) (us : List Value), Room k A → Env0 P w K mg base A outer s H → Vals vs us → codeAny (model P w) A (.call (.ref f) ⟨us, []⟩) (CR CX0 outer P w H s Q E0) s
theorem Runs.mono {P : Program} {w : World} {K : PySem.W.Frag} {mg : Str → Option Value} {base : Heap} {j k : Nat} {f : Addr} {vs : List V} {H : Hp} {Q : VK} (h : Runs P w K mg base j f vs H Q) (hk : j ≤ k) : Runs P w K mg base k f vs H Q := fun A outer s us hr => h A outer s us (hr.mono hk)
section
variable {X : Cx} {k : Nat}
theorem IsFn.at {pins : List (Addr × Obj)} {σ : St} {H : Hp} {s : Shared} {f : Addr} (I : Inv X pins σ H s) (h : IsFn H f) : FnAt f s.heap := by
  obtain ⟨fd, e⟩ := h
  obtain ⟨⟨o, e1, d⟩, _⟩ := I.hok f _ e
  obtain ⟨oc, od, dd, sl⟩ := o
  cases d
  exact ⟨_, _, _, _, e1⟩
end
/-! ### the run of such a function -/
theorem lookup_nd {β : Type} {x : Str} {u : β} : ∀ {l : List (Str × β)}, (l.map (·.1)).Nodup → (x, u) ∈ l → l.lookup x = some u
  | p :: r, nd, h => by
    rw [List.map_cons, List.nodup_cons] at nd
    obtain ⟨y, v⟩ := p
    rw [List.lookup_cons]
    rcases List.mem_cons.mp h with e | h
    · cases e
      rw [beq_self_eq_true]
    · have hn : x ≠ y := fun z => nd.1 (List.mem_map.mpr ⟨(x, u), h, z⟩)
      rw [beq_eq_false_iff_ne.mpr hn]
      exact lookup_nd nd.2 h
structure CloScope (N ps fr : List Str) (sc : Scope) : Prop where
  kind : sc.kind = .function
  co : sc.isCoroutine = false
  gen : sc.isGenerator = false
  nd : N.Nodup
  pre : N.take ps.length = ps
  post : N.drop (N.length - fr.length) = fr
  room : ps.length + fr.length ≤ N.length
  par : ∀ x ∈ ps, sc.names.lookup x = some .local
  nocell : ∀ y ∈ sc.names, y.2 ≠ .cell
  free : ∀ y ∈ sc.names, y.2 = .free → y.1 ∈ fr
  frk : ∀ x ∈ fr, sc.names.lookup x = some .free
def startC (N : List Str) (vs ws : List V) : St := vs.map some ++ List.replicate (N.length - vs.length - ws.length) none ++ ws.map some
/-- without what the names keep -/
def er (cs : List Addr) (H : Hp) : Hp := fun b => if b ∈ cs then none else H b
/-- with it again -/
def rs (cs : List Addr) (H H' : Hp) : Hp := fun b => if b ∈ cs then H b else H' b
def cxX (CX : CXT) (P : Program) (w : World) (K : PySem.W.Frag) (mg : Str → Option Value) (base : Heap) (N : List Str) (qual : Str) (scope : Scope) (f : Addr) (cd : Value) (cl : List (Str × Addr)) (A : Around) (outer : List Env) (s : Shared) (H : Hp) (E : XK) : Cx where
  prog := P
  w := w
  K := K
  mg := mg
  base := base
  A := A.deeper (envX qual scope s.heap.objs.size f cd cl)
  N := N
  s₀ := s
  H₀ := H
  env := envX qual scope s.heap.objs.size f cd cl
  outer := outer
  stack := envX qual scope s.heap.objs.size f cd cl :: outer
  ex := []
  calm := true
  fn := fun _ => false
  pn := []
  xe := fun e s' => wpAny (model P w) (A.deeper (envX qual scope s.heap.objs.size f cd cl)) (leaving (envX qual scope s.heap.objs.size f cd cl) e) (fun _ s'' => CX outer H s E e s'') (fun e' s'' => CX outer H s E e' s'') s'
section
variable {P : Program} {w : World} {H H' : Hp} {h h' : Heap} {cs : List Addr} {b : Addr}
theorem er_in (hb : b ∈ cs) : er cs H b = none := if_pos hb
theorem er_out (hb : b ∉ cs) : er cs H b = H b := if_neg hb
theorem rs_in (hb : b ∈ cs) : rs cs H H' b = H b := if_pos hb
theorem rs_out (hb : b ∉ cs) : rs cs H H' b = H' b := if_neg hb
theorem er_some {o : HO} (e : er cs H b = some o) : b ∉ cs ∧ H b = some o := by
  by_cases hb : b ∈ cs
  · rw [er_in hb] at e; cases e
  · rw [er_out hb] at e; exact ⟨hb, e⟩
theorem er_none (e : H b = none) : er cs H b = none := by
  by_cases hb : b ∈ cs
  · exact er_in hb
  · rw [er_out hb]; exact e
theorem rs_er : rs cs H (er cs H) = H := by
  funext b
  by_cases hb : b ∈ cs
  · rw [rs_in hb]
  · rw [rs_out hb, er_out hb]
/-- the places of cells -/
def AreCells (H : Hp) (cs : List Addr) : Prop := ∀ c ∈ cs, ∃ v, H c = some (CellO c v)
theorem AreCells.not {o : HO} (hc : AreCells H cs) (e : H b = some o) (hn : ∀ φ, o ≠ .ext φ) : b ∉ cs := fun z => by
  obtain ⟨v, e2⟩ := hc b z
  rw [e] at e2
  exact hn _ (Option.some.inj e2)
theorem HOk.er (x : HOk P w H h) (hc : AreCells H cs) : HOk P w (er cs H) h := fun a o e => by
  obtain ⟨ha, e'⟩ := er_some e
  refine (x a o e').stay (fun _ _ _ q => q) (fun b q => ?_) fun b xs q => ?_
  · rw [er_out (hc.not q (fun φ z => by cases z))]; exact q
  · rw [er_out (hc.not q (fun φ z => by cases z))]; exact q
end
section
variable {P : Program} {w : World} {K : PySem.W.Frag} {mg : Str → Option Value} {base : Heap} {f c' : Addr} {qual : Str} {scope : Scope} {cl : List (Str × Addr)} {N ps fr : List Str} {vs ws : List V} {H : Hp} {A : Around} {outer : List Env} {s : Shared} {us : List Value}
/-- the state at the entry -/
theorem inv_clo {h₁ : Heap} {tk : Nat} (hd : A.handled = none) (e0 : Env0 P w K mg base A outer s H) (r : Vals vs us) (S : CloScope N ps fr scope) (hcs : AreCells H (cl.map (·.2)))
    (hfr : Paired (fun x v => ∃ c, cl.lookup x = some c ∧ H c = some (CellO c v)) fr ws) (inj : ∀ x y c, cl.lookup x = some c → cl.lookup y = some c → x = y) (len : vs.length = ps.length)
    (hns : h₁.Ns s.heap.objs.size (fun x => (ps.zip us).reverse.lookup x)) (hk₁ : ∀ b o, s.heap.get? b = some o → h₁.get? b = some o) :
    Inv (cxX CX0 P w K mg base N qual scope f (.ref c') cl A outer s (er (cl.map (·.2)) H) E0) [] (startC N vs ws) (er (cl.map (·.2)) H) { s with heap := h₁, toks := tk } := by
  have hul : us.length = ps.length := by rw [← r.length]; exact len
  have hwl : fr.length = ws.length := hfr.length
  have noA : ∀ b : Addr, b ∉ (cxX CX0 P w K mg base N qual scope f (.ref c') cl A outer s (er (cl.map (·.2)) H) E0).ex := fun b z => absurd (show b ∈ ([] : List Addr) from z) (by simp)
  have memC : ∀ {x c}, cl.lookup x = some c → c ∈ cl.map (·.2) := fun {x c} e => List.mem_map.mpr ⟨(x, c), PySem.mem_of_lookup e, rfl⟩
  have cellOf : ∀ c ∈ cl.map (·.2), ∃ u, s.heap.IsCell c (some u) ∧ H c ≠ none := fun c hc => by
    obtain ⟨v, e⟩ := hcs c hc
    obtain ⟨⟨u, _, q⟩, _⟩ := e0.hok c _ e
    exact ⟨u, q, by rw [e]; simp⟩
  have ndP : ps.Nodup := by rw [← S.pre]; exact S.nd.sublist (List.take_sublist _ _)
  refine ⟨⟨e0.mod, S.kind, rfl, rfl, Nat.le_refl _, fun y z c h1 h2 => inj y z c h1 h2, fun y hy => ?_, fun y c h _ => absurd h Bool.false_ne_true, fun _ => hd, Around.frames_deeper e0.frames, .inr ⟨rfl, rfl⟩, fun b z => absurd z (noA b), fun b o e => ⟨(e0.bs b o e).1, er_none (e0.bs b o e).2⟩, e0.bsz, fun b _ _ => noA b, fun b z => absurd z (noA b), e0.funs, fun b hb => er_none (e0.frf b hb)⟩,
    rfl, e0.bare, Un.kept hk₁, ⟨_, hns, fun i y v h1 h2 h3 => ?_⟩, fun y c h => ?_, er_none (e0.hok.fresh (Nat.le_refl _)), fun y c h => er_in (memC h), fun p hp => absurd (show p ∈ ([] : List (Addr × Obj)) from hp) (by simp), (e0.hok.er hcs).kept hk₁, ?_⟩
  · have hy : scope.names.lookup y = some .cell ∨ scope.names.lookup y = some .free := hy
    rcases hy with hy | hy
    · exact absurd rfl (S.nocell _ (PySem.mem_of_lookup hy))
    · have hm := S.free _ (PySem.mem_of_lookup hy) rfl
      obtain ⟨i, hi, e⟩ := List.mem_iff_getElem.mp hm
      obtain ⟨v, _, c, hc, _⟩ := paired_get hfr (List.getElem?_eq_some_iff.mpr ⟨hi, e⟩)
      exact ⟨c, hc⟩
  · have h1 : N[i]? = some y := h1
    have h3 : Vis scope y := h3
    unfold startC at h2
    by_cases hi : i < vs.length
    · rw [List.append_assoc, List.getElem?_append_left (by simpa using hi), List.getElem?_map] at h2
      cases e : vs[i]? with
      | none => rw [e] at h2; cases h2
      | some a =>
        rw [e] at h2
        cases h2
        obtain ⟨u, hu, rv⟩ := r.get e
        have hp : ps[i]? = some y := by rw [← S.pre, List.getElem?_take_of_lt (by omega)]; exact h1
        refine ⟨u, rv, .inl ⟨S.par y (List.mem_of_getElem? hp), ?_⟩⟩
        show List.lookup y (ps.zip us).reverse = some u
        refine lookup_nd ?_ ?_
        · rw [List.map_reverse, List.map_fst_zip (by omega)]
          exact List.pairwise_reverse.mpr (ndP.imp fun h z => h z.symm)
        · rw [List.mem_reverse]
          refine List.mem_of_getElem? (i := i) ?_
          rw [List.getElem?_zip_eq_some]
          exact ⟨hp, hu⟩
    · by_cases hj : i < N.length - ws.length
      · rw [List.append_assoc, List.getElem?_append_right (by simpa using hi), List.getElem?_append_left (by rw [List.length_replicate, List.length_map]; have := S.room; omega), List.getElem?_replicate] at h2
        split at h2 <;> cases h2
      · rw [List.getElem?_append_right (by rw [List.length_append, List.length_map, List.length_replicate]; have := S.room; omega), List.getElem?_map] at h2
        rw [show i - (vs.map some ++ List.replicate (N.length - vs.length - ws.length) (none : Option V)).length = i - (N.length - ws.length) by rw [List.length_append, List.length_map, List.length_replicate]; have := S.room; omega] at h2
        cases e : ws[i - (N.length - ws.length)]? with
        | none => rw [e] at h2; cases h2
        | some a =>
          rw [e] at h2
          cases h2
          have hy : fr[i - (N.length - ws.length)]? = some y := by
            rw [← S.post, List.getElem?_drop, ← h1]
            congr 1
            omega
          obtain ⟨v', hv', c, hc, eH⟩ := paired_get hfr hy
          rw [e] at hv'
          cases hv'
          obtain ⟨⟨u, rv, o, ho, hod⟩, _⟩ := e0.hok c _ eH
          exact ⟨u, rv, .inr ⟨.inr (S.frk y (List.mem_of_getElem? hy)), c, hc, o, hk₁ _ _ ho, hod⟩⟩
  · obtain ⟨u, ⟨o, e, d⟩, _⟩ := cellOf c (memC h)
    exact ⟨_, o, hk₁ _ _ e, d⟩
  · unfold startC
    show _ = N.length
    rw [List.length_append, List.length_append, List.length_map, List.length_replicate, List.length_map]
    have := S.room
    omega
/-- the state at the end -/
theorem ce_clo {s' : Shared} {σ' : St} {H' : Hp} {v : V} {u : Value} {Q : VK} (e0 : Env0 P w K mg base A outer s H) (hcs : AreCells H (cl.map (·.2))) (J : Inv (cxX CX0 P w K mg base N qual scope f (.ref c') cl A outer s (er (cl.map (·.2)) H) E0) [] σ' H' s') (rv : RelV v u)
    (q : Q v (rs (cl.map (·.2)) H H')) : CE outer P w H s Q u s' := by
  have cellOf : ∀ c ∈ cl.map (·.2), ∃ u, s.heap.IsCell c (some u) ∧ H c ≠ none := fun c hc => by
    obtain ⟨v, e⟩ := hcs c hc
    obtain ⟨⟨u, _, q⟩, _⟩ := e0.hok c _ e
    exact ⟨u, q, by rw [e]; simp⟩
  have un : Un (frs outer) [] (er (cl.map (·.2)) H) H' s.heap s'.heap := J.base
  have cN : ∀ c ∈ cl.map (·.2), H' c = none := fun c hc => by
    obtain ⟨u, ⟨o, e, _⟩, _⟩ := cellOf c hc
    exact un.free c o e (er_in hc) (by simp)
  have cK : ∀ c ∈ cl.map (·.2), ∀ o, s.heap.get? c = some o → s'.heap.get? c = some o := fun c hc o e => by
    obtain ⟨u, _, hne⟩ := cellOf c hc
    exact un.keep c o e (er_in hc) (fun z => hne (e0.frf c z)) (by simp)
  have out : ∀ {b : Addr} {o : HO}, H b = some o → (∀ φ, o ≠ .ext φ) → b ∉ cl.map (·.2) := fun e n => hcs.not e n
  refine ⟨v, rs (cl.map (·.2)) H H', J.os, J.bare, ⟨fun b o e n hb hx => un.keep b o e (er_none n) hb hx, fun b o e n hb hx => un.slot b o e (er_none n) hb hx, fun b o e n hx => ?_, un.there, fun b xs e => ?_, fun b o u e => ?_, fun b ps e => ?_⟩, fun b o e => ?_, rv, q⟩
  · by_cases hb : b ∈ cl.map (·.2)
    · rw [rs_in hb]; exact n
    · rw [rs_out hb]; exact un.free b o e (er_none n) hx
  · have hb := out e (fun φ z => by cases z)
    rw [rs_out hb]
    exact un.tups b xs (by rw [er_out hb]; exact e)
  · have hb := out e (fun φ z => by cases z)
    rw [rs_out hb]
    exact un.frzs b o u (by rw [er_out hb]; exact e)
  · have hb := out e (fun φ z => by cases z)
    rw [rs_out hb]
    exact un.tbls b ps (by rw [er_out hb]; exact e)
  · have keepO : ∀ {c : Addr} {x : HO}, H' c = some x → rs (cl.map (·.2)) H H' c = some x := fun {c x} e => by
      by_cases hb : c ∈ cl.map (·.2)
      · rw [cN c hb] at e; cases e
      · rw [rs_out hb]; exact e
    by_cases hb : b ∈ cl.map (·.2)
    · rw [rs_in hb] at e
      obtain ⟨v, ev⟩ := hcs b hb
      rw [e] at ev
      cases ev
      have := e0.hok b _ e
      obtain ⟨⟨u, ru, o, eo, d⟩, _⟩ := this
      exact cellO_ok ru ⟨o, cK b hb o eo, d⟩
    · rw [rs_out hb] at e
      exact (J.hok b o e).stay (fun _ _ _ q => q) (fun c q => keepO q) fun c xs q => keepO q
end
theorem clo_runs {P : Program} {w : World} {K : PySem.W.Frag} {mg : Str → Option Value} {base : Heap} {k : Nat} {f c' : Addr} {name qual : Str} {params : Arguments} {body : List Stmt} {scope : Scope} {cl : List (Str × Addr)} {doc pm ctv : Value} {N ps fr : List Str} {vs ws : List V} {H : Hp} {Q : VK}
    (hf : H f = some (FnO f (fnX name qual params body scope cl .none .none doc pm none (.ref c') ctv))) (hc : H c' = some (CodeO c' qual)) (S : CloScope N ps fr scope)
    (hcs : AreCells H (cl.map (·.2))) (hfr : Paired (fun x v => ∃ c, cl.lookup x = some c ∧ H c = some (CellO c v)) fr ws) (inj : ∀ x y c, cl.lookup x = some c → cl.lookup y = some c → x = y)
    (hbind : ∀ us : List Value, us.length = ps.length → bindArgs (fnX name qual params body scope cl .none .none doc pm none (.ref c') ctv) ⟨us, []⟩ = pure (ps.zip us)) (len : vs.length = ps.length)
    (hbody : ∀ (A : Around) (outer : List Env) (s : Shared), Room k (A.deeper (envX qual scope s.heap.objs.size f (.ref c') cl)) →
      ∃ t, PSs (cxX CX0 P w K mg base N qual scope f (.ref c') cl A outer s (er (cl.map (·.2)) H) E0).nox body t ∧ t { nx := fun _ H' => Q .non (rs (cl.map (·.2)) H H'), rt := fun v H' => Q v (rs (cl.map (·.2)) H H') } (startC N vs ws) (er (cl.map (·.2)) H)) :
    Runs P w K mg base (k + 1) f vs H Q := by
  intro A outer s us hr e0 r
  have lim : s.heap.NoLimit := e0.mod.nolimit.keeps fun b o e => (e0.bs b o e).1
  obtain ⟨⟨o, ho, hd⟩, _⟩ := e0.hok f _ hf
  have hcd : s.heap.CodeRec (.ref c') qual := (e0.hok c' _ hc).1
  have hul : us.length = ps.length := by rw [← r.length]; exact len
  refine codeAny_call_def (fd := fnX name qual params body scope cl .none .none doc pm none (.ref c') ctv) (body := body) (binds := ps.zip us) hr.depth ho hd lim hcd rfl (.of_eq (hbind us hul)) S.nocell (fun y hy => S.par y.1 (List.of_mem_zip (by exact hy)).1) (fun h₁ hns hk₁ => ?_) S.co S.gen S.kind
  show wpAny (model P w) (A.deeper (envX qual scope s.heap.objs.size f (.ref c') cl)) (execs body (envX qual scope s.heap.objs.size f (.ref c') cl)) _ _ _
  obtain ⟨t, ht, hq⟩ := hbody A outer s (hr.deeper _)
  have I := inv_clo (f := f) (c' := c') (qual := qual) (tk := s.toks + (ps.zip us).length) hr.hd e0 r S hcs hfr inj len hns hk₁
  refine wpAny_mono (ht.nox [] _ (startC N vs ws) _ _ I hq) (fun fl s' hs => ?_) fun e s' hs => ?_
  · cases fl with
    | ret u =>
      obtain ⟨v, σ', H', J, rv, q⟩ := hs
      exact ce_clo e0 hcs J rv q
    | next =>
      obtain ⟨σ', H', J, q⟩ := hs
      exact ce_clo (v := V.non) (u := Value.none) e0 hcs J rfl q
    | brk =>
      obtain ⟨_, _, _, q⟩ := hs
      exact False.elim q
    | cont =>
      obtain ⟨_, _, _, q⟩ := hs
      exact False.elim q
  · exact hs
theorem lam_runs {P : Program} {w : World} {K : PySem.W.Frag} {mg : Str → Option Value} {base : Heap} {k : Nat} {f c' : Addr} {name qual : Str} {params : Arguments} {body : Expr} {scope : Scope} {cl : List (Str × Addr)} {pm ctv : Value} {N ps fr : List Str} {vs ws : List V} {H : Hp} {Q : VK}
    (hf : H f = some (FnO f (kla_fn name qual params body scope cl pm (.ref c') ctv))) (hc : H c' = some (CodeO c' qual)) (S : CloScope N ps fr scope)
    (hcs : AreCells H (cl.map (·.2))) (hfr : Paired (fun x v => ∃ c, cl.lookup x = some c ∧ H c = some (CellO c v)) fr ws) (inj : ∀ x y c, cl.lookup x = some c → cl.lookup y = some c → x = y)
    (hbind : ∀ us : List Value, us.length = ps.length → bindArgs (kla_fn name qual params body scope cl pm (.ref c') ctv) ⟨us, []⟩ = pure (ps.zip us)) (len : vs.length = ps.length)
    (hbody : ∀ (A : Around) (outer : List Env) (s : Shared), Room k (A.deeper (envX qual scope s.heap.objs.size f (.ref c') cl)) →
      ∃ t, PE (cxX CX0 P w K mg base N qual scope f (.ref c') cl A outer s (er (cl.map (·.2)) H) E0) body t ∧ t (startC N vs ws) (er (cl.map (·.2)) H) fun v H' => Q v (rs (cl.map (·.2)) H H')) :
    Runs P w K mg base (k + 1) f vs H Q := by
  intro A outer s us hr e0 r
  have lim : s.heap.NoLimit := e0.mod.nolimit.keeps fun b o e => (e0.bs b o e).1
  obtain ⟨⟨o, ho, hd⟩, _⟩ := e0.hok f _ hf
  have hcd : s.heap.CodeRec (.ref c') qual := (e0.hok c' _ hc).1
  have hul : us.length = ps.length := by rw [← r.length]; exact len
  refine kla_callFunE hr.depth ho hd S.co S.gen rfl hcd ?_
  rw [hbind us hul]
  refine wpAny_pure (wpAny_newFunctionEnv S.nocell (fun y hy => S.par y.1 (List.of_mem_zip (by exact hy)).1) (fun h₁ hns hsb => ⟨lim.fresh _ hsb, ?_⟩) S.kind)
  show codeAny _ _ (.expr body (envX qual scope s.heap.objs.size f (.ref c') cl)) _ _
  have hk₁ : ∀ b o, s.heap.get? b = some o → h₁.get? b = some o := fun b o e => hsb.extBut b o (Nat.ne_of_lt (Heap.lt_size e)) (Heap.get?_push_of_some _ e)
  obtain ⟨t, ht, hq⟩ := hbody A outer s (hr.deeper _)
  have I := inv_clo (f := f) (c' := c') (qual := qual) (tk := s.toks + (ps.zip us).length) hr.hd e0 r S hcs hfr inj len hns hk₁
  refine kla_codeExpr (wpAny_mono (ht [] _ (startC N vs ws) _ _ I hq) (fun u s' hs => ?_) fun e s' hs => hs)
  obtain ⟨v, H', J, rv, q⟩ := hs
  exact ce_clo e0 hcs J rv q
/-- a function that was made, with the values that it keeps -/
def CloAt (H : Hp) (g qual : Str) (gp : Arguments) (gb : List Stmt) (gsc : Scope) (fr : List Str) (f : Addr) (ws : List V) : Prop := ∃ c' doc pm ctv cl, H f = some (FnO f (fnX g qual gp gb gsc cl .none .none doc pm none (.ref c') ctv)) ∧ H c' = some (CodeO c' qual) ∧
  AreCells H (cl.map (·.2)) ∧ Paired (fun x v => ∃ c, cl.lookup x = some c ∧ H c = some (CellO c v)) fr ws ∧ ∀ x y c, cl.lookup x = some c → cl.lookup y = some c → x = y
section
variable {S : List Addr} {H H' : Hp} {g qual : Str} {gp : Arguments} {gb : List Stmt} {gsc : Scope} {fr : List Str} {f : Addr} {ws : List V}
theorem CloAt.keep (h : CloAt H g qual gp gb gsc fr f ws) (k : Keep S H H') (hs : ∀ b ∈ S, ∀ φ, H b ≠ some (.ext φ)) : CloAt H' g qual gp gb gsc fr f ws := by
  obtain ⟨c', doc, pm, ctv, cl, h1, h2, h3, h4, h5⟩ := h
  have kk : ∀ b φ, H b = some (.ext φ) → H' b = some (.ext φ) := fun b φ e => k b _ e fun z => hs b z φ e
  refine ⟨c', doc, pm, ctv, cl, kk _ _ h1, kk _ _ h2, fun c hc => ?_, Paired.mapP h4 fun x v ⟨c, e1, e2⟩ => ⟨c, e1, kk _ _ e2⟩, h5⟩
  obtain ⟨v, e⟩ := h3 c hc
  exact ⟨v, kk _ _ e⟩
theorem CloAt.same (h : CloAt H g qual gp gb gsc fr f ws) (s : Same H H') : CloAt H' g qual gp gb gsc fr f ws := h.keep (S := []) s.keep (fun _ z => nomatch z)
theorem CloAt.isFn (h : CloAt H g qual gp gb gsc fr f ws) : IsFn H f := by
  obtain ⟨c', doc, pm, ctv, cl, h1, _⟩ := h
  exact ⟨_, h1⟩
theorem CloAt.runs {P : Program} {w : World} {K : PySem.W.Frag} {mg : Str → Option Value} {base : Heap} {k : Nat} {N ps : List Str} {vs : List V} {Q : VK} (h : CloAt H g qual gp gb gsc fr f ws) (S : CloScope N ps fr gsc)
    (hbind : ∀ (cl : List (Str × Addr)) (doc pm ctv : Value) (c' : Addr) (us : List Value), us.length = ps.length → bindArgs (fnX g qual gp gb gsc cl .none .none doc pm none (.ref c') ctv) ⟨us, []⟩ = pure (ps.zip us)) (len : vs.length = ps.length)
    (hbody : ∀ (cs : List Addr) (cl : List (Str × Addr)) (c' : Addr) (A : Around) (outer : List Env) (s : Shared), AreCells H cs → Room k (A.deeper (envX qual gsc s.heap.objs.size f (.ref c') cl)) →
      ∃ t, PSs (cxX CX0 P w K mg base N qual gsc f (.ref c') cl A outer s (er cs H) E0).nox gb t ∧ t { nx := fun _ H' => Q .non (rs cs H H'), rt := fun v H' => Q v (rs cs H H') } (startC N vs ws) (er cs H)) : Runs P w K mg base (k + 1) f vs H Q := by
  obtain ⟨c', doc, pm, ctv, cl, h1, h2, h3, h4, h5⟩ := h
  exact clo_runs h1 h2 S h3 h4 h5 (hbind cl doc pm ctv c') len fun A outer s hr => hbody _ cl c' A outer s h3 hr
end
end L2
/-! Making functions in a def's body; a law whose text has such a def. -/
namespace L2
open PySem PySem.Spec PyProof.Rows PySem.W
/-- the table of a def's code, and the code that it has for the def made at pos -/
def TabOk (H : Hp) (P : Addr) (pos : Pos) (qual : Str) : Prop := H P = some (.tbl #[]) ∨ ∃ c', H P = some (.tbl #[rawInt pos.line, rawInt pos.col, .ref c']) ∧ H c' = some (CodeO c' qual)
theorem TabOk.keep {S : List Addr} {H H' : Hp} {P : Addr} {pos : Pos} {qual : Str} (h : TabOk H P pos qual) (k : Keep S H H') (hs : ∀ b ∈ S, (∀ ps, H b ≠ some (.tbl ps)) ∧ ∀ φ, H b ≠ some (.ext φ)) : TabOk H' P pos qual := by
  rcases h with e | ⟨c', e1, e2⟩
  · exact .inl (k _ _ e fun z => (hs _ z).1 _ e)
  · exact .inr ⟨c', k _ _ e1 fun z => (hs _ z).1 _ e1, k _ _ e2 fun z => (hs _ z).2 _ e2⟩
theorem TabOk.same {H H' : Hp} {P : Addr} {pos : Pos} {qual : Str} (h : TabOk H P pos qual) (s : Same H H') : TabOk H' P pos qual := h.keep (S := []) s.keep (fun _ z => nomatch z)
structure TabA (X : Cx) (c P : Addr) : Prop where
  code : X.env.code = .ref c
  hd : CodeHd X.base c P
  bm : X.base.BuiltinsAt X.mg P
  ne : mainGlobals ≠ P
theorem codeRec_push {h : Heap} {c : Addr} {qual : Str} {o : Obj} (x : h.CodeRec (.ref c) qual) : (h.push o).CodeRec (.ref c) qual := by
  obtain ⟨c', ob, vs, t, e1, e2, r⟩ := x
  cases e1
  exact ⟨c, ob, vs, t, rfl, Heap.get?_push_of_some _ e2, r⟩
section
variable {X : Cx} {pins : List (Addr × Obj)} {σ : St} {H : Hp} {s : Shared}
end
/-! ### a def that makes one and tells it -/
section
variable {P : Program} {w : World} {fs : List Addr} {H H' : Hp} {h h' : Heap}
end
theorem nodup_snd {R : List (Str × Addr)} (h1 : (R.map (·.1)).Nodup) (inj : ∀ p q, p ∈ R → q ∈ R → p.2 = q.2 → p.1 = q.1) : (R.map (·.2)).Nodup := by
  induction R with
  | nil => exact List.nodup_nil
  | cons p r ih =>
    rw [List.map_cons, List.nodup_cons] at h1 ⊢
    refine ⟨fun z => ?_, ih h1.2 fun a b ha hb => inj a b (.tail _ ha) (.tail _ hb)⟩
    obtain ⟨q, hq, e⟩ := List.mem_map.mp z
    exact h1.1 (List.mem_map.mpr ⟨q, hq, inj q p (.tail _ hq) (.head _) e⟩)
/-! ### a law whose text has one def that makes functions -/
theorem law_callT {P : Program} {w : World} {K : PySem.W.Frag} {mg mb : Str → Option Value} {k : Nat} {fa a c Pt : Addr} {fd : FuncData} {x : Str} {sp : Sp} {s₁ : Shared} {vs : List Value} {ns : List Int}
    (KX : K.In s₁.heap) (hns : s₁.heap.Ns mainGlobals mg) (hb : s₁.heap.Ns builtinsNs mb) (hbb : ∀ x : Str, x ≠ "__name__" → mb x = bootBuiltins x) (hlim : s₁.heap.NoLimit) (hg : s₁.gens = #[])
    (ha : s₁.heap.get? a = some { cls := .type "list", data := .seq vs.toArray }) (hi : IntsAre vs ns) (hl : ns.length ≤ sizeLine) (hr : Room k callerA)
    (hCd : CodeHd s₁.heap c Pt) (hPt : s₁.heap.get? Pt = some (tabObj #[])) (hKP : K.lookup Pt = none)
    (hbm : ∃ bm ob, mg "__builtins__" = some (.ref bm) ∧ bm ≠ builtinsNs ∧ s₁.heap.get? bm = some ob ∧ ob.cls = .type "module" ∧ ob.dict = some builtinsNs ∧ ob.data = .plain)
    (F : ∀ base : Heap, K.In base → base.Ns mainGlobals mg → CodeHd base c Pt → base.BuiltinsAt mg Pt → mainGlobals ≠ Pt → FnOk P w K mg base CX0 k fa fd [x] sp) (hbind : ∀ (s : Shared) (u : Value), BindsTo s fd ⟨[u], []⟩ [(x, u)])
    (hsp : ∀ H : Hp, H Pt = some (.tbl #[]) → SqL K H a (ns.map V.int) → sp [.ref a] H (fun v _ => v = .bl true) fun _ _ _ => False) :
    codeAny (model P w) callerA (.call (.ref fa) ⟨[.ref a], []⟩) (fun r s' => r = .ok (.ret (.bool true)) ∧ OldK s₁.heap s'.heap ∧ s'.os = s₁.os ∧ AllBare s'.gens) s₁ := by
  have rv := vals_ints hi
  have lenV := hi.length
  have naP : a ≠ Pt := fun z => by rw [z, hPt] at ha; cases ha
  have core : ∀ H : Hp, H Pt = some (.tbl #[]) → SqL K H a (ns.map V.int) → HOk P w H s₁.heap → (∀ b, H b ≠ none → b = a ∨ b = Pt) → (H a ≠ none → K.lookup a = none) → (H a = none ∨ ∃ o xs, H a = some (.frz o (.lst xs))) →
      codeAny (model P w) callerA (.call (.ref fa) ⟨[.ref a], []⟩) (fun r s' => r = .ok (.ret (.bool true)) ∧ OldK s₁.heap s'.heap ∧ s'.os = s₁.os ∧ AllBare s'.gens) s₁ := by
    intro H hHP hS hok hA hK hO
    have base_of : ∀ {b : Addr} {o : Obj}, s₁.heap.get? b = some o → H b = none → (hidT s₁.heap H).get? b = some o := fun e n => hidT_get e n
    have not : ∀ {b : Addr} {o : Obj}, s₁.heap.get? b = some o → o ≠ { cls := .type "list", data := .seq vs.toArray } → o ≠ tabObj #[] → H b = none := fun {b o} e n1 n2 => by
      cases q : H b with
      | none => rfl
      | some u =>
        rcases hA b (by rw [q]; simp) with e' | e'
        · subst e'; rw [ha] at e; cases e; exact absurd rfl n1
        · subst e'; rw [hPt] at e; cases e; exact absurd rfl n2
    have nsK : ∀ {b : Addr} {m : Str → Option Value}, s₁.heap.Ns b m → (hidT s₁.heap H).Ns b m := fun {b m} ⟨o, es, ep, e, d, r⟩ => ⟨o, es, ep, base_of e (not e (fun z => by rw [z] at d; cases d) (fun z => by rw [z] at d; cases d)), d, r⟩
    have hKb : K.In (hidT s₁.heap H) := fun b o e => base_of (KX b o e) (by
      cases q : H b with
      | none => rfl
      | some u =>
        rcases hA b (by rw [q]; simp) with e' | e'
        · subst e'; rw [hK (by rw [q]; simp)] at e; cases e
        · subst e'; rw [hKP] at e; cases e)
    have hM : Mod K mg (hidT s₁.heap H) := ⟨hKb, nsK hns, ⟨mb, nsK hb, hbb⟩, let ⟨mc, h1, h2⟩ := hlim; ⟨mc, nsK h1, h2⟩⟩
    have e0 : Env0 P w K mg (hidT s₁.heap H) callerA [] s₁ H := ⟨rfl, hM, fun b o e => of_hidT e, Nat.le_of_eq (hidT_size _ _), trivial, fun b hb => absurd (show b ∈ ([] : List Addr) from hb) (by simp), hok, .of_eq hg⟩
    have hCb : CodeHd (hidT s₁.heap H) c Pt := by
      obtain ⟨o, fs, file, tf, flags, tg, inF, text, tt, e1, e2, r⟩ := hCd
      exact ⟨o, fs, file, tf, flags, tg, inF, text, tt, base_of e1 (not e1 (fun z => by rw [z] at e2; exact absurd (Value.type.inj e2) (by decide)) (fun z => by rw [z] at e2; cases e2)), e2, r⟩
    have hgP : mainGlobals ≠ Pt := fun z => by
      obtain ⟨o, es, ep, e, d, _⟩ := hns
      rw [z, hPt] at e; cases e; cases d
    have hBb : (hidT s₁.heap H).BuiltinsAt mg Pt := by
      obtain ⟨bm, ob, b1, b2, b3, b4, b5, b6⟩ := hbm
      refine ⟨bm, ob, b1, b2, fun z => ?_, fun z => ?_, base_of b3 (not b3 (fun z => by rw [z] at b4; exact absurd (Value.type.inj b4) (by decide)) (fun z => by rw [z] at b4; cases b4)), b4, b5, b6⟩
      · obtain ⟨o, es, ep, e, d, _⟩ := hns
        rw [z] at b3
        rw [b3] at e; cases e
        rw [b6] at d; cases d
      · rw [z, hPt] at b3; cases b3; cases b4
    refine codeAny_mono ((F _ hKb (nsK hns) hCb hBb hgP).run callerA [] s₁ H ⟨[.ref a], []⟩ [.ref a] [.ref a] _ _ hr e0 (hbind s₁ (.ref a)) (.cons rfl .nil) (hsp H hHP hS)) fun r s' h => ?_
    cases r with
    | error e => exact False.elim h
    | ok fl =>
      cases fl with
      | next => exact False.elim h
      | brk => exact False.elim h
      | cont => exact False.elim h
      | ret u =>
        obtain ⟨v, H', os, bare, un, hok', r', q⟩ := h
        have q' : v = .bl true := q
        subst q'
        obtain rfl : u = Value.bool true := r'
        refine ⟨rfl, ⟨fun b o e => ?_, fun b o e => un.there b o e (by simp)⟩, os, bare⟩
        cases q : H b with
        | none => exact .inl (un.keep b o e q (by intro z; exact absurd (show b ∈ ([] : List Addr) from z) (by simp)) (by simp))
        | some u =>
          rcases hA b (by rw [q]; simp) with e' | e'
          · subst e'
            rcases hO with z | ⟨ob, xs, z⟩
            · rw [q] at z; cases z
            · have z2 := un.frzs b ob _ z
              obtain ⟨e1, _⟩ := hok b _ z
              obtain ⟨e2, _⟩ := hok' b _ z2
              rw [e] at e1; cases e1
              exact .inl e2
          · subst e'
            obtain ⟨more, z⟩ := un.tbls b _ hHP
            have z2 : s'.heap.get? b = some { cls := .none, data := .fields (#[] ++ more) } := hok' b _ z
            rw [hPt] at e
            cases e
            exact .inr (.inl ⟨(hCd.tab hPt).isCodeTable, rfl, #[], more, rfl, z2⟩)
  cases hk : K.lookup a with
  | some o =>
    have e := KX a o hk
    rw [ha] at e
    cases e
    refine core (fun b => if b = Pt then some (.tbl #[]) else none) (if_pos rfl) (.inr ⟨_, vs.toArray, _, hk, rfl, rfl, rfl, by rw [List.size_toArray, lenV]; exact hl, by simpa using rv⟩) (fun b u z => ?_) (fun b z => ?_) (fun z => absurd (if_neg naP) z) (.inl (if_neg naP))
    · by_cases hb : b = Pt
      · have z' := (if_pos hb).symm.trans z
        cases z'
        subst hb
        exact hPt
      · have z' := (if_neg hb).symm.trans z
        cases z'
    · by_cases hb : b = Pt
      · exact .inr hb
      · exact absurd (if_neg hb) z
  | none =>
    refine core (fun b => if b = Pt then some (.tbl #[]) else if b = a then some (.frz { cls := .type "list", data := .seq vs.toArray } (.lst (ns.map V.int))) else none) (if_pos rfl) (.inl (.inr ⟨{ cls := .type "list", data := .seq vs.toArray }, (if_neg naP).trans (if_pos rfl)⟩)) (fun b u z => ?_) (fun b z => ?_) (fun _ => hk) (.inr ⟨_, _, (if_neg naP).trans (if_pos rfl)⟩)
    · by_cases hb : b = Pt
      · have z' := (if_pos hb).symm.trans z
        cases z'
        subst hb
        exact hPt
      · have z1 := (if_neg hb).symm.trans z
        by_cases hb : b = a
        · have z' := (if_pos hb).symm.trans z1
          cases z'
          subst hb
          exact ⟨ha, by rw [List.length_map]; exact hl, vs, _, rv, ha⟩
        · have z' := (if_neg hb).symm.trans z1
          cases z'
    · by_cases hb : b = Pt
      · exact .inr hb
      · by_cases hb2 : b = a
        · exact .inl hb2
        · exact absurd ((if_neg hb).trans (if_neg hb2)) z
theorem walk_ofT {l : PySem.W.OpenLaw} {n k : Nat} {q : Program} {loose : List Str} {XP : (Str → Option Value) → Heap → Prop} {YP : World → Heap → Prop} {d : DefRec} {K : Params → PySem.W.Frag} {sp : PySem.W.Frag → Sp} {x : Str} {c Pt : Addr}
    (hn : l.most = some n) (hn2 : n ≤ sizeLine) (hdf : d.params.defaults = []) (hr : Room k callerA)
    (hY : ∀ (w : World) (h : Heap), YP w h → (K w.params).In h ∧ h.get? Pt = some (tabObj #[])) (hcd : ∀ p, codeHdIn (K p) c Pt = true) (hkp : ∀ p, (K p).lookup Pt = none)
    (F : ∀ (w : World) (mg : Str → Option Value) (fa : Addr) (h : Heap), (K w.params).In h → h.Ns mainGlobals mg → mg d.name = some (.ref fa) →
      ∃ fd : FuncData, (∀ (s : Shared) (u : Value), BindsTo s fd ⟨[u], []⟩ [(x, u)]) ∧
        ∀ base : Heap, (K w.params).In base → base.Ns mainGlobals mg → CodeHd base c Pt → base.BuiltinsAt mg Pt → mainGlobals ≠ Pt → FnOk l.prog w (K w.params) mg base CX0 k fa fd [x] (sp (K w.params)))
    (hsp : ∀ (K : PySem.W.Frag) (H : Hp) (a : Addr) (ns : List Int), ns.length ≤ n → H Pt = some (.tbl #[]) → SqL K H a (ns.map V.int) → sp K [.ref a] H (fun v _ => v = .bl true) fun _ _ _ => False) :
    PySem.W.WalkO q loose XP YP l.row.toRowW d [] (fun f vs => PySem.call f vs) := by
  refine Att.attach_call hn hdf fun w s₀ s₁ mg mb fa o pm cd doc a vs ns G Y ho hd hcd' hmg hobj hints hlen hg => ?_
  obtain ⟨KX, hPt⟩ := hY w _ Y
  obtain ⟨fd, hb, hF⟩ := F w mg fa _ KX G.T.g hmg
  exact law_callT KX G.T.g G.T.b G.T.builtins G.T.nolimit hg hobj hints (Nat.le_trans hlen hn2) hr (codeHd_of_K KX (hcd w.params)) hPt (hkp w.params) G.T.bmain hF hb fun H hP hS => hsp _ H a ns hlen hP hS
end L2
/-! A def that makes a lambda and tells it. -/
namespace L2
open PySem PySem.Spec PyProof.Rows PySem.W
section
variable {X : Cx} {pins : List (Addr × Obj)} {σ : St} {H : Hp} {s : Shared}
theorem make_okL {E : Value → Shared → Prop} {c P : Addr} {name qual : Str} {params : Arguments} {body : Expr} {scope : Scope} {clos : List (Str × Addr)} {pos : Pos} {fl : Nat} {Q : VK} (I : Inv X pins σ H s) (T : TabA X c P) (hcl : closureFor scope X.env = pure clos) (hT : TabOk H P pos qual)
    (h : ∀ f c' pm ctv H', H f = none → H' f = some (FnO f (kla_fn name qual params body scope clos pm (.ref c') ctv)) → H' c' = some (CodeO c' qual) → TabOk H' P pos qual → Keep [P] H H' → Q (.ref f) H') :
    wpAny (model X.prog X.w) X.A (makeFunction name qual params (.expr body) scope X.env [] [] [] pos fl) (EP X pins σ Q) E s := by
  have hg : s.heap.Ns mainGlobals X.mg := I.mod.glob.keeps I.bk
  rcases hT with e | ⟨c', e, e2⟩
  · have hP : s.heap.get? P = some (tabObj #[]) := I.hok P _ e
    refine kla_makeFunction (ps := #[]) hcl I.ok.glob hg T.code (T.hd.keeps I.bk) hP trivial rfl T.ne (T.bm.keeps I.bk) fun c' ctv h' tk hx hge hlt hrec hP' => ?_
    have hf : s.heap.objs.size ≤ h'.objs.size := Nat.le_of_lt (Nat.lt_of_le_of_lt hge hlt)
    have nc : H c' = none := I.hok.fresh hge
    have nf : H h'.objs.size = none := I.hok.fresh hf
    have ncP : c' ≠ P := fun z => by rw [z, e] at nc; cases nc
    have nfP : h'.objs.size ≠ P := fun z => by rw [z, e] at nf; cases nf
    have nfc : h'.objs.size ≠ c' := Nat.ne_of_gt hlt
    have hP2 : h'.get? P = some (tabObj #[rawInt pos.line, rawInt pos.col, .ref c']) := hP'
    let fd := kla_fn name qual params body scope clos ((X.mg "__name__").getD .none) (.ref c') ctv
    let H1 := upd (upd (upd H P (.tbl #[rawInt pos.line, rawInt pos.col, .ref c'])) c' (CodeO c' qual)) h'.objs.size (FnO h'.objs.size fd)
    have eP : H1 P = some (.tbl #[rawInt pos.line, rawInt pos.col, .ref c']) := by
      show upd _ _ _ P = _
      rw [upd_ne (Ne.symm nfP), upd_ne (Ne.symm ncP), upd_same]
    have ec : H1 c' = some (CodeO c' qual) := by
      show upd _ _ _ c' = _
      rw [upd_ne (Ne.symm nfc), upd_same]
    have ef : H1 h'.objs.size = some (FnO h'.objs.size fd) := upd_same
    have eo : ∀ b, b ≠ P → b ≠ c' → b ≠ h'.objs.size → H1 b = H b := fun b h1 h2 h3 => by
      show upd _ _ _ b = _
      rw [upd_ne h3, upd_ne h2, upd_ne h1]
    have lo : ∀ b o, s.heap.get? b = some o → b ≠ c' ∧ b ≠ h'.objs.size := fun b o q => ⟨Nat.ne_of_lt (Nat.lt_of_lt_of_le (Heap.lt_size q) hge), Nat.ne_of_lt (Nat.lt_of_lt_of_le (Heap.lt_size q) hf)⟩
    have kp : ∀ b o, b ≠ P → s.heap.get? b = some o → (h'.push (kla_obj name qual params body scope clos ((X.mg "__name__").getD .none) c' ctv)).get? b = some o := fun b o hb q => Heap.get?_push_of_some _ (hx b o hb q)
    have tr : ∀ b o, H b = some o → b ≠ c' ∧ b ≠ h'.objs.size := fun b o q => ⟨ne_of_none q nc, ne_of_none q nf⟩
    refine ⟨.ref h'.objs.size, H1, I.call' (ch := []) rfl ?_ ?_ I.bare (fun b z => absurd z (by simp)), rfl, h _ c' _ ctv H1 nf ef ec (.inr ⟨c', eP, ec⟩) fun b o q n => ?_⟩
    · refine ⟨fun b o q n _ _ => kp b o (fun z => by rw [z, e] at n; cases n) q, fun b o q n _ _ => ⟨o.slots, kp b o (fun z => by rw [z, e] at n; cases n) q⟩, fun b o q n _ => ?_, fun b o q _ => ?_, fun b xs q => ?_, fun b o u q => ?_, fun b ps q => ?_⟩
      · rw [eo b (fun z => by rw [z, e] at n; cases n) (lo b o q).1 (lo b o q).2]; exact n
      · by_cases hb : b = P
        · subst hb; exact ⟨_, Heap.get?_push_of_some _ hP2⟩
        · exact ⟨o, kp b o hb q⟩
      · rw [eo b (fun z => by rw [z, e] at q; cases q) (tr b _ q).1 (tr b _ q).2]; exact q
      · rw [eo b (fun z => by rw [z, e] at q; cases q) (tr b _ q).1 (tr b _ q).2]; exact q
      · by_cases hb : b = P
        · subst hb
          rw [e] at q
          cases q
          exact ⟨#[rawInt pos.line, rawInt pos.col, .ref c'], by rw [Array.empty_append]; exact eP⟩
        · rw [eo b hb (tr b _ q).1 (tr b _ q).2]
          exact ⟨#[], by rw [Array.append_empty]; exact q⟩
    · intro b o q
      by_cases hb1 : b = h'.objs.size
      · subst hb1
        rw [ef] at q
        cases q
        exact fnO_ok (Heap.get?_push_size _ rfl) rfl
      · by_cases hb2 : b = c'
        · subst hb2
          rw [ec] at q
          cases q
          exact codeO_ok (codeRec_push hrec)
        · by_cases hb3 : b = P
          · subst hb3
            rw [eP] at q
            cases q
            exact Heap.get?_push_of_some _ hP2
          · rw [eo b hb3 hb2 hb1] at q
            refine (I.hok b o q).stay (fun d u hd z => kp d u ?_ z) (fun d z => ?_) fun d xs z => ?_
            · rcases hd with rfl | hd
              · exact hb3
              · exact fun z => by rw [z, e] at hd; cases hd
            · rw [eo d (fun y => by rw [y, e] at z; cases z) (tr d _ z).1 (tr d _ z).2]; exact z
            · rw [eo d (fun y => by rw [y, e] at z; cases z) (tr d _ z).1 (tr d _ z).2]; exact z
    · rw [eo b (fun z => n (by rw [z]; exact .head _)) (tr b _ q).1 (tr b _ q).2]; exact q
  · have hP : s.heap.get? P = some (tabObj #[rawInt pos.line, rawInt pos.col, .ref c']) := I.hok P _ e
    refine kla_makeFunctionHit (ps := #[rawInt pos.line, rawInt pos.col, .ref c']) (cv := .ref c') hcl I.ok.glob hg T.code (T.hd.keeps I.bk) hP (by simp [TriplesOk, rawInt]) (by simp [codeAmong, rawInt]) (T.bm.keeps I.bk) fun ctv h' tk hk hsz => ?_
    have nf : H h'.objs.size = none := I.hok.fresh hsz
    have s1 : Same H (upd H h'.objs.size (FnO h'.objs.size (kla_fn name qual params body scope clos ((X.mg "__name__").getD .none) (.ref c') ctv))) := Same.upd_new nf
    refine ⟨.ref h'.objs.size, _, I.laid (t' := tk) (fun b u q => Heap.get?_push_of_some _ (hk b u q)) hsz (fnO_ok (Heap.get?_push_size _ rfl) rfl), rfl, h _ c' _ ctv _ nf upd_same (s1 _ _ e2) (.inr ⟨c', s1 _ _ e, s1 _ _ e2⟩) s1.keep⟩
end
/-- a lambda that was made, with the values that it keeps -/
def LamAt (H : Hp) (g qual : Str) (gp : Arguments) (gb : Expr) (gsc : Scope) (fr : List Str) (f : Addr) (ws : List V) : Prop := ∃ c' pm ctv cl, H f = some (FnO f (kla_fn g qual gp gb gsc cl pm (.ref c') ctv)) ∧ H c' = some (CodeO c' qual) ∧
  AreCells H (cl.map (·.2)) ∧ Paired (fun x v => ∃ c, cl.lookup x = some c ∧ H c = some (CellO c v)) fr ws ∧ ∀ x y c, cl.lookup x = some c → cl.lookup y = some c → x = y
section
variable {S : List Addr} {H H' : Hp} {g qual : Str} {gp : Arguments} {gb : Expr} {gsc : Scope} {fr : List Str} {f : Addr} {ws : List V}
theorem LamAt.keep (h : LamAt H g qual gp gb gsc fr f ws) (k : Keep S H H') (hs : ∀ b ∈ S, ∀ φ, H b ≠ some (.ext φ)) : LamAt H' g qual gp gb gsc fr f ws := by
  obtain ⟨c', pm, ctv, cl, h1, h2, h3, h4, h5⟩ := h
  have kk : ∀ b φ, H b = some (.ext φ) → H' b = some (.ext φ) := fun b φ e => k b _ e fun z => hs b z φ e
  refine ⟨c', pm, ctv, cl, kk _ _ h1, kk _ _ h2, fun c hc => ?_, Paired.mapP h4 fun x v ⟨c, e1, e2⟩ => ⟨c, e1, kk _ _ e2⟩, h5⟩
  obtain ⟨v, e⟩ := h3 c hc
  exact ⟨v, kk _ _ e⟩
theorem LamAt.same (h : LamAt H g qual gp gb gsc fr f ws) (s : Same H H') : LamAt H' g qual gp gb gsc fr f ws := h.keep (S := []) s.keep (fun _ z => nomatch z)
theorem LamAt.isFn (h : LamAt H g qual gp gb gsc fr f ws) : IsFn H f := by
  obtain ⟨c', pm, ctv, cl, h1, _⟩ := h
  exact ⟨_, h1⟩
theorem LamAt.runs {P : Program} {w : World} {K : PySem.W.Frag} {mg : Str → Option Value} {base : Heap} {k : Nat} {N ps : List Str} {vs : List V} {Q : VK} (h : LamAt H g qual gp gb gsc fr f ws) (S : CloScope N ps fr gsc)
    (hbind : ∀ (cl : List (Str × Addr)) (pm ctv : Value) (c' : Addr) (us : List Value), us.length = ps.length → bindArgs (kla_fn g qual gp gb gsc cl pm (.ref c') ctv) ⟨us, []⟩ = pure (ps.zip us)) (len : vs.length = ps.length)
    (hbody : ∀ (cs : List Addr) (cl : List (Str × Addr)) (c' : Addr) (A : Around) (outer : List Env) (s : Shared), AreCells H cs → Room k (A.deeper (envX qual gsc s.heap.objs.size f (.ref c') cl)) →
      ∃ t, PE (cxX CX0 P w K mg base N qual gsc f (.ref c') cl A outer s (er cs H) E0) gb t ∧ t (startC N vs ws) (er cs H) fun v H' => Q v (rs cs H H')) : Runs P w K mg base (k + 1) f vs H Q := by
  obtain ⟨c', pm, ctv, cl, h1, h2, h3, h4, h5⟩ := h
  exact lam_runs h1 h2 S h3 h4 h5 (hbind cl pm ctv c') len fun A outer s hr => hbody _ cl c' A outer s h3 hr
end
/-! lists of the same objects -/
theorem vals_refsC : ∀ {fs : List Addr} {us : List Value}, Vals (fs.map V.ref) us → us = fs.map Value.ref
  | [], _, r => by cases r; rfl
  | b :: bs, _, .cons r t => by
    cases r
    rw [vals_refsC t]
    rfl
end L2
/-! d.update(e). -/
namespace L2
open PySem PySem.Spec PyProof.Rows
section
variable {X : Cx} {o e : Expr} {td ty : TE} {apos cpos : Pos}
def tDUp (td ty : TE) : TE := fun σ H Q => td σ H fun x H1 => ∃ a kvs, x = .ref a ∧ H1 a = some (.dK kvs) ∧ ty σ H1 fun y H2 => ∃ b kvs2 more, y = .ref b ∧ H2 a = some (.dK kvs2) ∧ H2 b = some (.dK more) ∧ a ≠ b ∧ kvs2.length + more.length ≤ sizeLine ∧ Q .non (upd H2 a (.dK (mergeK kvs2 more)))
theorem pe_dup (ho : PE X o td) (he : PE X e ty) (m : M1 X o "update" apos e cpos) : PE X (.Call (.Attribute o "update" apos) [e] [] cpos) (tDUp td ty) := by
  intro pins s σ H Q I h
  refine wpAny_Call_method m.base m.few m.line PySem.F.plainAttrs_dict PySem.F.slot_dict_update PySem.F.type_dict_update (thn (ho pins s σ H _ I h) fun u s1 ⟨x, H1, I1, rx, a, kvs, ex, ed, q1⟩ => ?_)
  subst ex
  obtain rfl : u = Value.ref a := rx
  obtain ⟨t1, t2, _⟩ := isD_at I1 (.inl ⟨kvs, .inl ed⟩)
  refine ⟨t1, t2, ?_⟩
  rw [m.trees]
  refine Calls.callWith_builtin rfl (Calls.evalArgs_plain (Calls.spliced_cons (thn (he pins s1 σ H1 _ I1 q1) fun iv s2 ⟨y, H2, I2, ry, b, kvs2, more, ey, ed2, eb2, hab, hl, q2⟩ => Calls.spliced_nil ?_)))
  subst ey
  obtain rfl : iv = Value.ref b := ry
  obtain ⟨hz, hd, vs, rel, dd⟩ := dk_of I2.hok ed2
  obtain ⟨hzb, hdb, ms, relb, ddb⟩ := dk_of I2.hok eb2
  have l1 := rel.length
  have l2 := relb.length
  refine call_meetsIn PySem.F.slot_dict_update dd.typeIs PySem.F.entry_dict_update (PySem.F.args_dict_update_2 _ _) (meets_dict_update (mixKind X.prog X.w) a b hab hdb) ⟨vs, ms, dd, ddb, by omega, fun h' dd' _ hs => ?_⟩
  have hex : ∃ q, h'.get? a = some q := let ⟨q, _, _, hq, _⟩ := dd'; ⟨q, hq⟩
  have hpl := length_mergeK more kvs2
  exact ⟨.non, _, d_write I2 (by rw [ed2]; exact True.intro) hs hex (dk_new (by omega) hd (KV.merge relb rel) dd'), rfl, q2⟩
end
end L2
set_option maxHeartbeats 4000000
/-! max(l, key=f) where f tells a number of each item. -/
namespace L2
open PySem PySem.Spec PyProof.Rows PySem.W
section
variable {X : Cx} {pins : List (Addr × Obj)} {σ : St} {H : Hp} {k : Nat} {f l it S : Addr} {ps : List Addr} {ns : List Int} {Q : VK}
/-- the key is called -/
theorem key_call {s : Shared} {p : Addr} {n : Int} (I : Inv X pins σ H s) (hr : Room (k + 1) X.A) (R : Runs X.prog X.w X.K X.mg X.base k f [.ref p] H fun v H2 => v = .int n ∧ Same H H2) :
    wpAny (model X.prog X.w) X.A.in1 (call (.ref f) [.ref p]) (fun u s' => ∃ t H2, u = .int n t ∧ Inv X pins σ H2 s' ∧ Same H H2) (fun _ _ => False) s := by
  have e0 := I.env0
  refine wpAny_call (codeAny_mono (R X.A.in1 X.stack s [.ref p] hr.in1 ⟨e0.frames, e0.mod, e0.bs, e0.bsz, e0.funs, e0.frf, e0.hok, e0.bare⟩ (.cons rfl .nil)) fun r s' hq => ?_)
  cases r with
  | error e => exact hq.elim
  | ok fl =>
    cases fl with
    | ret u =>
      obtain ⟨v, H2, I2, rv, ev, sm⟩ := I.after hq
      subst ev
      obtain ⟨t, rfl⟩ := rv
      exact ⟨t, H2, rfl, I2, sm⟩
    | next => exact False.elim hq
    | brk => exact False.elim hq
    | cont => exact False.elim hq
/-- what is asked of the loop's end -/
def MkR (X : Cx) (pins : List (Addr × Obj)) (σ : St) (Q : VK) (r : Result) (s' : Shared) : Prop := match r with | .ok (.ret v) => EP X pins σ Q v s' | .ok _ => False | .error e => X.xe e s'
theorem list_refs {s : Shared} (I : Inv X pins σ H s) (hl : H l = some (.lst (ps.map V.ref))) : s.heap.IsList l (ps.map Value.ref).toArray := by
  obtain ⟨its, rv, pl, _⟩ := I.list (SqL.of (K := X.K) hl)
  have e := vals_refsC rv
  rw [← e]
  exact pl.isList
/-- one turn: the next item and its key, with the two objects of the loop as they stand -/
theorem maxk_next {s : Shared} {j c : Nat} {arr : Array Value} {p : Addr} {n : Int} (hr : Room (k + 1) X.A) (ne : it ≠ S) (I : Inv X pins σ H s) (hl : H l = some (.lst (ps.map V.ref))) (hi : s.heap.IsListIter it l j) (hS : s.heap.get? S = some (seqObj "list" arr c))
    (fi : FpOk X pins H it) (fS : FpOk X pins H S) (hp : ps[j]? = some p) (run : Runs X.prog X.w X.K X.mg X.base k f [.ref p] H fun v H2 => v = .int n ∧ Same H H2) :
    ∀ h' tk, (∀ b o, b ∉ [it] → s.heap.get? b = some o → h'.get? b = some o) → h'.IsListIter it l (j + 1) →
    wpAny (model X.prog X.w) X.A.in1 (call (.ref f) [.ref p]) (fun u s' => ∃ t H2, u = .int n t ∧ Inv X pins σ H2 s' ∧ Same H H2 ∧ s'.heap.IsListIter it l (j + 1) ∧ s'.heap.get? S = some (seqObj "list" arr c) ∧ FpOk X pins H2 it ∧ FpOk X pins H2 S) (fun _ _ => False) { s with heap := h', toks := tk } := by
  intro h' tk hk hi'
  have I1 : Inv X pins σ H { s with heap := h', toks := tk } := I.turned (fun b o hb e => hk b o (by simpa using hb) e) fi.1 fi.2.1 fi.2.2.2.1 fi.2.2.2.2.1 fi.2.2.2.2.2
  have hS1 := hk S _ (by simpa using Ne.symm ne) hS
  obtain ⟨oi, goi, hoc, hod⟩ := id hi'
  have I2 := I1.pins_of (pins' := pins ++ [(it, oi), (S, seqObj "list" arr c)]) fun q hq => by
    rcases List.mem_append.mp hq with z | z
    · exact I1.pin q (List.mem_append_right _ z)
    · rcases List.mem_cons.mp z with rfl | z
      · exact ⟨goi, fi.1, fi.2.1, fi.2.2.1, fun v e => by rw [hod] at e; cases e⟩
      · rw [List.mem_singleton] at z
        subst z
        exact ⟨hS1, fS.1, fS.2.1, fS.2.2.1, fun v e => by cases e⟩
  refine wpAny_mono (key_call I2 hr run) (fun u s' ⟨t, H2, e, I3, sm⟩ => ?_) fun _ _ z => z
  have p1 := I3.pin (it, oi) (List.mem_append_right _ (List.mem_append_right _ (.head _)))
  have p2 := I3.pin (S, seqObj "list" arr c) (List.mem_append_right _ (List.mem_append_right _ (.tail _ (.head _))))
  exact ⟨t, H2, e, I3.unpinned, sm, ⟨oi, p1.1, hoc, hod⟩, p2.1, ⟨p1.2.1, fi.2⟩, ⟨p2.2.1, fS.2⟩⟩
/-- the best so far -/
def Bst (ns : List Int) (j i : Nat) (nb : Int) : Prop := ns[i]? = some nb ∧ i ≤ j ∧ ∀ j' m, j' ≤ j → ns[j']? = some m → m ≤ nb ∧ (j' < i → m < nb)
theorem maxk_loop (hc : X.calm = true) (hr : Room (k + 1) X.A) (ne : it ≠ S) (hl : H l = some (.lst (ps.map V.ref))) (hln : ns.length = ps.length)
    (run : ∀ (H' : Hp) (i : Nat) (p : Addr) (n : Int), Same H H' → ps[i]? = some p → ns[i]? = some n → Runs X.prog X.w X.K X.mg X.base k f [.ref p] H' fun v H2 => v = .int n ∧ Same H' H2)
    (q : ∀ (H' : Hp) (i : Nat) (p : Addr) (n : Int), Same H H' → ps[i]? = some p → Bst ns (ps.length - 1) i n → Q (.ref p) H') :
    ∀ (r j i : Nat) (H' : Hp) (s : Shared) (pb : Addr) (nb : Int) (tb : Tok) (c : Nat), ps.length - (j + 1) = r → j + 1 ≤ ps.length → Inv X pins σ H' s → Same H H' → s.heap.IsListIter it l (j + 1) → s.heap.get? S = some (seqObj "list" #[.ref pb, .int nb tb] c) →
      FpOk X pins H' it → FpOk X pins H' S → ps[i]? = some pb → Bst ns j i nb → codeAny (model X.prog X.w) X.A (.builtin "max.loop" ⟨[.ref it, .ref f, .ref S], []⟩) (MkR X pins σ Q) s := by
  have hname : ("max" ++ ".loop" : String) = "max.loop" := by decide
  have hh : X.A.in1.handled = none := hr.hd
  intro r
  induction r with
  | zero =>
    intro j i H' s pb nb tb c e1 hj I sm hi hS fi fS hb best
    have ej : j + 1 = ps.length := by omega
    have hli : l ≠ it := ne_of_none (sm _ _ hl) fi.1
    have W := Walks.list (prog := X.prog) (w := X.w) (A := X.A.in1) hh it l hli (ps.map Value.ref).toArray
    have hsz : (ps.map Value.ref).toArray.size = ps.length := by simp
    refine codeAny_builtin PySem.F.entry_max_loop ?_
    rw [Around.under_plainId PySem.F.plain_max_loop _]
    change wpAny _ X.A.in1 (seqItems? (.ref S) >>= _) _ _ _
    refine wpAny_bind (wpAny_seqItems hS rfl ?_)
    change wpAny _ X.A.in1 (tryCatch (pyNext (.ref it)) _ >>= _) _ _ _
    refine wpAny_bind (wpAny_tryCatch (W.done _ _ _ ⟨by rw [hsz, ← ej]; exact hi, list_refs I (sm _ _ hl)⟩ fun h' tk' hk' => ?_))
    have I1 : Inv X pins σ H' { s with heap := h', toks := tk' } := I.turned (fun b o hb e => hk' b o (by simpa using hb) e) fi.1 fi.2.1 fi.2.2.2.1 fi.2.2.2.2.1 fi.2.2.2.2.2
    have hS1 := hk' S _ (by simpa using Ne.symm ne) hS
    have s1 := Heap.SameBut.update h' S (Obj.mapSeq fun _ => (#[] : Array Value))
    change wpAny _ X.A.in1 (updateSeq S (fun _ => #[]) >>= _) _ _ _
    refine wpAny_bind ?_
    refine wpAny_updateSeq hS1 rfl (wpAny_bind (wpAny_letGo (wpAny_pure ?_)))
    have I2 : Inv X pins σ H' { s with heap := h'.update S (Obj.mapSeq fun _ => (#[] : Array Value)), toks := tk' } := I1.turned (t' := tk') (fun b o hb e => (s1.2 b hb).trans e) fS.1 fS.2.1 fS.2.2.2.1 fS.2.2.2.2.1 fS.2.2.2.2.2
    exact ⟨.ref pb, H', I2, rfl, q H' i pb nb sm hb (by rw [← ej]; exact best)⟩
  | succ r ih =>
    intro j i H' s pb nb tb c e1 hj I sm hi hS fi fS hb best
    have hlt : j + 1 < ps.length := by omega
    have hli : l ≠ it := ne_of_none (sm _ _ hl) fi.1
    have W := Walks.list (prog := X.prog) (w := X.w) (A := X.A.in1) hh it l hli (ps.map Value.ref).toArray
    have hsz : (ps.map Value.ref).toArray.size = ps.length := by simp
    refine codeAny_builtin PySem.F.entry_max_loop ?_
    rw [Around.under_plainId PySem.F.plain_max_loop _]
    change wpAny _ X.A.in1 (seqItems? (.ref S) >>= _) _ _ _
    refine wpAny_bind (wpAny_seqItems hS rfl ?_)
    change wpAny _ X.A.in1 (tryCatch (pyNext (.ref it)) _ >>= _) _ _ _
    refine wpAny_bind (wpAny_tryCatch (W.item (j + 1) _ _ _ (by rw [hsz]; exact hlt) ⟨hi, list_refs I (sm _ _ hl)⟩ fun v h' tk' hP hst' hk' => ?_))
    have hv : (ps.map Value.ref)[j + 1]? = some v := by simpa using hP
    rw [List.getElem?_map] at hv
    obtain ⟨p1, hp1, rfl⟩ := Option.map_eq_some_iff.mp hv
    obtain ⟨n1, hn1⟩ : ∃ n1, ns[j + 1]? = some n1 := ⟨_, List.getElem?_eq_getElem (by omega)⟩
    change wpAny _ X.A.in1 (tryCatch (holding [Value.ref p1] (call (.ref f) [Value.ref p1])) _ >>= _) _ _ _
    refine wpAny_bind (wpAny_tryCatch (wpAny_holding (wpAny_mono (maxk_next hr ne I (sm _ _ hl) hi hS fi fS hp1 (run H' _ _ _ sm hp1 hn1) h' tk' hk' hst'.1) (fun x s2 he => ?_) fun _ _ hF => hF.elim)))
    obtain ⟨t2, H2, rfl, I2, sm2, hi2, hS2, fi2, fS2⟩ := he
    have smm := sm.trans sm2
    change wpAny _ X.A.in1 (tryCatch (holding [Value.ref p1, .int n1 t2] (richCompare .Gt (.int n1 t2) (.int nb tb) >>= _)) _ >>= _) _ _ _
    refine wpAny_bind (wpAny_tryCatch (wpAny_holding (wpAny_bind (CmpOf.ints_gt (prog := X.prog) (w := X.w) (A := X.A.in1) (P := fun i v => ∃ t, v = .int (if i = 0 then n1 else nb) t) (fun i => if i = 0 then n1 else nb) (fun i v h => h) 0 1 _ _ _ _ _ ⟨t2, rfl⟩ ⟨tb, rfl⟩ ?_))))
    refine wpAny_bind (wpAny_holding (wpAny_truthy_bool ?_))
    refine wpAny_bind (wpAny_letGo (wpAny_pure ?_))
    by_cases hgt : n1 > nb
    · have s1 := Heap.SameBut.update s2.heap S (Obj.mapSeq fun _ => #[Value.ref p1, .int n1 t2])
      obtain ⟨c2, hc2⟩ : ∃ c2, (s2.heap.update S (Obj.mapSeq fun _ => #[Value.ref p1, .int n1 t2])).get? S = some (seqObj "list" #[Value.ref p1, .int n1 t2] c2) := ⟨_, get?_update_seq hS2 fun _ => #[Value.ref p1, .int n1 t2]⟩
      have hd : decide ((if (0 : Nat) = 0 then n1 else nb) > if (1 : Nat) = 0 then n1 else nb) = true := by simpa using hgt
      rw [if_pos hd]
      refine wpAny_bind ?_
      refine wpAny_updateSeq hS2 rfl (wpAny_bind (wpAny_letGo ?_))
      have I3 : Inv X pins σ H2 { s2 with heap := s2.heap.update S (Obj.mapSeq fun _ => #[Value.ref p1, .int n1 t2]) } := I2.turned (t' := s2.toks) (fun b o hb e => (s1.2 b hb).trans e) fS2.1 fS2.2.1 fS2.2.2.2.1 fS2.2.2.2.2.1 fS2.2.2.2.2.2
      obtain ⟨oi, goi, hoc, hod⟩ := id hi2
      refine wpAny_pure ⟨plainId_quiet PySem.F.plain_max_loop _, ih (j + 1) (j + 1) H2 _ p1 n1 t2 c2 (by omega) hlt I3 smm ⟨oi, (s1.2 it ne).trans goi, hoc, hod⟩ hc2 fi2 fS2 hp1 ⟨hn1, Nat.le_refl _, fun j' m h1 h2 => ?_⟩⟩
      by_cases e : j' = j + 1
      · subst e
        rw [hn1] at h2
        cases h2
        exact ⟨Int.le_refl _, fun z => absurd z (Nat.lt_irrefl _)⟩
      · have := (best.2.2 j' m (by omega) h2).1
        exact ⟨by omega, fun _ => by omega⟩
    · have hd : ¬ decide ((if (0 : Nat) = 0 then n1 else nb) > if (1 : Nat) = 0 then n1 else nb) = true := by simpa using hgt
      rw [if_neg hd]
      refine wpAny_bind (wpAny_letGo ?_)
      refine wpAny_pure ⟨plainId_quiet PySem.F.plain_max_loop _, ih (j + 1) i H2 _ pb nb tb c (by omega) hlt I2 smm hi2 hS2 fi2 fS2 hb ⟨best.1, Nat.le_succ_of_le best.2.1, fun j' m h1 h2 => ?_⟩⟩
      by_cases e : j' = j + 1
      · subst e
        rw [hn1] at h2
        cases h2
        have := best.2.1
        exact ⟨by omega, fun z => by omega⟩
      · exact best.2.2 j' m (by omega) h2
theorem call_maxK {s : Shared} (hc : X.calm = true) (hr : Room (k + 1) X.A) (I : Inv X pins σ H s) (hl : H l = some (.lst (ps.map V.ref))) (hne : 0 < ps.length) (hln : ns.length = ps.length)
    (run : ∀ (H' : Hp) (i : Nat) (p : Addr) (n : Int), Same H H' → ps[i]? = some p → ns[i]? = some n → Runs X.prog X.w X.K X.mg X.base k f [.ref p] H' fun v H2 => v = .int n ∧ Same H' H2)
    (q : ∀ (H' : Hp) (i : Nat) (p : Addr) (n : Int), Same H H' → ps[i]? = some p → Bst ns (ps.length - 1) i n → Q (.ref p) H') :
    wpAny (model X.prog X.w) X.A (call (.builtin "max") [.ref l] [(Str.ofString "key", .ref f)]) (EP X pins σ Q) X.xe s := by
  have hh : X.A.in1.handled = none := hr.hd
  have hls := list_refs I hl
  refine kmk_tree PySem.F.kind_max PySem.F.plain_max PySem.F.entry_max (kmk_max_key _ _) ?_
  change wpAny _ X.A.in1 (Builtin.Builtins.bindParams "max" ["key", "default"] 0 ⟨[], [(Str.ofString "key", .ref f)]⟩ >>= _) _ _ s
  refine wpAny_bind (wpAny_of_eq (a := [some (Value.ref f), none]) rfl ?_)
  refine wpAny_bind (wpAny_pure ?_)
  refine wpAny_bind (wpAny_pyIter_list hls ?_)
  refine wpAny_bind (wpAny_newList ?_ (Nat.zero_le _))
  have gi : ((s.heap.push { cls := .type "list_iterator", data := .fields #[.ref l, .int 0 0] }).push (seqObj "list" #[] 0)).get? s.heap.objs.size = some { cls := .type "list_iterator", data := .fields #[.ref l, .int 0 0] } := Heap.get?_push_of_some _ (Heap.get?_push_size _ rfl)
  have gS : ((s.heap.push { cls := .type "list_iterator", data := .fields #[.ref l, .int 0 0] }).push (seqObj "list" #[] 0)).get? (s.heap.push { cls := .type "list_iterator", data := .fields #[.ref l, .int 0 0] }).objs.size = some (seqObj "list" #[] 0) := Heap.get?_push_size _ rfl
  have I1 : Inv X pins σ H { s with heap := (s.heap.push { cls := .type "list_iterator", data := .fields #[.ref l, .int 0 0] }).push (seqObj "list" #[] 0) } := I.kept (t' := s.toks) fun b o e => Heap.get?_push_of_some _ (Heap.get?_push_of_some _ e)
  have hsS : (s.heap.push { cls := .type "list_iterator", data := .fields #[.ref l, .int 0 0] }).objs.size = s.heap.objs.size + 1 := size_push' ..
  have fi : FpOk X pins H s.heap.objs.size := I.fpOk (Nat.le_refl _) (I.hok.fresh (Nat.le_refl _))
  have hge : s.heap.objs.size ≤ (s.heap.push { cls := .type "list_iterator", data := .fields #[.ref l, .int 0 0] }).objs.size := by rw [hsS]; exact Nat.le_succ _
  have fS : FpOk X pins H (s.heap.push { cls := .type "list_iterator", data := .fields #[.ref l, .int 0 0] }).objs.size := I.fpOk hge (I.hok.fresh hge)
  have ne : s.heap.objs.size ≠ (s.heap.push { cls := .type "list_iterator", data := .fields #[.ref l, .int 0 0] }).objs.size := by rw [hsS]; exact Nat.ne_of_lt (Nat.lt_succ_self _)
  generalize (s.heap.push { cls := .type "list_iterator", data := .fields #[.ref l, .int 0 0] }).objs.size = S at gS fS ne ⊢
  generalize s.heap.objs.size = it at gi fi ne ⊢
  change wpAny _ X.A.in1 _ _ _ { s with heap := (s.heap.push { cls := .type "list_iterator", data := .fields #[.ref l, .int 0 0] }).push (seqObj "list" #[] 0) }
  generalize (s.heap.push { cls := .type "list_iterator", data := .fields #[.ref l, .int 0 0] }).push (seqObj "list" #[] 0) = h1 at gi gS I1 ⊢
  refine wpAny_pure ⟨plainId_quiet PySem.F.plain_max_loop _, ?_⟩
  change codeAny (model X.prog X.w) X.A (.builtin "max.loop" ⟨[.ref it, .ref f, .ref S], []⟩) (MkR X pins σ Q) { s with heap := h1 }
  have hli : l ≠ it := ne_of_none hl fi.1
  have W := Walks.list (prog := X.prog) (w := X.w) (A := X.A.in1) hh it l hli (ps.map Value.ref).toArray
  have hsz : (ps.map Value.ref).toArray.size = ps.length := by simp
  have hi0 : h1.IsListIter it l 0 := ⟨_, gi, rfl, rfl⟩
  refine codeAny_builtin PySem.F.entry_max_loop ?_
  rw [Around.under_plainId PySem.F.plain_max_loop _]
  change wpAny _ X.A.in1 (seqItems? (.ref S) >>= _) _ _ _
  refine wpAny_bind (wpAny_seqItems gS rfl ?_)
  change wpAny _ X.A.in1 (tryCatch (pyNext (.ref it)) _ >>= _) _ _ _
  refine wpAny_bind (wpAny_tryCatch (W.item 0 _ _ _ (by rw [hsz]; exact hne) ⟨hi0, list_refs I1 hl⟩ fun v h' tk' hP hst' hk' => ?_))
  have hv : (ps.map Value.ref)[0]? = some v := by simpa using hP
  rw [List.getElem?_map] at hv
  obtain ⟨p1, hp1, rfl⟩ := Option.map_eq_some_iff.mp hv
  obtain ⟨n1, hn1⟩ : ∃ n1, ns[0]? = some n1 := ⟨_, List.getElem?_eq_getElem (by omega)⟩
  change wpAny _ X.A.in1 (tryCatch (holding [Value.ref p1] (call (.ref f) [Value.ref p1])) _ >>= _) _ _ _
  refine wpAny_bind (wpAny_tryCatch (wpAny_holding (wpAny_mono (maxk_next hr ne I1 hl hi0 gS fi fS hp1 (run H _ _ _ (.refl _) hp1 hn1) h' tk' hk' hst'.1) (fun x s2 he => ?_) fun _ _ hF => hF.elim)))
  obtain ⟨t2, H2, rfl, I2, sm2, hi2, hS2, fi2, fS2⟩ := he
  have s1 := Heap.SameBut.update s2.heap S (Obj.mapSeq fun _ => #[Value.ref p1, .int n1 t2])
  obtain ⟨c2, hc2⟩ : ∃ c2, (s2.heap.update S (Obj.mapSeq fun _ => #[Value.ref p1, .int n1 t2])).get? S = some (seqObj "list" #[Value.ref p1, .int n1 t2] c2) := ⟨_, get?_update_seq hS2 fun _ => #[Value.ref p1, .int n1 t2]⟩
  change wpAny _ X.A.in1 (updateSeq S (fun _ => #[Value.ref p1, .int n1 t2]) >>= _) _ _ _
  refine wpAny_bind ?_
  refine wpAny_updateSeq hS2 rfl ?_
  have I3 : Inv X pins σ H2 { s2 with heap := s2.heap.update S (Obj.mapSeq fun _ => #[Value.ref p1, .int n1 t2]) } := I2.turned (t' := s2.toks) (fun b o hb e => (s1.2 b hb).trans e) fS2.1 fS2.2.1 fS2.2.2.2.1 fS2.2.2.2.2.1 fS2.2.2.2.2.2
  obtain ⟨oi, goi, hoc, hod⟩ := id hi2
  refine wpAny_pure ⟨plainId_quiet PySem.F.plain_max_loop _, maxk_loop hc hr ne hl hln run q _ 0 0 H2 _ p1 n1 t2 c2 rfl hne I3 sm2 ⟨oi, (s1.2 it ne).trans goi, hoc, hod⟩ hc2 fi2 fS2 hp1 ⟨hn1, Nat.le_refl _, fun j' m h1 h2 => ?_⟩⟩
  have e : j' = 0 := by omega
  subst e
  rw [hn1] at h2
  cases h2
  exact ⟨Int.le_refl _, fun z => absurd z (Nat.lt_irrefl _)⟩
end
/-- max(e, key=lambda ..): the lambda keeps nothing -/
def tMaxK (P : Program) (w : World) (K : PySem.W.Frag) (mg : Str → Option Value) (base : Heap) (k : Nat) (Pt : Addr) (lp : Pos) (qual : Str) (gp : Arguments) (gb : Expr) (gsc : Scope) (tl : TE) : TE := fun σ H Q => tl σ H fun x H1 => TabOk H1 Pt lp qual ∧
  ∀ f H2, H1 f = none → LamAt H2 "<lambda>" qual gp gb gsc [] f [] → TabOk H2 Pt lp qual → Keep [Pt] H1 H2 → ∃ (l : Addr) (ps : List Addr) (ns : List Int), x = .ref l ∧ H2 l = some (.lst (ps.map V.ref)) ∧ 0 < ps.length ∧ ns.length = ps.length ∧
    (∀ (H' : Hp) (i : Nat) (p : Addr) (n : Int), Same H2 H' → ps[i]? = some p → ns[i]? = some n → Runs P w K mg base k f [.ref p] H' fun v H3 => v = .int n ∧ Same H' H3) ∧
    ∀ (H' : Hp) (i : Nat) (p : Addr) (n : Int), Same H2 H' → ps[i]? = some p → Bst ns (ps.length - 1) i n → Q (.ref p) H'
section
variable {X : Cx} {k : Nat}
theorem pe_maxk {c Pt : Addr} {lp kp p pos : Pos} {qual : Str} {gp : Arguments} {gb : Expr} {gsc : Scope} {e : Expr} {tl : TE} (he : PE X e tl) (T : TabA X c Pt) (hr : Room (k + 1) X.A) (hc : X.calm = true) (hg : Gl X "max") (hm : X.mg "max" = none) (hdf : ∀ env, defaultsOf gp env = ([], [])) (hcl : closureFor gsc X.env = pure []) (hq : X.env.qual ++ "<lambda>" = qual)
    (h1 : backTo pos (starEach [e] X.env) = (false, eval e X.env) :: backTo pos (starEach [] X.env) := by rfl) (h2 : (backTo pos (starEach [e] X.env)).any (·.1) = false := by rfl) :
    PE X (.Call (.Name "max" p) [e] [⟨some "key", .Lambda gp gb gsc lp, kp⟩] pos) (tMaxK X.prog X.w X.K X.mg X.base k Pt lp qual gp gb gsc tl) := by
  intro pins s σ H Q I h
  refine wpAny_Call_Name_kw (ld_blt I hg hm (u := .builtin "max") bt_max ?_)
  refine PyProof.Rows.callWith_kw ?_ h1 h2
  rw [h1]
  refine Calls.spliced_cons (thn (he pins s σ H _ I h) fun u s1 ⟨x, H1, I1, rx, hT, q1⟩ => Calls.spliced_nil ?_)
  refine kws_cons (kla_eval (hdf _) ?_)
  rw [hq]
  refine thn (make_okL (Q := fun v H2 => ∃ f, v = .ref f ∧ H1 f = none ∧ LamAt H2 "<lambda>" qual gp gb gsc [] f [] ∧ TabOk H2 Pt lp qual ∧ Keep [Pt] H1 H2) I1 T hcl hT fun f c' pm ctv H2 n1 e1 e2 t2 kk => ⟨f, rfl, n1, ⟨c', pm, ctv, [], e1, e2, (fun z hz => nomatch hz), .nil, (fun y z c3 e3 => nomatch e3)⟩, t2, kk⟩) fun u2 s2 ⟨v, H2, I2, rv, f, ev, n1, la, t2, kk⟩ => ?_
  subst ev
  obtain rfl : u2 = Value.ref f := rv
  refine kws_nil ?_
  obtain ⟨l, ps, ns, ex, hl, hp, hn, run, fin⟩ := q1 f H2 n1 la t2 kk
  subst ex
  obtain rfl : u = Value.ref l := rx
  exact call_maxK hc hr I2 hl hp hn run fin
end
theorem Def.ownT {P : Program} {w : World} {K : PySem.W.Frag} {mg : Str → Option Value} {base : Heap} {x : Str} {st : Stmt} {N ps : List Str} {k : Nat} {sp : Sp} {c Pt : Addr} (D : Def K mg x st) (S : FnScope N ps (defScope st))
    (hb : ∀ (kV doc pm : Value) (an : Option Addr) (cdv ct : Value) (us : List Value), us.length = ps.length → bindArgs (PySem.W.fnOf x x (defArgs st) (defBody st) (defScope st) .none kV doc pm an cdv ct) ⟨us, []⟩ = pure (ps.zip us))
    (len : ∀ vs H Q E, sp vs H Q E → vs.length = ps.length) (KX : K.In base) (G : base.Ns mainGlobals mg) (ht : tabIn K x = some (c, Pt))
    (hbody : ∀ (f : Addr) (A : Around) (outer : List Env) (s : Shared) (H : Hp) (vs : List V) (Q : VK) (E : XK), Room k (A.deeper (envOfC x (defScope st) s.heap.objs.size f (.ref c))) → sp vs H Q E →
      ∃ t, PSs (cxOf CX0 P w K mg base N x (defScope st) f (.ref c) A outer s H E).nox (defBody st) t ∧ t { nx := fun _ H' => Q .non H', rt := Q } (start N vs) H) : Own P w K mg base (k + 1) x ps sp := by
  obtain ⟨f, fd, hm, F⟩ := D
  refine ⟨f, fd, hm, F.kp, F.binds hb, ?_⟩
  obtain ⟨oc, od, kV, doc, pm, an, cdv, ct, osl, rfl, lk, hcd⟩ := F.ex
  have hcode : cdv = .ref c := law_code KX G ht hm (KX _ _ lk) rfl
  subst hcode
  refine fn_of lk hcd S len fun A outer s H vs Q E hr hsp => ?_
  obtain ⟨t, h, q⟩ := hbody f A outer s H vs Q E hr hsp
  exact ⟨t, h.nox, q⟩
end L2
namespace K58
open PySem L2
def top (i : Nat) : Stmt := PySem.Challenge.pw_roadnet_k58_whole_names_however_late.main.body.getD i (.Pass ⟨0, 0, 0, 0⟩)
section
variable {P : Program} {w : World} {K : PySem.W.Frag} {mg : Str → Option Value} {base : Heap} {C : Addr}
abbrev s_is_text_of : Stmt := top 6
theorem sc_is_text_of : FnScope ["thing", "most", "first", "last"] ["thing", "most", "first", "last"] (defScope s_is_text_of) := ⟨rfl, rfl, rfl, by decide +kernel, rfl, by decide +kernel, by decide +kernel⟩
theorem cs_is_text_of_0 : CScope ["sign"] ["first", "last"] { kind := .function, names := [(".0", .local), ("sign", .local), ("first", .free), ("last", .free)], isGenerator := false, isCoroutine := false, more := [] } (defScope s_is_text_of) := ⟨rfl, by decide +kernel, by decide +kernel, by decide +kernel, by decide +kernel, by decide +kernel⟩
/-! ### texts of signs -/
def inB (f l c : Nat) : Bool := decide (f ≤ c) && decide (c ≤ l)
def txt (z : Str) (most f l : Nat) : Bool := decide (1 ≤ z.length) && decide (z.length ≤ most) && z.cps.toList.all (inB f l)
/-- a text of one sign -/
def one (c : Nat) : Str := ⟨#[c]⟩
theorem lt_one {a b : Nat} : decide ((one a).cps.toList < (one b).cps.toList) = decide (a < b) := by
  simp [one, List.cons_lt_cons_iff]
def sp_text : Sp := fun vs H Q _ => ∃ (v : V) (m f l : Nat) (t : String), vs = [v, .int m, .str (one f), .str (one l)] ∧ m ≤ 1000 ∧ tyX H v = some t ∧ (∀ z, v = .str z → z.length ≤ 100000) ∧
  ∀ H', Same H H' → Q (.bl (match v with | .str z => txt z m f l | _ => false)) H'
theorem own_text (D : Def K mg "is_text_of" s_is_text_of) (hb : Blt mg) : Own P w K mg base 1 "is_text_of" ["thing", "most", "first", "last"] sp_text := by
  refine D.own sc_is_text_of (fun _ _ _ _ _ _ us hl => match us, hl with | [_, _, _, _], _ => rfl) (fun vs H Q E h => ?_) (fun fn cdv A outer s H vs Q E hr h => ?_)
  · obtain ⟨v, m, f, l, t, rfl, _⟩ := h
    rfl
  · obtain ⟨v, m, f, l, t, rfl, hm, ht, hz, q⟩ := h
    have hu := hr.units
    refine ⟨_, (@pss_cons _ _ _ _ _ (@ps_if _ _ _ _ _ _ _ _ (@PW.pt _ _ _ (@pw_or _ _ _ _ _ _ _ (@pt_not _ _ _ _ (@pt_truX _ _ _ (@pe_callB _ _ _ _ _ _ _ _ _ call_isiX rfl (hb _ (by decide)) bt_isinstance (@pa_cX _ _ _ _ _ (@pv _ 0 _ _ (by rfl) (by first | exact Or.inl rfl | exact Or.inr (Or.inl rfl) | exact Or.inr (Or.inr rfl)) (by decide) (by decide)) (@pa_cX _ _ _ _ _ (@pe_bltn _ _ (.ty "str") _ _ rfl (hb _ (by decide)) bt_str rfl (by decide) (by decide)) (@pa_nil _) (by rfl)) (by rfl)) (by decide) (by decide) (by rfl) (by rfl)) (by intro _; rfl))) (@pw_or1 _ _ _ _ (@pt_not _ _ _ _ (@pt_chain _ _ _ _ _ _ _ _ _ _ _ _ op_le op_le (@pe_int _ _ _ _) (@pe_callB _ _ _ _ _ _ _ _ _ call_lenX rfl (hb _ (by decide)) bt_len (@pa_cX _ _ _ _ _ (@pv _ 0 _ _ (by rfl) (by first | exact Or.inl rfl | exact Or.inr (Or.inl rfl) | exact Or.inr (Or.inr rfl)) (by decide) (by decide)) (@pa_nil _) (by rfl)) (by decide) (by decide) (by rfl) (by rfl)) (@pv _ 1 _ _ (by rfl) (by first | exact Or.inl rfl | exact Or.inr (Or.inl rfl) | exact Or.inr (Or.inr rfl)) (by decide) (by decide)) (by with_unfolding_all rfl)))))) (@pss_one _ _ _ (@ps_ret _ _ _ _ (@pe_bl _ _ _ _))) (@pss_nil _)) (@pss_one _ _ _ (@ps_ret _ _ _ _ (@pe_callB _ _ _ _ _ _ _ _ _ (call_allX rfl) rfl (hb _ (by decide)) bt_all (@pa_cX _ _ _ _ _ (@pe_comp _ _ _ _ _ _ _ _ _ _ _ ["sign"] ["first", "last"] [2, 3] rfl _ cs_is_text_of_0 (@pi_str _ _ _ _ (@pv _ 0 _ _ (by rfl) (by first | exact Or.inl rfl | exact Or.inr (Or.inl rfl) | exact Or.inr (Or.inr rfl)) (by decide) (by decide))) (fun _ _ _ _ => (@pg_name _ _ 0 _ cs_is_text_of_0.nd rfl (by first | exact Or.inl rfl | exact Or.inr rfl) (by first | exact .inl rfl | exact .inr rfl | assumption))) (fun _ _ _ _ => (@pf_nil _)) (fun _ _ _ _ => (@pe_chain _ _ _ _ _ _ _ _ _ _ _ _ op_leS op_leS (@pv _ 1 _ _ (by rfl) (by first | exact Or.inl rfl | exact Or.inr (Or.inl rfl) | exact Or.inr (Or.inr rfl)) (by decide) (by decide)) (@pv _ 0 _ _ (by rfl) (by first | exact Or.inl rfl | exact Or.inr (Or.inl rfl) | exact Or.inr (Or.inr rfl)) (by decide) (by decide)) (@pv _ 2 _ _ (by rfl) (by first | exact Or.inl rfl | exact Or.inr (Or.inl rfl) | exact Or.inr (Or.inr rfl)) (by decide) (by decide)) (by with_unfolding_all rfl))) (by rfl) (by rfl) (by rfl) (by intro _; rfl)) (@pa_nil _) (by rfl)) (by decide) (by decide) (by rfl) (by rfl))))), ?_⟩
    by_cases hv : ∃ z, v = .str z
    · obtain ⟨z, rfl⟩ := hv
      have hz' := hz z rfl
      have hzl : z.length ≤ sizeLine := by rw [sizeLine_eq]; omega
      simp (maxSteps := 1000000) only [tComp_eq, rAllX, iStr, rIsIX, tyX_s, V.ty.injEq, kT_stst, rLenX, lenX_s', tTruX, truX_b, Nat.reduceSub, Nat.reduceAdd, V.ty.injEq, Bool.not_true, Bool.not_false, List.cons.injEq, tSeq, exists_and_left, if_false, if_true, Bool.false_eq_true, tIfS, tOr, tNot, tTest, tVar, tC, rI0, tRet, tNext, tCons, tNil, tCB, tChain, L2.start, List.map_cons, List.map_nil, List.length_cons, List.length_nil, List.replicate, List.getElem?_cons_zero, List.getElem?_cons_succ, Option.some.injEq, exists_eq_left', V.int.injEq, V.bl.injEq, V.str.injEq, and_true, and_assoc, List.append_nil, hzl]
      have e1 : decide (1 ≤ (z.length : Int)) = decide (1 ≤ z.length) := by apply decide_eq_decide.mpr; omega
      have e2 : decide ((z.length : Int) ≤ (m : Int)) = decide (z.length ≤ m) := by apply decide_eq_decide.mpr; omega
      rw [e1, e2]
      have q' := q
      simp only [txt] at q'
      by_cases h1 : 1 ≤ z.length
      · rw [decide_eq_true h1] at q' ⊢
        by_cases h2 : z.length ≤ m
        · rw [decide_eq_true h2] at q' ⊢
          refine iteT (iteF (comp_itvP (by rw [signs_len]; omega) (fun x => .bl (match x with | .str y => inB f l (y.cps.getD 0 0) | _ => false)) ?_ ?_ (gName_mono 0)))
          · intro H1 x Q' hx s1 hq
            obtain ⟨c, hc, rfl⟩ := List.mem_map.mp hx
            have ec : (⟨#[c]⟩ : Str) = one c := rfl
            simp only [ec] at hq ⊢
            simp (maxSteps := 1000000) only [rLeS, cSt, List.drop_succ_cons, List.drop_zero, exists_and_left, tVar, gName, tChain, List.map_cons, List.map_nil, List.replicate, List.cons_append, List.nil_append, List.getElem?_cons_zero, List.getElem?_cons_succ, List.set_cons_zero, Option.some.injEq, exists_eq_left', V.bl.injEq, V.str.injEq, true_and, List.map_cons, List.map_nil, Option.join_some, tChain, lt_one]
            have hq' : Q' (.bl (inB f l c)) H1 := hq
            unfold inB at hq'
            by_cases g1 : f ≤ c
            · rw [decide_eq_true g1, Bool.true_and] at hq'
              rw [decide_eq_false (by omega : ¬ c < f)]
              have : (!decide (l < c)) = decide (c ≤ l) := by by_cases g2 : c ≤ l <;> simp [g2] <;> omega
              simpa [this] using hq'
            · rw [decide_eq_false g1, Bool.false_and] at hq'
              rw [decide_eq_true (by omega : c < f)]
              simpa using hq'
          · intro D hD
            refine ⟨D, rfl, z.cps.toList.map (inB f l), ?_, ?_⟩
            · rw [upd_same]
              simp [signs]
            · have e3 : (z.cps.toList.map (inB f l)).all id = z.cps.toList.all (inB f l) := by simp [List.all_map]
              rw [e3]
              simpa using q' _ (Same.upd_new hD)
        · rw [decide_eq_false h2] at q' ⊢
          exact iteT (iteT (by simpa using q' H fun _ _ e => e))
      · rw [decide_eq_false h1] at q' ⊢
        exact iteF (by simpa using q' H fun _ _ e => e)
    · have q' := q H fun _ _ e => e
      have hk : kT t "str" = some false := by
        cases v with
        | non => cases ht; rfl
        | bl b => cases ht; rfl
        | int i => cases ht; rfl
        | str z => exact absurd ⟨z, rfl⟩ hv
        | ref p =>
          rw [tyX_r] at ht
          cases e : H p with
          | none => rw [e] at ht; cases ht
          | some o =>
            rw [e] at ht
            cases o <;> first | (cases ht; rfl) | cases ht
        | _ => cases ht
      simp (maxSteps := 1000000) only [tComp_eq, rAllX, iStr, rIsIX, V.ty.injEq, rLenX, tTruX, truX_b, Nat.reduceSub, Nat.reduceAdd, V.ty.injEq, Bool.not_false, List.cons.injEq, tSeq, exists_and_left, if_true, tIfS, tOr, tNot, tTest, tVar, tC, rI0, tRet, tNext, tCons, tNil, tCB, tChain, L2.start, List.map_cons, List.map_nil, List.length_cons, List.length_nil, List.replicate, List.getElem?_cons_zero, List.getElem?_cons_succ, Option.some.injEq, exists_eq_left', V.int.injEq, V.bl.injEq, and_true, and_assoc, List.append_nil, ht, hk]
      cases v <;> first | exact q' | exact absurd ⟨_, rfl⟩ hv
abbrev at_Book : List Str := ["last_told", "deeds"]
def fs_Book (a0 a1 : V) : List (Str × V) := [("last_told", a0), ("deeds", a1)]
section
variable {a0 a1 : V}
theorem fs_Book_last_told : (fs_Book a0 a1).lookup ("last_told" : Str) = some a0 := rfl
theorem fs_Book_deeds : (fs_Book a0 a1).lookup ("deeds" : Str) = some a1 := rfl
theorem fn_Book_bind : (fs_Book a0 a1).lookup ("bind" : Str) = none := rfl
theorem fn_Book_free : (fs_Book a0 a1).lookup ("free" : Str) = none := rfl
theorem fn_Book_told : (fs_Book a0 a1).lookup ("told" : Str) = none := rfl
theorem fn_Book_had : (fs_Book a0 a1).lookup ("had" : Str) = none := rfl
theorem fl_Book : ((fs_Book a0 a1).length < 1000) = True := by simp [fs_Book]
theorem fp_Book_last_told {v : V} : putF "last_told" v (fs_Book a0 a1) = fs_Book v a1 := by with_unfolding_all rfl
theorem fq_Book_0 {v : V} : putF "last_told" v ([] : List (Str × V)) = ([("last_told", v)] : List (Str × V)) := by with_unfolding_all rfl
theorem fq_Book_1 {v : V} : putF "deeds" v ([("last_told", a0)] : List (Str × V)) = fs_Book a0 v := by with_unfolding_all rfl
end
abbrev s_Book___init__ : Stmt := inClass (top 11) 0
theorem sc_Book___init__ : FnScope ["self"] ["self"] (defScope s_Book___init__) := ⟨rfl, rfl, rfl, by decide +kernel, rfl, by decide +kernel, by decide +kernel⟩
abbrev s_Book_told : Stmt := inClass (top 11) 3
theorem sc_Book_told : FnScope ["self", "name", "deeds"] ["self", "name"] (defScope s_Book_told) := ⟨rfl, rfl, rfl, by decide +kernel, rfl, by decide +kernel, by decide +kernel⟩
abbrev s_Book_had : Stmt := inClass (top 11) 4
theorem sc_Book_had : FnScope ["self", "name", "hand", "first", "last", "deeds", "place", "deed", "begins_in_time", "is_last"] ["self", "name", "hand", "first", "last"] (defScope s_Book_had) := ⟨rfl, rfl, rfl, by decide +kernel, rfl, by decide +kernel, by decide +kernel⟩
/-! ### a book of names -/
abbrev Dd := Int × Option Int
structure BkA where
  x : Addr
  dx : Addr
  pd : Addr
  ins : List (Str × Addr)
structure BkS where
  last : Option Int
  d : Str → List Dd
def RDd (H : Hp) (v : V) (d : Dd) : Prop := ∃ t, v = .ref t ∧ H t = some (.tup [.int d.1, optV d.2])
theorem RDd.keep {S : List Addr} {H H' : Hp} {v : V} {d : Dd} (h : RDd H v d) (k : Keep S H H') (hs : ∀ b ∈ S, NoT H b) : RDd H' v d := by
  obtain ⟨t, h1, h2⟩ := h
  exact ⟨t, h1, k _ _ h2 fun z => hs t z _ h2⟩
def bkv (l : List (Str × Addr)) : List (Key × V) := l.map fun q => (Sum.inr q.1, V.ref q.2)
structure BookAt (C : Addr) (n : Nat) (H : Hp) (a : BkA) (st : BkS) : Prop where
  inst : H a.x = some (.ins C a.dx (fs_Book (optV st.last) (.ref a.pd)))
  hd : H a.pd = some (.dK (bkv a.ins))
  knd : (a.ins.map (·.1)).Nodup
  and_ : (a.ins.map (·.2)).Nodup
  at_ : ∀ q ∈ a.ins, ∃ xs, H q.2 = some (.lst xs) ∧ Paired (RDd H) xs (st.d q.1) ∧ xs ≠ []
  no : ∀ k, k ∉ a.ins.map (·.1) → st.d k = []
  len : a.ins.length ≤ n ∧ ∀ k, (st.d k).length ≤ n
theorem BookAt.keep {C : Addr} {n : Nat} {S : List Addr} {H H' : Hp} {a : BkA} {st : BkS} (B : BookAt C n H a st) (k : Keep S H H') (hs : ∀ b ∈ S, NoT H b) (h1 : a.x ∉ S) (h2 : a.pd ∉ S) (h3 : ∀ q ∈ a.ins, q.2 ∉ S) : BookAt C n H' a st := by
  refine ⟨k _ _ B.inst h1, k _ _ B.hd h2, B.knd, B.and_, fun q hq => ?_, B.no, B.len⟩
  obtain ⟨xs, e1, e2, e3⟩ := B.at_ q hq
  exact ⟨xs, k _ _ e1 (h3 q hq), Paired.mapP e2 fun _ _ z => z.keep k hs, e3⟩
theorem BookAt.same {C : Addr} {n : Nat} {H H' : Hp} {a : BkA} {st : BkS} (B : BookAt C n H a st) (s : Same H H') : BookAt C n H' a st := B.keep (S := []) s.keep (fun _ z => nomatch z) (by simp) (by simp) (fun _ _ => by simp)
theorem bkv_get {l : List (Str × Addr)} (hn : (l.map (·.1)).Nodup) {q : Str × Addr} (h : q ∈ l) : valV (bkv l) (Sum.inr q.1) = some (.ref q.2) := by
  induction l with
  | nil => cases h
  | cons p r ih =>
    rw [List.map_cons, List.nodup_cons] at hn
    unfold bkv at ih ⊢
    rw [List.map_cons]
    rcases List.mem_cons.mp h with z | z
    · subst z
      exact valV_pos rfl
    · rw [valV_neg (fun e => hn.1 (by
        have e' : p.1 = q.1 := Sum.inr.inj e
        rw [e']
        exact List.mem_map_of_mem z))]
      exact ih hn.2 z
theorem bkv_no {l : List (Str × Addr)} {k : Str} (h : k ∉ l.map (·.1)) : valV (bkv l) (Sum.inr k) = none := by
  induction l with
  | nil => exact valV_nil
  | cons p r ih =>
    rw [List.map_cons, List.mem_cons, not_or] at h
    unfold bkv at ih ⊢
    rw [List.map_cons, valV_neg (fun e => h.1 (Sum.inr.inj e).symm)]
    exact ih h.2
def lastH (ds : List Dd) : Option Int := (ds.getLast?).bind (·.2)
theorem paired_last {α β : Type} {R : α → β → Prop} : ∀ {l : List α} {m : List β}, Paired R l m → l ≠ [] → ∃ ini a dini b, l = ini ++ [a] ∧ m = dini ++ [b] ∧ R a b
  | _, _, .nil, h => absurd rfl h
  | _, _, .cons h .nil, _ => ⟨[], _, [], _, rfl, rfl, h⟩
  | x :: _, y :: _, .cons h (.cons h2 t), _ => by
    obtain ⟨ini, a, dini, b, e1, e2, r⟩ := paired_last (.cons h2 t) (by simp)
    exact ⟨x :: ini, a, y :: dini, b, by rw [e1]; rfl, by rw [e2]; rfl, r⟩
theorem at_lastV (ini : List V) (l : V) : atI (ini ++ [l]) (-1) = some l := by
  unfold atI ixN
  rw [if_neg (by decide), if_pos (by rw [List.length_append]; simp; omega)]
  simp
  rw [show (-1 + ((ini.length : Int) + 1)).toNat = ini.length by omega]
  simp
/-- whether the name was the hand's at one of these turns -/
def hadL (h first last : Int) : List Dd → Bool
  | [] => false
  | [d] => decide (d.2 = some h) && decide (d.1 ≤ last)
  | d :: e :: r => (decide (d.2 = some h) && decide (d.1 ≤ last) && decide (first ≤ e.1)) || hadL h first last (e :: r)
theorem pat2 {α β : Type} {R : α → β → Prop} : ∀ {l : List α} {m : List β} (i : Nat) {a : α}, Paired R l m → l[i]? = some a → ∃ b, m[i]? = some b ∧ R a b
  | _, _, _, _, .nil, h => by simp at h
  | _, _, 0, _, .cons h _, e => by
    simp at e
    subst e
    exact ⟨_, rfl, h⟩
  | _, _, i + 1, _, .cons _ t, e => by
    obtain ⟨b, e2, r⟩ := pat2 i t (by simpa using e)
    exact ⟨b, by simpa using e2, r⟩
def sp_binit (C : Addr) : Sp := fun vs H Q _ => ∃ (x dx : Addr), vs = [.ref x] ∧ H x = some (.ins C dx []) ∧ ∀ (a : BkA) H', a.x = x → a.ins = [] → H a.pd = none → BookAt C 0 H' a ⟨none, fun _ => []⟩ → Keep [x] H H' → Q .non H'
set_option maxHeartbeats 2000000 in
theorem own_binit (D : DefI K C "Book.__init__" s_Book___init__) (T_Book : ClsD K mg "Book" C at_Book) : OwnI P w K mg base 1 C ["self"] (sp_binit C) := by
  refine D.own sc_Book___init__ (fun _ _ _ _ _ _ us hl => match us, hl with | [_], _ => rfl) (fun vs H Q E h => ?_) (fun f cdv A outer s H vs Q E hr h => ?_)
  · obtain ⟨x, dx, rfl, _⟩ := h
    rfl
  · obtain ⟨x, dx, rfl, e, q⟩ := h
    refine ⟨_, (@pss_cons _ _ _ _ _ (@ps_fld _ _ _ _ _ _ _ _ (@pv _ 0 _ _ (by rfl) (by first | exact Or.inl rfl | exact Or.inr (Or.inl rfl) | exact Or.inr (Or.inr rfl)) (by decide) (by decide)) (@pe_non _ _ _) rfl) (@pss_one _ _ _ (@ps_fld _ _ _ _ _ _ _ _ (@pv _ 0 _ _ (by rfl) (by first | exact Or.inl rfl | exact Or.inr (Or.inl rfl) | exact Or.inr (Or.inr rfl)) (by decide) (by decide)) (@pe_dnewK _ _) rfl))), ?_⟩
    simp (maxSteps := 1000000) only [tDNewK, Nat.reduceSub, Nat.reduceLT, HO.ins.injEq, Nat.reduceAdd, sFld, cxOf_K, tSeq, exists_and_left, tVar, tC, L2.start, List.map_cons, List.map_nil, List.length_cons, List.length_nil, List.replicate, List.getElem?_cons_zero, Option.some.injEq, exists_eq_left', V.ref.injEq, true_and, and_assoc, List.append_nil, e, T_Book.cl, T_Book.no "last_told" (by decide), fq_Book_0]
    generalize z0 : upd H x _ = H0
    have e0 := (congrFun z0.symm x).trans upd_same
    have k0 : Keep [x] H H0 := by rw [← z0]; exact Keep.refl.upd (.inl (.head _))
    intro p1 n1
    generalize z1 : upd H0 p1 _ = H1
    obtain ⟨s1, e1⟩ := new_same z1 n1
    have e01 := s1 _ _ e0
    simp (maxSteps := 1000000) only [Nat.reduceLT, HO.ins.injEq, Nat.reduceAdd, exists_and_left, List.length_cons, List.length_nil, Option.some.injEq, exists_eq_left', true_and, and_assoc, e01, T_Book.cl, T_Book.no "deeds" (by decide), fq_Book_1]
    have hpx : p1 ≠ x := fun z => by rw [z, e0] at n1; cases n1
    exact q ⟨x, dx, p1, []⟩ _ rfl rfl (k0.free n1 (by simpa using hpx)) ⟨upd_same, by rw [upd_ne hpx]; exact e1, List.nodup_nil, List.nodup_nil, (fun q hq => nomatch hq), (fun _ _ => rfl), by simp, (fun _ => by simp)⟩ ((k0.same s1).upd (.inl (.head _)))
def sp_btold (C : Addr) : Sp := fun vs H Q _ => ∃ (n : Nat) (a : BkA) (st : BkS) (name : Str), vs = [.ref a.x, .str name] ∧ BookAt C n H a st ∧ ∀ H', Same H H' → Q (optV (lastH (st.d name))) H'
set_option maxHeartbeats 2000000 in
theorem own_btold (D : DefM K C "told" "Book.told" s_Book_told) (T_Book : ClsD K mg "Book" C at_Book) : OwnM P w K mg base 1 C "told" ["self", "name"] (sp_btold C) := by
  refine D.own sc_Book_told (fun _ _ _ _ _ _ us hl => match us, hl with | [_, _], _ => rfl) (fun vs H Q E h => ?_) (fun f cdv A outer s H vs Q E hr h => ?_)
  · obtain ⟨n, a, st, name, rfl, _⟩ := h
    rfl
  · obtain ⟨n, a, st, name, rfl, B, q⟩ := h
    have hu := hr.units
    have hu1 : (A.deeper (PyProof.Rows.envOfC "Book.told" (defScope s_Book_told) s.heap.objs.size f cdv)).units + 1 < cLine := by omega
    have ex := B.inst
    have ed := B.hd
    refine ⟨_, (@pss_cons _ _ _ _ _ (@ps_set _ _ 2 _ _ _ _ sc_Book_told.nd rfl (by first | exact Or.inl rfl | exact Or.inr rfl) (@pe_dgX2 _ _ _ _ _ _ _ _ _ hu1 (@pe_fldK _ K _ _ _ _ (@pv _ 0 _ _ (by rfl) (by first | exact Or.inl rfl | exact Or.inr (Or.inl rfl) | exact Or.inr (Or.inr rfl)) (by decide) (by decide)) (by rfl) (by rfl)) (@pv _ 1 _ _ (by rfl) (by first | exact Or.inl rfl | exact Or.inr (Or.inl rfl) | exact Or.inr (Or.inr rfl)) (by decide) (by decide)) (@pe_lst _ _ _ _ (@pa_nil _)) (by constructor <;> rfl)) (by rfl) (by first | exact .inl rfl | exact .inr rfl | assumption)) (@pss_one _ _ _ (@ps_ret _ _ _ _ (@pe_ifExp _ _ _ _ _ _ _ _ (@pt_truX _ _ _ (@pv _ 2 _ _ (by rfl) (by first | exact Or.inl rfl | exact Or.inr (Or.inl rfl) | exact Or.inr (Or.inr rfl)) (by decide) (by decide)) (by intro _; rfl)) (@pe_ix _ _ _ _ _ _ _ (ix_get hu1) (@pe_ix _ _ _ _ _ _ _ (ix_get hu1) (@pv _ 2 _ _ (by rfl) (by first | exact Or.inl rfl | exact Or.inr (Or.inl rfl) | exact Or.inr (Or.inr rfl)) (by decide) (by decide)) (@pe_un _ _ _ _ _ _ un_neg (@pe_int _ _ _ _)) (fun _ _ => rfl)) (@pe_int _ _ _ _) (fun _ _ => rfl)) (@pe_non _ _ _))))), ?_⟩
    simp (maxSteps := 1000000) only [rGet, tTruX, Nat.reduceSub, HO.dK.injEq, HO.ins.injEq, Nat.reduceAdd, tFld, tSeq, exists_and_left, tOp, tUn, tVar, tC, rU, tRet, tAsg, gName, tIf, tNil, tLst, L2.start, List.map_cons, List.map_nil, List.length_cons, List.length_nil, List.replicate, List.cons_append, List.nil_append, List.getElem?_cons_zero, List.getElem?_cons_succ, List.set_cons_zero, List.set_cons_succ, Option.some.injEq, exists_eq_left', V.int.injEq, V.ref.injEq, true_and, and_assoc, ex, ed, tDGX2, keyV_s, T_Book.cl, T_Book.no "deeds" (by decide), fs_Book_deeds]
    refine ⟨Nat.zero_le _, ?_⟩
    intro p1 n1
    generalize z1 : upd H p1 _ = H1
    obtain ⟨s1, e1⟩ := new_same z1 n1
    have B1 := B.same s1
    have ed1 := B1.hd
    by_cases hn : name ∈ a.ins.map (·.1)
    · obtain ⟨q', hq', rfl⟩ := List.mem_map.mp hn
      have hv := bkv_get B.knd hq'
      obtain ⟨xs, h1, h2, h3⟩ := B1.at_ q' hq'
      obtain ⟨ini, v, dini, d, rfl, hds, t, rfl, ht⟩ := paired_last h2 h3
      have hl := at_lastV ini (V.ref t)
      have hne : (ini ++ [V.ref t]).isEmpty = false := by cases ini <;> rfl
      simp (maxSteps := 1000000) only [getO_l, getO_t, Option.bind_some, truX_r, truO_l, atI_1, HO.dK.injEq, Bool.not_false, if_true, Option.some.injEq, exists_eq_left', V.ref.injEq, ed1, hv, Option.getD_some, h1, hne, hl, ht]
      have : lastH (st.d q'.1) = d.2 := by unfold lastH; rw [hds]; simp
      rw [← this]
      exact q H1 s1
    · have hv := bkv_no hn
      simp (maxSteps := 1000000) only [getO_l, Option.bind_some, truX_r, truO_l, HO.dK.injEq, List.isEmpty_nil, Bool.not_true, if_false, Bool.false_eq_true, Option.some.injEq, exists_eq_left', V.ref.injEq, ed1, hv, Option.getD_none, e1]
      have : lastH (st.d name) = none := by unfold lastH; rw [B.no name hn]; rfl
      have q1 := q H1 s1
      rw [this] at q1
      exact q1
def sp_bhad (C : Addr) : Sp := fun vs H Q _ => ∃ (n : Nat) (a : BkA) (st : BkS) (name : Str) (h first last : Int), vs = [.ref a.x, .str name, .int h, .int first, .int last] ∧ BookAt C n H a st ∧ n ≤ 1000 ∧ ∀ H', Same H H' → Q (.bl (decide (first ≤ last) && hadL h first last (st.d name))) H'
set_option maxHeartbeats 2000000 in
theorem own_bhad (D : DefM K C "had" "Book.had" s_Book_had) (hb : Blt mg) (hen : mg "enumerate" = none) (T_Book : ClsD K mg "Book" C at_Book) : OwnM P w K mg base 1 C "had" ["self", "name", "hand", "first", "last"] (sp_bhad C) := by
  refine D.own sc_Book_had (fun _ _ _ _ _ _ us hl => match us, hl with | [_, _, _, _, _], _ => rfl) (fun vs H Q E h => ?_) (fun f cdv A outer s H vs Q E hr h => ?_)
  · obtain ⟨n, a, st, name, h, first, last, rfl, _⟩ := h
    rfl
  · obtain ⟨n, a, st, name, h, first, last, rfl, B, hn, q⟩ := h
    have hu := hr.units
    have hu1 : (A.deeper (PyProof.Rows.envOfC "Book.had" (defScope s_Book_had) s.heap.objs.size f cdv)).units + 1 < cLine := by omega
    have ex := B.inst
    have ed := B.hd
    refine ⟨_, (@pss_cons _ _ _ _ _ (@ps_if _ _ _ _ _ _ _ _ (@pt_cmpR _ _ _ _ _ _ _ _ op_gt (@pv _ 3 _ _ (by rfl) (by first | exact Or.inl rfl | exact Or.inr (Or.inl rfl) | exact Or.inr (Or.inr rfl)) (by decide) (by decide)) (@pv _ 4 _ _ (by rfl) (by first | exact Or.inl rfl | exact Or.inr (Or.inl rfl) | exact Or.inr (Or.inr rfl)) (by decide) (by decide)) (nomark _)) (@pss_one _ _ _ (@ps_ret _ _ _ _ (@pe_bl _ _ _ _))) (@pss_nil _)) (@pss_cons _ _ _ _ _ (@ps_set _ _ 5 _ _ _ _ sc_Book_had.nd rfl (by first | exact Or.inl rfl | exact Or.inr rfl) (@pe_dgX2 _ _ _ _ _ _ _ _ _ hu1 (@pe_fldK _ K _ _ _ _ (@pv _ 0 _ _ (by rfl) (by first | exact Or.inl rfl | exact Or.inr (Or.inl rfl) | exact Or.inr (Or.inr rfl)) (by decide) (by decide)) (by rfl) (by rfl)) (@pv _ 1 _ _ (by rfl) (by first | exact Or.inl rfl | exact Or.inr (Or.inl rfl) | exact Or.inr (Or.inr rfl)) (by decide) (by decide)) (@pe_lst _ _ _ _ (@pa_nil _)) (by constructor <;> rfl)) (by rfl) (by first | exact .inl rfl | exact .inr rfl | assumption)) (@pss_cons _ _ _ _ _ (@ps_for _ _ _ _ _ _ _ _ PassesOwn.never rfl (@pi_enum _ K _ _ _ _ _ _ _ rfl hen (@pa_cX _ _ _ _ _ (@pv _ 5 _ _ (by rfl) (by first | exact Or.inl rfl | exact Or.inr (Or.inl rfl) | exact Or.inr (Or.inr rfl)) (by decide) (by decide)) (@pa_nil _) (by rfl)) (by rfl) (by rfl)) (@pg_seqX _ _ _ _ 2 _ rfl (@pgs_cons _ _ _ _ _ (@pg_name _ _ 6 _ sc_Book_had.nd rfl (by first | exact Or.inl rfl | exact Or.inr rfl) (by first | exact .inl rfl | exact .inr rfl | assumption)) (@pgs_cons _ _ _ _ _ (@pg_name _ _ 7 _ sc_Book_had.nd rfl (by first | exact Or.inl rfl | exact Or.inr rfl) (by first | exact .inl rfl | exact .inr rfl | assumption)) (@pgs_nil _) (by rfl)) (by rfl)) (by rfl) (by rfl)) (@pss_cons _ _ _ _ _ (@ps_set _ _ 8 _ _ _ _ sc_Book_had.nd rfl (by first | exact Or.inl rfl | exact Or.inr rfl) (@pe_and _ _ _ _ _ _ _ (@pe_cmpR _ _ _ _ _ _ _ _ op_eq (@pe_ix _ _ _ _ _ _ _ (ix_get hu1) (@pv _ 7 _ _ (by rfl) (by first | exact Or.inl rfl | exact Or.inr (Or.inl rfl) | exact Or.inr (Or.inr rfl)) (by decide) (by decide)) (@pe_int _ _ _ _) (fun _ _ => rfl)) (@pv _ 2 _ _ (by rfl) (by first | exact Or.inl rfl | exact Or.inr (Or.inl rfl) | exact Or.inr (Or.inr rfl)) (by decide) (by decide)) (nomark _)) (@pe_one _ _ _ _ _ (@pe_cmpR _ _ _ _ _ _ _ _ op_le (@pe_ix _ _ _ _ _ _ _ (ix_get hu1) (@pv _ 7 _ _ (by rfl) (by first | exact Or.inl rfl | exact Or.inr (Or.inl rfl) | exact Or.inr (Or.inr rfl)) (by decide) (by decide)) (@pe_int _ _ _ _) (fun _ _ => rfl)) (@pv _ 4 _ _ (by rfl) (by first | exact Or.inl rfl | exact Or.inr (Or.inl rfl) | exact Or.inr (Or.inr rfl)) (by decide) (by decide)) (nomark _)))) (by rfl) (by first | exact .inl rfl | exact .inr rfl | assumption)) (@pss_cons _ _ _ _ _ (@ps_set _ _ 9 _ _ _ _ sc_Book_had.nd rfl (by first | exact Or.inl rfl | exact Or.inr rfl) (@pe_cmpR _ _ _ _ _ _ _ _ op_eq (@pe_op _ _ _ _ _ _ _ _ op_add (@pv _ 6 _ _ (by rfl) (by first | exact Or.inl rfl | exact Or.inr (Or.inl rfl) | exact Or.inr (Or.inr rfl)) (by decide) (by decide)) (@pe_int _ _ _ _)) (@pe_callB _ _ _ _ _ _ _ _ _ call_lenX rfl (hb _ (by decide)) bt_len (@pa_cX _ _ _ _ _ (@pv _ 5 _ _ (by rfl) (by first | exact Or.inl rfl | exact Or.inr (Or.inl rfl) | exact Or.inr (Or.inr rfl)) (by decide) (by decide)) (@pa_nil _) (by rfl)) (by decide) (by decide) (by rfl) (by rfl)) (nomark _)) (by rfl) (by first | exact .inl rfl | exact .inr rfl | assumption)) (@pss_one _ _ _ (@ps_if _ _ _ _ _ _ _ _ (@PW.pt _ _ _ (@pw_and _ _ _ _ _ _ _ (@pt_truX _ _ _ (@pv _ 8 _ _ (by rfl) (by first | exact Or.inl rfl | exact Or.inr (Or.inl rfl) | exact Or.inr (Or.inr rfl)) (by decide) (by decide)) (by intro _; rfl)) (@pw_and1 _ _ _ _ (@PW.pt _ _ _ (@pw_or _ _ _ _ _ _ _ (@pt_truX _ _ _ (@pv _ 9 _ _ (by rfl) (by first | exact Or.inl rfl | exact Or.inr (Or.inl rfl) | exact Or.inr (Or.inr rfl)) (by decide) (by decide)) (by intro _; rfl)) (@pw_or1 _ _ _ _ (@pt_cmpR _ _ _ _ _ _ _ _ op_ge (@pe_ix _ _ _ _ _ _ _ (ix_get hu1) (@pe_ix _ _ _ _ _ _ _ (ix_get hu1) (@pv _ 5 _ _ (by rfl) (by first | exact Or.inl rfl | exact Or.inr (Or.inl rfl) | exact Or.inr (Or.inr rfl)) (by decide) (by decide)) (@pe_op _ _ _ _ _ _ _ _ op_add (@pv _ 6 _ _ (by rfl) (by first | exact Or.inl rfl | exact Or.inr (Or.inl rfl) | exact Or.inr (Or.inr rfl)) (by decide) (by decide)) (@pe_int _ _ _ _)) (fun _ _ => rfl)) (@pe_int _ _ _ _) (fun _ _ => rfl)) (@pv _ 3 _ _ (by rfl) (by first | exact Or.inl rfl | exact Or.inr (Or.inl rfl) | exact Or.inr (Or.inr rfl)) (by decide) (by decide)) (nomark _)))))))) (@pss_one _ _ _ (@ps_ret _ _ _ _ (@pe_bl _ _ _ _))) (@pss_nil _))))) (by intro _; rfl)) (@pss_one _ _ _ (@ps_ret _ _ _ _ (@pe_bl _ _ _ _)))))), ?_⟩
    simp (maxSteps := 1000000) only [tFor_eq, Nat.reduceSub, HO.dK.injEq, HO.ins.injEq, Nat.reduceAdd, tFld, tSeq, exists_and_left, tIfS, tTest, tOp, tVar, tC, rI0, tRet, tAsg, gName, tNext, tNil, tLst, L2.start, List.map_cons, List.map_nil, List.length_cons, List.length_nil, List.replicate, List.cons_append, List.nil_append, List.getElem?_cons_zero, List.getElem?_cons_succ, List.set_cons_zero, List.set_cons_succ, Option.some.injEq, exists_eq_left', V.int.injEq, V.bl.injEq, V.ref.injEq, true_and, and_assoc, ex, ed, tDGX2, keyV_s, T_Book.cl, T_Book.no "deeds" (by decide), fs_Book_deeds]
    by_cases hfl : last < first
    · rw [if_pos (decide_eq_true hfl)]
      have q1 := q H (.refl _)
      rw [decide_eq_false (by omega : ¬ first ≤ last)] at q1
      exact q1
    rw [if_neg (by simpa using hfl)]
    rw [decide_eq_true (by omega : first ≤ last)] at q
    refine ⟨Nat.zero_le _, ?_⟩
    intro p1 n1
    generalize z1 : upd H p1 _ = H1
    obtain ⟨s1, e1⟩ := new_same z1 n1
    have B1 := B.same s1
    have ed1 := B1.hd
    obtain ⟨l, xs, hval, hl, hp⟩ : ∃ l xs, (valV (bkv a.ins) (Sum.inr name)).getD (.ref p1) = .ref l ∧ H1 l = some (.lst xs) ∧ Paired (RDd H1) xs (st.d name) := by
      by_cases hn : name ∈ a.ins.map (·.1)
      · obtain ⟨q', hq', rfl⟩ := List.mem_map.mp hn
        obtain ⟨xs, h1, h2, h3⟩ := B1.at_ q' hq'
        exact ⟨q'.2, xs, by rw [bkv_get B.knd hq']; rfl, h1, h2⟩
      · exact ⟨p1, [], by rw [bkv_no hn]; rfl, e1, by rw [B.no name hn]; exact .nil⟩
    have hxl := hp.length
    simp (maxSteps := 1000000) only [HO.dK.injEq, List.cons.injEq, tVar, tCons, tNil, List.getElem?_cons_zero, List.getElem?_cons_succ, Option.some.injEq, exists_eq_left', V.ref.injEq, and_true, ed1, hval, iEnum]
    refine ⟨⟨_, SqL.of hl⟩, for_enum (K := K) (xs := xs) (fun i σ H' => ∃ v6 v7 v8 v9, σ = [some (.ref a.x), some (.str name), some (.int h), some (.int first), some (.int last), some (.ref l), v6, v7, v8, v9] ∧ Same H1 H' ∧ hadL h first last (st.d name) = hadL h first last ((st.d name).drop i)) ⟨_, _, _, _, rfl, .refl _, by simp⟩ ?_ ?_ ?_⟩
    · rintro i σ H' hi ⟨v6, v7, v8, v9, rfl, s2, _⟩
      exact SqL.of (s2 _ _ hl)
    · rintro i x p σ H2 hx hpn ⟨v6, v7, v8, v9, rfl, s2, hh⟩
      obtain ⟨d, hd, t, rfl, ht⟩ := pat2 i hp hx
      have hi : i < (st.d name).length := (List.getElem?_eq_some_iff.mp hd).1
      have s3 : Same H2 (upd H2 p (.tup [.int (i : Int), .ref t])) := Same.upd_new hpn
      have e3 : upd H2 p (.tup [.int (i : Int), .ref t]) p = some (.tup [.int (i : Int), .ref t]) := upd_same
      generalize upd H2 p (.tup [.int (i : Int), .ref t]) = H3 at s3 e3 ⊢
      have ht3 := s3 _ _ (s2 _ _ ht)
      have hl3 := s3 _ _ (s2 _ _ hl)
      have hdr : (st.d name).drop i = d :: (st.d name).drop (i + 1) := by
        rw [List.drop_eq_getElem_cons hi]
        have := List.getElem?_eq_getElem hi
        rw [hd] at this
        rw [← Option.some.inj this]
      simp (maxSteps := 1000000) only [gSeqX, rGet, getO_t, rLenX, lenX_r, tTruX, truX_b, seqO_t, gCons, gNil, atI_1, Nat.reduceAdd, List.cons.injEq, rEq_ii, tSeq, exists_and_left, if_false, if_true, Bool.false_eq_true, tIfS, tAnd, tOr, tTest, tOp, tVar, tC, rI0, tRet, tAsg, gName, tNext, tAndV, tCons, tNil, tCB, List.length_cons, List.length_nil, List.getElem?_cons_zero, List.getElem?_cons_succ, List.set_cons_zero, List.set_cons_succ, Option.some.injEq, exists_eq_left', V.int.injEq, V.bl.injEq, V.ref.injEq, and_true, true_and, and_assoc, e3, ht3, List.length_cons, List.length_nil]
      have s13 := s2.trans s3
      have go : (decide (d.2 = some h) && decide (d.1 ≤ last)) = false → hadL h first last (st.d name) = hadL h first last ((st.d name).drop (i + 1)) := fun hf => by
        rw [hh, hdr]
        cases hr' : (st.d name).drop (i + 1) with
        | nil => exact hf
        | cons e r => show ((decide (d.2 = some h) && decide (d.1 ≤ last) && decide (first ≤ e.1)) || hadL h first last (e :: r)) = _; rw [hf]; rfl
      have yes : hadL h first last (st.d name) = true → Q (.bl true) H3 := fun hy => by
        have q1 := q H3 (s1.trans s13)
        rw [hy] at q1
        exact q1
      by_cases c1 : d.2 = some h
      · have ov : optV d.2 = V.int h := by rw [c1]; rfl
        rw [ov]
        simp (maxSteps := 1000000) only [getO_l, getO_t, lenO_l, Option.bind_some, atI_0, decide_true, rEq_ii, if_true, Option.some.injEq, exists_eq_left', V.int.injEq, V.bl.injEq, ht3, hl3]
        by_cases c2 : d.1 ≤ last
        · by_cases c3 : i + 1 = xs.length
          · have c3' : (i : Int) + 1 = (xs.length : Int) := by omega
            simp (maxSteps := 1000000) only [decide_true, if_true, c2, c3']
            refine yes ?_
            rw [hh, hdr, List.drop_of_length_le (by omega)]
            show (decide (d.2 = some h) && decide (d.1 ≤ last)) = true
            rw [decide_eq_true c1, decide_eq_true c2]
            rfl
          · have c3' : ¬ ((i : Int) + 1 = (xs.length : Int)) := by omega
            have hi2 : i + 1 < (st.d name).length := by omega
            have hx2 := List.getElem?_eq_getElem (l := xs) (i := i + 1) (by omega)
            obtain ⟨e, he, t2, et2, ht2⟩ := pat2 (i + 1) hp hx2
            have hat : atI xs ((i : Int) + 1) = some (.ref t2) := by
              rw [atI_pos (by omega), show ((i : Int) + 1).toNat = i + 1 by omega, hx2, et2]
            have ht23 := s13 _ _ ht2
            have hdr2 : (st.d name).drop (i + 1) = e :: (st.d name).drop (i + 2) := by
              rw [List.drop_eq_getElem_cons hi2]
              have := List.getElem?_eq_getElem hi2
              rw [he] at this
              rw [← Option.some.inj this]
            simp (maxSteps := 1000000) only [getO_t, atI_0, decide_true, decide_false, if_false, if_true, Bool.false_eq_true, Option.some.injEq, exists_eq_left', V.int.injEq, V.ref.injEq, c2, c3', hat, ht23]
            have hst : hadL h first last (st.d name) = (decide (first ≤ e.1) || hadL h first last ((st.d name).drop (i + 1))) := by
              rw [hh, hdr, hdr2]
              show ((decide (d.2 = some h) && decide (d.1 ≤ last) && decide (first ≤ e.1)) || hadL h first last (e :: _)) = _
              rw [decide_eq_true c1, decide_eq_true c2]
              rfl
            refine ite2 (fun c4 => yes ?_) (fun c4 => ⟨s13, ?_⟩)
            · rw [hst, c4]; rfl
            · rw [hst, Bool.eq_false_iff.mpr c4]; rfl
        · simp (maxSteps := 1000000) only [decide_false, if_false, Bool.false_eq_true, c2]
          exact ⟨s13, go (by rw [decide_eq_false c2, Bool.and_false])⟩
      · have hr1 : ∀ Q' : VK, Q' (.bl false) H3 → rEq (optV d.2) (.int h) H3 Q' := fun Q' hq => by
          cases hd2 : d.2 with
          | none => simpa only [optV, rEq_ni] using hq
          | some z =>
            have : ¬ (z = h) := fun e => c1 (by rw [hd2, e])
            simp only [optV]
            simp (maxSteps := 1000000) only [decide_false, rEq_ii, this]
            exact hq
        refine hr1 _ ?_
        simp (maxSteps := 1000000) only [getO_l, lenO_l, Option.bind_some, if_false, Bool.false_eq_true, Option.some.injEq, exists_eq_left', V.bl.injEq, hl3]
        exact ⟨s13, go (by rw [decide_eq_false c1, Bool.false_and])⟩
    · rintro σ H2 ⟨v6, v7, v8, v9, rfl, s2, hh⟩
      simp (maxSteps := 1000000) only [tC, tRet]
      have : hadL h first last (st.d name) = false := by rw [hh, List.drop_of_length_le (by omega)]; rfl
      have q1 := q H2 (s1.trans s2)
      rw [this] at q1
      exact q1
abbrev s_refuse_below : Stmt := top 7
theorem sc_refuse_below : FnScope ["turn", "last"] ["turn", "last"] (defScope s_refuse_below) := ⟨rfl, rfl, rfl, by decide +kernel, rfl, by decide +kernel, by decide +kernel⟩
def sp_below : Sp := fun vs H Q _ => ∃ (t : Int) (l : Option Int), vs = [.int t, optV l] ∧ (∀ n, l = some n → n ≤ t) ∧ Q .non H
theorem own_below (D : Def K mg "refuse_below" s_refuse_below) : Own P w K mg base 1 "refuse_below" ["turn", "last"] sp_below := by
  refine D.own sc_refuse_below (fun _ _ _ _ _ _ us hl => match us, hl with | [_, _], _ => rfl) (fun vs H Q E h => ?_) (fun f cdv A outer s H vs Q E hr h => ?_)
  · obtain ⟨t, l, rfl, _⟩ := h
    rfl
  · obtain ⟨t, l, rfl, hl, q⟩ := h
    refine ⟨_, (@pss_one _ _ _ (@ps_if _ _ _ _ _ _ _ _ (@PW.pt _ _ _ (@pw_and _ _ _ _ _ _ _ (@pt_cmpR _ _ _ _ _ _ _ _ op_notN (@pv _ 1 _ _ (by rfl) (by first | exact Or.inl rfl | exact Or.inr (Or.inl rfl) | exact Or.inr (Or.inr rfl)) (by decide) (by decide)) (@pe_non _ _ _) (nomark _)) (@pw_and1 _ _ _ _ (@pt_cmpR _ _ _ _ _ _ _ _ op_lt (@pv _ 0 _ _ (by rfl) (by first | exact Or.inl rfl | exact Or.inr (Or.inl rfl) | exact Or.inr (Or.inr rfl)) (by decide) (by decide)) (@pv _ 1 _ _ (by rfl) (by first | exact Or.inl rfl | exact Or.inr (Or.inl rfl) | exact Or.inr (Or.inr rfl)) (by decide) (by decide)) (nomark _))))) (@pss_one _ _ _ (@ps_never _ _)) (@pss_nil _))), ?_⟩
    cases l with
    | none =>
      simp only [tDGs, sDPs, rIsB, rIsntB, tMeth, tMake, tDGet, sDPut, tFld, sFld, tDisp, tPairs, tNever, decide_true, decide_false, truV_bl, clsV_ty, V.ty.injEq, exists_eq', exists_eq, Bool.not_true, Bool.not_false, Bool.not_not, rLen, rListOf, rTupOf, rAny, rAll, rIsI, tTru, iRng1, iRng2, iList, tYes, cSt, List.drop_succ_cons, List.drop_zero, cxOf_K, cxC_K,  tBM, tBM0, rAppend, tSl, rSlL, tNoPart, tPart, rIxL, rIxT, rCat, List.cons.injEq, rEq_ii, rNe_ii, rEq_bb, rNe_bb, tSeq, exists_and_left, if_false, if_true, reduceIte, Bool.false_eq_true, tIfS, tAnd, tOr, tNot, tTest, tOp, tUn, tVar, tC, rI, rI0, rU, tRet, tRetN, tAsg, gName, tNext, tAndV, tOrV, tNotV, tIf, tCall, tCons, tNil, tCB, tDrop, tLst, tTup, tChain, L2.start, List.map_cons, List.map_nil, List.length_cons, List.length_nil, List.replicate, List.cons_append, List.nil_append, List.getElem?_cons_zero, List.getElem?_cons_succ, List.set_cons_zero, List.set_cons_succ, Option.some.injEq, exists_eq_left', exists_eq_left, V.int.injEq, V.bl.injEq, V.ref.injEq, V.str.injEq, exists_const, and_true, true_and, reduceCtorEq, false_and, exists_false, or_false, false_or, and_assoc, List.append_nil, optV]
      exact q
    | some n =>
      simp only [tDGs, sDPs, rIsB, rIsntB, tMeth, tMake, tDGet, sDPut, tFld, sFld, tDisp, tPairs, tNever, decide_true, decide_false, truV_bl, clsV_ty, V.ty.injEq, exists_eq', exists_eq, Bool.not_true, Bool.not_false, Bool.not_not, rLen, rListOf, rTupOf, rAny, rAll, rIsI, tTru, iRng1, iRng2, iList, tYes, cSt, List.drop_succ_cons, List.drop_zero, cxOf_K, cxC_K,  tBM, tBM0, rAppend, tSl, rSlL, tNoPart, tPart, rIxL, rIxT, rCat, List.cons.injEq, rEq_ii, rNe_ii, rEq_bb, rNe_bb, tSeq, exists_and_left, if_false, if_true, reduceIte, Bool.false_eq_true, tIfS, tAnd, tOr, tNot, tTest, tOp, tUn, tVar, tC, rI, rI0, rU, tRet, tRetN, tAsg, gName, tNext, tAndV, tOrV, tNotV, tIf, tCall, tCons, tNil, tCB, tDrop, tLst, tTup, tChain, L2.start, List.map_cons, List.map_nil, List.length_cons, List.length_nil, List.replicate, List.cons_append, List.nil_append, List.getElem?_cons_zero, List.getElem?_cons_succ, List.set_cons_zero, List.set_cons_succ, Option.some.injEq, exists_eq_left', exists_eq_left, V.int.injEq, V.bl.injEq, V.ref.injEq, V.str.injEq, exists_const, and_true, true_and, reduceCtorEq, false_and, exists_false, or_false, false_or, and_assoc, List.append_nil, optV]
      have := hl n rfl
      rw [decide_eq_false (show ¬ t < n by omega)]
      exact iteF q
abbrev s_Book_bind : Stmt := inClass (top 11) 1
theorem sc_Book_bind : FnScope ["self", "name", "hand", "turn"] ["self", "name", "hand", "turn"] (defScope s_Book_bind) := ⟨rfl, rfl, rfl, by decide +kernel, rfl, by decide +kernel, by decide +kernel⟩
abbrev s_Book_free : Stmt := inClass (top 11) 2
theorem sc_Book_free : FnScope ["self", "name", "turn"] ["self", "name", "turn"] (defScope s_Book_free) := ⟨rfl, rfl, rfl, by decide +kernel, rfl, by decide +kernel, by decide +kernel⟩
def sp_isn (ok : Str → Prop) : Sp := fun vs H Q _ => ∃ z : Str, vs = [.str z] ∧ ok z ∧ ∀ H', Same H H' → Q (.bl true) H'
def addD (st : BkS) (name : Str) (turn : Int) (h : Option Int) : BkS := ⟨some turn, fun k => if k = name then st.d name ++ [(turn, h)] else st.d k⟩
def badr (a : BkA) : List Addr := a.x :: a.pd :: a.ins.map (·.2)
theorem nodup_snd : ∀ {l : List (Str × Addr)}, (l.map (·.2)).Nodup → ∀ {q q' : Str × Addr}, q ∈ l → q' ∈ l → q.2 = q'.2 → q = q'
  | [], _, _, _, h, _, _ => nomatch h
  | p :: r, hn, q, q', h1, h2, e => by
    rw [List.map_cons, List.nodup_cons] at hn
    rcases List.mem_cons.mp h1 with z | z <;> rcases List.mem_cons.mp h2 with y | y
    · rw [z, y]
    · exact absurd (by rw [← z, e]; exact List.mem_map_of_mem y) hn.1
    · exact absurd (by rw [← y, ← e]; exact List.mem_map_of_mem z) hn.1
    · exact nodup_snd hn.2 z y e
theorem nodup_fst : ∀ {l : List (Str × Addr)}, (l.map (·.1)).Nodup → ∀ {q q' : Str × Addr}, q ∈ l → q' ∈ l → q.1 = q'.1 → q = q'
  | [], _, _, _, h, _, _ => nomatch h
  | p :: r, hn, q, q', h1, h2, e => by
    rw [List.map_cons, List.nodup_cons] at hn
    rcases List.mem_cons.mp h1 with z | z <;> rcases List.mem_cons.mp h2 with y | y
    · rw [z, y]
    · exact absurd (by rw [← z, e]; exact List.mem_map_of_mem y) hn.1
    · exact absurd (by rw [← y, ← e]; exact List.mem_map_of_mem z) hn.1
    · exact nodup_fst hn.2 z y e
def sp_bbind (ok : Str → Prop) (C : Addr) : Sp := fun vs H Q _ => ∃ (n : Nat) (a : BkA) (st : BkS) (name : Str) (h : Option Int) (turn : Int), vs = [.ref a.x, .str name, optV h, .int turn] ∧ BookAt C n H a st ∧ n ≤ 1000 ∧ ok name ∧ (∀ l, st.last = some l → l ≤ turn) ∧
  ∀ a' H', BookAt C (n + 1) H' a' (addD st name turn h) → a'.x = a.x → (∀ b ∈ badr a', b ∈ badr a ∨ H b = none) → Keep (badr a) H H' → Q .non H'
set_option maxHeartbeats 4000000 in
theorem own_bbind {ok : Str → Prop} {k0 : Nat} (D : DefM K C "bind" "Book.bind" s_Book_bind) (T_Book : ClsD K mg "Book" C at_Book) (F_is_name : Own P w K mg base 2 "is_name" ["thing"] (sp_isn ok)) (F_refuse_below : Own P w K mg base 1 "refuse_below" ["turn", "last"] sp_below) : OwnM P w K mg base 3 C "bind" ["self", "name", "hand", "turn"] (sp_bbind ok C) := by
  refine D.own sc_Book_bind (fun _ _ _ _ _ _ us hl => match us, hl with | [_, _, _, _], _ => rfl) (fun vs H Q E h => ?_) (fun f cdv A outer s H vs Q E hr h => ?_)
  · obtain ⟨n, a, st, name, h, turn, rfl, _⟩ := h
    rfl
  · obtain ⟨n, a, st, name, h, turn, rfl, B, hn, hok, hlt, q⟩ := h
    have hu := hr.units
    have hu1 : (A.deeper (PyProof.Rows.envOfC "Book.bind" (defScope s_Book_bind) s.heap.objs.size f cdv)).units + 1 < cLine := by omega
    refine ⟨_, (@pss_cons _ _ _ _ _ (@ps_if _ _ _ _ _ _ _ _ (@pt_not _ _ _ _ (@pt_truX _ _ _ (@pe_fn _ _ _ _ _ _ _ _ _ _ _ F_is_name hr (@pa_cX _ _ _ _ _ (@pv _ 1 _ _ (by rfl) (by first | exact Or.inl rfl | exact Or.inr (Or.inl rfl) | exact Or.inr (Or.inr rfl)) (by decide) (by decide)) (@pa_nil _) (by rfl)) (by decide) (by rfl) (by decide) (by rfl) (by rfl)) (by intro _; rfl))) (@pss_one _ _ _ (@ps_never _ _)) (@pss_nil _)) (@pss_cons _ _ _ _ _ (@ps_expr _ _ _ _ (@pe_fn _ _ _ _ _ _ _ _ _ _ _ F_refuse_below hr (@pa_cX _ _ _ _ _ (@pv _ 3 _ _ (by rfl) (by first | exact Or.inl rfl | exact Or.inr (Or.inl rfl) | exact Or.inr (Or.inr rfl)) (by decide) (by decide)) (@pa_cX _ _ _ _ _ (@pe_fldK _ K _ _ _ _ (@pv _ 0 _ _ (by rfl) (by first | exact Or.inl rfl | exact Or.inr (Or.inl rfl) | exact Or.inr (Or.inr rfl)) (by decide) (by decide)) (by rfl) (by rfl)) (@pa_nil _) (by rfl)) (by rfl)) (by decide) (by rfl) (by decide) (by rfl) (by rfl)) (by rfl)) (@pss_cons _ _ _ _ _ (@ps_fld _ _ _ _ _ _ _ _ (@pv _ 0 _ _ (by rfl) (by first | exact Or.inl rfl | exact Or.inr (Or.inl rfl) | exact Or.inr (Or.inr rfl)) (by decide) (by decide)) (@pv _ 3 _ _ (by rfl) (by first | exact Or.inl rfl | exact Or.inr (Or.inl rfl) | exact Or.inr (Or.inr rfl)) (by decide) (by decide)) rfl) (@pss_one _ _ _ (@ps_expr _ _ _ _ (@pe_lm _ _ _ _ _ _ _ _ _ _ _ PySem.F.slot_list_append PySem.F.type_list_append mt_append (@pe_dsd _ _ _ _ _ _ _ _ _ (@pe_fldK _ K _ _ _ _ (@pv _ 0 _ _ (by rfl) (by first | exact Or.inl rfl | exact Or.inr (Or.inl rfl) | exact Or.inr (Or.inr rfl)) (by decide) (by decide)) (by rfl) (by rfl)) (@pv _ 1 _ _ (by rfl) (by first | exact Or.inl rfl | exact Or.inr (Or.inl rfl) | exact Or.inr (Or.inr rfl)) (by decide) (by decide)) (@pe_lst _ _ _ _ (@pa_nil _)) (by constructor <;> rfl)) (@pa_cX _ _ _ _ _ (@pe_tup _ _ _ _ _ (@pa_cX _ _ _ _ _ (@pv _ 3 _ _ (by rfl) (by first | exact Or.inl rfl | exact Or.inr (Or.inl rfl) | exact Or.inr (Or.inr rfl)) (by decide) (by decide)) (@pa_cX _ _ _ _ _ (@pv _ 2 _ _ (by rfl) (by first | exact Or.inl rfl | exact Or.inr (Or.inl rfl) | exact Or.inr (Or.inr rfl)) (by decide) (by decide)) (@pa_nil _) (by rfl)) (by rfl))) (@pa_nil _) (by rfl)) (by rfl) (by rfl) (by rfl) (by rfl) (by rfl)) (by rfl)))))), ?_⟩
    simp (maxSteps := 1000000) only [tBL, tTruX, Nat.reduceSub, Nat.reduceAdd, tFld, sFld, tNever, cxOf_K, rAppend, List.cons.injEq, tSeq, exists_and_left, tIfS, tNot, tVar, tNext, tCall, tCons, tNil, tDrop, tTup, L2.start, List.map_cons, List.map_nil, List.length_cons, List.length_nil, List.replicate, List.getElem?_cons_zero, List.getElem?_cons_succ, Option.some.injEq, exists_eq_left', V.ref.injEq, and_true, List.append_nil]
    refine ⟨name, rfl, hok, fun H1 s1 => ?_⟩
    have B1 := B.same s1
    have ex := B1.inst
    simp (maxSteps := 1000000) only [truX_b, HO.ins.injEq, Bool.not_true, exists_and_left, if_false, Bool.false_eq_true, Option.some.injEq, exists_eq_left', true_and, and_assoc, ex, T_Book.cl, T_Book.no "last_told" (by decide), fs_Book_last_told]
    refine ⟨turn, st.last, rfl, hlt, ?_⟩
    simp (maxSteps := 1000000) only [HO.ins.injEq, exists_and_left, Option.some.injEq, exists_eq_left', true_and, and_assoc, ex, T_Book.cl, T_Book.no "last_told" (by decide), fl_Book, fp_Book_last_told]
    have k2 : Keep [a.x] H1 (upd H1 a.x (.ins C a.dx (fs_Book (.int turn) (.ref a.pd)))) := Keep.refl.upd (.inl (.head _))
    have e2 : upd H1 a.x (.ins C a.dx (fs_Book (.int turn) (.ref a.pd))) a.x = some (.ins C a.dx (fs_Book (.int turn) (.ref a.pd))) := upd_same
    generalize upd H1 a.x (.ins C a.dx (fs_Book (.int turn) (.ref a.pd))) = H2 at k2 e2 ⊢
    have nx : ∀ {b : Addr} {o : HO}, H1 b = some o → (∀ C d fs, o ≠ .ins C d fs) → H2 b = some o := fun {b o} e h => k2 _ _ e (fun z => by
      rw [List.mem_singleton] at z
      rw [z, B1.inst] at e
      cases e
      exact h _ _ _ rfl)
    have nT2 : ∀ b ∈ [a.x], NoT H1 b := noT1 (.of_ins B1.inst)
    have hd2 := nx B1.hd (fun _ _ _ z => by cases z)
    have at2 : ∀ q ∈ a.ins, ∃ xs, H2 q.2 = some (.lst xs) ∧ Paired (RDd H2) xs (st.d q.1) ∧ xs ≠ [] := fun q hq => by
      obtain ⟨xs, g1, g2, g3⟩ := B1.at_ q hq
      exact ⟨xs, nx g1 (fun _ _ _ z => by cases z), Paired.mapP g2 fun _ _ z => z.keep k2 nT2, g3⟩
    have hkl : (bkv a.ins).length < sizeLine := by
      have := B.len.1
      unfold bkv
      rw [List.length_map, sizeLine_eq]
      omega
    simp (maxSteps := 1000000) only [HO.dK.injEq, HO.ins.injEq, tFld, exists_and_left, tVar, tNil, tLst, List.length_nil, List.getElem?_cons_zero, List.getElem?_cons_succ, Option.some.injEq, exists_eq_left', V.ref.injEq, true_and, and_assoc, tDSD, keyV_s, e2, hd2, T_Book.cl, T_Book.no "deeds" (by decide), fs_Book_deeds]
    refine ⟨Nat.zero_le _, ?_⟩
    intro p3 n3
    generalize z3 : upd H2 p3 _ = H3
    obtain ⟨s3, e3⟩ := new_same z3 n3
    have hd3 := s3 _ _ hd2
    have e23 := s3 _ _ e2
    have k03 : Keep [a.x] H H3 := fun b o e hb => s3 _ _ (k2 _ _ (s1 _ _ e) hb)
    have hpx : a.pd ≠ a.x := fun z => by rw [z, e2] at hd2; cases hd2
    refine ⟨_, hd3, hkl, ?_, ?_⟩
    · intro v hv
      have hin : name ∈ a.ins.map (·.1) := Classical.byContradiction fun z => by rw [bkv_no z] at hv; cases hv
      obtain ⟨q', hq', rfl⟩ := List.mem_map.mp hin
      rw [bkv_get B.knd hq'] at hv
      cases hv
      obtain ⟨xs, g1, g2, g3⟩ := at2 q' hq'
      have g13 := s3 _ _ g1
      have hxl := g2.length
      have hdl := B.len.2 q'.1
      simp (maxSteps := 1000000) only [HO.lst.injEq, Option.some.injEq, exists_eq_left', V.ref.injEq, g13]
      refine ⟨by rw [sizeLine_eq]; omega, ?_⟩
      intro p4 n4
      generalize z4 : upd H3 p4 _ = H4
      obtain ⟨s4, e4⟩ := new_same z4 n4
      have g14 := s4 _ _ g13
      simp (maxSteps := 1000000) only [HO.lst.injEq, Option.some.injEq, exists_eq_left', g14]
      refine ⟨by rw [sizeLine_eq]; omega, ?_⟩
      have k5 : Keep [q'.2] H4 (upd H4 q'.2 (.lst (xs ++ [.ref p4]))) := Keep.refl.upd (.inl (.head _))
      have nT5 : ∀ b ∈ [q'.2], NoT H4 b := noT1 (.of_lst g14)
      have ne5 : ∀ {b : Addr} {o : HO}, H4 b = some o → (∀ xs, o ≠ .lst xs) → b ∉ [q'.2] := fun {b o} e h z => by
        rw [List.mem_singleton] at z
        rw [z, g14] at e
        cases e
        exact h _ rfl
      refine q a _ ⟨k5 _ _ (s4 _ _ e23) (ne5 (s4 _ _ e23) (fun _ z => by cases z)), k5 _ _ (s4 _ _ hd3) (ne5 (s4 _ _ hd3) (fun _ z => by cases z)), B.knd, B.and_, fun r hr' => ?_, fun k hk => ?_, ⟨by have := B.len.1; omega, fun k => ?_⟩⟩ rfl (fun b hb => .inl hb) (fun b o e hb => ?_)
      · obtain ⟨ys, f1, f2, f3⟩ := at2 r hr'
        have f14 := s4 _ _ (s3 _ _ f1)
        have f24 := Paired.mapP f2 fun _ _ z => (RDd.keep (S := []) z (s3.trans s4).keep (fun _ z => nomatch z)).keep k5 nT5
        by_cases er : r = q'
        · subst er
          rw [g1] at f1
          cases f1
          refine ⟨_, upd_same, ?_, by simp⟩
          show Paired _ _ (if r.1 = r.1 then st.d r.1 ++ [(turn, h)] else st.d r.1)
          rw [if_pos rfl]
          exact paired_append f24 (.cons (RDd.keep ⟨p4, rfl, e4⟩ k5 nT5) .nil)
        · have n2 : r.2 ≠ q'.2 := fun z => er (nodup_snd B.and_ hr' hq' z)
          have n1' : r.1 ≠ q'.1 := fun z => er (nodup_fst B.knd hr' hq' z)
          refine ⟨ys, by rw [upd_ne n2]; exact f14, ?_, f3⟩
          show Paired _ _ (if r.1 = q'.1 then st.d q'.1 ++ [(turn, h)] else st.d r.1)
          rw [if_neg n1']
          exact f24
      · show (if k = q'.1 then st.d q'.1 ++ [(turn, h)] else st.d k) = []
        rw [if_neg (fun z => hk (by rw [z]; exact hin))]
        exact B.no k hk
      · show (if k = q'.1 then st.d q'.1 ++ [(turn, h)] else st.d k).length ≤ n + 1
        split
        · rw [List.length_append, List.length_singleton]; omega
        · have := B.len.2 k; omega
      · have nb : b ≠ q'.2 := fun z => hb (by rw [z]; exact List.mem_cons_of_mem _ (List.mem_cons_of_mem _ (List.mem_map_of_mem hq')))
        rw [upd_ne nb]
        exact s4 _ _ (k03 _ _ e (fun z => hb (by rw [List.mem_singleton] at z; rw [z]; exact .head _)))
    · intro hv
      have hnin : name ∉ a.ins.map (·.1) := fun z => by
        obtain ⟨q', hq', e⟩ := List.mem_map.mp z
        have := bkv_get B.knd hq'
        rw [e, hv] at this
        cases this
      have hput : putK (bkv a.ins) (Sum.inr name) (.ref p3) = bkv (a.ins ++ [(name, p3)]) := by
        rw [putK_new _ hv]
        unfold bkv
        rw [List.map_append]
        rfl
      rw [hput]
      have np3 : p3 ≠ a.pd := fun z => by rw [z, hd2] at n3; cases n3
      have np3x : p3 ≠ a.x := fun z => by rw [z, e2] at n3; cases n3
      have kD : Keep [a.pd] H3 (upd H3 a.pd (.dK (bkv (a.ins ++ [(name, p3)])))) := Keep.refl.upd (.inl (.head _))
      have eD : upd H3 a.pd (.dK (bkv (a.ins ++ [(name, p3)]))) a.pd = some (.dK (bkv (a.ins ++ [(name, p3)]))) := upd_same
      have eD3 := kD _ _ e3 (by simpa using np3)
      have eDx := kD _ _ e23 (by simpa using Ne.symm hpx)
      have nTD : ∀ b ∈ [a.pd], NoT H3 b := noT1 (.of_dK hd3)
      generalize upd H3 a.pd (.dK (bkv (a.ins ++ [(name, p3)]))) = HD at kD eD eD3 eDx ⊢
      simp (maxSteps := 1000000) only [HO.lst.injEq, Option.some.injEq, exists_eq_left', eD3]
      refine ⟨by rw [sizeLine_eq]; omega, ?_⟩
      intro p5 n5
      generalize z5 : upd HD p5 _ = H5
      obtain ⟨s5, e5⟩ := new_same z5 n5
      have eD35 := s5 _ _ eD3
      simp (maxSteps := 1000000) only [HO.lst.injEq, List.length_nil, List.nil_append, Option.some.injEq, exists_eq_left', eD35]
      refine ⟨by rw [sizeLine_eq]; simp, ?_⟩
      have k6 : Keep [p3] H5 (upd H5 p3 (.lst [.ref p5])) := Keep.refl.upd (.inl (.head _))
      have nT6 : ∀ b ∈ [p3], NoT H5 b := noT1 (.of_lst eD35)
      have hold : ∀ r ∈ a.ins, r.2 ≠ p3 := fun r hr' z => by
        obtain ⟨ys, f1, _⟩ := at2 r hr'
        rw [z, n3] at f1
        cases f1
      have hpd : ∀ r ∈ a.ins, r.2 ≠ a.pd := fun r hr' z => by
        obtain ⟨ys, f1, _⟩ := at2 r hr'
        rw [z, hd2] at f1
        cases f1
      have hfr : H p3 = none := by
        cases hz : H p3 with
        | none => rfl
        | some o =>
          have := k2 _ _ (s1 _ _ hz) (by simpa using np3x)
          rw [n3] at this
          cases this
      refine q ⟨a.x, a.dx, a.pd, a.ins ++ [(name, p3)]⟩ _ ⟨k6 _ _ (s5 _ _ eDx) (by simpa using Ne.symm np3x), k6 _ _ (s5 _ _ eD) (by simpa using Ne.symm np3), ?_, ?_, fun r hr' => ?_, fun k hk => ?_, ⟨?_, fun k => ?_⟩⟩ rfl (fun b hb => ?_) (fun b o e hb => ?_)
      · rw [List.map_append, List.nodup_append]
        exact ⟨B.knd, by simp, fun x hx y hy z => by simp at hy; subst hy; subst z; exact hnin hx⟩
      · rw [List.map_append, List.nodup_append]
        refine ⟨B.and_, by simp, fun x hx y hy z => ?_⟩
        simp at hy
        subst hy
        subst z
        obtain ⟨r, hr', e⟩ := List.mem_map.mp hx
        exact hold r hr' e
      · rcases List.mem_append.mp hr' with hr' | hr'
        · obtain ⟨ys, f1, f2, f3⟩ := at2 r hr'
          have n1' : r.1 ≠ name := fun z => hnin (by rw [← z]; exact List.mem_map_of_mem hr')
          refine ⟨ys, k6 _ _ (s5 _ _ (kD _ _ (s3 _ _ f1) (by simpa using hpd r hr'))) (by simpa using hold r hr'), ?_, f3⟩
          show Paired _ _ (if r.1 = name then st.d name ++ [(turn, h)] else st.d r.1)
          rw [if_neg n1']
          exact Paired.mapP f2 fun _ _ z => (RDd.keep (S := []) ((RDd.keep (S := []) z s3.keep (fun _ z => nomatch z)).keep kD nTD) s5.keep (fun _ z => nomatch z)).keep k6 nT6
        · rw [List.mem_singleton] at hr'
          subst hr'
          refine ⟨_, upd_same, ?_, by simp⟩
          show Paired _ _ (if name = name then st.d name ++ [(turn, h)] else st.d name)
          rw [if_pos rfl, B.no name hnin]
          exact .cons (RDd.keep ⟨p5, rfl, e5⟩ k6 nT6) .nil
      · rw [List.map_append, List.mem_append, not_or] at hk
        have hkn : k ≠ name := fun z => hk.2 (by simp [z])
        show (if k = name then st.d name ++ [(turn, h)] else st.d k) = []
        rw [if_neg hkn]
        exact B.no k hk.1
      · rw [List.length_append, List.length_singleton]
        have := B.len.1
        omega
      · show (if k = name then st.d name ++ [(turn, h)] else st.d k).length ≤ n + 1
        split
        · rw [List.length_append, List.length_singleton]
          have := B.len.2 name
          omega
        · have := B.len.2 k; omega
      · unfold badr at hb ⊢
        dsimp only at hb
        rw [List.map_append] at hb
        simp only [List.mem_cons, List.mem_append, List.map_cons, List.map_nil, List.not_mem_nil, or_false] at hb ⊢
        rcases hb with z | z | z | z
        · exact .inl (.inl z)
        · exact .inl (.inr (.inl z))
        · exact .inl (.inr (.inr z))
        · rw [z]; exact .inr hfr
      · have hb1 : b ≠ a.x := fun z => hb (by rw [z]; exact .head _)
        have hb2 : b ≠ a.pd := fun z => hb (by rw [z]; exact List.mem_cons_of_mem _ (.head _))
        have hb3 : b ≠ p3 := fun z => by rw [z, hfr] at e; cases e
        exact k6 _ _ (s5 _ _ (kD _ _ (k03 _ _ e (by simpa using hb1)) (by simpa using hb2))) (by simpa using hb3)
def sp_bfree (ok : Str → Prop) (C : Addr) : Sp := fun vs H Q E => ∃ (x : Addr) (name : Str) (turn : Int), vs = [.ref x, .str name, .int turn] ∧ (∃ dx fs, H x = some (.ins C dx fs) ∧ List.lookup (Str.ofString "bind") fs = none) ∧ sp_bbind ok C [.ref x, .str name, .non, .int turn] H Q E
theorem own_bfree {ok : Str → Prop} (D : DefM K C "free" "Book.free" s_Book_free) (T_Book : ClsD K mg "Book" C at_Book) (M_Book_bind : OwnM P w K mg base 3 C "bind" ["self", "name", "hand", "turn"] (sp_bbind ok C)) : OwnM P w K mg base 4 C "free" ["self", "name", "turn"] (sp_bfree ok C) := by
  refine D.own sc_Book_free (fun _ _ _ _ _ _ us hl => match us, hl with | [_, _, _], _ => rfl) (fun vs H Q E h => ?_) (fun f cdv A outer s H vs Q E hr h => ?_)
  · obtain ⟨x, name, turn, rfl, _⟩ := h
    rfl
  · obtain ⟨x, name, turn, rfl, ⟨dx, fs, ex, hfs⟩, h⟩ := h
    have hu := hr.units
    have hu1 : (A.deeper (PyProof.Rows.envOfC "Book.free" (defScope s_Book_free) s.heap.objs.size f cdv)).units + 1 < cLine := by omega
    refine ⟨_, (@pss_one _ _ _ (@ps_expr _ _ _ _ (@pe_mth _ _ _ _ _ _ _ _ _ _ _ _ _ _ _ M_Book_bind T_Book.cl hr (@pv _ 0 _ _ (by rfl) (by first | exact Or.inl rfl | exact Or.inr (Or.inl rfl) | exact Or.inr (Or.inr rfl)) (by decide) (by decide)) (@pa_cX _ _ _ _ _ (@pv _ 1 _ _ (by rfl) (by first | exact Or.inl rfl | exact Or.inr (Or.inl rfl) | exact Or.inr (Or.inr rfl)) (by decide) (by decide)) (@pa_cX _ _ _ _ _ (@pe_non _ _ _) (@pa_cX _ _ _ _ _ (@pv _ 2 _ _ (by rfl) (by first | exact Or.inl rfl | exact Or.inr (Or.inl rfl) | exact Or.inr (Or.inr rfl)) (by decide) (by decide)) (@pa_nil _) (by rfl)) (by rfl)) (by rfl)) (by decide) (by rfl) (by rfl) (by rfl)) (by rfl))), ?_⟩
    simp (maxSteps := 1000000) only [Nat.reduceSub, HO.ins.injEq, Nat.reduceAdd, tMeth, exists_and_left, tVar, tC, tCons, tNil, tDrop, L2.start, List.map_cons, List.map_nil, List.length_cons, List.length_nil, List.replicate, List.getElem?_cons_zero, List.getElem?_cons_succ, Option.some.injEq, exists_eq_left', V.ref.injEq, true_and, and_assoc, List.append_nil, ex, hfs]
    obtain ⟨n, a, st, nm, hh, tu, e, B, h1, h2, h3, q⟩ := h
    refine ⟨n, a, st, nm, hh, tu, e, B, h1, h2, h3, fun a' H' B' g1 g2 g3 => ?_⟩
    exact q a' H' B' g1 g2 g3
abbrev s_is_name : Stmt := top 10
theorem sc_is_name : FnScope ["thing"] ["thing"] (defScope s_is_name) := ⟨rfl, rfl, rfl, by decide +kernel, rfl, by decide +kernel, by decide +kernel⟩
def nm (z : Str) : Bool := txt z 8 97 122
theorem let_a : Str.ofString "a" = one 97 := by decide
theorem let_z : Str.ofString "z" = one 122 := by decide
/-- a name that stands -/
theorem nm_len {z : Str} (h : nm z = true) : z.length ≤ 8 := by simp [nm, txt] at h; omega
theorem own_isn (D : Def K mg "is_name" s_is_name) (g_MOST_LETTERS : ∃ u, mg "MOST_LETTERS" = some u ∧ RelV (.int 8) u) (F_is_text_of : Own P w K mg base 1 "is_text_of" ["thing", "most", "first", "last"] sp_text) : Own P w K mg base 2 "is_name" ["thing"] (sp_isn fun z => nm z = true) := by
  refine D.own sc_is_name (fun _ _ _ _ _ _ us hl => match us, hl with | [_], _ => rfl) (fun vs H Q E h => ?_) (fun f cdv A outer s H vs Q E hr h => ?_)
  · obtain ⟨z, rfl, _⟩ := h
    rfl
  · obtain ⟨z, rfl, hz, q⟩ := h
    have hu := hr.units
    have hu1 : (A.deeper (PyProof.Rows.envOfC "is_name" (defScope s_is_name) s.heap.objs.size f cdv)).units + 1 < cLine := by omega
    have hzl := nm_len hz
    refine ⟨_, (@pss_one _ _ _ (@ps_ret _ _ _ _ (@pe_fn _ _ _ _ _ _ _ _ _ _ _ F_is_text_of hr (@pa_cX _ _ _ _ _ (@pv _ 0 _ _ (by rfl) (by first | exact Or.inl rfl | exact Or.inr (Or.inl rfl) | exact Or.inr (Or.inr rfl)) (by decide) (by decide)) (@pa_cX _ _ _ _ _ (@pe_glb _ _ _ _ g_MOST_LETTERS (by rfl) (by decide)) (@pa_cX _ _ _ _ _ (@pe_str _ _ _ _) (@pa_cX _ _ _ _ _ (@pe_str _ _ _ _) (@pa_nil _) (by rfl)) (by rfl)) (by rfl)) (by rfl)) (by decide) (by rfl) (by decide) (by rfl) (by rfl)))), ?_⟩
    simp (maxSteps := 1000000) only [Nat.reduceSub, Nat.reduceAdd, tVar, tC, tRet, tCall, tCons, tNil, L2.start, List.map_cons, List.map_nil, List.length_cons, List.length_nil, List.replicate, List.getElem?_cons_zero, Option.some.injEq, exists_eq_left', List.append_nil]
    refine ⟨.str z, 8, 97, 122, "str", ?_, by decide, rfl, fun z' e => by cases e; omega, fun H' s' => ?_⟩
    · rw [← let_a, ← let_z]
      rfl
    · show Q (.bl (nm z)) H'
      rw [hz]
      exact q H' s'
end
section
variable {P : Program} {w : World} {K : PySem.W.Frag} {mg : Str → Option Value} {base : Heap}
abbrev at_Near : List Str := ["keep", "answers"]
def fs_Near (a0 a1 : V) : List (Str × V) := [("keep", a0), ("answers", a1)]
section
variable {a0 a1 : V}
theorem fs_Near_keep : (fs_Near a0 a1).lookup ("keep" : Str) = some a0 := rfl
theorem fs_Near_answers : (fs_Near a0 a1).lookup ("answers" : Str) = some a1 := rfl
theorem fn_Near_put : (fs_Near a0 a1).lookup ("put" : Str) = none := rfl
theorem fn_Near_is_fresh : (fs_Near a0 a1).lookup ("is_fresh" : Str) = none := rfl
theorem fn_Near_find : (fs_Near a0 a1).lookup ("find" : Str) = none := rfl
theorem fq_Near_0 {v : V} : putF "keep" v ([] : List (Str × V)) = ([("keep", v)] : List (Str × V)) := by with_unfolding_all rfl
theorem fq_Near_1 {v : V} : putF "answers" v ([("keep", a0)] : List (Str × V)) = fs_Near a0 v := by with_unfolding_all rfl
end
abbrev s_Near___init__ : Stmt := inClass (top 12) 0
theorem sc_Near___init__ : FnScope ["self", "keep"] ["self", "keep"] (defScope s_Near___init__) := ⟨rfl, rfl, rfl, by decide +kernel, rfl, by decide +kernel, by decide +kernel⟩
abbrev s_Near_put : Stmt := inClass (top 12) 1
theorem sc_Near_put : FnScope ["self", "name", "hand", "asked"] ["self", "name", "hand", "asked"] (defScope s_Near_put) := ⟨rfl, rfl, rfl, by decide +kernel, rfl, by decide +kernel, by decide +kernel⟩
abbrev s_Near_is_fresh : Stmt := inClass (top 12) 2
theorem sc_Near_is_fresh : FnScope ["self", "name", "turn"] ["self", "name", "turn"] (defScope s_Near_is_fresh) := ⟨rfl, rfl, rfl, by decide +kernel, rfl, by decide +kernel, by decide +kernel⟩
abbrev s_Near_find : Stmt := inClass (top 12) 3
theorem sc_Near_find : FnScope ["self", "name", "turn"] ["self", "name", "turn"] (defScope s_Near_find) := ⟨rfl, rfl, rfl, by decide +kernel, rfl, by decide +kernel, by decide +kernel⟩
/-! ### answers kept near -/
abbrev Mp := Str → Option (Option Int × Int)
theorem putK_keys {kvs : List (Key × V)} {k : Key} {v u : V} (h : valV kvs k = some u) : (putK kvs k v).map (·.1) = kvs.map (·.1) := by
  unfold putK
  rw [valV_any, h]
  simp only [Option.isSome_some, if_true, List.map_map]
  apply List.map_congr_left
  intro q _
  show (if q.1 = k then (q.1, v) else q).1 = q.1
  split <;> rfl
theorem nd_put {kvs : List (Key × V)} {k : Key} {v : V} (hn : (kvs.map (·.1)).Nodup) : ((putK kvs k v).map (·.1)).Nodup := by
  cases h : valV kvs k with
  | none => exact nd_putK v hn h
  | some u => rw [putK_keys h]; exact hn
theorem putK_key {kvs : List (Key × V)} {k : Key} {v : V} {q : Key × V} (h : q ∈ putK kvs k v) : q.1 = k ∨ q.1 ∈ kvs.map (·.1) := by
  cases e : valV kvs k with
  | none =>
    rw [putK_new v e] at h
    rcases List.mem_append.mp h with h | h
    · exact .inr (List.mem_map_of_mem h)
    · rw [List.mem_singleton] at h
      exact .inl (by rw [h])
  | some u =>
    have : q.1 ∈ (putK kvs k v).map (·.1) := List.mem_map_of_mem h
    rw [putK_keys e] at this
    exact .inr this
def Lk (H : Hp) (kvs : List (Key × V)) (m : Mp) : Prop := ∀ z, match m z with
  | none => valV kvs (Sum.inr z) = none
  | some (h, t) => ∃ p, valV kvs (Sum.inr z) = some (.ref p) ∧ H p = some (.tup [optV h, .int t])
structure NearAt (C : Addr) (H : Hp) (x dx pg : Addr) (kp : Int) (kvs : List (Key × V)) (m : Mp) : Prop where
  ins : H x = some (.ins C dx (fs_Near (.int kp) (.ref pg)))
  dic : H pg = some (.dK kvs)
  lk : Lk H kvs m
  nd : (kvs.map (·.1)).Nodup
  ks : ∀ q ∈ kvs, ∃ z, q.1 = Sum.inr z
theorem Lk.keep {S : List Addr} {H H' : Hp} {kvs : List (Key × V)} {m : Mp} (h : Lk H kvs m) (k : Keep S H H') (hs : ∀ b ∈ S, NoT H b) : Lk H' kvs m := fun z => by
  have := h z
  cases e : m z with
  | none => rw [e] at this; exact this
  | some q =>
    rw [e] at this
    obtain ⟨p, h1, h2⟩ := this
    exact ⟨p, h1, k _ _ h2 fun hp => hs p hp _ h2⟩
section
variable {C : Addr}
theorem NearAt.keep {S : List Addr} {H H' : Hp} {x dx pg : Addr} {kp : Int} {kvs : List (Key × V)} {m : Mp} (h : NearAt C H x dx pg kp kvs m) (k : Keep S H H') (hs : ∀ b ∈ S, NoT H b) (n1 : x ∉ S) (n2 : pg ∉ S) : NearAt C H' x dx pg kp kvs m :=
  ⟨k _ _ h.ins n1, k _ _ h.dic n2, h.lk.keep k hs, h.nd, h.ks⟩
theorem NearAt.same {H H' : Hp} {x dx pg : Addr} {kp : Int} {kvs : List (Key × V)} {m : Mp} (h : NearAt C H x dx pg kp kvs m) (s : Same H H') : NearAt C H' x dx pg kp kvs m :=
  h.keep (S := []) s.keep (fun _ z => nomatch z) (by simp) (by simp)
def sp_ninit (C : Addr) : Sp := fun vs H Q _ => ∃ (x dx : Addr) (kp : Int), vs = [.ref x, .int kp] ∧ H x = some (.ins C dx []) ∧ ∀ pg H', H pg = none → NearAt C H' x dx pg kp [] (fun _ => none) → Keep [x] H H' → Q .non H'
theorem own_ninit (D : DefI K C "Near.__init__" s_Near___init__) (T_Near : ClsD K mg "Near" C at_Near) : OwnI P w K mg base 1 C ["self", "keep"] (sp_ninit C) := by
  refine D.own sc_Near___init__ (fun _ _ _ _ _ _ us hl => match us, hl with | [_, _], _ => rfl) (fun vs H Q E h => ?_) (fun f cdv A outer s H vs Q E hr h => ?_)
  · obtain ⟨x, dx, kp, rfl, _⟩ := h
    rfl
  · obtain ⟨x, dx, kp, rfl, e, q⟩ := h
    refine ⟨_, (@pss_cons _ _ _ _ _ (@ps_fld _ _ _ _ _ _ _ _ (@pv _ 0 _ _ (by rfl) (by first | exact Or.inl rfl | exact Or.inr (Or.inl rfl) | exact Or.inr (Or.inr rfl)) (by decide) (by decide)) (@pv _ 1 _ _ (by rfl) (by first | exact Or.inl rfl | exact Or.inr (Or.inl rfl) | exact Or.inr (Or.inr rfl)) (by decide) (by decide)) rfl) (@pss_one _ _ _ (@ps_fld _ _ _ _ _ _ _ _ (@pv _ 0 _ _ (by rfl) (by first | exact Or.inl rfl | exact Or.inr (Or.inl rfl) | exact Or.inr (Or.inr rfl)) (by decide) (by decide)) (@pe_dnewK _ _) rfl))), ?_⟩
    simp (maxSteps := 1000000) only [tDNewK, Nat.reduceSub, Nat.reduceLT, HO.ins.injEq, Nat.reduceAdd, sFld, cxOf_K, tSeq, exists_and_left, tVar, L2.start, List.map_cons, List.map_nil, List.length_cons, List.length_nil, List.replicate, List.getElem?_cons_zero, List.getElem?_cons_succ, Option.some.injEq, exists_eq_left', V.ref.injEq, true_and, and_assoc, List.append_nil, e, T_Near.cl, T_Near.no "keep" (by decide), fq_Near_0]
    generalize z0 : upd H x _ = H0
    have e0 := (congrFun z0.symm x).trans upd_same
    have k0 : Keep [x] H H0 := by rw [← z0]; exact Keep.refl.upd (.inl (.head _))
    intro p1 n1
    generalize z1 : upd H0 p1 _ = H1
    obtain ⟨s1, e1⟩ := new_same z1 n1
    have ex1 := s1 _ _ e0
    simp (maxSteps := 1000000) only [Nat.reduceLT, HO.ins.injEq, Nat.reduceAdd, exists_and_left, List.length_cons, List.length_nil, Option.some.injEq, exists_eq_left', true_and, and_assoc, ex1, T_Near.cl, T_Near.no "answers" (by decide), fq_Near_1]
    have nx1 : p1 ≠ x := fun z => by subst z; rw [e0] at n1; cases n1
    exact q p1 _ (k0.free n1 (by simpa using nx1)) ⟨upd_same, by rw [upd_ne nx1]; exact e1, fun z => valV_nil, List.nodup_nil, fun q hq => nomatch hq⟩ ((k0.same s1).upd (.inl (.head _)))
/-- what is kept behind an answer -/
def newM (m : Mp) (z : Str) (h : Option Int) (t : Int) : Mp := fun y => if y = z ∧ (match m z with | none => true | some (_, t0) => decide (t0 < t)) = true then some (h, t) else m y
def sp_nput (C : Addr) : Sp := fun vs H Q _ => ∃ (x dx pg : Addr) (kp t : Int) (z : Str) (h : Option Int) (kvs : List (Key × V)) (m : Mp), vs = [.ref x, .str z, optV h, .int t] ∧ NearAt C H x dx pg kp kvs m ∧ kvs.length ≤ 1000 ∧
  ∀ kvs' H', NearAt C H' x dx pg kp kvs' (newM m z h t) → kvs'.length ≤ kvs.length + 1 → Keep [pg] H H' → Q .non H'
theorem own_nput (D : DefM K C "put" "Near.put" s_Near_put) (hb : Blt mg) (T_Near : ClsD K mg "Near" C at_Near) : OwnM P w K mg base 1 C "put" ["self", "name", "hand", "asked"] (sp_nput C) := by
  refine D.own sc_Near_put (fun _ _ _ _ _ _ us hl => match us, hl with | [_, _, _, _], _ => rfl) (fun vs H Q E h => ?_) (fun f cdv A outer s H vs Q E hr h => ?_)
  · obtain ⟨x, dx, pg, kp, t, z, h, kvs, m, rfl, _⟩ := h
    rfl
  · obtain ⟨x, dx, pg, kp, t, z, h, kvs, m, rfl, O, hl, q⟩ := h
    have hu := hr.units
    have hu1 : (A.deeper (PyProof.Rows.envOfC "Near.put" (defScope s_Near_put) s.heap.objs.size f cdv)).units + 1 < cLine := by omega
    have ex := O.ins
    have ed := O.dic
    refine ⟨_, (@pss_one _ _ _ (@ps_if _ _ _ _ _ _ _ _ (@PW.pt _ _ _ (@pw_or _ _ _ _ _ _ _ (@pt_cmpR _ _ _ _ _ _ _ _ (op_notinX hu1) (@pv _ 1 _ _ (by rfl) (by first | exact Or.inl rfl | exact Or.inr (Or.inl rfl) | exact Or.inr (Or.inr rfl)) (by decide) (by decide)) (@pe_fldK _ K _ _ _ _ (@pv _ 0 _ _ (by rfl) (by first | exact Or.inl rfl | exact Or.inr (Or.inl rfl) | exact Or.inr (Or.inr rfl)) (by decide) (by decide)) (by rfl) (by rfl)) rfl) (@pw_or1 _ _ _ _ (@pt_cmpR _ _ _ _ _ _ _ _ op_lt (@pe_ix _ _ _ _ _ _ _ (ix_get hu1) (@pe_ix _ _ _ _ _ _ _ (ix_get hu1) (@pe_fldK _ K _ _ _ _ (@pv _ 0 _ _ (by rfl) (by first | exact Or.inl rfl | exact Or.inr (Or.inl rfl) | exact Or.inr (Or.inr rfl)) (by decide) (by decide)) (by rfl) (by rfl)) (@pv _ 1 _ _ (by rfl) (by first | exact Or.inl rfl | exact Or.inr (Or.inl rfl) | exact Or.inr (Or.inr rfl)) (by decide) (by decide)) (fun _ _ => rfl)) (@pe_int _ _ _ _) (fun _ _ => rfl)) (@pv _ 3 _ _ (by rfl) (by first | exact Or.inl rfl | exact Or.inr (Or.inl rfl) | exact Or.inr (Or.inr rfl)) (by decide) (by decide)) (nomark _))))) (@pss_one _ _ _ (@ps_asg _ _ _ _ _ _ (@pe_tup _ _ _ _ _ (@pa_cX _ _ _ _ _ (@pv _ 2 _ _ (by rfl) (by first | exact Or.inl rfl | exact Or.inr (Or.inl rfl) | exact Or.inr (Or.inr rfl)) (by decide) (by decide)) (@pa_cX _ _ _ _ _ (@pv _ 3 _ _ (by rfl) (by first | exact Or.inl rfl | exact Or.inr (Or.inl rfl) | exact Or.inr (Or.inr rfl)) (by decide) (by decide)) (@pa_nil _) (by rfl)) (by rfl))) (@pg_sub _ _ _ _ _ _ _ (@pe_fldK _ K _ _ _ _ (@pv _ 0 _ _ (by rfl) (by first | exact Or.inl rfl | exact Or.inr (Or.inl rfl) | exact Or.inr (Or.inr rfl)) (by decide) (by decide)) (by rfl) (by rfl)) (@pv _ 1 _ _ (by rfl) (by first | exact Or.inl rfl | exact Or.inr (Or.inl rfl) | exact Or.inr (Or.inr rfl)) (by decide) (by decide)) (@set_x _ hu1) (by intro _; rfl)) (by rfl) (by rfl) (by rfl))) (@pss_nil _))), ?_⟩
    have nxg : x ≠ pg := ne_of ex ed (by intro z; cases z)
    have hln : kvs.length < sizeLine := by rw [sizeLine_eq]; omega
    have fin : ∀ p H1, Same H H1 → H1 p = some (.tup [optV h, .int t]) → (match m z with | none => true | some (_, t0) => decide (t0 < t)) = true → Q .non (upd H1 pg (.dK (putK kvs (Sum.inr z) (.ref p)))) := fun p H1 s1 e1 hc => by
      have O1 := O.same s1
      have npg : p ≠ pg := ne_of e1 O1.dic (by intro z; cases z)
      refine q _ _ ⟨by rw [upd_ne nxg]; exact O1.ins, upd_same, fun y => ?_, nd_put O.nd, fun r hr => ?_⟩ (length_putK _ _ _) (s1.keep.upd (.inl (.head _)))
      · by_cases hy : y = z
        · have : newM m z h t y = some (h, t) := if_pos ⟨hy, hc⟩
          rw [this]
          exact ⟨p, by rw [valV_put, hy, if_pos rfl], by rw [upd_ne npg]; exact e1⟩
        · have : newM m z h t y = m y := if_neg (fun w => hy w.1)
          rw [this]
          have l1 := O1.lk y
          cases em : m y with
          | none =>
            rw [em] at l1
            show valV _ _ = none
            rw [valV_put, if_neg (by intro w; cases w; exact hy rfl)]
            exact l1
          | some r =>
            rw [em] at l1
            obtain ⟨p2, h1, h2⟩ := l1
            exact ⟨p2, by rw [valV_put, if_neg (by intro w; cases w; exact hy rfl)]; exact h1, by rw [upd_ne (ne_of h2 O1.dic (by intro z; cases z))]; exact h2⟩
      · rcases putK_key hr with e | e
        · exact ⟨z, e⟩
        · obtain ⟨r2, h1, h2⟩ := List.mem_map.mp e
          obtain ⟨y, hy⟩ := O.ks r2 h1
          exact ⟨y, by rw [← h2]; exact hy⟩
    have l0 := O.lk z
    simp (maxSteps := 1000000) only [rGet, getO_ds, rNotInX, inO_ds, rSetX, gSub, Nat.reduceSub, HO.ins.injEq, Nat.reduceAdd, tFld, exists_and_left, if_true, tIfS, tOr, tTest, tOp, tVar, tC, rI0, tAsg, tNext, tCons, tNil, tTup, L2.start, List.map_cons, List.map_nil, List.length_cons, List.length_nil, List.replicate, List.getElem?_cons_zero, List.getElem?_cons_succ, Option.some.injEq, exists_eq_left', V.int.injEq, V.bl.injEq, V.ref.injEq, true_and, and_assoc, List.append_nil, ex, ed, T_Near.cl, T_Near.no "answers" (by decide), fs_Near_answers]
    cases em : m z with
    | none =>
      rw [em] at l0 fin
      have l0 : valV kvs (Sum.inr z) = none := l0
      simp (maxSteps := 1000000) only [Bool.not_false, if_true, reduceCtorEq, false_and, exists_false, l0, Option.isSome_none]
      refine ⟨by decide, ?_⟩
      intro p1 n1
      generalize z1 : upd H p1 _ = H1
      obtain ⟨s1, e1⟩ := new_same z1 n1
      have ex1 := s1 _ _ ex
      have ed1 := s1 _ _ ed
      simp (maxSteps := 1000000) only [setO_ds', HO.ins.injEq, exists_and_left, if_true, Option.some.injEq, exists_eq_left', V.ref.injEq, true_and, and_assoc, ex1, ed1, T_Near.cl, T_Near.no "answers" (by decide), fs_Near_answers, hln]
      exact fin p1 H1 s1 e1 rfl
    | some r =>
      obtain ⟨h0, t0⟩ := r
      rw [em] at l0 fin
      obtain ⟨p, l1, l2⟩ := l0
      simp (maxSteps := 1000000) only [getO_t, atI_1, Option.isSome_some, Bool.not_true, if_false, Bool.false_eq_true, Option.some.injEq, exists_eq_left', V.int.injEq, V.ref.injEq, l1, l2, Option.isSome_some]
      by_cases hc : t0 < t
      · simp (maxSteps := 1000000) only [decide_true, if_true, hc]
        refine ⟨by decide, ?_⟩
        intro p1 n1
        generalize z1 : upd H p1 _ = H1
        obtain ⟨s1, e1⟩ := new_same z1 n1
        have ex1 := s1 _ _ ex
        have ed1 := s1 _ _ ed
        simp (maxSteps := 1000000) only [setO_ds', HO.ins.injEq, exists_and_left, if_true, Option.some.injEq, exists_eq_left', V.ref.injEq, true_and, and_assoc, ex1, ed1, T_Near.cl, T_Near.no "answers" (by decide), fs_Near_answers, hln]
        exact fin p1 H1 s1 e1 (decide_eq_true hc)
      · simp (maxSteps := 1000000) only [decide_false, if_false, Bool.false_eq_true, hc]
        have e : newM m z h t = m := by
          funext y
          exact if_neg (fun w => by have := w.2; rw [em] at this; exact hc (of_decide_eq_true this))
        exact q kvs H (by rw [e]; exact O) (by omega) (Keep.refl)
def sp_fresh (C : Addr) : Sp := fun vs H Q _ => ∃ (x dx pg : Addr) (kp t : Int) (z : Str) (h : Option Int) (t0 : Int) (kvs : List (Key × V)) (m : Mp), vs = [.ref x, .str z, .int t] ∧ NearAt C H x dx pg kp kvs m ∧ m z = some (h, t0) ∧ Q (.bl (decide (t - t0 ≤ kp))) H
theorem own_fresh (D : DefM K C "is_fresh" "Near.is_fresh" s_Near_is_fresh) (hb : Blt mg) (T_Near : ClsD K mg "Near" C at_Near) : OwnM P w K mg base 1 C "is_fresh" ["self", "name", "turn"] (sp_fresh C) := by
  refine D.own sc_Near_is_fresh (fun _ _ _ _ _ _ us hl => match us, hl with | [_, _, _], _ => rfl) (fun vs H Q E h => ?_) (fun f cdv A outer s H vs Q E hr h => ?_)
  · obtain ⟨x, dx, pg, kp, t, z, h, t0, kvs, m, rfl, _⟩ := h
    rfl
  · obtain ⟨x, dx, pg, kp, t, z, h, t0, kvs, m, rfl, O, em, q⟩ := h
    have hu := hr.units
    have hu1 : (A.deeper (PyProof.Rows.envOfC "Near.is_fresh" (defScope s_Near_is_fresh) s.heap.objs.size f cdv)).units + 1 < cLine := by omega
    have ex := O.ins
    have ed := O.dic
    have l0 := O.lk z
    rw [em] at l0
    obtain ⟨p, l1, l2⟩ := l0
    refine ⟨_, (@pss_one _ _ _ (@ps_ret _ _ _ _ (@pe_cmpR _ _ _ _ _ _ _ _ op_le (@pe_op _ _ _ _ _ _ _ _ op_sub (@pv _ 2 _ _ (by rfl) (by first | exact Or.inl rfl | exact Or.inr (Or.inl rfl) | exact Or.inr (Or.inr rfl)) (by decide) (by decide)) (@pe_ix _ _ _ _ _ _ _ (ix_get hu1) (@pe_ix _ _ _ _ _ _ _ (ix_get hu1) (@pe_fldK _ K _ _ _ _ (@pv _ 0 _ _ (by rfl) (by first | exact Or.inl rfl | exact Or.inr (Or.inl rfl) | exact Or.inr (Or.inr rfl)) (by decide) (by decide)) (by rfl) (by rfl)) (@pv _ 1 _ _ (by rfl) (by first | exact Or.inl rfl | exact Or.inr (Or.inl rfl) | exact Or.inr (Or.inr rfl)) (by decide) (by decide)) (fun _ _ => rfl)) (@pe_int _ _ _ _) (fun _ _ => rfl))) (@pe_fldK _ K _ _ _ _ (@pv _ 0 _ _ (by rfl) (by first | exact Or.inl rfl | exact Or.inr (Or.inl rfl) | exact Or.inr (Or.inr rfl)) (by decide) (by decide)) (by rfl) (by rfl)) (nomark _)))), ?_⟩
    simp (maxSteps := 1000000) only [rGet, getO_t, getO_ds, atI_1, Nat.reduceSub, HO.ins.injEq, Nat.reduceAdd, tFld, exists_and_left, tOp, tVar, tC, rI0, tRet, L2.start, List.map_cons, List.map_nil, List.length_cons, List.length_nil, List.replicate, List.getElem?_cons_zero, List.getElem?_cons_succ, Option.some.injEq, exists_eq_left', V.int.injEq, V.ref.injEq, true_and, and_assoc, List.append_nil, ex, ed, T_Near.cl, T_Near.no "keep" (by decide), T_Near.no "answers" (by decide), fs_Near_keep, fs_Near_answers, l1, l2]
    exact q
/-- what is found -/
def fnd (m : Mp) (kp : Int) (z : Str) (t : Int) : Option Int := match m z with
  | none => none
  | some (h, t0) => if t - t0 ≤ kp then h else none
def sp_find (C : Addr) : Sp := fun vs H Q _ => ∃ (x dx pg : Addr) (kp t : Int) (z : Str) (kvs : List (Key × V)) (m : Mp), vs = [.ref x, .str z, .int t] ∧ NearAt C H x dx pg kp kvs m ∧ Q (optV (fnd m kp z t)) H
theorem own_find (D : DefM K C "find" "Near.find" s_Near_find) (hb : Blt mg) (T_Near : ClsD K mg "Near" C at_Near) (M_Near_is_fresh : OwnM P w K mg base 1 C "is_fresh" ["self", "name", "turn"] (sp_fresh C)) : OwnM P w K mg base 2 C "find" ["self", "name", "turn"] (sp_find C) := by
  refine D.own sc_Near_find (fun _ _ _ _ _ _ us hl => match us, hl with | [_, _, _], _ => rfl) (fun vs H Q E h => ?_) (fun f cdv A outer s H vs Q E hr h => ?_)
  · obtain ⟨x, dx, pg, kp, t, z, kvs, m, rfl, _⟩ := h
    rfl
  · obtain ⟨x, dx, pg, kp, t, z, kvs, m, rfl, O, q⟩ := h
    have hu := hr.units
    have hu1 : (A.deeper (PyProof.Rows.envOfC "Near.find" (defScope s_Near_find) s.heap.objs.size f cdv)).units + 1 < cLine := by omega
    have ex := O.ins
    have ed := O.dic
    have l0 := O.lk z
    refine ⟨_, (@pss_cons _ _ _ _ _ (@ps_if _ _ _ _ _ _ _ _ (@PW.pt _ _ _ (@pw_and _ _ _ _ _ _ _ (@pt_cmpR _ _ _ _ _ _ _ _ (op_inX hu1) (@pv _ 1 _ _ (by rfl) (by first | exact Or.inl rfl | exact Or.inr (Or.inl rfl) | exact Or.inr (Or.inr rfl)) (by decide) (by decide)) (@pe_fldK _ K _ _ _ _ (@pv _ 0 _ _ (by rfl) (by first | exact Or.inl rfl | exact Or.inr (Or.inl rfl) | exact Or.inr (Or.inr rfl)) (by decide) (by decide)) (by rfl) (by rfl)) rfl) (@pw_and1 _ _ _ _ (@pt_truX _ _ _ (@pe_mth _ _ _ _ _ _ _ _ _ _ _ _ _ _ _ M_Near_is_fresh T_Near.cl hr (@pv _ 0 _ _ (by rfl) (by first | exact Or.inl rfl | exact Or.inr (Or.inl rfl) | exact Or.inr (Or.inr rfl)) (by decide) (by decide)) (@pa_cX _ _ _ _ _ (@pv _ 1 _ _ (by rfl) (by first | exact Or.inl rfl | exact Or.inr (Or.inl rfl) | exact Or.inr (Or.inr rfl)) (by decide) (by decide)) (@pa_cX _ _ _ _ _ (@pv _ 2 _ _ (by rfl) (by first | exact Or.inl rfl | exact Or.inr (Or.inl rfl) | exact Or.inr (Or.inr rfl)) (by decide) (by decide)) (@pa_nil _) (by rfl)) (by rfl)) (by decide) (by rfl) (by rfl) (by rfl)) (by intro _; rfl))))) (@pss_one _ _ _ (@ps_ret _ _ _ _ (@pe_ix _ _ _ _ _ _ _ (ix_get hu1) (@pe_ix _ _ _ _ _ _ _ (ix_get hu1) (@pe_fldK _ K _ _ _ _ (@pv _ 0 _ _ (by rfl) (by first | exact Or.inl rfl | exact Or.inr (Or.inl rfl) | exact Or.inr (Or.inr rfl)) (by decide) (by decide)) (by rfl) (by rfl)) (@pv _ 1 _ _ (by rfl) (by first | exact Or.inl rfl | exact Or.inr (Or.inl rfl) | exact Or.inr (Or.inr rfl)) (by decide) (by decide)) (fun _ _ => rfl)) (@pe_int _ _ _ _) (fun _ _ => rfl)))) (@pss_nil _)) (@pss_one _ _ _ (@ps_ret _ _ _ _ (@pe_non _ _ _)))), ?_⟩
    simp (maxSteps := 1000000) only [rGet, getO_ds, tTruX, rInX, inO_ds, Nat.reduceSub, HO.ins.injEq, Nat.reduceAdd, tMeth, tFld, tSeq, exists_and_left, if_false, Bool.false_eq_true, tIfS, tAnd, tTest, tOp, tVar, tC, tRet, tNext, tCons, tNil, L2.start, List.map_cons, List.map_nil, List.length_cons, List.length_nil, List.replicate, List.getElem?_cons_zero, List.getElem?_cons_succ, Option.some.injEq, exists_eq_left', V.bl.injEq, V.ref.injEq, true_and, and_assoc, List.append_nil, ex, ed, T_Near.cl, T_Near.no "answers" (by decide), fs_Near_answers, fn_Near_is_fresh]
    unfold fnd at q
    cases em : m z with
    | none =>
      rw [em] at l0 q
      have l0 : valV kvs (Sum.inr z) = none := l0
      simp (maxSteps := 1000000) only [if_false, Bool.false_eq_true, l0, Option.isSome_none]
      exact q
    | some r =>
      obtain ⟨h0, t0⟩ := r
      rw [em] at l0 q
      obtain ⟨p, l1, l2⟩ := l0
      simp (maxSteps := 1000000) only [Option.isSome_some, if_true, l1, Option.isSome_some]
      refine ⟨x, dx, pg, kp, t, z, h0, t0, kvs, m, rfl, O, em, ?_⟩
      by_cases hc : t - t0 ≤ kp
      · simp only [hc, if_true] at q
        simp (maxSteps := 1000000) only [getO_t, getO_ds, truX_b, atI_0, HO.ins.injEq, decide_true, exists_and_left, if_true, Option.some.injEq, exists_eq_left', V.ref.injEq, true_and, and_assoc, hc, ex, ed, T_Near.cl, T_Near.no "answers" (by decide), fs_Near_answers, l1, l2]
        exact q
      · simp only [hc, if_false] at q
        simp (maxSteps := 1000000) only [truX_b, decide_false, if_false, Bool.false_eq_true, Option.some.injEq, exists_eq_left', hc]
        exact q
end
end
section
variable {P : Program} {w : World} {K : PySem.W.Frag} {mg : Str → Option Value} {base : Heap}
abbrev s__law_draw : Stmt := top 14
theorem sc__law_draw : FnScope ["_law_cell"] ["_law_cell"] (defScope s__law_draw) := ⟨rfl, rfl, rfl, by decide +kernel, rfl, by decide +kernel, by decide +kernel⟩
abbrev s__law_next : Stmt := top 15
theorem sc__law_next : FnScope ["_law_draw_here", "_law_size", "_law_digit", "_law_number"] ["_law_draw_here", "_law_size"] (defScope s__law_next) := ⟨rfl, rfl, rfl, by decide +kernel, rfl, by decide +kernel, by decide +kernel⟩
def sp_draw : Sp := fun vs H Q _ => ∃ c : Int, vs = [.int c] ∧ ∀ (p : Addr) (a b : Int) H', H p = none → H' p = some (.lst [.int a, .int b]) → Same H H' → Q (.ref p) H'
theorem own_draw (D : Def K mg "_law_draw" s__law_draw) : Own P w K mg base 1 "_law_draw" ["_law_cell"] sp_draw := by
  refine D.own sc__law_draw (fun _ _ _ _ _ _ us hl => match us, hl with | [_], _ => rfl) (fun vs H Q E h => ?_) (fun f cdv A outer s H vs Q E hr h => ?_)
  · obtain ⟨c, rfl, _⟩ := h
    rfl
  · obtain ⟨c, rfl, q⟩ := h
    refine ⟨_, (@pss_one _ _ _ (@ps_ret _ _ _ _ (@pe_lst _ _ _ _ (@pa_cX _ _ _ _ _ (@pe_op _ _ _ _ _ _ _ _ op_mul (@pe_op _ _ _ _ _ _ _ _ op_fdiv (@pv _ 0 _ _ (by rfl) (by first | exact Or.inl rfl | exact Or.inr (Or.inl rfl) | exact Or.inr (Or.inr rfl)) (by decide) (by decide)) (@pe_int _ _ _ _)) (@pe_op _ _ _ _ _ _ _ _ op_sub (@pe_int _ _ _ _) (@pe_op _ _ _ _ _ _ _ _ op_mod (@pv _ 0 _ _ (by rfl) (by first | exact Or.inl rfl | exact Or.inr (Or.inl rfl) | exact Or.inr (Or.inr rfl)) (by decide) (by decide)) (@pe_int _ _ _ _)))) (@pa_cX _ _ _ _ _ (@pv _ 0 _ _ (by rfl) (by first | exact Or.inl rfl | exact Or.inr (Or.inl rfl) | exact Or.inr (Or.inr rfl)) (by decide) (by decide)) (@pa_nil _) (by rfl)) (by rfl))))), ?_⟩
    simp (maxSteps := 1000000) only [Nat.reduceSub, Int.reduceLT, Nat.reduceAdd, exists_and_left, tOp, tVar, tC, rI, rI0, tRet, tCons, tNil, tLst, L2.start, List.map_cons, List.map_nil, List.length_cons, List.length_nil, List.replicate, List.getElem?_cons_zero, Option.some.injEq, exists_eq_left', V.int.injEq, true_and, List.append_nil]
    refine ⟨⟨by decide, by decide⟩, .inr ⟨by omega, by omega⟩, by decide, fun p hp => q p _ _ _ hp upd_same (Same.upd_new hp)⟩
def sp_next : Sp := fun vs H Q _ => ∃ (p : Addr) (a b n : Int), vs = [.ref p, .int n] ∧ H p = some (.lst [.int a, .int b]) ∧ 1 ≤ n ∧ n < 2 ^ 200 ∧ ∀ (r a' b' : Int), 0 ≤ r → r < n → Q (.int r) (upd H p (.lst [.int a', .int b']))
theorem own_next (D : Def K mg "_law_next" s__law_next) : Own P w K mg base 1 "_law_next" ["_law_draw_here", "_law_size"] sp_next := by
  refine D.own sc__law_next (fun _ _ _ _ _ _ us hl => match us, hl with | [_, _], _ => rfl) (fun vs H Q E h => ?_) (fun f cdv A outer s H vs Q E hr h => ?_)
  · obtain ⟨p, a, b, n, rfl, _⟩ := h
    rfl
  · obtain ⟨p, a, b, n, rfl, ep, h1, h2, q⟩ := h
    have hu := hr.units
    have hu1 : (A.deeper (PyProof.Rows.envOfC "_law_next" (defScope s__law_next) s.heap.objs.size f cdv)).units + 1 < cLine := by omega
    refine ⟨_, (@pss_cons _ _ _ _ _ (@ps_asg _ _ _ _ _ _ (@pe_op _ _ _ _ _ _ _ _ op_mod (@pe_op _ _ _ _ _ _ _ _ op_add (@pe_op _ _ _ _ _ _ _ _ op_mul (@pe_ix _ _ _ _ _ _ _ (ix_get hu1) (@pv _ 0 _ _ (by rfl) (by first | exact Or.inl rfl | exact Or.inr (Or.inl rfl) | exact Or.inr (Or.inr rfl)) (by decide) (by decide)) (@pe_int _ _ _ _) (fun _ _ => rfl)) (@pe_int _ _ _ _)) (@pe_int _ _ _ _)) (@pe_int _ _ _ _)) (@pg_sub _ _ _ _ _ _ _ (@pv _ 0 _ _ (by rfl) (by first | exact Or.inl rfl | exact Or.inr (Or.inl rfl) | exact Or.inr (Or.inr rfl)) (by decide) (by decide)) (@pe_int _ _ _ _) (@set_x _ hu1) (by intro _; rfl)) (by rfl) (by rfl) (by rfl)) (@pss_cons _ _ _ _ _ (@ps_if _ _ _ _ _ _ _ _ (@pt_cmpR _ _ _ _ _ _ _ _ op_gt (@pe_ix _ _ _ _ _ _ _ (ix_get hu1) (@pv _ 0 _ _ (by rfl) (by first | exact Or.inl rfl | exact Or.inr (Or.inl rfl) | exact Or.inr (Or.inr rfl)) (by decide) (by decide)) (@pe_int _ _ _ _) (fun _ _ => rfl)) (@pe_int _ _ _ _) (nomark _)) (@pss_cons _ _ _ _ _ (@ps_set _ _ 2 _ _ _ _ sc__law_next.nd rfl (by first | exact Or.inl rfl | exact Or.inr rfl) (@pe_op _ _ _ _ _ _ _ _ op_mod (@pe_ix _ _ _ _ _ _ _ (ix_get hu1) (@pv _ 0 _ _ (by rfl) (by first | exact Or.inl rfl | exact Or.inr (Or.inl rfl) | exact Or.inr (Or.inr rfl)) (by decide) (by decide)) (@pe_int _ _ _ _) (fun _ _ => rfl)) (@pv _ 1 _ _ (by rfl) (by first | exact Or.inl rfl | exact Or.inr (Or.inl rfl) | exact Or.inr (Or.inr rfl)) (by decide) (by decide))) (by rfl) (by first | exact .inl rfl | exact .inr rfl | assumption)) (@pss_cons _ _ _ _ _ (@ps_asg _ _ _ _ _ _ (@pe_op _ _ _ _ _ _ _ _ op_fdivW (@pe_ix _ _ _ _ _ _ _ (ix_get hu1) (@pv _ 0 _ _ (by rfl) (by first | exact Or.inl rfl | exact Or.inr (Or.inl rfl) | exact Or.inr (Or.inr rfl)) (by decide) (by decide)) (@pe_int _ _ _ _) (fun _ _ => rfl)) (@pv _ 1 _ _ (by rfl) (by first | exact Or.inl rfl | exact Or.inr (Or.inl rfl) | exact Or.inr (Or.inr rfl)) (by decide) (by decide))) (@pg_sub _ _ _ _ _ _ _ (@pv _ 0 _ _ (by rfl) (by first | exact Or.inl rfl | exact Or.inr (Or.inl rfl) | exact Or.inr (Or.inr rfl)) (by decide) (by decide)) (@pe_int _ _ _ _) (@set_x _ hu1) (by intro _; rfl)) (by rfl) (by rfl) (by rfl)) (@pss_one _ _ _ (@ps_ret _ _ _ _ (@pv _ 2 _ _ (by rfl) (by first | exact Or.inl rfl | exact Or.inr (Or.inl rfl) | exact Or.inr (Or.inr rfl)) (by decide) (by decide)))))) (@pss_nil _)) (@pss_cons _ _ _ _ _ (@ps_set _ _ 3 _ _ _ _ sc__law_next.nd rfl (by first | exact Or.inl rfl | exact Or.inr rfl) (@pe_op _ _ _ _ _ _ _ _ op_mod (@pe_op _ _ _ _ _ _ _ _ op_mul (@pe_ix _ _ _ _ _ _ _ (ix_get hu1) (@pv _ 0 _ _ (by rfl) (by first | exact Or.inl rfl | exact Or.inr (Or.inl rfl) | exact Or.inr (Or.inr rfl)) (by decide) (by decide)) (@pe_int _ _ _ _) (fun _ _ => rfl)) (@pe_op _ _ _ _ _ _ _ _ op_add (@pe_op _ _ _ _ _ _ _ _ op_fdiv (@pe_ix _ _ _ _ _ _ _ (ix_get hu1) (@pv _ 0 _ _ (by rfl) (by first | exact Or.inl rfl | exact Or.inr (Or.inl rfl) | exact Or.inr (Or.inr rfl)) (by decide) (by decide)) (@pe_int _ _ _ _) (fun _ _ => rfl)) (@pe_int _ _ _ _)) (@pe_int _ _ _ _))) (@pe_int _ _ _ _)) (by rfl) (by first | exact .inl rfl | exact .inr rfl | assumption)) (@pss_one _ _ _ (@ps_ret _ _ _ _ (@pe_op _ _ _ _ _ _ _ _ op_mod (@pe_op _ _ _ _ _ _ _ _ op_mod (@pe_op _ _ _ _ _ _ _ _ op_mul (@pv _ 3 _ _ (by rfl) (by first | exact Or.inl rfl | exact Or.inr (Or.inl rfl) | exact Or.inr (Or.inr rfl)) (by decide) (by decide)) (@pe_op _ _ _ _ _ _ _ _ op_add (@pe_op _ _ _ _ _ _ _ _ op_fdiv (@pv _ 3 _ _ (by rfl) (by first | exact Or.inl rfl | exact Or.inr (Or.inl rfl) | exact Or.inr (Or.inr rfl)) (by decide) (by decide)) (@pe_int _ _ _ _)) (@pe_int _ _ _ _))) (@pe_int _ _ _ _)) (@pv _ 1 _ _ (by rfl) (by first | exact Or.inl rfl | exact Or.inr (Or.inl rfl) | exact Or.inr (Or.inr rfl)) (by decide) (by decide)))))))), ?_⟩
    simp (maxSteps := 1000000) only [ixN_20, ixN_21, rGet, getO_l, rSetX, setO_l, gSub, atI_0, atI_1, Nat.reduceSub, upd_same, upd_upd, Option.map_some, Int.reduceLT, Nat.reduceAdd, tSeq, exists_and_left, tIfS, tTest, tOp, tVar, tC, rI, rI0, tRet, tAsg, gName, tNext, L2.start, List.map_cons, List.map_nil, List.length_cons, List.length_nil, List.replicate, List.cons_append, List.nil_append, List.getElem?_cons_zero, List.getElem?_cons_succ, List.set_cons_zero, List.set_cons_succ, Option.some.injEq, exists_eq_left', V.int.injEq, V.bl.injEq, V.ref.injEq, true_and, ep]
    have hb1 : 0 ≤ (b * 48271 + 11) % 2147483647 ∧ (b * 48271 + 11) % 2147483647 < 2147483647 := ⟨Int.emod_nonneg _ (by decide), Int.emod_lt_of_pos _ (by decide)⟩
    generalize (b * 48271 + 11) % 2147483647 = b1 at hb1 ⊢
    refine ⟨.inr ⟨by decide, by decide⟩, ?_⟩
    refine ite2 (fun ha => ⟨by omega, cdivw_of (by omega) h2, q (a % n) (a / n) b1 (Int.emod_nonneg _ (by omega)) (Int.emod_lt_of_pos _ (by omega))⟩) (fun ha => ⟨⟨by decide, by decide⟩, .inl ⟨by omega, by omega⟩, ⟨by decide, by decide⟩, cmul_mod (by decide) (by decide), by omega, q _ a b1 (Int.emod_nonneg _ (by omega)) (Int.emod_lt_of_pos _ (by omega))⟩)
end
end K58
namespace K58
open PySem L2
/-! ### the mathematics -/
abbrev Row := Str × Option Int × Int
def RRow3 (H : Hp) (v : V) (r : Row) : Prop := ∃ t, v = .ref t ∧ H t = some (.tup [.str r.1, optV r.2.1, .int r.2.2])
theorem RRow3.keep {S : List Addr} {H H' : Hp} {v : V} {r : Row} (k : Keep S H H') (hs : ∀ b ∈ S, NoT H b) (h : RRow3 H v r) : RRow3 H' v r := by
  obtain ⟨t, e, he⟩ := h
  exact ⟨t, e, k _ _ he fun z => hs _ z _ he⟩
def ofN (rows : List Row) (z : Str) : List Dd := (rows.filter fun r => decide (r.1 = z)).map fun r => (r.2.2, r.2.1)
theorem ofN_app {l m : List Row} {z : Str} : ofN (l ++ m) z = ofN l z ++ ofN m z := by
  unfold ofN
  rw [List.filter_append, List.map_append]
def ahd (rows : List Row) (z : Str) (t : Int) : List (Option Int) := (rows.filter fun r => decide (r.1 = z) && decide (r.2.2 < t)).map (·.2.1)
def eqs (rows : List Row) (z : Str) (t : Int) : List (Option Int) := (rows.filter fun r => decide (r.1 = z) && decide (r.2.2 = t)).map (·.2.1)
def Wt (rows : List Row) (z : Str) (h t : Int) : Prop := (∃ ini, ahd rows z t = ini ++ [some h]) ∨ some h ∈ eqs rows z t
theorem Wt.app {rows : List Row} {z : Str} {h t : Int} {r : Row} (w : Wt rows z h t) (hr : t ≤ r.2.2) : Wt (rows ++ [r]) z h t := by
  rcases w with ⟨ini, e⟩ | e
  · refine .inl ⟨ini, ?_⟩
    unfold ahd at e ⊢
    rw [List.filter_append, List.map_append, e, List.filter_cons, if_neg (by simp; intro _; omega)]
    simp
  · refine .inr ?_
    unfold eqs at e ⊢
    rw [List.filter_append, List.map_append]
    exact List.mem_append_left _ e
theorem Wt.now {rows : List Row} {z : Str} {h now : Int} (hl : lastH (ofN rows z) = some h) (hn : ∀ r ∈ rows, r.2.2 ≤ now) : Wt rows z h now := by
  unfold lastH ofN at hl
  have e1 : ahd rows z now = ((rows.filter fun r => decide (r.1 = z)).filter fun r => decide (r.2.2 < now)).map (·.2.1) := by
    unfold ahd
    rw [List.filter_filter]
    congr 2
    funext r
    exact Bool.and_comm _ _
  have e2 : eqs rows z now = ((rows.filter fun r => decide (r.1 = z)).filter fun r => decide (r.2.2 = now)).map (·.2.1) := by
    unfold eqs
    rw [List.filter_filter]
    congr 2
    funext r
    exact Bool.and_comm _ _
  have hm : ∀ r ∈ rows.filter fun r => decide (r.1 = z), r.2.2 ≤ now := fun r hr => hn r (List.mem_filter.mp hr).1
  unfold Wt
  rw [e1, e2]
  generalize rows.filter (fun r => decide (r.1 = z)) = rz at hl hm ⊢
  rcases List.eq_nil_or_concat rz with rfl | ⟨ini, r, rfl⟩
  · simp at hl
  · have hr : r.2.1 = some h := by simpa using hl
    have hle := hm r (by simp)
    by_cases hlt : r.2.2 < now
    · refine .inl ⟨(ini.filter fun r => decide (r.2.2 < now)).map (·.2.1), ?_⟩
      rw [List.concat_eq_append, List.filter_append, List.map_append, List.filter_cons, if_pos (by simpa using hlt)]
      simp [hr]
    · refine .inr ?_
      rw [List.concat_eq_append, List.filter_append, List.map_append, List.filter_cons, if_pos (by simp; omega)]
      simp [hr]
theorem had_of {h first last t : Int} (h1 : first ≤ t) (h2 : t ≤ last) : ∀ ds : List Dd, ds.Pairwise (fun a b => a.1 ≤ b.1) → ((∃ ini, (ds.filter fun d => decide (d.1 < t)).map (·.2) = ini ++ [some h]) ∨ (t, some h) ∈ ds) → hadL h first last ds = true
  | [], _, hd => by
    rcases hd with ⟨ini, e⟩ | e
    · simp at e
    · cases e
  | [d], _, hd => by
    unfold hadL
    rcases hd with ⟨ini, e⟩ | e
    · by_cases hlt : d.1 < t
      · rw [List.filter_cons, if_pos (by simpa using hlt)] at e
        cases ini with
        | nil =>
          have e' : d.2 = some h := by simpa using e
          simp [e']
          omega
        | cons x r => simp at e
      · rw [List.filter_cons, if_neg (by simpa using hlt)] at e
        simp at e
    · rw [List.mem_singleton] at e
      subst e
      simp
      omega
  | d :: e :: r, hp, hd => by
    unfold hadL
    have hp2 := (List.pairwise_cons.mp hp).2
    have hde := (List.pairwise_cons.mp hp).1 e (.head _)
    rcases hd with ⟨ini, q⟩ | q
    · by_cases hlt : d.1 < t
      · rw [List.filter_cons, if_pos (by simpa using hlt), List.map_cons] at q
        cases ini with
        | nil =>
          have q1 : d.2 = some h := by simpa using (List.cons.inj q).1
          have q2 : ¬ e.1 < t := fun z => by
            have := (List.cons.inj q).2
            rw [List.filter_cons, if_pos (by simpa using z)] at this
            simp at this
          rw [Bool.or_eq_true]
          left
          simp [q1]
          omega
        | cons x ini =>
          have := had_of h1 h2 (e :: r) hp2 (.inl ⟨ini, (List.cons.inj q).2⟩)
          rw [this, Bool.or_true]
      · rw [List.filter_cons, if_neg (by simpa using hlt)] at q
        have := had_of h1 h2 (e :: r) hp2 (.inl ⟨ini, q⟩)
        rw [this, Bool.or_true]
    · rcases List.mem_cons.mp q with q | q
      · subst q
        rw [Bool.or_eq_true]
        left
        simp at hde ⊢
        omega
      · have := had_of h1 h2 (e :: r) hp2 (.inr q)
        rw [this, Bool.or_true]
theorem Wt.had {rows : List Row} {z : Str} {h t first last : Int} (w : Wt rows z h t) (h1 : first ≤ t) (h2 : t ≤ last) (hs : rows.Pairwise fun a b => a.2.2 ≤ b.2.2) : hadL h first last (ofN rows z) = true := by
  refine had_of h1 h2 _ ?_ ?_
  · unfold ofN
    rw [List.pairwise_map]
    exact hs.sublist List.filter_sublist
  · rcases w with ⟨ini, e⟩ | e
    · refine .inl ⟨ini, ?_⟩
      rw [← e]
      unfold ofN ahd
      rw [List.filter_map, List.map_map, List.filter_filter]
      have : (fun (r : Row) => decide (r.1 = z) && decide (r.2.2 < t)) = fun a => (((fun d : Dd => decide (d.1 < t)) ∘ fun r : Row => (r.2.2, r.2.1)) a && decide (a.1 = z)) := by
        funext r
        exact Bool.and_comm _ _
      rw [this]
      rfl
    · refine .inr ?_
      unfold eqs at e
      obtain ⟨r, hr, er⟩ := List.mem_map.mp e
      obtain ⟨hr1, hr2⟩ := List.mem_filter.mp hr
      simp only [Bool.and_eq_true, decide_eq_true_eq] at hr2
      unfold ofN
      exact List.mem_map.mpr ⟨r, List.mem_filter.mpr ⟨hr1, by simpa using hr2.1⟩, by rw [er, hr2.2]⟩
end K58
namespace K58
open PySem L2
abbrev s__law_any : Stmt := top 16
theorem sc__law_any : FnScope ["_law_draw_here", "_law_letters"] ["_law_draw_here", "_law_letters"] (defScope s__law_any) := ⟨rfl, rfl, rfl, by decide +kernel, rfl, by decide +kernel, by decide +kernel⟩
abbrev s__law_was : Stmt := top 17
theorem sc__law_was : FnScope ["_law_rows", "_law_name", "_law_hand", "_law_first", "_law_last", "_law_turn", "_law_ahead"] ["_law_rows", "_law_name", "_law_hand", "_law_first", "_law_last"] (defScope s__law_was) := ⟨rfl, rfl, rfl, by decide +kernel, rfl, by decide +kernel, by decide +kernel⟩
theorem cs__law_was_0 : CScope ["_law_row"] ["_law_name", "_law_turn"] { kind := .function, names := [(".0", .local), ("_law_row", .local), ("_law_name", .free), ("_law_turn", .free)], isGenerator := false, isCoroutine := false, more := [] } (defScope s__law_was) := ⟨rfl, by decide +kernel, by decide +kernel, by decide +kernel, by decide +kernel, by decide +kernel⟩
theorem cs__law_was_1 : CScope ["_law_row"] ["_law_name", "_law_turn"] { kind := .function, names := [(".0", .local), ("_law_row", .local), ("_law_name", .free), ("_law_turn", .free)], isGenerator := false, isCoroutine := false, more := [] } (defScope s__law_was) := ⟨rfl, by decide +kernel, by decide +kernel, by decide +kernel, by decide +kernel, by decide +kernel⟩
section
variable {P : Program} {w : World} {K : PySem.W.Frag} {mg : Str → Option Value} {base : Heap} {C C2 : Addr}
def sp_any : Sp := fun vs H Q _ => ∃ (p pl : Addr) (a b : Int) (ys : List V), vs = [.ref p, .ref pl] ∧ H p = some (.lst [.int a, .int b]) ∧ H pl = some (.lst ys) ∧ p ≠ pl ∧ ys ≠ [] ∧ ys.length ≤ 1000 ∧ ∀ v a' b', v ∈ ys → Q v (upd H p (.lst [.int a', .int b']))
theorem own_any (D : Def K mg "_law_any" s__law_any) (hb : Blt mg) (F__law_next : Own P w K mg base 1 "_law_next" ["_law_draw_here", "_law_size"] sp_next) : Own P w K mg base 2 "_law_any" ["_law_draw_here", "_law_letters"] sp_any := by
  refine D.own sc__law_any (fun _ _ _ _ _ _ us hl => match us, hl with | [_, _], _ => rfl) (fun vs H Q E h => ?_) (fun f cdv A outer s H vs Q E hr h => ?_)
  · obtain ⟨p, pl, a, b, ys, rfl, _⟩ := h
    rfl
  · obtain ⟨p, pl, a, b, ys, rfl, ep, el, hne, hn, hl, q⟩ := h
    have hu := hr.units
    have hu1 : (A.deeper (PyProof.Rows.envOfC "_law_any" (defScope s__law_any) s.heap.objs.size f cdv)).units + 1 < cLine := by omega
    refine ⟨_, (@pss_cons _ _ _ _ _ (@ps_if _ _ _ _ _ _ _ _ (@pt_cmpR _ _ _ _ _ _ _ _ op_eq (@pe_fn _ _ _ _ _ _ _ _ _ _ _ F__law_next hr (@pa_cX _ _ _ _ _ (@pv _ 0 _ _ (by rfl) (by first | exact Or.inl rfl | exact Or.inr (Or.inl rfl) | exact Or.inr (Or.inr rfl)) (by decide) (by decide)) (@pa_cX _ _ _ _ _ (@pe_int _ _ _ _) (@pa_nil _) (by rfl)) (by rfl)) (by decide) (by rfl) (by decide) (by rfl) (by rfl)) (@pe_int _ _ _ _) (nomark _)) (@pss_one _ _ _ (@ps_ret _ _ _ _ (@pe_ix _ _ _ _ _ _ _ (ix_get hu1) (@pv _ 1 _ _ (by rfl) (by first | exact Or.inl rfl | exact Or.inr (Or.inl rfl) | exact Or.inr (Or.inr rfl)) (by decide) (by decide)) (@pe_un _ _ _ _ _ _ un_neg (@pe_int _ _ _ _)) (fun _ _ => rfl)))) (@pss_nil _)) (@pss_one _ _ _ (@ps_ret _ _ _ _ (@pe_ix _ _ _ _ _ _ _ (ix_get hu1) (@pv _ 1 _ _ (by rfl) (by first | exact Or.inl rfl | exact Or.inr (Or.inl rfl) | exact Or.inr (Or.inr rfl)) (by decide) (by decide)) (@pe_fn _ _ _ _ _ _ _ _ _ _ _ F__law_next hr (@pa_cX _ _ _ _ _ (@pv _ 0 _ _ (by rfl) (by first | exact Or.inl rfl | exact Or.inr (Or.inl rfl) | exact Or.inr (Or.inr rfl)) (by decide) (by decide)) (@pa_cX _ _ _ _ _ (@pe_callB _ _ _ _ _ _ _ _ _ call_lenX rfl (hb _ (by decide)) bt_len (@pa_cX _ _ _ _ _ (@pv _ 1 _ _ (by rfl) (by first | exact Or.inl rfl | exact Or.inr (Or.inl rfl) | exact Or.inr (Or.inr rfl)) (by decide) (by decide)) (@pa_nil _) (by rfl)) (by decide) (by decide) (by rfl) (by rfl)) (@pa_nil _) (by rfl)) (by rfl)) (by decide) (by rfl) (by decide) (by rfl) (by rfl)) (fun _ _ => rfl))))), ?_⟩
    have hpos : 0 < ys.length := List.length_pos_iff.mpr hn
    simp (maxSteps := 1000000) only [rGet, rLenX, lenX_r, Nat.reduceSub, Nat.reduceAdd, List.cons.injEq, tSeq, exists_and_left, tIfS, tTest, tOp, tUn, tVar, tC, rU, tRet, tNext, tCall, tCons, tNil, tCB, L2.start, List.map_cons, List.map_nil, List.length_cons, List.length_nil, List.replicate, List.getElem?_cons_zero, List.getElem?_cons_succ, Option.some.injEq, exists_eq_left', V.int.injEq, V.ref.injEq, and_true, List.append_nil]
    refine ⟨p, a, b, 2, rfl, ep, by decide, by decide, fun r a1 b1 r0 r1 => ?_⟩
    have el1 : upd H p (.lst [.int a1, .int b1]) pl = some (.lst ys) := (upd_ne (Ne.symm hne)).trans el
    simp (maxSteps := 1000000) only [getO_l, lenO_l, Option.bind_some, rEq_ii, Option.some.injEq, exists_eq_left', V.bl.injEq, el1]
    refine ite2 (fun h0 => ?_) (fun h0 => ?_)
    · obtain ⟨ini, v, rfl⟩ : ∃ ini v, ys = ini ++ [v] := by
        rcases List.eq_nil_or_concat ys with z | ⟨ini, v, z⟩
        · exact absurd z hn
        · exact ⟨ini, v, by rw [z, List.concat_eq_append]⟩
      have e1 := at_lastV ini v
      simp (maxSteps := 1000000) only [Option.some.injEq, exists_eq_left', e1]
      exact q _ _ _ (by simp)
    · refine ⟨p, a1, b1, (ys.length : Int), rfl, upd_same, by omega, by omega, fun r2 a2 b2 r20 r21 => ?_⟩
      have el2 : upd H p (.lst [.int a2, .int b2]) pl = some (.lst ys) := (upd_ne (Ne.symm hne)).trans el
      obtain ⟨v, hv, ev⟩ := atI_in (xs := ys) r20 r21
      simp (maxSteps := 1000000) only [getO_l, upd_upd, Option.some.injEq, exists_eq_left', el2, ev]
      exact q v _ _ hv
/-- rows that are picked, and what is told of them -/
theorem comp_map {α : Type} {n : Nat} {js : List Nat} {g : TG} {tc : TT} {te : TE} {σ : St} {Q : VK} {H1 : Hp} {K : PySem.W.Frag} {a : Addr} {ys : List V} {l : List α} (R : Hp → V → α → Prop) (keep : ∀ H H' v q, Same H H' → R H v q → R H' v q) (p : α → Bool) (o : α → V) (ha : H1 a = some (.lst ys)) (hp : Paired (R H1) ys l) (hz : l.length ≤ 1000)
    (hs : ∀ v q H (A : V → Hp → Prop) (B : Hp → Prop), R H v q → (p q = true → A (o q) H) → (p q = false → B H) → g v (cSt n js σ) H fun σ2 H2 => σ2.drop n = (cSt n js σ).drop n ∧ tc σ2 H2 fun b H3 => if b = true then te σ2 H3 A else B H3)
    (hq : ∀ D H', H1 D = none → H' D = some (.lst ((l.filter p).map o)) → Same H1 H' → Q (.ref D) H') : CompW n js g tc te σ Q (Itl K a) H1 := by
  have hlen := hp.length
  refine comp_list (xs := ys) (by rw [sizeLine_eq]; omega) (fun D i acc H' => H' D = some (.lst acc) ∧ acc.length ≤ i ∧ acc = ((l.take i).filter p).map o ∧ Same H1 H') (fun D hD => ⟨upd_same, Nat.le_refl _, rfl, Same.upd_new hD⟩) ?_ ?_ ?_
  · rintro D i acc H2 hD hi ⟨eD, hl, _, s2⟩
    exact ⟨eD, SqL.of (s2 _ _ ha), hl⟩
  · rintro D i v acc H2 hD hx ⟨eD, hl, hI, s2⟩
    obtain ⟨q, hk, hv⟩ := paired_get hp hx
    rw [List.take_add_one, hk, Option.toList_some, List.filter_append, List.map_append, ← hI]
    refine hs v q H2 _ _ (keep _ _ _ _ s2 hv) (fun h => ?_) (fun h => ?_)
    · refine ⟨eD, upd_same, by rw [List.length_append]; exact Nat.add_le_add_right hl 1, ?_, s2.upd hD⟩
      rw [List.filter_cons, if_pos h]
      rfl
    · refine ⟨eD, eD, Nat.le_succ_of_le hl, ?_, s2⟩
      rw [List.filter_cons, if_neg (by rw [h]; decide)]
      simp
  · rintro D acc H2 hD ⟨eD, hl, hI, s2⟩
    rw [List.take_of_length_le (by omega)] at hI
    exact hq D H2 hD (by rw [← hI]; exact eD) s2
/-- rows that are picked, as they stand -/
theorem comp_pick {α : Type} {n : Nat} {js : List Nat} {g : TG} {tc : TT} {te : TE} {σ : St} {Q : VK} {H1 : Hp} {K : PySem.W.Frag} {a : Addr} {ys : List V} {l : List α} (R : Hp → V → α → Prop) (keep : ∀ (S : List Addr) H H' v q, Keep S H H' → (∀ b ∈ S, NoT H b) → R H v q → R H' v q) (p : α → Bool) (ha : H1 a = some (.lst ys)) (hp : Paired (R H1) ys l) (hz : l.length ≤ 1000)
    (hs : ∀ v q H (A : V → Hp → Prop) (B : Hp → Prop), R H v q → (p q = true → A v H) → (p q = false → B H) → g v (cSt n js σ) H fun σ2 H2 => σ2.drop n = (cSt n js σ).drop n ∧ tc σ2 H2 fun b H3 => if b = true then te σ2 H3 A else B H3)
    (hq : ∀ D zs H', H1 D = none → H' D = some (.lst zs) → Paired (R H') zs (l.filter p) → Same H1 H' → Q (.ref D) H') : CompW n js g tc te σ Q (Itl K a) H1 := by
  have hlen := hp.length
  refine comp_list (xs := ys) (by rw [sizeLine_eq]; omega) (fun D i acc H' => H' D = some (.lst acc) ∧ acc.length ≤ i ∧ Paired (R H') acc ((l.take i).filter p) ∧ Same H1 H') (fun D hD => ⟨upd_same, Nat.le_refl _, .nil, Same.upd_new hD⟩) ?_ ?_ ?_
  · rintro D i acc H2 hD hi ⟨eD, hl, hI, s2⟩
    exact ⟨eD, SqL.of (s2 _ _ ha), hl⟩
  · rintro D i v acc H2 hD hx ⟨eD, hl, hI, s2⟩
    obtain ⟨q, hk, hv⟩ := paired_get hp hx
    have hv2 : R H2 v q := keep [] _ _ _ _ s2.keep (fun _ z => nomatch z) hv
    rw [List.take_add_one, hk, Option.toList_some, List.filter_append]
    refine hs v q H2 _ _ hv2 (fun h => ?_) (fun h => ?_)
    · have kD : Keep [D] H2 (upd H2 D (.lst (acc ++ [v]))) := Keep.refl.upd (.inl (.head _))
      have nT := noT1 (NoT.of_lst eD)
      refine ⟨eD, upd_same, by rw [List.length_append]; exact Nat.add_le_add_right hl 1, ?_, s2.upd hD⟩
      rw [List.filter_cons, if_pos h, List.filter_nil]
      exact paired_append (Paired.mapP hI fun _ _ z => keep _ _ _ _ _ kD nT z) (.cons (keep _ _ _ _ _ kD nT hv2) .nil)
    · refine ⟨eD, eD, Nat.le_succ_of_le hl, ?_, s2⟩
      rw [List.filter_cons, if_neg (by rw [h]; decide), List.filter_nil, List.append_nil]
      exact hI
  · rintro D acc H2 hD ⟨eD, hl, hI, s2⟩
    rw [List.take_of_length_le (by omega)] at hI
    exact hq D acc H2 hD eD hI s2
theorem flat_opt : ∀ l : List (Option Int), (l.map optV).all flatV = true
  | [] => rfl
  | none :: r => by rw [List.map_cons, List.all_cons, flat_opt r]; rfl
  | some _ :: r => by rw [List.map_cons, List.all_cons, flat_opt r]; rfl
theorem cut_flat {xs : List V} {lo hi : Option Int} (h : xs.all flatV = true) : (cutV xs lo hi).all flatV = true := by
  rw [List.all_eq_true] at h ⊢
  intro v hv
  unfold cutV at hv
  exact h v (List.mem_of_mem_drop (List.mem_of_mem_take hv))
theorem cut_last (ini : List V) (v : V) : cutV (ini ++ [v]) (some (-1)) none = [v] := by
  have e1 : HT.sIx (ini ++ [v]).length 0 (some (-1)) = ini.length := by
    unfold HT.sIx
    simp
    try omega
  have e2 : HT.sIx (ini ++ [v]).length (ini ++ [v]).length none = ini.length + 1 := by
    unfold HT.sIx
    simp
  unfold cutV
  rw [e1, e2]
  simp
theorem inV_mem {h : Int} {xs : List V} (hm : V.int h ∈ xs) : inV (.int h) xs = true := by
  unfold inV
  rw [List.any_eq_true]
  exact ⟨_, hm, by simp [eqV]⟩
def sp_was : Sp := fun vs H Q _ => ∃ (pr : Addr) (xs : List V) (rows : List Row) (z : Str) (h first last t : Int), vs = [.ref pr, .str z, .int h, .int first, .int last] ∧ H pr = some (.lst xs) ∧ Paired (RRow3 H) xs rows ∧ rows.length ≤ 1000 ∧ first ≤ t ∧ 0 ≤ t ∧ t ≤ last ∧ last ≤ 100000 ∧ Wt rows z h t ∧ ∀ H', Same H H' → Q (.bl true) H'
set_option maxHeartbeats 4000000 in
theorem own_was (D : Def K mg "_law_was" s__law_was) (hb : Blt mg) : Own P w K mg base 1 "_law_was" ["_law_rows", "_law_name", "_law_hand", "_law_first", "_law_last"] sp_was := by
  refine D.own sc__law_was (fun _ _ _ _ _ _ us hl => match us, hl with | [_, _, _, _, _], _ => rfl) (fun vs H Q E h => ?_) (fun f cdv A outer s H vs Q E hr h => ?_)
  · obtain ⟨pr, xs, rows, z, h, first, last, t, rfl, _⟩ := h
    rfl
  · obtain ⟨pr, xs, rows, z, h, first, last, t, rfl, er, hp, hl, h1, h0, h2, h3, hw, q⟩ := h
    have hu := hr.units
    have hu1 : (A.deeper (PyProof.Rows.envOfC "_law_was" (defScope s__law_was) s.heap.objs.size f cdv)).units + 1 < cLine := by omega
    have hxl := hp.length
    refine ⟨_, (@pss_cons _ _ _ _ _ (@ps_for _ _ _ _ _ _ _ _ PassesOwn.never rfl (@pi_range2 _ _ _ _ _ _ _ rfl (hb _ (by decide)) (@pa_cX _ _ _ _ _ (@pe_callB _ _ _ _ _ _ _ _ _ (call_max2 rfl) rfl (hb _ (by decide)) bt_max (@pa_cX _ _ _ _ _ (@pe_int _ _ _ _) (@pa_cX _ _ _ _ _ (@pv _ 3 _ _ (by rfl) (by first | exact Or.inl rfl | exact Or.inr (Or.inl rfl) | exact Or.inr (Or.inr rfl)) (by decide) (by decide)) (@pa_nil _) (by rfl)) (by rfl)) (by decide) (by decide) (by rfl) (by rfl)) (@pa_cX _ _ _ _ _ (@pe_op _ _ _ _ _ _ _ _ op_add (@pv _ 4 _ _ (by rfl) (by first | exact Or.inl rfl | exact Or.inr (Or.inl rfl) | exact Or.inr (Or.inr rfl)) (by decide) (by decide)) (@pe_int _ _ _ _)) (@pa_nil _) (by rfl)) (by rfl)) (by rfl) (by rfl)) (@pg_name _ _ 5 _ sc__law_was.nd rfl (by first | exact Or.inl rfl | exact Or.inr rfl) (by first | exact .inl rfl | exact .inr rfl | assumption)) (@pss_cons _ _ _ _ _ (@ps_set _ _ 6 _ _ _ _ sc__law_was.nd rfl (by first | exact Or.inl rfl | exact Or.inr rfl) (@pe_slice _ _ _ _ _ _ _ _ _ _ sl_X (@pe_comp _ _ _ _ _ _ _ _ _ _ _ ["_law_row"] ["_law_name", "_law_turn"] [1, 5] rfl _ cs__law_was_0 (@pi_listK _ K _ _ _ (@pv _ 0 _ _ (by rfl) (by first | exact Or.inl rfl | exact Or.inr (Or.inl rfl) | exact Or.inr (Or.inr rfl)) (by decide) (by decide)) (by rfl)) (fun _ _ _ _ => (@pg_name _ _ 0 _ cs__law_was_0.nd rfl (by first | exact Or.inl rfl | exact Or.inr rfl) (by first | exact .inl rfl | exact .inr rfl | assumption))) (fun _ _ _ _ => (@pf_one _ _ _ (@PW.pt _ _ _ (@pw_and _ _ _ _ _ _ _ (@pt_cmpR _ _ _ _ _ _ _ _ op_eq (@pe_ix _ _ _ _ _ _ _ (ix_get hu1) (@pv _ 0 _ _ (by rfl) (by first | exact Or.inl rfl | exact Or.inr (Or.inl rfl) | exact Or.inr (Or.inr rfl)) (by decide) (by decide)) (@pe_int _ _ _ _) (fun _ _ => rfl)) (@pv _ 1 _ _ (by rfl) (by first | exact Or.inl rfl | exact Or.inr (Or.inl rfl) | exact Or.inr (Or.inr rfl)) (by decide) (by decide)) (nomark _)) (@pw_and1 _ _ _ _ (@pt_cmpR _ _ _ _ _ _ _ _ op_lt (@pe_ix _ _ _ _ _ _ _ (ix_get hu1) (@pv _ 0 _ _ (by rfl) (by first | exact Or.inl rfl | exact Or.inr (Or.inl rfl) | exact Or.inr (Or.inr rfl)) (by decide) (by decide)) (@pe_int _ _ _ _) (fun _ _ => rfl)) (@pv _ 2 _ _ (by rfl) (by first | exact Or.inl rfl | exact Or.inr (Or.inl rfl) | exact Or.inr (Or.inr rfl)) (by decide) (by decide)) (nomark _))))))) (fun _ _ _ _ => (@pe_ix _ _ _ _ _ _ _ (ix_get hu1) (@pv _ 0 _ _ (by rfl) (by first | exact Or.inl rfl | exact Or.inr (Or.inl rfl) | exact Or.inr (Or.inr rfl)) (by decide) (by decide)) (@pe_int _ _ _ _) (fun _ _ => rfl))) (by rfl) (by rfl) (by rfl) (by intro _; rfl)) (@po_some _ _ _ (@pe_un _ _ _ _ _ _ un_neg (@pe_int _ _ _ _))) (@po_none _)) (by rfl) (by first | exact .inl rfl | exact .inr rfl | assumption)) (@pss_one _ _ _ (@ps_if _ _ _ _ _ _ _ _ (@pt_cmpR _ _ _ _ _ _ _ _ (op_inX hu1) (@pv _ 2 _ _ (by rfl) (by first | exact Or.inl rfl | exact Or.inr (Or.inl rfl) | exact Or.inr (Or.inr rfl)) (by decide) (by decide)) (@pe_op _ _ _ _ _ _ _ _ op_cat (@pv _ 6 _ _ (by rfl) (by first | exact Or.inl rfl | exact Or.inr (Or.inl rfl) | exact Or.inr (Or.inr rfl)) (by decide) (by decide)) (@pe_comp _ _ _ _ _ _ _ _ _ _ _ ["_law_row"] ["_law_name", "_law_turn"] [1, 5] rfl _ cs__law_was_1 (@pi_listK _ K _ _ _ (@pv _ 0 _ _ (by rfl) (by first | exact Or.inl rfl | exact Or.inr (Or.inl rfl) | exact Or.inr (Or.inr rfl)) (by decide) (by decide)) (by rfl)) (fun _ _ _ _ => (@pg_name _ _ 0 _ cs__law_was_1.nd rfl (by first | exact Or.inl rfl | exact Or.inr rfl) (by first | exact .inl rfl | exact .inr rfl | assumption))) (fun _ _ _ _ => (@pf_one _ _ _ (@PW.pt _ _ _ (@pw_and _ _ _ _ _ _ _ (@pt_cmpR _ _ _ _ _ _ _ _ op_eq (@pe_ix _ _ _ _ _ _ _ (ix_get hu1) (@pv _ 0 _ _ (by rfl) (by first | exact Or.inl rfl | exact Or.inr (Or.inl rfl) | exact Or.inr (Or.inr rfl)) (by decide) (by decide)) (@pe_int _ _ _ _) (fun _ _ => rfl)) (@pv _ 1 _ _ (by rfl) (by first | exact Or.inl rfl | exact Or.inr (Or.inl rfl) | exact Or.inr (Or.inr rfl)) (by decide) (by decide)) (nomark _)) (@pw_and1 _ _ _ _ (@pt_cmpR _ _ _ _ _ _ _ _ op_eq (@pe_ix _ _ _ _ _ _ _ (ix_get hu1) (@pv _ 0 _ _ (by rfl) (by first | exact Or.inl rfl | exact Or.inr (Or.inl rfl) | exact Or.inr (Or.inr rfl)) (by decide) (by decide)) (@pe_int _ _ _ _) (fun _ _ => rfl)) (@pv _ 2 _ _ (by rfl) (by first | exact Or.inl rfl | exact Or.inr (Or.inl rfl) | exact Or.inr (Or.inr rfl)) (by decide) (by decide)) (nomark _))))))) (fun _ _ _ _ => (@pe_ix _ _ _ _ _ _ _ (ix_get hu1) (@pv _ 0 _ _ (by rfl) (by first | exact Or.inl rfl | exact Or.inr (Or.inl rfl) | exact Or.inr (Or.inr rfl)) (by decide) (by decide)) (@pe_int _ _ _ _) (fun _ _ => rfl))) (by rfl) (by rfl) (by rfl) (by intro _; rfl))) rfl) (@pss_one _ _ _ (@ps_ret _ _ _ _ (@pe_bl _ _ _ _))) (@pss_nil _)))) (by intro _; rfl)) (@pss_one _ _ _ (@ps_ret _ _ _ _ (@pe_bl _ _ _ _)))), ?_⟩
    simp (maxSteps := 1000000) only [tFor_eq, Nat.reduceSub, Nat.reduceAdd, iRng2, List.cons.injEq, tSeq, exists_and_left, tOp, tVar, tC, rI0, tCons, tNil, tCB, L2.start, List.map_cons, List.map_nil, List.length_cons, List.length_nil, List.replicate, List.cons_append, List.nil_append, List.getElem?_cons_zero, List.getElem?_cons_succ, Option.some.injEq, exists_eq_left', V.int.injEq, and_true, and_assoc]
    refine ⟨by split <;> omega, by split <;> omega, by omega, by omega, ?_⟩
    obtain ⟨lo, elo, hlo⟩ : ∃ lo : Int, (if first > 0 then first else 0) = lo ∧ lo ≤ t ∧ 0 ≤ lo := ⟨_, rfl, by split <;> omega, by split <;> omega⟩
    rw [elo]
    have hrs : ∀ H', Same H H' → Paired (RRow3 H') xs rows := fun H' s' => Paired.mapP hp fun _ _ r => RRow3.keep (S := []) s'.keep (fun _ z => nomatch z) r
    refine for_range (n := (last + 1 - lo).toNat) (fun i σ H' => ∃ v5 v6 : Option V, σ = [some (.ref pr), some (.str z), some (.int h), some (.int first), some (.int last), v5, v6] ∧ lo + i ≤ t ∧ Same H H') ⟨_, _, rfl, by omega, .refl _⟩ ?_ ?_
    · rintro i σ H2 hi ⟨v5, v6, rfl, hit, s2⟩
      have er2 := s2 _ _ er
      simp (maxSteps := 1000000) only [tComp_eq, rInX, inO_l', rSlX, upd_same, iList, tSl, tNoPart, tPart, rCat, List.cons.injEq, tSeq, exists_and_left, tIfS, tTest, tOp, tUn, tVar, tC, rU, tRet, tAsg, gName, tNext, List.getElem?_cons_zero, List.getElem?_cons_succ, List.set_cons_zero, List.set_cons_succ, Option.some.injEq, exists_eq_left', V.int.injEq, V.bl.injEq, V.ref.injEq, and_true, true_and, and_assoc]
      refine ⟨⟨_, SqL.of er2⟩, comp_map RRow3 (fun H H' v q s' r => RRow3.keep (S := []) s'.keep (fun _ z => nomatch z) r) (fun r => decide (r.1 = z) && decide (r.2.2 < lo + i)) (fun r => optV r.2.1) er2 (hrs H2 s2) hl (fun v q H3 A B hv yes no => ?_) (fun p3 H3 n3 e3 s3 => ?_)⟩
      · obtain ⟨tq, rfl, etq⟩ := hv
        simp (maxSteps := 1000000) only [rEq_ss, rGet, getO_t, atI_0, atI_1, atI_2, cSt, List.drop_succ_cons, List.drop_zero, exists_and_left, if_false, Bool.false_eq_true, tAnd, tTest, tOp, tVar, tC, rI0, gName, List.map_cons, List.map_nil, List.replicate, List.cons_append, List.nil_append, List.getElem?_cons_zero, List.getElem?_cons_succ, List.set_cons_zero, Option.some.injEq, exists_eq_left', V.int.injEq, V.bl.injEq, V.ref.injEq, true_and, Option.join_some, etq]
        by_cases c1 : q.1 = z
        · by_cases c2 : q.2.2 < lo + (i : Int)
          · have := yes (by simp [c1, c2])
            simpa [c1, c2] using this
          · have := no (by simp [c1, c2])
            simpa [c1, c2] using this
        · have := no (by simp [c1])
          simpa [c1] using this
      refine ⟨p3, rfl, _, e3, ?_⟩
      intro p4 n4
      generalize z4 : upd H3 p4 _ = H4
      obtain ⟨s4, e4⟩ := new_same z4 n4
      have s24 := (s2.trans s3).trans s4
      have er4 := s24 _ _ er
      refine ⟨⟨_, SqL.of er4⟩, comp_map RRow3 (fun H H' v q s' r => RRow3.keep (S := []) s'.keep (fun _ z => nomatch z) r) (fun r => decide (r.1 = z) && decide (r.2.2 = lo + i)) (fun r => optV r.2.1) er4 (hrs H4 s24) hl (fun v q H3 A B hv yes no => ?_) (fun p5 H5 n5 e5 s5 => ?_)⟩
      · obtain ⟨tq, rfl, etq⟩ := hv
        simp (maxSteps := 1000000) only [rEq_ss, rGet, getO_t, atI_0, atI_1, atI_2, cSt, List.drop_succ_cons, List.drop_zero, rEq_ii, exists_and_left, if_false, Bool.false_eq_true, tAnd, tTest, tOp, tVar, tC, gName, List.map_cons, List.map_nil, List.replicate, List.cons_append, List.nil_append, List.getElem?_cons_zero, List.getElem?_cons_succ, List.set_cons_zero, Option.some.injEq, exists_eq_left', V.bl.injEq, V.ref.injEq, true_and, Option.join_some, etq]
        by_cases c1 : q.1 = z
        · by_cases c2 : q.2.2 = lo + (i : Int)
          · have := yes (by simp [c1, c2])
            simpa [c1, c2] using this
          · have := no (by simp [c1, c2])
            simpa [c1, c2] using this
        · have := no (by simp [c1])
          simpa [c1] using this
      have ea : ((rows.filter fun r => decide (r.1 = z) && decide (r.2.2 < lo + (i : Int))).map fun r => optV r.2.1) = (ahd rows z (lo + i)).map optV := by
        unfold ahd
        rw [List.map_map]
        rfl
      have eq : ((rows.filter fun r => decide (r.1 = z) && decide (r.2.2 = lo + (i : Int))).map fun r => optV r.2.1) = (eqs rows z (lo + i)).map optV := by
        unfold eqs
        rw [List.map_map]
        rfl
      rw [ea] at e4
      rw [eq] at e5
      have la : (ahd rows z (lo + i)).length ≤ rows.length := by
        unfold ahd
        rw [List.length_map]
        exact List.length_filter_le _ _
      have le : (eqs rows z (lo + i)).length ≤ rows.length := by
        unfold eqs
        rw [List.length_map]
        exact List.length_filter_le _ _
      have lc := cutV_length ((ahd rows z (lo + i)).map optV) (some (-1)) none
      rw [List.length_map] at lc
      refine ⟨p5, rfl, _, s5 _ _ e4, _, e5, by rw [List.length_map, sizeLine_eq]; omega, fun p6 n6 => ⟨_, if_pos ⟨rfl, by rw [List.all_append, cut_flat (flat_opt _), flat_opt]; rfl⟩, ?_⟩⟩
      have s25 := s24.trans s5
      refine ite2 (fun _ => q _ (s25.trans (.upd_new n6))) (fun hno => ⟨?_, s25.trans (.upd_new n6)⟩)
      have hne : lo + (i : Int) ≠ t := fun z => by
        refine hno (inV_mem ?_)
        rw [z]
        rcases hw with ⟨ini, e⟩ | e
        · rw [e, List.map_append]
          refine List.mem_append_left _ ?_
          change V.int h ∈ cutV (ini.map optV ++ [V.int h]) (some (-1)) none
          rw [cut_last]
          exact .head _
        · exact List.mem_append_right _ (List.mem_map.mpr ⟨_, e, rfl⟩)
      omega
    · rintro σ H2 ⟨v5, v6, rfl, hit, s2⟩
      omega
end
end K58
namespace K58
open PySem L2
/-! ### the lambda -/
abbrev qF : Str := "_law_found" ++ ".<locals>." ++ "<lambda>"
abbrev gA : Arguments := { posonlyargs := [], args := [{ arg := "_law_row", annotation := none, pos := ⟨105, 46, 105, 54⟩ : Arg }], vararg := none, kwonlyargs := [], kw_defaults := [], kwarg := none, defaults := [] }
abbrev gB : Expr := .Subscript (.Name "_law_row" ⟨105, 56, 105, 64⟩) (.Constant (.int 3) 0 ⟨105, 65, 105, 66⟩) ⟨105, 56, 105, 67⟩
abbrev gS : Scope := { kind := .function, names := [("_law_row", .local)], isGenerator := false, isCoroutine := false, more := [] }
abbrev gP : Pos := ⟨105, 39, 105, 67⟩
theorem scl_found : CloScope ["_law_row"] ["_law_row"] [] gS := ⟨rfl, rfl, rfl, by decide +kernel, rfl, rfl, by decide, by decide +kernel, by decide +kernel, by decide +kernel, by decide +kernel⟩
abbrev Ans := Nat × Str × Option Int × Int
def tA (q : Ans) : List V := [.int (q.1 : Int), .str q.2.1, optV q.2.2.1, .int q.2.2.2]
def RAns (H : Hp) (v : V) (q : Ans) : Prop := ∃ t, v = .ref t ∧ H t = some (.tup (tA q))
theorem RAns.keep {S : List Addr} {H H' : Hp} {v : V} {r : Ans} (k : Keep S H H') (hs : ∀ b ∈ S, NoT H b) (h : RAns H v r) : RAns H' v r := by
  obtain ⟨t, e, he⟩ := h
  exact ⟨t, e, k _ _ he fun z => hs _ z _ he⟩
section
variable {P : Program} {w : World} {K : PySem.W.Frag} {mg : Str → Option Value} {base : Heap} {C C2 : Addr}
theorem lam_key {H : Hp} {f p : Addr} {q : Ans} (L : LamAt H "<lambda>" qF gA gB gS [] f []) (e : H p = some (.tup (tA q))) : Runs P w K mg base 1 f [.ref p] H fun v H2 => v = .int q.2.2.2 ∧ Same H H2 := by
  refine L.runs scl_found (fun _ _ _ _ us hl => match us, hl with | [_], _ => rfl) rfl fun cs cl c' A outer s hcs hr => ?_
  have hu := hr.units
  have hu1 : (A.deeper (PySem.W.envX qF gS s.heap.objs.size f (.ref c') cl)).units + 1 < cLine := by omega
  refine ⟨_, (pe_ix (ix_get hu1) (pv 0) pe_int (fun _ _ => rfl)), ?_⟩
  have e' : er cs H p = some (.tup [.int (q.1 : Int), .str q.2.1, optV q.2.2.1, .int q.2.2.2]) := by rw [er_out (hcs.not e (fun φ z => by cases z))]; exact e
  simp (maxSteps := 1000000) only [rGet, getO_t, atI_3, Nat.reduceSub, Nat.reduceAdd, exists_and_left, tOp, tVar, tC, List.map_cons, List.map_nil, List.length_cons, List.length_nil, List.replicate, List.getElem?_cons_zero, Option.some.injEq, exists_eq_left', V.ref.injEq, true_and, List.append_nil, e', L2.startC]
  rw [rs_er]
  exact .refl _
end
/-! ### the hall -/
abbrev Ask := Nat × Str × Int
def RAsk (H : Hp) (v : V) (q : Ask) : Prop := ∃ t, v = .ref t ∧ H t = some (.tup [.int (q.1 : Int), .str q.2.1, .int q.2.2])
theorem RAsk.keep {S : List Addr} {H H' : Hp} {v : V} {r : Ask} (k : Keep S H H') (hs : ∀ b ∈ S, NoT H b) (h : RAsk H v r) : RAsk H' v r := by
  obtain ⟨t, e, he⟩ := h
  exact ⟨t, e, k _ _ he fun z => hs _ z _ he⟩
def cs (came : List Ans) (i : Nat) (z : Str) : List Ans := came.filter fun q => decide ((q.1 : Int) = (i : Int)) && decide (q.2.1 = z)
def mOf (came : List Ans) (i : Nat) : Mp := fun z => ((cs came i z).getLast?).map fun q => (q.2.2.1, q.2.2.2)
structure Ha where
  ph : Addr
  pn : Addr
  pk : Addr
  prw : Addr
  pas : Addr
  pto : Addr
  pca : Addr
  bk : BkA
  nv : List (Addr × Addr × Addr)
  kps : List Int
structure Sm where
  rows : List Row
  asked : List Ask
  told : List Ans
  came : List Ans
def hkv (a : Ha) : List (Key × V) := [(Sum.inr (Str.ofString "book"), .ref a.bk.x), (Sum.inr (Str.ofString "near"), .ref a.pn), (Sum.inr (Str.ofString "keep"), .ref a.pk), (Sum.inr (Str.ofString "rows"), .ref a.prw), (Sum.inr (Str.ofString "asked"), .ref a.pas), (Sum.inr (Str.ofString "told"), .ref a.pto), (Sum.inr (Str.ofString "came"), .ref a.pca)]
section
variable {a : Ha}
theorem hk_book : valV (hkv a) (Sum.inr (Str.ofString "book")) = some (.ref a.bk.x) := by unfold hkv; rw [valV_pos rfl]
theorem hk_near : valV (hkv a) (Sum.inr (Str.ofString "near")) = some (.ref a.pn) := by unfold hkv; rw [valV_neg (by dsimp only; decide), valV_pos rfl]
theorem hk_keep : valV (hkv a) (Sum.inr (Str.ofString "keep")) = some (.ref a.pk) := by unfold hkv; rw [valV_neg (by dsimp only; decide), valV_neg (by dsimp only; decide), valV_pos rfl]
theorem hk_rows : valV (hkv a) (Sum.inr (Str.ofString "rows")) = some (.ref a.prw) := by unfold hkv; rw [valV_neg (by dsimp only; decide), valV_neg (by dsimp only; decide), valV_neg (by dsimp only; decide), valV_pos rfl]
theorem hk_asked : valV (hkv a) (Sum.inr (Str.ofString "asked")) = some (.ref a.pas) := by unfold hkv; rw [valV_neg (by dsimp only; decide), valV_neg (by dsimp only; decide), valV_neg (by dsimp only; decide), valV_neg (by dsimp only; decide), valV_pos rfl]
theorem hk_told : valV (hkv a) (Sum.inr (Str.ofString "told")) = some (.ref a.pto) := by unfold hkv; rw [valV_neg (by dsimp only; decide), valV_neg (by dsimp only; decide), valV_neg (by dsimp only; decide), valV_neg (by dsimp only; decide), valV_neg (by dsimp only; decide), valV_pos rfl]
theorem hk_came : valV (hkv a) (Sum.inr (Str.ofString "came")) = some (.ref a.pca) := by unfold hkv; rw [valV_neg (by dsimp only; decide), valV_neg (by dsimp only; decide), valV_neg (by dsimp only; decide), valV_neg (by dsimp only; decide), valV_neg (by dsimp only; decide), valV_neg (by dsimp only; decide), valV_pos rfl]
end
structure HallAt (C C2 : Addr) (N : Nat) (H : Hp) (a : Ha) (s : Sm) (st : BkS) : Prop where
  eh : H a.ph = some (.dK (hkv a))
  en : H a.pn = some (.lst (a.nv.map fun x => V.ref x.1))
  ek : H a.pk = some (.lst (a.kps.map V.int))
  kl : a.kps.length = a.nv.length
  k0 : ∀ k ∈ a.kps, 0 ≤ k
  nr : ∀ i x kp, a.nv[i]? = some x → a.kps[i]? = some kp → ∃ kvs, NearAt C2 H x.1 x.2.1 x.2.2 kp kvs (mOf s.came i) ∧ kvs.length ≤ N
  bk : BookAt C N H a.bk st
  bd : ∀ z, st.d z = ofN s.rows z
  rw_ : ∃ xs, H a.prw = some (.lst xs) ∧ Paired (RRow3 H) xs s.rows
  as_ : ∃ xs, H a.pas = some (.lst xs) ∧ Paired (RAsk H) xs s.asked
  to_ : ∃ xs, H a.pto = some (.lst xs) ∧ Paired (RAns H) xs s.told
  ca_ : ∃ xs, H a.pca = some (.lst xs) ∧ Paired (RAns H) xs s.came
  ln : s.rows.length ≤ N ∧ s.asked.length ≤ N ∧ s.told.length ≤ N ∧ s.came.length ≤ N
def Tru (n : Nat) (now : Int) (rows : List Row) (q : Ans) : Prop := q.1 < n ∧ nm q.2.1 = true ∧ q.2.2.2 ≤ now ∧ ∀ h, q.2.2.1 = some h → ∃ t, q.2.2.2 ≤ t ∧ 0 ≤ t ∧ t ≤ now ∧ Wt rows q.2.1 h t
structure Mo (n : Nat) (now : Int) (s : Sm) (st : BkS) : Prop where
  rs : s.rows.Pairwise fun a b => a.2.2 ≤ b.2.2
  rn : ∀ r ∈ s.rows, r.2.2 ≤ now
  sl : ∀ l, st.last = some l → l ≤ now
  as_ : ∀ q ∈ s.asked, q.1 < n ∧ nm q.2.1 = true ∧ q.2.2 ≤ now
  to_ : ∀ q ∈ s.told, Tru n now s.rows q
  ca_ : ∀ q ∈ s.came, Tru n now s.rows q
  in_ : ∀ i z, (cs s.came i z).Pairwise fun a b => a.2.2.2 < b.2.2.2
def hadr (a : Ha) : List Addr := [a.ph, a.pn, a.pk, a.prw, a.pas, a.pto, a.pca] ++ (badr a.bk ++ (a.nv.map (·.1) ++ a.nv.map (·.2.2)))
section
variable {C C2 : Addr} {N : Nat} {H H' : Hp} {a : Ha} {s : Sm} {st : BkS} {S : List Addr}
theorem HallAt.keep (h : HallAt C C2 N H a s st) (k : Keep S H H') (hs : ∀ b ∈ S, NoT H b) (hn : ∀ b ∈ S, b ∉ hadr a) : HallAt C C2 N H' a s st := by
  have nin : ∀ b ∈ hadr a, b ∉ S := fun b hb z => hn b z hb
  have n7 : ∀ b ∈ [a.ph, a.pn, a.pk, a.prw, a.pas, a.pto, a.pca], b ∉ S := fun b hb => nin b (List.mem_append_left _ hb)
  have nb : ∀ b ∈ badr a.bk, b ∉ S := fun b hb => nin b (List.mem_append_right _ (List.mem_append_left _ hb))
  obtain ⟨x1, e1, p1⟩ := h.rw_
  obtain ⟨x2, e2, p2⟩ := h.as_
  obtain ⟨x3, e3, p3⟩ := h.to_
  obtain ⟨x4, e4, p4⟩ := h.ca_
  refine ⟨k _ _ h.eh (n7 _ (by simp)), k _ _ h.en (n7 _ (by simp)), k _ _ h.ek (n7 _ (by simp)), h.kl, h.k0, fun i x kp hx hk => ?_, h.bk.keep k hs (nb _ (by simp [badr])) (nb _ (by simp [badr])) (fun q hq => nb _ (by unfold badr; exact .tail _ (.tail _ (List.mem_map.mpr ⟨q, hq, rfl⟩)))), h.bd,
    ⟨x1, k _ _ e1 (n7 _ (by simp)), Paired.mapP p1 fun _ _ z => z.keep k hs⟩, ⟨x2, k _ _ e2 (n7 _ (by simp)), Paired.mapP p2 fun _ _ z => z.keep k hs⟩, ⟨x3, k _ _ e3 (n7 _ (by simp)), Paired.mapP p3 fun _ _ z => z.keep k hs⟩, ⟨x4, k _ _ e4 (n7 _ (by simp)), Paired.mapP p4 fun _ _ z => z.keep k hs⟩, h.ln⟩
  obtain ⟨kvs, hN, hl⟩ := h.nr i x kp hx hk
  have hm := List.mem_of_getElem? hx
  exact ⟨kvs, hN.keep k hs (nin _ (by unfold hadr; simp only [List.mem_append]; exact .inr (.inr (.inl (List.mem_map.mpr ⟨x, hm, rfl⟩))))) (nin _ (by unfold hadr; simp only [List.mem_append]; exact .inr (.inr (.inr (List.mem_map.mpr ⟨x, hm, rfl⟩))))), hl⟩
theorem HallAt.same (h : HallAt C C2 N H a s st) (s' : Same H H') : HallAt C C2 N H' a s st := h.keep (S := []) s'.keep (fun _ z => nomatch z) (fun _ z => nomatch z)
end
end K58
namespace K58
open PySem L2 PySem.W
abbrev s__law_found : Stmt := top 18
theorem sc__law_found : FnScope ["_law_hall", "_law_draw_here", "_law_now", "_law_asker", "_law_name", "_law_keep", "_law_hand", "_law_came"] ["_law_hall", "_law_draw_here", "_law_now"] (defScope s__law_found) := ⟨rfl, rfl, rfl, by decide +kernel, rfl, by decide +kernel, by decide +kernel⟩
theorem cs__law_found_0 : CScope ["_law_row"] ["_law_asker", "_law_name"] { kind := .function, names := [(".0", .local), ("_law_row", .local), ("_law_asker", .free), ("_law_name", .free)], isGenerator := false, isCoroutine := false, more := [] } (defScope s__law_found) := ⟨rfl, by decide +kernel, by decide +kernel, by decide +kernel, by decide +kernel, by decide +kernel⟩
theorem cs__law_found_1 : CScope ["_law_row"] [] { kind := .function, names := [(".0", .local), ("_law_row", .local)], isGenerator := false, isCoroutine := false, more := [] } (defScope s__law_found) := ⟨rfl, by decide +kernel, by decide +kernel, by decide +kernel, by decide +kernel, by decide +kernel⟩
theorem cut4 {s1 s2 s3 s4 b : TS} {D : Ends} {σ : St} {H : Hp} (M : St → Hp → Prop) (h1 : ∀ σ H, M σ H → b D σ H) (h2 : ∀ T : TS, (∀ σ H, M σ H → T D σ H) → tSeq s1 (tSeq s2 (tSeq s3 (tSeq s4 T))) D σ H) : tSeq s1 (tSeq s2 (tSeq s3 (tSeq s4 b))) D σ H := h2 b h1
theorem cut1 {a b : TS} {D : Ends} {σ : St} {H : Hp} (M : St → Hp → Prop) (h1 : ∀ σ H, M σ H → b D σ H) (h2 : ∀ T : TS, (∀ σ H, M σ H → T D σ H) → tSeq a T D σ H) : tSeq a b D σ H := h2 b h1
theorem name3 {r : Int} (h0 : 0 ≤ r) (h1 : r < 3) : ∃ z : Str, atI [V.str (Str.ofString "a"), V.str (Str.ofString "b"), V.str (Str.ofString "ab")] r = some (.str z) ∧ nm z = true := by
  have : r = 0 ∨ r = 1 ∨ r = 2 := by omega
  rcases this with rfl | rfl | rfl
  · exact ⟨_, rfl, by decide⟩
  · exact ⟨_, rfl, by decide⟩
  · exact ⟨_, rfl, by decide⟩
theorem refs_of {H : Hp} : ∀ {zs : List V} {l : List Ans}, Paired (RAns H) zs l → ∃ ps : List Addr, zs = ps.map V.ref ∧ Paired (fun p q => H p = some (.tup (tA q))) ps l
  | _, _, .nil => ⟨[], rfl, .nil⟩
  | _, _, .cons ⟨t, e, h⟩ r => by
    obtain ⟨ps, e2, h2⟩ := refs_of r
    exact ⟨t :: ps, by rw [e, e2]; rfl, .cons h h2⟩
theorem last_turn {ini : List Ans} {l : Ans} (hp : (ini ++ [l]).Pairwise fun a b => a.2.2.2 < b.2.2.2) : ∀ q ∈ ini, q.2.2.2 < l.2.2.2 := fun q hq => (List.pairwise_append.mp hp).2.2 q hq l (.head _)
theorem bst_last {ini : List Ans} {l : Ans} {i : Nat} {n : Int} (hp : (ini ++ [l]).Pairwise fun a b => a.2.2.2 < b.2.2.2) (h : Bst ((ini ++ [l]).map fun q => q.2.2.2) ((ini ++ [l]).length - 1) i n) : i = ini.length := by
  obtain ⟨h1, h2, h3⟩ := h
  rw [List.length_append, List.length_singleton] at h2
  by_cases e : i = ini.length
  · exact e
  · have hi : i < ini.length := by omega
    have e1 : ((ini ++ [l]).map fun q => q.2.2.2)[ini.length]? = some l.2.2.2 := by simp
    have e2 := (h3 ini.length _ (by simp) e1).1
    rw [List.getElem?_map, List.getElem?_append_left hi, List.getElem?_eq_getElem hi] at h1
    have e3 : ini[i].2.2.2 = n := by simpa using h1
    have := last_turn hp ini[i] (List.getElem_mem hi)
    omega
section
variable {P : Program} {w : World} {K : PySem.W.Frag} {mg : Str → Option Value} {base : Heap} {C C2 c Pt : Addr}
def sp_found (C C2 Pt : Addr) : Sp := fun vs H Q _ => ∃ (a : Ha) (s : Sm) (st : BkS) (N : Nat) (now a0 b0 : Int) (p : Addr), vs = [.ref a.ph, .ref p, .int now] ∧ HallAt C C2 N H a s st ∧ Mo a.nv.length now s st ∧ N ≤ 900 ∧ 0 ≤ now ∧ now ≤ 100000 ∧ 0 < a.nv.length ∧ a.nv.length ≤ 10 ∧ H p = some (.lst [.int a0, .int b0]) ∧ p ∉ hadr a ∧ Pt ∉ hadr a ∧ TabOk H Pt gP qF ∧
  ∀ H' a1 b1, Keep [p, Pt] H H' → H' p = some (.lst [.int a1, .int b1]) → TabOk H' Pt gP qF → Q (.bl true) H'
set_option maxHeartbeats 8000000 in
theorem own_found (D : Def K mg "_law_found" s__law_found) (hb : Blt mg) (KX : K.In base) (G : base.Ns mainGlobals mg) (ht : tabIn K "_law_found" = some (c, Pt)) (hd : CodeHd base c Pt) (bm : base.BuiltinsAt mg Pt) (ne : mainGlobals ≠ Pt) (T_Book : ClsD K mg "Book" C at_Book) (T_Near : ClsD K mg "Near" C2 at_Near)
    (F__law_next : Own P w K mg base 1 "_law_next" ["_law_draw_here", "_law_size"] sp_next) (F__law_was : Own P w K mg base 1 "_law_was" ["_law_rows", "_law_name", "_law_hand", "_law_first", "_law_last"] sp_was) (M_Near_find : OwnM P w K mg base 2 C2 "find" ["self", "name", "turn"] (sp_find C2)) (M_Book_had : OwnM P w K mg base 1 C "had" ["self", "name", "hand", "first", "last"] (sp_bhad C)) :
    Own P w K mg base 4 "_law_found" ["_law_hall", "_law_draw_here", "_law_now"] (sp_found C C2 Pt) := by
  refine D.ownT sc__law_found (fun _ _ _ _ _ _ us hl => match us, hl with | [_, _, _], _ => rfl) (fun vs H Q E h => ?_) KX G ht (fun f A outer s H vs Q E hr h => ?_)
  · obtain ⟨a, s, st, N, now, a0, b0, p, rfl, _⟩ := h
    rfl
  · obtain ⟨a, sm, st, N, now, a0, b0, p, rfl, hH, hM, hN, h0, h1, n0, n10, ep, npa, nPa, hT, q⟩ := h
    have hu := hr.units
    have hu1 : (A.deeper (PyProof.Rows.envOfC "_law_found" (defScope s__law_found) s.heap.objs.size f (.ref c))).units + 1 < cLine := by omega
    have hrT : Room 2 (A.deeper (PyProof.Rows.envOfC "_law_found" (defScope s__law_found) s.heap.objs.size f (.ref c))) := hr.mono (by decide)
    have TT : ∀ N, TabA (cxOf CX0 P w K mg base N "_law_found" (defScope s__law_found) f (.ref c) A outer s H E).nox c Pt := fun N => ⟨rfl, hd, bm, ne⟩
    refine ⟨_, (@pss_cons _ _ _ _ _ (@ps_set _ _ 3 _ _ _ _ sc__law_found.nd rfl (by first | exact Or.inl rfl | exact Or.inr rfl) (@pe_fn _ _ _ _ _ _ _ _ _ _ _ F__law_next hr (@pa_cX _ _ _ _ _ (@pv _ 1 _ _ (by rfl) (by first | exact Or.inl rfl | exact Or.inr (Or.inl rfl) | exact Or.inr (Or.inr rfl)) (by decide) (by decide)) (@pa_cX _ _ _ _ _ (@pe_callB _ _ _ _ _ _ _ _ _ call_lenX rfl (hb _ (by decide)) bt_len (@pa_cX _ _ _ _ _ (@pe_ix _ _ _ _ _ _ _ (ix_get hu1) (@pv _ 0 _ _ (by rfl) (by first | exact Or.inl rfl | exact Or.inr (Or.inl rfl) | exact Or.inr (Or.inr rfl)) (by decide) (by decide)) (@pe_str _ _ _ _) (fun _ _ => rfl)) (@pa_nil _) (by rfl)) (by decide) (by decide) (by rfl) (by rfl)) (@pa_nil _) (by rfl)) (by rfl)) (by decide) (by rfl) (by decide) (by rfl) (by rfl)) (by rfl) (by first | exact .inl rfl | exact .inr rfl | assumption)) (@pss_cons _ _ _ _ _ (@ps_set _ _ 4 _ _ _ _ sc__law_found.nd rfl (by first | exact Or.inl rfl | exact Or.inr rfl) (@pe_ix _ _ _ _ _ _ _ (ix_get hu1) (@pe_lst _ _ _ _ (@pa_cX _ _ _ _ _ (@pe_str _ _ _ _) (@pa_cX _ _ _ _ _ (@pe_str _ _ _ _) (@pa_cX _ _ _ _ _ (@pe_str _ _ _ _) (@pa_nil _) (by rfl)) (by rfl)) (by rfl))) (@pe_fn _ _ _ _ _ _ _ _ _ _ _ F__law_next hr (@pa_cX _ _ _ _ _ (@pv _ 1 _ _ (by rfl) (by first | exact Or.inl rfl | exact Or.inr (Or.inl rfl) | exact Or.inr (Or.inr rfl)) (by decide) (by decide)) (@pa_cX _ _ _ _ _ (@pe_int _ _ _ _) (@pa_nil _) (by rfl)) (by rfl)) (by decide) (by rfl) (by decide) (by rfl) (by rfl)) (fun _ _ => rfl)) (by rfl) (by first | exact .inl rfl | exact .inr rfl | assumption)) (@pss_cons _ _ _ _ _ (@ps_set _ _ 5 _ _ _ _ sc__law_found.nd rfl (by first | exact Or.inl rfl | exact Or.inr rfl) (@pe_ix _ _ _ _ _ _ _ (ix_get hu1) (@pe_ix _ _ _ _ _ _ _ (ix_get hu1) (@pv _ 0 _ _ (by rfl) (by first | exact Or.inl rfl | exact Or.inr (Or.inl rfl) | exact Or.inr (Or.inr rfl)) (by decide) (by decide)) (@pe_str _ _ _ _) (fun _ _ => rfl)) (@pv _ 3 _ _ (by rfl) (by first | exact Or.inl rfl | exact Or.inr (Or.inl rfl) | exact Or.inr (Or.inr rfl)) (by decide) (by decide)) (fun _ _ => rfl)) (by rfl) (by first | exact .inl rfl | exact .inr rfl | assumption)) (@pss_cons _ _ _ _ _ (@ps_set _ _ 6 _ _ _ _ sc__law_found.nd rfl (by first | exact Or.inl rfl | exact Or.inr rfl) (@pe_mth _ _ _ _ _ _ _ _ _ _ _ _ _ _ _ M_Near_find T_Near.cl hr (@pe_ix _ _ _ _ _ _ _ (ix_get hu1) (@pe_ix _ _ _ _ _ _ _ (ix_get hu1) (@pv _ 0 _ _ (by rfl) (by first | exact Or.inl rfl | exact Or.inr (Or.inl rfl) | exact Or.inr (Or.inr rfl)) (by decide) (by decide)) (@pe_str _ _ _ _) (fun _ _ => rfl)) (@pv _ 3 _ _ (by rfl) (by first | exact Or.inl rfl | exact Or.inr (Or.inl rfl) | exact Or.inr (Or.inr rfl)) (by decide) (by decide)) (fun _ _ => rfl)) (@pa_cX _ _ _ _ _ (@pv _ 4 _ _ (by rfl) (by first | exact Or.inl rfl | exact Or.inr (Or.inl rfl) | exact Or.inr (Or.inr rfl)) (by decide) (by decide)) (@pa_cX _ _ _ _ _ (@pv _ 2 _ _ (by rfl) (by first | exact Or.inl rfl | exact Or.inr (Or.inl rfl) | exact Or.inr (Or.inr rfl)) (by decide) (by decide)) (@pa_nil _) (by rfl)) (by rfl)) (by decide) (by rfl) (by rfl) (by rfl)) (by rfl) (by first | exact .inl rfl | exact .inr rfl | assumption)) (@pss_cons _ _ _ _ _ (@ps_setC _ _ _ _ _ _ _ _ _ _ _ 7 _ _ _ ["_law_row"] ["_law_asker", "_law_name"] [3, 4] rfl sc__law_found.nd rfl (by first | exact Or.inl rfl | exact Or.inr rfl) _ cs__law_found_0 (@pi_listK _ K _ _ _ (@pe_ix _ _ _ _ _ _ _ (ix_get hu1) (@pv _ 0 _ _ (by rfl) (by first | exact Or.inl rfl | exact Or.inr (Or.inl rfl) | exact Or.inr (Or.inr rfl)) (by decide) (by decide)) (@pe_str _ _ _ _) (fun _ _ => rfl)) (by rfl)) (fun _ _ _ _ => (@pg_name _ _ 0 _ cs__law_found_0.nd rfl (by first | exact Or.inl rfl | exact Or.inr rfl) (by first | exact .inl rfl | exact .inr rfl | assumption))) (fun _ _ _ _ => (@pf_one _ _ _ (@PW.pt _ _ _ (@pw_and _ _ _ _ _ _ _ (@pt_cmpR _ _ _ _ _ _ _ _ op_eq (@pe_ix _ _ _ _ _ _ _ (ix_get hu1) (@pv _ 0 _ _ (by rfl) (by first | exact Or.inl rfl | exact Or.inr (Or.inl rfl) | exact Or.inr (Or.inr rfl)) (by decide) (by decide)) (@pe_int _ _ _ _) (fun _ _ => rfl)) (@pv _ 1 _ _ (by rfl) (by first | exact Or.inl rfl | exact Or.inr (Or.inl rfl) | exact Or.inr (Or.inr rfl)) (by decide) (by decide)) (nomark _)) (@pw_and1 _ _ _ _ (@pt_cmpR _ _ _ _ _ _ _ _ op_eq (@pe_ix _ _ _ _ _ _ _ (ix_get hu1) (@pv _ 0 _ _ (by rfl) (by first | exact Or.inl rfl | exact Or.inr (Or.inl rfl) | exact Or.inr (Or.inr rfl)) (by decide) (by decide)) (@pe_int _ _ _ _) (fun _ _ => rfl)) (@pv _ 2 _ _ (by rfl) (by first | exact Or.inl rfl | exact Or.inr (Or.inl rfl) | exact Or.inr (Or.inr rfl)) (by decide) (by decide)) (nomark _))))))) (fun _ _ _ _ => (@pv _ 0 _ _ (by rfl) (by first | exact Or.inl rfl | exact Or.inr (Or.inl rfl) | exact Or.inr (Or.inr rfl)) (by decide) (by decide))) rfl (by rfl) (by rfl) (by rfl) (by first | exact .inl rfl | exact .inr rfl | assumption) (by intro _; rfl)) (@pss_cons _ _ _ _ _ (@ps_if _ _ _ _ _ _ _ _ (@PW.pt _ _ _ (@pw_or _ _ _ _ _ _ _ (@pt_cmpR _ _ _ _ _ _ _ _ (op_eqNil hu) (@pv _ 7 _ _ (by rfl) (by first | exact Or.inl rfl | exact Or.inr (Or.inl rfl) | exact Or.inr (Or.inr rfl)) (by decide) (by decide)) (@pe_lst _ _ _ _ (@pa_nil _)) (nomark _)) (@pw_or1 _ _ _ _ (@pt_cmpR _ _ _ _ _ _ _ _ op_gt (@pe_op _ _ _ _ _ _ _ _ op_sub (@pv _ 2 _ _ (by rfl) (by first | exact Or.inl rfl | exact Or.inr (Or.inl rfl) | exact Or.inr (Or.inr rfl)) (by decide) (by decide)) (@pe_callB _ _ _ _ _ _ _ _ _ (call_maxL rfl) rfl (hb _ (by decide)) bt_max (@pa_cX _ _ _ _ _ (@pe_comp _ _ _ _ _ _ _ _ _ _ _ ["_law_row"] [] [] rfl _ cs__law_found_1 (@pi_listK _ K _ _ _ (@pv _ 7 _ _ (by rfl) (by first | exact Or.inl rfl | exact Or.inr (Or.inl rfl) | exact Or.inr (Or.inr rfl)) (by decide) (by decide)) (by rfl)) (fun _ _ _ _ => (@pg_name _ _ 0 _ cs__law_found_1.nd rfl (by first | exact Or.inl rfl | exact Or.inr rfl) (by first | exact .inl rfl | exact .inr rfl | assumption))) (fun _ _ _ _ => (@pf_nil _)) (fun _ _ _ _ => (@pe_ix _ _ _ _ _ _ _ (ix_get hu1) (@pv _ 0 _ _ (by rfl) (by first | exact Or.inl rfl | exact Or.inr (Or.inl rfl) | exact Or.inr (Or.inr rfl)) (by decide) (by decide)) (@pe_int _ _ _ _) (fun _ _ => rfl))) (by rfl) (by rfl) (by rfl) (by intro _; rfl)) (@pa_nil _) (by rfl)) (by decide) (by decide) (by rfl) (by rfl))) (@pv _ 5 _ _ (by rfl) (by first | exact Or.inl rfl | exact Or.inr (Or.inl rfl) | exact Or.inr (Or.inr rfl)) (by decide) (by decide)) (nomark _))))) (@pss_one _ _ _ (@ps_ret _ _ _ _ (@pe_cmpR _ _ _ _ _ _ _ _ op_isN (@pv _ 6 _ _ (by rfl) (by first | exact Or.inl rfl | exact Or.inr (Or.inl rfl) | exact Or.inr (Or.inr rfl)) (by decide) (by decide)) (@pe_non _ _ _) (nomark _)))) (@pss_nil _)) (@pss_cons _ _ _ _ _ (@ps_if _ _ _ _ _ _ _ _ (@pt_cmpR _ _ _ _ _ _ _ _ op_ne (@pv _ 6 _ _ (by rfl) (by first | exact Or.inl rfl | exact Or.inr (Or.inl rfl) | exact Or.inr (Or.inr rfl)) (by decide) (by decide)) (@pe_ix _ _ _ _ _ _ _ (ix_get hu1) (@pe_maxk _ _ _ _ _ _ _ _ _ _ _ _ _ _ (@pv _ 7 _ _ (by rfl) (by first | exact Or.inl rfl | exact Or.inr (Or.inl rfl) | exact Or.inr (Or.inr rfl)) (by decide) (by decide)) (TT _) hrT rfl rfl (hb _ (by decide)) (by intro _; rfl) rfl rfl (by rfl) (by rfl)) (@pe_int _ _ _ _) (fun _ _ => rfl)) (nomark _)) (@pss_one _ _ _ (@ps_ret _ _ _ _ (@pe_bl _ _ _ _))) (@pss_nil _)) (@pss_cons _ _ _ _ _ (@ps_if _ _ _ _ _ _ _ _ (@pt_cmpR _ _ _ _ _ _ _ _ op_isN (@pv _ 6 _ _ (by rfl) (by first | exact Or.inl rfl | exact Or.inr (Or.inl rfl) | exact Or.inr (Or.inr rfl)) (by decide) (by decide)) (@pe_non _ _ _) (nomark _)) (@pss_one _ _ _ (@ps_ret _ _ _ _ (@pe_bl _ _ _ _))) (@pss_nil _)) (@pss_cons _ _ _ _ _ (@ps_if _ _ _ _ _ _ _ _ (@pt_not _ _ _ _ (@pt_truX _ _ _ (@pe_fn _ _ _ _ _ _ _ _ _ _ _ F__law_was hr (@pa_cX _ _ _ _ _ (@pe_ix _ _ _ _ _ _ _ (ix_get hu1) (@pv _ 0 _ _ (by rfl) (by first | exact Or.inl rfl | exact Or.inr (Or.inl rfl) | exact Or.inr (Or.inr rfl)) (by decide) (by decide)) (@pe_str _ _ _ _) (fun _ _ => rfl)) (@pa_cX _ _ _ _ _ (@pv _ 4 _ _ (by rfl) (by first | exact Or.inl rfl | exact Or.inr (Or.inl rfl) | exact Or.inr (Or.inr rfl)) (by decide) (by decide)) (@pa_cX _ _ _ _ _ (@pv _ 6 _ _ (by rfl) (by first | exact Or.inl rfl | exact Or.inr (Or.inl rfl) | exact Or.inr (Or.inr rfl)) (by decide) (by decide)) (@pa_cX _ _ _ _ _ (@pe_op _ _ _ _ _ _ _ _ op_sub (@pv _ 2 _ _ (by rfl) (by first | exact Or.inl rfl | exact Or.inr (Or.inl rfl) | exact Or.inr (Or.inr rfl)) (by decide) (by decide)) (@pv _ 5 _ _ (by rfl) (by first | exact Or.inl rfl | exact Or.inr (Or.inl rfl) | exact Or.inr (Or.inr rfl)) (by decide) (by decide))) (@pa_cX _ _ _ _ _ (@pv _ 2 _ _ (by rfl) (by first | exact Or.inl rfl | exact Or.inr (Or.inl rfl) | exact Or.inr (Or.inr rfl)) (by decide) (by decide)) (@pa_nil _) (by rfl)) (by rfl)) (by rfl)) (by rfl)) (by rfl)) (by decide) (by rfl) (by decide) (by rfl) (by rfl)) (by intro _; rfl))) (@pss_one _ _ _ (@ps_ret _ _ _ _ (@pe_bl _ _ _ _))) (@pss_nil _)) (@pss_one _ _ _ (@ps_ret _ _ _ _ (@pe_cmpR _ _ _ _ _ _ _ _ op_isB (@pe_mth _ _ _ _ _ _ _ _ _ _ _ _ _ _ _ M_Book_had T_Book.cl hr (@pe_ix _ _ _ _ _ _ _ (ix_get hu1) (@pv _ 0 _ _ (by rfl) (by first | exact Or.inl rfl | exact Or.inr (Or.inl rfl) | exact Or.inr (Or.inr rfl)) (by decide) (by decide)) (@pe_str _ _ _ _) (fun _ _ => rfl)) (@pa_cX _ _ _ _ _ (@pv _ 4 _ _ (by rfl) (by first | exact Or.inl rfl | exact Or.inr (Or.inl rfl) | exact Or.inr (Or.inr rfl)) (by decide) (by decide)) (@pa_cX _ _ _ _ _ (@pv _ 6 _ _ (by rfl) (by first | exact Or.inl rfl | exact Or.inr (Or.inl rfl) | exact Or.inr (Or.inr rfl)) (by decide) (by decide)) (@pa_cX _ _ _ _ _ (@pe_callB _ _ _ _ _ _ _ _ _ (call_max2 rfl) rfl (hb _ (by decide)) bt_max (@pa_cX _ _ _ _ _ (@pe_int _ _ _ _) (@pa_cX _ _ _ _ _ (@pe_op _ _ _ _ _ _ _ _ op_sub (@pv _ 2 _ _ (by rfl) (by first | exact Or.inl rfl | exact Or.inr (Or.inl rfl) | exact Or.inr (Or.inr rfl)) (by decide) (by decide)) (@pv _ 5 _ _ (by rfl) (by first | exact Or.inl rfl | exact Or.inr (Or.inl rfl) | exact Or.inr (Or.inr rfl)) (by decide) (by decide))) (@pa_nil _) (by rfl)) (by rfl)) (by decide) (by decide) (by rfl) (by rfl)) (@pa_cX _ _ _ _ _ (@pv _ 2 _ _ (by rfl) (by first | exact Or.inl rfl | exact Or.inr (Or.inl rfl) | exact Or.inr (Or.inr rfl)) (by decide) (by decide)) (@pa_nil _) (by rfl)) (by rfl)) (by rfl)) (by rfl)) (by decide) (by rfl) (by rfl) (by rfl)) (@pe_bl _ _ _ _) (nomark _))))))))))))), ?_⟩
    have hp1 : ∀ {G G' : Hp} {x y : Int}, HallAt C C2 N G a sm st → G p = some (.lst [.int x, .int y]) → Keep [p] G G' → HallAt C C2 N G' a sm st := fun hG e k => hG.keep k (noT1 (.of_lst e)) (fun b hb => by rw [List.mem_singleton] at hb; subst hb; exact npa)
    refine cut4 (fun σ H' => ∃ (i : Nat) (kp a1 b1 : Int) (z : Str), σ = [some (.ref a.ph), some (.ref p), some (.int now), some (.int (i : Int)), some (.str z), some (.int kp), some (optV (fnd (mOf sm.came i) kp z now)), none] ∧ i < a.nv.length ∧ a.kps[i]? = some kp ∧ nm z = true ∧ HallAt C C2 N H' a sm st ∧ H' p = some (.lst [.int a1, .int b1]) ∧ Keep [p] H H') ?_ (fun X hX => ?_)
    rotate_left
    · have eh := hH.eh
      have en := hH.en
      simp (maxSteps := 1000000) only [rGet, getO_ds, rLenX, lenX_r, lenO_l, Option.bind_some, Nat.reduceSub, Nat.reduceAdd, tMeth, List.cons.injEq, tSeq, exists_and_left, tOp, tVar, tC, tAsg, gName, tCall, tCons, tNil, tCB, tLst, L2.start, List.map_cons, List.map_nil, List.length_cons, List.length_nil, List.replicate, List.cons_append, List.nil_append, List.getElem?_cons_zero, List.getElem?_cons_succ, List.set_cons_zero, List.set_cons_succ, Option.some.injEq, exists_eq_left', V.ref.injEq, and_true, List.append_nil, eh, hk_near, en]
      refine ⟨p, a0, b0, _, rfl, ep, by rw [List.length_map]; omega, by rw [List.length_map]; omega, fun r a1 b1 r0 r1 => ⟨by rw [sizeLine_eq]; decide, ?_⟩⟩
      rw [List.length_map] at r1
      generalize z1 : upd H p (.lst [.int a1, .int b1]) = H1
      have k1 : Keep [p] H H1 := by rw [← z1]; exact Keep.refl.upd (.inl (.head _))
      have ep1 : H1 p = some (.lst [.int a1, .int b1]) := by rw [← z1]; exact upd_same
      have hH1 := hp1 hH ep k1
      intro p2 n2
      generalize z2 : upd H1 p2 _ = H2
      obtain ⟨s2, e2⟩ := new_same z2 n2
      refine ⟨p, a1, b1, 3, rfl, s2 _ _ ep1, by decide, by decide, fun r2 a2 b2 r20 r21 => ?_⟩
      generalize z3 : upd H2 p (.lst [.int a2, .int b2]) = H3
      have k3 : Keep [p] H2 H3 := by rw [← z3]; exact Keep.refl.upd (.inl (.head _))
      have ep3 : H3 p = some (.lst [.int a2, .int b2]) := by rw [← z3]; exact upd_same
      have hH3 := hp1 (hH1.same s2) (s2 _ _ ep1) k3
      have e23 := k3 _ _ e2 (by rw [List.mem_singleton]; exact Ne.symm (ne_of_none ep1 n2))
      obtain ⟨z, ez, hz⟩ := name3 r20 r21
      obtain ⟨i, rfl⟩ : ∃ i : Nat, r = i := ⟨r.toNat, by omega⟩
      have hi : i < a.nv.length := by omega
      have hik : i < a.kps.length := by have := hH.kl; omega
      have eh3 := hH3.eh
      have en3 := hH3.en
      have ek3 := hH3.ek
      obtain ⟨x, hx⟩ : ∃ x, a.nv[i]? = some x := ⟨_, List.getElem?_eq_getElem hi⟩
      obtain ⟨kp, hk⟩ : ∃ kp, a.kps[i]? = some kp := ⟨_, List.getElem?_eq_getElem hik⟩
      have i1 : atI (a.kps.map V.int) (i : Int) = some (.int kp) := atI_nat (by rw [List.getElem?_map, hk]; rfl)
      have i2 : atI (a.nv.map fun x => V.ref x.1) (i : Int) = some (.ref x.1) := atI_nat (by rw [List.getElem?_map, hx]; rfl)
      obtain ⟨kvs, hNr, hkl⟩ := hH3.nr i x kp hx hk
      have ex3 := hNr.ins
      simp (maxSteps := 1000000) only [getO_l, getO_ds, HO.ins.injEq, exists_and_left, Option.some.injEq, exists_eq_left', V.ref.injEq, true_and, and_assoc, e23, ez, eh3, hk_near, hk_keep, en3, ek3, i1, i2, ex3, fn_Near_find]
      refine ⟨x.1, x.2.1, x.2.2, kp, now, z, kvs, _, rfl, hNr, ?_⟩
      exact hX _ _ ⟨i, kp, a2, b2, z, rfl, hi, hk, hz, hH3, ep3, (k1.same s2).trans k3⟩
    rintro σ H1 ⟨i, kp, a1, b1, z, rfl, hi, hk, hz, hH1, ep1, k1⟩
    have hcl : (cs sm.came i z).length ≤ N := Nat.le_trans (List.length_filter_le _ _) hH1.ln.2.2.2
    have hT1 : TabOk H1 Pt gP qF := hT.keep k1 (fun b hb => by rw [List.mem_singleton] at hb; subst hb; exact ⟨fun ps e => (by rw [ep] at e; cases e), fun φ e => (by rw [ep] at e; cases e)⟩)
    -- what came
    refine cut1 (fun σ H' => ∃ (pc : Addr) (zs : List V), σ = [some (.ref a.ph), some (.ref p), some (.int now), some (.int (i : Int)), some (.str z), some (.int kp), some (optV (fnd (mOf sm.came i) kp z now)), some (.ref pc)] ∧ H' pc = some (.lst zs) ∧ Paired (RAns H') zs (cs sm.came i z) ∧ Same H1 H') ?_ (fun X hX => ?_)
    rotate_left
    · obtain ⟨xs, ec, hpc⟩ := hH1.ca_
      have eh1 := hH1.eh
      simp (maxSteps := 1000000) only [tComp_eq, rGet, getO_ds, Nat.reduceAdd, iList, tSeq, exists_and_left, tOp, tVar, tC, tAsg, gName, List.length_cons, List.length_nil, List.getElem?_cons_zero, List.set_cons_zero, List.set_cons_succ, Option.some.injEq, exists_eq_left', V.ref.injEq, eh1, hk_came]
      refine ⟨⟨_, SqL.of ec⟩, comp_pick RAns (fun S H H' v q k hs h => h.keep k hs) (fun q => decide ((q.1 : Int) = (i : Int)) && decide (q.2.1 = z)) ec hpc (by have := hH1.ln.2.2.2; omega) (fun v q H3 A B hv yes no => ?_) (fun D zs H3 nD eD hD s3 => ?_)⟩
      · obtain ⟨tq, rfl, etq⟩ := hv
        have etq' : H3 tq = some (.tup [.int (q.1 : Int), .str q.2.1, optV q.2.2.1, .int q.2.2.2]) := etq
        simp (maxSteps := 1000000) only [rEq_ss, rGet, getO_t, atI_0, atI_1, cSt, List.drop_succ_cons, List.drop_zero, rEq_ii, exists_and_left, if_false, Bool.false_eq_true, tAnd, tTest, tOp, tVar, tC, gName, List.map_cons, List.map_nil, List.replicate, List.cons_append, List.nil_append, List.getElem?_cons_zero, List.getElem?_cons_succ, List.set_cons_zero, Option.some.injEq, exists_eq_left', V.bl.injEq, V.ref.injEq, true_and, Option.join_some, etq']
        by_cases c1 : (q.1 : Int) = (i : Int)
        · by_cases c2 : q.2.1 = z
          · have := yes (by simp [c1, c2])
            simpa [c1, c2] using this
          · have := no (by simp [c1, c2])
            simpa [c1, c2] using this
        · have := no (by simp [c1])
          simpa [c1] using this
      · exact hX _ _ ⟨D, zs, rfl, eD, hD, s3⟩
    rintro σ H2 ⟨pc, zs, rfl, epc, hzs, s2⟩
    have ep2 := s2 _ _ ep1
    have hH2 := hH1.same s2
    have hT2 := hT1.same s2
    have k2 := k1.same s2
    have hin := hM.in_ i z
    obtain ⟨ps, rfl, hps⟩ := refs_of hzs
    have hzl := hzs.length
    rw [List.length_map] at hzl
    have kfin : ∀ {G : Hp}, Same H2 G → Keep [p, Pt] H G := fun s' => (k2.same s').mono (by simp)
    have fin : ∀ (G : Hp), Same H2 G → Q (.bl true) G := fun G s' => q G a1 b1 (kfin s') (s' _ _ ep2) (hT2.same s')
    rcases List.eq_nil_or_concat (cs sm.came i z) with ecs | ⟨ini, l, ecs⟩
    · rw [ecs] at hzl
      obtain rfl : ps = [] := List.eq_nil_of_length_eq_zero hzl
      have ef : fnd (mOf sm.came i) kp z now = none := by unfold fnd mOf; rw [ecs]; rfl
      rw [ef]
      simp (maxSteps := 1000000) only [tComp_eq, rGet, tTruX, Nat.reduceAdd, rIsB, tMeth, iList, cxOf_K, List.cons.injEq, tSeq, exists_and_left, if_true, tIfS, tOr, tNot, tTest, tOp, tVar, tC, rI0, tRet, tNext, tCall, tCons, tNil, tCB, tLst, List.length_cons, List.length_nil, List.getElem?_cons_zero, List.getElem?_cons_succ, Option.some.injEq, exists_eq_left', V.int.injEq, V.bl.injEq, V.ref.injEq, and_true, true_and, and_assoc, List.append_nil]
      refine ⟨Nat.zero_le _, ?_⟩
      intro p3 n3
      generalize z3 : upd H2 p3 _ = H3
      obtain ⟨s3, e3⟩ := new_same z3 n3
      refine ⟨pc, p3, [], rfl, rfl, s3 _ _ epc, e3, ?_⟩
      simp (maxSteps := 1000000) only [List.isEmpty_nil, decide_true, if_true, exists_eq_left', V.bl.injEq, optV]
      exact fin _ s3
    · rw [List.concat_eq_append] at ecs
      rw [ecs] at hzl hps hin hzs hcl
      rw [List.length_append, List.length_singleton] at hzl
      have hne : (ps.map V.ref).isEmpty = false := by
        cases ps with
        | nil => simp at hzl
        | cons _ _ => rfl
      have em : mOf sm.came i z = some (l.2.2.1, l.2.2.2) := by unfold mOf; rw [ecs]; simp
      refine cut1 (fun σ H' => σ = [some (.ref a.ph), some (.ref p), some (.int now), some (.int (i : Int)), some (.str z), some (.int kp), some (optV l.2.2.1), some (.ref pc)] ∧ now - l.2.2.2 ≤ kp ∧ Same H2 H') ?_ (fun X hX => ?_)
      rotate_left
      · simp (maxSteps := 1000000) only [tComp_eq, Nat.reduceAdd, iList, tSeq, exists_and_left, if_true, tIfS, tOr, tTest, tOp, tVar, tC, rI0, tRet, tNext, tCons, tNil, tCB, tLst, List.length_cons, List.length_nil, List.getElem?_cons_zero, List.getElem?_cons_succ, Option.some.injEq, exists_eq_left', V.int.injEq, V.bl.injEq, V.ref.injEq, true_and]
        refine ⟨Nat.zero_le _, ?_⟩
        intro p3 n3
        generalize z3 : upd H2 p3 _ = H3
        obtain ⟨s3, e3⟩ := new_same z3 n3
        refine ⟨pc, p3, _, rfl, rfl, s3 _ _ epc, e3, ?_⟩
        rw [hne]
        simp (maxSteps := 1000000) only [if_false, Bool.false_eq_true, exists_eq_left', V.bl.injEq]
        refine ⟨⟨_, SqL.of (s3 _ _ epc)⟩, comp_map RAns (fun H H' v q s' h => h.keep (S := []) s'.keep (fun _ z => nomatch z)) (fun _ => true) (fun q => V.int q.2.2.2) (s3 _ _ epc) (Paired.mapP hzs fun _ _ h => h.keep (S := []) s3.keep (fun _ z => nomatch z)) (by omega) (fun v q H3 A B hv yes no => ?_) (fun D H4 nD eD s4 => ?_)⟩
        · obtain ⟨tq, rfl, etq⟩ := hv
          have etq' : H3 tq = some (.tup [.int (q.1 : Int), .str q.2.1, optV q.2.2.1, .int q.2.2.2]) := etq
          simp (maxSteps := 1000000) only [rGet, getO_t, atI_3, tYes, cSt, List.drop_succ_cons, List.drop_zero, exists_and_left, if_true, tOp, tVar, tC, gName, List.map_nil, List.replicate, List.getElem?_cons_zero, List.set_cons_zero, Option.some.injEq, exists_eq_left', V.ref.injEq, true_and, List.append_nil, etq']
          exact yes rfl
        · have eD' : H4 D = some (.lst (((ini ++ [l]).map fun q => q.2.2.2).map V.int)) := by rw [eD, List.filter_eq_self.mpr (fun _ _ => rfl), List.map_map]; rfl
          refine ⟨D, _, rfl, eD', by simp, fun m hm hall => ?_⟩
          have hml : m = l.2.2.2 := by
            have h1 := hall l.2.2.2 (List.mem_map.mpr ⟨l, by simp, rfl⟩)
            obtain ⟨q, hq, eq⟩ := List.mem_map.mp hm
            rcases List.mem_append.mp hq with z | z
            · have := last_turn hin q z
              omega
            · rw [List.mem_singleton] at z
              rw [z] at eq
              exact eq.symm
          subst hml
          have s24 := s3.trans s4
          by_cases hgt : kp < now - l.2.2.2
          · have ef : fnd (mOf sm.came i) kp z now = none := by
              unfold fnd
              rw [em]
              simp
              omega
            rw [ef]
            simp (maxSteps := 1000000) only [decide_true, if_true, exists_eq_left', V.int.injEq, optV, hgt]
            exact fin _ s24
          · have ef : fnd (mOf sm.came i) kp z now = l.2.2.1 := by
              unfold fnd
              rw [em]
              simp
              omega
            rw [ef]
            simp (maxSteps := 1000000) only [decide_false, if_false, Bool.false_eq_true, exists_eq_left', V.int.injEq, hgt]
            exact hX _ _ ⟨rfl, by omega, s24⟩
      rintro σ H3 ⟨rfl, hkp, s3⟩
      have hH3 := hH2.same s3
      have hT3 := hT2.same s3
      have epc3 := s3 _ _ epc
      simp (maxSteps := 1000000) only [rGet, tTruX, rIsB, tMeth, cxOf_K, List.cons.injEq, tSeq, exists_and_left, tIfS, tNot, tTest, tOp, tVar, tC, rI0, tRet, tNext, tCall, tCons, tNil, tCB, List.getElem?_cons_zero, List.getElem?_cons_succ, Option.some.injEq, exists_eq_left', V.int.injEq, V.bl.injEq, V.ref.injEq, and_true, true_and, and_assoc, List.append_nil, tMaxK]
      refine ⟨hT3, fun fL H4 nf hL hT4 k4 => ?_⟩
      obtain ⟨tb, ePt⟩ : ∃ tb, H3 Pt = some (.tbl tb) := by
        rcases hT3 with e | ⟨c', e, _⟩
        · exact ⟨_, e⟩
        · exact ⟨_, e⟩
      have nT4 : ∀ b ∈ [Pt], NoT H3 b := noT1 (fun xs e => by rw [ePt] at e; cases e)
      have hH4 := hH3.keep k4 nT4 (fun b hb => by rw [List.mem_singleton] at hb; subst hb; exact nPa)
      have epc4 := k4 _ _ epc3 (by rw [List.mem_singleton]; exact ne_of epc3 ePt (by intro z; cases z))
      have hps4 : Paired (fun p q => H4 p = some (.tup (tA q))) ps (ini ++ [l]) := Paired.mapP hps fun p q h => k4 _ _ (s3 _ _ h) fun z => nT4 _ z _ (s3 _ _ h)
      have ep3 := s3 _ _ ep2
      have ep4 := k4 _ _ ep3 (by rw [List.mem_singleton]; exact ne_of ep3 ePt (by intro z; cases z))
      have fin4 : ∀ (G : Hp), Same H4 G → Q (.bl true) G := fun G s' => q G a1 b1 ((((k2.same s3).mono (by simp)).trans (k4.mono (by simp))).same s') (s' _ _ ep4) (hT4.same s')
      refine ⟨ps, epc4, by omega, (ini ++ [l]).map fun q => q.2.2.2, by rw [List.length_map, List.length_append, List.length_singleton]; omega, fun G j pj n sG hpj hn => ?_, fun G j pj n sG hpj hB => ?_⟩
      · obtain ⟨qj, hqj, ej⟩ := paired_get hps4 hpj
        rw [List.getElem?_map, hqj] at hn
        have e : qj.2.2.2 = n := by simpa using hn
        subst e
        exact lam_key (hL.same sG) (sG _ _ ej)
      have hj : j = ini.length := by
        refine bst_last hin (n := n) ?_
        have e : (ini ++ [l]).length = ps.length := by rw [List.length_append, List.length_singleton]; omega
        rw [e]
        exact hB
      obtain ⟨qj, hqj, ej⟩ := paired_get hps4 hpj
      have hql : qj = l := by
        rw [hj] at hqj
        simpa using hqj.symm
      subst hql
      have ej' : G pj = some (.tup [.int (qj.1 : Int), .str qj.2.1, optV qj.2.2.1, .int qj.2.2.2]) := sG _ _ ej
      simp (maxSteps := 1000000) only [getO_t, atI_2, Option.some.injEq, exists_eq_left', ej']
      cases hh : qj.2.2.1 with
      | none =>
        simp (maxSteps := 1000000) only [rNe_nn, decide_true, if_false, if_true, Bool.false_eq_true, exists_eq_left', V.bl.injEq, optV]
        exact fin4 G sG
      | some h =>
        simp (maxSteps := 1000000) only [decide_true, decide_false, Bool.not_true, rNe_ii, if_false, Bool.false_eq_true, exists_eq_left', V.bl.injEq, reduceCtorEq, optV]
        have hmem : qj ∈ cs sm.came i z := by rw [ecs]; simp
        unfold cs at hmem
        obtain ⟨hm1, hm2⟩ := List.mem_filter.mp hmem
        simp only [Bool.and_eq_true, decide_eq_true_eq] at hm2
        obtain ⟨t, t1, t2, t3, hw⟩ := (hM.ca_ qj hm1).2.2.2 h hh
        rw [hm2.2] at hw
        have hHG := hH4.same sG
        obtain ⟨xs, er, hr3⟩ := hHG.rw_
        have ehG := hHG.eh
        simp (maxSteps := 1000000) only [getO_ds, Option.some.injEq, exists_eq_left', ehG, hk_rows]
        refine ⟨a.prw, xs, sm.rows, z, h, now - kp, now, t, rfl, er, hr3, by have := hH.ln.1; omega, by omega, t2, t3, h1, hw, fun G2 s2' => ?_⟩
        have hHG2 := hHG.same s2'
        have ehG2 := hHG2.eh
        have eb2 := hHG2.bk.inst
        simp (maxSteps := 1000000) only [getO_ds, truX_b, HO.ins.injEq, Bool.not_true, exists_and_left, if_false, Bool.false_eq_true, Option.some.injEq, exists_eq_left', V.ref.injEq, true_and, and_assoc, ehG2, hk_book, eb2, fn_Book_had]
        refine ⟨N, a.bk, st, z, h, _, now, rfl, hHG2.bk, by omega, fun G3 s3' => ?_⟩
        have hd1 : hadL h (if now - kp > 0 then now - kp else 0) now (st.d z) = true := by
          rw [hH.bd]
          exact hw.had (by split <;> omega) t3 hM.rs
        have hd2 : decide ((if now - kp > 0 then now - kp else 0) ≤ now) = true := by
          have : 0 ≤ kp := hH.k0 kp (List.mem_of_getElem? hk)
          rw [decide_eq_true_eq]
          split <;> omega
        rw [hd1, hd2]
        simp (maxSteps := 1000000) only [exists_eq_left', V.bl.injEq]
        exact fin4 _ ((sG.trans s2').trans s3')
end
end K58
namespace K58
open PySem L2 PySem.W
structure DJ (a : Ha) : Prop where
  d6 : [a.pn, a.pk, a.prw, a.pas, a.pto, a.pca].Nodup
  bl : ∀ q ∈ a.bk.ins, q.2 ∉ [a.pn, a.pk, a.prw, a.pas, a.pto, a.pca]
  dp : a.bk.pd ≠ a.ph
  dg : ∀ x ∈ a.nv, x.2.2 ≠ a.ph ∧ x.2.2 ≠ a.bk.pd
  xb : ∀ x ∈ a.nv, x.1 ≠ a.bk.x
  ng : (a.nv.map (·.2.2)).Nodup
section
variable {C C2 : Addr} {N N' : Nat} {H H' H1 : Hp} {a : Ha} {s : Sm} {st : BkS} {S : List Addr}
theorem HallAt.mono (h : HallAt C C2 N H a s st) (hn : N ≤ N') : HallAt C C2 N' H a s st := by
  have l := h.ln
  refine ⟨h.eh, h.en, h.ek, h.kl, h.k0, fun i x kp hx hk => ?_, ⟨h.bk.inst, h.bk.hd, h.bk.knd, h.bk.and_, h.bk.at_, h.bk.no, Nat.le_trans h.bk.len.1 hn, fun k => Nat.le_trans (h.bk.len.2 k) hn⟩, h.bd, h.rw_, h.as_, h.to_, h.ca_, by omega, by omega, by omega, by omega⟩
  obtain ⟨kvs, hN, hl⟩ := h.nr i x kp hx hk
  exact ⟨kvs, hN, by omega⟩
theorem HallAt.nears (h : HallAt C C2 N H a s st) (k : Keep S H H') (hs : ∀ b ∈ S, NoT H b) (hn : ∀ b ∈ S, ∀ x ∈ a.nv, b ≠ x.1 ∧ b ≠ x.2.2) : ∀ i x kp, a.nv[i]? = some x → a.kps[i]? = some kp → ∃ kvs, NearAt C2 H' x.1 x.2.1 x.2.2 kp kvs (mOf s.came i) ∧ kvs.length ≤ N := fun i x kp hx hk => by
  obtain ⟨kvs, hN, hl⟩ := h.nr i x kp hx hk
  have hm := List.mem_of_getElem? hx
  exact ⟨kvs, hN.keep k hs (fun z => (hn _ z x hm).1 rfl) (fun z => (hn _ z x hm).2 rfl), hl⟩
/-- the kinds of what stands in the hall -/
theorem HallAt.lists (h : HallAt C C2 N H a s st) : ∀ b ∈ [a.pn, a.pk, a.prw, a.pas, a.pto, a.pca], ∃ xs, H b = some (.lst xs) := fun b hb => by
  obtain ⟨x1, e1, _⟩ := h.rw_
  obtain ⟨x2, e2, _⟩ := h.as_
  obtain ⟨x3, e3, _⟩ := h.to_
  obtain ⟨x4, e4, _⟩ := h.ca_
  simp only [List.mem_cons, List.not_mem_nil, or_false] at hb
  rcases hb with rfl | rfl | rfl | rfl | rfl | rfl
  · exact ⟨_, h.en⟩
  · exact ⟨_, h.ek⟩
  · exact ⟨_, e1⟩
  · exact ⟨_, e2⟩
  · exact ⟨_, e3⟩
  · exact ⟨_, e4⟩
theorem HallAt.near_k (h : HallAt C C2 N H a s st) {x : Addr × Addr × Addr} (hx : x ∈ a.nv) : (∃ fs, H x.1 = some (.ins C2 x.2.1 fs)) ∧ ∃ kvs, H x.2.2 = some (.dK kvs) := by
  obtain ⟨i, hi⟩ := List.mem_iff_getElem?.mp hx
  have hlt : i < a.kps.length := by rw [h.kl]; exact (List.getElem?_eq_some_iff.mp hi).1
  obtain ⟨kvs, hN, _⟩ := h.nr i x _ hi (List.getElem?_eq_getElem hlt)
  exact ⟨⟨_, hN.ins⟩, _, hN.dic⟩
theorem HallAt.book_k (h : HallAt C C2 N H a s st) : ∀ b ∈ badr a.bk, (b = a.bk.x ∧ ∃ fs, H b = some (.ins C a.bk.dx fs)) ∨ (b = a.bk.pd ∧ ∃ kvs, H b = some (.dK kvs)) ∨ ((∃ q ∈ a.bk.ins, b = q.2) ∧ ∃ xs, H b = some (.lst xs)) := fun b hb => by
  unfold badr at hb
  rcases List.mem_cons.mp hb with rfl | hb
  · exact .inl ⟨rfl, _, h.bk.inst⟩
  · rcases List.mem_cons.mp hb with rfl | hb
    · exact .inr (.inl ⟨rfl, _, h.bk.hd⟩)
    · obtain ⟨q, hq, rfl⟩ := List.mem_map.mp hb
      obtain ⟨xs, e, _⟩ := h.bk.at_ q hq
      exact .inr (.inr ⟨⟨q, hq, rfl⟩, xs, e⟩)
theorem HallAt.book_nT (h : HallAt C C2 N H a s st) : ∀ b ∈ badr a.bk, NoT H b := fun b hb => by
  rcases h.book_k b hb with ⟨_, fs, e⟩ | ⟨_, kvs, e⟩ | ⟨_, xs, e⟩
  · exact .of_ins e
  · exact .of_dK e
  · exact .of_lst e
/-- a list of the hall grows -/
theorem HallAt.lst_keep (h : HallAt C C2 N H a s st) (dj : DJ a) {x : Addr} (hx : x ∈ [a.pn, a.pk, a.prw, a.pas, a.pto, a.pca]) (k : Keep [x] H H') : H' a.ph = some (.dK (hkv a)) ∧ (∀ b ∈ [a.pn, a.pk, a.prw, a.pas, a.pto, a.pca], b ≠ x → H' b = H b) ∧ (∀ b ∈ [x], NoT H b) ∧ (∀ i y kp, a.nv[i]? = some y → a.kps[i]? = some kp → ∃ kvs, NearAt C2 H' y.1 y.2.1 y.2.2 kp kvs (mOf s.came i) ∧ kvs.length ≤ N) ∧ BookAt C N H' a.bk st := by
  obtain ⟨xl, ex⟩ := h.lists x hx
  have nT : ∀ b ∈ [x], NoT H b := noT1 (.of_lst ex)
  have nl : ∀ {b : Addr} {o : HO}, H b = some o → (∀ l, o ≠ .lst l) → b ∉ [x] := fun {b o} e hne z => by
    rw [List.mem_singleton] at z
    rw [z, ex] at e
    exact hne _ (Option.some.inj e).symm
  refine ⟨k _ _ h.eh (nl h.eh (fun l z => by cases z)), fun b hb hbx => ?_, nT, h.nears k nT (fun b hb y hy => ?_), h.bk.keep k nT (nl h.bk.inst (fun l z => by cases z)) (nl h.bk.hd (fun l z => by cases z)) (fun q hq z => ?_)⟩
  · obtain ⟨yl, ey⟩ := h.lists b hb
    rw [ey]
    exact k _ _ ey (by rw [List.mem_singleton]; exact hbx)
  · obtain ⟨⟨fs, e1⟩, kvs, e2⟩ := h.near_k hy
    exact ⟨fun z => nl e1 (fun l z => by cases z) (by rw [← z]; exact hb), fun z => nl e2 (fun l z => by cases z) (by rw [← z]; exact hb)⟩
  · rw [List.mem_singleton] at z
    exact dj.bl q hq (by rw [z]; exact hx)
end
end K58
namespace K58
open PySem L2 PySem.W
section
variable {C C2 : Addr} {N N' : Nat} {H H' H1 H2 : Hp} {a : Ha} {s : Sm} {st : BkS} {S : List Addr}
theorem row_same {xs : List V} {l : List Row} (k : Keep S H H') (hs : ∀ b ∈ S, NoT H b) (h : Paired (RRow3 H) xs l) : Paired (RRow3 H') xs l := Paired.mapP h fun _ _ z => z.keep k hs
theorem ask_same {xs : List V} {l : List Ask} (k : Keep S H H') (hs : ∀ b ∈ S, NoT H b) (h : Paired (RAsk H) xs l) : Paired (RAsk H') xs l := Paired.mapP h fun _ _ z => z.keep k hs
theorem ans_same {xs : List V} {l : List Ans} (k : Keep S H H') (hs : ∀ b ∈ S, NoT H b) (h : Paired (RAns H) xs l) : Paired (RAns H') xs l := Paired.mapP h fun _ _ z => z.keep k hs
/-- one more asked -/
theorem HallAt.addAsk (h : HallAt C C2 N H a s st) (dj : DJ a) {xs : List V} {v : V} {q : Ask} (e : H a.pas = some (.lst xs)) (hv : RAsk H v q) : HallAt C C2 (N + 1) (upd H a.pas (.lst (xs ++ [v]))) a { s with asked := s.asked ++ [q] } st := by
  have k : Keep [a.pas] H (upd H a.pas (.lst (xs ++ [v]))) := Keep.refl.upd (.inl (.head _))
  have d6 := dj.d6
  simp only [List.nodup_cons, List.mem_cons, List.not_mem_nil, or_false, not_or, not_false_eq_true, List.nodup_nil, and_true] at d6
  obtain ⟨eh, lk, nT, nr, bk⟩ := h.lst_keep dj (x := a.pas) (by simp) k
  have B := (h.mono (Nat.le_succ N))
  obtain ⟨x1, e1, p1⟩ := h.rw_
  obtain ⟨x2, e2, p2⟩ := h.as_
  obtain ⟨x3, e3, p3⟩ := h.to_
  obtain ⟨x4, e4, p4⟩ := h.ca_
  have ex : x2 = xs := by rw [e] at e2; cases e2; rfl
  subst ex
  have l := h.ln
  refine ⟨eh, (lk _ (by simp) (by grind)).trans h.en, (lk _ (by simp) (by grind)).trans h.ek, h.kl, h.k0, fun i y kp hy hk => ?_, ⟨bk.inst, bk.hd, bk.knd, bk.and_, bk.at_, bk.no, Nat.le_succ_of_le bk.len.1, fun z => Nat.le_succ_of_le (bk.len.2 z)⟩, h.bd,
    ⟨x1, (lk _ (by simp) (by grind)).trans e1, row_same k nT p1⟩, ⟨_, upd_same, paired_append (ask_same k nT p2) (.cons (hv.keep k nT) .nil)⟩, ⟨x3, (lk _ (by simp) (by grind)).trans e3, ans_same k nT p3⟩, ⟨x4, (lk _ (by simp) (by grind)).trans e4, ans_same k nT p4⟩, by dsimp only; omega, by dsimp only; rw [List.length_append, List.length_singleton]; omega, by dsimp only; omega, by dsimp only; omega⟩
  obtain ⟨kvs, hN, hl⟩ := nr i y kp hy hk
  exact ⟨kvs, hN, by omega⟩
/-- one more told -/
theorem HallAt.addTold (h : HallAt C C2 N H a s st) (dj : DJ a) {xs : List V} {v : V} {q : Ans} (e : H a.pto = some (.lst xs)) (hv : RAns H v q) : HallAt C C2 (N + 1) (upd H a.pto (.lst (xs ++ [v]))) a { s with told := s.told ++ [q] } st := by
  have k : Keep [a.pto] H (upd H a.pto (.lst (xs ++ [v]))) := Keep.refl.upd (.inl (.head _))
  have d6 := dj.d6
  simp only [List.nodup_cons, List.mem_cons, List.not_mem_nil, or_false, not_or, not_false_eq_true, List.nodup_nil, and_true] at d6
  obtain ⟨eh, lk, nT, nr, bk⟩ := h.lst_keep dj (x := a.pto) (by simp) k
  obtain ⟨x1, e1, p1⟩ := h.rw_
  obtain ⟨x2, e2, p2⟩ := h.as_
  obtain ⟨x3, e3, p3⟩ := h.to_
  obtain ⟨x4, e4, p4⟩ := h.ca_
  have ex : x3 = xs := by rw [e] at e3; cases e3; rfl
  subst ex
  have l := h.ln
  refine ⟨eh, (lk _ (by simp) (by grind)).trans h.en, (lk _ (by simp) (by grind)).trans h.ek, h.kl, h.k0, fun i y kp hy hk => ?_, ⟨bk.inst, bk.hd, bk.knd, bk.and_, bk.at_, bk.no, Nat.le_succ_of_le bk.len.1, fun z => Nat.le_succ_of_le (bk.len.2 z)⟩, h.bd,
    ⟨x1, (lk _ (by simp) (by grind)).trans e1, row_same k nT p1⟩, ⟨x2, (lk _ (by simp) (by grind)).trans e2, ask_same k nT p2⟩, ⟨_, upd_same, paired_append (ans_same k nT p3) (.cons (hv.keep k nT) .nil)⟩, ⟨x4, (lk _ (by simp) (by grind)).trans e4, ans_same k nT p4⟩, by dsimp only; omega, by dsimp only; omega, by dsimp only; rw [List.length_append, List.length_singleton]; omega, by dsimp only; omega⟩
  obtain ⟨kvs, hN, hl⟩ := nr i y kp hy hk
  exact ⟨kvs, hN, by omega⟩
/-- one more came: the answers near are told apart -/
theorem HallAt.addCame (h : HallAt C C2 N H a s st) (dj : DJ a) {xs : List V} {v : V} {q : Ans} (e : H a.pca = some (.lst xs)) (hv : RAns H v q) (nr' : ∀ i x kp, a.nv[i]? = some x → a.kps[i]? = some kp → ∃ kvs, NearAt C2 H x.1 x.2.1 x.2.2 kp kvs (mOf (s.came ++ [q]) i) ∧ kvs.length ≤ N + 1) : HallAt C C2 (N + 1) (upd H a.pca (.lst (xs ++ [v]))) a { s with came := s.came ++ [q] } st := by
  have k : Keep [a.pca] H (upd H a.pca (.lst (xs ++ [v]))) := Keep.refl.upd (.inl (.head _))
  have d6 := dj.d6
  simp only [List.nodup_cons, List.mem_cons, List.not_mem_nil, or_false, not_or, not_false_eq_true, List.nodup_nil, and_true] at d6
  obtain ⟨eh, lk, nT, nr, bk⟩ := h.lst_keep dj (x := a.pca) (by simp) k
  obtain ⟨x1, e1, p1⟩ := h.rw_
  obtain ⟨x2, e2, p2⟩ := h.as_
  obtain ⟨x3, e3, p3⟩ := h.to_
  obtain ⟨x4, e4, p4⟩ := h.ca_
  have ex : x4 = xs := by rw [e] at e4; cases e4; rfl
  subst ex
  have l := h.ln
  refine ⟨eh, (lk _ (by simp) (by grind)).trans h.en, (lk _ (by simp) (by grind)).trans h.ek, h.kl, h.k0, fun i y kp hy hk => ?_, ⟨bk.inst, bk.hd, bk.knd, bk.and_, bk.at_, bk.no, Nat.le_succ_of_le bk.len.1, fun z => Nat.le_succ_of_le (bk.len.2 z)⟩, h.bd,
    ⟨x1, (lk _ (by simp) (by grind)).trans e1, row_same k nT p1⟩, ⟨x2, (lk _ (by simp) (by grind)).trans e2, ask_same k nT p2⟩, ⟨x3, (lk _ (by simp) (by grind)).trans e3, ans_same k nT p3⟩, ⟨_, upd_same, paired_append (ans_same k nT p4) (.cons (hv.keep k nT) .nil)⟩, by dsimp only; omega, by dsimp only; omega, by dsimp only; omega, by dsimp only; rw [List.length_append, List.length_singleton]; omega⟩
  obtain ⟨kvs, hN, hl⟩ := nr' i y kp hy hk
  obtain ⟨kvs2, hN2, _⟩ := nr i y kp hy hk
  have hy' := List.mem_of_getElem? hy
  obtain ⟨⟨fs, k1⟩, kv, k2⟩ := h.near_k hy'
  exact ⟨kvs, hN.keep k nT (by rw [List.mem_singleton]; exact ne_of k1 e (by intro z; cases z)) (by rw [List.mem_singleton]; exact ne_of k2 e (by intro z; cases z)), hl⟩
/-- a name is bound, and one more row -/
theorem HallAt.addRow (h : HallAt C C2 N H a s st) (dj : DJ a) {bk' : BkA} {z : Str} {t : Int} {o : Option Int} {xs : List V} {v : V} (k : Keep (badr a.bk) H H1) (B : BookAt C (N + 1) H1 bk' (addD st z t o)) (hx : bk'.x = a.bk.x) (hnew : ∀ b ∈ badr bk', b ∈ badr a.bk ∨ H b = none) (s2 : Same H1 H2) (e : H2 a.prw = some (.lst xs)) (hv : RRow3 H2 v (z, o, t)) :
    HallAt C C2 (N + 1) (upd H2 a.prw (.lst (xs ++ [v]))) { a with bk := bk' } { s with rows := s.rows ++ [(z, o, t)] } (addD st z t o) ∧ DJ { a with bk := bk' } := by
  have nTb := h.book_nT
  have nb : ∀ {b : Addr}, b ∈ [a.pn, a.pk, a.prw, a.pas, a.pto, a.pca] → b ∉ badr a.bk := fun {b} hb z => by
    obtain ⟨yl, ey⟩ := h.lists b hb
    rcases h.book_k b z with ⟨_, fs, e⟩ | ⟨_, kvs, e⟩ | ⟨⟨q, hq, eq⟩, _⟩
    · rw [ey] at e; cases e
    · rw [ey] at e; cases e
    · exact dj.bl q hq (by rw [← eq]; exact hb)
  have nph : a.ph ∉ badr a.bk := fun z => by
    rcases h.book_k _ z with ⟨_, fs, e⟩ | ⟨eq, kvs, e⟩ | ⟨_, xs, e⟩
    · rw [h.eh] at e; cases e
    · exact dj.dp eq.symm
    · rw [h.eh] at e; cases e
  have nnv : ∀ b ∈ badr a.bk, ∀ x ∈ a.nv, b ≠ x.1 ∧ b ≠ x.2.2 := fun b hb x hxn => by
    obtain ⟨⟨fs, e1⟩, kvs, e2⟩ := h.near_k hxn
    rcases h.book_k b hb with ⟨eq, fs', e⟩ | ⟨eq, kvs', e⟩ | ⟨_, xs, e⟩
    · exact ⟨fun z => dj.xb x hxn (by rw [← z]; exact eq), ne_of e e2 (by intro z; cases z)⟩
    · exact ⟨ne_of e e1 (by intro z; cases z), fun z => (dj.dg x hxn).2 (by rw [← z]; exact eq)⟩
    · exact ⟨ne_of e e1 (by intro z; cases z), ne_of e e2 (by intro z; cases z)⟩
  have k2 : Keep (badr a.bk) H H2 := k.same s2
  have nr2 := h.nears k2 nTb nnv
  obtain ⟨x1, e1, p1⟩ := h.rw_
  obtain ⟨x2, e2, p2⟩ := h.as_
  obtain ⟨x3, e3, p3⟩ := h.to_
  obtain ⟨x4, e4, p4⟩ := h.ca_
  have f1 := k2 _ _ e1 (nb (by simp))
  have ex : x1 = xs := by rw [f1] at e; cases e; rfl
  subst ex
  have k3 : Keep [a.prw] H2 (upd H2 a.prw (.lst (x1 ++ [v]))) := Keep.refl.upd (.inl (.head _))
  have nT3 : ∀ b ∈ [a.prw], NoT H2 b := noT1 (.of_lst f1)
  have d6 := dj.d6
  simp only [List.nodup_cons, List.mem_cons, List.not_mem_nil, or_false, not_or, not_false_eq_true, List.nodup_nil, and_true] at d6
  have B2 := B.same s2
  have nbk' : ∀ b ∈ [a.pn, a.pk, a.prw, a.pas, a.pto, a.pca], b ∉ badr bk' := fun b hb z => by
    rcases hnew b z with z | z
    · exact nb hb z
    · obtain ⟨yl, ey⟩ := h.lists b hb
      rw [ey] at z
      cases z
  have l := h.ln
  have inb : ∀ q ∈ bk'.ins, q.2 ∈ badr bk' := fun q hq => by unfold badr; exact .tail _ (.tail _ (List.mem_map.mpr ⟨q, hq, rfl⟩))
  have pdb : bk'.pd ∈ badr bk' := by unfold badr; exact .tail _ (.head _)
  have xbb : bk'.x ∈ badr bk' := by unfold badr; exact .head _
  refine ⟨⟨?_, ?_, ?_, h.kl, h.k0, fun i y kp hy hk => ?_, B2.keep k3 nT3 ?_ ?_ (fun q hq z => ?_), fun y => ?_, ⟨_, upd_same, paired_append (row_same k3 nT3 (row_same k2 nTb p1)) (.cons (hv.keep k3 nT3) .nil)⟩, ⟨x2, k3 _ _ (k2 _ _ e2 (nb (by simp))) (by rw [List.mem_singleton]; grind), ask_same k3 nT3 (ask_same k2 nTb p2)⟩, ⟨x3, k3 _ _ (k2 _ _ e3 (nb (by simp))) (by rw [List.mem_singleton]; grind), ans_same k3 nT3 (ans_same k2 nTb p3)⟩, ⟨x4, k3 _ _ (k2 _ _ e4 (nb (by simp))) (by rw [List.mem_singleton]; grind), ans_same k3 nT3 (ans_same k2 nTb p4)⟩, by dsimp only; rw [List.length_append, List.length_singleton]; omega, by dsimp only; omega, by dsimp only; omega, by dsimp only; omega⟩,
    ⟨dj.d6, fun q hq z => nbk' _ z (inb q hq), fun z => ?_, fun x hxn => ⟨(dj.dg x hxn).1, fun z => ?_⟩, fun x hxn z => dj.xb x hxn (z.trans hx), dj.ng⟩⟩
  · have : hkv { a with bk := bk' } = hkv a := by unfold hkv; rw [hx]
    rw [this]
    have f := k2 _ _ h.eh nph
    exact k3 _ _ f (by rw [List.mem_singleton]; exact ne_of f f1 (by intro z; cases z))
  · exact k3 _ _ (k2 _ _ h.en (nb (by simp))) (by rw [List.mem_singleton]; grind)
  · exact k3 _ _ (k2 _ _ h.ek (nb (by simp))) (by rw [List.mem_singleton]; grind)
  · obtain ⟨kvs, hN, hl⟩ := nr2 i y kp hy hk
    exact ⟨kvs, hN.keep k3 nT3 (by rw [List.mem_singleton]; exact ne_of hN.ins f1 (by intro z; cases z)) (by rw [List.mem_singleton]; exact ne_of hN.dic f1 (by intro z; cases z)), by omega⟩
  · rw [List.mem_singleton]
    exact ne_of B2.inst f1 (by intro z; cases z)
  · rw [List.mem_singleton]
    exact ne_of B2.hd f1 (by intro z; cases z)
  · rw [List.mem_singleton] at z
    exact nbk' a.prw (by simp) (by rw [← z]; exact inb q hq)
  · unfold addD
    dsimp only
    rw [ofN_app]
    by_cases c : y = z
    · subst c
      rw [if_pos rfl, h.bd]
      simp [ofN]
    · rw [if_neg c, h.bd]
      simp [ofN, Ne.symm c]
  · rcases hnew _ pdb with y | y
    · exact nph (by rw [← z]; exact y)
    · have z' : bk'.pd = a.ph := z
      rw [z', h.eh] at y
      cases y
  · obtain ⟨⟨fs, e1⟩, kvs, e2⟩ := h.near_k hxn
    have z' : x.2.2 = bk'.pd := z
    rcases hnew _ pdb with y | y
    · exact (nnv _ y x hxn).2 z'.symm
    · rw [← z', e2] at y
      cases y
end
end K58
namespace K58
open PySem L2 PySem.W
theorem cs_app {came : List Ans} {q : Ans} {i : Nat} {z : Str} : cs (came ++ [q]) i z = cs came i z ++ (if (q.1 : Int) = (i : Int) ∧ q.2.1 = z then [q] else []) := by
  unfold cs
  rw [List.filter_append, List.filter_cons]
  by_cases c : (q.1 : Int) = (i : Int) ∧ q.2.1 = z
  · rw [if_pos c, if_pos (by simp [c.1, c.2])]
    rfl
  · rw [if_neg c, if_neg (by simpa using c)]
    rfl
theorem last_in {l : List Ans} {q : Ans} (h : l.getLast? = some q) : q ∈ l := List.mem_of_getLast? h
theorem mOf_new {came : List Ans} {i : Nat} {z : Str} {h : Option Int} {t : Int} (hno : ∀ q ∈ cs came i z, q.2.2.2 < t) : newM (mOf came i) z h t = mOf (came ++ [(i, z, h, t)]) i := by
  funext y
  unfold newM
  by_cases c : y = z
  · subst c
    have e2 : mOf (came ++ [(i, y, h, t)]) i y = some (h, t) := by
      unfold mOf
      rw [cs_app, if_pos ⟨rfl, rfl⟩]
      simp
    rw [e2]
    refine if_pos ⟨rfl, ?_⟩
    unfold mOf
    cases e : (cs came i y).getLast? with
    | none => rfl
    | some q =>
      have := hno q (last_in e)
      simpa using this
  · rw [if_neg (fun z => c z.1)]
    unfold mOf
    rw [cs_app, if_neg (fun w => c w.2.symm), List.append_nil]
theorem mOf_other {came : List Ans} {i j : Nat} {z : Str} {h : Option Int} {t : Int} (hne : j ≠ i) : mOf (came ++ [(i, z, h, t)]) j = mOf came j := by
  funext y
  unfold mOf
  rw [cs_app, if_neg (fun w => hne (by have : (i : Int) = (j : Int) := w.1; omega)), List.append_nil]
theorem newM_old {came : List Ans} {i : Nat} {z : Str} {h : Option Int} {t : Int} (hp : (cs came i z).Pairwise fun a b => a.2.2.2 < b.2.2.2) (hex : ∃ q ∈ cs came i z, t ≤ q.2.2.2) : newM (mOf came i) z h t = mOf came i := by
  funext y
  unfold newM
  refine if_neg (fun w => ?_)
  obtain ⟨_, w⟩ := w
  obtain ⟨q, hq, ht⟩ := hex
  unfold mOf at w
  rcases List.eq_nil_or_concat (cs came i z) with e | ⟨ini, l, e⟩
  · rw [e] at hq
    cases hq
  · rw [List.concat_eq_append] at e
    rw [e] at hq hp w
    have w' : l.2.2.2 < t := by simpa using w
    rcases List.mem_append.mp hq with m | m
    · have := last_turn hp q m
      omega
    · rw [List.mem_singleton] at m
      subst m
      omega
section
variable {n : Nat} {now now' : Int} {s : Sm} {st : BkS} {q : Ans}
theorem Tru.later {rows : List Row} (h : Tru n now rows q) (hn : now ≤ now') : Tru n now' rows q := ⟨h.1, h.2.1, by have := h.2.2.1; omega, fun g e => by
  obtain ⟨t, t1, t2, t3, w⟩ := h.2.2.2 g e
  exact ⟨t, t1, t2, by omega, w⟩⟩
theorem Tru.row {rows : List Row} {r : Row} (h : Tru n now rows q) (hr : now ≤ r.2.2) : Tru n now (rows ++ [r]) q := ⟨h.1, h.2.1, h.2.2.1, fun g e => by
  obtain ⟨t, t1, t2, t3, w⟩ := h.2.2.2 g e
  exact ⟨t, t1, t2, t3, w.app (by omega)⟩⟩
theorem Mo.later (h : Mo n now s st) (hn : now ≤ now') : Mo n now' s st :=
  ⟨h.rs, fun r hr => by have := h.rn r hr; omega, fun l e => by have := h.sl l e; omega, fun q hq => ⟨(h.as_ q hq).1, (h.as_ q hq).2.1, by have := (h.as_ q hq).2.2; omega⟩, fun q hq => (h.to_ q hq).later hn, fun q hq => (h.ca_ q hq).later hn, h.in_⟩
theorem Mo.addRow {z : Str} {o : Option Int} (h : Mo n now s st) : Mo n now { s with rows := s.rows ++ [(z, o, now)] } (addD st z now o) := by
  refine ⟨?_, fun r hr => ?_, fun l e => ?_, h.as_, fun q hq => (h.to_ q hq).row (Int.le_refl _), fun q hq => (h.ca_ q hq).row (Int.le_refl _), h.in_⟩
  · rw [List.pairwise_append]
    refine ⟨h.rs, by simp, fun x hx y hy => ?_⟩
    rw [List.mem_singleton] at hy
    subst hy
    exact h.rn x hx
  · rcases List.mem_append.mp hr with m | m
    · exact h.rn r m
    · rw [List.mem_singleton] at m
      subst m
      exact Int.le_refl _
  · have e' : some now = some l := e
    cases e'
    exact Int.le_refl _
theorem Mo.addAsk {x : Ask} (h : Mo n now s st) (hx : x.1 < n ∧ nm x.2.1 = true ∧ x.2.2 ≤ now) : Mo n now { s with asked := s.asked ++ [x] } st := by
  refine ⟨h.rs, h.rn, h.sl, fun q hq => ?_, h.to_, h.ca_, h.in_⟩
  rcases List.mem_append.mp hq with m | m
  · exact h.as_ q m
  · rw [List.mem_singleton] at m
    subst m
    exact hx
theorem Mo.addTold (h : Mo n now s st) (hx : Tru n now s.rows q) : Mo n now { s with told := s.told ++ [q] } st := by
  refine ⟨h.rs, h.rn, h.sl, h.as_, fun x hx' => ?_, h.ca_, h.in_⟩
  rcases List.mem_append.mp hx' with m | m
  · exact h.to_ x m
  · rw [List.mem_singleton] at m
    subst m
    exact hx
theorem Mo.addCame (h : Mo n now s st) (hx : Tru n now s.rows q) (hno : ∀ x ∈ cs s.came q.1 q.2.1, x.2.2.2 < q.2.2.2) : Mo n now { s with came := s.came ++ [q] } st := by
  refine ⟨h.rs, h.rn, h.sl, h.as_, h.to_, fun x hx' => ?_, fun i z => ?_⟩
  · rcases List.mem_append.mp hx' with m | m
    · exact h.ca_ x m
    · rw [List.mem_singleton] at m
      subst m
      exact hx
  · dsimp only
    rw [cs_app]
    split
    · next c =>
      rw [List.pairwise_append]
      refine ⟨h.in_ i z, by simp, fun x hx y hy => ?_⟩
      rw [List.mem_singleton] at hy
      rw [hy]
      have e1 : q.1 = i := by have := c.1; omega
      refine hno x ?_
      rw [e1, c.2]
      exact hx
    · rw [List.append_nil]
      exact h.in_ i z
end
section
variable {C C2 : Addr} {N : Nat} {H H1 H2 : Hp} {a : Ha} {s : Sm} {st : BkS}
/-- an answer is put near: the rest stays -/
theorem HallAt.put_keep (h : HallAt C C2 N H a s st) (dj : DJ a) {x : Addr × Addr × Addr} {i : Nat} (hx : a.nv[i]? = some x) (k : Keep [x.2.2] H H1) :
    H1 a.ph = some (.dK (hkv a)) ∧ (∀ b ∈ [a.pn, a.pk, a.prw, a.pas, a.pto, a.pca], H1 b = H b) ∧ (∀ b ∈ [x.2.2], NoT H b) ∧ BookAt C N H1 a.bk st ∧ ∀ j y kp, j ≠ i → a.nv[j]? = some y → a.kps[j]? = some kp → ∃ kvs, NearAt C2 H1 y.1 y.2.1 y.2.2 kp kvs (mOf s.came j) ∧ kvs.length ≤ N := by
  have hm := List.mem_of_getElem? hx
  obtain ⟨⟨fs, e1⟩, kv, e2⟩ := h.near_k hm
  have nT : ∀ b ∈ [x.2.2], NoT H b := noT1 (.of_dK e2)
  have nd : ∀ {b : Addr} {o : HO}, H b = some o → (∀ l, o ≠ .dK l) → b ∉ [x.2.2] := fun {b o} e hne z => by
    rw [List.mem_singleton] at z
    rw [z, e2] at e
    exact hne _ (Option.some.inj e).symm
  refine ⟨k _ _ h.eh (by rw [List.mem_singleton]; exact Ne.symm (dj.dg x hm).1), fun b hb => ?_, nT, h.bk.keep k nT (nd h.bk.inst (fun l z => by cases z)) (by rw [List.mem_singleton]; exact Ne.symm (dj.dg x hm).2) (fun q hq => ?_), fun j y kp hj hy hk => ?_⟩
  · obtain ⟨l, e⟩ := h.lists b hb
    rw [e]
    exact k _ _ e (nd e (fun l z => by cases z))
  · obtain ⟨xs, e, _⟩ := h.bk.at_ q hq
    exact nd e (fun l z => by cases z)
  · obtain ⟨kvs, hN, hl⟩ := h.nr j y kp hy hk
    refine ⟨kvs, hN.keep k nT (nd hN.ins (fun l z => by cases z)) (fun z => hj ?_), hl⟩
    rw [List.mem_singleton] at z
    have g1 : (a.nv.map (·.2.2))[j]? = some y.2.2 := by rw [List.getElem?_map, hy]; rfl
    have g2 : (a.nv.map (·.2.2))[i]? = some x.2.2 := by rw [List.getElem?_map, hx]; rfl
    rw [z] at g1
    obtain ⟨q1, _⟩ := List.getElem?_eq_some_iff.mp g1
    exact (List.getElem?_inj q1 dj.ng).mp (g1.trans g2.symm)
theorem HallAt.putOld (h : HallAt C C2 N H a s st) (dj : DJ a) {x : Addr × Addr × Addr} {i : Nat} {kp : Int} {kvs' : List (Key × V)} (hx : a.nv[i]? = some x) (hk : a.kps[i]? = some kp) (k : Keep [x.2.2] H H1) (hN : NearAt C2 H1 x.1 x.2.1 x.2.2 kp kvs' (mOf s.came i)) (hl : kvs'.length ≤ N + 1) : HallAt C C2 (N + 1) H1 a s st := by
  obtain ⟨eh, lk, nT, bk, nr⟩ := h.put_keep dj hx k
  obtain ⟨x1, e1, p1⟩ := h.rw_
  obtain ⟨x2, e2, p2⟩ := h.as_
  obtain ⟨x3, e3, p3⟩ := h.to_
  obtain ⟨x4, e4, p4⟩ := h.ca_
  have l := h.ln
  refine ⟨eh, (lk _ (by simp)).trans h.en, (lk _ (by simp)).trans h.ek, h.kl, h.k0, fun j y kp' hy hk' => ?_, ⟨bk.inst, bk.hd, bk.knd, bk.and_, bk.at_, bk.no, Nat.le_succ_of_le bk.len.1, fun z => Nat.le_succ_of_le (bk.len.2 z)⟩, h.bd,
    ⟨x1, (lk _ (by simp)).trans e1, row_same k nT p1⟩, ⟨x2, (lk _ (by simp)).trans e2, ask_same k nT p2⟩, ⟨x3, (lk _ (by simp)).trans e3, ans_same k nT p3⟩, ⟨x4, (lk _ (by simp)).trans e4, ans_same k nT p4⟩, by omega, by omega, by omega, by omega⟩
  by_cases c : j = i
  · subst c
    rw [hx] at hy
    rw [hk] at hk'
    cases hy
    cases hk'
    exact ⟨kvs', hN, hl⟩
  · obtain ⟨kvs, hN', hl'⟩ := nr j y kp' c hy hk'
    exact ⟨kvs, hN', by omega⟩
theorem HallAt.putCame (h : HallAt C C2 N H a s st) (dj : DJ a) {x : Addr × Addr × Addr} {i : Nat} {kp : Int} {kvs' : List (Key × V)} {xs : List V} {v : V} {q : Ans} (hx : a.nv[i]? = some x) (hk : a.kps[i]? = some kp) (k : Keep [x.2.2] H H1) (hN : NearAt C2 H1 x.1 x.2.1 x.2.2 kp kvs' (mOf (s.came ++ [q]) i)) (hl : kvs'.length ≤ N + 1) (hoth : ∀ j, j ≠ i → mOf (s.came ++ [q]) j = mOf s.came j) (s2 : Same H1 H2) (e : H2 a.pca = some (.lst xs)) (hv : RAns H2 v q) :
    HallAt C C2 (N + 1) (upd H2 a.pca (.lst (xs ++ [v]))) a { s with came := s.came ++ [q] } st := by
  obtain ⟨eh, lk, nT, bk, nr⟩ := h.put_keep dj hx k
  have k3 : Keep [a.pca] H2 (upd H2 a.pca (.lst (xs ++ [v]))) := Keep.refl.upd (.inl (.head _))
  have nT3 : ∀ b ∈ [a.pca], NoT H2 b := noT1 (.of_lst e)
  have d6 := dj.d6
  simp only [List.nodup_cons, List.mem_cons, List.not_mem_nil, or_false, not_or, not_false_eq_true, List.nodup_nil, and_true] at d6
  obtain ⟨x1, e1, p1⟩ := h.rw_
  obtain ⟨x2, e2, p2⟩ := h.as_
  obtain ⟨x3, e3, p3⟩ := h.to_
  obtain ⟨x4, e4, p4⟩ := h.ca_
  have sk : Keep [] H1 H2 := s2.keep
  have no : ∀ b ∈ ([] : List Addr), NoT H1 b := fun _ z => nomatch z
  have up : ∀ {b : Addr} {l : List V}, b ∈ [a.pn, a.pk, a.prw, a.pas, a.pto, a.pca] → b ≠ a.pca → H b = some (.lst l) → upd H2 a.pca (.lst (xs ++ [v])) b = some (.lst l) := fun {b l} hb hne eb => k3 _ _ (s2 _ _ ((lk b hb).trans eb)) (by rw [List.mem_singleton]; exact hne)
  have ex : x4 = xs := by
    have := s2 _ _ ((lk a.pca (by simp)).trans e4)
    rw [e] at this
    cases this
    rfl
  subst ex
  have l := h.ln
  have bk3 := (bk.same s2).keep k3 nT3 (by rw [List.mem_singleton]; exact ne_of (s2 _ _ bk.inst) e (by intro z; cases z)) (by rw [List.mem_singleton]; exact ne_of (s2 _ _ bk.hd) e (by intro z; cases z)) (fun q hq z => by
    rw [List.mem_singleton] at z
    exact dj.bl q hq (by rw [z]; simp))
  refine ⟨?_, up (by simp) (by grind) h.en, up (by simp) (by grind) h.ek, h.kl, h.k0, fun j y kp' hy hk' => ?_, ⟨bk3.inst, bk3.hd, bk3.knd, bk3.and_, bk3.at_, bk3.no, Nat.le_succ_of_le bk3.len.1, fun z => Nat.le_succ_of_le (bk3.len.2 z)⟩, h.bd,
    ⟨x1, up (by simp) (by grind) e1, row_same k3 nT3 (row_same sk no (row_same k nT p1))⟩, ⟨x2, up (by simp) (by grind) e2, ask_same k3 nT3 (ask_same sk no (ask_same k nT p2))⟩, ⟨x3, up (by simp) (by grind) e3, ans_same k3 nT3 (ans_same sk no (ans_same k nT p3))⟩, ⟨_, upd_same, paired_append (ans_same k3 nT3 (ans_same sk no (ans_same k nT p4))) (.cons (hv.keep k3 nT3) .nil)⟩, by dsimp only; omega, by dsimp only; omega, by dsimp only; omega, by dsimp only; rw [List.length_append, List.length_singleton]; omega⟩
  · have f := s2 _ _ eh
    exact k3 _ _ f (by rw [List.mem_singleton]; exact ne_of f e (by intro z; cases z))
  · by_cases c : j = i
    · subst c
      rw [hx] at hy
      rw [hk] at hk'
      cases hy
      cases hk'
      have hN2 := hN.same s2
      exact ⟨kvs', hN2.keep k3 nT3 (by rw [List.mem_singleton]; exact ne_of hN2.ins e (by intro z; cases z)) (by rw [List.mem_singleton]; exact ne_of hN2.dic e (by intro z; cases z)), hl⟩
    · obtain ⟨kvs, hN', hl'⟩ := nr j y kp' c hy hk'
      have hN2 := hN'.same s2
      rw [hoth j c]
      exact ⟨kvs, hN2.keep k3 nT3 (by rw [List.mem_singleton]; exact ne_of hN2.ins e (by intro z; cases z)) (by rw [List.mem_singleton]; exact ne_of hN2.dic e (by intro z; cases z)), by omega⟩
end
/-- what stands between two of the step's ifs -/
structure Now (C C2 Pt : Addr) (H : Hp) (a0 : Ha) (p : Addr) (now : Int) (N : Nat) (H' : Hp) (a : Ha) (s : Sm) (st : BkS) : Prop where
  hall : HallAt C C2 N H' a s st
  mo : Mo a.nv.length now s st
  dj : DJ a
  ph : a.ph = a0.ph
  nv : a.nv = a0.nv
  ep : ∃ x y : Int, H' p = some (.lst [.int x, .int y])
  np : p ∉ hadr a
  nP : Pt ∉ hadr a
  tab : TabOk H' Pt gP qF
  kp : Keep (p :: Pt :: hadr a0) H H'
  fr : ∀ b ∈ hadr a, b ∈ hadr a0 ∨ H b = none
section
variable {C C2 Pt : Addr} {H H' H1 : Hp} {a0 a : Ha} {p : Addr} {now : Int} {N : Nat} {s : Sm} {st : BkS}
theorem Now.mono {N' : Nat} (h : Now C C2 Pt H a0 p now N H' a s st) (hn : N ≤ N') : Now C C2 Pt H a0 p now N' H' a s st := { h with hall := h.hall.mono hn }
theorem Now.same (h : Now C C2 Pt H a0 p now N H' a s st) (s' : Same H' H1) : Now C C2 Pt H a0 p now N H1 a s st := by
  obtain ⟨x, y, e⟩ := h.ep
  exact { h with hall := h.hall.same s', ep := ⟨x, y, s' _ _ e⟩, tab := h.tab.same s', kp := h.kp.same s' }
/-- the draw goes on -/
theorem Now.draw (h : Now C C2 Pt H a0 p now N H' a s st) (x y : Int) : Now C C2 Pt H a0 p now N (upd H' p (.lst [.int x, .int y])) a s st := by
  obtain ⟨x0, y0, e⟩ := h.ep
  have k : Keep [p] H' (upd H' p (.lst [.int x, .int y])) := Keep.refl.upd (.inl (.head _))
  refine { h with hall := h.hall.keep k (noT1 (.of_lst e)) (fun b hb => by rw [List.mem_singleton] at hb; subst hb; exact h.np), ep := ⟨x, y, upd_same⟩, tab := h.tab.keep k (fun b hb => ?_), kp := h.kp.trans (k.mono (by simp)) }
  rw [List.mem_singleton] at hb
  subst hb
  exact ⟨fun ps z => (by rw [e] at z; cases z), fun φ z => (by rw [e] at z; cases z)⟩
/-- a list of the hall grew -/
theorem Now.grow (h : Now C C2 Pt H a0 p now N H' a s st) {x : Addr} {o : HO} {s' : Sm} {N' : Nat} (hx : x ∈ hadr a) (hl : ∃ xs, H' x = some (.lst xs)) (hH : HallAt C C2 N' (upd H' x o) a s' st) (hM : Mo a.nv.length now s' st) : Now C C2 Pt H a0 p now N' (upd H' x o) a s' st := by
  obtain ⟨x0, y0, e⟩ := h.ep
  obtain ⟨xs, ex⟩ := hl
  have k : Keep [x] H' (upd H' x o) := Keep.refl.upd (.inl (.head _))
  refine { h with hall := hH, mo := hM, ep := ⟨x0, y0, k _ _ e (by rw [List.mem_singleton]; exact fun z => h.np (by rw [z]; exact hx))⟩, tab := h.tab.keep k (fun b hb => ?_), kp := ?_ }
  · rw [List.mem_singleton] at hb
    subst hb
    exact ⟨fun ps z => (by rw [ex] at z; cases z), fun φ z => (by rw [ex] at z; cases z)⟩
  · rcases h.fr x hx with z | z
    · exact h.kp.trans (k.mono (fun b hb => by rw [List.mem_singleton] at hb; subst hb; exact .tail _ (.tail _ z)))
    · exact h.kp.upd (.inr z)
theorem tab_at (h : TabOk H' Pt gP qF) : ∃ tb, H' Pt = some (.tbl tb) := by
  rcases h with e | ⟨c', e, _⟩
  · exact ⟨_, e⟩
  · exact ⟨_, e⟩
theorem Now.found (h : Now C C2 Pt H a0 p now N H' a s st) {x y : Int} (k : Keep [p, Pt] H' H1) (e1 : H1 p = some (.lst [.int x, .int y])) (t : TabOk H1 Pt gP qF) : Now C C2 Pt H a0 p now N H1 a s st := by
  obtain ⟨x0, y0, e⟩ := h.ep
  obtain ⟨tb, et⟩ := tab_at h.tab
  refine { h with hall := h.hall.keep k (noT2 (.of_lst e) (fun xs z => by rw [et] at z; cases z)) (fun b hb => ?_), ep := ⟨x, y, e1⟩, tab := t, kp := h.kp.trans (k.mono (by simp)) }
  rcases List.mem_cons.mp hb with rfl | hb
  · exact h.np
  · rw [List.mem_singleton] at hb
    subst hb
    exact h.nP
theorem mem_hadr_bk {b : Addr} (h : b ∈ badr a.bk) : b ∈ hadr a := List.mem_append_right _ (List.mem_append_left _ h)
theorem mem_hadr_7 {b : Addr} (h : b ∈ [a.ph, a.pn, a.pk, a.prw, a.pas, a.pto, a.pca]) : b ∈ hadr a := List.mem_append_left _ h
theorem mem_hadr_g {x : Addr × Addr × Addr} (h : x ∈ a.nv) : x.2.2 ∈ hadr a := List.mem_append_right _ (List.mem_append_right _ (List.mem_append_right _ (List.mem_map.mpr ⟨x, h, rfl⟩)))
theorem Now.non0 (h : Now C C2 Pt H a0 p now N H' a s st) {b : Addr} (hb : H' b = none) : b ∈ hadr a0 ∨ H b = none := by
  by_cases c : b ∈ p :: Pt :: hadr a0
  · rcases List.mem_cons.mp c with rfl | c
    · obtain ⟨x0, y0, e⟩ := h.ep
      rw [e] at hb
      cases hb
    · rcases List.mem_cons.mp c with rfl | c
      · obtain ⟨tb, et⟩ := tab_at h.tab
        rw [et] at hb
        cases hb
      · exact .inl c
  · refine .inr ?_
    cases e : H b with
    | none => rfl
    | some o =>
      rw [h.kp b o e c] at hb
      cases hb
theorem Now.bound {H2 : Hp} (h : Now C C2 Pt H a0 p now N H' a s st) {bk' : BkA} {z : Str} {o : Option Int} {xs : List V} {v : V} (k : Keep (badr a.bk) H' H1) (B : BookAt C (N + 1) H1 bk' (addD st z now o)) (hx : bk'.x = a.bk.x) (hnew : ∀ b ∈ badr bk', b ∈ badr a.bk ∨ H' b = none) (s2 : Same H1 H2) (e : H2 a.prw = some (.lst xs)) (hv : RRow3 H2 v (z, o, now)) :
    Now C C2 Pt H a0 p now (N + 1) (upd H2 a.prw (.lst (xs ++ [v]))) { a with bk := bk' } { s with rows := s.rows ++ [(z, o, now)] } (addD st z now o) := by
  obtain ⟨hH, hD⟩ := h.hall.addRow h.dj k B hx hnew s2 e hv
  obtain ⟨x0, y0, ep⟩ := h.ep
  obtain ⟨tb, et⟩ := tab_at h.tab
  have k3 : Keep [a.prw] H2 (upd H2 a.prw (.lst (xs ++ [v]))) := Keep.refl.upd (.inl (.head _))
  have hin : ∀ b ∈ hadr { a with bk := bk' }, b ∈ hadr a ∨ H' b = none := fun b hb => by
    unfold hadr at hb
    rcases List.mem_append.mp hb with m | m
    · exact .inl (List.mem_append_left _ m)
    · rcases List.mem_append.mp m with m | m
      · rcases hnew b m with m | m
        · exact .inl (mem_hadr_bk m)
        · exact .inr m
      · exact .inl (List.mem_append_right _ (List.mem_append_right _ m))
  have hprw : a.prw ∈ hadr a := mem_hadr_7 (by simp)
  refine ⟨hH, h.mo.addRow, hD, h.ph, h.nv, ⟨x0, y0, ?_⟩, fun hp => ?_, fun hp => ?_, ?_, ?_, fun b hb => ?_⟩
  · exact k3 _ _ (s2 _ _ (k _ _ ep (fun m => h.np (mem_hadr_bk m)))) (by rw [List.mem_singleton]; exact fun m => h.np (by rw [m]; exact hprw))
  · rcases hin _ hp with m | m
    · exact h.np m
    · rw [ep] at m; cases m
  · rcases hin _ hp with m | m
    · exact h.nP m
    · rw [et] at m; cases m
  · have t1 := h.tab.keep k (fun b hb => by
      rcases h.hall.book_k b hb with ⟨_, fs, e⟩ | ⟨_, kvs, e⟩ | ⟨_, xs, e⟩
      · exact ⟨fun ps w => (by rw [e] at w; cases w), fun φ w => (by rw [e] at w; cases w)⟩
      · exact ⟨fun ps w => (by rw [e] at w; cases w), fun φ w => (by rw [e] at w; cases w)⟩
      · exact ⟨fun ps w => (by rw [e] at w; cases w), fun φ w => (by rw [e] at w; cases w)⟩)
    exact (t1.same s2).keep k3 (fun b hb => by
      rw [List.mem_singleton] at hb
      subst hb
      exact ⟨fun ps w => (by rw [e] at w; cases w), fun φ w => (by rw [e] at w; cases w)⟩)
  · intro b u eb hb
    have hba : b ∉ hadr a := fun m => by
      rcases h.fr b m with m | m
      · exact hb (.tail _ (.tail _ m))
      · rw [eb] at m; cases m
    exact k3 _ _ (s2 _ _ (k _ _ (h.kp b u eb hb) (fun m => hba (mem_hadr_bk m)))) (by rw [List.mem_singleton]; exact fun m => hba (by rw [m]; exact hprw))
  · rcases hin b hb with m | m
    · exact h.fr b m
    · exact h.non0 m
/-- hall's addresses are written -/
theorem Now.wrote (h : Now C C2 Pt H a0 p now N H' a s st) {S : List Addr} {s' : Sm} {N' : Nat} (k : Keep S H' H1) (hS : ∀ b ∈ S, b ∈ hadr a ∧ ((∃ l, H' b = some (.lst l)) ∨ ∃ l, H' b = some (.dK l))) (hH : HallAt C C2 N' H1 a s' st) (hM : Mo a.nv.length now s' st) : Now C C2 Pt H a0 p now N' H1 a s' st := by
  obtain ⟨x0, y0, e⟩ := h.ep
  refine { h with hall := hH, mo := hM, ep := ⟨x0, y0, k _ _ e (fun m => h.np (hS p m).1)⟩, tab := h.tab.keep k (fun b hb => ?_), kp := fun b u eb hb => k _ _ (h.kp b u eb hb) (fun m => ?_) }
  · rcases (hS b hb).2 with ⟨l, el⟩ | ⟨l, el⟩
    · exact ⟨fun ps w => (by rw [el] at w; cases w), fun φ w => (by rw [el] at w; cases w)⟩
    · exact ⟨fun ps w => (by rw [el] at w; cases w), fun φ w => (by rw [el] at w; cases w)⟩
  · rcases h.fr b (hS b m).1 with w | w
    · exact hb (.tail _ (.tail _ w))
    · rw [eb] at w; cases w
end
end K58
namespace K58
open PySem L2 PySem.W
abbrev s__law_step : Stmt := top 19
theorem sc__law_step : FnScope ["_law_hall", "_law_draw_here", "_law_now", "_law_way", "_law_name", "_law_hand", "_law_asker", "_law_turn", "_law_older"] ["_law_hall", "_law_draw_here", "_law_now"] (defScope s__law_step) := ⟨rfl, rfl, rfl, by decide +kernel, rfl, by decide +kernel, by decide +kernel⟩
theorem cs__law_step_0 : CScope ["_law_row"] ["_law_asker", "_law_name", "_law_turn"] { kind := .function, names := [(".0", .local), ("_law_row", .local), ("_law_asker", .free), ("_law_name", .free), ("_law_turn", .free)], isGenerator := false, isCoroutine := false, more := [] } (defScope s__law_step) := ⟨rfl, by decide +kernel, by decide +kernel, by decide +kernel, by decide +kernel, by decide +kernel⟩
theorem cutb {a b : TS} {D : Ends} {σ : St} {H : Hp} (M : St → Hp → Prop) (h1 : ∀ σ H, M σ H → b D σ H) (h2 : ∀ T : TS, (∀ σ H, M σ H → T D σ H) → tSeq a T D σ H) : tSeq a b D σ H := h2 b h1
theorem cutbb {a a2 b : TS} {D : Ends} {σ : St} {H : Hp} (M : St → Hp → Prop) (h1 : ∀ σ H, M σ H → b D σ H) (h2 : ∀ T : TS, (∀ σ H, M σ H → T D σ H) → tSeq a (tSeq a2 T) D σ H) : tSeq a (tSeq a2 b) D σ H := h2 b h1
section
variable {P : Program} {w : World} {K : PySem.W.Frag} {mg : Str → Option Value} {base : Heap} {C C2 c Pt : Addr}
theorem ite_or {c d : Prop} [Decidable c] [Decidable d] {A B : Prop} (h1 : A) (h2 : B) : if c then A else if d then A else B := by
  split
  · exact h1
  · split
    · exact h1
    · exact h2
theorem nm_ok {z : Str} (h : nm z = true) : PyData.strOk z = true := by
  unfold nm txt at h
  simp only [Bool.and_eq_true, List.all_eq_true] at h
  unfold PyData.strOk
  rw [Array.all_eq_true']
  intro x hx
  have := h.2 x (by simpa using hx)
  unfold inB at this
  simp at this ⊢
  omega
theorem comp_pickG {α : Type} {n : Nat} {js : List Nat} {g : TG} {tc : TT} {te : TE} {σ : St} {Q : VK} {H1 : Hp} {K : PySem.W.Frag} {a : Addr} {ys : List V} {l : List α} (R : Hp → V → α → Prop) (keep : ∀ (S : List Addr) H H' v q, Keep S H H' → (∀ b ∈ S, NoT H b) → R H v q → R H' v q) (p : α → Bool) (ha : H1 a = some (.lst ys)) (hp : Paired (R H1) ys l) (hz : l.length ≤ 1000)
    (hs : ∀ v q H (A : V → Hp → Prop) (B : Hp → Prop), q ∈ l → R H v q → (∀ H', Same H H' → p q = true → A v H') → (∀ H', Same H H' → p q = false → B H') → g v (cSt n js σ) H fun σ2 H2 => σ2.drop n = (cSt n js σ).drop n ∧ tc σ2 H2 fun b H3 => if b = true then te σ2 H3 A else B H3)
    (hq : ∀ D zs H', H1 D = none → H' D = some (.lst zs) → Paired (R H') zs (l.filter p) → Same H1 H' → Q (.ref D) H') : CompW n js g tc te σ Q (Itl K a) H1 := by
  have hlen := hp.length
  refine comp_list (xs := ys) (by rw [sizeLine_eq]; omega) (fun D i acc H' => H' D = some (.lst acc) ∧ acc.length ≤ i ∧ Paired (R H') acc ((l.take i).filter p) ∧ Same H1 H') (fun D hD => ⟨upd_same, Nat.le_refl _, .nil, Same.upd_new hD⟩) ?_ ?_ ?_
  · rintro D i acc H2 hD hi ⟨eD, hl, hI, s2⟩
    exact ⟨eD, SqL.of (s2 _ _ ha), hl⟩
  · rintro D i v acc H2 hD hx ⟨eD, hl, hI, s2⟩
    obtain ⟨q, hk, hv⟩ := paired_get hp hx
    have hv2 : R H2 v q := keep [] _ _ _ _ s2.keep (fun _ z => nomatch z) hv
    rw [List.take_add_one, hk, Option.toList_some, List.filter_append]
    refine hs v q H2 _ _ (List.mem_of_getElem? hk) hv2 (fun H3 s3 h => ?_) (fun H3 s3 h => ?_)
    · have eD3 := s3 _ _ eD
      have kD : Keep [D] H3 (upd H3 D (.lst (acc ++ [v]))) := Keep.refl.upd (.inl (.head _))
      have nT := noT1 (NoT.of_lst eD3)
      have sk : Keep [] H2 H3 := s3.keep
      refine ⟨eD3, upd_same, by rw [List.length_append]; exact Nat.add_le_add_right hl 1, ?_, (s2.trans s3).upd hD⟩
      rw [List.filter_cons, if_pos h, List.filter_nil]
      exact paired_append (Paired.mapP hI fun _ _ z => keep _ _ _ _ _ kD nT (keep [] _ _ _ _ sk (fun _ z => nomatch z) z)) (.cons (keep _ _ _ _ _ kD nT (keep [] _ _ _ _ sk (fun _ z => nomatch z) hv2)) .nil)
    · have eD3 := s3 _ _ eD
      refine ⟨eD3, eD3, Nat.le_succ_of_le hl, ?_, s2.trans s3⟩
      rw [List.filter_cons, if_neg (by rw [h]; decide), List.filter_nil, List.append_nil]
      exact Paired.mapP hI fun _ _ z => keep [] _ _ _ _ s3.keep (fun _ z => nomatch z) z
  · rintro D acc H2 hD ⟨eD, hl, hI, s2⟩
    rw [List.take_of_length_le (by omega)] at hI
    exact hq D acc H2 hD eD hI s2
def Mid (C C2 Pt : Addr) (H : Hp) (a0 : Ha) (p : Addr) (now : Int) (N : Nat) (way : Int) (σ : St) (H' : Hp) : Prop := ∃ (a : Ha) (s : Sm) (st : BkS) (z : Str) (v5 v6 v7 v8 : Option V), σ = [some (.ref a0.ph), some (.ref p), some (.int now), some (.int way), some (.str z), v5, v6, v7, v8] ∧ nm z = true ∧ Now C C2 Pt H a0 p now N H' a s st
def sp_step (C C2 Pt : Addr) : Sp := fun vs H Q _ => ∃ (a : Ha) (s : Sm) (st : BkS) (N : Nat) (now : Int) (p : Addr), vs = [.ref a.ph, .ref p, .int now] ∧ Now C C2 Pt H a p now N H a s st ∧ N ≤ 880 ∧ 0 ≤ now ∧ now ≤ 100000 ∧ 0 < a.nv.length ∧ a.nv.length ≤ 10 ∧
  ∀ H' a' s' st', Now C C2 Pt H a p now (N + 4) H' a' s' st' → Q (.bl true) H'
set_option maxHeartbeats 8000000 in
theorem own_step (D : Def K mg "_law_step" s__law_step) (hb : Blt mg) (T_Book : ClsD K mg "Book" C at_Book) (T_Near : ClsD K mg "Near" C2 at_Near)
    (F__law_next : Own P w K mg base 1 "_law_next" ["_law_draw_here", "_law_size"] sp_next) (F__law_any : Own P w K mg base 2 "_law_any" ["_law_draw_here", "_law_letters"] sp_any) (F__law_found : Own P w K mg base 4 "_law_found" ["_law_hall", "_law_draw_here", "_law_now"] (sp_found C C2 Pt))
    (M_Near_put : OwnM P w K mg base 1 C2 "put" ["self", "name", "hand", "asked"] (sp_nput C2)) (M_Book_told : OwnM P w K mg base 1 C "told" ["self", "name"] (sp_btold C)) (M_Book_bind : OwnM P w K mg base 3 C "bind" ["self", "name", "hand", "turn"] (sp_bbind (fun z => nm z = true) C)) (M_Book_free : OwnM P w K mg base 4 C "free" ["self", "name", "turn"] (sp_bfree (fun z => nm z = true) C)) :
    Own P w K mg base 5 "_law_step" ["_law_hall", "_law_draw_here", "_law_now"] (sp_step C C2 Pt) := by
  refine D.own sc__law_step (fun _ _ _ _ _ _ us hl => match us, hl with | [_, _, _], _ => rfl) (fun vs H Q E h => ?_) (fun f cdv A outer s H vs Q E hr h => ?_)
  · obtain ⟨a, s, st, N, now, p, rfl, _⟩ := h
    rfl
  · obtain ⟨a, sm, st, N, now, p, rfl, hW, hN, h0, h1, n0, n10, q⟩ := h
    have hu := hr.units
    have hu1 : (A.deeper (PyProof.Rows.envOfC "_law_step" (defScope s__law_step) s.heap.objs.size f cdv)).units + 1 < cLine := by omega
    refine ⟨_, (@pss_cons _ _ _ _ _ (@ps_set _ _ 3 _ _ _ _ sc__law_step.nd rfl (by first | exact Or.inl rfl | exact Or.inr rfl) (@pe_fn _ _ _ _ _ _ _ _ _ _ _ F__law_next hr (@pa_cX _ _ _ _ _ (@pv _ 1 _ _ (by rfl) (by first | exact Or.inl rfl | exact Or.inr (Or.inl rfl) | exact Or.inr (Or.inr rfl)) (by decide) (by decide)) (@pa_cX _ _ _ _ _ (@pe_int _ _ _ _) (@pa_nil _) (by rfl)) (by rfl)) (by decide) (by rfl) (by decide) (by rfl) (by rfl)) (by rfl) (by first | exact .inl rfl | exact .inr rfl | assumption)) (@pss_cons _ _ _ _ _ (@ps_set _ _ 4 _ _ _ _ sc__law_step.nd rfl (by first | exact Or.inl rfl | exact Or.inr rfl) (@pe_ix _ _ _ _ _ _ _ (ix_get hu1) (@pe_lst _ _ _ _ (@pa_cX _ _ _ _ _ (@pe_str _ _ _ _) (@pa_cX _ _ _ _ _ (@pe_str _ _ _ _) (@pa_cX _ _ _ _ _ (@pe_str _ _ _ _) (@pa_nil _) (by rfl)) (by rfl)) (by rfl))) (@pe_fn _ _ _ _ _ _ _ _ _ _ _ F__law_next hr (@pa_cX _ _ _ _ _ (@pv _ 1 _ _ (by rfl) (by first | exact Or.inl rfl | exact Or.inr (Or.inl rfl) | exact Or.inr (Or.inr rfl)) (by decide) (by decide)) (@pa_cX _ _ _ _ _ (@pe_int _ _ _ _) (@pa_nil _) (by rfl)) (by rfl)) (by decide) (by rfl) (by decide) (by rfl) (by rfl)) (fun _ _ => rfl)) (by rfl) (by first | exact .inl rfl | exact .inr rfl | assumption)) (@pss_cons _ _ _ _ _ (@ps_if _ _ _ _ _ _ _ _ (@pt_cmpR _ _ _ _ _ _ _ _ op_eq (@pv _ 3 _ _ (by rfl) (by first | exact Or.inl rfl | exact Or.inr (Or.inl rfl) | exact Or.inr (Or.inr rfl)) (by decide) (by decide)) (@pe_int _ _ _ _) (nomark _)) (@pss_cons _ _ _ _ _ (@ps_set _ _ 5 _ _ _ _ sc__law_step.nd rfl (by first | exact Or.inl rfl | exact Or.inr rfl) (@pe_fn _ _ _ _ _ _ _ _ _ _ _ F__law_next hr (@pa_cX _ _ _ _ _ (@pv _ 1 _ _ (by rfl) (by first | exact Or.inl rfl | exact Or.inr (Or.inl rfl) | exact Or.inr (Or.inr rfl)) (by decide) (by decide)) (@pa_cX _ _ _ _ _ (@pe_int _ _ _ _) (@pa_nil _) (by rfl)) (by rfl)) (by decide) (by rfl) (by decide) (by rfl) (by rfl)) (by rfl) (by first | exact .inl rfl | exact .inr rfl | assumption)) (@pss_one _ _ _ (@ps_if _ _ _ _ _ _ _ _ (@pt_cmpR _ _ _ _ _ _ _ _ op_eq (@pv _ 5 _ _ (by rfl) (by first | exact Or.inl rfl | exact Or.inr (Or.inl rfl) | exact Or.inr (Or.inr rfl)) (by decide) (by decide)) (@pe_int _ _ _ _) (nomark _)) (@pss_cons _ _ _ _ _ (@ps_expr _ _ _ _ (@pe_mth _ _ _ _ _ _ _ _ _ _ _ _ _ _ _ M_Book_free T_Book.cl hr (@pe_ix _ _ _ _ _ _ _ (ix_get hu1) (@pv _ 0 _ _ (by rfl) (by first | exact Or.inl rfl | exact Or.inr (Or.inl rfl) | exact Or.inr (Or.inr rfl)) (by decide) (by decide)) (@pe_str _ _ _ _) (fun _ _ => rfl)) (@pa_cX _ _ _ _ _ (@pv _ 4 _ _ (by rfl) (by first | exact Or.inl rfl | exact Or.inr (Or.inl rfl) | exact Or.inr (Or.inr rfl)) (by decide) (by decide)) (@pa_cX _ _ _ _ _ (@pv _ 2 _ _ (by rfl) (by first | exact Or.inl rfl | exact Or.inr (Or.inl rfl) | exact Or.inr (Or.inr rfl)) (by decide) (by decide)) (@pa_nil _) (by rfl)) (by rfl)) (by decide) (by rfl) (by rfl) (by rfl)) (by rfl)) (@pss_one _ _ _ (@ps_expr _ _ _ _ (@pe_lm _ _ _ _ _ _ _ _ _ _ _ PySem.F.slot_list_append PySem.F.type_list_append mt_append (@pe_ix _ _ _ _ _ _ _ (ix_get hu1) (@pv _ 0 _ _ (by rfl) (by first | exact Or.inl rfl | exact Or.inr (Or.inl rfl) | exact Or.inr (Or.inr rfl)) (by decide) (by decide)) (@pe_str _ _ _ _) (fun _ _ => rfl)) (@pa_cX _ _ _ _ _ (@pe_tup _ _ _ _ _ (@pa_cX _ _ _ _ _ (@pv _ 4 _ _ (by rfl) (by first | exact Or.inl rfl | exact Or.inr (Or.inl rfl) | exact Or.inr (Or.inr rfl)) (by decide) (by decide)) (@pa_cX _ _ _ _ _ (@pe_non _ _ _) (@pa_cX _ _ _ _ _ (@pv _ 2 _ _ (by rfl) (by first | exact Or.inl rfl | exact Or.inr (Or.inl rfl) | exact Or.inr (Or.inr rfl)) (by decide) (by decide)) (@pa_nil _) (by rfl)) (by rfl)) (by rfl))) (@pa_nil _) (by rfl)) (by rfl) (by rfl) (by rfl) (by rfl) (by rfl)) (by rfl)))) (@pss_cons _ _ _ _ _ (@ps_expr _ _ _ _ (@pe_mth _ _ _ _ _ _ _ _ _ _ _ _ _ _ _ M_Book_bind T_Book.cl hr (@pe_ix _ _ _ _ _ _ _ (ix_get hu1) (@pv _ 0 _ _ (by rfl) (by first | exact Or.inl rfl | exact Or.inr (Or.inl rfl) | exact Or.inr (Or.inr rfl)) (by decide) (by decide)) (@pe_str _ _ _ _) (fun _ _ => rfl)) (@pa_cX _ _ _ _ _ (@pv _ 4 _ _ (by rfl) (by first | exact Or.inl rfl | exact Or.inr (Or.inl rfl) | exact Or.inr (Or.inr rfl)) (by decide) (by decide)) (@pa_cX _ _ _ _ _ (@pv _ 5 _ _ (by rfl) (by first | exact Or.inl rfl | exact Or.inr (Or.inl rfl) | exact Or.inr (Or.inr rfl)) (by decide) (by decide)) (@pa_cX _ _ _ _ _ (@pv _ 2 _ _ (by rfl) (by first | exact Or.inl rfl | exact Or.inr (Or.inl rfl) | exact Or.inr (Or.inr rfl)) (by decide) (by decide)) (@pa_nil _) (by rfl)) (by rfl)) (by rfl)) (by decide) (by rfl) (by rfl) (by rfl)) (by rfl)) (@pss_one _ _ _ (@ps_expr _ _ _ _ (@pe_lm _ _ _ _ _ _ _ _ _ _ _ PySem.F.slot_list_append PySem.F.type_list_append mt_append (@pe_ix _ _ _ _ _ _ _ (ix_get hu1) (@pv _ 0 _ _ (by rfl) (by first | exact Or.inl rfl | exact Or.inr (Or.inl rfl) | exact Or.inr (Or.inr rfl)) (by decide) (by decide)) (@pe_str _ _ _ _) (fun _ _ => rfl)) (@pa_cX _ _ _ _ _ (@pe_tup _ _ _ _ _ (@pa_cX _ _ _ _ _ (@pv _ 4 _ _ (by rfl) (by first | exact Or.inl rfl | exact Or.inr (Or.inl rfl) | exact Or.inr (Or.inr rfl)) (by decide) (by decide)) (@pa_cX _ _ _ _ _ (@pv _ 5 _ _ (by rfl) (by first | exact Or.inl rfl | exact Or.inr (Or.inl rfl) | exact Or.inr (Or.inr rfl)) (by decide) (by decide)) (@pa_cX _ _ _ _ _ (@pv _ 2 _ _ (by rfl) (by first | exact Or.inl rfl | exact Or.inr (Or.inl rfl) | exact Or.inr (Or.inr rfl)) (by decide) (by decide)) (@pa_nil _) (by rfl)) (by rfl)) (by rfl))) (@pa_nil _) (by rfl)) (by rfl) (by rfl) (by rfl) (by rfl) (by rfl)) (by rfl))))))) (@pss_nil _)) (@pss_cons _ _ _ _ _ (@ps_if _ _ _ _ _ _ _ _ (@pt_cmpR _ _ _ _ _ _ _ _ op_eq (@pv _ 3 _ _ (by rfl) (by first | exact Or.inl rfl | exact Or.inr (Or.inl rfl) | exact Or.inr (Or.inr rfl)) (by decide) (by decide)) (@pe_int _ _ _ _) (nomark _)) (@pss_one _ _ _ (@ps_expr _ _ _ _ (@pe_lm _ _ _ _ _ _ _ _ _ _ _ PySem.F.slot_list_append PySem.F.type_list_append mt_append (@pe_ix _ _ _ _ _ _ _ (ix_get hu1) (@pv _ 0 _ _ (by rfl) (by first | exact Or.inl rfl | exact Or.inr (Or.inl rfl) | exact Or.inr (Or.inr rfl)) (by decide) (by decide)) (@pe_str _ _ _ _) (fun _ _ => rfl)) (@pa_cX _ _ _ _ _ (@pe_tup _ _ _ _ _ (@pa_cX _ _ _ _ _ (@pe_fn _ _ _ _ _ _ _ _ _ _ _ F__law_next hr (@pa_cX _ _ _ _ _ (@pv _ 1 _ _ (by rfl) (by first | exact Or.inl rfl | exact Or.inr (Or.inl rfl) | exact Or.inr (Or.inr rfl)) (by decide) (by decide)) (@pa_cX _ _ _ _ _ (@pe_callB _ _ _ _ _ _ _ _ _ call_lenX rfl (hb _ (by decide)) bt_len (@pa_cX _ _ _ _ _ (@pe_ix _ _ _ _ _ _ _ (ix_get hu1) (@pv _ 0 _ _ (by rfl) (by first | exact Or.inl rfl | exact Or.inr (Or.inl rfl) | exact Or.inr (Or.inr rfl)) (by decide) (by decide)) (@pe_str _ _ _ _) (fun _ _ => rfl)) (@pa_nil _) (by rfl)) (by decide) (by decide) (by rfl) (by rfl)) (@pa_nil _) (by rfl)) (by rfl)) (by decide) (by rfl) (by decide) (by rfl) (by rfl)) (@pa_cX _ _ _ _ _ (@pv _ 4 _ _ (by rfl) (by first | exact Or.inl rfl | exact Or.inr (Or.inl rfl) | exact Or.inr (Or.inr rfl)) (by decide) (by decide)) (@pa_cX _ _ _ _ _ (@pv _ 2 _ _ (by rfl) (by first | exact Or.inl rfl | exact Or.inr (Or.inl rfl) | exact Or.inr (Or.inr rfl)) (by decide) (by decide)) (@pa_nil _) (by rfl)) (by rfl)) (by rfl))) (@pa_nil _) (by rfl)) (by rfl) (by rfl) (by rfl) (by rfl) (by rfl)) (by rfl))) (@pss_nil _)) (@pss_cons _ _ _ _ _ (@ps_if _ _ _ _ _ _ _ _ (@PW.pt _ _ _ (@pw_and _ _ _ _ _ _ _ (@pt_cmpR _ _ _ _ _ _ _ _ op_eq (@pv _ 3 _ _ (by rfl) (by first | exact Or.inl rfl | exact Or.inr (Or.inl rfl) | exact Or.inr (Or.inr rfl)) (by decide) (by decide)) (@pe_int _ _ _ _) (nomark _)) (@pw_and1 _ _ _ _ (@pt_cmpR _ _ _ _ _ _ _ _ (op_neNil hu) (@pe_ix _ _ _ _ _ _ _ (ix_get hu1) (@pv _ 0 _ _ (by rfl) (by first | exact Or.inl rfl | exact Or.inr (Or.inl rfl) | exact Or.inr (Or.inr rfl)) (by decide) (by decide)) (@pe_str _ _ _ _) (fun _ _ => rfl)) (@pe_lst _ _ _ _ (@pa_nil _)) (nomark _))))) (@pss_cons _ _ _ _ _ (@ps_asg _ _ _ _ _ _ (@pe_fn _ _ _ _ _ _ _ _ _ _ _ F__law_any hr (@pa_cX _ _ _ _ _ (@pv _ 1 _ _ (by rfl) (by first | exact Or.inl rfl | exact Or.inr (Or.inl rfl) | exact Or.inr (Or.inr rfl)) (by decide) (by decide)) (@pa_cX _ _ _ _ _ (@pe_ix _ _ _ _ _ _ _ (ix_get hu1) (@pv _ 0 _ _ (by rfl) (by first | exact Or.inl rfl | exact Or.inr (Or.inl rfl) | exact Or.inr (Or.inr rfl)) (by decide) (by decide)) (@pe_str _ _ _ _) (fun _ _ => rfl)) (@pa_nil _) (by rfl)) (by rfl)) (by decide) (by rfl) (by decide) (by rfl) (by rfl)) (@pg_seqX _ _ _ _ 3 _ rfl (@pgs_cons _ _ _ _ _ (@pg_name _ _ 6 _ sc__law_step.nd rfl (by first | exact Or.inl rfl | exact Or.inr rfl) (by first | exact .inl rfl | exact .inr rfl | assumption)) (@pgs_cons _ _ _ _ _ (@pg_name _ _ 4 _ sc__law_step.nd rfl (by first | exact Or.inl rfl | exact Or.inr rfl) (by first | exact .inl rfl | exact .inr rfl | assumption)) (@pgs_cons _ _ _ _ _ (@pg_name _ _ 7 _ sc__law_step.nd rfl (by first | exact Or.inl rfl | exact Or.inr rfl) (by first | exact .inl rfl | exact .inr rfl | assumption)) (@pgs_nil _) (by rfl)) (by rfl)) (by rfl)) (by rfl) (by rfl)) (by rfl) (by rfl) (by rfl)) (@pss_one _ _ _ (@ps_expr _ _ _ _ (@pe_lm _ _ _ _ _ _ _ _ _ _ _ PySem.F.slot_list_append PySem.F.type_list_append mt_append (@pe_ix _ _ _ _ _ _ _ (ix_get hu1) (@pv _ 0 _ _ (by rfl) (by first | exact Or.inl rfl | exact Or.inr (Or.inl rfl) | exact Or.inr (Or.inr rfl)) (by decide) (by decide)) (@pe_str _ _ _ _) (fun _ _ => rfl)) (@pa_cX _ _ _ _ _ (@pe_tup _ _ _ _ _ (@pa_cX _ _ _ _ _ (@pv _ 6 _ _ (by rfl) (by first | exact Or.inl rfl | exact Or.inr (Or.inl rfl) | exact Or.inr (Or.inr rfl)) (by decide) (by decide)) (@pa_cX _ _ _ _ _ (@pv _ 4 _ _ (by rfl) (by first | exact Or.inl rfl | exact Or.inr (Or.inl rfl) | exact Or.inr (Or.inr rfl)) (by decide) (by decide)) (@pa_cX _ _ _ _ _ (@pe_mth _ _ _ _ _ _ _ _ _ _ _ _ _ _ _ M_Book_told T_Book.cl hr (@pe_ix _ _ _ _ _ _ _ (ix_get hu1) (@pv _ 0 _ _ (by rfl) (by first | exact Or.inl rfl | exact Or.inr (Or.inl rfl) | exact Or.inr (Or.inr rfl)) (by decide) (by decide)) (@pe_str _ _ _ _) (fun _ _ => rfl)) (@pa_cX _ _ _ _ _ (@pv _ 4 _ _ (by rfl) (by first | exact Or.inl rfl | exact Or.inr (Or.inl rfl) | exact Or.inr (Or.inr rfl)) (by decide) (by decide)) (@pa_nil _) (by rfl)) (by decide) (by rfl) (by rfl) (by rfl)) (@pa_cX _ _ _ _ _ (@pv _ 7 _ _ (by rfl) (by first | exact Or.inl rfl | exact Or.inr (Or.inl rfl) | exact Or.inr (Or.inr rfl)) (by decide) (by decide)) (@pa_nil _) (by rfl)) (by rfl)) (by rfl)) (by rfl))) (@pa_nil _) (by rfl)) (by rfl) (by rfl) (by rfl) (by rfl) (by rfl)) (by rfl)))) (@pss_nil _)) (@pss_cons _ _ _ _ _ (@ps_if _ _ _ _ _ _ _ _ (@PW.pt _ _ _ (@pw_and _ _ _ _ _ _ _ (@PW.pt _ _ _ (@pw_or _ _ _ _ _ _ _ (@pt_cmpR _ _ _ _ _ _ _ _ op_eq (@pv _ 3 _ _ (by rfl) (by first | exact Or.inl rfl | exact Or.inr (Or.inl rfl) | exact Or.inr (Or.inr rfl)) (by decide) (by decide)) (@pe_int _ _ _ _) (nomark _)) (@pw_or1 _ _ _ _ (@pt_cmpR _ _ _ _ _ _ _ _ op_eq (@pv _ 3 _ _ (by rfl) (by first | exact Or.inl rfl | exact Or.inr (Or.inl rfl) | exact Or.inr (Or.inr rfl)) (by decide) (by decide)) (@pe_int _ _ _ _) (nomark _))))) (@pw_and1 _ _ _ _ (@pt_cmpR _ _ _ _ _ _ _ _ (op_neNil hu) (@pe_ix _ _ _ _ _ _ _ (ix_get hu1) (@pv _ 0 _ _ (by rfl) (by first | exact Or.inl rfl | exact Or.inr (Or.inl rfl) | exact Or.inr (Or.inr rfl)) (by decide) (by decide)) (@pe_str _ _ _ _) (fun _ _ => rfl)) (@pe_lst _ _ _ _ (@pa_nil _)) (nomark _))))) (@pss_cons _ _ _ _ _ (@ps_asg _ _ _ _ _ _ (@pe_fn _ _ _ _ _ _ _ _ _ _ _ F__law_any hr (@pa_cX _ _ _ _ _ (@pv _ 1 _ _ (by rfl) (by first | exact Or.inl rfl | exact Or.inr (Or.inl rfl) | exact Or.inr (Or.inr rfl)) (by decide) (by decide)) (@pa_cX _ _ _ _ _ (@pe_ix _ _ _ _ _ _ _ (ix_get hu1) (@pv _ 0 _ _ (by rfl) (by first | exact Or.inl rfl | exact Or.inr (Or.inl rfl) | exact Or.inr (Or.inr rfl)) (by decide) (by decide)) (@pe_str _ _ _ _) (fun _ _ => rfl)) (@pa_nil _) (by rfl)) (by rfl)) (by decide) (by rfl) (by decide) (by rfl) (by rfl)) (@pg_seqX _ _ _ _ 4 _ rfl (@pgs_cons _ _ _ _ _ (@pg_name _ _ 6 _ sc__law_step.nd rfl (by first | exact Or.inl rfl | exact Or.inr rfl) (by first | exact .inl rfl | exact .inr rfl | assumption)) (@pgs_cons _ _ _ _ _ (@pg_name _ _ 4 _ sc__law_step.nd rfl (by first | exact Or.inl rfl | exact Or.inr rfl) (by first | exact .inl rfl | exact .inr rfl | assumption)) (@pgs_cons _ _ _ _ _ (@pg_name _ _ 5 _ sc__law_step.nd rfl (by first | exact Or.inl rfl | exact Or.inr rfl) (by first | exact .inl rfl | exact .inr rfl | assumption)) (@pgs_cons _ _ _ _ _ (@pg_name _ _ 7 _ sc__law_step.nd rfl (by first | exact Or.inl rfl | exact Or.inr rfl) (by first | exact .inl rfl | exact .inr rfl | assumption)) (@pgs_nil _) (by rfl)) (by rfl)) (by rfl)) (by rfl)) (by rfl) (by rfl)) (by rfl) (by rfl) (by rfl)) (@pss_cons _ _ _ _ _ (@ps_setC _ _ _ _ _ _ _ _ _ _ _ 8 _ _ _ ["_law_row"] ["_law_asker", "_law_name", "_law_turn"] [6, 4, 7] rfl sc__law_step.nd rfl (by first | exact Or.inl rfl | exact Or.inr rfl) _ cs__law_step_0 (@pi_listK _ K _ _ _ (@pe_ix _ _ _ _ _ _ _ (ix_get hu1) (@pv _ 0 _ _ (by rfl) (by first | exact Or.inl rfl | exact Or.inr (Or.inl rfl) | exact Or.inr (Or.inr rfl)) (by decide) (by decide)) (@pe_str _ _ _ _) (fun _ _ => rfl)) (by rfl)) (fun _ _ _ _ => (@pg_name _ _ 0 _ cs__law_step_0.nd rfl (by first | exact Or.inl rfl | exact Or.inr rfl) (by first | exact .inl rfl | exact .inr rfl | assumption))) (fun _ _ _ _ => (@pf_one _ _ _ (@PW.pt _ _ _ (@pw_and _ _ _ _ _ _ _ (@pt_cmpR _ _ _ _ _ _ _ _ (op_eqX hu) (@pe_slice _ _ _ _ _ _ _ _ _ _ sl_TX (@pv _ 0 _ _ (by rfl) (by first | exact Or.inl rfl | exact Or.inr (Or.inl rfl) | exact Or.inr (Or.inr rfl)) (by decide) (by decide)) (@po_none _) (@po_some _ _ _ (@pe_int _ _ _ _))) (@pe_tup _ _ _ _ _ (@pa_cX _ _ _ _ _ (@pv _ 1 _ _ (by rfl) (by first | exact Or.inl rfl | exact Or.inr (Or.inl rfl) | exact Or.inr (Or.inr rfl)) (by decide) (by decide)) (@pa_cX _ _ _ _ _ (@pv _ 2 _ _ (by rfl) (by first | exact Or.inl rfl | exact Or.inr (Or.inl rfl) | exact Or.inr (Or.inr rfl)) (by decide) (by decide)) (@pa_nil _) (by rfl)) (by rfl))) (nomark _)) (@pw_and1 _ _ _ _ (@pt_cmpR _ _ _ _ _ _ _ _ op_ge (@pe_ix _ _ _ _ _ _ _ (ix_get hu1) (@pv _ 0 _ _ (by rfl) (by first | exact Or.inl rfl | exact Or.inr (Or.inl rfl) | exact Or.inr (Or.inr rfl)) (by decide) (by decide)) (@pe_int _ _ _ _) (fun _ _ => rfl)) (@pv _ 3 _ _ (by rfl) (by first | exact Or.inl rfl | exact Or.inr (Or.inl rfl) | exact Or.inr (Or.inr rfl)) (by decide) (by decide)) (nomark _))))))) (fun _ _ _ _ => (@pv _ 0 _ _ (by rfl) (by first | exact Or.inl rfl | exact Or.inr (Or.inl rfl) | exact Or.inr (Or.inr rfl)) (by decide) (by decide))) rfl (by rfl) (by rfl) (by rfl) (by first | exact .inl rfl | exact .inr rfl | assumption) (by intro _; rfl)) (@pss_cons _ _ _ _ _ (@ps_expr _ _ _ _ (@pe_mth _ _ _ _ _ _ _ _ _ _ _ _ _ _ _ M_Near_put T_Near.cl hr (@pe_ix _ _ _ _ _ _ _ (ix_get hu1) (@pe_ix _ _ _ _ _ _ _ (ix_get hu1) (@pv _ 0 _ _ (by rfl) (by first | exact Or.inl rfl | exact Or.inr (Or.inl rfl) | exact Or.inr (Or.inr rfl)) (by decide) (by decide)) (@pe_str _ _ _ _) (fun _ _ => rfl)) (@pv _ 6 _ _ (by rfl) (by first | exact Or.inl rfl | exact Or.inr (Or.inl rfl) | exact Or.inr (Or.inr rfl)) (by decide) (by decide)) (fun _ _ => rfl)) (@pa_cX _ _ _ _ _ (@pv _ 4 _ _ (by rfl) (by first | exact Or.inl rfl | exact Or.inr (Or.inl rfl) | exact Or.inr (Or.inr rfl)) (by decide) (by decide)) (@pa_cX _ _ _ _ _ (@pv _ 5 _ _ (by rfl) (by first | exact Or.inl rfl | exact Or.inr (Or.inl rfl) | exact Or.inr (Or.inr rfl)) (by decide) (by decide)) (@pa_cX _ _ _ _ _ (@pv _ 7 _ _ (by rfl) (by first | exact Or.inl rfl | exact Or.inr (Or.inl rfl) | exact Or.inr (Or.inr rfl)) (by decide) (by decide)) (@pa_nil _) (by rfl)) (by rfl)) (by rfl)) (by decide) (by rfl) (by rfl) (by rfl)) (by rfl)) (@pss_one _ _ _ (@ps_if _ _ _ _ _ _ _ _ (@pt_cmpR _ _ _ _ _ _ _ _ (op_eqNil hu) (@pv _ 8 _ _ (by rfl) (by first | exact Or.inl rfl | exact Or.inr (Or.inl rfl) | exact Or.inr (Or.inr rfl)) (by decide) (by decide)) (@pe_lst _ _ _ _ (@pa_nil _)) (nomark _)) (@pss_one _ _ _ (@ps_expr _ _ _ _ (@pe_lm _ _ _ _ _ _ _ _ _ _ _ PySem.F.slot_list_append PySem.F.type_list_append mt_append (@pe_ix _ _ _ _ _ _ _ (ix_get hu1) (@pv _ 0 _ _ (by rfl) (by first | exact Or.inl rfl | exact Or.inr (Or.inl rfl) | exact Or.inr (Or.inr rfl)) (by decide) (by decide)) (@pe_str _ _ _ _) (fun _ _ => rfl)) (@pa_cX _ _ _ _ _ (@pe_tup _ _ _ _ _ (@pa_cX _ _ _ _ _ (@pv _ 6 _ _ (by rfl) (by first | exact Or.inl rfl | exact Or.inr (Or.inl rfl) | exact Or.inr (Or.inr rfl)) (by decide) (by decide)) (@pa_cX _ _ _ _ _ (@pv _ 4 _ _ (by rfl) (by first | exact Or.inl rfl | exact Or.inr (Or.inl rfl) | exact Or.inr (Or.inr rfl)) (by decide) (by decide)) (@pa_cX _ _ _ _ _ (@pv _ 5 _ _ (by rfl) (by first | exact Or.inl rfl | exact Or.inr (Or.inl rfl) | exact Or.inr (Or.inr rfl)) (by decide) (by decide)) (@pa_cX _ _ _ _ _ (@pv _ 7 _ _ (by rfl) (by first | exact Or.inl rfl | exact Or.inr (Or.inl rfl) | exact Or.inr (Or.inr rfl)) (by decide) (by decide)) (@pa_nil _) (by rfl)) (by rfl)) (by rfl)) (by rfl))) (@pa_nil _) (by rfl)) (by rfl) (by rfl) (by rfl) (by rfl) (by rfl)) (by rfl))) (@pss_nil _)))))) (@pss_nil _)) (@pss_one _ _ _ (@ps_ret _ _ _ _ (@pe_or _ _ _ _ _ _ _ (@pe_cmpR _ _ _ _ _ _ _ _ op_lt (@pv _ 3 _ _ (by rfl) (by first | exact Or.inl rfl | exact Or.inr (Or.inl rfl) | exact Or.inr (Or.inr rfl)) (by decide) (by decide)) (@pe_int _ _ _ _) (nomark _)) (@pe_one _ _ _ _ _ (@pe_fn _ _ _ _ _ _ _ _ _ _ _ F__law_found hr (@pa_cX _ _ _ _ _ (@pv _ 0 _ _ (by rfl) (by first | exact Or.inl rfl | exact Or.inr (Or.inl rfl) | exact Or.inr (Or.inr rfl)) (by decide) (by decide)) (@pa_cX _ _ _ _ _ (@pv _ 1 _ _ (by rfl) (by first | exact Or.inl rfl | exact Or.inr (Or.inl rfl) | exact Or.inr (Or.inr rfl)) (by decide) (by decide)) (@pa_cX _ _ _ _ _ (@pv _ 2 _ _ (by rfl) (by first | exact Or.inl rfl | exact Or.inr (Or.inl rfl) | exact Or.inr (Or.inr rfl)) (by decide) (by decide)) (@pa_nil _) (by rfl)) (by rfl)) (by rfl)) (by decide) (by rfl) (by decide) (by rfl) (by rfl)))))))))))), ?_⟩
    refine cutbb (fun σ H' => ∃ way, Mid C C2 Pt H a p now N way σ H') ?_ (fun X hX => ?_)
    rotate_left
    · obtain ⟨x0, y0, ep⟩ := hW.ep
      simp (maxSteps := 1000000) only [rGet, Nat.reduceSub, Nat.reduceAdd, tSeq, exists_and_left, tOp, tVar, tC, tAsg, gName, tCall, tCons, tNil, tLst, L2.start, List.map_cons, List.map_nil, List.length_cons, List.length_nil, List.replicate, List.cons_append, List.nil_append, List.getElem?_cons_zero, List.getElem?_cons_succ, List.set_cons_zero, List.set_cons_succ, Option.some.injEq, exists_eq_left', V.ref.injEq, List.append_nil]
      refine ⟨p, x0, y0, 7, rfl, ep, by decide, by decide, fun way x1 y1 _ _ => ⟨by rw [sizeLine_eq]; decide, ?_⟩⟩
      have hW1 := hW.draw x1 y1
      generalize z1 : upd H p (.lst [.int x1, .int y1]) = H1 at hW1 ⊢
      have ep1 : H1 p = some (.lst [.int x1, .int y1]) := by rw [← z1]; exact upd_same
      intro p2 n2
      generalize z2 : upd H1 p2 _ = H2
      obtain ⟨s2, e2⟩ := new_same z2 n2
      refine ⟨p, x1, y1, 3, rfl, s2 _ _ ep1, by decide, by decide, fun r2 x2 y2 r20 r21 => ?_⟩
      have hW3 := (hW1.same s2).draw x2 y2
      obtain ⟨z, ez, hz⟩ := name3 r20 r21
      have e23 : upd H2 p (.lst [.int x2, .int y2]) p2 = some (.lst [.str (Str.ofString "a"), .str (Str.ofString "b"), .str (Str.ofString "ab")]) := (upd_ne (Ne.symm (ne_of_none ep1 n2))).trans e2
      simp (maxSteps := 1000000) only [getO_l, Option.some.injEq, exists_eq_left', e23, ez]
      exact hX _ _ ⟨way, a, sm, st, z, _, _, _, _, rfl, hz, hW3⟩
    rintro σ H1 ⟨way, hMid⟩
    -- bound or freed
    refine cutb (Mid C C2 Pt H a p now (N + 1) way) ?_ (fun X hX => ?_)
    rotate_left
    · obtain ⟨a1, s1, st1, z, v5, v6, v7, v8, rfl, hz, hW1⟩ := hMid
      by_cases hw : way = 0
      · subst hw
        obtain ⟨x0, y0, ep⟩ := hW1.ep
        simp (maxSteps := 1000000) only [tBL, rGet, Nat.reduceAdd, tMeth, decide_true, rAppend, List.cons.injEq, rEq_ii, tSeq, exists_and_left, if_true, tIfS, tTest, tOp, tVar, tC, tAsg, gName, tNext, tCall, tCons, tNil, tDrop, tTup, List.length_cons, List.length_nil, List.getElem?_cons_zero, List.getElem?_cons_succ, List.set_cons_zero, List.set_cons_succ, Option.some.injEq, exists_eq_left', V.bl.injEq, V.ref.injEq, and_true, List.append_nil]
        refine ⟨p, x0, y0, 5, rfl, ep, by decide, by decide, fun r x1 y1 r0 r1 => ?_⟩
        have hW2 := hW1.draw x1 y1
        generalize upd H1 p (.lst [.int x1, .int y1]) = H2 at hW2 ⊢
        have eh2 := hW2.hall.eh
        rw [hW2.ph] at eh2
        have eb2 := hW2.hall.bk.inst
        have tail : ∀ (o : Option Int) (bk' : BkA) (H3 : Hp), BookAt C (N + 1) H3 bk' (addD st1 z now o) → bk'.x = a1.bk.x → (∀ b ∈ badr bk', b ∈ badr a1.bk ∨ H2 b = none) → Keep (badr a1.bk) H2 H3 → ∃ xs, H3 a1.prw = some (.lst xs) ∧ xs.length ≤ N ∧ H3 a.ph = some (.dK (hkv a1)) ∧ ∀ (p4 : Addr) (H4 : Hp), Same H3 H4 → H4 p4 = some (.tup [.str z, optV o, .int now]) → Now C C2 Pt H a p now (N + 1) (upd H4 a1.prw (.lst (xs ++ [V.ref p4]))) { a1 with bk := bk' } { s1 with rows := s1.rows ++ [(z, o, now)] } (addD st1 z now o) := fun o bk' H3 B hx hnew k3 => by
          obtain ⟨xs, er, hp⟩ := hW2.hall.rw_
          have nb : a1.prw ∉ badr a1.bk := fun m => by
            rcases hW2.hall.book_k _ m with ⟨_, fs, e⟩ | ⟨_, kvs, e⟩ | ⟨⟨q, hq, eq⟩, _⟩
            · rw [er] at e; cases e
            · rw [er] at e; cases e
            · exact hW2.dj.bl q hq (by rw [← eq]; simp)
          have nh : a.ph ∉ badr a1.bk := fun m => by
            rcases hW2.hall.book_k _ m with ⟨_, fs, e⟩ | ⟨eq, kvs, e⟩ | ⟨_, xs, e⟩
            · rw [eh2] at e; cases e
            · exact hW2.dj.dp (by rw [hW2.ph]; exact eq.symm)
            · rw [eh2] at e; cases e
          have er3 := k3 _ _ er nb
          have hl := hp.length
          have hln := hW2.hall.ln.1
          exact ⟨xs, er3, by omega, k3 _ _ eh2 nh, fun p4 H4 s4 e4 => hW2.bound k3 B hx hnew s4 (s4 _ _ er3) ⟨p4, rfl, e4⟩⟩
        by_cases hr4 : r = 4
        · subst hr4
          simp (maxSteps := 1000000) only [getO_ds, HO.ins.injEq, decide_true, rEq_ii, exists_and_left, if_true, Option.some.injEq, exists_eq_left', V.bl.injEq, V.ref.injEq, true_and, and_assoc, eh2, hk_book, eb2, fn_Book_bind, fn_Book_free]
          refine ⟨a1.bk.x, z, now, rfl, ⟨_, _, eb2, rfl⟩, N, a1.bk, st1, z, none, now, rfl, hW2.hall.bk, by omega, hz, hW2.mo.sl, fun bk' H3 B hx hnew k3 => ?_⟩
          obtain ⟨xs, er3, hl3, eh3, fin⟩ := tail none bk' H3 B hx hnew k3
          simp (maxSteps := 1000000) only [getO_ds, HO.lst.injEq, Option.some.injEq, exists_eq_left', V.ref.injEq, eh3, hk_rows, er3]
          refine ⟨by rw [sizeLine_eq]; decide, ?_⟩
          intro p4 n4
          generalize z4 : upd H3 p4 _ = H4
          obtain ⟨s4, e4⟩ := new_same z4 n4
          have er4 := s4 _ _ er3
          simp (maxSteps := 1000000) only [HO.lst.injEq, Option.some.injEq, exists_eq_left', er4]
          exact ⟨by rw [sizeLine_eq]; omega, hX _ _ ⟨_, _, _, z, _, v6, v7, v8, rfl, hz, fin p4 H4 s4 e4⟩⟩
        · simp (maxSteps := 1000000) only [getO_ds, HO.ins.injEq, decide_false, rEq_ii, exists_and_left, if_false, Bool.false_eq_true, Option.some.injEq, exists_eq_left', V.bl.injEq, V.ref.injEq, true_and, and_assoc, hr4, eh2, hk_book, eb2, fn_Book_bind, fn_Book_free]
          refine ⟨N, a1.bk, st1, z, some r, now, rfl, hW2.hall.bk, by omega, hz, hW2.mo.sl, fun bk' H3 B hx hnew k3 => ?_⟩
          obtain ⟨xs, er3, hl3, eh3, fin⟩ := tail (some r) bk' H3 B hx hnew k3
          simp (maxSteps := 1000000) only [getO_ds, HO.lst.injEq, Option.some.injEq, exists_eq_left', V.ref.injEq, eh3, hk_rows, er3]
          refine ⟨by rw [sizeLine_eq]; decide, ?_⟩
          intro p4 n4
          generalize z4 : upd H3 p4 _ = H4
          obtain ⟨s4, e4⟩ := new_same z4 n4
          have er4 := s4 _ _ er3
          simp (maxSteps := 1000000) only [HO.lst.injEq, Option.some.injEq, exists_eq_left', er4]
          exact ⟨by rw [sizeLine_eq]; omega, hX _ _ ⟨_, _, _, z, _, v6, v7, v8, rfl, hz, fin p4 H4 s4 e4⟩⟩
      · simp (maxSteps := 1000000) only [tBL, rGet, Nat.reduceAdd, tMeth, decide_false, rAppend, List.cons.injEq, rEq_ii, tSeq, exists_and_left, if_false, Bool.false_eq_true, tIfS, tTest, tOp, tVar, tC, tAsg, gName, tNext, tCall, tCons, tNil, tDrop, tTup, List.length_cons, List.length_nil, List.getElem?_cons_zero, List.getElem?_cons_succ, List.set_cons_zero, List.set_cons_succ, Option.some.injEq, exists_eq_left', V.bl.injEq, V.ref.injEq, and_true, List.append_nil, hw]
        exact hX _ _ ⟨a1, s1, st1, z, v5, v6, v7, v8, rfl, hz, hW1.mono (Nat.le_succ _)⟩
    clear hMid
    rintro σ H1 hMid
    -- asked
    refine cutb (Mid C C2 Pt H a p now (N + 2) way) ?_ (fun X hX => ?_)
    rotate_left
    · obtain ⟨a1, s1, st1, z, v5, v6, v7, v8, rfl, hz, hW1⟩ := hMid
      by_cases hw : way = 1
      · subst hw
        obtain ⟨x0, y0, ep⟩ := hW1.ep
        have eh1 := hW1.hall.eh
        rw [hW1.ph] at eh1
        have en1 := hW1.hall.en
        obtain ⟨xs, ea, hpa⟩ := hW1.hall.as_
        have hla := hpa.length
        have hln := hW1.hall.ln.2.1
        simp (maxSteps := 1000000) only [tBL, rGet, getO_ds, rLenX, lenX_r, lenO_l, Option.bind_some, HO.lst.injEq, Nat.reduceAdd, decide_true, rAppend, List.cons.injEq, rEq_ii, tSeq, exists_and_left, if_true, tIfS, tTest, tOp, tVar, tC, tNext, tCall, tCons, tNil, tCB, tDrop, tTup, List.length_cons, List.length_nil, List.getElem?_cons_zero, List.getElem?_cons_succ, Option.some.injEq, exists_eq_left', V.bl.injEq, V.ref.injEq, and_true, List.append_nil, eh1, hk_asked, hk_near, en1, ea]
        refine ⟨p, x0, y0, _, rfl, ep, by rw [List.length_map, hW1.nv]; omega, by rw [List.length_map, hW1.nv]; omega, fun r x1 y1 r0 r1 => ⟨by rw [sizeLine_eq]; decide, ?_⟩⟩
        rw [List.length_map] at r1
        have hW2 := hW1.draw x1 y1
        have npa : p ≠ a1.pas := fun m => hW1.np (by rw [m]; exact mem_hadr_7 (by simp))
        have ea2 : upd H1 p (.lst [.int x1, .int y1]) a1.pas = some (.lst xs) := (upd_ne (Ne.symm npa)).trans ea
        generalize upd H1 p (.lst [.int x1, .int y1]) = H2 at hW2 ea2 ⊢
        intro p3 n3
        generalize z3 : upd H2 p3 _ = H3
        obtain ⟨s3, e3⟩ := new_same z3 n3
        have ea3 := s3 _ _ ea2
        simp (maxSteps := 1000000) only [HO.lst.injEq, Option.some.injEq, exists_eq_left', ea3]
        refine ⟨by rw [sizeLine_eq]; omega, ?_⟩
        obtain ⟨i, rfl⟩ : ∃ i : Nat, r = i := ⟨r.toNat, by omega⟩
        have hW3 := hW2.same s3
        refine hX _ _ ⟨a1, { s1 with asked := s1.asked ++ [(i, z, now)] }, st1, z, v5, v6, v7, v8, rfl, hz, ?_⟩
        exact hW3.grow (mem_hadr_7 (by simp)) ⟨_, ea3⟩ (hW3.hall.addAsk hW3.dj ea3 ⟨p3, rfl, e3⟩) (hW3.mo.addAsk ⟨by dsimp only; omega, hz, Int.le_refl _⟩)
      · simp (maxSteps := 1000000) only [tBL, rGet, rLenX, Nat.reduceAdd, decide_false, rAppend, List.cons.injEq, rEq_ii, tSeq, exists_and_left, if_false, Bool.false_eq_true, tIfS, tTest, tOp, tVar, tC, tNext, tCall, tCons, tNil, tCB, tDrop, tTup, List.length_cons, List.length_nil, List.getElem?_cons_zero, List.getElem?_cons_succ, Option.some.injEq, exists_eq_left', V.bl.injEq, V.ref.injEq, and_true, List.append_nil, hw]
        exact hX _ _ ⟨a1, s1, st1, z, v5, v6, v7, v8, rfl, hz, hW1.mono (Nat.le_succ _)⟩
    clear hMid
    rintro σ H1 hMid
    -- told
    refine cutb (Mid C C2 Pt H a p now (N + 3) way) ?_ (fun X hX => ?_)
    rotate_left
    · obtain ⟨a1, s1, st1, z, v5, v6, v7, v8, rfl, hz, hW1⟩ := hMid
      by_cases hw : way = 2
      · subst hw
        obtain ⟨x0, y0, ep⟩ := hW1.ep
        have eh1 := hW1.hall.eh
        rw [hW1.ph] at eh1
        obtain ⟨xs, ea, hpa⟩ := hW1.hall.as_
        have hla := hpa.length
        have hln := hW1.hall.ln
        have npa : p ≠ a1.pas := fun m => hW1.np (by rw [m]; exact mem_hadr_7 (by simp))
        simp (maxSteps := 1000000) only [gSeqX, tBL, rGet, getO_ds, gCons, gNil, Nat.reduceAdd, tMeth, decide_true, rAppend, List.cons.injEq, rEq_ii, tSeq, exists_and_left, if_false, if_true, Bool.false_eq_true, tIfS, tAnd, tTest, tOp, tVar, tC, tAsg, gName, tNext, tCall, tCons, tNil, tDrop, tLst, tTup, List.length_cons, List.length_nil, List.getElem?_cons_zero, List.getElem?_cons_succ, List.set_cons_zero, List.set_cons_succ, Option.some.injEq, exists_eq_left', V.bl.injEq, V.ref.injEq, and_true, List.append_nil, eh1, hk_asked]
        refine ⟨Nat.zero_le _, ?_⟩
        intro p2 n2
        generalize z2 : upd H1 p2 _ = H2
        obtain ⟨s2, e2⟩ := new_same z2 n2
        refine ⟨a1.pas, p2, xs, rfl, rfl, s2 _ _ ea, e2, ?_⟩
        have hW2 := hW1.same s2
        have eh2 := s2 _ _ eh1
        have ea2 := s2 _ _ ea
        by_cases hne : xs = []
        · subst hne
          simp (maxSteps := 1000000) only [List.isEmpty_nil, Bool.not_true, if_false, Bool.false_eq_true, exists_eq_left', V.bl.injEq]
          exact hX _ _ ⟨a1, s1, st1, z, v5, v6, v7, v8, rfl, hz, hW2.mono (Nat.le_succ _)⟩
        · have hie : xs.isEmpty = false := by cases xs with | nil => exact absurd rfl hne | cons _ _ => rfl
          rw [hie]
          simp (maxSteps := 1000000) only [getO_ds, Bool.not_false, if_true, Option.some.injEq, exists_eq_left', V.bl.injEq, eh2, hk_asked]
          refine ⟨p, a1.pas, x0, y0, xs, rfl, s2 _ _ ep, ea2, npa, hne, by omega, fun v x1 y1 hv => ?_⟩
          have hW3 := hW2.draw x1 y1
          obtain ⟨qa, hqa, hvq⟩ := paired_mem hpa hv
          have hv3 := (hvq.keep (S := []) s2.keep (fun _ z => nomatch z)).keep (H' := upd H2 p (.lst [.int x1, .int y1])) (S := [p]) (Keep.refl.upd (.inl (.head _))) (noT1 (.of_lst (s2 _ _ ep)))
          generalize upd H2 p (.lst [.int x1, .int y1]) = H3 at hW3 hv3 ⊢
          obtain ⟨tq, rfl, et⟩ := hv3
          have eh3 := hW3.hall.eh
          rw [hW3.ph] at eh3
          obtain ⟨xt, ett, hpt⟩ := hW3.hall.to_
          have eb3 := hW3.hall.bk.inst
          have hlt := hpt.length
          obtain ⟨b1, b2, b3⟩ := hW3.mo.as_ qa hqa
          simp (maxSteps := 1000000) only [getO_ds, seqO_t, HO.lst.injEq, HO.ins.injEq, Nat.reduceAdd, List.cons.injEq, exists_and_left, List.length_cons, List.length_nil, Option.some.injEq, exists_eq_left', V.ref.injEq, true_and, and_assoc, et, eh3, hk_told, hk_book, ett, eb3, fn_Book_told]
          refine ⟨N + 2, a1.bk, st1, qa.2.1, rfl, hW3.hall.bk, fun H4 s4 => ⟨by rw [sizeLine_eq]; decide, ?_⟩⟩
          intro p5 n5
          generalize z5 : upd H4 p5 _ = H5
          obtain ⟨s5, e5⟩ := new_same z5 n5
          have s45 := s4.trans s5
          have ett5 := s45 _ _ ett
          simp (maxSteps := 1000000) only [HO.lst.injEq, Option.some.injEq, exists_eq_left', ett5]
          refine ⟨by rw [sizeLine_eq]; omega, ?_⟩
          have hW5 := hW3.same s45
          refine hX _ _ ⟨a1, { s1 with told := s1.told ++ [(qa.1, qa.2.1, lastH (st1.d qa.2.1), qa.2.2)] }, st1, qa.2.1, v5, _, _, v8, rfl, b2, ?_⟩
          refine hW5.grow (mem_hadr_7 (by simp)) ⟨_, ett5⟩ (hW5.hall.addTold hW5.dj ett5 ⟨p5, rfl, e5⟩) (hW5.mo.addTold ⟨b1, b2, b3, fun h e => ⟨now, b3, h0, Int.le_refl _, ?_⟩⟩)
          refine Wt.now ?_ hW5.mo.rn
          rw [← hW5.hall.bd]
          exact e
      · simp (maxSteps := 1000000) only [gSeqX, tBL, rGet, gCons, gNil, Nat.reduceAdd, tMeth, decide_false, rAppend, List.cons.injEq, rEq_ii, tSeq, exists_and_left, if_false, Bool.false_eq_true, tIfS, tAnd, tTest, tOp, tVar, tC, tAsg, gName, tNext, tCall, tCons, tNil, tDrop, tLst, tTup, List.length_cons, List.length_nil, List.getElem?_cons_zero, List.getElem?_cons_succ, List.set_cons_zero, List.set_cons_succ, Option.some.injEq, exists_eq_left', V.bl.injEq, V.ref.injEq, and_true, List.append_nil, hw]
        exact hX _ _ ⟨a1, s1, st1, z, v5, v6, v7, v8, rfl, hz, hW1.mono (Nat.le_succ _)⟩
    clear hMid
    rintro σ H1 hMid
    -- come
    refine cutb (Mid C C2 Pt H a p now (N + 4) way) ?_ (fun X hX => ?_)
    rotate_left
    · obtain ⟨a1, s1, st1, z, v5, v6, v7, v8, rfl, hz, hW1⟩ := hMid
      have eh1 := hW1.hall.eh
      rw [hW1.ph] at eh1
      simp (maxSteps := 1000000) only [tComp_eq, gSeqX, tBL, rGet, getO_ds, gCons, gNil, Nat.reduceAdd, tMeth, iList, rAppend, List.cons.injEq, rEq_ii, tSeq, exists_and_left, if_false, if_true, Bool.false_eq_true, tIfS, tAnd, tOr, tTest, tOp, tVar, tC, tAsg, gName, tNext, tCall, tCons, tNil, tDrop, tLst, tTup, List.length_cons, List.length_nil, List.getElem?_cons_zero, List.getElem?_cons_succ, List.set_cons_zero, List.set_cons_succ, Option.some.injEq, exists_eq_left', V.bl.injEq, V.ref.injEq, and_true, List.append_nil, eh1, hk_told]
      refine ite_or ⟨Nat.zero_le _, ?_⟩ (hX _ _ ⟨a1, s1, st1, z, v5, v6, v7, v8, rfl, hz, hW1.mono (Nat.le_succ _)⟩)
      obtain ⟨x0, y0, ep⟩ := hW1.ep
      obtain ⟨xs, ea, hpa⟩ := hW1.hall.to_
      have hla := hpa.length
      have hln := hW1.hall.ln
      have npa : p ≠ a1.pto := fun m => hW1.np (by rw [m]; exact mem_hadr_7 (by simp))
      intro p2 n2
      generalize z2 : upd H1 p2 _ = H2
      obtain ⟨s2, e2⟩ := new_same z2 n2
      refine ⟨a1.pto, p2, xs, rfl, rfl, s2 _ _ ea, e2, ?_⟩
      have hW2 := hW1.same s2
      have eh2 := s2 _ _ eh1
      have ea2 := s2 _ _ ea
      by_cases hne : xs = []
      · subst hne
        simp (maxSteps := 1000000) only [List.isEmpty_nil, Bool.not_true, if_false, Bool.false_eq_true, exists_eq_left', V.bl.injEq]
        exact hX _ _ ⟨a1, s1, st1, z, v5, v6, v7, v8, rfl, hz, hW2.mono (Nat.le_succ _)⟩
      have hie : xs.isEmpty = false := by cases xs with | nil => exact absurd rfl hne | cons _ _ => rfl
      rw [hie]
      simp (maxSteps := 1000000) only [getO_ds, Bool.not_false, if_true, Option.some.injEq, exists_eq_left', V.bl.injEq, eh2, hk_told]
      refine ⟨p, a1.pto, x0, y0, xs, rfl, s2 _ _ ep, ea2, npa, hne, by omega, fun v x1 y1 hv => ?_⟩
      have hW3 := hW2.draw x1 y1
      obtain ⟨qa, hqa, hvq⟩ := paired_mem hpa hv
      have hv3 := (hvq.keep (S := []) s2.keep (fun _ z => nomatch z)).keep (H' := upd H2 p (.lst [.int x1, .int y1])) (S := [p]) (Keep.refl.upd (.inl (.head _))) (noT1 (.of_lst (s2 _ _ ep)))
      generalize upd H2 p (.lst [.int x1, .int y1]) = H3 at hW3 hv3 ⊢
      obtain ⟨tq, rfl, et⟩ := hv3
      have et' : H3 tq = some (.tup [.int (qa.1 : Int), .str qa.2.1, optV qa.2.2.1, .int qa.2.2.2]) := et
      have hT := hW3.mo.to_ qa hqa
      have eh3 := hW3.hall.eh
      rw [hW3.ph] at eh3
      obtain ⟨xc, ec, hpc⟩ := hW3.hall.ca_
      have hlc := hpc.length
      simp (maxSteps := 1000000) only [getO_ds, seqO_t, Nat.reduceAdd, List.cons.injEq, exists_and_left, List.length_cons, List.length_nil, Option.some.injEq, exists_eq_left', V.ref.injEq, true_and, and_assoc, et', eh3, hk_came]
      refine ⟨⟨_, SqL.of ec⟩, comp_pickG RAns (fun S H H' v q k hs h => h.keep k hs) (fun q => (decide ((q.1 : Int) = (qa.1 : Int)) && decide (q.2.1 = qa.2.1)) && decide (qa.2.2.2 ≤ q.2.2.2)) ec hpc (by omega) (fun v q H4 A B hqm hv yes no => ?_) (fun D zs H4 nD eD hD s4 => ?_)⟩
      · obtain ⟨tr, rfl, etr⟩ := hv
        have etr' : H4 tr = some (.tup [.int (q.1 : Int), .str q.2.1, optV q.2.2.1, .int q.2.2.2]) := etr
        simp (maxSteps := 1000000) only [rGet, HO.tup.injEq, Nat.reduceAdd, cSt, List.drop_succ_cons, List.drop_zero, tSl, tNoPart, tPart, exists_and_left, if_false, Bool.false_eq_true, tAnd, tTest, tOp, tVar, tC, rI0, gName, tCons, tNil, tTup, List.map_cons, List.map_nil, List.length_cons, List.length_nil, List.replicate, List.cons_append, List.nil_append, List.getElem?_cons_zero, List.getElem?_cons_succ, List.set_cons_zero, Option.some.injEq, exists_eq_left', V.int.injEq, V.bl.injEq, V.ref.injEq, true_and, Option.join_some, etr', rSlTX]
        have ecut : cutV [V.int (q.1 : Int), V.str q.2.1, optV q.2.2.1, V.int q.2.2.2] none (some 2) = [V.int (q.1 : Int), V.str q.2.1] := rfl
        rw [ecut]
        intro p5 H5 h5 e5
        have s5 : Same H4 H5 := by
          rcases h5 with rfl | ⟨n5, rfl⟩
          · exact .refl _
          · exact .upd_new n5
        refine ⟨by rw [sizeLine_eq]; decide, ?_⟩
        intro p6 n6
        generalize z6 : upd H5 p6 _ = H6
        obtain ⟨s6, e6⟩ := new_same z6 n6
        have s56 := s5.trans s6
        have okq := nm_ok (hW3.mo.ca_ q hqm).2.1
        have oka := nm_ok hT.2.1
        refine ⟨_, _, (Im.tup (s6 _ _ e5) (.cons (.int _) (.cons (.str okq) .nil)) (by simp)).dt, (Im.tup e6 (.cons (.int _) (.cons (.str oka) .nil)) (by simp)).dt, by simp [PyData.depth, PyData.depthAll], by simp [PyData.depth, PyData.depthAll], ?_⟩
        have eqv : PyData.eqv (.tuple [.int (q.1 : Int), .str q.2.1]) (.tuple [.int (qa.1 : Int), .str qa.2.1]) = (decide ((q.1 : Int) = (qa.1 : Int)) && decide (q.2.1 = qa.2.1)) := by
          simp only [PyData.eqv, PyData.eqvAll, Bool.and_true]
          by_cases c1 : (q.1 : Int) = (qa.1 : Int) <;> by_cases c2 : q.2.1 = qa.2.1 <;> simp [c1, c2]
        rw [eqv]
        have etr6 := s56 _ _ etr'
        refine ⟨_, rfl, ?_⟩
        simp (maxSteps := 1000000) only [getO_t, atI_3, Option.some.injEq, exists_eq_left', V.int.injEq, etr6]
        by_cases c1 : (decide ((q.1 : Int) = (qa.1 : Int)) && decide (q.2.1 = qa.2.1)) = true
        · rw [if_pos c1]
          by_cases c2 : qa.2.2.2 ≤ q.2.2.2
          · rw [if_pos (decide_eq_true c2)]
            exact yes H6 s56 (by rw [c1, decide_eq_true c2]; rfl)
          · rw [if_neg (by simpa using c2)]
            exact no H6 s56 (by rw [c1, decide_eq_false c2]; rfl)
        · rw [if_neg c1]
          exact no H6 s56 (by rw [Bool.eq_false_iff.mpr c1]; rfl)
      · have hW4 := hW3.same s4
        have eh4 := s4 _ _ eh3
        have en4 := hW4.hall.en
        have hi : qa.1 < a1.nv.length := hT.1
        have hik : qa.1 < a1.kps.length := by have := hW4.hall.kl; omega
        obtain ⟨x, hx⟩ : ∃ x, a1.nv[qa.1]? = some x := ⟨_, List.getElem?_eq_getElem hi⟩
        obtain ⟨kp, hk⟩ : ∃ kp, a1.kps[qa.1]? = some kp := ⟨_, List.getElem?_eq_getElem hik⟩
        have i2 : atI (a1.nv.map fun x => V.ref x.1) (qa.1 : Int) = some (.ref x.1) := atI_nat (by rw [List.getElem?_map, hx]; rfl)
        obtain ⟨kvs, hNr, hkl⟩ := hW4.hall.nr qa.1 x kp hx hk
        have ex4 := hNr.ins
        simp (maxSteps := 1000000) only [getO_l, getO_ds, HO.ins.injEq, exists_and_left, Option.some.injEq, exists_eq_left', V.ref.injEq, true_and, and_assoc, eh4, hk_near, en4, i2, ex4, fn_Near_put]
        refine ⟨x.1, x.2.1, x.2.2, kp, qa.2.2.2, qa.2.1, qa.2.2.1, kvs, _, rfl, hNr, by omega, fun kvs' H5 hN5 hl5 k5 => ⟨Nat.zero_le _, ?_⟩⟩
        have hxm := List.mem_of_getElem? hx
        obtain ⟨_, kvd, edx⟩ := hW4.hall.near_k hxm
        have nlist : ∀ {b : Addr} {l : List V}, H4 b = some (.lst l) → b ∉ [x.2.2] := fun {b l} e m => by
          rw [List.mem_singleton] at m
          rw [m, edx] at e
          cases e
        have eD5 := k5 _ _ eD (nlist eD)
        have ec5 := k5 _ _ (s4 _ _ ec) (nlist (s4 _ _ ec))
        have eh5 : H5 a.ph = some (.dK (hkv a1)) := by
          have := (hW4.hall.put_keep hW4.dj hx k5).1
          rw [hW4.ph] at this
          exact this
        intro p6 n6
        generalize z6 : upd H5 p6 _ = H6
        obtain ⟨s6, e6⟩ := new_same z6 n6
        refine ⟨D, p6, zs, rfl, rfl, s6 _ _ eD5, e6, ?_⟩
        have hzl := hD.length
        have hSx : ∀ b ∈ [x.2.2], b ∈ hadr a1 ∧ ((∃ l, H4 b = some (.lst l)) ∨ ∃ l, H4 b = some (.dK l)) := fun b hb => by
          rw [List.mem_singleton] at hb
          subst hb
          exact ⟨mem_hadr_g hxm, .inr ⟨_, edx⟩⟩
        have inF : ∀ q ∈ cs s1.came qa.1 qa.2.1, qa.2.2.2 ≤ q.2.2.2 → q ∈ s1.came.filter fun q => (decide ((q.1 : Int) = (qa.1 : Int)) && decide (q.2.1 = qa.2.1)) && decide (qa.2.2.2 ≤ q.2.2.2) := fun q hq hle => by
          unfold cs at hq
          obtain ⟨m1, m2⟩ := List.mem_filter.mp hq
          exact List.mem_filter.mpr ⟨m1, by rw [m2, decide_eq_true hle]; rfl⟩
        by_cases hF : zs = []
        · have hno : ∀ q ∈ cs s1.came qa.1 qa.2.1, q.2.2.2 < qa.2.2.2 := fun q hq => by
            by_cases hle : qa.2.2.2 ≤ q.2.2.2
            · have m := inF q hq hle
              rw [hF] at hzl
              rw [List.eq_nil_of_length_eq_zero hzl.symm] at m
              cases m
            · omega
          subst hF
          have eh6 := s6 _ _ eh5
          have ec6 := s6 _ _ ec5
          simp (maxSteps := 1000000) only [getO_ds, HO.lst.injEq, List.isEmpty_nil, if_true, Option.some.injEq, exists_eq_left', V.bl.injEq, V.ref.injEq, eh6, hk_came, ec6]
          refine ⟨by rw [sizeLine_eq]; decide, ?_⟩
          intro p7 n7
          generalize z7 : upd H6 p7 _ = H7
          obtain ⟨s7, e7⟩ := new_same z7 n7
          have ec7 := s7 _ _ ec6
          simp (maxSteps := 1000000) only [HO.lst.injEq, Option.some.injEq, exists_eq_left', ec7]
          refine ⟨by rw [sizeLine_eq]; omega, hX _ _ ⟨a1, { s1 with came := s1.came ++ [qa] }, st1, qa.2.1, _, _, _, _, rfl, hT.2.1, ?_⟩⟩
          have s57 := s6.trans s7
          rw [mOf_new hno] at hN5
          have hH7 := hW4.hall.putCame (q := qa) hW4.dj hx hk k5 hN5 (by omega) (fun j hj => mOf_other hj) s57 ec7 ⟨p7, rfl, e7⟩
          refine hW4.wrote (S := [x.2.2, a1.pca]) (((k5.mono (by simp)).same s57).upd (.inl (by simp))) (fun b hb => ?_) hH7 (hW4.mo.addCame hT hno)
          rcases List.mem_cons.mp hb with rfl | hb
          · exact hSx _ (.head _)
          · rw [List.mem_singleton] at hb
            subst hb
            exact ⟨mem_hadr_7 (by simp), .inl ⟨_, s4 _ _ ec⟩⟩
        · have hie : zs.isEmpty = false := by cases zs with | nil => exact absurd rfl hF | cons _ _ => rfl
          rw [hie]
          simp (maxSteps := 1000000) only [if_false, Bool.false_eq_true, exists_eq_left', V.bl.injEq]
          have hex : ∃ q ∈ cs s1.came qa.1 qa.2.1, qa.2.2.2 ≤ q.2.2.2 := by
            obtain ⟨v, hv⟩ := List.exists_mem_of_ne_nil zs hF
            obtain ⟨q, hq, _⟩ := paired_mem hD hv
            obtain ⟨m1, m2⟩ := List.mem_filter.mp hq
            rw [Bool.and_eq_true] at m2
            exact ⟨q, List.mem_filter.mpr ⟨m1, m2.1⟩, of_decide_eq_true m2.2⟩
          rw [newM_old (hW4.mo.in_ _ _) hex] at hN5
          refine hX _ _ ⟨a1, s1, st1, qa.2.1, _, _, _, _, rfl, hT.2.1, ?_⟩
          exact (hW4.wrote k5 hSx (hW4.hall.putOld hW4.dj hx hk k5 hN5 (by omega)) hW4.mo).same s6
    clear hMid
    rintro σ H1 ⟨a', s', st', z, v5, v6, v7, v8, rfl, hz, hW'⟩
    simp (maxSteps := 1000000) only [exists_and_left, tOp, tVar, tC, rI0, tRet, tOrV, tCall, tCons, tNil, List.getElem?_cons_zero, List.getElem?_cons_succ, Option.some.injEq, exists_eq_left', V.int.injEq, V.bl.injEq, List.append_nil]
    refine ite2 (fun _ => q _ _ _ _ hW') (fun _ => ?_)
    obtain ⟨x0, y0, ep⟩ := hW'.ep
    refine ⟨a', s', st', N + 4, now, x0, y0, p, by rw [hW'.ph], hW'.hall, hW'.mo, by omega, h0, h1, by rw [hW'.nv]; exact n0, by rw [hW'.nv]; exact n10, ep, hW'.np, hW'.nP, hW'.tab, fun H2 x y k2 e2 t2 => q _ _ _ _ (hW'.found k2 e2 t2)⟩
end
end K58
namespace K58
open PySem L2 PySem.W
abbrev s_law : Stmt := top 20
theorem sc_law : FnScope ["_law_script", "_law_first", "_law_draw_here", "_law_keeps", "_law_hall", "_law_now", "_law_steps", "_law_cell", "_law_k"] ["_law_script"] (defScope s_law) := ⟨rfl, rfl, rfl, by decide +kernel, rfl, by decide +kernel, by decide +kernel⟩
theorem cs_law_0 : CScope ["_law_k"] ["_law_draw_here"] { kind := .function, names := [(".0", .local), ("_law_k", .local), ("_law_next", .globalImplicit), ("_law_draw_here", .free)], isGenerator := false, isCoroutine := false, more := [] } (defScope s_law) := ⟨rfl, by decide +kernel, by decide +kernel, by decide +kernel, by decide +kernel, by decide +kernel⟩
theorem cs_law_1 : CScope ["_law_keep"] [] { kind := .function, names := [(".0", .local), ("_law_keep", .local), ("Near", .globalImplicit)], isGenerator := false, isCoroutine := false, more := [] } (defScope s_law) := ⟨rfl, by decide +kernel, by decide +kernel, by decide +kernel, by decide +kernel, by decide +kernel⟩
theorem cut3 {s1 s2 s3 b : TS} {D : Ends} {σ : St} {H : Hp} (M : St → Hp → Prop) (h1 : ∀ σ H, M σ H → b D σ H) (h2 : ∀ T : TS, (∀ σ H, M σ H → T D σ H) → tSeq s1 (tSeq s2 (tSeq s3 T)) D σ H) : tSeq s1 (tSeq s2 (tSeq s3 b)) D σ H := h2 b h1
theorem ite_w {c d e : Prop} [Decidable c] [Decidable d] [Decidable e] {A B : Prop} (hA : c → A) (hB : B) : if c then (if d then A else if e then A else B) else B := by
  split
  · next h =>
    split
    · exact hA h
    · split
      · exact hA h
      · exact hB
  · exact hB
theorem HallAt.kinds {C C2 : Addr} {N : Nat} {H : Hp} {a : Ha} {s : Sm} {st : BkS} (h : HallAt C C2 N H a s st) : ∀ b ∈ hadr a, ∃ o, H b = some o ∧ ∀ tb, o ≠ .tbl tb := fun b hb => by
  unfold hadr at hb
  rcases List.mem_append.mp hb with m | m
  · rcases List.mem_cons.mp m with rfl | m
    · exact ⟨_, h.eh, fun tb z => by cases z⟩
    · obtain ⟨xs, e⟩ := h.lists b m
      exact ⟨_, e, fun tb z => by cases z⟩
  · rcases List.mem_append.mp m with m | m
    · rcases h.book_k b m with ⟨_, fs, e⟩ | ⟨_, kvs, e⟩ | ⟨_, xs, e⟩
      · exact ⟨_, e, fun tb z => by cases z⟩
      · exact ⟨_, e, fun tb z => by cases z⟩
      · exact ⟨_, e, fun tb z => by cases z⟩
    · rcases List.mem_append.mp m with m | m
      · obtain ⟨x, hx, rfl⟩ := List.mem_map.mp m
        obtain ⟨⟨fs, e⟩, _⟩ := h.near_k hx
        exact ⟨_, e, fun tb z => by cases z⟩
      · obtain ⟨x, hx, rfl⟩ := List.mem_map.mp m
        obtain ⟨_, kvs, e⟩ := h.near_k hx
        exact ⟨_, e, fun tb z => by cases z⟩
structure Lw (C C2 Pt ph pc : Addr) (cells : List V) (now : Int) (k : Nat) (H' : Hp) (a : Ha) (s : Sm) (st : BkS) : Prop where
  hall : HallAt C C2 (4 * k) H' a s st
  mo : Mo a.nv.length now s st
  dj : DJ a
  ph : a.ph = ph
  n0 : 0 < a.nv.length
  n10 : a.nv.length ≤ 10
  nP : Pt ∉ hadr a
  tab : TabOk H' Pt gP qF
  npc : pc ∉ hadr a
  epc : H' pc = some (.lst cells)
  w0 : 0 ≤ now
  wk : now ≤ k
  k2 : k ≤ 200
theorem Lw.same {C C2 Pt ph pc : Addr} {cells : List V} {now : Int} {k : Nat} {H H' : Hp} {a : Ha} {s : Sm} {st : BkS} (h : Lw C C2 Pt ph pc cells now k H a s st) (s' : Same H H') : Lw C C2 Pt ph pc cells now k H' a s st := { h with hall := h.hall.same s', tab := h.tab.same s', epc := s' _ _ h.epc }
/-- as a step asks it -/
theorem Lw.now {C C2 Pt ph pc p : Addr} {cells : List V} {now : Int} {k : Nat} {H : Hp} {a : Ha} {s : Sm} {st : BkS} (h : Lw C C2 Pt ph pc cells now k H a s st) (ep : ∃ x y : Int, H p = some (.lst [.int x, .int y])) (np : p ∉ hadr a) {now' : Int} (hn : now ≤ now') : Now C C2 Pt H a p now' (4 * k) H a s st :=
  ⟨h.hall, h.mo.later hn, h.dj, rfl, rfl, ep, np, h.nP, h.tab, .refl, fun b hb => .inl hb⟩
def sp_law (Pt : Addr) (K : PySem.W.Frag) : Sp := fun vs H Q _ => ∃ (a : Addr) (ns : List Int), vs = [.ref a] ∧ SqL K H a (ns.map V.int) ∧ ns.length ≤ 63 ∧ TabOk H Pt gP qF ∧ ∀ H', Q (.bl true) H'
section
variable {P : Program} {w : World} {K : PySem.W.Frag} {mg : Str → Option Value} {base : Heap} {C C2 Pt : Addr}
set_option maxHeartbeats 8000000 in
theorem law_fn {f : Addr} {fd : FuncData} (F : Fun K "law" "law" s_law f fd) (hb : Blt mg) (hsum : mg "sum" = none) (T_Book : ClsD K mg "Book" C at_Book) (T_Near : ClsD K mg "Near" C2 at_Near) (I_Book : OwnI P w K mg base 1 C ["self"] (sp_binit C)) (I_Near : OwnI P w K mg base 1 C2 ["self", "keep"] (sp_ninit C2))
    (F__law_draw : Own P w K mg base 1 "_law_draw" ["_law_cell"] sp_draw) (F__law_next : Own P w K mg base 1 "_law_next" ["_law_draw_here", "_law_size"] sp_next) (F__law_step : Own P w K mg base 5 "_law_step" ["_law_hall", "_law_draw_here", "_law_now"] (sp_step C C2 Pt)) (F__law_found : Own P w K mg base 4 "_law_found" ["_law_hall", "_law_draw_here", "_law_now"] (sp_found C C2 Pt)) : FnOk P w K mg base CX0 6 f fd ["_law_script"] (sp_law Pt K) := by
  refine F.ok sc_law (fun vs H Q E h => ?_) (fun cdv A outer s H vs Q E hr h => ?_)
  · obtain ⟨a, ns, rfl, _⟩ := h
    rfl
  · obtain ⟨sc, ns, rfl, hS, h63, hT, q⟩ := h
    have hu := hr.units
    have hu1 : (A.deeper (PyProof.Rows.envOfC "law" (defScope s_law) s.heap.objs.size f cdv)).units + 1 < cLine := by omega
    refine ⟨_, (@pss_cons _ _ _ _ _ (@ps_set _ _ 1 _ _ _ _ sc_law.nd rfl (by first | exact Or.inl rfl | exact Or.inr rfl) (@pe_callB _ _ _ _ _ _ _ _ _ (call_sumX rfl) rfl hsum bt_sum (@pa_cX _ _ _ _ _ (@pe_slice _ _ _ _ _ _ _ _ _ _ (sl_listK K) (@pv _ 0 _ _ (by rfl) (by first | exact Or.inl rfl | exact Or.inr (Or.inl rfl) | exact Or.inr (Or.inr rfl)) (by decide) (by decide)) (@po_none _) (@po_some _ _ _ (@pe_int _ _ _ _))) (@pa_nil _) (by rfl)) (by decide) (by decide) (by rfl) (by rfl)) (by rfl) (by first | exact .inl rfl | exact .inr rfl | assumption)) (@pss_cons _ _ _ _ _ (@ps_set _ _ 2 _ _ _ _ sc_law.nd rfl (by first | exact Or.inl rfl | exact Or.inr rfl) (@pe_fn _ _ _ _ _ _ _ _ _ _ _ F__law_draw hr (@pa_cX _ _ _ _ _ (@pv _ 1 _ _ (by rfl) (by first | exact Or.inl rfl | exact Or.inr (Or.inl rfl) | exact Or.inr (Or.inr rfl)) (by decide) (by decide)) (@pa_nil _) (by rfl)) (by decide) (by rfl) (by decide) (by rfl) (by rfl)) (by rfl) (by first | exact .inl rfl | exact .inr rfl | assumption)) (@pss_cons _ _ _ _ _ (@ps_setC _ _ _ _ _ _ _ _ _ _ _ 3 _ _ _ ["_law_k"] ["_law_draw_here"] [2] rfl sc_law.nd rfl (by first | exact Or.inl rfl | exact Or.inr rfl) _ cs_law_0 (@pi_range1 _ _ _ _ _ _ rfl (hb _ (by decide)) (@pa_cX _ _ _ _ _ (@pe_op _ _ _ _ _ _ _ _ op_add (@pe_int _ _ _ _) (@pe_fn _ _ _ _ _ _ _ _ _ _ _ F__law_next hr (@pa_cX _ _ _ _ _ (@pv _ 2 _ _ (by rfl) (by first | exact Or.inl rfl | exact Or.inr (Or.inl rfl) | exact Or.inr (Or.inr rfl)) (by decide) (by decide)) (@pa_cX _ _ _ _ _ (@pe_int _ _ _ _) (@pa_nil _) (by rfl)) (by rfl)) (by decide) (by rfl) (by decide) (by rfl) (by rfl))) (@pa_nil _) (by rfl)) (by rfl)) (fun _ _ _ _ => (@pg_name _ _ 0 _ cs_law_0.nd rfl (by first | exact Or.inl rfl | exact Or.inr rfl) (by first | exact .inl rfl | exact .inr rfl | assumption))) (fun _ _ _ _ => (@pf_nil _)) (fun _ _ _ _ => (@pe_fn _ _ _ _ _ _ _ _ _ _ _ F__law_next hr (@pa_cX _ _ _ _ _ (@pv _ 1 _ _ (by rfl) (by first | exact Or.inl rfl | exact Or.inr (Or.inl rfl) | exact Or.inr (Or.inr rfl)) (by decide) (by decide)) (@pa_cX _ _ _ _ _ (@pe_int _ _ _ _) (@pa_nil _) (by rfl)) (by rfl)) (by decide) (by rfl) (by decide) (by rfl) (by rfl))) rfl (by rfl) (by rfl) (by rfl) (by first | exact .inl rfl | exact .inr rfl | assumption) (by intro _; rfl)) (@pss_cons _ _ _ _ _ (@ps_set _ _ 4 _ _ _ _ sc_law.nd rfl (by first | exact Or.inl rfl | exact Or.inr rfl) (@pe_disp _ _ _ _ _ (@pps_cons _ _ _ _ _ _ _ _ _ (@pe_str _ _ _ _) (@pe_mak0 _ _ _ _ _ _ _ _ _ I_Book hr T_Book.mgC (by decide) (by rfl) (by decide)) (@pps_cons _ _ _ _ _ _ _ _ _ (@pe_str _ _ _ _) (@pe_comp _ _ _ _ _ _ _ _ _ _ _ ["_law_keep"] [] [] rfl _ cs_law_1 (@pi_listK _ K _ _ _ (@pv _ 3 _ _ (by rfl) (by first | exact Or.inl rfl | exact Or.inr (Or.inl rfl) | exact Or.inr (Or.inr rfl)) (by decide) (by decide)) (by rfl)) (fun _ _ _ _ => (@pg_name _ _ 0 _ cs_law_1.nd rfl (by first | exact Or.inl rfl | exact Or.inr rfl) (by first | exact .inl rfl | exact .inr rfl | assumption))) (fun _ _ _ _ => (@pf_nil _)) (fun _ _ _ _ => (@pe_mak _ _ _ _ _ _ _ _ _ _ _ _ I_Near hr T_Near.mgC (@pa_cX _ _ _ _ _ (@pv _ 0 _ _ (by rfl) (by first | exact Or.inl rfl | exact Or.inr (Or.inl rfl) | exact Or.inr (Or.inr rfl)) (by decide) (by decide)) (@pa_nil _) (by rfl)) (by decide) (by rfl) (by decide) (by rfl) (by rfl))) (by rfl) (by rfl) (by rfl) (by intro _; rfl)) (@pps_cons _ _ _ _ _ _ _ _ _ (@pe_str _ _ _ _) (@pv _ 3 _ _ (by rfl) (by first | exact Or.inl rfl | exact Or.inr (Or.inl rfl) | exact Or.inr (Or.inr rfl)) (by decide) (by decide)) (@pps_nil _ _)))) rfl rfl (by intro z; cases z) (by decide)) (by rfl) (by first | exact .inl rfl | exact .inr rfl | assumption)) (@pss_cons _ _ _ _ _ (@ps_expr _ _ _ _ (@pe_dup _ _ _ _ _ _ _ (@pv _ 4 _ _ (by rfl) (by first | exact Or.inl rfl | exact Or.inr (Or.inl rfl) | exact Or.inr (Or.inr rfl)) (by decide) (by decide)) (@pe_disp _ _ _ _ _ (@pps_cons _ _ _ _ _ _ _ _ _ (@pe_str _ _ _ _) (@pe_lst _ _ _ _ (@pa_nil _)) (@pps_cons _ _ _ _ _ _ _ _ _ (@pe_str _ _ _ _) (@pe_lst _ _ _ _ (@pa_nil _)) (@pps_cons _ _ _ _ _ _ _ _ _ (@pe_str _ _ _ _) (@pe_lst _ _ _ _ (@pa_nil _)) (@pps_cons _ _ _ _ _ _ _ _ _ (@pe_str _ _ _ _) (@pe_lst _ _ _ _ (@pa_nil _)) (@pps_nil _ _))))) rfl rfl (by intro z; cases z) (by decide)) (by constructor <;> rfl)) (by rfl)) (@pss_cons _ _ _ _ _ (@ps_set _ _ 5 _ _ _ _ sc_law.nd rfl (by first | exact Or.inl rfl | exact Or.inr rfl) (@pe_int _ _ _ _) (by rfl) (by first | exact .inl rfl | exact .inr rfl | assumption)) (@pss_cons _ _ _ _ _ (@ps_set _ _ 6 _ _ _ _ sc_law.nd rfl (by first | exact Or.inl rfl | exact Or.inr rfl) (@pe_int _ _ _ _) (by rfl) (by first | exact .inl rfl | exact .inr rfl | assumption)) (@pss_cons _ _ _ _ _ (@ps_for _ _ _ _ _ _ _ _ PassesOwn.never rfl (@pi_listK _ K _ _ _ (@pe_slice _ _ _ _ _ _ _ _ _ _ (sl_listK K) (@pv _ 0 _ _ (by rfl) (by first | exact Or.inl rfl | exact Or.inr (Or.inl rfl) | exact Or.inr (Or.inr rfl)) (by decide) (by decide)) (@po_some _ _ _ (@pe_int _ _ _ _)) (@po_none _)) (by rfl)) (@pg_name _ _ 7 _ sc_law.nd rfl (by first | exact Or.inl rfl | exact Or.inr rfl) (by first | exact .inl rfl | exact .inr rfl | assumption)) (@pss_cons _ _ _ _ _ (@ps_set _ _ 2 _ _ _ _ sc_law.nd rfl (by first | exact Or.inl rfl | exact Or.inr rfl) (@pe_fn _ _ _ _ _ _ _ _ _ _ _ F__law_draw hr (@pa_cX _ _ _ _ _ (@pv _ 7 _ _ (by rfl) (by first | exact Or.inl rfl | exact Or.inr (Or.inl rfl) | exact Or.inr (Or.inr rfl)) (by decide) (by decide)) (@pa_nil _) (by rfl)) (by decide) (by rfl) (by decide) (by rfl) (by rfl)) (by rfl) (by first | exact .inl rfl | exact .inr rfl | assumption)) (@pss_one _ _ _ (@ps_for _ _ _ _ _ _ _ _ PassesOwn.never rfl (@pi_range1 _ _ _ _ _ _ rfl (hb _ (by decide)) (@pa_cX _ _ _ _ _ (@pe_int _ _ _ _) (@pa_nil _) (by rfl)) (by rfl)) (@pg_name _ _ 8 _ sc_law.nd rfl (by first | exact Or.inl rfl | exact Or.inr rfl) (by first | exact .inl rfl | exact .inr rfl | assumption)) (@pss_one _ _ _ (@ps_if _ _ _ _ _ _ _ _ (@PW.pt _ _ _ (@pw_and _ _ _ _ _ _ _ (@pt_cmpR _ _ _ _ _ _ _ _ op_lt (@pv _ 6 _ _ (by rfl) (by first | exact Or.inl rfl | exact Or.inr (Or.inl rfl) | exact Or.inr (Or.inr rfl)) (by decide) (by decide)) (@pe_int _ _ _ _) (nomark _)) (@pw_and1 _ _ _ _ (@PW.pt _ _ _ (@pw_or _ _ _ _ _ _ _ (@pt_cmpR _ _ _ _ _ _ _ _ op_lt (@pv _ 8 _ _ (by rfl) (by first | exact Or.inl rfl | exact Or.inr (Or.inl rfl) | exact Or.inr (Or.inr rfl)) (by decide) (by decide)) (@pe_int _ _ _ _) (nomark _)) (@pw_or1 _ _ _ _ (@pt_cmpR _ _ _ _ _ _ _ _ op_gt (@pe_ix _ _ _ _ _ _ _ (ix_get hu1) (@pv _ 2 _ _ (by rfl) (by first | exact Or.inl rfl | exact Or.inr (Or.inl rfl) | exact Or.inr (Or.inr rfl)) (by decide) (by decide)) (@pe_int _ _ _ _) (fun _ _ => rfl)) (@pe_int _ _ _ _) (nomark _)))))))) (@pss_cons _ _ _ _ _ (@ps_set _ _ 6 _ _ _ _ sc_law.nd rfl (by first | exact Or.inl rfl | exact Or.inr rfl) (@pe_op _ _ _ _ _ _ _ _ op_add (@pv _ 6 _ _ (by rfl) (by first | exact Or.inl rfl | exact Or.inr (Or.inl rfl) | exact Or.inr (Or.inr rfl)) (by decide) (by decide)) (@pe_int _ _ _ _)) (by rfl) (by first | exact .inl rfl | exact .inr rfl | assumption)) (@pss_cons _ _ _ _ _ (@ps_set _ _ 5 _ _ _ _ sc_law.nd rfl (by first | exact Or.inl rfl | exact Or.inr rfl) (@pe_op _ _ _ _ _ _ _ _ op_add (@pv _ 5 _ _ (by rfl) (by first | exact Or.inl rfl | exact Or.inr (Or.inl rfl) | exact Or.inr (Or.inr rfl)) (by decide) (by decide)) (@pe_op _ _ _ _ _ _ _ _ op_fdiv (@pe_fn _ _ _ _ _ _ _ _ _ _ _ F__law_next hr (@pa_cX _ _ _ _ _ (@pv _ 2 _ _ (by rfl) (by first | exact Or.inl rfl | exact Or.inr (Or.inl rfl) | exact Or.inr (Or.inr rfl)) (by decide) (by decide)) (@pa_cX _ _ _ _ _ (@pe_int _ _ _ _) (@pa_nil _) (by rfl)) (by rfl)) (by decide) (by rfl) (by decide) (by rfl) (by rfl)) (@pe_int _ _ _ _))) (by rfl) (by first | exact .inl rfl | exact .inr rfl | assumption)) (@pss_one _ _ _ (@ps_if _ _ _ _ _ _ _ _ (@pt_not _ _ _ _ (@pt_truX _ _ _ (@pe_fn _ _ _ _ _ _ _ _ _ _ _ F__law_step hr (@pa_cX _ _ _ _ _ (@pv _ 4 _ _ (by rfl) (by first | exact Or.inl rfl | exact Or.inr (Or.inl rfl) | exact Or.inr (Or.inr rfl)) (by decide) (by decide)) (@pa_cX _ _ _ _ _ (@pv _ 2 _ _ (by rfl) (by first | exact Or.inl rfl | exact Or.inr (Or.inl rfl) | exact Or.inr (Or.inr rfl)) (by decide) (by decide)) (@pa_cX _ _ _ _ _ (@pv _ 5 _ _ (by rfl) (by first | exact Or.inl rfl | exact Or.inr (Or.inl rfl) | exact Or.inr (Or.inr rfl)) (by decide) (by decide)) (@pa_nil _) (by rfl)) (by rfl)) (by rfl)) (by decide) (by rfl) (by decide) (by rfl) (by rfl)) (by intro _; rfl))) (@pss_one _ _ _ (@ps_ret _ _ _ _ (@pe_bl _ _ _ _))) (@pss_nil _))))) (@pss_nil _))) (by intro _; rfl)))) (by intro _; rfl)) (@pss_one _ _ _ (@ps_ret _ _ _ _ (@pe_fn _ _ _ _ _ _ _ _ _ _ _ F__law_found hr (@pa_cX _ _ _ _ _ (@pv _ 4 _ _ (by rfl) (by first | exact Or.inl rfl | exact Or.inr (Or.inl rfl) | exact Or.inr (Or.inr rfl)) (by decide) (by decide)) (@pa_cX _ _ _ _ _ (@pe_fn _ _ _ _ _ _ _ _ _ _ _ F__law_draw hr (@pa_cX _ _ _ _ _ (@pe_op _ _ _ _ _ _ _ _ op_fdiv (@pv _ 1 _ _ (by rfl) (by first | exact Or.inl rfl | exact Or.inr (Or.inl rfl) | exact Or.inr (Or.inr rfl)) (by decide) (by decide)) (@pe_int _ _ _ _)) (@pa_nil _) (by rfl)) (by decide) (by rfl) (by decide) (by rfl) (by rfl)) (@pa_cX _ _ _ _ _ (@pv _ 5 _ _ (by rfl) (by first | exact Or.inl rfl | exact Or.inr (Or.inl rfl) | exact Or.inr (Or.inr rfl)) (by decide) (by decide)) (@pa_nil _) (by rfl)) (by rfl)) (by rfl)) (by decide) (by rfl) (by decide) (by rfl) (by rfl)))))))))))), ?_⟩
    refine cut3 (fun σ H' => ∃ (first : Int) (p pk : Addr) (kps : List Int), σ = [some (.ref sc), some (.int first), some (.ref p), some (.ref pk), none, none, none, none, none] ∧ H' pk = some (.lst (kps.map V.int)) ∧ (∀ k ∈ kps, 0 ≤ k) ∧ 0 < kps.length ∧ kps.length ≤ 10 ∧ Same H H') ?_ (fun X hX => ?_)
    rotate_left
    · obtain ⟨c1, hc1⟩ := cutV_map ns none (some 1)
      simp (maxSteps := 1000000) only [tComp_eq, rSumX, Nat.reduceSub, upd_same, HO.lst.injEq, Nat.reduceAdd, iRng1, tSl, rSlL, tNoPart, tPart, List.cons.injEq, tSeq, exists_and_left, tOp, tVar, tC, rI0, tAsg, gName, tCall, tCons, tNil, tCB, L2.start, List.map_cons, List.map_nil, List.length_cons, List.length_nil, List.replicate, List.cons_append, List.nil_append, List.getElem?_cons_zero, List.getElem?_cons_succ, List.set_cons_zero, List.set_cons_succ, Option.some.injEq, exists_eq_left', V.int.injEq, V.ref.injEq, and_true, List.append_nil]
      refine ⟨_, hS, ?_⟩
      intro p1 n1
      generalize z1 : upd H p1 _ = H1
      obtain ⟨s1, e1⟩ := new_same z1 n1
      refine ⟨c1, hc1, _, rfl, fun p x0 y0 H2 n2 e2 s2 => ⟨p, x0, y0, 4, rfl, e2, by decide, by decide, fun r x1 y1 r0 r1 => ⟨r, rfl, by omega, by omega, ?_⟩⟩⟩
      have np : H p = none := s1.free n2
      have s3 : Same H (upd H2 p (.lst [.int x1, .int y1])) := (s1.trans s2).upd np
      have e3 : upd H2 p (.lst [.int x1, .int y1]) p = some (.lst [.int x1, .int y1]) := upd_same
      generalize upd H2 p (.lst [.int x1, .int y1]) = H3 at s3 e3 ⊢
      refine comp_range (m := (1 + r).toNat) (by rw [sizeLine_eq]; omega) (fun D i acc H' => ∃ (ks : List Int) (x y : Int), acc = ks.map V.int ∧ ks.length = i ∧ (∀ k ∈ ks, 0 ≤ k) ∧ H' D = some (.lst acc) ∧ H' p = some (.lst [.int x, .int y]) ∧ D ≠ p ∧ Same H H') (fun D hD => ⟨[], x1, y1, rfl, rfl, by simp, upd_same, (upd_ne (ne_of_none e3 hD)).trans e3, Ne.symm (ne_of_none e3 hD), s3.trans (.upd_new hD)⟩) ?_ ?_ ?_
      · rintro D i acc H4 hD hi ⟨ks, x, y, rfl, hl, _, eD, _⟩
        exact ⟨eD, by rw [List.length_map]; omega⟩
      · rintro D i acc H4 hD hi ⟨ks, x, y, rfl, hl, hk, eD, ep, hne, s4⟩
        simp (maxSteps := 1000000) only [upd_same, ne_eq, tYes, cSt, List.drop_succ_cons, List.drop_zero, exists_and_left, if_true, tVar, tC, gName, tCall, tCons, tNil, List.map_cons, List.map_nil, List.replicate, List.cons_append, List.nil_append, List.getElem?_cons_zero, List.getElem?_cons_succ, List.set_cons_zero, Option.some.injEq, exists_eq_left', true_and, List.append_nil, Option.join_some]
        refine ⟨p, x, y, 24, rfl, ep, by decide, by decide, fun r2 x2 y2 r20 r21 => ⟨(upd_ne hne).trans eD, ks ++ [r2], by rw [List.map_append]; rfl, by rw [List.length_append, hl]; rfl, fun k hk' => ?_, x2, y2, (upd_ne (Ne.symm hne)).trans upd_same, hne, (s4.upd np).upd (s3.free hD)⟩⟩
        rcases List.mem_append.mp hk' with m | m
        · exact hk k m
        · rw [List.mem_singleton] at m
          omega
      · rintro D acc H4 hD ⟨ks, x, y, rfl, hl, hk, eD, ep, hne, s4⟩
        exact hX _ _ ⟨_, p, D, ks, rfl, eD, hk, by omega, by omega, s4⟩
    rintro σ H1 ⟨first, p0, pk, kps, rfl, epk, k0, kn0, kn10, s1⟩
    refine cut4 (fun σ H' => ∃ (a : Ha), σ = [some (.ref sc), some (.int first), some (.ref p0), some (.ref pk), some (.ref a.ph), some (.int 0), some (.int 0), none, none] ∧ HallAt C C2 0 H' a ⟨[], [], [], []⟩ ⟨none, fun _ => []⟩ ∧ DJ a ∧ 0 < a.nv.length ∧ a.nv.length ≤ 10 ∧ Same H1 H') ?_ (fun X hX => ?_)
    rotate_left
    · simp (maxSteps := 1000000) only [tComp_eq, Nat.reduceAdd, ne_eq, tMake, tDisp, tPairs, iList, tSeq, tVar, tC, tAsg, gName, tNil, tDrop, List.length_cons, List.length_nil, List.getElem?_cons_zero, List.getElem?_cons_succ, List.set_cons_zero, List.set_cons_succ, Option.some.injEq, exists_eq_left', V.ref.injEq, List.append_nil]
      intro p2 n2
      generalize z2 : upd H1 p2 _ = H2
      obtain ⟨s2, e2⟩ := new_same z2 n2
      intro x dx hx hdx hdne
      refine ⟨x, dx, rfl, upd_same, fun bk H3 hbx hbi hbp hB k3 => ⟨rfl, ?_⟩⟩
      have s3 : Same H2 H3 := make_same hx hdx k3
      have epk3 := s3 _ _ (s2 _ _ epk)
      refine ⟨⟨_, SqL.of epk3⟩, comp_list (xs := kps.map V.int) (by rw [sizeLine_eq, List.length_map]; omega) (fun D i acc H' => ∃ nv : List (Addr × Addr × Addr), acc = nv.map (fun y => V.ref y.1) ∧ nv.length = i ∧ (∀ (j : Nat) (y : Addr × Addr × Addr) (kp : Int), nv[j]? = some y → kps[j]? = some kp → NearAt C2 H' y.1 y.2.1 y.2.2 kp [] (fun _ => none)) ∧ (nv.map (·.2.2)).Nodup ∧ (∀ y ∈ nv, H3 y.1 = none ∧ H3 y.2.2 = none) ∧ H' D = some (.lst acc) ∧ Same H3 H') (fun D hD => ⟨[], rfl, rfl, fun j y kp e => (by simp at e), by simp, by simp, upd_same, .upd_new hD⟩) ?_ ?_ ?_⟩
      · rintro D i acc H4 hD hi ⟨nv, rfl, hl, _, _, _, eD, s4⟩
        exact ⟨eD, SqL.of (s4 _ _ epk3), by rw [List.length_map]; omega⟩
      · rintro D i v acc H4 hD hv ⟨nv, rfl, hl, hN, hnd, hfr, eD, s4⟩
        rw [List.getElem?_map] at hv
        obtain ⟨kp, hkp, rfl⟩ := Option.map_eq_some_iff.mp hv
        simp (maxSteps := 1000000) only [upd_same, ne_eq, tMake, tYes, cSt, List.drop_succ_cons, List.drop_zero, if_true, tVar, gName, tCons, tNil, List.map_nil, List.replicate, List.getElem?_cons_zero, List.set_cons_zero, Option.some.injEq, exists_eq_left', true_and, List.append_nil]
        intro y dy hy hdy hyne
        refine ⟨y, dy, kp, rfl, upd_same, fun pg H5 hpg O5 k5 => ⟨rfl, ?_⟩⟩
        have s5 : Same H4 H5 := make_same hy hdy k5
        have hpg4 := (upd_none (upd_none hpg).2).2
        have eD5 := s5 _ _ eD
        have k6 : Keep [D] H5 (upd H5 D (.lst (nv.map (fun y => V.ref y.1) ++ [V.ref y]))) := Keep.refl.upd (.inl (.head _))
        have nT6 := noT1 (NoT.of_lst eD5)
        refine ⟨eD5, nv ++ [(y, dy, pg)], by rw [List.map_append]; rfl, by rw [List.length_append, hl]; rfl, fun j z kq hz hq => ?_, ?_, fun z hz => ?_, (s4.trans s5).upd hD⟩
        · by_cases c : j < nv.length
          · rw [List.getElem?_append_left c] at hz
            have O := (hN j z kq hz hq).same s5
            exact O.keep k6 nT6 (by rw [List.mem_singleton]; exact ne_of O.ins eD5 (by intro z; cases z)) (by rw [List.mem_singleton]; exact ne_of O.dic eD5 (by intro z; cases z))
          · rw [List.getElem?_append_right (by omega)] at hz
            have ej : j - nv.length = 0 := by
              have := (List.getElem?_eq_some_iff.mp hz).1
              simp at this
              omega
            rw [ej] at hz
            have ez : z = (y, dy, pg) := by simpa using hz.symm
            have eji : j = i := by omega
            subst ez
            rw [eji, hkp] at hq
            cases hq
            exact O5.keep k6 nT6 (by rw [List.mem_singleton]; exact ne_of O5.ins eD5 (by intro z; cases z)) (by rw [List.mem_singleton]; exact ne_of O5.dic eD5 (by intro z; cases z))
        · rw [List.map_append, List.nodup_append]
          refine ⟨hnd, by simp, fun g hg b hb => ?_⟩
          rw [List.map_cons, List.map_nil, List.mem_singleton] at hb
          obtain ⟨z, hz, rfl⟩ := List.mem_map.mp hg
          obtain ⟨j, hj⟩ := List.mem_iff_getElem?.mp hz
          have hjl := (List.getElem?_eq_some_iff.mp hj).1
          have hjk : j < kps.length := by
            have := (List.getElem?_eq_some_iff.mp hkp).1
            omega
          have O := hN j z _ hj (List.getElem?_eq_getElem hjk)
          rw [hb]
          exact ne_of_none O.dic hpg4
        · rcases List.mem_append.mp hz with m | m
          · exact hfr z m
          · rw [List.mem_singleton] at m
            subst m
            exact ⟨s4.free hy, s4.free hpg4⟩
      · rintro D acc H4 hD ⟨nv, rfl, hl, hN, hnd, hfr, eD, s4⟩
        rw [List.length_map] at hl
        have e24 := s4 _ _ (s3 _ _ e2)
        refine ⟨e24, [(Sum.inr (Str.ofString "book"), .ref x), (Sum.inr (Str.ofString "near"), .ref D), (Sum.inr (Str.ofString "keep"), .ref pk)], rfl, by simp, ?_⟩
        have em : mergeK [] [(Sum.inr (Str.ofString "book"), V.ref x), (Sum.inr (Str.ofString "near"), V.ref D), (Sum.inr (Str.ofString "keep"), V.ref pk)] = [(Sum.inr (Str.ofString "book"), V.ref x), (Sum.inr (Str.ofString "near"), V.ref D), (Sum.inr (Str.ofString "keep"), V.ref pk)] := rfl
        rw [em]
        have n1p : H1 p2 = none := n2
        have k5 : Keep [p2] H4 (upd H4 p2 (.dK [(Sum.inr (Str.ofString "book"), V.ref x), (Sum.inr (Str.ofString "near"), V.ref D), (Sum.inr (Str.ofString "keep"), V.ref pk)])) := Keep.refl.upd (.inl (.head _))
        have e5 : upd H4 p2 (.dK [(Sum.inr (Str.ofString "book"), V.ref x), (Sum.inr (Str.ofString "near"), V.ref D), (Sum.inr (Str.ofString "keep"), V.ref pk)]) p2 = some (.dK [(Sum.inr (Str.ofString "book"), V.ref x), (Sum.inr (Str.ofString "near"), V.ref D), (Sum.inr (Str.ofString "keep"), V.ref pk)]) := upd_same
        simp (maxSteps := 1000000) only [upd_same, HO.dK.injEq, ne_eq, tDisp, tPairs, exists_and_left, tVar, tC, tNil, tLst, List.length_nil, List.getElem?_cons_zero, List.getElem?_cons_succ, Option.some.injEq, exists_eq_left', V.ref.injEq, tDUp]
        generalize upd H4 p2 (.dK [(Sum.inr (Str.ofString "book"), V.ref x), (Sum.inr (Str.ofString "near"), V.ref D), (Sum.inr (Str.ofString "keep"), V.ref pk)]) = H5 at k5 e5 ⊢
        intro p6 n6
        generalize z6 : upd H5 p6 _ = H6
        obtain ⟨s6, e6⟩ := new_same z6 n6
        refine ⟨Nat.zero_le _, ?_⟩
        intro p7 n7
        generalize z7 : upd H6 p7 _ = H7
        obtain ⟨s7, e7⟩ := new_same z7 n7
        refine ⟨Nat.zero_le _, ?_⟩
        intro p8 n8
        generalize z8 : upd H7 p8 _ = H8
        obtain ⟨s8, e8⟩ := new_same z8 n8
        refine ⟨Nat.zero_le _, ?_⟩
        intro p9 n9
        generalize z9 : upd H8 p9 _ = H9
        obtain ⟨s9, e9⟩ := new_same z9 n9
        refine ⟨Nat.zero_le _, ?_⟩
        intro p10 n10
        generalize z10 : upd H9 p10 _ = H10
        obtain ⟨s10, e10⟩ := new_same z10 n10
        have s610 := ((s7.trans s8).trans s9).trans s10
        have e610 := s610 _ _ e6
        refine ⟨e610, [(Sum.inr (Str.ofString "rows"), .ref p7), (Sum.inr (Str.ofString "asked"), .ref p8), (Sum.inr (Str.ofString "told"), .ref p9), (Sum.inr (Str.ofString "came"), .ref p10)], rfl, by simp, ?_⟩
        subst hbx
        have em2 : mergeK [] [(Sum.inr (Str.ofString "rows"), V.ref p7), (Sum.inr (Str.ofString "asked"), V.ref p8), (Sum.inr (Str.ofString "told"), V.ref p9), (Sum.inr (Str.ofString "came"), V.ref p10)] = [(Sum.inr (Str.ofString "rows"), V.ref p7), (Sum.inr (Str.ofString "asked"), V.ref p8), (Sum.inr (Str.ofString "told"), V.ref p9), (Sum.inr (Str.ofString "came"), V.ref p10)] := rfl
        rw [em2]
        have p26 : p2 ≠ p6 := ne_of_none e5 n6
        have s510 := s6.trans s610
        refine ⟨_, (upd_ne p26).trans (s510 _ _ e5), p26, by rw [sizeLine_eq]; simp, ?_⟩
        generalize z12 : upd (upd H10 p6 _) p2 _ = H12
        have G5 : ∀ b o, H5 b = some o → b ≠ p2 → H12 b = some o := fun b o e h => by
          rw [← z12, upd_ne h, upd_ne (ne_of_none e n6)]
          exact s510 _ _ e
        have K4 : Keep [p2] H4 H12 := fun b o e h => G5 b o (k5 _ _ e h) (fun z => h (by rw [z]; exact .head _))
        have nT4 : ∀ b ∈ [p2], NoT H4 b := noT1 (.of_dK e24)
        have pd2 : H2 bk.pd = none := (upd_none (upd_none hbp).2).2
        have L6 : ∀ b o, H10 b = some o → b ≠ p6 → b ≠ p2 → H12 b = some o := fun b o e h1 h2 => by
          rw [← z12, upd_ne h2, upd_ne h1]
          exact e
        have eD4 := eD
        have epk4 := s4 _ _ epk3
        have nD2 : D ≠ p2 := ne_of eD4 e24 (by intro z; cases z)
        have nK2 : pk ≠ p2 := ne_of epk4 e24 (by intro z; cases z)
        have e25 := e5
        have eD5 := k5 _ _ eD4 (by rw [List.mem_singleton]; exact nD2)
        have eK5 := k5 _ _ epk4 (by rw [List.mem_singleton]; exact nK2)
        have hBk := hB.same s4
        have hBp : bk.pd ≠ p2 := Ne.symm (ne_of_none e2 pd2)
        refine hX _ _ ⟨⟨p2, D, pk, p7, p8, p9, p10, bk, nv, kps⟩, rfl, ⟨?_, K4 _ _ eD4 (by rw [List.mem_singleton]; exact nD2), K4 _ _ epk4 (by rw [List.mem_singleton]; exact nK2), hl.symm, k0, fun i y kp hy hk => ?_, hBk.keep K4 nT4 (by rw [List.mem_singleton]; exact ne_of hBk.inst e24 (by intro z; cases z)) (by rw [List.mem_singleton]; exact hBp) (fun q hq => by rw [hbi] at hq; cases hq), fun z => rfl, ⟨[], ?_, .nil⟩, ⟨[], ?_, .nil⟩, ⟨[], ?_, .nil⟩, ⟨[], ?_, .nil⟩, by simp⟩, ⟨?_, (fun q hq => by rw [show bk.ins = [] from hbi] at hq; cases hq), hBp, fun y hy => ⟨Ne.symm (ne_of_none (s3 _ _ e2) (hfr y hy).2), Ne.symm (ne_of_none hB.hd (hfr y hy).2)⟩, fun y hy => Ne.symm (ne_of_none hB.inst (hfr y hy).1), hnd⟩, by rw [hl]; exact kn0, by rw [hl]; exact kn10, fun b o e => K4 _ _ (s4 _ _ (s3 _ _ (s2 _ _ e))) (by rw [List.mem_singleton]; exact ne_of_none e n2)⟩
        · rw [← z12]
          exact upd_same
        · have O := hN i y kp hy hk
          exact ⟨[], O.keep K4 nT4 (by rw [List.mem_singleton]; exact ne_of O.ins e24 (by intro z; cases z)) (by rw [List.mem_singleton]; exact Ne.symm (ne_of_none (s3 _ _ e2) (hfr y (List.mem_of_getElem? hy)).2)), Nat.zero_le _⟩
        · exact L6 _ _ (((s8.trans s9).trans s10) _ _ e7) (Ne.symm (ne_of_none e6 n7)) (Ne.symm (ne_of_none (s6 _ _ e5) n7))
        · exact L6 _ _ ((s9.trans s10) _ _ e8) (Ne.symm (ne_of_none (s7 _ _ e6) n8)) (Ne.symm (ne_of_none ((s6.trans s7) _ _ e5) n8))
        · exact L6 _ _ (s10 _ _ e9) (Ne.symm (ne_of_none ((s7.trans s8) _ _ e6) n9)) (Ne.symm (ne_of_none (((s6.trans s7).trans s8) _ _ e5) n9))
        · exact L6 _ _ e10 (Ne.symm (ne_of_none (((s7.trans s8).trans s9) _ _ e6) n10)) (Ne.symm (ne_of_none ((((s6.trans s7).trans s8).trans s9) _ _ e5) n10))
        · have s56 := s6
          have s57 := s56.trans s7
          have s58 := s57.trans s8
          have s59 := s58.trans s9
          simp only [List.nodup_cons, List.mem_cons, List.not_mem_nil, or_false, not_or, not_false_eq_true, List.nodup_nil, and_true]
          refine ⟨⟨Ne.symm (ne_of_none epk3 hD), ne_of_none (s56 _ _ eD5) n7, ne_of_none (s57 _ _ eD5) n8, ne_of_none (s58 _ _ eD5) n9, ne_of_none (s59 _ _ eD5) n10⟩, ⟨ne_of_none (s56 _ _ eK5) n7, ne_of_none (s57 _ _ eK5) n8, ne_of_none (s58 _ _ eK5) n9, ne_of_none (s59 _ _ eK5) n10⟩, ⟨ne_of_none e7 n8, ne_of_none (s8 _ _ e7) n9, ne_of_none ((s8.trans s9) _ _ e7) n10⟩, ⟨ne_of_none e8 n9, ne_of_none (s9 _ _ e8) n10⟩, ne_of_none e9 n10⟩
    rintro σ H2 ⟨a, rfl, hH2, dj2, n0, n10, s2⟩
    have s12 := s1.trans s2
    have hT2 := hT.same s12
    obtain ⟨tb, et2⟩ := tab_at hT2
    have nP2 : Pt ∉ hadr a := fun m => by
      obtain ⟨o, e, h⟩ := hH2.kinds _ m
      rw [et2] at e
      exact h _ (Option.some.inj e).symm
    refine cut1 (fun σ H' => ∃ (a' : Ha) (s' : Sm) (st' : BkS) (now : Int) (k : Nat) (pc : Addr) (cells : List V) (v2 v7 v8 : Option V), σ = [some (.ref sc), some (.int first), v2, some (.ref pk), some (.ref a.ph), some (.int now), some (.int (k : Int)), v7, v8] ∧ Lw C C2 Pt a.ph pc cells now k H' a' s' st') ?_ (fun X hX => ?_)
    rotate_left
    · obtain ⟨cs1, hcs⟩ := cutV_map ns (some 1) none
      have lcs : cs1.length ≤ 63 := by
        have := cutV_length (ns.map V.int) (some 1) none
        rw [hcs, List.length_map, List.length_map] at this
        omega
      simp (maxSteps := 1000000) only [tFor_eq, iList, tSl, rSlL, tNoPart, tPart, tSeq, exists_and_left, tVar, tC, List.getElem?_cons_zero, Option.some.injEq, exists_eq_left', V.int.injEq, V.ref.injEq]
      refine ⟨_, s12.seq hS, ?_⟩
      rw [hcs]
      intro p3 n3
      generalize z3 : upd H2 p3 _ = H3
      obtain ⟨s3, e3⟩ := new_same z3 n3
      have npc : p3 ∉ hadr a := fun m => by
        obtain ⟨o, e, _⟩ := hH2.kinds _ m
        rw [e] at n3
        cases n3
      have hL0 : Lw C C2 Pt a.ph p3 (cs1.map V.int) 0 0 H3 a ⟨[], [], [], []⟩ ⟨none, fun _ => []⟩ := ⟨hH2.same s3, ⟨.nil, fun r hr => (nomatch hr), fun l e => (nomatch e), fun q hq => (nomatch hq), fun q hq => (nomatch hq), fun q hq => (nomatch hq), fun i z => .nil⟩, dj2, rfl, n0, n10, nP2, hT2.same s3, npc, e3, Int.le_refl _, Int.le_refl _, Nat.zero_le _⟩
      refine ⟨⟨_, SqL.of e3⟩, for_list (xs := cs1.map V.int) (fun i σ H' => ∃ (a' : Ha) (s' : Sm) (st' : BkS) (now : Int) (k : Nat) (v2 v7 v8 : Option V), σ = [some (.ref sc), some (.int first), v2, some (.ref pk), some (.ref a.ph), some (.int now), some (.int (k : Int)), v7, v8] ∧ Lw C C2 Pt a.ph p3 (cs1.map V.int) now k H' a' s' st') ⟨a, _, _, 0, 0, _, _, _, rfl, hL0⟩ ?_ ?_ ?_⟩
      · rintro i σ H4 hi ⟨a', s', st', now, k, v2, v7, v8, rfl, hL⟩
        exact SqL.of hL.epc
      · rintro i v σ H4 hv ⟨a', s', st', now, k, v2, v7, v8, rfl, hL⟩
        rw [List.getElem?_map] at hv
        obtain ⟨cell, hcell, rfl⟩ := Option.map_eq_some_iff.mp hv
        simp (maxSteps := 1000000) only [tFor_eq, iRng1, List.cons.injEq, tSeq, tVar, tC, tAsg, gName, tCall, tCons, tNil, List.getElem?_cons_zero, List.getElem?_cons_succ, List.set_cons_zero, List.set_cons_succ, Option.some.injEq, exists_eq_left', V.int.injEq, and_true, List.append_nil]
        refine ⟨cell, rfl, fun p x0 y0 H5 n5 e5 s5 => ?_⟩
        have hL5 := hL.same s5
        have np : p ∉ hadr a' := fun m => by
          obtain ⟨o, e, _⟩ := hL.hall.kinds _ m
          rw [e] at n5
          cases n5
        have npp : p3 ≠ p := ne_of_none hL.epc n5
        simp (maxSteps := 1000000) only []
        refine ⟨by decide, by decide, for_range (n := Int.toNat 24) (fun j σ H' => ∃ (a' : Ha) (s' : Sm) (st' : BkS) (now : Int) (k : Nat) (x y : Int) (v7 v8 : Option V), σ = [some (.ref sc), some (.int first), some (.ref p), some (.ref pk), some (.ref a.ph), some (.int now), some (.int (k : Int)), v7, v8] ∧ Lw C C2 Pt a.ph p3 (cs1.map V.int) now k H' a' s' st' ∧ H' p = some (.lst [.int x, .int y]) ∧ p ∉ hadr a') ⟨a', s', st', now, k, x0, y0, _, _, rfl, hL5, e5, np⟩ ?_ ?_⟩
        · clear hL hL5 np
          rintro j σ H6 hj ⟨a1, s1', st1, now1, k1, x, y, v7, v8, rfl, hL6, e6, np6⟩
          simp (maxSteps := 1000000) only [rGet, getO_l, tTruX, atI_0, HO.lst.injEq, List.cons.injEq, tSeq, exists_and_left, if_false, if_true, Bool.false_eq_true, tIfS, tAnd, tOr, tNot, tTest, tOp, tVar, tC, rI, rI0, tRet, tAsg, gName, tNext, tCall, tCons, tNil, List.getElem?_cons_zero, List.getElem?_cons_succ, List.set_cons_zero, List.set_cons_succ, Option.some.injEq, exists_eq_left', V.int.injEq, V.bl.injEq, V.ref.injEq, and_true, true_and, and_assoc, List.append_nil, e6]
          refine ite_w (fun hc => ?_) ⟨a1, s1', st1, k1, rfl, hL6, np6⟩
          have hc' : (k1 : Int) < 200 := of_decide_eq_true hc
          refine ⟨p, x, y, 4, rfl, e6, by decide, by decide, fun r x1 y1 r0 r1 => ⟨r, rfl, ⟨by decide, by decide⟩, ?_⟩⟩
          have hw0 := hL6.w0
          have hwk := hL6.wk
          have hN7 := (hL6.now ⟨x, y, e6⟩ np6 (show now1 ≤ now1 + r / 2 by omega)).draw x1 y1
          have epc7 : upd H6 p (.lst [.int x1, .int y1]) p3 = some (.lst (cs1.map V.int)) := (upd_ne npp).trans hL6.epc
          generalize upd H6 p (.lst [.int x1, .int y1]) = H7 at hN7 epc7 ⊢
          refine ⟨a1, s1', st1, 4 * k1, _, p, by rw [hL6.ph], ⟨hN7.hall, hN7.mo, hN7.dj, rfl, rfl, hN7.ep, hN7.np, hN7.nP, hN7.tab, .refl, fun b hb => .inl hb⟩, by omega, by omega, by omega, hL6.n0, hL6.n10, fun H8 a2 s2' st2 hN8 => ⟨true, rfl, ?_⟩⟩
          simp (maxSteps := 1000000) only [Bool.not_true, if_false, Bool.false_eq_true]
          obtain ⟨x8, y8, e8⟩ := hN8.ep
          obtain ⟨tb7, et7⟩ := tab_at hN7.tab
          have n3P : p3 ≠ Pt := ne_of epc7 et7 (by intro z; cases z)
          refine ⟨a2, s2', st2, k1 + 1, by omega, ⟨hN8.hall, hN8.mo, hN8.dj, hN8.ph.trans hL6.ph, by rw [hN8.nv]; exact hL6.n0, by rw [hN8.nv]; exact hL6.n10, hN8.nP, hN8.tab, fun m => ?_, hN8.kp _ _ epc7 (fun m => ?_), by omega, by omega, by omega⟩, x8, y8, e8, hN8.np⟩
          · rcases hN8.fr _ m with m | m
            · exact hL6.npc m
            · rw [epc7] at m
              cases m
          · rcases List.mem_cons.mp m with m | m
            · exact npp m
            · rcases List.mem_cons.mp m with m | m
              · exact n3P m
              · exact hL6.npc m
        · rintro σ H6 ⟨a1, s1', st1, now1, k1, x, y, v7, v8, rfl, hL6, e6, np6⟩
          exact ⟨a1, s1', st1, now1, k1, _, _, _, rfl, hL6⟩
      · rintro σ H4 ⟨a', s', st', now, k, v2, v7, v8, rfl, hL⟩
        exact hX _ _ ⟨a', s', st', now, k, p3, _, v2, v7, v8, rfl, hL⟩
    rintro σ H3 ⟨a', s', st', now, k, pc, cells, v2, v7, v8, rfl, hL⟩
    simp (maxSteps := 1000000) only [exists_and_left, tOp, tVar, tC, rI, tRet, tCall, tCons, tNil, List.getElem?_cons_zero, List.getElem?_cons_succ, Option.some.injEq, exists_eq_left', V.int.injEq, List.append_nil]
    refine ⟨⟨by decide, by decide⟩, _, rfl, fun p x y H4 n4 e4 s4 => ?_⟩
    have hL4 := hL.same s4
    have np : p ∉ hadr a' := fun m => by
      obtain ⟨o, e, _⟩ := hL.hall.kinds _ m
      rw [e] at n4
      cases n4
    have hk2 := hL.k2
    have hwk := hL.wk
    exact ⟨a', s', st', 4 * k, now, x, y, p, by rw [hL.ph], hL4.hall, hL4.mo, by omega, hL.w0, by omega, hL.n0, hL.n10, e4, np, hL.nP, hL4.tab, fun H5 _ _ _ _ _ => q H5⟩
end
end K58
namespace K58
open PySem L2 PySem.W
section
variable {P : Program} {w : World} {K : PySem.W.Frag} {mg : Str → Option Value} {c Pt C C2 : Addr}
theorem mk_Book {h : Heap} (X : K.In h) (G : h.Ns mainGlobals mg) {C f0 f1 f2 f3 f4 : Addr} {od0 an0 od1 an1 od2 an2 od3 an3 od4 an4 : Option Addr} {sl0 sl1 sl2 sl3 sl4 : Array (Option Value)} {oc0 kV0 dc0 pm0 cd0 ct0 oc1 kV1 dc1 pm1 cd1 ct1 oc2 kV2 dc2 pm2 cd2 ct2 oc3 kV3 dc3 pm3 cd3 ct3 oc4 kV4 dc4 pm4 cd4 ct4 : Value}
    (aC : PySem.W.nsIn K mainGlobals "Book" = some (some (.ref C))) (pg : PySem.W.plainGet K C Str.empty = true) (hd : PySem.W.hasDictIn K C = true) (po : PySem.W.plainOver K C = true) (sa : PySem.W.findIn K (.ref C) "__setattr__" = some (some (.builtin "object.__setattr__")))
    (n0 : PySem.W.findIn K (.ref C) "last_told" = some none) (n1 : PySem.W.findIn K (.ref C) "deeds" = some none) (mk : PySem.W.makesIn K C = true) (kc : PySem.W.keepIn K (.ref C) = true)
    (a0 : PySem.W.findIn K (.ref C) "__init__" = some (some (.ref f0))) (i0 : PySem.W.isFn K (.ref f0) = true) (l0 : K.lookup f0 = some ⟨oc0, od0, .func (PySem.W.fnOf "__init__" "Book.__init__" (defArgs s_Book___init__) (defBody s_Book___init__) (defScope s_Book___init__) .none kV0 dc0 pm0 an0 cd0 ct0), sl0⟩) (c0 : PySem.W.codeIn K cd0 "Book.__init__" = true) (k0 : PySem.W.keepIn K (.ref f0) = true)
    (a1 : PySem.W.findIn K (.ref C) "bind" = some (some (.ref f1))) (i1 : PySem.W.isFn K (.ref f1) = true) (l1 : K.lookup f1 = some ⟨oc1, od1, .func (PySem.W.fnOf "bind" "Book.bind" (defArgs s_Book_bind) (defBody s_Book_bind) (defScope s_Book_bind) .none kV1 dc1 pm1 an1 cd1 ct1), sl1⟩) (c1 : PySem.W.codeIn K cd1 "Book.bind" = true) (k1 : PySem.W.keepIn K (.ref f1) = true)
    (a2 : PySem.W.findIn K (.ref C) "free" = some (some (.ref f2))) (i2 : PySem.W.isFn K (.ref f2) = true) (l2 : K.lookup f2 = some ⟨oc2, od2, .func (PySem.W.fnOf "free" "Book.free" (defArgs s_Book_free) (defBody s_Book_free) (defScope s_Book_free) .none kV2 dc2 pm2 an2 cd2 ct2), sl2⟩) (c2 : PySem.W.codeIn K cd2 "Book.free" = true) (k2 : PySem.W.keepIn K (.ref f2) = true)
    (a3 : PySem.W.findIn K (.ref C) "told" = some (some (.ref f3))) (i3 : PySem.W.isFn K (.ref f3) = true) (l3 : K.lookup f3 = some ⟨oc3, od3, .func (PySem.W.fnOf "told" "Book.told" (defArgs s_Book_told) (defBody s_Book_told) (defScope s_Book_told) .none kV3 dc3 pm3 an3 cd3 ct3), sl3⟩) (c3 : PySem.W.codeIn K cd3 "Book.told" = true) (k3 : PySem.W.keepIn K (.ref f3) = true)
    (a4 : PySem.W.findIn K (.ref C) "had" = some (some (.ref f4))) (i4 : PySem.W.isFn K (.ref f4) = true) (l4 : K.lookup f4 = some ⟨oc4, od4, .func (PySem.W.fnOf "had" "Book.had" (defArgs s_Book_had) (defBody s_Book_had) (defScope s_Book_had) .none kV4 dc4 pm4 an4 cd4 ct4), sl4⟩) (c4 : PySem.W.codeIn K cd4 "Book.had" = true) (k4 : PySem.W.keepIn K (.ref f4) = true)
    : ∃ C, ClsD K mg "Book" C at_Book ∧ DefI K C "Book.__init__" s_Book___init__ ∧ DefM K C "bind" "Book.bind" s_Book_bind ∧ DefM K C "free" "Book.free" s_Book_free ∧ DefM K C "told" "Book.told" s_Book_told ∧ DefM K C "had" "Book.had" s_Book_had := by
  refine ⟨C, ⟨PySem.W.mg_of X G aC, ⟨pg, hd, po, sa⟩, fun f hf => ?_⟩, defI_mk a0 i0 l0 c0 k0 mk kc, defM_mk a1 i1 l1 c1 k1, defM_mk a2 i2 l2 c2 k2, defM_mk a3 i3 l3 c3 k3, defM_mk a4 i4 l4 c4 k4⟩
  simp only [List.mem_cons, List.not_mem_nil, or_false] at hf
  rcases hf with rfl | rfl
  · exact n0
  · exact n1
theorem mk_Near {h : Heap} (X : K.In h) (G : h.Ns mainGlobals mg) {C f0 f1 f2 f3 : Addr} {od0 an0 od1 an1 od2 an2 od3 an3 : Option Addr} {sl0 sl1 sl2 sl3 : Array (Option Value)} {oc0 kV0 dc0 pm0 cd0 ct0 oc1 kV1 dc1 pm1 cd1 ct1 oc2 kV2 dc2 pm2 cd2 ct2 oc3 kV3 dc3 pm3 cd3 ct3 : Value}
    (aC : PySem.W.nsIn K mainGlobals "Near" = some (some (.ref C))) (pg : PySem.W.plainGet K C Str.empty = true) (hd : PySem.W.hasDictIn K C = true) (po : PySem.W.plainOver K C = true) (sa : PySem.W.findIn K (.ref C) "__setattr__" = some (some (.builtin "object.__setattr__")))
    (n0 : PySem.W.findIn K (.ref C) "keep" = some none) (n1 : PySem.W.findIn K (.ref C) "answers" = some none) (mk : PySem.W.makesIn K C = true) (kc : PySem.W.keepIn K (.ref C) = true)
    (a0 : PySem.W.findIn K (.ref C) "__init__" = some (some (.ref f0))) (i0 : PySem.W.isFn K (.ref f0) = true) (l0 : K.lookup f0 = some ⟨oc0, od0, .func (PySem.W.fnOf "__init__" "Near.__init__" (defArgs s_Near___init__) (defBody s_Near___init__) (defScope s_Near___init__) .none kV0 dc0 pm0 an0 cd0 ct0), sl0⟩) (c0 : PySem.W.codeIn K cd0 "Near.__init__" = true) (k0 : PySem.W.keepIn K (.ref f0) = true)
    (a1 : PySem.W.findIn K (.ref C) "put" = some (some (.ref f1))) (i1 : PySem.W.isFn K (.ref f1) = true) (l1 : K.lookup f1 = some ⟨oc1, od1, .func (PySem.W.fnOf "put" "Near.put" (defArgs s_Near_put) (defBody s_Near_put) (defScope s_Near_put) .none kV1 dc1 pm1 an1 cd1 ct1), sl1⟩) (c1 : PySem.W.codeIn K cd1 "Near.put" = true) (k1 : PySem.W.keepIn K (.ref f1) = true)
    (a2 : PySem.W.findIn K (.ref C) "is_fresh" = some (some (.ref f2))) (i2 : PySem.W.isFn K (.ref f2) = true) (l2 : K.lookup f2 = some ⟨oc2, od2, .func (PySem.W.fnOf "is_fresh" "Near.is_fresh" (defArgs s_Near_is_fresh) (defBody s_Near_is_fresh) (defScope s_Near_is_fresh) .none kV2 dc2 pm2 an2 cd2 ct2), sl2⟩) (c2 : PySem.W.codeIn K cd2 "Near.is_fresh" = true) (k2 : PySem.W.keepIn K (.ref f2) = true)
    (a3 : PySem.W.findIn K (.ref C) "find" = some (some (.ref f3))) (i3 : PySem.W.isFn K (.ref f3) = true) (l3 : K.lookup f3 = some ⟨oc3, od3, .func (PySem.W.fnOf "find" "Near.find" (defArgs s_Near_find) (defBody s_Near_find) (defScope s_Near_find) .none kV3 dc3 pm3 an3 cd3 ct3), sl3⟩) (c3 : PySem.W.codeIn K cd3 "Near.find" = true) (k3 : PySem.W.keepIn K (.ref f3) = true)
    : ∃ C, ClsD K mg "Near" C at_Near ∧ DefI K C "Near.__init__" s_Near___init__ ∧ DefM K C "put" "Near.put" s_Near_put ∧ DefM K C "is_fresh" "Near.is_fresh" s_Near_is_fresh ∧ DefM K C "find" "Near.find" s_Near_find := by
  refine ⟨C, ⟨PySem.W.mg_of X G aC, ⟨pg, hd, po, sa⟩, fun f hf => ?_⟩, defI_mk a0 i0 l0 c0 k0 mk kc, defM_mk a1 i1 l1 c1 k1, defM_mk a2 i2 l2 c2 k2, defM_mk a3 i3 l3 c3 k3⟩
  simp only [List.mem_cons, List.not_mem_nil, or_false] at hf
  rcases hf with rfl | rfl
  · exact n0
  · exact n1
theorem last {fa : Addr} (D1 : Def K mg "is_text_of" s_is_text_of) (D2 : Def K mg "refuse_below" s_refuse_below) (D3 : Def K mg "is_name" s_is_name) (E0 : DefI K C "Book.__init__" s_Book___init__) (E1 : DefM K C "bind" "Book.bind" s_Book_bind) (E2 : DefM K C "free" "Book.free" s_Book_free) (E3 : DefM K C "told" "Book.told" s_Book_told) (E4 : DefM K C "had" "Book.had" s_Book_had)
    (G0 : DefI K C2 "Near.__init__" s_Near___init__) (G1 : DefM K C2 "put" "Near.put" s_Near_put) (G2 : DefM K C2 "is_fresh" "Near.is_fresh" s_Near_is_fresh) (G3 : DefM K C2 "find" "Near.find" s_Near_find)
    (D4 : Def K mg "_law_draw" s__law_draw) (D5 : Def K mg "_law_next" s__law_next) (D6 : Def K mg "_law_any" s__law_any) (D7 : Def K mg "_law_was" s__law_was) (D8 : Def K mg "_law_found" s__law_found) (D9 : Def K mg "_law_step" s__law_step) (DE : Def K mg "law" s_law)
    (T : ClsD K mg "Book" C at_Book) (T2 : ClsD K mg "Near" C2 at_Near) (g : ∃ u, mg "MOST_LETTERS" = some u ∧ RelV (.int 8) u) (hb : Blt mg) (hsum : mg "sum" = none) (hen : mg "enumerate" = none) (ht : tabIn K "_law_found" = some (c, Pt)) (hmg : mg "law" = some (.ref fa)) :
    ∃ fd : FuncData, (∀ (s : Shared) (u : Value), BindsTo s fd ⟨[u], []⟩ [("_law_script", u)]) ∧ ∀ base : Heap, K.In base → base.Ns mainGlobals mg → CodeHd base c Pt → base.BuiltinsAt mg Pt → mainGlobals ≠ Pt → FnOk P w K mg base CX0 6 fa fd ["_law_script"] (sp_law Pt K) := by
  obtain ⟨f, fd, hm, F⟩ := DE
  have e := hmg.symm.trans hm
  cases e
  refine ⟨fd, ?_, fun base KX G hd bm ne => ?_⟩
  · obtain ⟨oc, od, kV, doc, pm, an, cdv, ct, osl, rfl, lk, hcd⟩ := F.ex
    exact fun s u => .of_eq rfl
  · have nx := own_next (P := P) (w := w) (base := base) D5
    have fo := own_found (P := P) (w := w) (base := base) D8 hb KX G ht hd bm ne T T2 nx (own_was D7 hb) (own_find G3 hb T2 (own_fresh G2 hb T2)) (own_bhad E4 hb hen T)
    have bi := own_bbind (P := P) (w := w) (base := base) (k0 := 0) E1 T (own_isn D3 g (own_text D1 hb)) (own_below D2)
    exact law_fn F hb hsum T T2 (own_binit E0 T) (own_ninit G0 T2) (own_draw D4) nx (own_step D9 hb T T2 nx (own_any D6 hb nx) fo (own_nput G1 hb T2) (own_btold E3 T) bi (own_bfree E2 T bi)) fo
end
end K58
open PySem PySem.W PyProof.Rows
set_option maxHeartbeats 0 in
theorem PySem.Challenge.cw_roadnet_k58_whole_names_however_late_holds : PySem.Challenge.rw_roadnet_k58_whole_names_however_late.Holds := by
  w_on; o_law; k_head; (case hw => w_witness2)
  k_fill
  refine L2.walk_ofT (l := PySem.Challenge.rw_roadnet_k58_whole_names_however_late) (n := 63) (k := 6) (x := "_law_script") (sp := K58.sp_law 210) (c := 212) (Pt := 210) rfl (by decide) rfl ⟨rfl, by decide, by decide⟩ (fun w h Y => ⟨km_in_of Y, km_tabs_of Y 210 (by simp)⟩) (fun p => by kernel_rfl) (fun p => by kernel_rfl) ?F (fun K H a ns hl hP hS => ⟨a, ns, rfl, hS, hl, .inl hP, fun _ => rfl⟩)
  case F =>
    intro w mg fa h KX G hmg
    have D_is_text_of : L2.Def (L2.KOf KX) mg "is_text_of" K58.s_is_text_of := by
      dsimp only [L2.KOf]
      refine' L2.def_mk KX G ?a ?l ?c ?k
      (case a => k_is); (case l => k_is); (case c => k_is); (case k => k_is)
    have D_refuse_below : L2.Def (L2.KOf KX) mg "refuse_below" K58.s_refuse_below := by
      dsimp only [L2.KOf]
      refine' L2.def_mk KX G ?a ?l ?c ?k
      (case a => k_is); (case l => k_is); (case c => k_is); (case k => k_is)
    have D_is_name : L2.Def (L2.KOf KX) mg "is_name" K58.s_is_name := by
      dsimp only [L2.KOf]
      refine' L2.def_mk KX G ?a ?l ?c ?k
      (case a => k_is); (case l => k_is); (case c => k_is); (case k => k_is)
    have D__law_draw : L2.Def (L2.KOf KX) mg "_law_draw" K58.s__law_draw := by
      dsimp only [L2.KOf]
      refine' L2.def_mk KX G ?a ?l ?c ?k
      (case a => k_is); (case l => k_is); (case c => k_is); (case k => k_is)
    have D__law_next : L2.Def (L2.KOf KX) mg "_law_next" K58.s__law_next := by
      dsimp only [L2.KOf]
      refine' L2.def_mk KX G ?a ?l ?c ?k
      (case a => k_is); (case l => k_is); (case c => k_is); (case k => k_is)
    have D__law_any : L2.Def (L2.KOf KX) mg "_law_any" K58.s__law_any := by
      dsimp only [L2.KOf]
      refine' L2.def_mk KX G ?a ?l ?c ?k
      (case a => k_is); (case l => k_is); (case c => k_is); (case k => k_is)
    have D__law_was : L2.Def (L2.KOf KX) mg "_law_was" K58.s__law_was := by
      dsimp only [L2.KOf]
      refine' L2.def_mk KX G ?a ?l ?c ?k
      (case a => k_is); (case l => k_is); (case c => k_is); (case k => k_is)
    have D__law_found : L2.Def (L2.KOf KX) mg "_law_found" K58.s__law_found := by
      dsimp only [L2.KOf]
      refine' L2.def_mk KX G ?a ?l ?c ?k
      (case a => k_is); (case l => k_is); (case c => k_is); (case k => k_is)
    have D__law_step : L2.Def (L2.KOf KX) mg "_law_step" K58.s__law_step := by
      dsimp only [L2.KOf]
      refine' L2.def_mk KX G ?a ?l ?c ?k
      (case a => k_is); (case l => k_is); (case c => k_is); (case k => k_is)
    have D_law : L2.Def (L2.KOf KX) mg "law" K58.s_law := by
      dsimp only [L2.KOf]
      refine' L2.def_mk KX G ?a ?l ?c ?k
      (case a => k_is); (case l => k_is); (case c => k_is); (case k => k_is)
    have Z_Book : ∃ C, L2.ClsD (L2.KOf KX) mg "Book" C K58.at_Book ∧ L2.DefI (L2.KOf KX) C "Book.__init__" K58.s_Book___init__ ∧ L2.DefM (L2.KOf KX) C "bind" "Book.bind" K58.s_Book_bind ∧ L2.DefM (L2.KOf KX) C "free" "Book.free" K58.s_Book_free ∧ L2.DefM (L2.KOf KX) C "told" "Book.told" K58.s_Book_told ∧ L2.DefM (L2.KOf KX) C "had" "Book.had" K58.s_Book_had := by
      dsimp only [L2.KOf]
      refine' K58.mk_Book KX G ?aC ?pg ?hd ?po ?sa ?n0 ?n1 ?mk ?kc ?a0 ?i0 ?l0 ?c0 ?k0 ?a1 ?i1 ?l1 ?c1 ?k1 ?a2 ?i2 ?l2 ?c2 ?k2 ?a3 ?i3 ?l3 ?c3 ?k3 ?a4 ?i4 ?l4 ?c4 ?k4
      (case aC => k_is)
      (case pg => k_is)
      (case hd => k_is)
      (case po => k_is)
      (case sa => k_is)
      (case n0 => k_is)
      (case n1 => k_is)
      (case mk => k_is)
      (case kc => k_is)
      (case a0 => k_is)
      (case i0 => k_is)
      (case l0 => k_is)
      (case c0 => k_is)
      (case k0 => k_is)
      (case a1 => k_is)
      (case i1 => k_is)
      (case l1 => k_is)
      (case c1 => k_is)
      (case k1 => k_is)
      (case a2 => k_is)
      (case i2 => k_is)
      (case l2 => k_is)
      (case c2 => k_is)
      (case k2 => k_is)
      (case a3 => k_is)
      (case i3 => k_is)
      (case l3 => k_is)
      (case c3 => k_is)
      (case k3 => k_is)
      (case a4 => k_is)
      (case i4 => k_is)
      (case l4 => k_is)
      (case c4 => k_is)
      (case k4 => k_is)
    obtain ⟨C_Book, T_Book, DI_Book, DM_Book_bind, DM_Book_free, DM_Book_told, DM_Book_had⟩ := Z_Book
    have Z_Near : ∃ C, L2.ClsD (L2.KOf KX) mg "Near" C K58.at_Near ∧ L2.DefI (L2.KOf KX) C "Near.__init__" K58.s_Near___init__ ∧ L2.DefM (L2.KOf KX) C "put" "Near.put" K58.s_Near_put ∧ L2.DefM (L2.KOf KX) C "is_fresh" "Near.is_fresh" K58.s_Near_is_fresh ∧ L2.DefM (L2.KOf KX) C "find" "Near.find" K58.s_Near_find := by
      dsimp only [L2.KOf]
      refine' K58.mk_Near KX G ?aC ?pg ?hd ?po ?sa ?n0 ?n1 ?mk ?kc ?a0 ?i0 ?l0 ?c0 ?k0 ?a1 ?i1 ?l1 ?c1 ?k1 ?a2 ?i2 ?l2 ?c2 ?k2 ?a3 ?i3 ?l3 ?c3 ?k3
      (case aC => k_is)
      (case pg => k_is)
      (case hd => k_is)
      (case po => k_is)
      (case sa => k_is)
      (case n0 => k_is)
      (case n1 => k_is)
      (case mk => k_is)
      (case kc => k_is)
      (case a0 => k_is)
      (case i0 => k_is)
      (case l0 => k_is)
      (case c0 => k_is)
      (case k0 => k_is)
      (case a1 => k_is)
      (case i1 => k_is)
      (case l1 => k_is)
      (case c1 => k_is)
      (case k1 => k_is)
      (case a2 => k_is)
      (case i2 => k_is)
      (case l2 => k_is)
      (case c2 => k_is)
      (case k2 => k_is)
      (case a3 => k_is)
      (case i3 => k_is)
      (case l3 => k_is)
      (case c3 => k_is)
      (case k3 => k_is)
    obtain ⟨C_Near, T_Near, DI_Near, DM_Near_put, DM_Near_is_fresh, DM_Near_find⟩ := Z_Near
    have hb : L2.Blt mg := by
      refine' L2.blt_mk (K := L2.KOf KX) KX G ?b1 ?b2 ?b3 ?b4 ?b5 ?b6 ?b7 ?b8 ?b9 ?b10 ?b11 ?b12 ?b13
      all_goals (dsimp only [L2.KOf]; k_is)
    have hsum : mg "sum" = none := by
      have z : PySem.W.nsIn (L2.KOf KX) mainGlobals "sum" = some none := by
        dsimp only [L2.KOf]
        k_is
      exact PySem.W.mg_none_of KX G z
    have hen : mg "enumerate" = none := by
      have z : PySem.W.nsIn (L2.KOf KX) mainGlobals "enumerate" = some none := by
        dsimp only [L2.KOf]
        k_is
      exact PySem.W.mg_none_of KX G z
    have ht : PySem.W.tabIn (L2.KOf KX) "_law_found" = some (212, 210) := by
      dsimp only [L2.KOf]
      kernel_rfl
    have g : ∃ u, mg "MOST_LETTERS" = some u ∧ L2.RelV (.int 8) u := by
      refine' L2.glb_mk KX G ?a
      (case a => k_is)
    exact K58.last D_is_text_of D_refuse_below D_is_name DI_Book DM_Book_bind DM_Book_free DM_Book_told DM_Book_had DI_Near DM_Near_put DM_Near_is_fresh DM_Near_find D__law_draw D__law_next D__law_any D__law_was D__law_found D__law_step D_law T_Book T_Near g hb hsum hen ht hmg
#print axioms PySem.Challenge.cw_roadnet_k58_whole_names_however_late_holds
