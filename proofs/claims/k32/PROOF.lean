import PyProof.Rows.All
import Wide.All
import OpenK.AllK
import Wide.FinOn
import Lean
import PyProof.EqAt
import PyProof.EqKinds
import PyProof.TupleCall
import PyProof.NeData
import PyProof.EqLayable
import PyProof.ConsumeWalk
import PyProof.StrWalks
import PyProof.FString5
import PyProof.CallStr
import KE.KDictList
import KE.KDictSum
import PyProof.Rows.SortWalk
import PyProof.ListRange
import PyProof.EnumFor
import PyProof.EnumMake
import PyProof.EnumStmt
import PyProof.DictWalks
import PyProof.DictItems
import KE.KEqDict
import PyProof.Claim2Refuses
import PySem.Challenge.RW_roadnet_k32_no_parcel_waits_for_ever
set_option Elab.async false
set_option linter.all false
set_option maxRecDepth 100000
/-! THE HAND LAYER, for ints, bools, texts, own classes, LISTS and tuples (index, slices, in, append, pop ..), calls, loops. Paste it whole ahead of your own text; what your proof does not reach may be deleted. -/
namespace L2
open PySem PySem.Spec PyProof.Rows

/-- a key: an int or a str -/
abbrev Key := Sum Int Str
def keyIs : Key → Value → Bool
  | .inl k, v => Value.isInt k v
  | .inr x, v => Value.isStrOf x v
def keyH (w : World) : Key → Int
  | .inl k => hashInt k
  | .inr x => hashStr w x
theorem keyIs_shape : ∀ {k : Key} {v : Value}, keyIs k v = true → (∃ i t, k = Sum.inl i ∧ v = Value.int i t) ∨ (∃ x t, k = Sum.inr x ∧ v = Value.str x t)
  | .inl i, v, h => by
    obtain ⟨t, e⟩ := Value.isInt_shape (k := i) (v := v) h
    exact .inl ⟨i, t, rfl, e⟩
  | .inr x, v, h => by
    obtain ⟨t, e⟩ := Value.isStrOf_shape (x := x) (v := v) h
    exact .inr ⟨x, t, rfl, e⟩
theorem keyIs_int (i : Int) (t : Tok) : keyIs (.inl i) (.int i t) = true := by simp [keyIs, Value.isInt]
theorem keyIs_str (x : Str) (t : Tok) : keyIs (.inr x) (.str x t) = true := by simp [keyIs, Value.isStrOf]
theorem key_ll (a b : Int) : decide ((Sum.inl a : Key) = Sum.inl b) = (a == b) := by
  by_cases e : a = b
  · subst e; simp
  · have h : ¬ (Sum.inl a : Key) = Sum.inl b := fun q => e (Sum.inl.inj q)
    rw [decide_eq_false h]
    exact (beq_eq_false_iff_ne.mpr e).symm
theorem key_rr (a b : Str) : decide ((Sum.inr a : Key) = Sum.inr b) = decide (a = b) := by
  by_cases e : a = b
  · subst e; simp
  · have h : ¬ (Sum.inr a : Key) = Sum.inr b := fun q => e (Sum.inr.inj q)
    rw [decide_eq_false h, decide_eq_false e]
theorem key_lr (a : Int) (b : Str) : decide ((Sum.inl a : Key) = Sum.inr b) = false := decide_eq_false (fun q => nomatch q)
theorem key_rl (a : Str) (b : Int) : decide ((Sum.inr a : Key) = Sum.inl b) = false := decide_eq_false (fun q => nomatch q)

def mixKind (prog : Program) (w : World) : PySem.KeyKind prog w Key where
  is := keyIs
  hash := keyH w
  inj := fun v a b ha hb => by
    rcases keyIs_shape ha with ⟨i, t, rfl, rfl⟩ | ⟨x, t, rfl, rfl⟩
    · rcases keyIs_shape hb with ⟨j, u, rfl, e⟩ | ⟨y, u, rfl, e⟩
      · injection e with e1 _; rw [e1]
      · exact nomatch e
    · rcases keyIs_shape hb with ⟨j, u, rfl, e⟩ | ⟨y, u, rfl, e⟩
      · exact nomatch e
      · injection e with e1 _; rw [e1]
  byValue := fun k v h => by
    rcases keyIs_shape h with ⟨i, t, rfl, rfl⟩ | ⟨x, t, rfl, rfl⟩ <;> rfl
  pyHash := fun hv h => by
    rcases keyIs_shape hv with ⟨i, t, rfl, rfl⟩ | ⟨x, t, rfl, rfl⟩
    · exact wpAny_pyHash_int h
    · exact wpAny_pyHash_str h
  eqBool := fun hu hv h => by
    rcases keyIs_shape hu with ⟨i, t, rfl, rfl⟩ | ⟨x, t, rfl, rfl⟩
    · rcases keyIs_shape hv with ⟨j, u, rfl, rfl⟩ | ⟨y, u, rfl, rfl⟩
      · rw [key_ll] at h; exact wpAny_eqBool_int h
      · rw [key_lr] at h; exact SeqAt.EqAt.int_str i t y u _ _ _ _ h
    · rcases keyIs_shape hv with ⟨j, u, rfl, rfl⟩ | ⟨y, u, rfl, rfl⟩
      · rw [key_rl] at h; exact SeqAt.EqAt.str_int x t j u _ _ _ _ h
      · rw [key_rr] at h; exact wpAny_eqBool_str h
  «strs» := fun k x t v h => by
    rcases keyIs_shape h with ⟨i, u, rfl, e⟩ | ⟨y, u, rfl, e⟩
    · exact nomatch e
    · injection e with e1 _
      subst e1
      cases v <;> rfl

theorem mixKind_int (prog : Program) (w : World) (i : Int) (t : Tok) : (mixKind prog w).is (.inl i) (.int i t) = true := keyIs_int i t
theorem mixKind_str (prog : Program) (w : World) (x : Str) (t : Tok) : (mixKind prog w).is (.inr x) (.str x t) = true := keyIs_str x t
end L2

namespace L2
open PySem PySem.Spec PyProof.Rows

/-- a value, without the heap -/
inductive V where
  | non | bl (b : Bool) | int (i : Int) | str (x : Str) | byt (b : Array UInt8) | flt (b : UInt64) | ref (a : Addr) | ty (n : String)
  deriving DecidableEq

def RelV : V → Value → Prop
  | .non, u => u = Value.none
  | .bl b, u => u = Value.bool b
  | .int i, u => ∃ t, u = Value.int i t
  | .str x, u => ∃ t, u = Value.str x t
  | .byt b, u => ∃ t, u = Value.bytes b t
  | .flt b, u => ∃ t, u = Value.float b t
  | .ref a, u => u = Value.ref a
  | .ty n, u => u = Value.type n

abbrev Vals : List V → List Value → Prop := Paired RelV
theorem Vals.length {xs : List V} {us : List Value} (r : Vals xs us) : xs.length = us.length := Paired.length r
theorem Vals.get : ∀ {xs : List V} {us : List Value} {i : Nat} {x : V}, Vals xs us → xs[i]? = some x → ∃ u, us[i]? = some u ∧ RelV x u
  | _, _, _, _, .nil, e => by simp at e
  | _, _, 0, _, .cons r _, e => by simp at e; subst e; exact ⟨_, rfl, r⟩
  | _, _, i + 1, x, .cons _ t, e => by
    obtain ⟨u, h1, h2⟩ := Vals.get (i := i) (x := x) t (by simpa using e)
    exact ⟨u, by simpa using h1, h2⟩
theorem Vals.set {x : V} {u : Value} (r : RelV x u) : ∀ {xs : List V} {us : List Value} (i : Nat), Vals xs us → Vals (xs.set i x) (us.set i u)
  | _, _, _, .nil => .nil
  | _, _, 0, .cons _ t => .cons r t
  | _, _, i + 1, .cons q t => .cons q (Vals.set r i t)
theorem Vals.append : ∀ {xs ys : List V} {us ws : List Value}, Vals xs us → Vals ys ws → Vals (xs ++ ys) (us ++ ws)
  | _, _, _, _, .nil, s => s
  | _, _, _, _, .cons r t, s => .cons r (Vals.append t s)
theorem Vals.take : ∀ {xs : List V} {us : List Value} (n : Nat), Vals xs us → Vals (xs.take n) (us.take n)
  | _, _, 0, _ => .nil
  | _, _, _ + 1, .nil => .nil
  | _, _, n + 1, .cons r t => .cons r (Vals.take n t)
theorem Vals.drop : ∀ {xs : List V} {us : List Value} (n : Nat), Vals xs us → Vals (xs.drop n) (us.drop n)
  | _, _, 0, r => r
  | _, _, _ + 1, .nil => .nil
  | _, _, n + 1, .cons _ t => Vals.drop n t
theorem Vals.none_of : ∀ {xs : List V} {us : List Value} {i : Nat}, Vals xs us → xs[i]? = none → us[i]? = none := fun {xs us i} r e => by
  have h1 := r.length
  have h2 : xs.length ≤ i := List.getElem?_eq_none_iff.mp e
  exact List.getElem?_eq_none_iff.mpr (by omega)

def RelO : Option V → Option Value → Prop
  | some v, some u => RelV v u
  | none, none => True
  | _, _ => False
def KV {κ : Type} : List (κ × V) → List (κ × Value) → Prop := Paired fun (p : κ × V) (q : κ × Value) => p.1 = q.1 ∧ RelV p.2 q.2

/-- a key of a dict (00_mix): an int or a text -/
def kV : Key → V
  | .inl i => .int i
  | .inr x => .str x

/-- what stands at a tracked address -/
inductive HO where
  /-- a list -/
  | lst (xs : List V)
  /-- a tuple (never changes) -/
  | tup (xs : List V)
  /-- a dict whose keys are ints and texts; one whose keys are tuples of ints and texts (the empty one is both) -/
  | dK (kvs : List (Key × V)) | dT (kvs : List (List Key × V))
  /-- a set of ints: its members, its size -/
  | set (S : Int → Bool) (n : Nat)
  /-- an instance of the class at C, its dict at dx, its attributes -/
  | ins (C dx : Addr) (fs : List (Str × V))
  /-- the dict of the instance at x -/
  | own (x : Addr)
  /-- the dict of an exception -/
  | xd (fs : List (Str × V))
  /-- a bound method, f of x -/
  | met (f x : Addr)
  /-- a range object lo, lo + 1, .. below hi -/
  | rng (lo hi : Int)
  /-- a thing that is known to the object (the script; a dict while a loop walks it): read, never written while it is so -/
  | frz (o : Obj) (u : HO)
  /-- a code object's table -/
  | tbl (ps : Array Value)
  /-- any other thing, by what is true of its one object (a def of one's own: SetO a S n := HO.ext fun h => ..) -/
  | ext (φ : Heap → Prop)

abbrev Hp := Addr → Option HO
def upd (H : Hp) (a : Addr) (o : HO) : Hp := fun b => if b = a then some o else H b
theorem upd_same {H : Hp} {a : Addr} {o : HO} : upd H a o a = some o := by unfold upd; rw [if_pos rfl]
theorem upd_ne {H : Hp} {a b : Addr} {o : HO} (h : b ≠ a) : upd H a o b = H b := by unfold upd; rw [if_neg h]
theorem upd_upd {H : Hp} {a : Addr} {o u : HO} : upd (upd H a o) a u = upd H a u := by
  funext b; unfold upd; split <;> rfl
/-- two objects of different content stand apart -/
theorem ne_of {H : Hp} {a b : Addr} {o u : HO} (h : H a = some o) (h' : H b = some u) (d : o ≠ u) : a ≠ b := by
  intro e; subst e; rw [h] at h'; exact d (Option.some.inj h')
theorem ne_of_none {H : Hp} {a b : Addr} {o : HO} (h : H a = some o) (h' : H b = none) : a ≠ b := by
  intro e; subst e; rw [h] at h'; cases h'

section
variable (P : Program) (w : World)
def ObjOk (H : Hp) (h : Heap) (a : Addr) : HO → Prop
  | .lst xs => xs.length ≤ sizeLine ∧ ∃ (its : List Value) (n : Nat), Vals xs its ∧ h.get? a = some { cls := .type "list", data := .seq its.toArray n }
  | .tup xs => xs.length ≤ sizeLine ∧ ∃ its : List Value, Vals xs its ∧ IsTup h a its.toArray
  | .dK kvs => kvs.length ≤ sizeLine ∧ (a == sysModules) = false ∧ ∃ vs, KV kvs vs ∧ h.DictOf (mixKind P w) a vs
  | .dT kvs => kvs.length ≤ sizeLine ∧ (a == sysModules) = false ∧ ∃ xs : List (List Key × Addr × Value),
      Paired (fun (p : List Key × V) (q : List Key × Addr × Value) => p.1 = q.1 ∧ H q.2.1 = some (.tup (p.1.map kV)) ∧ RelV p.2 q.2.2) kvs xs ∧
      ∃ o es ep, h.get? a = some o ∧ o.ExactDict ∧ o.data = .dict es ep ∧ es.toList = xs.map (entryOfKey (tupleKind (mixKind P w))) ∧ (xs.map (·.1)).Nodup
  | .set S n => h.SetOf (intKind P w) a S n
  | .ins C dx fs => H dx = some (.own a) ∧ fs.length ≤ 1000 ∧ dx ≠ a ∧ h.get? a = some (PySem.W.instObj C dx) ∧
      ∃ mA, h.Ns1 dx mA ∧ (∀ f, RelO (fs.lookup f) (mA f)) ∧ PySem.Within mA (fs.map (·.1))
  | .own _ => ∃ o, h.get? a = some o
  | .xd fs => ∃ mA, h.Ns1 a mA ∧ ∀ f, RelO (fs.lookup f) (mA f)
  | .rng lo hi => ∃ t u v, h.get? a = some { cls := .type "range", data := .fields #[.int lo t, .int hi u, .int 1 v] }
  | .frz o u => h.get? a = some o ∧ ObjOk H h a u
  | .tbl ps => h.get? a = some { cls := .none, data := .fields ps }
  | .met f x => h.get? a = some (PySem.W.methodObj (.ref f) (.ref x))
  | .ext φ => φ h ∧ (∃ o, h.get? a = some o) ∧ ∀ h1 h2 : Heap, φ h1 → (∀ o, h1.get? a = some o → h2.get? a = some o) → φ h2
/-- the abstract heap is held -/
def HOk (H : Hp) (h : Heap) : Prop := ∀ a o, H a = some o → ObjOk P w H h a o
end

section
variable {P : Program} {w : World} {H H' : Hp} {h h' : Heap} {a : Addr} {o : HO}
theorem ObjOk.lt (x : ObjOk P w H h a o) : a < h.objs.size := by
  cases o with
  | lst xs => obtain ⟨_, _, _, _, e⟩ := x; exact Heap.lt_size e
  | tup xs => obtain ⟨_, _, _, p⟩ := x; exact p.lt
  | dK kvs => obtain ⟨_, _, _, _, o, _, _, e, _⟩ := x; exact Heap.lt_size e
  | dT kvs => obtain ⟨_, _, _, _, o, _, _, e, _⟩ := x; exact Heap.lt_size e
  | set S n => obtain ⟨o, _, _, _, e, _⟩ := x; exact Heap.lt_size e
  | ins C dx fs => obtain ⟨_, _, _, e, _⟩ := x; exact Heap.lt_size e
  | own y => obtain ⟨_, e⟩ := x; exact Heap.lt_size e
  | xd fs => obtain ⟨_, ⟨_, _, _, e, _⟩, _⟩ := x; exact Heap.lt_size e
  | rng lo hi => obtain ⟨_, _, _, e⟩ := x; exact Heap.lt_size e
  | frz ob u => obtain ⟨e, _⟩ := x; exact Heap.lt_size e
  | tbl ps => exact Heap.lt_size (show h.get? a = some _ from x)
  | met f y => exact Heap.lt_size (show h.get? a = some _ from x)
  | ext φ => obtain ⟨_, ⟨_, e⟩, _⟩ := x; exact Heap.lt_size e
theorem Paired.mapP {α β : Type} {F G : α → β → Prop} : ∀ {l₁ : List α} {l₂ : List β}, Paired F l₁ l₂ → (∀ a b, F a b → G a b) → Paired G l₁ l₂
  | _, _, .nil, _ => .nil
  | _, _, .cons r t, f => .cons (f _ _ r) (Paired.mapP t f)
/-- what an object's description leans on: its own object, its own dict, the tuples -/
theorem ObjOk.stay (x : ObjOk P w H h a o) (k : ∀ b u, (b = a ∨ H b = some (.own a)) → h.get? b = some u → h'.get? b = some u)
    (ho : ∀ b, H b = some (.own a) → H' b = some (.own a)) (ht : ∀ b xs, H b = some (.tup xs) → H' b = some (.tup xs)) : ObjOk P w H' h' a o := by
  induction o with
  | lst xs => obtain ⟨z, its, n, r, e⟩ := x; exact ⟨z, its, n, r, k _ _ (.inl rfl) e⟩
  | tup xs => obtain ⟨z, its, r, ob, e, c⟩ := x; exact ⟨z, its, r, ob, k _ _ (.inl rfl) e, c⟩
  | dK kvs => obtain ⟨z, y, vs, r, ob, es, ep, e, c⟩ := x; exact ⟨z, y, vs, r, ob, es, ep, k _ _ (.inl rfl) e, c⟩
  | dT kvs =>
    obtain ⟨z, y, xs, r, ob, es, ep, e, c⟩ := x
    exact ⟨z, y, xs, Paired.mapP r fun p q z => ⟨z.1, ht _ _ z.2.1, z.2.2⟩, ob, es, ep, k _ _ (.inl rfl) e, c⟩
  | set S n => obtain ⟨ob, es, ep, t, e, c⟩ := x; exact ⟨ob, es, ep, t, k _ _ (.inl rfl) e, c⟩
  | ins C dx fs =>
    obtain ⟨d, z, ne, e, mA, ⟨od, es, ep, e2, c⟩, r⟩ := x
    exact ⟨ho _ d, z, ne, k _ _ (.inl rfl) e, mA, ⟨od, es, ep, k _ _ (.inr d) e2, c⟩, r⟩
  | own y => obtain ⟨ob, e⟩ := x; exact ⟨ob, k _ _ (.inl rfl) e⟩
  | xd fs => obtain ⟨mA, ⟨od, es, ep, e, c⟩, r⟩ := x; exact ⟨mA, ⟨od, es, ep, k _ _ (.inl rfl) e, c⟩, r⟩
  | rng lo hi => obtain ⟨t, u, v, e⟩ := x; exact ⟨t, u, v, k _ _ (.inl rfl) e⟩
  | frz ob u ih => obtain ⟨e, q⟩ := x; exact ⟨k _ _ (.inl rfl) e, ih q⟩
  | tbl ps =>
    have e : h.get? a = some { cls := .none, data := .fields ps } := x
    show h'.get? a = some { cls := .none, data := .fields ps }
    exact k a _ (.inl rfl) e
  | met f y =>
    have e : h.get? a = some (PySem.W.methodObj (.ref f) (.ref y)) := x
    show h'.get? a = some (PySem.W.methodObj (.ref f) (.ref y))
    exact k a _ (.inl rfl) e
  | ext φ => obtain ⟨p, ⟨o, e⟩, st⟩ := x; exact ⟨st _ _ p fun o q => k _ _ (.inl rfl) q, ⟨o, k _ _ (.inl rfl) e⟩, st⟩
theorem HOk.lt (x : HOk P w H h) (e : H a = some o) : a < h.objs.size := (x a o e).lt
theorem HOk.fresh (x : HOk P w H h) (e : h.objs.size ≤ a) : H a = none := by
  cases q : H a with
  | none => rfl
  | some u => exact absurd (Nat.lt_of_lt_of_le (x.lt q) e) (Nat.lt_irrefl _)
/-- every object of the heap is kept -/
theorem HOk.kept (x : HOk P w H h) (k : ∀ b u, h.get? b = some u → h'.get? b = some u) : HOk P w H h' := fun a o e =>
  (x a o e).stay (fun b u _ q => k b u q) (fun _ q => q) fun _ _ q => q
/-- a new object is laid and tracked -/
theorem HOk.laid (x : HOk P w H h) (k : ∀ b u, h.get? b = some u → h'.get? b = some u) (hp : h.objs.size ≤ a) (new : ObjOk P w (upd H a o) h' a o) : HOk P w (upd H a o) h' := fun b u e => by
  have hn := x.fresh hp
  by_cases hb : b = a
  · subst hb; rw [upd_same] at e; cases e; exact new
  · rw [upd_ne hb] at e
    exact (x b u e).stay (fun c v _ q => k c v q) (fun c q => by rw [upd_ne (ne_of_none q hn)]; exact q) fun c xs q => by rw [upd_ne (ne_of_none q hn)]; exact q
end

/-- what may be read as u: it is u, or a known u -/
def Rd (H : Hp) (a : Addr) (u : HO) : Prop := H a = some u ∨ ∃ o, H a = some (.frz o u)
theorem Rd.of {H : Hp} {a : Addr} {u : HO} (h : H a = some u) : Rd H a u := .inl h
theorem Rd.ok {P : Program} {w : World} {H : Hp} {h : Heap} {a : Addr} {u : HO} (r : Rd H a u) (x : HOk P w H h) : ObjOk P w H h a u := by
  rcases r with r | ⟨o, r⟩
  · exact x a u r
  · obtain ⟨_, q⟩ := x a _ r
    exact q
/-- what may be written -/
def Mut : Option HO → Prop
  | some (.lst _) => True
  | some (.dK _) => True
  | some (.dT _) => True
  | some (.set _ _) => True
  | some (.ins _ _ _) => True
  | some (.ext _) => True
  | _ => False
section
variable {P : Program} {w : World} {H : Hp} {h h' : Heap} {x e : Addr} {o' : HO}
/-- the object at e is changed: x itself, or the dict of the instance x -/
theorem HOk.write (ok : HOk P w H h) (mu : Mut (H x)) (he : e = x ∨ H e = some (.own x)) (k : ∀ b u, b ≠ e → h.get? b = some u → h'.get? b = some u) (heo : ∃ u, h'.get? e = some u)
    (new : ObjOk P w (upd H x o') h' x o') : HOk P w (upd H x o') h' := fun b u q => by
  have nown : ∀ c y, H c = some (.own y) → c ≠ x := fun c y r z => by subst z; rw [r] at mu; exact mu
  have ntup : ∀ c xs, H c = some (.tup xs) → c ≠ x := fun c xs r z => by subst z; rw [r] at mu; exact mu
  by_cases hb : b = x
  · subst hb; rw [upd_same] at q; cases q; exact new
  · rw [upd_ne hb] at q
    by_cases hbe : b = e
    · have q' : H b = some (.own x) := by
        rcases he with z | z
        · exact absurd (hbe.trans z) hb
        · rw [hbe]; exact z
      rw [q] at q'; cases q'
      obtain ⟨v, hv⟩ := heo
      exact ⟨v, by rw [hbe]; exact hv⟩
    · refine (ok b u q).stay (fun c v hc r => k c v ?_ r) (fun c r => by rw [upd_ne (nown c b r)]; exact r) fun c xs r => by rw [upd_ne (ntup c xs r)]; exact r
      rcases hc with rfl | hc
      · exact hbe
      · rintro rfl
        rcases he with z | z
        · exact nown c b hc z
        · rw [hc] at z; cases z; exact hb rfl
end

/-! ### kept unless tracked; of the frames at fs (the callers') the slots may change (an exception that passes writes there); of the records at ex (iterators) nothing is said -/
structure Un (fs ex : List Addr) (H H' : Hp) (h h' : Heap) : Prop where
  keep : ∀ b o, h.get? b = some o → H b = none → b ∉ fs → b ∉ ex → h'.get? b = some o
  slot : ∀ b o, h.get? b = some o → H b = none → b ∈ fs → b ∉ ex → ∃ sl, h'.get? b = some { o with slots := sl }
  free : ∀ b o, h.get? b = some o → H b = none → b ∉ ex → H' b = none
  there : ∀ b o, h.get? b = some o → b ∉ ex → ∃ o', h'.get? b = some o'
  tups : ∀ b xs, H b = some (.tup xs) → H' b = some (.tup xs)
  frzs : ∀ b o u, H b = some (.frz o u) → H' b = some (.frz o u)
  tbls : ∀ b ps, H b = some (.tbl ps) → ∃ more, H' b = some (.tbl (ps ++ more))
section
variable {fs fs' ex ex' : List Addr} {H H1 H2 : Hp} {h h1 h2 h' : Heap} {a x e : Addr} {o : HO}
theorem Un.any (u : Un fs ex H H1 h h1) {b : Addr} {ob : Obj} (q : h.get? b = some ob) (n : H b = none) (hx : b ∉ ex) : ∃ sl, h1.get? b = some { ob with slots := sl } := by
  by_cases hb : b ∈ fs
  · exact u.slot b ob q n hb hx
  · exact ⟨ob.slots, u.keep b ob q n hb hx⟩
theorem Un.trans (a : Un fs ex H H1 h h1) (b : Un fs ex H1 H2 h1 h2) : Un fs ex H H2 h h2 where
  keep := fun c ob q n hc hx => b.keep c ob (a.keep c ob q n hc hx) (a.free c ob q n hx) hc hx
  slot := fun c ob q n hc hx => by
    obtain ⟨sl, e1⟩ := a.slot c ob q n hc hx
    obtain ⟨sl', e2⟩ := b.slot c _ e1 (a.free c ob q n hx) hc hx
    exact ⟨sl', e2⟩
  free := fun c ob q n hx => by
    obtain ⟨o', e1⟩ := a.there c ob q hx
    exact b.free c o' e1 (a.free c ob q n hx) hx
  there := fun c ob q hx => by
    obtain ⟨o', e1⟩ := a.there c ob q hx
    exact b.there c o' e1 hx
  tups := fun c xs q => b.tups c xs (a.tups c xs q)
  frzs := fun c ob xs q => b.frzs c ob xs (a.frzs c ob xs q)
  tbls := fun c ps q => by
    obtain ⟨m1, e1⟩ := a.tbls c ps q
    obtain ⟨m2, e2⟩ := b.tbls c _ e1
    exact ⟨m1 ++ m2, by rw [e2, Array.append_assoc]⟩
theorem Un.kept (k : ∀ b u, h.get? b = some u → h'.get? b = some u) : Un fs ex H H h h' :=
  ⟨fun b ob q _ _ _ => k b ob q, fun b ob q _ _ _ => ⟨ob.slots, k b ob q⟩, fun _ _ _ n _ => n, fun b ob q _ => ⟨ob, k b ob q⟩, fun _ _ q => q, fun _ _ _ q => q, fun _ ps q => ⟨#[], by rw [q]; simp⟩⟩
theorem Un.refl : Un fs ex H H h h := Un.kept fun _ _ q => q
theorem Un.laid (k : ∀ b u, h.get? b = some u → h'.get? b = some u) (hp : h.objs.size ≤ a) (hn : H a = none) : Un fs ex H (upd H a o) h h' where
  keep := fun b u q _ _ _ => k b u q
  slot := fun b u q _ _ _ => ⟨u.slots, k b u q⟩
  free := fun b u q n _ => by rw [upd_ne (Nat.ne_of_lt (Nat.lt_of_lt_of_le (Heap.lt_size q) hp))]; exact n
  there := fun b u q _ => ⟨u, k b u q⟩
  tups := fun b xs q => by rw [upd_ne (ne_of_none q hn)]; exact q
  frzs := fun b u xs q => by rw [upd_ne (ne_of_none q hn)]; exact q
  tbls := fun b ps q => ⟨#[], by rw [upd_ne (ne_of_none q hn), q]; simp⟩
theorem Un.write (mu : Mut (H x)) (he : e = x ∨ H e = some (.own x)) (k : ∀ b u, b ≠ e → h.get? b = some u → h'.get? b = some u) (heo : ∃ u, h'.get? e = some u) : Un fs ex H (upd H x o) h h' := by
  have hx : ∀ b, H b = none → b ≠ x := fun b n z => by subst z; rw [n] at mu; exact mu
  have hb : ∀ b, H b = none → b ≠ e := fun b n z => by
    subst z
    rcases he with r | r
    · exact hx b n r
    · rw [n] at r; cases r
  have hm : ∀ b u, H b = some u → ¬ Mut (some u) → b ≠ x := fun b u q nm z => by subst z; rw [q] at mu; exact nm mu
  refine ⟨fun b u q n _ _ => k b u (hb b n) q, fun b u q n _ _ => ⟨u.slots, k b u (hb b n) q⟩, fun b u q n _ => by rw [upd_ne (hx b n)]; exact n, fun b u q _ => ?_,
    fun b xs q => by rw [upd_ne (hm b _ q fun z => z)]; exact q, fun b u xs q => by rw [upd_ne (hm b _ q fun z => z)]; exact q, fun b ps q => ⟨#[], by rw [upd_ne (hm b _ q fun z => z), q]; simp⟩⟩
  by_cases hbe : b = e
  · subst hbe; exact heo
  · exact ⟨u, k b u hbe q⟩
theorem Un.mono (u : Un fs ex H H1 h h1) (hs : ∀ b ∈ fs, b ∈ fs') (hx : ∀ b ∈ ex, b ∈ ex') : Un fs' ex' H H1 h h1 :=
  ⟨fun b ob q n hb he => u.keep b ob q n (fun z => hb (hs b z)) fun z => he (hx b z), fun _ _ q n _ he => u.any q n fun z => he (hx _ z), fun b ob q n he => u.free b ob q n fun z => he (hx b z), fun b ob q he => u.there b ob q fun z => he (hx b z), u.tups, u.frzs, u.tbls⟩
end

/-! ### the heap without what is tracked -/
def trk (h : Heap) (H : Hp) : List Addr := (List.range h.objs.size).filter fun a => (H a).isSome
def hidT (h : Heap) (H : Hp) : Heap := PySem.W.hideAll h (trk h H)
theorem hidT_size (h : Heap) (H : Hp) : (hidT h H).objs.size = h.objs.size := PySem.W.hideAll_size _ _
theorem hidT_get {h : Heap} {H : Hp} {b : Addr} {o : Obj} (e : h.get? b = some o) (n : H b = none) : (hidT h H).get? b = some o :=
  PySem.W.hideAll_get _ e fun hm => by
    have q : (H b).isSome = true := (List.mem_filter.mp hm).2
    rw [n] at q; simp at q
theorem of_hidT {h : Heap} {H : Hp} {b : Addr} {o : Obj} (e : (hidT h H).get? b = some o) : h.get? b = some o ∧ H b = none := by
  have e' : h.get? b = some o := PySem.W.of_hideAll (trk h H) e
  refine ⟨e', ?_⟩
  cases q : H b with
  | none => rfl
  | some x =>
    have hm : b ∈ trk h H := List.mem_filter.mpr ⟨List.mem_range.mpr (Heap.lt_size e'), by simp [q]⟩
    have z : (hidT h H).get? b = none := PySem.W.hideAll_none (trk h H) hm
    rw [z] at e; cases e

/-! ### OpenK's ledger, filled with every new object but one -/
def allNews (g h : Heap) (L : Addr) : List (Addr × Obj) := (List.range h.objs.size).filterMap fun a => if a = L ∨ (g.get? a).isSome = true then none else (h.get? a).map fun o => (a, o)
def rest (g h : Heap) (L d : Addr) : List (Addr × Obj) := (allNews g h L).filter fun p => decide (p.1 ≠ d)
end L2

namespace L2
open PySem PySem.Spec PyProof.Rows

/-- the module's facts, over the base: the heap at the law's entry without what is tracked there -/
structure Mod (K : PySem.W.Frag) (mg : Str → Option Value) (base : Heap) : Prop where
  kin : K.In base
  glob : base.Ns mainGlobals mg
  blt : ∃ mb, base.Ns builtinsNs mb ∧ ∀ x : Str, x ≠ "__name__" → mb x = bootBuiltins x
  nolimit : base.NoLimit

/-- the context: a def's body (or a comprehension's block) running. base: fixed through the whole law; s₀, H₀: the entry; outer: the frames whose slots others may change (a def's callers); stack: all frames that run;
   ex: iterators that were made ahead of the entry and are walked here (a comprehension's); fn: the names whose cells were made at the entry (a def: all; a comprehension's block: its own); calm: not within an except suite; pn: pins that every state bears; xe: what is wanted of an exception that leaves the code -/
structure Cx where
  prog : Program
  w : World
  K : PySem.W.Frag
  mg : Str → Option Value
  base : Heap
  A : Around
  N : List Str
  s₀ : Shared
  H₀ : Hp
  env : Env
  outer : List Env
  stack : List Env
  ex : List Addr
  fn : Str → Bool
  calm : Bool
  pn : List (Addr × Obj)
  xe : Value → Shared → Prop
/-- the callers' frames -/
def frs (l : List Env) : List Addr := l.filterMap (·.frame)
abbrev Cx.fs (X : Cx) : List Addr := frs X.outer

def Vis (sc : Scope) (x : Str) : Prop := sc.names.lookup x = some .local ∨ sc.names.lookup x = some .cell ∨ sc.names.lookup x = some .free
def Loc (sc : Scope) (x : Str) : Prop := sc.names.lookup x = some .local ∨ sc.names.lookup x = some .cell
def Look (env : Env) (h : Heap) (m : Str → Option Value) (x : Str) (u : Value) : Prop :=
  (env.kindOf x = some .local ∧ m x = some u) ∨ ((env.kindOf x = some .cell ∨ env.kindOf x = some .free) ∧ ∃ c, env.cells.lookup x = some c ∧ h.IsCell c (some u))

structure Cx.Ok (X : Cx) : Prop where
  mod : Mod X.K X.mg X.base
  kind : X.env.scope.kind = .function
  glob : X.env.globals = mainGlobals
  blt : X.env.builtins = builtinsNs
  above : X.s₀.heap.objs.size ≤ X.env.locals
  inj : ∀ x y c, X.env.cells.lookup x = some c → X.env.cells.lookup y = some c → x = y
  has : ∀ x, (X.env.kindOf x = some .cell ∨ X.env.kindOf x = some .free) → ∃ c, X.env.cells.lookup x = some c
  cab : ∀ x c, X.fn x = true → X.env.cells.lookup x = some c → X.s₀.heap.objs.size ≤ c
  hd : X.calm = true → X.A.handled = none
  frames : X.A.frames = some X.stack
  stk : X.stack = X.outer ∨ (X.stack = X.env :: X.outer ∧ X.env.frame = some X.env.locals)
  exf : ∀ b ∈ X.ex, b ≠ X.env.locals ∧ ∀ x c, X.env.cells.lookup x = some c → c ≠ b
  bs : ∀ b o, X.base.get? b = some o → X.s₀.heap.get? b = some o ∧ X.H₀ b = none
  bsz : X.base.objs.size ≤ X.s₀.heap.objs.size
  noex : ∀ b o, X.base.get? b = some o → b ∉ X.ex
  exfs : ∀ b ∈ X.ex, b ∉ X.fs
  funs : X.s₀.heap.FunFrames X.base X.outer
  frf : ∀ b ∈ X.fs, X.H₀ b = none

structure Inv (X : Cx) (pins : List (Addr × Obj)) (σ : List (Option V)) (H : Hp) (s : Shared) : Prop where
  ok : X.Ok
  os : s.os = X.s₀.os
  bare : AllBare s.gens
  base : Un X.fs X.ex X.H₀ H X.s₀.heap s.heap
  loc : ∃ m, s.heap.Ns X.env.locals m ∧ ∀ (i : Nat) (x : Str) (v : V), X.N[i]? = some x → σ[i]? = some (some v) → Vis X.env.scope x → ∃ u, RelV v u ∧ Look X.env s.heap m x u
  cell : ∀ x c, X.env.cells.lookup x = some c → ∃ v, s.heap.IsCell c v
  free : H X.env.locals = none
  freeC : ∀ x c, X.env.cells.lookup x = some c → H c = none
  pin : ∀ p ∈ X.pn ++ pins, s.heap.get? p.1 = some p.2 ∧ H p.1 = none ∧ p.1 ≠ X.env.locals ∧ p.1 ∉ X.fs ∧ ∀ v, p.2.data ≠ .cell v
  hok : HOk X.prog X.w H s.heap
  len : σ.length = X.N.length

section
variable {X : Cx} {pins : List (Addr × Obj)} {σ : List (Option V)} {H H' : Hp} {s : Shared} {h' : Heap}

theorem Cx.Ok.nofr (ok : X.Ok) {b : Addr} {o : Obj} (e : X.base.get? b = some o) : b ∉ X.fs := fun hb => by
  have := (ok.funs.mem hb).1
  rw [e] at this; cases this
theorem Inv.bs (I : Inv X pins σ H s) : ∀ b o, X.base.get? b = some o → s.heap.get? b = some o ∧ H b = none := fun b o e =>
  ⟨I.base.keep b o (I.ok.bs b o e).1 (I.ok.bs b o e).2 (I.ok.nofr e) (I.ok.noex b o e), I.base.free b o (I.ok.bs b o e).1 (I.ok.bs b o e).2 (I.ok.noex b o e)⟩
theorem Inv.bk (I : Inv X pins σ H s) : ∀ b o, X.base.get? b = some o → s.heap.get? b = some o := fun b o e => (I.bs b o e).1
theorem Inv.mod (I : Inv X pins σ H s) : Mod X.K X.mg X.base := I.ok.mod
theorem Inv.kIn (I : Inv X pins σ H s) : X.K.In s.heap := I.ok.mod.kin.keeps I.bk
theorem Inv.nolimit (I : Inv X pins σ H s) : s.heap.NoLimit := I.ok.mod.nolimit.keeps I.bk
/-- the frame over the base: for OpenK's rules (K.In X.base is I.mod.kin) -/
theorem Inv.fr (I : Inv X pins σ H s) : ∃ m, Fr X.base X.env.locals s.heap m :=
  let ⟨m, hn, _⟩ := I.loc
  ⟨m, hn, I.bk, Nat.le_trans I.ok.bsz I.ok.above⟩
theorem Inv.lt (I : Inv X pins σ H s) : X.env.locals < s.heap.objs.size := let ⟨_, hn, _⟩ := I.loc; hn.lt
theorem Inv.sz (I : Inv X pins σ H s) : X.s₀.heap.objs.size ≤ s.heap.objs.size := Nat.le_trans I.ok.above (Nat.le_of_lt I.lt)
theorem Inv.nofs (I : Inv X pins σ H s) {a : Addr} (h : s.heap.objs.size ≤ a) : a ∉ X.fs := fun hb => by
  obtain ⟨_, o, ho, _⟩ := I.ok.funs.mem hb
  exact absurd (Nat.lt_of_lt_of_le (Heap.lt_size ho) (Nat.le_trans I.sz h)) (Nat.lt_irrefl _)
theorem Inv.cne (I : Inv X pins σ H s) : ∀ x c, X.env.cells.lookup x = some c → c ≠ X.env.locals := fun x c e z => by
  obtain ⟨v, o, ho, hd⟩ := I.cell x c e
  obtain ⟨m, ⟨o', es, ep, ho', hd', _⟩, _⟩ := I.loc
  rw [z, ho'] at ho; cases ho; rw [hd'] at hd; cases hd
theorem Inv.funs (I : Inv X pins σ H s) : s.heap.FunFrames X.base X.outer := by
  have all : ∀ (l : List Env), (∀ b ∈ frs l, b ∈ X.fs) → X.s₀.heap.FunFrames X.base l → s.heap.FunFrames X.base l := by
    intro l
    induction l with
    | nil => intro _ _; trivial
    | cons env r ih =>
      intro hs hl
      obtain ⟨hk, ⟨L, o, hf, hn, ho, hd⟩, hr⟩ := hl
      have hL : L ∈ X.fs := hs L (by unfold frs; rw [List.filterMap_cons, hf]; exact List.mem_cons_self)
      obtain ⟨sl, e⟩ := I.base.slot L o ho (I.ok.frf L hL) hL fun z => I.ok.exfs L z hL
      exact ⟨hk, ⟨L, _, hf, hn, e, hd⟩, ih (fun b hb => hs b (by unfold frs; rw [List.filterMap_cons, hf]; exact List.mem_cons_of_mem _ hb)) hr⟩
  exact all X.outer (fun _ hb => hb) I.ok.funs

/-- the frames that run, for a call -/
theorem Inv.stack (I : Inv X pins σ H s) : s.heap.FunFrames X.base X.stack := by
  rcases I.ok.stk with e | ⟨e, hf⟩
  · rw [e]; exact I.funs
  · rw [e]
    obtain ⟨m, hn, _⟩ := I.loc
    refine .cons (by rw [I.ok.kind]; decide) hf hn ?_ I.funs
    exact Heap.get?_none_of_le (Nat.le_trans I.ok.bsz I.ok.above)
theorem Inv.stkSub (I : Inv X pins σ H s) : ∀ b ∈ frs X.stack, b ∈ X.env.locals :: X.fs := fun b hb => by
  rcases I.ok.stk with e | ⟨e, hf⟩
  · rw [e] at hb; exact List.mem_cons_of_mem _ hb
  · rw [e] at hb
    unfold frs at hb
    rw [List.filterMap_cons, hf] at hb
    exact hb
theorem Inv.stkFree (I : Inv X pins σ H s) : ∀ b ∈ frs X.stack, H b = none := fun b hb => by
  rcases List.mem_cons.mp (I.stkSub b hb) with e | hb
  · rw [e]; exact I.free
  · obtain ⟨_, o, ho, _⟩ := I.ok.funs.mem hb
    exact I.base.free b o ho (I.ok.frf b hb) fun z => I.ok.exfs b z hb

/-- THE STEP: the untracked objects but the frame and the records at ch are kept (the callers' frames up to slots), the frame's map is kept, the new abstract heap is held -/
theorem Inv.step {g' : Array GenState} {t' : Nat} {d' : Drawn} {ch : List Addr} (I : Inv X pins σ H s)
    (hch : ∀ b ∈ ch, (b ∈ X.ex ∨ X.s₀.heap.objs.size ≤ b) ∧ b ≠ X.env.locals ∧ (∀ x c, X.env.cells.lookup x = some c → c ≠ b) ∧ ∀ p ∈ X.pn ++ pins, p.1 ≠ b)
    (keep : ∀ b o, b ≠ X.env.locals → b ∉ X.fs → b ∉ ch → s.heap.get? b = some o → H b = none → h'.get? b = some o)
    (slot : ∀ b o, b ≠ X.env.locals → b ∈ X.fs → b ∉ ch → s.heap.get? b = some o → H b = none → ∃ sl, h'.get? b = some { o with slots := sl }) (free : ∀ b o, b ∉ ch → s.heap.get? b = some o → H b = none → H' b = none)
    (there : ∀ b o, b ∉ ch → s.heap.get? b = some o → ∃ o', h'.get? b = some o')
    (tups : ∀ b xs, H b = some (.tup xs) → H' b = some (.tup xs)) (frzs : ∀ b o u, H b = some (.frz o u) → H' b = some (.frz o u)) (tbls : ∀ b ps, H b = some (.tbl ps) → ∃ more, H' b = some (.tbl (ps ++ more)))
    (ns : ∀ m, s.heap.Ns X.env.locals m → h'.Ns X.env.locals m) (hok : HOk X.prog X.w H' h') (hg : AllBare g') :
    Inv X pins σ H' { s with heap := h', gens := g', drawn := d', toks := t' } := by
  have neL : ∀ b o, X.s₀.heap.get? b = some o → b ≠ X.env.locals := fun b o e => Nat.ne_of_lt (Nat.lt_of_lt_of_le (Heap.lt_size e) I.ok.above)
  have neC : ∀ b o, X.s₀.heap.get? b = some o → b ∉ X.ex → b ∉ ch := fun b o e hx hb => by
    rcases (hch b hb).1 with z | z
    · exact hx z
    · exact absurd (Nat.lt_of_lt_of_le (Heap.lt_size e) z) (Nat.lt_irrefl _)
  have cellK : ∀ x c, X.env.cells.lookup x = some c → ∀ v, s.heap.IsCell c v → h'.IsCell c v := fun x c e v ⟨o, ho, hd⟩ => by
    have nch : c ∉ ch := fun z => (hch c z).2.2.1 x c e rfl
    by_cases hc : c ∈ X.fs
    · obtain ⟨sl, q⟩ := slot c o (I.cne x c e) hc nch ho (I.freeC x c e)
      exact ⟨_, q, hd⟩
    · exact ⟨o, keep c o (I.cne x c e) hc nch ho (I.freeC x c e), hd⟩
  refine ⟨I.ok, I.os, hg, ⟨fun b o e n hb hx => ?_, fun b o e n hb hx => ?_, fun b o e n hx => ?_, fun b o e hx => ?_, fun b xs e => tups b xs (I.base.tups b xs e), fun b o xs e => frzs b o xs (I.base.frzs b o xs e), fun b ps e => ?_⟩, ?_, fun x c e => ?_, ?_, fun x c e => ?_, fun p hp => ?_, hok, I.len⟩
  · exact keep b o (neL b o e) hb (neC b o e hx) (I.base.keep b o e n hb hx) (I.base.free b o e n hx)
  · obtain ⟨sl, e1⟩ := I.base.slot b o e n hb hx
    obtain ⟨sl', e2⟩ := slot b _ (neL b o e) hb (neC b o e hx) e1 (I.base.free b o e n hx)
    exact ⟨sl', e2⟩
  · obtain ⟨o', e1⟩ := I.base.there b o e hx
    exact free b o' (neC b o e hx) e1 (I.base.free b o e n hx)
  · obtain ⟨o', e1⟩ := I.base.there b o e hx
    exact there b o' (neC b o e hx) e1
  · obtain ⟨m1, e1⟩ := I.base.tbls b ps e
    obtain ⟨m2, e2⟩ := tbls b _ e1
    exact ⟨m1 ++ m2, by rw [e2, Array.append_assoc]⟩
  · obtain ⟨m, hn, hl⟩ := I.loc
    refine ⟨m, ns m hn, fun i x v e1 e2 e3 => ?_⟩
    obtain ⟨u, r, l⟩ := hl i x v e1 e2 e3
    refine ⟨u, r, ?_⟩
    rcases l with l | ⟨k, c, e, z⟩
    · exact .inl l
    · exact .inr ⟨k, c, e, cellK x c e _ z⟩
  · obtain ⟨v, z⟩ := I.cell x c e
    exact ⟨v, cellK x c e v z⟩
  · obtain ⟨m, ⟨o, _, _, ho, _⟩, _⟩ := I.loc
    exact free _ o (fun z => (hch _ z).2.1 rfl) ho I.free
  · obtain ⟨v, o, ho, hd⟩ := I.cell x c e
    exact free c o (fun z => (hch c z).2.2.1 x c e rfl) ho (I.freeC x c e)
  · obtain ⟨e, n, ne, nf, d⟩ := I.pin p hp
    have nch : p.1 ∉ ch := fun z => (hch p.1 z).2.2.2 p hp rfl
    exact ⟨keep p.1 p.2 ne nf nch e n, free p.1 p.2 nch e n, ne, nf, d⟩
/-- .. where the frame's own object is kept too -/
theorem Inv.un {t' : Nat} (I : Inv X pins σ H s) (u : Un X.fs [] H H' s.heap h') (hok : HOk X.prog X.w H' h') : Inv X pins σ H' { s with heap := h', toks := t' } := by
  obtain ⟨m, ⟨o, es, ep, ho, r⟩, _⟩ := id I.loc
  obtain ⟨sl, hL⟩ := u.any ho I.free (by simp)
  exact I.step (g' := s.gens) (d' := s.drawn) (ch := []) (fun _ z => nomatch z) (fun b o _ hb _ e n => u.keep b o e n hb (by simp)) (fun b o _ hb _ e n => u.slot b o e n hb (by simp)) (fun b o _ e n => u.free b o e n (by simp)) (fun b o _ e => u.there b o e (by simp)) u.tups u.frzs u.tbls (fun m' hm => by
    obtain ⟨o', es', ep', ho', r'⟩ := hm
    rw [ho] at ho'; cases ho'
    exact ⟨_, es', ep', hL, r'⟩) hok I.bare
/-- behind a call (or a comprehension's block): the slots of this frame may have changed too, the records at ch may have turned -/
theorem Inv.call {g' : Array GenState} {t' : Nat} {d' : Drawn} {ch : List Addr} (I : Inv X pins σ H s) (u : Un (frs X.stack) ch H H' s.heap h') (hok : HOk X.prog X.w H' h') (hg : AllBare g')
    (hch : ∀ b ∈ ch, (b ∈ X.ex ∨ X.s₀.heap.objs.size ≤ b) ∧ b ≠ X.env.locals ∧ (∀ x c, X.env.cells.lookup x = some c → c ≠ b) ∧ ∀ p ∈ X.pn ++ pins, p.1 ≠ b) :
    Inv X pins σ H' { s with heap := h', gens := g', drawn := d', toks := t' } := by
  obtain ⟨m, ⟨o, es, ep, ho, r⟩, _⟩ := id I.loc
  obtain ⟨sl, hL⟩ := u.any ho I.free fun z => (hch _ z).2.1 rfl
  exact I.step (ch := ch) hch (fun b o hL hb hc e n => u.keep b o e n (fun z => (List.mem_cons.mp (I.stkSub b z)).elim hL hb) hc) (fun b o _ _ hc e n => u.any e n hc) (fun b o hc e n => u.free b o e n hc) (fun b o hc e => u.there b o e hc) u.tups u.frzs u.tbls (fun m' hm => by
    obtain ⟨o', es', ep', ho', r'⟩ := hm
    rw [ho] at ho'; cases ho'
    exact ⟨_, es', ep', hL, r'⟩) hok hg
/-- an untracked record of ours (an iterator) has turned -/
theorem Inv.turned {t' : Nat} {it : Addr} (I : Inv X pins σ H s) (k : ∀ b o, b ≠ it → s.heap.get? b = some o → h'.get? b = some o) (hn : H it = none) (hL : it ≠ X.env.locals)
    (h1 : it ∈ X.ex ∨ X.s₀.heap.objs.size ≤ it) (h2 : ∀ x c, X.env.cells.lookup x = some c → c ≠ it) (h3 : ∀ p ∈ X.pn ++ pins, p.1 ≠ it) : Inv X pins σ H { s with heap := h', toks := t' } := by
  have nit : ∀ b u, H b = some u → b ≠ it := fun b u e z => by rw [z, hn] at e; cases e
  refine I.step (g' := s.gens) (d' := s.drawn) (ch := [it]) (fun b hb => ?_) (fun b o _ _ hc e _ => k b o (fun z => hc (by simp [z])) e) (fun b o _ _ hc e _ => ⟨o.slots, k b o (fun z => hc (by simp [z])) e⟩) (fun _ _ _ _ n => n)
    (fun b o hc e => ⟨o, k b o (fun z => hc (by simp [z])) e⟩) (fun _ _ e => e) (fun _ _ _ e => e) (fun b ps e => ⟨#[], by rw [e]; simp⟩) (fun m hm => ?_) (fun b u e => ?_) I.bare
  · have e : b = it := by simpa using hb
    subst e
    exact ⟨h1, hL, h2, h3⟩
  · obtain ⟨o, es, ep, ho, r⟩ := hm
    exact ⟨o, es, ep, k _ o (Ne.symm hL) ho, r⟩
  · refine (I.hok b u e).stay (fun c v hc q => k c v ?_ q) (fun _ q => q) fun _ _ q => q
    rcases hc with z | z
    · rw [z]; exact nit b u e
    · exact nit c _ z
theorem Inv.tok (I : Inv X pins σ H s) (t : Nat) : Inv X pins σ H { s with toks := t } := I.un (h' := s.heap) (t' := t) Un.refl I.hok
/-- all objects kept -/
theorem Inv.kept {t' : Nat} (I : Inv X pins σ H s) (k : ∀ b u, s.heap.get? b = some u → h'.get? b = some u) : Inv X pins σ H { s with heap := h', toks := t' } := I.un (Un.kept k) (I.hok.kept k)
/-- a new object laid and tracked -/
theorem Inv.laid {a : Addr} {o : HO} {t' : Nat} (I : Inv X pins σ H s) (k : ∀ b u, s.heap.get? b = some u → h'.get? b = some u) (hp : s.heap.objs.size ≤ a) (new : ObjOk X.prog X.w (upd H a o) h' a o) :
    Inv X pins σ (upd H a o) { s with heap := h', toks := t' } := I.un (Un.laid k hp (I.hok.fresh hp)) (I.hok.laid k hp new)
/-- an object written -/
theorem Inv.write {x e : Addr} {o : HO} {t' : Nat} (I : Inv X pins σ H s) (mu : Mut (H x)) (he : e = x ∨ H e = some (.own x)) (k : ∀ b u, b ≠ e → s.heap.get? b = some u → h'.get? b = some u) (heo : ∃ u, h'.get? e = some u)
    (new : ObjOk X.prog X.w (upd H x o) h' x o) : Inv X pins σ (upd H x o) { s with heap := h', toks := t' } := I.un (Un.write mu he k heo) (I.hok.write mu he k heo new)
/-- forgetting slots, pins -/
theorem Inv.weak {σ' : List (Option V)} (I : Inv X pins σ H s) (hl : σ'.length = σ.length) (w : ∀ (i : Nat) v, σ'[i]? = some (some v) → σ[i]? = some (some v)) : Inv X pins σ' H s :=
  ⟨I.ok, I.os, I.bare, I.base, let ⟨m, hn, hl'⟩ := I.loc; ⟨m, hn, fun i x v e1 e2 e3 => hl' i x v e1 (w i v e2) e3⟩, I.cell, I.free, I.freeC, I.pin, I.hok, hl.trans I.len⟩
theorem Inv.pins_of {pins' : List (Addr × Obj)} (I : Inv X pins σ H s) (h : ∀ p ∈ pins', s.heap.get? p.1 = some p.2 ∧ H p.1 = none ∧ p.1 ≠ X.env.locals ∧ p.1 ∉ X.fs ∧ ∀ v, p.2.data ≠ .cell v) : Inv X pins' σ H s :=
  ⟨I.ok, I.os, I.bare, I.base, I.loc, I.cell, I.free, I.freeC, fun p hp => (List.mem_append.mp hp).elim (fun z => I.pin p (List.mem_append_left _ z)) (h p), I.hok, I.len⟩

theorem nodup_ix {N : List Str} (hN : N.Nodup) {i j : Nat} {x : Str} (a : N[i]? = some x) (b : N[j]? = some x) : i = j := by
  obtain ⟨h1, e1⟩ := List.getElem?_eq_some_iff.mp a
  obtain ⟨h2, e2⟩ := List.getElem?_eq_some_iff.mp b
  exact (List.getElem_inj hN).mp (e1.trans e2.symm)

/-- a name is stored; what changed -/
theorem store_ok2 {M : Model} {A : Around} {E : Value → Shared → Prop} {i : Nat} {x : Str} {v : V} {u : Value} {Q : Unit → Shared → Prop} (I : Inv X pins σ H s) (hN : X.N.Nodup) (hi : X.N[i]? = some x) (hx : Loc X.env.scope x) (r : RelV v u)
    (h : ∀ s', Inv X pins (σ.set i (some v)) H s' → (∃ a, Heap.SameBut a s.heap s'.heap ∧ (a = X.env.locals ∨ X.env.cells.lookup x = some a)) → Q () s') (hf : X.fn x = true ∨ X.env.scope.names.lookup x = some .local := by first | exact .inl rfl | exact .inr rfl | assumption) : wpAny M A (storeName X.env x u) Q E s := by
  obtain ⟨m, hn, hl⟩ := id I.loc
  have hcls : (X.env.scope.kind == .class || (X.env.scope.kind == .module && X.env.locals != X.env.globals)) = false := by rw [I.ok.kind]; rfl
  have hiσ : i < σ.length := by rw [I.len]; exact (List.getElem?_eq_some_iff.mp hi).1
  have cne := I.cne
  have tracked : ∀ {a : Addr} {h' : Heap}, (∃ o, s.heap.get? a = some o ∧ H a = none) → Heap.SameBut a s.heap h' → HOk X.prog X.w H h' := fun {a h'} ha hs b ob e => by
    obtain ⟨_, _, hfree⟩ := ha
    refine (I.hok b ob e).stay (fun c w' hc q => (hs.2 c ?_).trans q) (fun _ q => q) fun _ _ q => q
    rintro rfl
    rcases hc with rfl | hc
    · rw [hfree] at e; cases e
    · rw [hfree] at hc; cases hc
  rcases hx with hk | hk
  · refine wpAny_storeName_local hk hn (fun h' hn' hs => ?_) hcls
    obtain ⟨oL, _, _, hoL, _⟩ := id hn
    refine h _ ⟨I.ok, I.os, I.bare, ⟨fun b o e n hb hx => ?_, fun b o e n hb hx => ?_, I.base.free, fun b o e hx => ?_, I.base.tups, I.base.frzs, I.base.tbls⟩, ⟨_, hn', fun j y v' e1 e2 e3 => ?_⟩, fun y c e => ?_, I.free, I.freeC, fun p hp => ?_, tracked ⟨oL, hoL, I.free⟩ hs, by simpa using I.len⟩ ⟨_, hs, .inl rfl⟩
    · exact (hs.2 b (Nat.ne_of_lt (Nat.lt_of_lt_of_le (Heap.lt_size e) I.ok.above))).trans (I.base.keep b o e n hb hx)
    · obtain ⟨sl, e1⟩ := I.base.slot b o e n hb hx
      exact ⟨sl, (hs.2 b (Nat.ne_of_lt (Nat.lt_of_lt_of_le (Heap.lt_size e) I.ok.above))).trans e1⟩
    · obtain ⟨o', e1⟩ := I.base.there b o e hx
      exact ⟨o', (hs.2 b (Nat.ne_of_lt (Nat.lt_of_lt_of_le (Heap.lt_size e) I.ok.above))).trans e1⟩
    · by_cases hj : j = i
      · subst hj
        rw [hi] at e1; cases e1
        rw [List.getElem?_set_self hiσ] at e2
        cases e2
        exact ⟨u, r, .inl ⟨hk, by simp⟩⟩
      · rw [List.getElem?_set_ne (Ne.symm hj)] at e2
        obtain ⟨u', r', q⟩ := hl j y v' e1 e2 e3
        refine ⟨u', r', ?_⟩
        rcases q with ⟨k, e⟩ | ⟨k, c, e, z⟩
        · refine .inl ⟨k, ?_⟩
          have : y ≠ x := fun e => hj (nodup_ix hN e1 (e ▸ hi))
          simp [this, e]
        · exact .inr ⟨k, c, e, z.sameBut hs (cne y c e)⟩
    · obtain ⟨w', z⟩ := I.cell y c e
      exact ⟨w', z.sameBut hs (cne y c e)⟩
    · obtain ⟨e, n, ne, nf, d⟩ := I.pin p hp
      exact ⟨(hs.2 p.1 ne).trans e, n, ne, nf, d⟩
  · have hfn : X.fn x = true := by
      rcases hf with z | z
      · exact z
      · rw [z] at hk; cases hk
    obtain ⟨c, hc⟩ := I.ok.has x (.inl hk)
    obtain ⟨w', z⟩ := I.cell x c hc
    refine wpAny_storeName_cell I.ok.kind hk hc z (fun h' hc' hs => ?_)
    obtain ⟨oc, hoc, hocd⟩ := id z
    refine h { s with heap := h' } ⟨I.ok, I.os, I.bare, ⟨fun b o e n hb hx => ?_, fun b o e n hb hx => ?_, I.base.free, fun b o e hx => ?_, I.base.tups, I.base.frzs, I.base.tbls⟩, ⟨m, hn.sameBut hs (Ne.symm (cne x c hc)), fun j y v' e1 e2 e3 => ?_⟩, fun y c' e => ?_, I.free, I.freeC, fun p hp => ?_, tracked ⟨oc, hoc, I.freeC x c hc⟩ hs, by simpa using I.len⟩ ⟨c, hs, .inr hc⟩
    · exact (hs.2 b (Nat.ne_of_lt (Nat.lt_of_lt_of_le (Heap.lt_size e) (I.ok.cab x c hfn hc)))).trans (I.base.keep b o e n hb hx)
    · obtain ⟨sl, e1⟩ := I.base.slot b o e n hb hx
      exact ⟨sl, (hs.2 b (Nat.ne_of_lt (Nat.lt_of_lt_of_le (Heap.lt_size e) (I.ok.cab x c hfn hc)))).trans e1⟩
    · obtain ⟨o', e1⟩ := I.base.there b o e hx
      exact ⟨o', (hs.2 b (Nat.ne_of_lt (Nat.lt_of_lt_of_le (Heap.lt_size e) (I.ok.cab x c hfn hc)))).trans e1⟩
    · by_cases hj : j = i
      · subst hj
        rw [hi] at e1; cases e1
        rw [List.getElem?_set_self hiσ] at e2
        cases e2
        exact ⟨u, r, .inr ⟨.inl hk, c, hc, hc'⟩⟩
      · rw [List.getElem?_set_ne (Ne.symm hj)] at e2
        obtain ⟨u', r', q⟩ := hl j y v' e1 e2 e3
        refine ⟨u', r', ?_⟩
        rcases q with q | ⟨k, c', e, z'⟩
        · exact .inl q
        · refine .inr ⟨k, c', e, z'.sameBut hs ?_⟩
          rintro rfl
          exact hj (nodup_ix hN e1 (I.ok.inj _ _ _ e hc ▸ hi))
    · by_cases hcc : c' = c
      · subst hcc; exact ⟨_, hc'⟩
      · obtain ⟨w2, z2⟩ := I.cell y c' e
        exact ⟨w2, z2.sameBut hs hcc⟩
    · obtain ⟨e, n, ne, nf, d⟩ := I.pin p hp
      refine ⟨(hs.2 p.1 ?_).trans e, n, ne, nf, d⟩
      intro q
      rw [q, hoc] at e
      have q' : oc = p.2 := Option.some.inj e
      exact d w' (by rw [← q']; exact hocd)
theorem store_ok {M : Model} {A : Around} {E : Value → Shared → Prop} {i : Nat} {x : Str} {v : V} {u : Value} {Q : Unit → Shared → Prop} (I : Inv X pins σ H s) (hN : X.N.Nodup) (hi : X.N[i]? = some x) (hx : Loc X.env.scope x) (r : RelV v u)
    (h : ∀ s', Inv X pins (σ.set i (some v)) H s' → Q () s') (hf : X.fn x = true ∨ X.env.scope.names.lookup x = some .local := by first | exact .inl rfl | exact .inr rfl | assumption) : wpAny M A (storeName X.env x u) Q E s :=
  store_ok2 I hN hi hx r (fun s' I' _ => h s' I') hf
/-- behind a call or a block, the state as it is -/
theorem Inv.call' {s' : Shared} {ch : List Addr} (I : Inv X pins σ H s) (ho : s'.os = s.os) (u : Un (frs X.stack) ch H H' s.heap s'.heap) (hok : HOk X.prog X.w H' s'.heap) (hg : AllBare s'.gens)
    (hch : ∀ b ∈ ch, (b ∈ X.ex ∨ X.s₀.heap.objs.size ≤ b) ∧ b ≠ X.env.locals ∧ (∀ x c, X.env.cells.lookup x = some c → c ≠ b) ∧ ∀ p ∈ X.pn ++ pins, p.1 ≠ b) : Inv X pins σ H' s' := by
  obtain ⟨h', g', d', t', o'⟩ := s'
  have e : o' = s.os := ho
  subst e
  exact I.call (g' := g') (t' := t') (d' := d') u hok hg hch
end

/-! ### the judgements -/
/-- an exception: its class, its own dict's address (where it has one), the abstract heap behind it -/
abbrev XK := Value → Option Addr → Hp → Prop
abbrev St := List (Option V)
abbrev VK := V → Hp → Prop
/-- an expression's reading; a test's; an argument list's -/
abbrev TE := St → Hp → VK → Prop
abbrev TT := St → Hp → (Bool → Hp → Prop) → Prop
abbrev TA := St → Hp → (List V → Hp → Prop) → Prop
/-- what is wanted behind a statement -/
structure Ends where
  nx : St → Hp → Prop
  rt : VK
  bk : St → Hp → Prop := fun _ _ => False
  ct : St → Hp → Prop := fun _ _ => False
abbrev TS := Ends → St → Hp → Prop

def EP (X : Cx) (pins : List (Addr × Obj)) (σ : St) (Q : VK) (u : Value) (s' : Shared) : Prop := ∃ v H', Inv X pins σ H' s' ∧ RelV v u ∧ Q v H'
def TP (X : Cx) (pins : List (Addr × Obj)) (σ : St) (Q : Bool → Hp → Prop) (b : Bool) (s' : Shared) : Prop := ∃ H', Inv X pins σ H' s' ∧ Q b H'
def AP (X : Cx) (pins : List (Addr × Obj)) (σ : St) (Q : List V → Hp → Prop) (us : List Value) (s' : Shared) : Prop := ∃ vs H', Inv X pins σ H' s' ∧ Vals vs us ∧ Q vs H'
def SP (X : Cx) (pins : List (Addr × Obj)) (D : Ends) (f : Flow) (s' : Shared) : Prop :=
  match f with
  | .next => ∃ σ' H', Inv X pins σ' H' s' ∧ D.nx σ' H'
  | .brk => ∃ σ' H', Inv X pins σ' H' s' ∧ D.bk σ' H'
  | .cont => ∃ σ' H', Inv X pins σ' H' s' ∧ D.ct σ' H'
  | .ret u => ∃ v σ' H', Inv X pins σ' H' s' ∧ RelV v u ∧ D.rt v H'

def PE (X : Cx) (e : Expr) (t : TE) : Prop :=
  ∀ (pins : List (Addr × Obj)) (s : Shared) (σ : St) (H : Hp) (Q : VK), Inv X pins σ H s → t σ H Q → wpAny (model X.prog X.w) X.A (eval e X.env) (EP X pins σ Q) X.xe s
def PT (X : Cx) (e : Expr) (t : TT) : Prop :=
  ∀ (pins : List (Addr × Obj)) (s : Shared) (σ : St) (H : Hp) (Q : Bool → Hp → Prop), Inv X pins σ H s → t σ H Q → wpAny (model X.prog X.w) X.A (isTrue e X.env (eval e X.env)) (TP X pins σ Q) X.xe s
/-- a test whatever its 'whole' is (and, or) -/
def PW (X : Cx) (e : Expr) (t : TT) : Prop :=
  ∀ (whole : Sem Value) (pins : List (Addr × Obj)) (s : Shared) (σ : St) (H : Hp) (Q : Bool → Hp → Prop), Inv X pins σ H s → t σ H Q → wpAny (model X.prog X.w) X.A (isTrue e X.env whole) (TP X pins σ Q) X.xe s
theorem PW.pt {X : Cx} {e : Expr} {t : TT} (h : PW X e t) : PT X e t := h _
/-- an argument list (no star), from the left -/
def PA (X : Cx) (es : List Expr) (t : TA) : Prop :=
  ∀ (pos : Pos) (pins : List (Addr × Obj)) (s : Shared) (σ : St) (H : Hp) (Q : List V → Hp → Prop), Inv X pins σ H s → t σ H Q → wpAny (model X.prog X.w) X.A (spliced (backTo pos (starEach es X.env))) (AP X pins σ Q) X.xe s
def PS (X : Cx) (st : Stmt) (t : TS) : Prop :=
  ∀ (pins : List (Addr × Obj)) (s : Shared) (σ : St) (H : Hp) (D : Ends), Inv X pins σ H s → t D σ H → wpAny (model X.prog X.w) X.A (exec st X.env) (SP X pins D) X.xe s
def PSs (X : Cx) (st : List Stmt) (t : TS) : Prop :=
  ∀ (pins : List (Addr × Obj)) (s : Shared) (σ : St) (H : Hp) (D : Ends), Inv X pins σ H s → t D σ H → wpAny (model X.prog X.w) X.A (execs st X.env) (SP X pins D) X.xe s
/-- weaken the end -/
theorem thn {α : Type} {t : Sem α} {Q Q' : α → Shared → Prop} {M : Model} {A : Around} {E : Value → Shared → Prop} {s : Shared} (h : wpAny M A t Q E s) (hQ : ∀ a s, Q a s → Q' a s) : wpAny M A t Q' E s := wpAny_mono h hQ fun _ _ x => x
end L2

namespace L2
open PySem PySem.Spec PyProof.Rows
section
variable {X : Cx}

/-! ### names and constants -/
def tVar (i : Nat) : TE := fun σ H Q => ∃ v, σ[i]? = some (some v) ∧ Q v H
def tC (v : V) : TE := fun _ H Q => Q v H
theorem pe_var {i : Nat} {x : Str} {pos : Pos} (hN : X.N[i]? = some x) (hv : Vis X.env.scope x) (hd : (x == ("__debug__" : Str)) = false := by decide) (hcd : (x == ("__classdict__" : Str)) = false := by decide) : PE X (.Name x pos) (tVar i) := by
  intro pins s σ H Q I h
  obtain ⟨v, e, h⟩ := h
  obtain ⟨m, hn, hl⟩ := I.loc
  obtain ⟨u, r, l⟩ := hl i x v hN e hv
  have fin : EP X pins σ Q u s := ⟨v, H, I, r, h⟩
  rcases l with ⟨hk, hm⟩ | ⟨hk, c, hc, hcell⟩
  · exact wpAny_Name (wpAny_loadName_local I.ok.kind hk hn hm fin) hd
  · rcases hk with hk | hk
    · exact wpAny_Name (wpAny_loadName_cell I.ok.kind hk hc hcell fin) hd
    · exact wpAny_Name (wpAny_loadName_free I.ok.kind hk hc hcell fin hcd) hd
theorem pe_int {i j pos} : PE X (.Constant (.int i) j pos) (tC (.int i)) := fun _ _ _ H _ I h => wpAny_Constant_int ⟨.int i, H, I.tok _, ⟨_, rfl⟩, h⟩
theorem pe_bl {b j pos} : PE X (.Constant (.bool b) j pos) (tC (.bl b)) := fun _ _ _ H _ I h => Constant_bool ⟨.bl b, H, I, rfl, h⟩
theorem pe_non {j pos} : PE X (.Constant .none j pos) (tC .non) := fun _ _ _ H _ I h => Constant_none ⟨.non, H, I, rfl, h⟩
theorem pe_str {x j pos} : PE X (.Constant (.str x) j pos) (tC (.str x)) := fun _ _ _ H _ I h => Calls.Constant_str ⟨.str x, H, I.tok _, ⟨_, rfl⟩, h⟩

/-- a global name of the def -/
def Gl (X : Cx) (x : Str) : Prop := X.env.kindOf x = some .globalImplicit
theorem ld_glob {E : Value → Shared → Prop} {pins : List (Addr × Obj)} {s : Shared} {σ : St} {H : Hp} {x : Str} {u : Value} {pos : Pos} {Q : Value → Shared → Prop} (I : Inv X pins σ H s) (hg : Gl X x) (hm : X.mg x = some u) (h : Q u s)
    (hd : (x == ("__debug__" : Str)) = false := by decide) : wpAny (model X.prog X.w) X.A (eval (.Name x pos) X.env) Q E s :=
  Calls.Name_function_global I.ok.kind hg (Calls.loadGlobal_global (by rw [I.ok.glob]; exact I.mod.glob.keeps I.bk) hm h) hd
theorem ld_blt {E : Value → Shared → Prop} {pins : List (Addr × Obj)} {s : Shared} {σ : St} {H : Hp} {x : Str} {u : Value} {pos : Pos} {Q : Value → Shared → Prop} (I : Inv X pins σ H s) (hg : Gl X x) (hm : X.mg x = none) (hv : bootBuiltins x = some u) (h : Q u s)
    (hn : x ≠ "__name__" := by decide) (hd : (x == ("__debug__" : Str)) = false := by decide) : wpAny (model X.prog X.w) X.A (eval (.Name x pos) X.env) Q E s := by
  obtain ⟨mb, h1, h2⟩ := I.mod.blt
  exact Calls.Name_function_global I.ok.kind hg (Calls.loadGlobal_builtin (by rw [I.ok.glob]; exact I.mod.glob.keeps I.bk) hm (by rw [I.ok.blt]; exact h1.keeps I.bk) ((h2 x hn).trans hv) h) hd
theorem pe_bltn {x : Str} {v : V} {u : Value} {pos : Pos} (hg : Gl X x) (hm : X.mg x = none) (hv : bootBuiltins x = some u) (r : RelV v u) (hn : x ≠ "__name__" := by decide) (hd : (x == ("__debug__" : Str)) = false := by decide) : PE X (.Name x pos) (tC v) :=
  fun _ _ _ H _ I h => ld_blt I hg hm hv ⟨v, H, I, r, h⟩ hn hd

/-! ### arithmetic -/
variable {a b : Expr} {ta tb : TE} {pos : Pos}
/-! ### comparisons -/
/-! ### and, or, not -/
variable {tA tB' : TT} {rest : List Expr}
def tAnd (t u : TT) : TT := fun σ H Q => t σ H fun c H1 => if c = true then u σ H1 Q else Q false H1
def tOr (t u : TT) : TT := fun σ H Q => t σ H fun c H1 => if c = true then Q true H1 else u σ H1 Q
def tNot (t : TT) : TT := fun σ H Q => t σ H fun c H1 => Q (!c) H1
theorem pw_and1 (ha : PT X a tA) : PW X (.BoolOp .And [a] pos) tA := by
  intro wh pins s σ H Q I h
  refine isTrue_and (thn (ha pins s σ H Q I h) fun c s1 e => ?_)
  cases c with
  | true => exact isTrue_and_nil e
  | false => exact e
theorem pw_or1 (ha : PT X a tA) : PW X (.BoolOp .Or [a] pos) tA := by
  intro wh pins s σ H Q I h
  refine isTrue_or (thn (ha pins s σ H Q I h) fun c s1 e => ?_)
  cases c with
  | false => exact isTrue_or_nil e
  | true => exact e
theorem pw_and (ha : PT X a tA) (hb : PW X (.BoolOp .And (b :: rest) pos) tB') : PW X (.BoolOp .And (a :: b :: rest) pos) (tAnd tA tB') := by
  intro wh pins s σ H Q I h
  refine isTrue_and (thn (ha pins s σ H _ I h) fun c s1 ⟨H1, I1, q1⟩ => ?_)
  cases c with
  | true => exact hb wh pins s1 σ H1 Q I1 q1
  | false => exact ⟨H1, I1, q1⟩
theorem pw_or (ha : PT X a tA) (hb : PW X (.BoolOp .Or (b :: rest) pos) tB') : PW X (.BoolOp .Or (a :: b :: rest) pos) (tOr tA tB') := by
  intro wh pins s σ H Q I h
  refine isTrue_or (thn (ha pins s σ H _ I h) fun c s1 ⟨H1, I1, q1⟩ => ?_)
  cases c with
  | true => exact ⟨H1, I1, q1⟩
  | false => exact hb wh pins s1 σ H1 Q I1 q1
theorem pt_not (ha : PT X a tA) : PT X (.UnaryOp .Not a pos) (tNot tA) := by
  intro pins s σ H Q I h
  exact isTrue_not (ha pins s σ H (fun c H1 => Q (!c) H1) I h)
/-- .. as values (bools) -/
def tAndV (ta tb : TE) : TE := fun σ H Q => ta σ H fun x H1 => ∃ c, x = .bl c ∧ if c = true then tb σ H1 Q else Q (.bl false) H1
def tOrV (ta tb : TE) : TE := fun σ H Q => ta σ H fun x H1 => ∃ c, x = .bl c ∧ if c = true then Q (.bl true) H1 else tb σ H1 Q
def tNotV (ta : TE) : TE := fun σ H Q => ta σ H fun x H1 => ∃ c, x = .bl c ∧ Q (.bl (!c)) H1
theorem pe_one {op} {t : TE} (h : PE X a t) : PE X (.BoolOp op [a] pos) t := fun pins s σ H Q I hw => BoolOp_one (h pins s σ H Q I hw)
theorem pe_and (ha : PE X a ta) (hb : PE X (.BoolOp .And (b :: rest) pos) tb) : PE X (.BoolOp .And (a :: b :: rest) pos) (tAndV ta tb) := by
  intro pins s σ H Q I h
  refine BoolOp_and (thn (ha pins s σ H _ I h) fun v s1 ⟨x, H1, I1, r1, q1⟩ => ?_)
  obtain ⟨c, rfl, q1⟩ := q1
  cases r1
  refine wpAny_truthy_bool ?_
  cases c with
  | true => exact hb pins s1 σ H1 Q I1 q1
  | false => exact ⟨.bl false, H1, I1, rfl, q1⟩
/-- a if t else b -/
def tIf (t : TT) (ta tb : TE) : TE := fun σ H Q => t σ H fun c H1 => if c = true then ta σ H1 Q else tb σ H1 Q
end
end L2

namespace L2
open PySem PySem.Spec PyProof.Rows

/-! ### a list, a tuple that is read: tracked, frozen, or an object of the module -/
def SqL (K : PySem.W.Frag) (H : Hp) (a : Addr) (xs : List V) : Prop :=
  Rd H a (.lst xs) ∨
    ∃ (o : Obj) (its : Array Value) (n : Nat), K.lookup a = some o ∧ o.cls = .type "list" ∧ o.dict = none ∧ o.data = .seq its n ∧ its.size ≤ sizeLine ∧ Vals xs its.toList
def SqT (K : PySem.W.Frag) (H : Hp) (a : Addr) (xs : List V) : Prop :=
  Rd H a (.tup xs) ∨
    ∃ (o : Obj) (its : Array Value) (n : Nat), K.lookup a = some o ∧ o.cls = .type "tuple" ∧ o.data = .seq its n ∧ its.size ≤ sizeLine ∧ Vals xs its.toList
def absV : Value → Option V
  | .none => some .non
  | .bool b => some (.bl b)
  | .int i _ => some (.int i)
  | .str x _ => some (.str x)
  | .bytes b _ => some (.byt b)
  | .float b _ => some (.flt b)
  | .ref a => some (.ref a)
  | .type n => some (.ty n)
  | _ => none
theorem RelV.abs {x : V} {u : Value} (r : RelV x u) : absV u = some x := by
  cases x with
  | non => cases r; rfl
  | bl _ => cases r; rfl
  | int _ => obtain ⟨t, rfl⟩ := r; rfl
  | str _ => obtain ⟨t, rfl⟩ := r; rfl
  | byt _ => obtain ⟨t, rfl⟩ := r; rfl
  | flt _ => obtain ⟨t, rfl⟩ := r; rfl
  | ref _ => cases r; rfl
  | ty _ => cases r; rfl
theorem RelV.inj {x y : V} {u : Value} (r : RelV x u) (q : RelV y u) : x = y := Option.some.inj (r.abs.symm.trans q.abs)
theorem Vals.inj : ∀ {xs ys : List V} {us : List Value}, Vals xs us → Vals ys us → xs = ys
  | _, _, _, .nil, .nil => rfl
  | _, _, _, .cons r t, .cons r' t' => by rw [r.inj r', Vals.inj t t']
section
variable {X : Cx} {pins : List (Addr × Obj)} {σ : St} {H : Hp} {s : Shared} {a : Addr} {xs ys : List V}
theorem SqL.of {K : PySem.W.Frag} (h : H a = some (.lst xs)) : SqL K H a xs := .inl (.inl h)
theorem SqT.of {K : PySem.W.Frag} (h : H a = some (.tup xs)) : SqT K H a xs := .inl (.inl h)
theorem Inv.list (I : Inv X pins σ H s) (h : SqL X.K H a xs) : ∃ its : List Value, Vals xs its ∧ PlainL s.heap a its.toArray ∧ xs.length ≤ sizeLine := by
  rcases h with h | ⟨o, its, n, hk, hc, hd, hs, hz, r⟩
  · obtain ⟨z, its, n, r, e⟩ := h.ok I.hok
    exact ⟨its, r, ⟨_, n, e, rfl, rfl, rfl⟩, z⟩
  · refine ⟨its.toList, r, ⟨o, n, I.kIn a o hk, hc, hd, by simpa using hs⟩, ?_⟩
    have e := r.length
    simp only [Array.length_toList] at e
    omega
theorem Inv.tuple (I : Inv X pins σ H s) (h : SqT X.K H a xs) : ∃ its : List Value, Vals xs its ∧ IsTup s.heap a its.toArray ∧ xs.length ≤ sizeLine := by
  rcases h with h | ⟨o, its, n, hk, hc, hs, hz, r⟩
  · obtain ⟨z, its, r, p⟩ := h.ok I.hok
    exact ⟨its, r, p, z⟩
  · refine ⟨its.toList, r, ⟨o, I.kIn a o hk, hc, n, by simpa using hs⟩, ?_⟩
    have e := r.length
    simp only [Array.length_toList] at e
    omega
theorem Inv.list_inj (I : Inv X pins σ H s) (h : SqL X.K H a xs) (h' : SqL X.K H a ys) : xs = ys := by
  obtain ⟨its, r, ⟨o, n, e, _, _, d⟩, _⟩ := I.list h
  obtain ⟨its', r', ⟨o', n', e', _, _, d'⟩, _⟩ := I.list h'
  rw [e] at e'; cases e'
  rw [d] at d'
  injection d' with d1 _
  have : its = its' := by simpa using congrArg Array.toList d1
  subst this
  exact r.inj r'
theorem Inv.tuple_inj (I : Inv X pins σ H s) (h : SqT X.K H a xs) (h' : SqT X.K H a ys) : xs = ys := by
  obtain ⟨its, r, ⟨o, e, _, n, d⟩, _⟩ := I.tuple h
  obtain ⟨its', r', ⟨o', e', _, n', d'⟩, _⟩ := I.tuple h'
  rw [e] at e'; cases e'
  rw [d] at d'
  injection d' with d1 _
  have : its = its' := by simpa using congrArg Array.toList d1
  subst this
  exact r.inj r'
end

/-! ### another wish about exceptions -/
abbrev Cx.wish (X : Cx) (E : Value → Shared → Prop) : Cx := { X with xe := E }
/-- no exception leaves -/
abbrev Cx.nox (X : Cx) : Cx := X.wish fun _ _ => False
theorem Cx.Ok.wish {X : Cx} (ok : X.Ok) (E : Value → Shared → Prop) : (X.wish E).Ok :=
  ⟨ok.mod, ok.kind, ok.glob, ok.blt, ok.above, ok.inj, ok.has, ok.cab, ok.hd, ok.frames, ok.stk, ok.exf, ok.bs, ok.bsz, ok.noex, ok.exfs, ok.funs, ok.frf⟩
theorem Cx.Ok.unwish {X : Cx} {E : Value → Shared → Prop} (ok : (X.wish E).Ok) : X.Ok :=
  ⟨ok.mod, ok.kind, ok.glob, ok.blt, ok.above, ok.inj, ok.has, ok.cab, ok.hd, ok.frames, ok.stk, ok.exf, ok.bs, ok.bsz, ok.noex, ok.exfs, ok.funs, ok.frf⟩
section
variable {X : Cx} {pins : List (Addr × Obj)} {σ : St} {H : Hp} {s : Shared} {E : Value → Shared → Prop}
theorem Inv.wish (I : Inv X pins σ H s) (E : Value → Shared → Prop) : Inv (X.wish E) pins σ H s := ⟨I.ok.wish E, I.os, I.bare, I.base, I.loc, I.cell, I.free, I.freeC, I.pin, I.hok, I.len⟩
theorem Inv.unwish (I : Inv (X.wish E) pins σ H s) : Inv X pins σ H s := ⟨I.ok.unwish, I.os, I.bare, I.base, I.loc, I.cell, I.free, I.freeC, I.pin, I.hok, I.len⟩
theorem SP.unwish {D : Ends} {f : Flow} {s' : Shared} (h : SP (X.wish E) pins D f s') : SP X pins D f s' := by
  cases f with
  | next => obtain ⟨σ', H', I, q⟩ := h; exact ⟨σ', H', I.unwish, q⟩
  | brk => obtain ⟨σ', H', I, q⟩ := h; exact ⟨σ', H', I.unwish, q⟩
  | cont => obtain ⟨σ', H', I, q⟩ := h; exact ⟨σ', H', I.unwish, q⟩
  | ret u => obtain ⟨v, σ', H', I, r, q⟩ := h; exact ⟨v, σ', H', I.unwish, r, q⟩
theorem PE.nox {e : Expr} {t : TE} (h : PE X.nox e t) : PE X e t := fun pins s σ H Q I hw =>
  wpAny_mono (h pins s σ H Q (I.wish _) hw) (fun _ _ ⟨v, H', I', r, q⟩ => ⟨v, H', I'.unwish, r, q⟩) fun _ _ z => False.elim z
theorem PT.nox {e : Expr} {t : TT} (h : PT X.nox e t) : PT X e t := fun pins s σ H Q I hw =>
  wpAny_mono (h pins s σ H Q (I.wish _) hw) (fun _ _ ⟨H', I', q⟩ => ⟨H', I'.unwish, q⟩) fun _ _ z => False.elim z
theorem PSs.nox {st : List Stmt} {t : TS} (h : PSs X.nox st t) : PSs X st t := fun pins s σ H D I hw =>
  wpAny_mono (h pins s σ H D (I.wish _) hw) (fun _ _ q => q.unwish) fun _ _ z => False.elim z
end

/-! ### blocks and small statements -/
section
variable {X : Cx} {st : Stmt} {rest : List Stmt} {t u : TS} {e : Expr} {te : TE} {pos : Pos}
def tNext : TS := fun D σ H => D.nx σ H
def tSeq (t u : TS) : TS := fun D σ H => t { D with nx := u D } σ H
theorem pss_nil : PSs X [] tNext := fun _ _ σ H _ I h => wpAny_execs_nil ⟨σ, H, I, h⟩
theorem pss_cons (h1 : PS X st t) (h2 : PSs X rest u) : PSs X (st :: rest) (tSeq t u) := by
  intro pins s σ H D I h
  refine wpAny_execs_cons (thn (h1 pins s σ H { D with nx := u D } I h) fun f s1 q => ?_)
  cases f with
  | next =>
    obtain ⟨σ', H', I', q⟩ := q
    exact h2 pins s1 σ' H' D I' q
  | ret v => exact q
  | brk => exact q
  | cont => exact q
theorem pss_one (h1 : PS X st t) : PSs X [st] t := by
  intro pins s σ H D I h
  refine wpAny_execs_cons (thn (h1 pins s σ H D I h) fun f s1 q => ?_)
  cases f with
  | next => exact wpAny_execs_nil q
  | ret v => exact q
  | brk => exact q
  | cont => exact q
/-- in a def's body nothing is shown -/
theorem Inv.quiet {pins : List (Addr × Obj)} {σ : St} {H : Hp} {s : Shared} (I : Inv X pins σ H s) : interactive X.env = false := by simp [interactive, I.ok.kind]
/-- an expression whose value is dropped -/
def tDrop (te : TE) : TS := fun D σ H => te σ H fun _ H1 => D.nx σ H1
theorem ps_expr (he : PE X e te) (hs : swapsWith e none pos.line X.env = pure false := by rfl) : PS X (.Expr e pos) (tDrop te) := by
  intro pins s σ H D I h
  exact wpAny_Expr_any (thn (he pins s σ H _ I h) fun v s1 ⟨x, H1, I1, r1, q1⟩ => ⟨σ, H1, I1, q1⟩) I.quiet hs
def tRet (te : TE) : TS := fun D σ H => te σ H D.rt
theorem ps_ret (he : PE X e te) : PS X (.Return (some e) pos) (tRet te) := by
  intro pins s σ H D I h
  exact wpAny_Return_some (thn (he pins s σ H _ I h) fun v s1 ⟨x, H1, I1, r1, q1⟩ => ⟨x, σ, H1, I1, r1, q1⟩)
def tRetN : TS := fun D _ H => D.rt .non H
def tIfS (c : TT) (t u : TS) : TS := fun D σ H => c σ H fun b H1 => if b = true then t D σ H1 else u D σ H1
theorem ps_if {c : Expr} {a b : List Stmt} {tc : TT} (hc : PT X c tc) (ha : PSs X a t) (hb : PSs X b u) : PS X (.If c a b pos) (tIfS tc t u) := by
  intro pins s σ H D I h
  refine wpAny_If (thn (hc pins s σ H _ I h) fun d s1 ⟨H1, I1, q1⟩ => ?_)
  cases d with
  | true => exact ha pins s1 σ H1 D I1 q1
  | false => exact hb pins s1 σ H1 D I1 q1
/-- code that the proof never comes to -/
def tNever : TS := fun _ _ _ => False
theorem ps_never : PS X st tNever := fun _ _ _ _ _ _ h => h.elim
end

/-! ### targets -/
abbrev TG := V → St → Hp → (St → Hp → Prop) → Prop
abbrev TGs := List V → St → Hp → (St → Hp → Prop) → Prop
def PG (X : Cx) (target : Expr) (t : TG) : Prop :=
  ∀ (pins : List (Addr × Obj)) (s : Shared) (σ : St) (H : Hp) (v : V) (u : Value) (Q : St → Hp → Prop), Inv X pins σ H s → RelV v u → t v σ H Q →
    wpAny (model X.prog X.w) X.A (assign target X.env u) (fun _ s' => ∃ σ' H', Inv X pins σ' H' s' ∧ Q σ' H') X.xe s
/-- several targets, one after another -/
def PGs (X : Cx) (ts : List Expr) (t : TGs) : Prop :=
  ∀ (pins : List (Addr × Obj)) (s : Shared) (σ : St) (H : Hp) (vs : List V) (us : List Value) (Q : St → Hp → Prop), Inv X pins σ H s → Vals vs us → t vs σ H Q →
    wpAny (model X.prog X.w) X.A (assignInOrder ((assignEach ts X.env).map (·.2)) us) (fun _ s' => ∃ σ' H', Inv X pins σ' H' s' ∧ Q σ' H') X.xe s
/-- o[i] = v, by values -/
abbrev TSet := V → V → V → Hp → (Hp → Prop) → Prop
def PSet (X : Cx) (t : TSet) : Prop :=
  ∀ (pins : List (Addr × Obj)) (s : Shared) (σ : St) (H : Hp) (o i v : V) (ov iv u : Value) (Q : Hp → Prop), Inv X pins σ H s → RelV o ov → RelV i iv → RelV v u → t o i v H Q →
    wpAny (model X.prog X.w) X.A (setItem ov iv u) (fun _ s' => ∃ H', Inv X pins σ H' s' ∧ Q H') X.xe s
section
variable {X : Cx} {pos : Pos}
def gName (i : Nat) : TG := fun v σ H Q => Q (σ.set i (some v)) H
theorem pg_name {i : Nat} {x : Str} (hN : X.N.Nodup) (hi : X.N[i]? = some x) (hx : Loc X.env.scope x) (hf : X.fn x = true ∨ X.env.scope.names.lookup x = some .local := by first | exact .inl rfl | exact .inr rfl | assumption) : PG X (.Name x pos) (gName i) := by
  intro pins s σ H v u Q I r h
  exact wpAny_assign_Name (store_ok I hN hi hx r (fun s' I' => ⟨_, H, I', h⟩) hf)
def gNil : TGs := fun vs σ H Q => vs = [] ∧ Q σ H
def gCons (t : TG) (u : TGs) : TGs := fun vs σ H Q => ∃ v r, vs = v :: r ∧ t v σ H fun σ' H' => u r σ' H' Q
theorem pgs_nil : PGs X [] gNil := by
  intro pins s σ H vs us Q I r h
  obtain ⟨e, h⟩ := h
  subst e
  cases r
  exact assignInOrder_nil ⟨σ, H, I, h⟩
theorem pgs_cons {e : Expr} {es : List Expr} {t : TG} {u : TGs} (h1 : PG X e t) (h2 : PGs X es u)
    (hs : (assignEach (e :: es) X.env).map (·.2) = assign e X.env :: (assignEach es X.env).map (·.2) := by rfl) : PGs X (e :: es) (gCons t u) := by
  intro pins s σ H vs us Q I r h
  obtain ⟨v, vr, e1, h⟩ := h
  subst e1
  cases r with
  | cons r rr =>
    rw [hs]
    refine assignInOrder_cons (thn (h1 pins s σ H _ _ _ I r h) fun _ s1 ⟨σ1, H1, I1, q1⟩ => ?_)
    exact h2 pins s1 σ1 H1 _ _ Q I1 rr q1
/-- (a, b, ..) = a tuple of that length -/
def gTup (K : PySem.W.Frag) (n : Nat) (t : TGs) : TG := fun v σ H Q => ∃ a xs, v = .ref a ∧ SqT K H a xs ∧ xs.length = n ∧ t xs σ H Q
theorem pg_tup {es : List Expr} {k : Nat} {t : TGs} {n : Nat} (hc : X.calm = true) (h : PGs X es t)
    (hn : (assignEach es X.env).length = n := by rfl) (hst : (assignEach es X.env).findIdx? (·.1) = none := by rfl) : PG X (.Tuple es k pos) (gTup X.K n t) := by
  intro pins s σ H v u Q I r hw
  obtain ⟨a, xs, e1, hq, hl, hw⟩ := hw
  subst e1
  cases r
  obtain ⟨its, rv, ht, hz⟩ := I.tuple hq
  refine assign_Tuple_tuple (I.ok.hd hc) ht (by simp [hn, ← hl, rv.length]) hst fun h' hx => ?_
  have I1 : Inv X pins σ H { s with heap := h' } := I.kept (t' := s.toks) fun b o e => hx b o (Nat.ne_of_lt (Heap.lt_size e)) e
  exact h pins _ σ H xs _ Q I1 (by simpa using rv) hw
/-- o[i] = .. -/
def gSub (to ti : TE) (t : TSet) : TG := fun v σ H Q => to σ H fun o H1 => ti σ H1 fun i H2 => t o i v H2 fun H3 => Q σ H3
theorem pg_sub {o i : Expr} {to ti : TE} {t : TSet} (ho : PE X o to) (hi : PE X i ti) (hs : PSet X t)
    (ha : ∀ v, assign (.Subscript o i pos) X.env v = (do
      let ov ← holding [v] (eval o X.env)
      let iv ← holding [v, ov] (eval i X.env)
      standAt pos
      holding [v, ov, iv] (setItem ov iv v)
      release [v, ov, iv] []) := by intro _; rfl) : PG X (.Subscript o i pos) (gSub to ti t) := by
  intro pins s σ H v u Q I r h
  rw [ha]
  refine wpAny_bind (wpAny_holding (thn (ho pins s σ H _ I h) fun ov s1 ⟨x, H1, I1, r1, q1⟩ => ?_))
  refine wpAny_bind (wpAny_holding (thn (hi pins s1 σ H1 _ I1 q1) fun iv s2 ⟨y, H2, I2, r2, q2⟩ => ?_))
  refine wpAny_bind (wpAny_standAt (wpAny_bind (wpAny_holding (thn (hs pins s2 σ H2 x y v ov iv u _ I2 r1 r2 r q2) fun _ s3 ⟨H3, I3, q3⟩ => ?_))))
  exact wpAny_release ⟨σ, H3, I3, q3⟩
/-- target = value -/
def tAsg (te : TE) (g : TG) : TS := fun D σ H => te σ H fun x H1 => g x σ H1 D.nx
theorem ps_asg {tg e : Expr} {te : TE} {g : TG} (he : PE X e te) (hg : PG X tg g) (hs : swapsWithSole [tg] e pos.line X.env = pure false := by rfl) (hw : swappedStores [tg] e X.env = pure none := by rfl)
    (h1 : (assignEach [tg] X.env).map (·.2) = [assign tg X.env] := by rfl) : PS X (.Assign [tg] e pos) (tAsg te g) := by
  intro pins s σ H D I h
  refine wpAny_Assign_stores (thn (he pins s σ H _ I h) fun v s1 ⟨x, H1, I1, r1, q1⟩ => ?_) hs hw
  rw [h1]
  exact thn (hg pins s1 σ H1 x v _ I1 r1 q1) fun _ s2 q => q
/-- name = value -/
theorem ps_set {i : Nat} {x : Str} {e : Expr} {te : TE} {pos' : Pos} (hN : X.N.Nodup) (hi : X.N[i]? = some x) (hx : Loc X.env.scope x) (he : PE X e te) (hs : swapsWith e (some (.Name x pos')) pos.line X.env = pure false := by rfl) (hf : X.fn x = true ∨ X.env.scope.names.lookup x = some .local := by first | exact .inl rfl | exact .inr rfl | assumption) :
    PS X (.Assign [.Name x pos'] e pos) (tAsg te (gName i)) := by
  intro pins s σ H D I h
  refine wpAny_Assign_Name (thn (he pins s σ H _ I h) fun v s1 ⟨y, H1, I1, r1, q1⟩ => ?_) hs
  exact store_ok I1 hN hi hx r1 (fun s2 I2 => ⟨_, H1, I2, q1⟩) hf
end

/-! ### while -/
section
variable {X : Cx} {pos : Pos}
/-- the invariant W with its measure -/
def tWhile (c : TT) (tb : TS) : TS := fun D σ H => ∃ W : Nat → St → Hp → Prop, (∃ m, W m σ H) ∧ ∀ m σ H, W m σ H →
  c σ H fun b H1 => if b = true then ∃ N : St → Hp → Prop, (∀ σ' H', N σ' H' → ∃ m', m' < m ∧ W m' σ' H') ∧ tb { D with nx := N, ct := N, bk := D.nx } σ H1 else D.nx σ H1
theorem ps_while {c : Expr} {body : List Stmt} {tc : TT} {tb : TS} (hp : PassesOwn (model X.prog X.w) X.A X.env X.xe) (hc : PT X c tc) (hb : PSs X body tb) : PS X (.While c body [] pos) (tWhile tc tb) := by
  intro pins s σ H D I h
  obtain ⟨W, ⟨m0, w0⟩, turn⟩ := h
  refine wpAny_While (codeAny_whileLoop (fun n s' => ∃ σ' H', Inv X pins σ' H' s' ∧ W n σ' H') ?_ m0 ⟨σ, H, I, w0⟩)
  rintro n s1 ⟨σ1, H1, I1, w1⟩
  refine wpAny_passesOwn hp (thn (hc pins s1 σ1 H1 _ I1 (turn n σ1 H1 w1)) fun b s2 ⟨H2, I2, q2⟩ => ?_)
  cases b with
  | true =>
    obtain ⟨N, hN, q2⟩ := q2
    rw [if_pos rfl]
    refine wpAny_passesOwn hp (thn (hb pins s2 σ1 H2 _ I2 q2) fun f s3 q3 => ?_)
    cases f with
    | next =>
      obtain ⟨σ3, H3, I3, n3⟩ := q3
      obtain ⟨m', hm, w3⟩ := hN σ3 H3 n3
      exact ⟨m', hm, σ3, H3, I3, w3⟩
    | cont =>
      obtain ⟨σ3, H3, I3, n3⟩ := q3
      obtain ⟨m', hm, w3⟩ := hN σ3 H3 n3
      exact ⟨m', hm, σ3, H3, I3, w3⟩
    | brk => exact q3
    | ret v => exact q3
  | false =>
    rw [if_neg Bool.false_ne_true]
    exact wpAny_execs_nil ⟨σ1, H2, I2, q2⟩
end

/-! ### what a loop or a comprehension walks -/
/-- at turn i: it yields x (the heap may grow), or it stops -/
structure It where
  go : Nat → Hp → Prop
  yld : Nat → Hp → V → Hp → Prop
  stop : Nat → Hp → Prop
/-- the iterator's own objects may turn: they are not the frame's, not pinned, younger than the entry (or a comprehension's own) -/
def FpOk (X : Cx) (pins : List (Addr × Obj)) (H : Hp) (b : Addr) : Prop :=
  H b = none ∧ b ≠ X.env.locals ∧ b ∉ X.fs ∧ (b ∈ X.ex ∨ X.s₀.heap.objs.size ≤ b) ∧ (∀ x c, X.env.cells.lookup x = some c → c ≠ b) ∧ ∀ p ∈ X.pn ++ pins, p.1 ≠ b
theorem Inv.fpOk {X : Cx} {pins : List (Addr × Obj)} {σ : St} {H H' : Hp} {s : Shared} {b : Addr} (I : Inv X pins σ H s) (hb : s.heap.objs.size ≤ b) (hn : H' b = none) : FpOk X pins H' b := by
  refine ⟨hn, Nat.ne_of_gt (Nat.lt_of_lt_of_le I.lt hb), I.nofs hb, .inr (Nat.le_trans I.sz hb), fun x c e z => ?_, fun p hp z => ?_⟩
  · obtain ⟨v, q⟩ := I.cell x c e
    exact absurd (Nat.lt_of_lt_of_le q.lt (by rw [z]; exact hb)) (Nat.lt_irrefl _)
  · exact absurd (Nat.lt_of_lt_of_le (Heap.lt_size (I.pin p hp).1) (by rw [z]; exact hb)) (Nat.lt_irrefl _)
structure Turn (P : Program) (w : World) (K : PySem.W.Frag) (tg : Expr) (J : It) (fp : List Addr) (it : Addr) (tn : Nat → Heap → Prop) : Prop where
  mem : it ∈ fp
  obj : ∀ i h, tn i h → ∀ b ∈ fp, ∃ o, h.get? b = some o ∧ ∀ v, o.data ≠ .cell v
  keep : ∀ i h h', tn i h → (∀ b ∈ fp, ∀ o, h.get? b = some o → h'.get? b = some o) → tn i h'
  item : ∀ (X : Cx), X.prog = P → X.w = w → X.K = K → X.calm = true → ∀ (i : Nat) (pins : List (Addr × Obj)) (s : Shared) (σ : St) (H : Hp) (E : Value → Shared → Prop), Inv X pins σ H s → (∀ b ∈ fp, FpOk X pins H b) → tn i s.heap → J.go i H →
    wpAny (model P w) X.A (pyNext (.ref it)) (fun r s1 => ∃ u, r = some u ∧
      wpAny (model P w) X.A (letOwnedTupleGo tg (.ref it) u) (fun _ s2 => ∃ x H', Inv X pins σ H' s2 ∧ RelV x u ∧ J.yld i H x H' ∧ tn (i + 1) s2.heap ∧ ∀ b ∈ fp, H' b = none) E s1) E s
  done : ∀ (X : Cx), X.prog = P → X.w = w → X.K = K → X.calm = true → ∀ (i : Nat) (pins : List (Addr × Obj)) (s : Shared) (σ : St) (H : Hp) (E : Value → Shared → Prop), Inv X pins σ H s → (∀ b ∈ fp, FpOk X pins H b) → tn i s.heap → J.stop i H →
    wpAny (model P w) X.A (pyNext (.ref it)) (fun r s1 => r = none ∧ Inv X pins σ H s1) E s
  self : ∀ (A : Around) (i : Nat) (s : Shared) (Q : Value → Shared → Prop) (E : Value → Shared → Prop), tn i s.heap → Q (.ref it) s → wpAny (model P w) A (pyIter (.ref it)) Q E s
abbrev TI := St → Hp → (It → Hp → Prop) → Prop
/-- an iterator has come -/
def PIE (X : Cx) (pins : List (Addr × Obj)) (σ : St) (tg : Expr) (R : It → Hp → Prop) (itv : Value) (s2 : Shared) : Prop :=
  ∃ (it : Addr) (fp : List Addr) (tn : Nat → Heap → Prop) (J : It) (H' : Hp), itv = .ref it ∧ Inv X pins σ H' s2 ∧ Turn X.prog X.w X.K tg J fp it tn ∧ tn 0 s2.heap ∧ (∀ b ∈ fp, FpOk X pins H' b) ∧ R J H'
def PI (X : Cx) (tg iter : Expr) (wi : TI) : Prop :=
  ∀ (pins : List (Addr × Obj)) (s : Shared) (σ : St) (H : Hp) (R : It → Hp → Prop), Inv X pins σ H s → wi σ H R →
    wpAny (model X.prog X.w) X.A (eval iter X.env) (fun v s1 => wpAny (model X.prog X.w) X.A (pyIter v) (PIE X pins σ tg R) X.xe s1) X.xe s

/-- the step ahead of the store is nothing for an iterator that keeps no tuple -/
theorem go_of {M : Model} {A : Around} {E : Value → Shared → Prop} {s : Shared} {tg : Expr} {it : Addr} {u : Value} {o : Obj} {n : String} {vs : Array Value} {Q : Unit → Shared → Prop} (ho : s.heap.get? it = some o) (hc : o.cls = .type n) (hd : o.data = .fields vs)
    (hn : ["enumerate", "zip", "dict_itemiterator", "dict_reverseitemiterator", "odict_iterator", "itertools.zip_longest", "itertools.pairwise"].contains n = false) (hQ : Q () s) : wpAny M A (letOwnedTupleGo tg (.ref it) u) Q E s := by
  unfold letOwnedTupleGo
  cases tg <;> first
    | exact wpAny_pure hQ
    | (cases u <;> first
        | exact wpAny_pure hQ
        | (refine wpAny_bind (wpAny_load ho ?_)
           rw [hc, hd]
           show wpAny M A (if (["enumerate", "zip", "dict_itemiterator", "dict_reverseitemiterator", "odict_iterator", "itertools.zip_longest", "itertools.pairwise"].contains n && vs[0]? == some (rawInt _)) = true then _ else _) Q E s
           rw [if_neg (by intro h; rw [hn, Bool.false_and] at h; cases h)]
           exact wpAny_pure hQ))

/-- the list at a, as it stands at each turn (a loop may append to it) -/
def Itl (K : PySem.W.Frag) (a : Addr) : It :=
  ⟨fun i H => ∃ xs x, SqL K H a xs ∧ xs[i]? = some x, fun i H x H' => H' = H ∧ ∀ xs, SqL K H a xs → xs[i]? = some x, fun i H => ∃ xs, SqL K H a xs ∧ xs.length ≤ i⟩
def Itt (K : PySem.W.Frag) (a : Addr) : It :=
  ⟨fun i H => ∃ xs x, SqT K H a xs ∧ xs[i]? = some x, fun i H x H' => H' = H ∧ ∀ xs, SqT K H a xs → xs[i]? = some x, fun i H => ∃ xs, SqT K H a xs ∧ xs.length ≤ i⟩
/-- lo, lo + 1, .. (n of them) -/
def Itr (lo : Int) (n : Nat) : It := ⟨fun i _ => i < n, fun i H x H' => H' = H ∧ x = .int (lo + i), fun i _ => n ≤ i⟩
theorem turn_list {P : Program} {w : World} {K : PySem.W.Frag} {tg : Expr} (a it : Addr) : Turn P w K tg (Itl K a) [it] it (fun i h => h.IsListIter it a i) where
  mem := by simp
  obj := fun i h st b hb => by
    have e : b = it := by simpa using hb
    subst e
    obtain ⟨o, e, c, d⟩ := st
    exact ⟨o, e, fun v z => by rw [d] at z; cases z⟩
  keep := fun i h h' st k => st.at fun o e => k it (by simp) o e
  item := by
    intro X hP hw hK hc i pins s σ H E I hf st hg
    subst hP hw hK
    obtain ⟨xs, x, hq, hx⟩ := hg
    obtain ⟨its, rv, p, hz⟩ := I.list hq
    obtain ⟨u, hu, ru⟩ := rv.get hx
    obtain ⟨f0, f1, f2, f3, f4, f5⟩ := hf it (by simp)
    refine wpAny_pyNext_list_item st p.isList (x := u) (by simpa using hu) fun h' st' sb => ?_
    have I1 : Inv X pins σ H { s with heap := h' } := I.turned (t' := s.toks) (fun b o hb e => (sb.2 b hb).trans e) f0 f1 f3 f4 f5
    obtain ⟨o, e, c, d⟩ := id st'
    exact ⟨u, rfl, go_of (s := { s with heap := h' }) e c d (by decide) ⟨x, H, I1, ru, ⟨rfl, fun ys hy => by rw [I.list_inj hy hq]; exact hx⟩, st', fun b hb => (hf b hb).1⟩⟩
  done := by
    intro X hP hw hK hc i pins s σ H E I hf st hg
    subst hP hw hK
    obtain ⟨xs, hq, hx⟩ := hg
    obtain ⟨its, rv, p, hz⟩ := I.list hq
    obtain ⟨f0, f1, f2, f3, f4, f5⟩ := hf it (by simp)
    have hl := rv.length
    exact wpAny_pyNext_list_end (I.ok.hd hc) st p.isList (by simp; omega) fun h' eb => ⟨rfl, I.turned (t' := s.toks) (fun b o hb e => eb b o hb e) f0 f1 f3 f4 f5⟩
  self := fun _ _ _ _ _ st h => wpAny_pyIter_listiter st h
theorem turn_tuple {P : Program} {w : World} {K : PySem.W.Frag} {tg : Expr} (a it : Addr) : Turn P w K tg (Itt K a) [it] it (fun i h => h.IsTupleIter it a i) where
  mem := by simp
  obj := fun i h st b hb => by
    have e : b = it := by simpa using hb
    subst e
    obtain ⟨o, e, c, d⟩ := st
    exact ⟨o, e, fun v z => by rw [d] at z; cases z⟩
  keep := fun i h h' st k => st.at fun o e => k it (by simp) o e
  item := by
    intro X hP hw hK hc i pins s σ H E I hf st hg
    subst hP hw hK
    obtain ⟨xs, x, hq, hx⟩ := hg
    obtain ⟨its, rv, p, hz⟩ := I.tuple hq
    obtain ⟨u, hu, ru⟩ := rv.get hx
    obtain ⟨f0, f1, f2, f3, f4, f5⟩ := hf it (by simp)
    refine wpAny_pyNext_tuple_item st (show s.heap.IsTuple a its.toArray from p) (x := u) (by simpa using hu) fun h' st' sb => ?_
    have I1 : Inv X pins σ H { s with heap := h' } := I.turned (t' := s.toks) (fun b o hb e => (sb.2 b hb).trans e) f0 f1 f3 f4 f5
    obtain ⟨o, e, c, d⟩ := id st'
    exact ⟨u, rfl, go_of (s := { s with heap := h' }) e c d (by decide) ⟨x, H, I1, ru, ⟨rfl, fun ys hy => by rw [I.tuple_inj hy hq]; exact hx⟩, st', fun b hb => (hf b hb).1⟩⟩
  done := by
    intro X hP hw hK hc i pins s σ H E I hf st hg
    subst hP hw hK
    obtain ⟨xs, hq, hx⟩ := hg
    obtain ⟨its, rv, p, hz⟩ := I.tuple hq
    obtain ⟨f0, f1, f2, f3, f4, f5⟩ := hf it (by simp)
    have hl := rv.length
    exact wpAny_pyNext_tuple_end (I.ok.hd hc) st (show s.heap.IsTuple a its.toArray from p) (by simp; omega) fun h' eb => ⟨rfl, I.turned (t' := s.toks) (fun b o hb e => eb b o hb e) f0 f1 f3 f4 f5⟩
  self := fun _ _ _ _ _ st h => wpAny_pyIter_tupleiter st h
theorem turn_range {P : Program} {w : World} {K : PySem.W.Frag} {tg : Expr} (it : Addr) (lo : Int) (n : Nat) : Turn P w K tg (Itr lo n) [it] it (fun i h => IsRangeIter h it (lo + (i : Nat) * 1) ((n : Int) - (i : Nat)) 1) where
  mem := by simp
  obj := fun i h st b hb => by
    have e : b = it := by simpa using hb
    subst e
    exact ⟨_, st, fun v z => by
      have z' : Data.fields _ = Data.cell v := z
      cases z'⟩
  keep := fun i h h' st k => k it (by simp) _ st
  item := by
    intro X hP hw hK hc i pins s σ H E I hf st hg
    subst hP hw hK
    obtain ⟨f0, f1, f2, f3, f4, f5⟩ := hf it (by simp)
    have W := Walks.range (prog := X.prog) (w := X.w) (I.ok.hd hc) it lo 1 n
    refine W.item i s _ _ hg st fun v h' tk hv st' kk => ?_
    obtain ⟨t, rfl⟩ := hv
    have I1 : Inv X pins σ H { s with heap := h', toks := tk } := I.turned (fun b o hb e => kk b o (by simpa using hb) e) f0 f1 f3 f4 f5
    refine ⟨_, rfl, go_of (s := { s with heap := h', toks := tk }) (n := "range_iterator") st' rfl rfl (by decide) ⟨.int (lo + i), H, I1, ⟨t, ?_⟩, ⟨rfl, rfl⟩, st', fun b hb => (hf b hb).1⟩⟩
    rw [Int.mul_one]
  done := by
    intro X hP hw hK hc i pins s σ H E I hf st hg
    subst hP hw hK
    obtain ⟨f0, f1, f2, f3, f4, f5⟩ := hf it (by simp)
    exact wpAny_pyNext_range_end (I.ok.hd hc) st (by have : n ≤ i := hg; omega) fun h' eb => ⟨rfl, I.turned (t' := s.toks) (fun b o hb e => eb b o hb e) f0 f1 f3 f4 f5⟩
  self := fun _ _ _ _ _ st h => wpAny_pyIter_rangeiter st h
end L2

namespace L2
open PySem PySem.Spec PyProof.Rows
section
variable {X : Cx} {tg : Expr}
def iList (K : PySem.W.Frag) (tl : TE) : TI := fun σ H R => tl σ H fun x H1 => ∃ a, x = .ref a ∧ (∃ xs, SqL K H1 a xs) ∧ R (Itl K a) H1
def iTup (K : PySem.W.Frag) (tl : TE) : TI := fun σ H R => tl σ H fun x H1 => ∃ a, x = .ref a ∧ (∃ xs, SqT K H1 a xs) ∧ R (Itt K a) H1
theorem pi_list {l : Expr} {tl : TE} (hl : PE X l tl) : PI X tg l (iList X.K tl) := by
  intro pins s σ H R I h
  refine thn (hl pins s σ H _ I h) fun v s1 ⟨x, H1, I1, r1, q1⟩ => ?_
  obtain ⟨a, e, ⟨xs, hq⟩, q⟩ := q1
  subst e
  cases r1
  obtain ⟨its, rv, p, hz⟩ := I1.list hq
  refine wpAny_pyIter_list p.isList ?_
  refine ⟨s1.heap.objs.size, [s1.heap.objs.size], _, _, H1, rfl, I1.kept (t' := s1.toks) fun b o e => Heap.get?_push_of_some _ e, turn_list a _, ⟨_, Heap.get?_push_size _ rfl, rfl, rfl⟩, fun b hb => ?_, q⟩
  have e : b = s1.heap.objs.size := by simpa using hb
  subst e
  exact I1.fpOk (Nat.le_refl _) (I1.hok.fresh (Nat.le_refl _))
theorem pi_tup {l : Expr} {tl : TE} (hl : PE X l tl) : PI X tg l (iTup X.K tl) := by
  intro pins s σ H R I h
  refine thn (hl pins s σ H _ I h) fun v s1 ⟨x, H1, I1, r1, q1⟩ => ?_
  obtain ⟨a, e, ⟨xs, hq⟩, q⟩ := q1
  subst e
  cases r1
  obtain ⟨its, rv, p, hz⟩ := I1.tuple hq
  refine wpAny_pyIter_tuple (show s1.heap.IsTuple a its.toArray from p) ?_
  refine ⟨s1.heap.objs.size, [s1.heap.objs.size], _, _, H1, rfl, I1.kept (t' := s1.toks) fun b o e => Heap.get?_push_of_some _ e, turn_tuple a _, ⟨_, Heap.get?_push_size _ rfl, rfl, rfl⟩, fun b hb => ?_, q⟩
  have e : b = s1.heap.objs.size := by simpa using hb
  subst e
  exact I1.fpOk (Nat.le_refl _) (I1.hok.fresh (Nat.le_refl _))
/-- a range object just made, walked -/
theorem range_it {pins : List (Addr × Obj)} {σ : St} {H : Hp} {s : Shared} {R : It → Hp → Prop} {E : Value → Shared → Prop} {lo hi : Int} {t u v : Tok} {tk : Nat} (I : Inv X pins σ H s) (h1 : -(2 ^ 62) ≤ lo) (h2 : lo < 2 ^ 62) (h3 : -(2 ^ 62) ≤ hi) (h4 : hi < 2 ^ 62)
    (q : R (Itr lo (hi - lo).toNat) H) : wpAny (model X.prog X.w) X.A (pyIter (.ref s.heap.objs.size)) (PIE X pins σ tg R) E { s with heap := s.heap.push { cls := .type "range", data := .fields #[.int lo t, .int hi u, .int 1 v] }, toks := tk } := by
  refine wpAny_pyIter_range (IsRange.new ..) (small_one h1 h2 h3 h4) ?_
  have I1 : Inv X pins σ H { s with heap := s.heap.push { cls := .type "range", data := .fields #[.int lo t, .int hi u, .int 1 v] }, toks := tk } := I.kept fun b o e => Heap.get?_push_of_some _ e
  refine ⟨(s.heap.push { cls := .type "range", data := .fields #[.int lo t, .int hi u, .int 1 v] }).objs.size, [(s.heap.push { cls := .type "range", data := .fields #[.int lo t, .int hi u, .int 1 v] }).objs.size], _, _, H, rfl,
    I1.kept (t' := tk) fun b o e => Heap.get?_push_of_some _ e, turn_range _ lo (hi - lo).toNat, ?_, fun b hb => ?_, q⟩
  · have e1 : lo + ((0 : Nat) : Int) * 1 = lo := by simp
    have e2 : (((hi - lo).toNat : Nat) : Int) - ((0 : Nat) : Int) = Builtin.Range.rangeSize lo hi 1 := by rw [rangeSize_one]; split <;> omega
    show IsRangeIter _ _ (lo + ((0 : Nat) : Int) * 1) ((((hi - lo).toNat : Nat) : Int) - ((0 : Nat) : Int)) 1
    rw [e1, e2]
    exact Heap.get?_push_size _ rfl
  · have e : b = (s.heap.push { cls := .type "range", data := .fields #[.int lo t, .int hi u, .int 1 v] }).objs.size := by simpa using hb
    subst e
    exact I1.fpOk (Nat.le_refl _) (I1.hok.fresh (Nat.le_refl _))
def iRng1 (ta : TA) : TI := fun σ H R => ta σ H fun vs H1 => ∃ j : Int, vs = [.int j] ∧ -(2 ^ 62) ≤ j ∧ j < 2 ^ 62 ∧ R (Itr 0 j.toNat) H1
def iRng2 (ta : TA) : TI := fun σ H R => ta σ H fun vs H1 => ∃ i j : Int, vs = [.int i, .int j] ∧ (-(2 ^ 62) ≤ i ∧ i < 2 ^ 62 ∧ -(2 ^ 62) ≤ j ∧ j < 2 ^ 62) ∧ R (Itr i (j - i).toNat) H1
theorem pi_range1 {a : Expr} {ta : TA} {p pos : Pos} (hg : Gl X "range") (hm : X.mg "range" = none) (ha : PA X [a] ta) (hs : starEach [a] X.env = [(false, eval a X.env)] := by rfl) : PI X tg (.Call (.Name "range" p) [a] [] pos) (iRng1 ta) := by
  intro pins s σ H R I h
  refine Call_ (ld_blt I hg hm boot_range (PyProof.Rows.callWith_type1 (thn (ha pos pins s σ H _ I h) fun us s1 ⟨vs, H1, I1, r1, q1⟩ => ?_) hs rfl))
  obtain ⟨j, e, q1, q2, q⟩ := q1
  subst e
  cases r1 with
  | cons r rr =>
    cases rr
    obtain ⟨t, rfl⟩ := r
    exact call_range_1 (range_it I1 (by omega) (by omega) q1 q2 (by simpa using q))
/-! ### for -/
/-- W: the invariant by the turn and a measure; N: what the body is to reach -/
def tFor (wi : TI) (g : TG) (tb : TS) : TS := fun D σ H => wi σ H fun J H1 => ∃ W : Nat → Nat → St → Hp → Prop, (∃ m, W 0 m σ H1) ∧ ∀ i m σ H, W i m σ H →
  (J.stop i H ∧ D.nx σ H) ∨ (J.go i H ∧ ∃ N : St → Hp → Prop, (∀ σ' H', N σ' H' → ∃ m', m' < m ∧ W (i + 1) m' σ' H') ∧ ∀ x H', J.yld i H x H' → g x σ H' fun σ2 H2 => tb { D with nx := N, ct := N, bk := D.nx } σ2 H2)
/-- the records at fp as they stand -/
def pinsAt (fp : List Addr) (h : Heap) : List (Addr × Obj) := fp.filterMap fun b => (h.get? b).map fun o => (b, o)
theorem mem_pinsAt {fp : List Addr} {h : Heap} {b : Addr} {o : Obj} (hb : b ∈ fp) (e : h.get? b = some o) : (b, o) ∈ pinsAt fp h := List.mem_filterMap.mpr ⟨b, hb, by rw [e]; rfl⟩
theorem of_pinsAt {fp : List Addr} {h : Heap} {p : Addr × Obj} (hp : p ∈ pinsAt fp h) : p.1 ∈ fp ∧ h.get? p.1 = some p.2 := by
  obtain ⟨b, hb, e⟩ := List.mem_filterMap.mp hp
  cases q : h.get? b with
  | none => rw [q] at e; cases e
  | some o =>
    rw [q] at e
    have e' : (b, o) = p := Option.some.inj e
    subst e'
    exact ⟨hb, q⟩
theorem Inv.pinned {pins : List (Addr × Obj)} {σ : St} {H : Hp} {s : Shared} {fp : List Addr} (I : Inv X pins σ H s) (hf : ∀ b ∈ fp, FpOk X pins H b) (ho : ∀ b ∈ fp, ∃ o, s.heap.get? b = some o ∧ ∀ v, o.data ≠ .cell v) : Inv X (pins ++ pinsAt fp s.heap) σ H s :=
  I.pins_of fun p hp => (List.mem_append.mp hp).elim (fun z => I.pin p (List.mem_append_right _ z)) fun z => by
    obtain ⟨hb, e⟩ := of_pinsAt z
    obtain ⟨f0, f1, f2, _⟩ := hf p.1 hb
    obtain ⟨o, e', d⟩ := ho p.1 hb
    rw [e] at e'; cases e'
    exact ⟨e, f0, f1, f2, d⟩
theorem Inv.unpinned {pins pl : List (Addr × Obj)} {σ : St} {H : Hp} {s : Shared} (I : Inv X (pins ++ pl) σ H s) : Inv X pins σ H s := I.pins_of fun p hp => I.pin p (List.mem_append_right _ (List.mem_append_left _ hp))
theorem ps_for {iter : Expr} {body : List Stmt} {wi : TI} {g : TG} {tb : TS} {pos : Pos} (hp : PassesOwn (model X.prog X.w) X.A X.env X.xe) (hc : X.calm = true) (hi : PI X tg iter wi) (hg : PG X tg g) (hb : PSs X body tb)
    (hs : ∀ x, foldedSetIterable iter X.env x = pure x := by intro _; rfl) : PS X (.For tg iter body [] pos) (tFor wi g tb) := by
  intro pins s σ H D I h
  refine wpAny_For (thn (hi pins s σ H _ I h) fun v s1 h1 => thn h1 fun itv s2 h2 => ?_) hs
  obtain ⟨it, fp, tn, J, H2, e, I2, T, st2, f2, W, ⟨m0, w0⟩, turn⟩ := h2
  subst e
  -- what stays true of the iterator's objects through the loop
  have stat : ∀ {H' : Hp}, (∀ b ∈ fp, H' b = none) → ∀ b ∈ fp, FpOk X pins H' b := fun hn b hb => ⟨hn b hb, (f2 b hb).2⟩
  refine codeAny_forLoop_any (fun n s' => ∃ i σ' H', Inv X pins σ' H' s' ∧ tn i s'.heap ∧ (∀ b ∈ fp, H' b = none) ∧ W i n σ' H') ?_ m0 ⟨0, σ, H2, I2, st2, fun b hb => (f2 b hb).1, w0⟩
  rintro n s3 ⟨i, σ3, H3, I3, st3, fr3, w3⟩
  rcases turn i n σ3 H3 w3 with ⟨stop, qn⟩ | ⟨go, N, hN, step⟩
  · refine wpAny_passesOwn hp (thn (T.done X rfl rfl rfl hc i pins s3 σ3 H3 X.xe I3 (stat fr3) st3 stop) fun r s4 ⟨hr, I4⟩ => ?_)
    subst hr
    exact wpAny_execs_nil ⟨σ3, H3, I4, qn⟩
  · refine wpAny_passesOwn hp (thn (T.item X rfl rfl rfl hc i pins s3 σ3 H3 X.xe I3 (stat fr3) st3 go) fun r s4 ⟨u, hr, h4⟩ => ?_)
    subst hr
    refine wpAny_passesOwn hp (thn h4 fun _ s5 ⟨x, H5, I5, r5, y5, st5, fr5⟩ => ?_)
    have I5' := I5.pinned (stat fr5) (T.obj _ _ st5)
    refine wpAny_passesOwn hp (thn (hg _ s5 σ3 H5 x u _ I5' r5 (step x H5 y5)) fun _ s6 ⟨σ6, H6, I6, q6⟩ => ?_)
    refine wpAny_passesOwn hp (thn (hb _ s6 σ6 H6 _ I6 q6) fun f s7 q7 => ?_)
    have again : ∀ {σ7 : St} {H7 : Hp}, Inv X (pins ++ pinsAt fp s5.heap) σ7 H7 s7 → N σ7 H7 → ∃ m, m < n ∧ ∃ i σ' H', Inv X pins σ' H' s7 ∧ tn i s7.heap ∧ (∀ b ∈ fp, H' b = none) ∧ W i m σ' H' := fun {σ7 H7} I7 n7 => by
      obtain ⟨m', hm, w7⟩ := hN σ7 H7 n7
      refine ⟨m', hm, i + 1, σ7, H7, I7.unpinned, T.keep _ _ _ st5 fun b hb o e => (I7.pin (b, o) (List.mem_append_right _ (List.mem_append_right _ (mem_pinsAt hb e)))).1, fun b hb => ?_, w7⟩
      obtain ⟨o, e, d⟩ := T.obj _ _ st5 b hb
      exact (I7.pin (b, o) (List.mem_append_right _ (List.mem_append_right _ (mem_pinsAt hb e)))).2.1
    cases f with
    | next => obtain ⟨σ7, H7, I7, n7⟩ := q7; exact again I7 n7
    | cont => obtain ⟨σ7, H7, I7, n7⟩ := q7; exact again I7 n7
    | brk => obtain ⟨σ7, H7, I7, q7⟩ := q7; exact ⟨σ7, H7, I7.unpinned, q7⟩
    | ret v => obtain ⟨x7, σ7, H7, I7, r7, q7⟩ := q7; exact ⟨x7, σ7, H7, I7.unpinned, r7, q7⟩
end

/-! ### the forms one uses -/
/-- over a list that the body leaves as it is -/
theorem for_list {K : PySem.W.Frag} {a : Addr} {xs : List V} {g : TG} {tb : TS} {D : Ends} {σ : St} {H : Hp} (Pv : Nat → St → Hp → Prop) (h0 : Pv 0 σ H) (hl : ∀ i σ H, i ≤ xs.length → Pv i σ H → SqL K H a xs)
    (hs : ∀ i x σ H, xs[i]? = some x → Pv i σ H → g x σ H fun σ2 H2 => tb { D with nx := Pv (i + 1), ct := Pv (i + 1), bk := D.nx } σ2 H2) (hd : ∀ σ H, Pv xs.length σ H → D.nx σ H) :
    ∃ W : Nat → Nat → St → Hp → Prop, (∃ m, W 0 m σ H) ∧ ∀ i m σ H, W i m σ H →
      ((Itl K a).stop i H ∧ D.nx σ H) ∨ ((Itl K a).go i H ∧ ∃ N : St → Hp → Prop, (∀ σ' H', N σ' H' → ∃ m', m' < m ∧ W (i + 1) m' σ' H') ∧ ∀ x H', (Itl K a).yld i H x H' → g x σ H' fun σ2 H2 => tb { D with nx := N, ct := N, bk := D.nx } σ2 H2) := by
  refine ⟨fun i m σ H => m = xs.length - i ∧ i ≤ xs.length ∧ Pv i σ H, ⟨xs.length, by simp, Nat.zero_le _, h0⟩, ?_⟩
  rintro i m σ H ⟨rfl, hi, p⟩
  have q := hl i σ H hi p
  by_cases hlt : i < xs.length
  · refine .inr ⟨⟨xs, xs[i], q, by simp [hlt]⟩, Pv (i + 1), fun σ' H' p' => ⟨xs.length - (i + 1), by omega, rfl, hlt, p'⟩, fun x H' y => ?_⟩
    obtain ⟨e, y⟩ := y
    subst e
    exact hs i x σ _ (y xs q) p
  · have e : i = xs.length := by omega
    subst e
    exact .inl ⟨⟨xs, q, Nat.le_refl _⟩, hd σ H p⟩
theorem for_range {lo : Int} {n : Nat} {g : TG} {tb : TS} {D : Ends} {σ : St} {H : Hp} (Pv : Nat → St → Hp → Prop) (h0 : Pv 0 σ H)
    (hs : ∀ i σ H, i < n → Pv i σ H → g (.int (lo + i)) σ H fun σ2 H2 => tb { D with nx := Pv (i + 1), ct := Pv (i + 1), bk := D.nx } σ2 H2) (hd : ∀ σ H, Pv n σ H → D.nx σ H) :
    ∃ W : Nat → Nat → St → Hp → Prop, (∃ m, W 0 m σ H) ∧ ∀ i m σ H, W i m σ H →
      ((Itr lo n).stop i H ∧ D.nx σ H) ∨ ((Itr lo n).go i H ∧ ∃ N : St → Hp → Prop, (∀ σ' H', N σ' H' → ∃ m', m' < m ∧ W (i + 1) m' σ' H') ∧ ∀ x H', (Itr lo n).yld i H x H' → g x σ H' fun σ2 H2 => tb { D with nx := N, ct := N, bk := D.nx } σ2 H2) := by
  refine ⟨fun i m σ H => m = n - i ∧ i ≤ n ∧ Pv i σ H, ⟨n, by simp, Nat.zero_le _, h0⟩, ?_⟩
  rintro i m σ H ⟨rfl, hi, p⟩
  by_cases hlt : i < n
  · refine .inr ⟨hlt, Pv (i + 1), fun σ' H' p' => ⟨n - (i + 1), by omega, rfl, hlt, p'⟩, fun x H' y => ?_⟩
    obtain ⟨e, y⟩ := y
    subst e y
    exact hs i σ _ hlt p
  · have e : i = n := by omega
    subst e
    exact .inl ⟨Nat.le_refl _, hd σ H p⟩
/-- while, by a word and a measure of the state -/
theorem while_by {c : TT} {tb : TS} {D : Ends} {σ : St} {H : Hp} (Pv : St → Hp → Prop) (μ : St → Hp → Nat) (h0 : Pv σ H)
    (hs : ∀ σ H, Pv σ H → c σ H fun b H1 => if b = true then tb { D with nx := fun σ' H' => Pv σ' H' ∧ μ σ' H' < μ σ H, ct := fun σ' H' => Pv σ' H' ∧ μ σ' H' < μ σ H, bk := D.nx } σ H1 else D.nx σ H1)
    (mono : ∀ σ H Q Q', (∀ b H1, Q b H1 → Q' b H1) → c σ H Q → c σ H Q') : tWhile c tb D σ H := by
  refine ⟨fun m σ H => m = μ σ H ∧ Pv σ H, ⟨_, rfl, h0⟩, ?_⟩
  rintro m σ H ⟨rfl, p⟩
  refine mono σ H _ _ (fun b H1 q => ?_) (hs σ H p)
  cases b with
  | true => exact ⟨_, fun σ' H' ⟨p', l⟩ => ⟨_, l, rfl, p'⟩, q⟩
  | false => exact q
end L2

namespace L2
open PySem PySem.Spec PyProof.Rows

abbrev R2 := V → V → Hp → VK → Prop
/-- a two-place operation on values: f is binaryOp op, inplaceOp op or compareOp op -/
def OpR (X : Cx) (f : Value → Value → Sem Value) (r : R2) : Prop :=
  ∀ (pins : List (Addr × Obj)) (s : Shared) (σ : St) (H : Hp) (x y : V) (v u : Value) (Q : VK), Inv X pins σ H s → RelV x v → RelV y u → r x y H Q →
    wpAny (model X.prog X.w) X.A (f v u) (EP X pins σ Q) X.xe s
/-- a one-place operation -/
def UnR (X : Cx) (f : Value → Sem Value) (r : V → Hp → VK → Prop) : Prop :=
  ∀ (pins : List (Addr × Obj)) (s : Shared) (σ : St) (H : Hp) (x : V) (v : Value) (Q : VK), Inv X pins σ H s → RelV x v → r x H Q →
    wpAny (model X.prog X.w) X.A (f v) (EP X pins σ Q) X.xe s
/-- a call of a value that is known (a builtin, a type) with values -/
def CallR (X : Cx) (f : Value) (r : List V → Hp → VK → Prop) : Prop :=
  ∀ (pins : List (Addr × Obj)) (s : Shared) (σ : St) (H : Hp) (xs : List V) (us : List Value) (Q : VK), Inv X pins σ H s → Vals xs us → r xs H Q →
    wpAny (model X.prog X.w) X.A (call f us) (EP X pins σ Q) X.xe s
/-- a value's truth -/
def TruR (X : Cx) (r : V → Hp → (Bool → Hp → Prop) → Prop) : Prop :=
  ∀ (pins : List (Addr × Obj)) (s : Shared) (σ : St) (H : Hp) (x : V) (v : Value) (Q : Bool → Hp → Prop), Inv X pins σ H s → RelV x v → r x H Q →
    wpAny (model X.prog X.w) X.A (truthy v) (TP X pins σ Q) X.xe s

def tOp (r : R2) (ta tb : TE) : TE := fun σ H Q => ta σ H fun x H1 => tb σ H1 fun y H2 => r x y H2 Q
def tUn (r : V → Hp → VK → Prop) (ta : TE) : TE := fun σ H Q => ta σ H fun x H1 => r x H1 Q
/-- ints in, under C, and a value out -/
def rI (C : Int → Int → Prop) (g : Int → Int → V) : R2 := fun x y H Q => ∃ i j, x = .int i ∧ y = .int j ∧ C i j ∧ Q (g i j) H
def rI0 (g : Int → Int → V) : R2 := fun x y H Q => ∃ i j, x = .int i ∧ y = .int j ∧ Q (g i j) H
def rU (g : Int → V) : V → Hp → VK → Prop := fun x H Q => ∃ i, x = .int i ∧ Q (g i) H

section
variable {X : Cx} {a b c : Expr} {ta tb tc : TE} {pos : Pos}

theorem binT (ha : PE X a ta) (hb : PE X b tb) {pins : List (Addr × Obj)} {s : Shared} {σ : St} {H : Hp} {R : V → V → Hp → Prop} (I : Inv X pins σ H s)
    (h : ta σ H fun x H1 => tb σ H1 fun y H2 => R x y H2) {Q : Value → Shared → Prop} {f : Value → Value → Sem Value}
    (hf : ∀ v u s2 x y H2, Inv X pins σ H2 s2 → RelV x v → RelV y u → R x y H2 → wpAny (model X.prog X.w) X.A (f v u) Q X.xe s2) :
    wpAny (model X.prog X.w) X.A (eval a X.env) (fun v s₁ => wpAny (model X.prog X.w) X.A (eval b X.env) (fun u s₂ => wpAny (model X.prog X.w) X.A (f v u) Q X.xe s₂) X.xe s₁) X.xe s := by
  refine thn (ha pins s σ H _ I h) fun v s1 ⟨x, H1, I1, r1, q1⟩ => ?_
  refine thn (hb pins s1 σ H1 _ I1 q1) fun u s2 ⟨y, H2, I2, r2, q2⟩ => ?_
  exact hf v u s2 x y H2 I2 r1 r2 q2

theorem pe_op {op : Operator} {r : R2} (ho : OpR X (binaryOp op) r) (ha : PE X a ta) (hb : PE X b tb) : PE X (.BinOp a op b pos) (tOp r ta tb) := by
  intro pins s σ H Q I h
  exact wpAny_BinOp (binT ha hb I h fun v u s2 x y H2 I2 rx ry q => ho pins s2 σ H2 x y v u Q I2 rx ry q)
theorem pe_un {op : UnaryOp} {r : V → Hp → VK → Prop} (ho : UnR X (unaryOp op) r) (ha : PE X a ta) : PE X (.UnaryOp op a pos) (tUn r ta) := by
  intro pins s σ H Q I h
  exact UnaryOp_ (thn (ha pins s σ H _ I h) fun v s1 ⟨x, H1, I1, r1, q1⟩ => ho pins s1 σ H1 x v Q I1 r1 q1)
/-! ### ints -/
theorem opI {f : Value → Value → Sem Value} {C : Int → Int → Prop} {g : Int → Int → Int}
    (rule : ∀ (i j : Int) (t u : Tok) (s : Shared) (Q : Value → Shared → Prop) (E : Value → Shared → Prop), C i j → Q (.int (g i j) s.toks) { s with toks := s.toks + 1 } → wpAny (model X.prog X.w) X.A (f (.int i t) (.int j u)) Q E s) :
    OpR X f (rI C fun i j => .int (g i j)) := by
  intro pins s σ H x y v u Q I rx ry h
  obtain ⟨i, j, rfl, rfl, hc, q⟩ := h
  obtain ⟨t, rfl⟩ := rx
  obtain ⟨t', rfl⟩ := ry
  exact rule i j t t' s _ _ hc ⟨.int (g i j), H, I.tok _, ⟨_, rfl⟩, q⟩
theorem opI0 {f : Value → Value → Sem Value} {g : Int → Int → Int}
    (rule : ∀ (i j : Int) (t u : Tok) (s : Shared) (Q : Value → Shared → Prop) (E : Value → Shared → Prop), Q (.int (g i j) s.toks) { s with toks := s.toks + 1 } → wpAny (model X.prog X.w) X.A (f (.int i t) (.int j u)) Q E s) :
    OpR X f (rI0 fun i j => .int (g i j)) := by
  intro pins s σ H x y v u Q I rx ry h
  obtain ⟨i, j, rfl, rfl, q⟩ := h
  obtain ⟨t, rfl⟩ := rx
  obtain ⟨t', rfl⟩ := ry
  exact rule i j t t' s _ _ ⟨.int (g i j), H, I.tok _, ⟨_, rfl⟩, q⟩
theorem opB0 {f : Value → Value → Sem Value} {g : Int → Int → Bool}
    (rule : ∀ (i j : Int) (t u : Tok) (s : Shared) (Q : Value → Shared → Prop) (E : Value → Shared → Prop), Q (.bool (g i j)) s → wpAny (model X.prog X.w) X.A (f (.int i t) (.int j u)) Q E s) :
    OpR X f (rI0 fun i j => .bl (g i j)) := by
  intro pins s σ H x y v u Q I rx ry h
  obtain ⟨i, j, rfl, rfl, q⟩ := h
  obtain ⟨t, rfl⟩ := rx
  obtain ⟨t', rfl⟩ := ry
  exact rule i j t t' s _ _ ⟨.bl (g i j), H, I, rfl, q⟩

def CDiv (i j : Int) : Prop := 0 < j ∧ j < 1073741824
def CMul (i j : Int) : Prop := (-(2 ^ 64) < i ∧ i < 2 ^ 64) ∨ (-(2 ^ 64) < j ∧ j < 2 ^ 64)
theorem CMul.ok {i j : Int} (h : CMul i j) : IntMulOk i j := by
  rcases h with ⟨h1, h2⟩ | ⟨h1, h2⟩
  · exact .of_left (intBits_le_64 h1 h2)
  · exact .of_right (intBits_le_64 h1 h2)
theorem op_add : OpR X (binaryOp .Add) (rI0 fun i j => .int (i + j)) := opI0 fun _ _ _ _ _ _ _ q => add_int q
theorem op_sub : OpR X (binaryOp .Sub) (rI0 fun i j => .int (i - j)) := opI0 fun _ _ _ _ _ _ _ q => sub_int q
theorem op_mul : OpR X (binaryOp .Mult) (rI CMul fun i j => .int (i * j)) := opI fun _ _ _ _ _ _ _ hc q => mul_int q hc.ok
/-- // by a positive divisor -/
theorem op_fdiv : OpR X (binaryOp .FloorDiv) (rI CDiv fun i j => .int (i / j)) := opI fun i j _ _ _ _ _ hc q => by
  have h1 : (0 : Int) < j := hc.1
  have h2 : j < 1073741824 := hc.2
  exact floordiv_int (by omega) (by rw [Int.fdiv_eq_ediv_of_nonneg i (by omega)]; exact q) (.inl (PyProof.noPylong_small (by omega)))
/-- % by a positive divisor of any size -/
theorem op_mod : OpR X (binaryOp .Mod) (rI (fun _ j => 0 < j) fun i j => .int (i % j)) := opI fun i j _ _ _ _ _ hc q => by
  have h1 : (0 : Int) < j := hc
  exact mod_int' (by omega) (by rw [Int.fmod_eq_emod_of_nonneg i (by omega)]; exact q)
theorem unI {f : Value → Sem Value} {g : Int → Int}
    (rule : ∀ (i : Int) (t : Tok) (s : Shared) (Q : Value → Shared → Prop) (E : Value → Shared → Prop), Q (.int (g i) s.toks) { s with toks := s.toks + 1 } → wpAny (model X.prog X.w) X.A (f (.int i t)) Q E s) :
    UnR X f (rU fun i => .int (g i)) := by
  intro pins s σ H x v Q I rx h
  obtain ⟨i, rfl, q⟩ := h
  obtain ⟨t, rfl⟩ := rx
  exact rule i t s _ _ ⟨.int (g i), H, I.tok _, ⟨_, rfl⟩, q⟩
theorem un_neg : UnR X (unaryOp .USub) (rU fun i => .int (-i)) := unI fun _ _ _ _ _ q => neg_int q
/-! ### bools among ints: n += (a < b) -/
end

/-! ### comparisons -/
/-- the scalars that == tells apart as data does -/
def scal : V → V → Bool
  | .non, .non => true | .non, .int _ => true | .int _, .non => true | .non, .bl _ => true | .bl _, .non => true | .non, .str _ => true | .str _, .non => true
  | .int _, .int _ => true | .bl _, .bl _ => true | .str _, .str _ => true | .byt _, .byt _ => true
  | .int _, .str _ => true | .str _, .int _ => true | .bl _, .str _ => true | .str _, .bl _ => true
  | _, _ => false
def rEq : R2 := fun x y H Q => scal x y = true ∧ Q (.bl (decide (x = y))) H
def rNe : R2 := fun x y H Q => scal x y = true ∧ Q (.bl (!decide (x = y))) H

theorem dec_int {i j : Int} : decide (V.int i = V.int j) = (i == j) := by
  rw [Bool.eq_iff_iff]
  simp
theorem dec_bl {i j : Bool} : decide (V.bl i = V.bl j) = (i == j) := by
  rw [Bool.eq_iff_iff]
  simp
theorem dec_str {i j : Str} : decide (V.str i = V.str j) = (i == j) := by
  rw [Bool.eq_iff_iff]
  simp
theorem dec_byt {i j : Array UInt8} : decide (V.byt i = V.byt j) = (i.toList == j.toList) := by
  rw [Bool.eq_iff_iff]
  cases i
  cases j
  simp

section
variable {X : Cx} {a b c : Expr} {ta tb tc : TE} {pos : Pos}
theorem fin_bl {pins : List (Addr × Obj)} {σ : St} {H : Hp} {s : Shared} {Q : VK} {k k' : Bool} (I : Inv X pins σ H s) (q : Q (.bl k) H) (e : k = k') : EP X pins σ Q (.bool k') s := by
  subst e
  exact ⟨.bl k, H, I, rfl, q⟩
theorem op_eq : OpR X (compareOp .Eq) rEq := by
  intro pins s σ H x y v u Q I rx ry h
  obtain ⟨hs, q⟩ := h
  cases x with
  | non =>
    cases rx
    cases y with
    | non => cases ry; exact PySem.EqNone.eq_none_none (fin_bl I q (by simp))
    | bl j => cases ry; exact PySem.EqNone.eq_none_bool (fin_bl I q (by simp))
    | int j => obtain ⟨t', rfl⟩ := ry; exact PySem.EqNone.eq_none_int (fin_bl I q (by simp))
    | str j => obtain ⟨t', rfl⟩ := ry; exact PySem.EqNone.eq_none_str (fin_bl I q (by simp))
    | _ => exact absurd (show false = true from hs) Bool.false_ne_true
  | bl i =>
    cases rx
    cases y with
    | non => cases ry; exact PySem.EqNone.eq_bool_none (fin_bl I q (by simp))
    | bl j => cases ry; exact eq_bool (fin_bl I q dec_bl)
    | str j => obtain ⟨t', rfl⟩ := ry; exact PySem.EqMixed.eq_bool_str (fin_bl I q (by simp))
    | _ => exact absurd (show false = true from hs) Bool.false_ne_true
  | int i =>
    obtain ⟨t, rfl⟩ := rx
    cases y with
    | non => cases ry; exact PySem.EqNone.eq_int_none (fin_bl I q (by simp))
    | int j => obtain ⟨t', rfl⟩ := ry; exact eq_int (fin_bl I q dec_int)
    | str j => obtain ⟨t', rfl⟩ := ry; exact PySem.EqMixed.eq_int_str (fin_bl I q (by simp))
    | _ => exact absurd (show false = true from hs) Bool.false_ne_true
  | str i =>
    obtain ⟨t, rfl⟩ := rx
    cases y with
    | non => cases ry; exact PySem.EqNone.eq_str_none (fin_bl I q (by simp))
    | bl j => cases ry; exact PySem.EqMixed.eq_str_bool (fin_bl I q (by simp))
    | int j => obtain ⟨t', rfl⟩ := ry; exact PySem.EqMixed.eq_str_int (fin_bl I q (by simp))
    | str j => obtain ⟨t', rfl⟩ := ry; exact eq_str (fin_bl I q dec_str)
    | _ => exact absurd (show false = true from hs) Bool.false_ne_true
  | byt i =>
    obtain ⟨t, rfl⟩ := rx
    cases y with
    | byt j => obtain ⟨t', rfl⟩ := ry; exact PySem.W.eq_bytes (fin_bl I q dec_byt)
    | _ => exact absurd (show false = true from hs) Bool.false_ne_true
  | _ => cases y <;> exact absurd (show false = true from hs) Bool.false_ne_true
theorem op_ne : OpR X (compareOp .NotEq) rNe := by
  intro pins s σ H x y v u Q I rx ry h
  obtain ⟨hs, q⟩ := h
  cases x with
  | non =>
    cases rx
    cases y with
    | non => cases ry; exact PySem.EqNone.ne_none_none (fin_bl I q (by simp))
    | bl j => cases ry; exact PySem.EqNone.ne_none_bool (fin_bl I q (by simp))
    | int j => obtain ⟨t', rfl⟩ := ry; exact PySem.EqNone.ne_none_int (fin_bl I q (by simp))
    | str j => obtain ⟨t', rfl⟩ := ry; exact PySem.EqNone.ne_none_str (fin_bl I q (by simp))
    | _ => exact absurd (show false = true from hs) Bool.false_ne_true
  | bl i =>
    cases rx
    cases y with
    | non => cases ry; exact PySem.EqNone.ne_bool_none (fin_bl I q (by simp))
    | bl j => cases ry; exact ne_bool (fin_bl I q (congrArg not dec_bl))
    | str j => obtain ⟨t', rfl⟩ := ry; exact PySem.EqMixed.ne_bool_str (fin_bl I q (by simp))
    | _ => exact absurd (show false = true from hs) Bool.false_ne_true
  | int i =>
    obtain ⟨t, rfl⟩ := rx
    cases y with
    | non => cases ry; exact PySem.EqNone.ne_int_none (fin_bl I q (by simp))
    | int j => obtain ⟨t', rfl⟩ := ry; exact ne_int (fin_bl I q (congrArg not dec_int))
    | str j => obtain ⟨t', rfl⟩ := ry; exact PySem.EqMixed.ne_int_str (fin_bl I q (by simp))
    | _ => exact absurd (show false = true from hs) Bool.false_ne_true
  | str i =>
    obtain ⟨t, rfl⟩ := rx
    cases y with
    | non => cases ry; exact PySem.EqNone.ne_str_none (fin_bl I q (by simp))
    | bl j => cases ry; exact PySem.EqMixed.ne_str_bool (fin_bl I q (by simp))
    | int j => obtain ⟨t', rfl⟩ := ry; exact PySem.EqMixed.ne_str_int (fin_bl I q (by simp))
    | str j => obtain ⟨t', rfl⟩ := ry; exact ne_str (fin_bl I q (congrArg not dec_str))
    | _ => exact absurd (show false = true from hs) Bool.false_ne_true
  | byt i =>
    obtain ⟨t, rfl⟩ := rx
    cases y with
    | byt j => obtain ⟨t', rfl⟩ := ry; exact PySem.W.ne_bytes (fin_bl I q (congrArg not dec_byt))
    | _ => exact absurd (show false = true from hs) Bool.false_ne_true
  | _ => cases y <;> exact absurd (show false = true from hs) Bool.false_ne_true

theorem op_lt : OpR X (compareOp .Lt) (rI0 fun i j => .bl (decide (i < j))) := opB0 fun _ _ _ _ _ _ _ q => lt_int q
theorem op_gt : OpR X (compareOp .Gt) (rI0 fun i j => .bl (decide (j < i))) := opB0 fun _ _ _ _ _ _ _ q => gt_int q
theorem op_ge : OpR X (compareOp .GtE) (rI0 fun i j => .bl (decide (j ≤ i))) := opB0 fun _ _ _ _ _ _ _ q => ge_int q
/-- is None, is not None: the right side a value none -/
theorem op_isN : OpR X (compareOp .Is) (fun x y H Q => y = .non ∧ Q (.bl (decide (x = .non))) H) := by
  intro pins s σ H x y v u Q I rx ry h
  obtain ⟨rfl, q⟩ := h
  cases ry
  refine is_none_gen (fin_bl I q ?_)
  cases x <;> first
    | (cases rx; rfl)
    | (obtain ⟨t, rfl⟩ := rx; rfl)
/-- two rules for one operation: by cases -/
theorem OpR.or {f : Value → Value → Sem Value} {r r' : R2} (h : OpR X f r) (h' : OpR X f r') : OpR X f (fun x y H Q => r x y H Q ∨ r' x y H Q) := by
  intro pins s σ H x y v u Q I rx ry q
  rcases q with q | q
  · exact h pins s σ H x y v u Q I rx ry q
  · exact h' pins s σ H x y v u Q I rx ry q

theorem nomark (b : Expr) {op : CmpOp} (h : op ≠ .In := by decide) (h2 : op ≠ .NotIn := by decide) : behindInMarks op b = false := by
  have e1 : (op == CmpOp.In) = false := by cases op <;> first | rfl | exact absurd rfl h
  have e2 : (op == CmpOp.NotIn) = false := by cases op <;> first | rfl | exact absurd rfl h2
  cases b <;> simp [behindInMarks, e1, e2]
/-- a comparison as a value; hm: nomark b, or (for in, not in) by with_unfolding_all rfl -/
theorem pe_cmpR {op : CmpOp} {r : R2} (ho : OpR X (compareOp op) r) (ha : PE X a ta) (hb : PE X b tb) (hm : behindInMarks op b = false) : PE X (.Compare a [op] [b] pos) (tOp r ta tb) := by
  intro pins s σ H Q I h
  exact wpAny_Compare1 (binT ha hb I h fun v u s2 x y H2 I2 rx ry q => ho pins s2 σ H2 x y v u Q I2 rx ry q) hm
/-- a reading of a value as a test -/
def tTest (t : TE) : TT := fun σ H Q => t σ H fun x H' => ∃ k, x = .bl k ∧ Q k H'
theorem pt_cmpR {op : CmpOp} {r : R2} (ho : OpR X (compareOp op) r) (ha : PE X a ta) (hb : PE X b tb) (hm : behindInMarks op b = false) : PT X (.Compare a [op] [b] pos) (tTest (tOp r ta tb)) := by
  intro pins s σ H Q I h
  refine wpAny_isTrue_Compare1 (thn (ha pins s σ H _ I h) fun v s1 ⟨x, H1, I1, r1, q1⟩ => thn (hb pins s1 σ H1 _ I1 q1) fun u s2 ⟨y, H2, I2, r2, q2⟩ =>
    thn (ho pins s2 σ H2 x y v u _ I2 r1 r2 q2) fun c s3 ⟨z, H3, I3, r3, k, e, q3⟩ => ?_) hm
  subst e
  cases r3
  exact wpAny_truthy_bool ⟨H3, I3, q3⟩
/-- a op1 b op2 c -/
def tChain (r r' : R2) (ta tb tc : TE) : TE := fun σ H Q => ta σ H fun x H1 => tb σ H1 fun y H2 => r x y H2 fun z H3 => ∃ k, z = .bl k ∧
  (if k = true then tc σ H3 fun w' H4 => r' y w' H4 Q else Q (.bl false) H3)
/-! ### truth -/
/-- a value's truth by the abstract heap -/
def TruV (K : PySem.W.Frag) (x : V) (H : Hp) (k : Bool) : Prop :=
  match x with
  | .non => k = false
  | .bl b => k = b
  | .int i => k = (i != 0)
  | .str y => y.length ≤ sizeLine ∧ k = ((y.length : Int) != 0)
  | .byt y => y.size ≤ sizeLine ∧ k = ((y.size : Int) != 0)
  | .ref p => (∃ xs, SqL K H p xs ∧ k = !xs.isEmpty) ∨ (∃ xs, SqT K H p xs ∧ k = !xs.isEmpty) ∨ ∃ kvs, H p = some (.dK kvs) ∧ k = !kvs.isEmpty
  | _ => False
theorem isEmpty_kv {κ : Type} {kvs : List (κ × V)} {vs : List (κ × Value)} (r : KV kvs vs) : (!vs.isEmpty) = !kvs.isEmpty := by
  cases r <;> rfl
theorem isEmpty_of {xs : List V} {its : List Value} (r : Vals xs its) : (!its.toArray.isEmpty) = !xs.isEmpty := by
  cases r <;> simp
theorem line63 : (sizeLine : Nat) < 2 ^ 63 := by rw [sizeLine_eq]; decide
theorem tru_ok : TruR X (fun x H Q => ∃ k, TruV X.K x H k ∧ Q k H) := by
  intro pins s σ H x v Q I rx h
  obtain ⟨k, e, q⟩ := h
  have hl := line63
  have hs : sizeLine = 16777216 := sizeLine_eq
  cases x with
  | non =>
    cases rx
    have e' : k = false := e
    subst e'
    exact truthy_none ⟨H, I, q⟩
  | bl b =>
    cases rx
    have e' : k = b := e
    subst e'
    exact wpAny_truthy_bool ⟨H, I, q⟩
  | int i =>
    obtain ⟨t, rfl⟩ := rx
    have e' : k = (i != 0) := e
    subst e'
    exact PySem.P.truthy_int ⟨H, I, q⟩
  | str y =>
    obtain ⟨t, rfl⟩ := rx
    obtain ⟨hy, e'⟩ : y.length ≤ sizeLine ∧ k = ((y.length : Int) != 0) := e
    subst e'
    exact PySem.P.truthy_str (by omega) ⟨H, I.tok _, q⟩
  | byt y =>
    obtain ⟨t, rfl⟩ := rx
    obtain ⟨hy, e'⟩ : y.size ≤ sizeLine ∧ k = ((y.size : Int) != 0) := e
    subst e'
    exact PySem.W.truthy_bytes (by omega) ⟨H, I.tok _, q⟩
  | ref p =>
    cases rx
    have e' : (∃ xs, SqL X.K H p xs ∧ k = !xs.isEmpty) ∨ (∃ xs, SqT X.K H p xs ∧ k = !xs.isEmpty) ∨ ∃ kvs, H p = some (.dK kvs) ∧ k = !kvs.isEmpty := e
    rcases e' with ⟨xs, hx, e'⟩ | ⟨xs, hx, e'⟩ | ⟨kvs, hx, e'⟩
    · subst e'
      obtain ⟨its, r, pl, hz⟩ := I.list hx
      have hlen := r.length
      exact wpAny_truthy_list pl.isList (by simp only [List.size_toArray]; omega) ⟨H, I.tok _, by rw [isEmpty_of r]; exact q⟩
    · subst e'
      obtain ⟨its, r, pl, hz⟩ := I.tuple hx
      have hlen := r.length
      exact truthy_tuple pl (by simp only [List.size_toArray]; omega) ⟨H, I.tok _, by rw [isEmpty_of r]; exact q⟩
    · subst e'
      obtain ⟨hz, hS, vs, r, m⟩ : kvs.length ≤ sizeLine ∧ (p == sysModules) = false ∧ ∃ vs, KV kvs vs ∧ s.heap.DictOf (mixKind X.prog X.w) p vs := I.hok p _ hx
      have hlen : kvs.length = vs.length := Paired.length r
      exact wpAny_truthy_dict hS m (by omega) ⟨H, I.tok _, by rw [isEmpty_kv r]; exact q⟩
  | _ => exact (show False from e).elim
/-- any expression whose test is its value's truth (a name, a call, a subscript, a field ..: he by fun _ => rfl) -/
theorem pt_truth (ha : PE X a ta) (he : ∀ whole, isTrue a X.env whole = (do let v ← whole; standAt a.pos; holding [v] (truthy v))) :
    PT X a (fun σ H Q => ta σ H fun x H' => ∃ k, TruV X.K x H' k ∧ Q k H') := by
  intro pins s σ H Q I h
  exact isTrue_plain (thn (ha pins s σ H _ I h) fun v s1 ⟨x, H1, I1, r1, q1⟩ => tru_ok pins s1 σ H1 x v Q I1 r1 q1) (he _)

/-! ### strs and bytes -/
/-! ### scalar builtins, by CallR -/
theorem vals1 {x : V} {us : List Value} (r : Vals [x] us) : ∃ u, us = [u] ∧ RelV x u := by
  cases r with
  | cons r1 r2 => cases r2; exact ⟨_, rfl, r1⟩
theorem vals2 {x y : V} {us : List Value} (r : Vals [x, y] us) : ∃ u w', us = [u, w'] ∧ RelV x u ∧ RelV y w' := by
  cases r with
  | cons r1 r2 =>
    cases r2 with
    | cons r3 r4 => cases r4; exact ⟨_, _, rfl, r1, r3⟩
theorem call_max2 (hc : X.calm = true) : CallR X (.builtin "max") (fun xs H Q => ∃ i j, xs = [.int i, .int j] ∧ Q (.int (if j > i then j else i)) H) := by
  intro pins s σ H xs us Q I r h
  obtain ⟨i, j, rfl, q⟩ := h
  obtain ⟨u, w', rfl, ⟨t, rfl⟩, ⟨t', rfl⟩⟩ := vals2 r
  refine max_two_ints (I.ok.hd hc) fun h' tk k => ⟨_, H, I.kept k, ?_, q⟩
  by_cases hj : j > i
  · rw [if_pos hj, if_pos hj]; exact ⟨_, rfl⟩
  · rw [if_neg hj, if_neg hj]; exact ⟨_, rfl⟩
theorem call_min2 (hc : X.calm = true) : CallR X (.builtin "min") (fun xs H Q => ∃ i j, xs = [.int i, .int j] ∧ Q (.int (if j < i then j else i)) H) := by
  intro pins s σ H xs us Q I r h
  obtain ⟨i, j, rfl, q⟩ := h
  obtain ⟨u, w', rfl, ⟨t, rfl⟩, ⟨t', rfl⟩⟩ := vals2 r
  refine min_two_ints (I.ok.hd hc) fun h' tk k => ⟨_, H, I.kept k, ?_, q⟩
  by_cases hj : j < i
  · rw [if_pos hj, if_pos hj]; exact ⟨_, rfl⟩
  · rw [if_neg hj, if_neg hj]; exact ⟨_, rfl⟩
theorem call_int1 : CallR X (.type "int") (fun xs H Q => (∃ i, xs = [.int i] ∧ Q (.int i) H) ∨ ∃ k, xs = [.bl k] ∧ Q (.int (if k then 1 else 0)) H) := by
  intro pins s σ H xs us Q I r h
  rcases h with ⟨i, rfl, q⟩ | ⟨k, rfl, q⟩
  · obtain ⟨u, rfl, t, rfl⟩ := vals1 r
    exact call_int_int ⟨.int i, H, I, ⟨_, rfl⟩, q⟩
  · obtain ⟨u, rfl, r1⟩ := vals1 r
    cases r1
    exact call_int_bool ⟨.int (if k then 1 else 0), H, I.tok _, ⟨_, rfl⟩, q⟩
end
end L2

namespace L2
open PySem PySem.Spec PyProof.Rows

/-! ### an instance, its attributes a map -/
structure ObjM (h : Heap) (x dx C : Addr) (mA : Str → Option Value) : Prop where
  obj : h.get? x = some (PySem.W.instObj C dx)
  ns : h.Ns1 dx mA
  ne : dx ≠ x

theorem lookIn_ns {h : Heap} {dx : Addr} {mA : Str → Option Value} (n : h.Ns1 dx mA) : ∃ od, h.get? dx = some od ∧ ∀ name, PySem.W.lookIn name od = some (mA name) := by
  obtain ⟨o, es, ep, ho, hd, hk, _, hm⟩ := n
  refine ⟨o, ho, fun name => ?_⟩
  have e := hm name
  unfold nsFind findBy at e
  rw [← Array.find?_toList] at e
  unfold PySem.W.lookIn
  rw [hd]
  dsimp only
  split
  · rename_i y q
    rw [q] at e
    exact congrArg some e
  · rename_i q
    rw [q] at e
    have a : es.toList.any (·.refKey) = false := by
      rw [List.any_eq_false]
      intro y hy
      obtain ⟨z, t, hkey⟩ := hk y (Array.mem_toList_iff.mp hy)
      simp [DictEntry.refKey, hkey]
    have a' : ¬ es.toList.any (·.refKey) = true := by rw [a]; exact Bool.false_ne_true
    rw [if_neg a']
    exact congrArg some e

theorem ObjM.look {h : Heap} {x dx C : Addr} {mA : Str → Option Value} (I : ObjM h x dx C mA) : ∃ od, PySem.W.InstAt h x (PySem.W.instObj C dx) C (some od) ∧ ∀ name, PySem.W.lookIn name od = some (mA name) :=
  let ⟨od, ho, hl⟩ := lookIn_ns I.ns
  ⟨od, ⟨I.obj, rfl, rfl, ho⟩, hl⟩

section
variable {prog : Program} {w : World} {A : Around} {E : Value → Shared → Prop} {s : Shared} {K : PySem.W.Frag} {x dx C f : Addr} {mA : Str → Option Value} {name : Str} {v : Value}

theorem get_map {expr : Bool} {Q : Value → Shared → Prop} (X : K.In s.heap) (I : ObjM s.heap x dx C mA) (hg : PySem.W.plainGet K C name = true) (hh : PySem.W.hasDictIn K C = true)
    (ha : PySem.W.findIn K (.ref C) name = some none) (hv : mA name = some v) (hv' : PySem.W.handedIn v = true) (h : Q v { s with toks := s.toks + 1 }) :
    wpAny (model prog w) A (getAttr (.ref x) name expr) Q E s := by
  obtain ⟨od, J, hl⟩ := I.look
  exact PySem.W.get_value X J (PySem.W.plainGet_of hg).1 (PySem.W.findObj_own hh ha rfl (by rw [hl, hv])) hv' h

theorem get_meth {pl : Sem Bool} {Q : Value × List Value → Shared → Prop} (X : K.In s.heap) (I : ObjM s.heap x dx C mA) (hg : PySem.W.plainGet K C name = true)
    (hf : PySem.W.findIn K (.ref C) name = some (some (.ref f))) (ht : PySem.W.isFn K (.ref f) = true) (hv : mA name = none) (h : Q (.ref f, [.ref x]) s) :
    wpAny (model prog w) A (getMethod (.ref x) name pl) Q E s := by
  obtain ⟨od, J, hl⟩ := I.look
  exact PySem.W.method_fn X J (PySem.W.plainGet_of hg).1 (PySem.W.plainGet_of hg).2 hf (beq_iff_eq.mp ht) (by show (PySem.W.lookIn name od).map (·.isSome) = some false; rw [hl, hv]; rfl) h

theorem set_map {ns : List Str} {Q : Unit → Shared → Prop} (X : K.In s.heap) (I : ObjM s.heap x dx C mA)
    (hs : PySem.W.findIn K (.ref C) "__setattr__" = some (some (.builtin "object.__setattr__"))) (hp : PySem.W.plainOver K C = true) (ht : PySem.W.takerIn K C name = some none) (hh : PySem.W.hasDictIn K C = true)
    (hw : PySem.Within mA ns) (hsz : ns.length ≤ sizeLine)
    (h : ∀ h', ObjM h' x dx C (fun y => if y = name then some v else mA y) → Heap.SameBut dx s.heap h' → Q () { s with heap := h', toks := s.toks + 2 }) :
    wpAny (model prog w) A (setAttr (.ref x) name v) Q E s := by
  obtain ⟨od, J, hl⟩ := I.look
  refine PySem.W.set_plain X J hs (PySem.W.osa_open (s := { s with toks := s.toks + 1 }) (r := none) X J hp ht fun b => ?_)
  obtain ⟨cd, hc, hd'⟩ := PySem.W.any_some hh
  have hx : s.heap.get? x = some ⟨.ref C, some dx, .plain, #[]⟩ := I.obj
  refine wpAny_bind (wpAny_pure (wpAny_bind (wpAny_bind (wpAny_loadPart hx (wpAny_bind (PySem.W.Looks.here (s := { s with toks := s.toks + 1 }) (PySem.W.looks_clsIn X hc) ?_))))))
  rw [hd']
  refine wpAny_pure (a := some dx) (wpAny_bind (wpAny_pure (wpAny_bind ?_)))
  refine wpAny_nsSet1 (s := { s with toks := s.toks + 1 }) I.ns fun h' hn2 hs2 => ?_
  obtain ⟨oD, esD, epD, hoD, hdD, hcD⟩ := hn2.count (PySem.Within.cons name v hw)
  refine wpAny_bind (wpAny_lookBehind hoD (by rw [hdD]; exact pastItsLine_dict (Nat.le_trans hcD (by rw [List.length_cons]; omega))) ?_)
  exact wpAny_pure (h _ ⟨(hs2.2 _ (Ne.symm I.ne)).trans I.obj, hn2, I.ne⟩ hs2)

/-- C(..): the dict at the heap's end, the instance behind it; then its __init__ -/
theorem make_map {R : Result → Shared → Prop} {vs : List Value} {kw : List (Str × Value)} (X : K.In s.heap) (hm : PySem.W.makesIn K C = true)
    (hi : PySem.W.findIn K (.ref C) "__init__" = some (some (.ref f))) (hf : PySem.W.typeIn K (.ref f) = some (.type "function"))
    (h : codeAny (model prog w) (A.under (.builtin "type.__call__" ⟨.ref C :: vs, kw⟩)) (.call (.ref f) ⟨.ref (s.heap.objs.size + 1) :: vs, kw⟩) (PySem.W.InitBack (s.heap.objs.size + 1) R)
      { s with heap := (s.heap.push PySem.W.emptyDict).push (PySem.W.instObj C s.heap.objs.size) }) :
    codeAny (model prog w) A (.call (.ref C) ⟨vs, kw⟩) R s := by
  obtain ⟨hh, g, d, t, os⟩ := s
  exact PySem.W.make_core (PySem.W.makes_of X hm) (PySem.W.looks_findIn X hi) (fun self => PySem.W.bind_fn X self hf) (.inl rfl) h
end

/-! ### the attributes as a list of pairs -/
def putF (f : Str) (v : V) : List (Str × V) → List (Str × V)
  | [] => [(f, v)]
  | (g, x) :: r => if g = f then (g, v) :: r else (g, x) :: putF f v r
theorem lookup_putF (f g : Str) (v : V) : ∀ fs : List (Str × V), (putF f v fs).lookup g = if g = f then some v else fs.lookup g
  | [] => by
    show List.lookup g [(f, v)] = _
    by_cases h : g = f
    · have hb : (g == f) = true := beq_iff_eq.mpr h
      simp only [List.lookup, hb, if_pos h]
    · have hb : (g == f) = false := beq_eq_false_iff_ne.mpr h
      simp only [List.lookup, hb, if_neg h]
  | (k, x) :: r => by
    have ih := lookup_putF f g v r
    rw [show putF f v ((k, x) :: r) = (if k = f then (k, v) :: r else (k, x) :: putF f v r) from rfl]
    by_cases hk : k = f
    · rw [if_pos hk]
      by_cases h : g = k
      · have hb : (g == k) = true := beq_iff_eq.mpr h
        simp only [List.lookup, hb, if_pos (h.trans hk)]
      · have hb : (g == k) = false := beq_eq_false_iff_ne.mpr h
        simp only [List.lookup, hb, if_neg (fun e : g = f => h (e.trans hk.symm))]
    · rw [if_neg hk]
      by_cases h : g = k
      · have hb : (g == k) = true := beq_iff_eq.mpr h
        simp only [List.lookup, hb, if_neg (fun e : g = f => hk (h.symm.trans e))]
      · have hb : (g == k) = false := beq_eq_false_iff_ne.mpr h
        simp only [List.lookup, hb]
        exact ih
theorem keys_putF (f : Str) (v : V) : ∀ fs : List (Str × V), f ∈ (putF f v fs).map (·.1) ∧ ∀ g, g ∈ fs.map (·.1) → g ∈ (putF f v fs).map (·.1)
  | [] => ⟨by simp [putF], fun g h => by simp at h⟩
  | (k, x) :: r => by
    obtain ⟨i1, i2⟩ := keys_putF f v r
    rw [show putF f v ((k, x) :: r) = (if k = f then (k, v) :: r else (k, x) :: putF f v r) from rfl]
    by_cases hk : k = f
    · rw [if_pos hk]
      subst hk
      exact ⟨by simp, fun g h => by simpa using h⟩
    · rw [if_neg hk]
      refine ⟨?_, fun g h => ?_⟩
      · rw [List.map_cons]
        exact List.mem_cons_of_mem _ i1
      · rw [List.map_cons] at h ⊢
        rcases List.mem_cons.mp h with e | e
        · exact List.mem_cons.mpr (.inl e)
        · exact List.mem_cons_of_mem _ (i2 g e)
theorem length_putF (f : Str) (v : V) : ∀ fs : List (Str × V), (putF f v fs).length ≤ fs.length + 1
  | [] => by simp [putF]
  | (k, x) :: r => by
    have ih := length_putF f v r
    rw [show putF f v ((k, x) :: r) = (if k = f then (k, v) :: r else (k, x) :: putF f v r) from rfl]
    by_cases hk : k = f
    · rw [if_pos hk, List.length_cons, List.length_cons]; omega
    · rw [if_neg hk, List.length_cons, List.length_cons]; omega

theorem RelO.some_of {v : V} {o : Option Value} (r : RelO (some v) o) : ∃ u, o = some u ∧ RelV v u := by
  cases o with
  | none => exact (show False from r).elim
  | some u => exact ⟨u, rfl, r⟩
theorem RelO.none_of {o : Option Value} (r : RelO none o) : o = none := by
  cases o with
  | none => rfl
  | some u => exact (show False from r).elim
theorem handed_of {v : V} {u : Value} (r : RelV v u) : PySem.W.handedIn u = true := by
  cases v with
  | non => cases (show u = Value.none from r); rfl
  | bl b => cases (show u = Value.bool b from r); rfl
  | int i => obtain ⟨t, e⟩ := (show ∃ t, u = Value.int i t from r); cases e; rfl
  | str x => obtain ⟨t, e⟩ := (show ∃ t, u = Value.str x t from r); cases e; rfl
  | byt b => obtain ⟨t, e⟩ := (show ∃ t, u = Value.bytes b t from r); cases e; rfl
  | flt b => obtain ⟨t, e⟩ := (show ∃ t, u = Value.float b t from r); cases e; rfl
  | ref a => cases (show u = Value.ref a from r); rfl
  | ty n => cases (show u = Value.type n from r); rfl

section
variable {P : Program} {w : World} {H H' : Hp} {h h' : Heap} {a C dx : Addr} {fs fs' : List (Str × V)}
theorem ins_get (hok : HOk P w H h) (e : H a = some (.ins C dx fs)) : ∃ mA, ObjM h a dx C mA ∧ (∀ f, RelO (fs.lookup f) (mA f)) ∧ PySem.Within mA (fs.map (·.1)) ∧ fs.length ≤ 1000 ∧ H dx = some (.own a) := by
  obtain ⟨d, z, ne, ob, mA, n, r, q⟩ := (show ObjOk P w H h a (.ins C dx fs) from hok a _ e)
  exact ⟨mA, ⟨ob, n, ne⟩, r, q, z, d⟩
end

/-! ### what of the text a class must have -/
structure Cls (K : PySem.W.Frag) (C : Addr) : Prop where
  pg : PySem.W.plainGet K C Str.empty = true
  hd : PySem.W.hasDictIn K C = true
  po : PySem.W.plainOver K C = true
  sa : PySem.W.findIn K (.ref C) "__setattr__" = some (some (.builtin "object.__setattr__"))
theorem Cls.get {K : PySem.W.Frag} {C : Addr} (c : Cls K C) (f : Str) : PySem.W.plainGet K C f = true := c.pg
/-- no class of it has the name -/
def NoAttr (K : PySem.W.Frag) (C : Addr) (f : Str) : Prop := PySem.W.findIn K (.ref C) f = some none
theorem NoAttr.taker {K : PySem.W.Frag} {C : Addr} {f : Str} (n : NoAttr K C f) : PySem.W.takerIn K C f = some none := by
  unfold PySem.W.takerIn
  rw [show PySem.W.findIn K (.ref C) f = some none from n]
  rfl
/-- a constant of the class -/
structure Con (K : PySem.W.Frag) (C : Addr) (f : Str) (v : V) (u : Value) : Prop where
  at_ : PySem.W.findIn K (.ref C) f = some (some u)
  rel : RelV v u
  get : PySem.W.specialIn K u "__get__" = some none
  cp : PySem.W.copiedNames.contains f = false
/-- a method: a plain def of the class or of one above it -/
structure Meth (K : PySem.W.Frag) (C : Addr) (m : Str) (f : Addr) : Prop where
  at_ : PySem.W.findIn K (.ref C) m = some (some (.ref f))
  fn : PySem.W.isFn K (.ref f) = true
  kp : PySem.W.keepIn K (.ref f) = true

section
variable {X : Cx} {pins : List (Addr × Obj)} {σ : St} {H : Hp} {s : Shared} {a C dx : Addr} {fs : List (Str × V)} {f : Str} {v : V} {A : Around} {E : Value → Shared → Prop}

theorem getattr_ok {b : Bool} {Q : Value → Shared → Prop} (I : Inv X pins σ H s) (e : H a = some (.ins C dx fs)) (c : Cls X.K C) (n : NoAttr X.K C f) (l : fs.lookup f = some v)
    (h : ∀ u s', Inv X pins σ H s' → RelV v u → Q u s') : wpAny (model X.prog X.w) A (getAttr (.ref a) f b) Q E s := by
  obtain ⟨mA, O, r, _, _, _⟩ := ins_get I.hok e
  obtain ⟨u, hu, ru⟩ := RelO.some_of (v := v) (o := mA f) (by rw [← l]; exact r f)
  exact get_map I.kIn O (c.get f) c.hd n hu (handed_of ru) (h u _ (I.tok _) ru)

theorem getmeth_ok {m : Str} {g : Addr} {pl : Sem Bool} {Q : Value × List Value → Shared → Prop} (I : Inv X pins σ H s) (e : H a = some (.ins C dx fs)) (c : Cls X.K C) (k : Meth X.K C m g) (l : fs.lookup m = none)
    (h : Q (.ref g, [.ref a]) s) : wpAny (model X.prog X.w) A (getMethod (.ref a) m pl) Q E s := by
  obtain ⟨mA, O, r, _, _, _⟩ := ins_get I.hok e
  have hn : mA m = none := RelO.none_of (by rw [← l]; exact r m)
  exact get_meth I.kIn O (c.get m) k.at_ k.fn hn h

theorem setattr_ok {y : V} {u : Value} {Q : Unit → Shared → Prop} (I : Inv X pins σ H s) (e : H a = some (.ins C dx fs)) (c : Cls X.K C) (n : NoAttr X.K C f) (hl : fs.length < 1000) (ry : RelV y u)
    (h : ∀ s', Inv X pins σ (upd H a (.ins C dx (putF f y fs))) s' → Q () s') : wpAny (model X.prog X.w) A (setAttr (.ref a) f u) Q E s := by
  obtain ⟨mA, O, r, wi, _, ho⟩ := ins_get I.hok e
  have hz : (fs.map (·.1)).length ≤ sizeLine := by rw [List.length_map, sizeLine_eq]; omega
  refine set_map I.kIn O c.sa c.po n.taker c.hd wi hz fun h' O' sb => h _ ?_
  have hd : ∃ o, h'.get? dx = some o := let ⟨o, _, _, e', _⟩ := O'.ns; ⟨o, e'⟩
  refine I.write (x := a) (e := dx) (by rw [e]; exact True.intro) (.inr ho) (fun b q hb z => (sb.2 b hb).trans z) hd ?_
  refine ⟨by rw [upd_ne O.ne]; exact ho, ?_, O.ne, O'.obj, _, O'.ns, fun g => ?_, fun g hg => ?_⟩
  · have := length_putF f y fs; omega
  · show RelO ((putF f y fs).lookup g) (if g = f then some u else mA g)
    rw [lookup_putF]
    by_cases q : g = f
    · rw [if_pos q, if_pos q]; exact ry
    · rw [if_neg q, if_neg q]; exact r g
  · by_cases q : g = f
    · rw [q]; exact (keys_putF f y fs).1
    · refine (keys_putF f y fs).2 g (wi g fun z => hg ?_)
      show (if g = f then some u else mA g) = none
      rw [if_neg q]; exact z

/-- a new instance, tracked, without attributes -/
theorem Inv.made (I : Inv X pins σ H s) : Inv X pins σ (upd (upd H s.heap.objs.size (.own (s.heap.objs.size + 1))) (s.heap.objs.size + 1) (.ins C s.heap.objs.size []))
    { s with heap := (s.heap.push PySem.W.emptyDict).push (PySem.W.instObj C s.heap.objs.size) } := by
  have e1 : (s.heap.push PySem.W.emptyDict).get? s.heap.objs.size = some PySem.W.emptyDict := Heap.get?_push_size s.heap rfl
  have e2 : ((s.heap.push PySem.W.emptyDict).push (PySem.W.instObj C s.heap.objs.size)).get? (s.heap.objs.size + 1) = some (PySem.W.instObj C s.heap.objs.size) := by
    have := Heap.get?_push_size (s.heap.push PySem.W.emptyDict) (o := PySem.W.instObj C s.heap.objs.size) rfl
    rwa [Heap.size_push] at this
  have e3 : (s.heap.push PySem.W.emptyDict).Ns s.heap.objs.size (fun _ => none) := ⟨PySem.W.emptyDict, #[], _, e1, rfl, (fun e he => absurd he (by simp)), fun _ => rfl⟩
  have I1 := I.laid (a := s.heap.objs.size) (o := .own (s.heap.objs.size + 1)) (h' := s.heap.push PySem.W.emptyDict) (t' := s.toks) (fun b u q => Heap.get?_push_of_some _ q) (Nat.le_refl _) ⟨_, e1⟩
  refine I1.laid (a := s.heap.objs.size + 1) (o := .ins C s.heap.objs.size []) (t' := s.toks) (fun b u q => Heap.get?_push_of_some _ q) (Nat.le_of_eq (Heap.size_push _ _)) ?_
  have ne : s.heap.objs.size ≠ s.heap.objs.size + 1 := Nat.ne_of_lt (Nat.lt_succ_self _)
  refine ⟨by rw [upd_ne ne, upd_same], Nat.zero_le _, ne, e2, fun _ => none, (Heap.Ns1.of_empty e3).at fun o q => Heap.get?_push_of_some _ q, fun _ => True.intro, fun y hy => absurd rfl hy⟩

/-- e.f where nothing but the object is asked: through attributeBase (super) and the last hold -/
theorem attr_of {prog : Program} {w : World} {env : Env} {e : Expr} {f : Str} {pos : Pos} {s : Shared} {Q : Value → Shared → Prop} (hb : attributeBase e f env (eval e env) = eval e env)
    (h : wpAny (model prog w) A (eval e env) (fun o s₁ => wpAny (model prog w) A (getAttr o f true) Q E s₁) E s) : wpAny (model prog w) A (eval (.Attribute e f pos) env) Q E s :=
  Attribute_any_ h (by rw [arm_eval_Attribute, hb])
end

/-! ### readings and rules -/
/-- e.f, an attribute of the instance -/
def tFld (K : PySem.W.Frag) (ta : TE) (f : Str) : TE := fun σ H Q => ta σ H fun x H1 => ∃ a C dx fs v, x = .ref a ∧ H1 a = some (.ins C dx fs) ∧ Cls K C ∧ NoAttr K C f ∧ fs.lookup f = some v ∧ Q v H1
/-- e.f = value -/
def sFld (K : PySem.W.Frag) (ta tv : TE) (f : Str) : TS := fun D σ H => tv σ H fun y H1 => ta σ H1 fun x H2 => ∃ a C dx fs, x = .ref a ∧ H2 a = some (.ins C dx fs) ∧ Cls K C ∧ NoAttr K C f ∧ fs.length < 1000 ∧
  D.nx σ (upd H2 a (.ins C dx (putF f y fs)))
section
variable {X : Cx} {o e value : Expr} {f : Str} {pos pos' tpos : Pos} {ta tv : TE}
theorem pe_fld (he : PE X e ta) (hb : attributeBase e f X.env (eval e X.env) = eval e X.env) : PE X (.Attribute e f pos) (tFld X.K ta f) := by
  intro pins s σ H Q I h
  refine attr_of hb (thn (he pins s σ H _ I h) fun u s1 ⟨x, H1, I1, rx, a, C, dx, fs, v, ex, ea, c, n, l, q⟩ => ?_)
  subst ex
  obtain rfl : u = Value.ref a := rx
  exact getattr_ok I1 ea c n l fun u' s2 I2 ru => ⟨v, H1, I2, ru, q⟩
theorem ps_fld (ha : PE X o ta) (hv : PE X value tv) (hs : swapsWith value (some (.Attribute o f pos')) pos.line X.env = pure false) : PS X (.Assign [.Attribute o f pos'] value pos) (sFld X.K ta tv f) := by
  intro pins s σ H D I h
  refine plainObj_wpAny_Assign_Attribute (thn (hv pins s σ H _ I h) fun u s1 ⟨y, H1, I1, ry, q⟩ => thn (ha pins s1 σ H1 _ I1 q) fun ov s2 ⟨x, H2, I2, rx, a, C, dx, fs, ex, ea, c, n, l, q2⟩ => ?_) hs
  subst ex
  obtain rfl : ov = Value.ref a := rx
  exact setattr_ok I2 ea c n l ry fun s3 I3 => ⟨σ, _, I3, q2⟩
end

/-! ### isinstance -/
section
variable {X : Cx} {pins : List (Addr × Obj)} {σ : St} {H : Hp} {s : Shared} {A : Around} {E : Value → Shared → Prop} {Q : Value → Shared → Prop} {c : Value} {b : Bool}
/-- the type of a value, as the fragment's deciders take it; for an instance its class -/
inductive TyOf (K : PySem.W.Frag) (H : Hp) : V → Value → Prop where
  | non : TyOf K H .non (.type "NoneType")
  | bl (x : Bool) : TyOf K H (.bl x) (.type "bool")
  | int (i : Int) : TyOf K H (.int i) (.type "int")
  | str (x : Str) : TyOf K H (.str x) (.type "str")
  | flt (x : UInt64) : TyOf K H (.flt x) (.type "float")
  | lst {a : Addr} {xs : List V} (e : H a = some (.lst xs)) : TyOf K H (.ref a) (.type "list")
  | frz {a : Addr} {o : Obj} {xs : List V} (e : H a = some (.frz o (.lst xs))) : TyOf K H (.ref a) (.type "list")
  | tup {a : Addr} {xs : List V} (e : H a = some (.tup xs)) : TyOf K H (.ref a) (.type "tuple")
  | dK {a : Addr} {kvs : List (Key × V)} (e : H a = some (.dK kvs)) : TyOf K H (.ref a) (.type "dict")
  | dT {a : Addr} {kvs : List (List Key × V)} (e : H a = some (.dT kvs)) : TyOf K H (.ref a) (.type "dict")
  | ins {a C dx : Addr} {fs : List (Str × V)} (e : H a = some (.ins C dx fs)) (cl : Cls K C) (ha : PySem.W.findIn K (.ref C) "__class__" = some (some (.builtin "object.__class__")))
      (hn : PySem.W.specialIn K (.builtin "object.__class__") "__get__" = some (some (.builtin "getset_descriptor.__get__"))) (htk : PySem.W.takesIn K (.builtin "object.__class__") = some true)
      (hm : PySem.W.mroIn K C (.type "object") = some true) : TyOf K H (.ref a) (.ref C)
/-- isinstance(x, c) for one class c, a built-in or an own one: kitOne's answer -/
theorem isinst_ok {x : V} {u t : Value} (I : Inv X pins σ H s) (rx : RelV x u) (ty : TyOf X.K H x t) (e : PySem.W.kitOne X.K t c = some b) (h : ∀ tk, Q (.bool b) { s with toks := tk }) :
    wpAny (model X.prog X.w) A (call (.builtin "isinstance") [u, c]) Q E s := by
  cases ty with
  | non => cases (show u = Value.none from rx); exact PySem.W.kia_one PySem.W.kitx_none I.kIn True.intro e (fun z => nomatch z) h
  | bl y => cases (show u = Value.bool y from rx); exact PySem.W.kia_one PySem.W.kitx_bool I.kIn True.intro e (fun z => nomatch z) h
  | int i => obtain ⟨t, q⟩ := (show ∃ t, u = Value.int i t from rx); cases q; exact PySem.W.kia_one PySem.W.kitx_int I.kIn True.intro e (fun z => nomatch z) h
  | str y => obtain ⟨t, q⟩ := (show ∃ t, u = Value.str y t from rx); cases q; exact PySem.W.kia_one PySem.W.kitx_str I.kIn True.intro e (fun z => nomatch z) h
  | flt y => obtain ⟨t, q⟩ := (show ∃ t, u = Value.float y t from rx); cases q; exact PySem.W.kia_one PySem.W.kitx_float I.kIn True.intro e (fun z => nomatch z) h
  | @lst a xs ea =>
    cases (show u = Value.ref a from rx)
    obtain ⟨_, _, n, _, h1⟩ := (show ObjOk X.prog X.w H s.heap a (.lst xs) from I.hok a _ ea)
    exact PySem.W.kia_one PySem.W.kitx_list I.kIn ⟨_, h1, rfl⟩ e (fun z => nomatch z) h
  | @frz a ob xs ea =>
    cases (show u = Value.ref a from rx)
    obtain ⟨_, _, _, n, _, h1⟩ := (show ObjOk X.prog X.w H s.heap a (.frz ob (.lst xs)) from I.hok a _ ea)
    exact PySem.W.kia_one PySem.W.kitx_list I.kIn ⟨_, h1, rfl⟩ e (fun z => nomatch z) h
  | @tup a xs ea =>
    cases (show u = Value.ref a from rx)
    obtain ⟨_, _, _, p⟩ := (show ObjOk X.prog X.w H s.heap a (.tup xs) from I.hok a _ ea)
    obtain ⟨o, h1, h2, _⟩ := p
    exact PySem.W.kia_one PySem.W.kitx_tuple I.kIn ⟨o, h1, h2⟩ e (fun z => nomatch z) h
  | @dK a kvs ea =>
    cases (show u = Value.ref a from rx)
    obtain ⟨_, _, vs, _, p⟩ := (show ObjOk X.prog X.w H s.heap a (.dK kvs) from I.hok a _ ea)
    obtain ⟨o, es, ep, h1, h2, _⟩ := p
    exact PySem.W.kia_one PySem.W.kitx_dict I.kIn ⟨o, h1, h2.1⟩ e (fun z => nomatch z) h
  | @dT a kvs ea =>
    cases (show u = Value.ref a from rx)
    obtain ⟨_, _, xs, _, o, es, ep, h1, h2, _⟩ := (show ObjOk X.prog X.w H s.heap a (.dT kvs) from I.hok a _ ea)
    exact PySem.W.kia_one PySem.W.kitx_dict I.kIn ⟨o, h1, h2.1⟩ e (fun z => nomatch z) h
  | @ins a C dx fs ea cl ha hn htk hm =>
    cases (show u = Value.ref a from rx)
    obtain ⟨mA, O, _⟩ := ins_get I.hok ea
    obtain ⟨od, J, _⟩ := O.look
    exact PySem.W.kia_one (PySem.W.kitx_own (cl.get _) cl.hd ha hn htk hm) I.kIn J e (fun z => nomatch z) h
end
end L2

namespace L2
open PySem PySem.Spec PyProof.Rows

/-! ### room -/
structure Room (k : Nat) (A : Around) : Prop where
  hd : A.handled = none
  dp : A.depth + 3 * k + 5 < recursionLimit
  un : A.units + 16 * k + 200 < cLine
theorem Room.mono {j k : Nat} {A : Around} (r : Room k A) (h : j ≤ k) : Room j A := ⟨r.hd, by have := r.dp; omega, by have := r.un; omega⟩
theorem Room.deeper {k : Nat} {A : Around} (r : Room (k + 1) A) (env : Env) : Room k (A.deeper env) :=
  ⟨r.hd, by have := r.dp; show A.depth + 1 + 3 * k + 5 < _; omega, by have := r.un; show A.units + 3 + 16 * k + 200 < _; omega⟩
theorem Room.in1 {k : Nat} {A : Around} (r : Room (k + 1) A) : Room k A.in1 :=
  ⟨r.hd, by have := r.dp; show A.depth + 3 * k + 5 < _; omega, by have := r.un; show A.units + 1 + 16 * k + 200 < _; omega⟩
theorem make_depth {A : Around} {C : Addr} {us : List Value} {kw : List (Str × Value)} : (A.under (.builtin "type.__call__" ⟨.ref C :: us, kw⟩)).depth = A.depth + 1 := by
  first | rfl | simp [Around.under, Code.weight, Code.isCreation, Code.isGuard, Code.isCaller, Code.frames, Code.isFrame, guardIds]
theorem make_units {A : Around} {C : Addr} {us : List Value} {kw : List (Str × Value)} : (A.under (.builtin "type.__call__" ⟨.ref C :: us, kw⟩)).units = A.units + 1 := by
  first | rfl | simp [Around.under, Code.cUnits, Code.frames, Code.isFrame]
theorem Room.make {k : Nat} {A : Around} (r : Room (k + 1) A) (C : Addr) (us : List Value) (kw : List (Str × Value)) : Room k (A.under (.builtin "type.__call__" ⟨.ref C :: us, kw⟩)) :=
  ⟨r.hd, by have := r.dp; rw [make_depth]; omega, by have := r.un; rw [make_units]; omega⟩
theorem Room.depth {k : Nat} {A : Around} (r : Room k A) : A.depth < recursionLimit := by have := r.dp; omega
theorem Room.units {k : Nat} {A : Around} (r : Room k A) : A.units + 64 < cLine := by have := r.un; omega
/-! ### argument lists and displays -/
def tNil : TA := fun _ H Q => Q [] H
def tCons (ta : TE) (tr : TA) : TA := fun σ H Q => ta σ H fun x H1 => tr σ H1 fun xs H2 => Q (x :: xs) H2
section
variable {X : Cx} {e : Expr} {es : List Expr} {te : TE} {t : TA} {pos : Pos}
theorem pa_nil : PA X [] tNil := fun _ _ _ _ H Q I h => Calls.spliced_nil ⟨[], H, I, .nil, h⟩
theorem pa_cons (ha : PE X e te) (hr : PA X es t) (hs : starEach (e :: es) X.env = (false, eval e X.env) :: starEach es X.env := by rfl) : PA X (e :: es) (tCons te t) := by
  intro pos pins s σ H Q I h
  rw [hs]
  show wpAny _ _ (spliced ((false, eval e X.env) :: backTo pos (starEach es X.env))) _ _ s
  refine Calls.spliced_cons (thn (ha pins s σ H _ I h) fun u s1 ⟨x, H1, I1, r1, q1⟩ => ?_)
  exact thn (hr pos pins s1 σ H1 _ I1 q1) fun us s2 ⟨xs, H2, I2, r2, q2⟩ => ⟨x :: xs, H2, I2, .cons r1 r2, q2⟩

/-- a tuple, a list of written items -/
def tTup (t : TA) : TE := fun σ H Q => t σ H fun xs H1 => xs.length ≤ sizeLine ∧ ∀ p, H1 p = none → Q (.ref p) (upd H1 p (.tup xs))
def tLst (t : TA) : TE := fun σ H Q => t σ H fun xs H1 => xs.length ≤ sizeLine ∧ ∀ p, H1 p = none → Q (.ref p) (upd H1 p (.lst xs))
theorem pe_tup {x1} (h : PA X es t) : PE X (.Tuple es x1 pos) (tTup t) := by
  intro pins s σ H Q I hq
  refine wpAny_Tuple_spliced (thn (h pos pins s σ H _ I hq) fun us s1 ⟨xs, H1, I1, r, z, q⟩ => ⟨by rw [← r.length]; exact z, ?_⟩)
  have hf : H1 s1.heap.objs.size = none := I1.hok.fresh (Nat.le_refl _)
  refine ⟨.ref s1.heap.objs.size, upd H1 s1.heap.objs.size (.tup xs), I1.laid (t' := s1.toks) (fun b u e => Heap.get?_push_of_some _ e) (Nat.le_refl _) ?_, rfl, q _ hf⟩
  exact ⟨z, us, r, ⟨_, Heap.get?_push_size _ rfl, rfl, _, rfl⟩⟩
theorem pe_lst (h : PA X es t) : PE X (.List es pos) (tLst t) := by
  intro pins s σ H Q I hq
  refine wpAny_List_spliced (thn (h pos pins s σ H _ I hq) fun us s1 ⟨xs, H1, I1, r, z, q⟩ => ⟨by rw [← r.length]; exact z, ?_⟩)
  have hf : H1 s1.heap.objs.size = none := I1.hok.fresh (Nat.le_refl _)
  refine ⟨.ref s1.heap.objs.size, upd H1 s1.heap.objs.size (.lst xs), I1.laid (t' := s1.toks) (fun b u e => Heap.get?_push_of_some _ e) (Nat.le_refl _) ?_, rfl, q _ hf⟩
  exact ⟨z, us, 0, r, Heap.get?_push_size _ rfl⟩
end

/-! ### what a def promises -/
/-- a def's promise: the bound arguments in the parameters' order, the heap, the wanted end, the wanted exception -/
abbrev Sp := List V → Hp → VK → XK → Prop
/-- how an exception lies behind a call (file 08 gives it): the callers' frames, abstract heap and state ahead of the call, the wish, the exception, the state -/
abbrev CXT := List Env → Hp → Shared → XK → Value → Shared → Prop

/-- the state at a call -/
structure Env0 (P : Program) (w : World) (K : PySem.W.Frag) (mg : Str → Option Value) (base : Heap) (A : Around) (outer : List Env) (s : Shared) (H : Hp) : Prop where
  frames : A.frames = some outer
  mod : Mod K mg base
  bs : ∀ b o, base.get? b = some o → s.heap.get? b = some o ∧ H b = none
  bsz : base.objs.size ≤ s.heap.objs.size
  funs : s.heap.FunFrames base outer
  frf : ∀ b ∈ frs outer, H b = none
  hok : HOk P w H s.heap
  bare : AllBare s.gens
/-- a call's end -/
def CE (outer : List Env) (P : Program) (w : World) (H : Hp) (s : Shared) (Q : VK) (u : Value) (s' : Shared) : Prop :=
  ∃ v H', s'.os = s.os ∧ AllBare s'.gens ∧ Un (frs outer) [] H H' s.heap s'.heap ∧ HOk P w H' s'.heap ∧ RelV v u ∧ Q v H'
def CR (CX : CXT) (outer : List Env) (P : Program) (w : World) (H : Hp) (s : Shared) (Q : VK) (E : XK) (r : Result) (s' : Shared) : Prop :=
  match r with
  | .ok (.ret u) => CE outer P w H s Q u s'
  | .ok _ => False
  | .error e => CX outer H s E e s'
structure FnOk (P : Program) (w : World) (K : PySem.W.Frag) (mg : Str → Option Value) (base : Heap) (CX : CXT) (k : Nat) (f : Addr) (fd : FuncData) (ps : List Str) (sp : Sp) : Prop where
  len : ∀ vs H Q E, sp vs H Q E → vs.length = ps.length
  run : ∀ (A : Around) (outer : List Env) (s : Shared) (H : Hp) (args : Args) (us : List Value) (vs : List V) (Q : VK) (E : XK), Room k A → Env0 P w K mg base A outer s H → BindsTo s fd args (ps.zip us) → Vals vs us → sp vs H Q E →
    codeAny (model P w) A (.call (.ref f) args) (CR CX outer P w H s Q E) s
theorem FnOk.mono {P : Program} {w : World} {K : PySem.W.Frag} {mg : Str → Option Value} {base : Heap} {CX : CXT} {j k : Nat} {f : Addr} {fd : FuncData} {ps : List Str} {sp : Sp} (F : FnOk P w K mg base CX j f fd ps sp) (h : j ≤ k) :
    FnOk P w K mg base CX k f fd ps sp := ⟨F.len, fun A outer s H args us vs Q E hr => F.run A outer s H args us vs Q E (hr.mono h)⟩
/-- a weaker promise -/
theorem FnOk.imp {P : Program} {w : World} {K : PySem.W.Frag} {mg : Str → Option Value} {base : Heap} {CX : CXT} {k : Nat} {f : Addr} {fd : FuncData} {ps : List Str} {sp sp' : Sp} (F : FnOk P w K mg base CX k f fd ps sp)
    (h : ∀ vs H Q E, sp' vs H Q E → sp vs H Q E) : FnOk P w K mg base CX k f fd ps sp' :=
  ⟨fun vs H Q E q => F.len vs H Q E (h _ _ _ _ q), fun A outer s H args us vs Q E hr he hb hv hs => F.run A outer s H args us vs Q E hr he hb hv (h _ _ _ _ hs)⟩

theorem Env0.make {P : Program} {w : World} {K : PySem.W.Frag} {mg : Str → Option Value} {base : Heap} {A : Around} {outer : List Env} {s : Shared} {H : Hp} (e : Env0 P w K mg base A outer s H) (C : Addr) (us : List Value) (kw : List (Str × Value)) :
    Env0 P w K mg base (A.under (.builtin "type.__call__" ⟨.ref C :: us, kw⟩)) outer s H := ⟨by first | exact e.frames | (simpa [Around.under, Code.envs, Code.isFrame, pushEnvs] using e.frames), e.mod, e.bs, e.bsz, e.funs, e.frf, e.hok, e.bare⟩
theorem Env0.in1 {P : Program} {w : World} {K : PySem.W.Frag} {mg : Str → Option Value} {base : Heap} {A : Around} {outer : List Env} {s : Shared} {H : Hp} (e : Env0 P w K mg base A outer s H) :
    Env0 P w K mg base A.in1 outer s H := ⟨e.frames, e.mod, e.bs, e.bsz, e.funs, e.frf, e.hok, e.bare⟩

section
variable {X : Cx} {pins : List (Addr × Obj)} {σ : St} {H : Hp} {s s' : Shared}
/-- from a body: what a callee wants -/
theorem Inv.env0 (I : Inv X pins σ H s) : Env0 X.prog X.w X.K X.mg X.base X.A X.stack s H :=
  ⟨I.ok.frames, I.ok.mod, I.bs, Nat.le_trans I.ok.bsz I.sz, I.stack, I.stkFree, I.hok, I.bare⟩
/-- behind a call -/
theorem Inv.after {Q : VK} {u : Value} (I : Inv X pins σ H s) (h : CE X.stack X.prog X.w H s Q u s') : EP X pins σ Q u s' := by
  obtain ⟨v, H', os, bare, un, hok, r, q⟩ := h
  obtain ⟨hh, g, d, t, os'⟩ := s'
  obtain rfl : os' = s.os := os
  exact ⟨v, H', I.call (h' := hh) (g' := g) (d' := d) (t' := t) (ch := []) un hok bare (fun b z => absurd z (by simp)), r, q⟩
end

/-! ### calls -/
/-- f(..): the written arguments, then the defaults dvs; E: what is wanted of an exception -/
def tCall (sp : Sp) (dvs : List V) (E : XK) (t : TA) : TE := fun σ H Q => t σ H fun vs H1 => sp (vs ++ dvs) H1 Q E
/-- o.m(..) of an instance of the class at C -/
def tMeth (C : Addr) (m : Str) (sp : Sp) (dvs : List V) (E : XK) (ta : TE) (t : TA) : TE := fun σ H Q => ta σ H fun x H1 => ∃ a dx fs, x = .ref a ∧ H1 a = some (.ins C dx fs) ∧ fs.lookup m = none ∧
  t σ H1 fun vs H2 => sp (x :: (vs ++ dvs)) H2 Q E
/-- C(..): a new instance and its dict, then __init__ -/
def tMake (C : Addr) (sp : Sp) (dvs : List V) (E : XK) (t : TA) : TE := fun σ H Q => t σ H fun vs H1 => ∀ x dx, H1 x = none → H1 dx = none → dx ≠ x →
  sp (.ref x :: (vs ++ dvs)) (upd (upd H1 dx (.own x)) x (.ins C dx [])) (fun v H2 => v = .non ∧ Q (.ref x) H2) E

/-- how the parameters are bound: us the positional arguments, kw the keywords' values by name, ds the defaults that fill up -/
def Binds (K : PySem.W.Frag) (fd : FuncData) (ps : List Str) (ds : List Value) : Prop :=
  ∀ (s : Shared) (us : List Value), K.In s.heap → (us ++ ds).length = ps.length → BindsTo s fd ⟨us, []⟩ (ps.zip (us ++ ds))
/-- every parameter is given -/
theorem Binds.all {K : PySem.W.Frag} {fd : FuncData} {ps : List Str} (h : ∀ us : List Value, us.length = ps.length → bindArgs fd ⟨us, []⟩ = pure (ps.zip us)) : Binds K fd ps [] := fun s us _ hl => by
  rw [List.append_nil] at hl ⊢
  exact .of_eq (h us hl)

/-- an exception of a callee reaches what this body wants of exceptions -/
def Passes (CX : CXT) (X : Cx) (E : XK) : Prop := ∀ (pins : List (Addr × Obj)) (σ : St) (H : Hp) (s : Shared) (e : Value) (s' : Shared), Inv X pins σ H s → CX X.stack H s E e s' → X.xe e s'

section
variable {X : Cx} {CX : CXT} {k : Nat} {f C : Addr} {fd : FuncData} {ps : List Str} {sp : Sp} {dvs : List V} {ds : List Value} {E : XK} {x m : Str} {p pos apos : Pos} {e o : Expr} {es : List Expr} {ta : TE} {t : TA}

/-- the callee runs -/
theorem run_fn {pins : List (Addr × Obj)} {σ : St} {H : Hp} {s : Shared} {Q : VK} {us : List Value} {vs : List V} (F : FnOk X.prog X.w X.K X.mg X.base CX k f fd ps sp) (hr : Room k X.A) (hb : Binds X.K fd ps ds) (hd : Vals dvs ds) (hx : Passes CX X E)
    (I : Inv X pins σ H s) (r : Vals vs us) (h : sp (vs ++ dvs) H Q E) : wpAny (model X.prog X.w) X.A (call (.ref f) us) (EP X pins σ Q) X.xe s := by
  have r2 : Vals (vs ++ dvs) (us ++ ds) := r.append hd
  have hl : (us ++ ds).length = ps.length := by rw [← r2.length]; exact F.len _ _ _ _ h
  refine wpAny_call (codeAny_mono (F.run X.A X.stack s H ⟨us, []⟩ (us ++ ds) (vs ++ dvs) Q E hr I.env0 (hb s us I.kIn hl) r2 h) fun r s' hq => ?_)
  cases r with
  | error e => exact hx pins σ H s e s' I hq
  | ok fl =>
    cases fl with
    | ret u => exact I.after hq
    | next => exact False.elim hq
    | brk => exact False.elim hq
    | cont => exact False.elim hq

theorem pe_call (F : FnOk X.prog X.w X.K X.mg X.base CX k f fd ps sp) (hr : Room k X.A) (hg : Gl X x) (hm : X.mg x = some (.ref f)) (hk : PySem.W.keepIn X.K (.ref f) = true) (hb : Binds X.K fd ps ds) (hd : Vals dvs ds) (hx : Passes CX X E)
    (ha : PA X (e :: es) t) (hdb : (x == ("__debug__" : Str)) = false := by decide) (he : starEach (e :: es) X.env = (false, eval e X.env) :: starEach es X.env := by rfl) (hpl : (backTo pos (starEach es X.env)).any (·.1) = false := by rfl) :
    PE X (.Call (.Name x p) (e :: es) [] pos) (tCall sp dvs E t) := by
  intro pins s σ H Q I h
  refine wpAny_Call_Name_kw (ld_glob I hg hm ?_ hdb)
  refine PySem.W.callWith_K (h₀ := X.base) I.ok.mod.kin hk (thn (ha pos pins s σ H _ I h) fun us s1 ⟨vs, H1, I1, r, q⟩ => ⟨I1.kIn, ?_⟩) he hpl
  exact run_fn F hr hb hd hx I1 r q
/-- o.m(e, ..) -/
theorem pe_meth {pl : Sem Bool} (he : PE X o ta) (c : Cls X.K C) (hm : Meth X.K C m f) (F : FnOk X.prog X.w X.K X.mg X.base CX k f fd ps sp) (hr : Room k X.A) (hb : Binds X.K fd ps ds) (hd : Vals dvs ds) (hx : Passes CX X E) (ha : PA X (e :: es) t)
    (hst : starEach (e :: es) X.env = (false, eval e X.env) :: starEach es X.env := by rfl) (hpl : (backTo pos (starEach es X.env)).any (·.1) = false := by rfl)
    (ht : eval (.Call (.Attribute o m apos) (e :: es) [] pos) X.env = (do
      let ov ← eval o X.env
      standAt apos.atName
      let (f, first) ← holding [ov] (getMethod ov m pl)
      callWith pos f first (backTo pos (starEach (e :: es) X.env)) (backToKw pos (keywordEach [] X.env))) := by rfl) :
    PE X (.Call (.Attribute o m apos) (e :: es) [] pos) (tMeth C m sp dvs E ta t) := by
  intro pins s σ H Q I h
  refine PySem.W.methodCall_KW (pl := pl) (thn (he pins s σ H _ I h) fun u s1 ⟨x, H1, I1, rx, a, dx, fs, ex, ea, l, q⟩ => ?_) ht
  subst ex
  obtain rfl : u = Value.ref a := rx
  refine getmeth_ok I1 ea c hm l ?_
  refine PySem.W.callWith_K (first := [.ref a]) (h₀ := X.base) I.ok.mod.kin hm.kp (thn (ha pos pins s1 σ H1 _ I1 q) fun us s2 ⟨vs, H2, I2, r, q2⟩ => ⟨I2.kIn, ?_⟩) hst hpl
  exact run_fn (us := .ref a :: us) (vs := .ref a :: vs) F hr hb hd hx I2 (.cons rfl r) q2
/-- o.m() -/
theorem pe_meth0 {pl : Sem Bool} (he : PE X o ta) (c : Cls X.K C) (hm : Meth X.K C m f) (F : FnOk X.prog X.w X.K X.mg X.base CX k f fd ps sp) (hr : Room k X.A) (hb : Binds X.K fd ps ds) (hd : Vals dvs ds) (hx : Passes CX X E)
    (ht : eval (.Call (.Attribute o m apos) [] [] pos) X.env = (do
      let ov ← eval o X.env
      standAt apos.atName
      let (f, first) ← holding [ov] (getMethod ov m pl)
      callWith pos f first (backTo pos (starEach [] X.env)) (backToKw pos (keywordEach [] X.env))) := by rfl) :
    PE X (.Call (.Attribute o m apos) [] [] pos) (tMeth C m sp dvs E ta tNil) := by
  intro pins s σ H Q I h
  refine PySem.W.methodCall_KW (pl := pl) (thn (he pins s σ H _ I h) fun u s1 ⟨x, H1, I1, rx, a, dx, fs, ex, ea, l, q⟩ => ?_) ht
  subst ex
  obtain rfl : u = Value.ref a := rx
  refine getmeth_ok I1 ea c hm l ?_
  exact PySem.W.callWith_K0 (first := [.ref a]) I1.kIn hm.kp (run_fn (us := [.ref a]) (vs := [.ref a]) F hr hb hd hx I1 (.cons rfl .nil) q)

/-- what a class must have to be made -/
structure Mk (K : PySem.W.Frag) (C f : Addr) : Prop where
  makes : PySem.W.makesIn K C = true
  init : PySem.W.findIn K (.ref C) "__init__" = some (some (.ref f))
  fn : PySem.W.isFn K (.ref f) = true
  kp : PySem.W.keepIn K (.ref C) = true

theorem run_make {pins : List (Addr × Obj)} {σ : St} {H : Hp} {s : Shared} {Q : VK} {us : List Value} {vs : List V} (M : Mk X.K C f) (F : FnOk X.prog X.w X.K X.mg X.base CX k f fd ps sp) (hr : Room (k + 1) X.A) (hb : Binds X.K fd ps ds) (hd : Vals dvs ds)
    (hx : Passes CX X E) (I : Inv X pins σ H s) (r : Vals vs us)
    (h : ∀ x dx, H x = none → H dx = none → dx ≠ x → sp (.ref x :: (vs ++ dvs)) (upd (upd H dx (.own x)) x (.ins C dx [])) (fun v H2 => v = .non ∧ Q (.ref x) H2) E) :
    wpAny (model X.prog X.w) X.A (call (.ref C) us) (EP X pins σ Q) X.xe s := by
  have hq := h (s.heap.objs.size + 1) s.heap.objs.size (I.hok.fresh (Nat.le_succ _)) (I.hok.fresh (Nat.le_refl _)) (Nat.ne_of_lt (Nat.lt_succ_self _))
  have I2 := Inv.made (C := C) I
  have r2 : Vals (V.ref (s.heap.objs.size + 1) :: (vs ++ dvs)) (Value.ref (s.heap.objs.size + 1) :: (us ++ ds)) := .cons rfl (r.append hd)
  have hl : (Value.ref (s.heap.objs.size + 1) :: us ++ ds).length = ps.length := by
    have e := r2.length
    rw [F.len _ _ _ _ hq] at e
    exact e.symm
  refine wpAny_call (make_map (f := f) I.kIn M.makes M.init (beq_iff_eq.mp M.fn) (codeAny_mono (F.run _ X.stack _ _ ⟨Value.ref (s.heap.objs.size + 1) :: us, []⟩ (Value.ref (s.heap.objs.size + 1) :: (us ++ ds)) _ _ E (hr.make C us [])
    (I2.env0.make C us []) (hb _ (Value.ref (s.heap.objs.size + 1) :: us) I2.kIn hl) r2 hq) fun r s' hq' => ?_))
  cases r with
  | error e => exact hx pins σ _ _ e s' I2 hq'
  | ok fl =>
    cases fl with
    | ret u =>
      obtain ⟨v, H', I3, rv, ev, q3⟩ := I2.after hq'
      subst ev
      exact ⟨rv, ⟨V.ref (s.heap.objs.size + 1), H', I3, rfl, q3⟩⟩
    | next => exact False.elim hq'
    | brk => exact False.elim hq'
    | cont => exact False.elim hq'
theorem pe_make (M : Mk X.K C f) (F : FnOk X.prog X.w X.K X.mg X.base CX k f fd ps sp) (hr : Room (k + 1) X.A) (hg : Gl X x) (hm : X.mg x = some (.ref C)) (hb : Binds X.K fd ps ds) (hd : Vals dvs ds) (hx : Passes CX X E)
    (ha : PA X (e :: es) t) (hdb : (x == ("__debug__" : Str)) = false := by decide) (he : starEach (e :: es) X.env = (false, eval e X.env) :: starEach es X.env := by rfl) (hpl : (backTo pos (starEach es X.env)).any (·.1) = false := by rfl) :
    PE X (.Call (.Name x p) (e :: es) [] pos) (tMake C sp dvs E t) := by
  intro pins s σ H Q I h
  refine wpAny_Call_Name_kw (ld_glob I hg hm ?_ hdb)
  refine PySem.W.callWith_K (h₀ := X.base) I.ok.mod.kin M.kp (thn (ha pos pins s σ H _ I h) fun us s1 ⟨vs, H1, I1, r, q⟩ => ⟨I1.kIn, ?_⟩) he hpl
  exact run_make M F hr hb hd hx I1 r q
end

/-! ### keywords -/
section
variable {X : Cx} {CX : CXT} {k : Nat} {f C : Addr} {fd : FuncData} {ps ks : List Str} {sp : Sp} {E : XK} {x m : Str} {p pos apos kpos : Pos} {e o : Expr} {es : List Expr} {kws : List Keyword} {te ta : TE} {t tk : TA} {nm : Option Str}
/-- how a call with keywords binds: g puts the positional values us and the keywords' values ws (names ks) in the parameters' order, defaults among them -/
structure KBinds (K : PySem.W.Frag) (fd : FuncData) (ps ks : List Str) (g : List Value → List Value → List Value) (gV : List V → List V → List V) : Prop where
  to : ∀ (s : Shared) (us ws : List Value), K.In s.heap → (g us ws).length = ps.length → BindsTo s fd ⟨us, ks.zip ws⟩ (ps.zip (g us ws))
  rel : ∀ {vs : List V} {us : List Value} {zs : List V} {ws : List Value}, Vals vs us → Vals zs ws → Vals (gV vs zs) (g us ws)
variable {g : List Value → List Value → List Value} {gV : List V → List V → List V}
end

/-! ### a def's body keeps its promise -/
/-- names: the parameters first -/
structure FnScope (N P : List Str) (sc : Scope) : Prop where
  kind : sc.kind = .function
  co : sc.isCoroutine = false
  gen : sc.isGenerator = false
  nd : N.Nodup
  pre : N.take P.length = P
  par : ∀ x ∈ P, sc.names.lookup x = some .local ∨ sc.names.lookup x = some .cell
  nofree : ∀ y ∈ sc.names, y.2 ≠ .free

theorem bindL_out {kindOf : Str → Option NameKind} {x : Str} : ∀ {binds : List (Str × Value)} {m : Str → Option Value}, (∀ v, (x, v) ∉ binds) → bindL kindOf binds m x = m x
  | [], _, _ => rfl
  | (n, v) :: r, m, h => by
    unfold bindL
    rw [bindL_out fun w hw => h w (List.mem_cons_of_mem _ hw)]
    split
    · have : x ≠ n := by rintro rfl; exact h v List.mem_cons_self
      simp [this]
    · rfl
theorem bindC_out {kindOf : Str → Option NameKind} {x : Str} : ∀ {binds : List (Str × Value)} {m : Str → Option Value}, (∀ v, (x, v) ∉ binds) → bindC kindOf binds m x = m x
  | [], _, _ => rfl
  | (n, v) :: r, m, h => by
    unfold bindC
    rw [bindC_out fun w hw => h w (List.mem_cons_of_mem _ hw)]
    split
    · rfl
    · have : x ≠ n := by rintro rfl; exact h v List.mem_cons_self
      simp [this]
theorem bindL_get {kindOf : Str → Option NameKind} {x : Str} {v : Value} : ∀ {P : List Str} {vs : List Value} {i : Nat} {m : Str → Option Value}, P.Nodup → P[i]? = some x → vs[i]? = some v → kindOf x = some .local →
    bindL kindOf (P.zip vs) m x = some v
  | [], _, _, _, _, h, _, _ => by simp at h
  | _ :: _, [], _, _, _, _, h, _ => by simp at h
  | p :: P, w :: vs, 0, m, nd, h1, h2, hk => by
    simp at h1 h2; subst h1; subst h2
    show bindL kindOf ((p, w) :: P.zip vs) m p = _
    unfold bindL
    rw [bindL_out fun v hv => (List.nodup_cons.mp nd).1 (List.of_mem_zip hv).1, if_pos hk]
    simp
  | p :: P, w :: vs, i + 1, m, nd, h1, h2, hk => by
    show bindL kindOf ((p, w) :: P.zip vs) m x = _
    unfold bindL
    exact bindL_get (i := i) (List.nodup_cons.mp nd).2 (by simpa using h1) (by simpa using h2) hk
theorem bindC_get {kindOf : Str → Option NameKind} {x : Str} {v : Value} : ∀ {P : List Str} {vs : List Value} {i : Nat} {m : Str → Option Value}, P.Nodup → P[i]? = some x → vs[i]? = some v → kindOf x ≠ some .local →
    bindC kindOf (P.zip vs) m x = some v
  | [], _, _, _, _, h, _, _ => by simp at h
  | _ :: _, [], _, _, _, _, h, _ => by simp at h
  | p :: P, w :: vs, 0, m, nd, h1, h2, hk => by
    simp at h1 h2; subst h1; subst h2
    show bindC kindOf ((p, w) :: P.zip vs) m p = _
    unfold bindC
    rw [bindC_out fun v hv => (List.nodup_cons.mp nd).1 (List.of_mem_zip hv).1, if_neg hk]
    simp
  | p :: P, w :: vs, i + 1, m, nd, h1, h2, hk => by
    show bindC kindOf ((p, w) :: P.zip vs) m x = _
    unfold bindC
    exact bindC_get (i := i) (List.nodup_cons.mp nd).2 (by simpa using h1) (by simpa using h2) hk

/-- the names' values at the entry -/
def start (N : List Str) (vs : List V) : St := vs.map some ++ List.replicate (N.length - vs.length) none

/-- the context of a def's body, at its entry; an exception leaves the frame, then lies as CX says -/
def cxOf (CX : CXT) (P : Program) (w : World) (K : PySem.W.Frag) (mg : Str → Option Value) (base : Heap) (N : List Str) (qual : Str) (scope : Scope) (f : Addr) (cd : Value) (A : Around) (outer : List Env) (s : Shared) (H : Hp) (E : XK) : Cx where
  prog := P
  w := w
  K := K
  mg := mg
  base := base
  A := A.deeper (envOfC qual scope s.heap.objs.size f cd)
  N := N
  s₀ := s
  H₀ := H
  env := envOfC qual scope s.heap.objs.size f cd
  outer := outer
  stack := envOfC qual scope s.heap.objs.size f cd :: outer
  ex := []
  calm := true
  fn := fun _ => true
  pn := []
  xe := fun e s' => wpAny (model P w) (A.deeper (envOfC qual scope s.heap.objs.size f cd)) (leaving (envOfC qual scope s.heap.objs.size f cd) e) (fun _ s'' => CX outer H s E e s'') (fun e' s'' => CX outer H s E e' s'') s'

theorem cell_has {sc : Scope} {n : Nat} {x : Str} (h : sc.names.lookup x = some .cell) : ∃ c, (cellsFrom n sc.names []).lookup x = some c := by
  have q := PySem.W.cellsFrom_some sc.names n [] (.inl h)
  exact Option.isSome_iff_exists.mp q

theorem inv_start {CX : CXT} {P : Program} {w : World} {K : PySem.W.Frag} {mg : Str → Option Value} {base : Heap} {N ps : List Str} {qual : Str} {scope : Scope} {f : Addr} {cd : Value} {A : Around} {outer : List Env} {s s1 : Shared} {H : Hp} {E : XK} {us : List Value} {vs : List V}
    (S : FnScope N ps scope) (hd : A.handled = none) (e0 : Env0 P w K mg base A outer s H) (hl : vs.length = ps.length) (r : Vals vs us)
    (x : InCallC s s.heap.objs.size (bindL (envOfC qual scope s.heap.objs.size f cd).kindOf (ps.zip us) fun _ => none) (cellsFrom (s.heap.objs.size + 1) scope.names []) (bindC (envOfC qual scope s.heap.objs.size f cd).kindOf (ps.zip us) fun _ => none) s1) :
    Inv (cxOf CX P w K mg base N qual scope f cd A outer s H E) [] (start N vs) H s1 := by
  have hpl : ps.length ≤ N.length := by have := congrArg List.length S.pre; rw [List.length_take] at this; omega
  obtain ⟨h1, tk, rfl, hk⟩ := x.done
  have noA : ∀ b : Addr, b ∉ (cxOf CX P w K mg base N qual scope f cd A outer s H E).ex := fun b z => absurd (show b ∈ ([] : List Addr) from z) (by simp)
  refine ⟨⟨e0.mod, S.kind, rfl, rfl, Nat.le_refl _, fun y z c h1 h2 => ?_, fun y hy => ?_, fun y c _ h => ?_, fun _ => hd, Around.frames_deeper e0.frames, .inr ⟨rfl, rfl⟩, fun b z => absurd z (noA b), e0.bs, e0.bsz, fun b _ _ => noA b, fun b z => absurd z (noA b), e0.funs, e0.frf⟩,
    rfl, e0.bare, Un.kept hk, ⟨_, x.toInCall.ns, fun i y v h1 h2 h3 => ?_⟩, fun y c h => ⟨_, x.cell y c h⟩, e0.hok.fresh (Nat.le_refl _), fun y c h => ?_, fun p hp => absurd (show p ∈ ([] : List (Addr × Obj)) from hp) (by simp), e0.hok.kept hk, ?_⟩
  · exact name_of_addr x.apart (PySem.mem_of_lookup h1) (PySem.mem_of_lookup h2)
  · have hy : scope.names.lookup y = some .cell ∨ scope.names.lookup y = some .free := hy
    rcases hy with hy | hy
    · exact cell_has hy
    · exact absurd rfl (S.nofree _ (PySem.mem_of_lookup hy))
  · exact Nat.le_of_lt (x.above y c (PySem.mem_of_lookup h))
  · have hi : i < vs.length := by
      unfold start at h2
      by_cases hi : i < vs.length
      · exact hi
      · rw [List.getElem?_append_right (by simpa using hi)] at h2
        rw [List.getElem?_replicate] at h2
        split at h2 <;> cases h2
    have ha : vs[i]? = some v := by
      unfold start at h2
      rw [List.getElem?_append_left (by simpa using hi), List.getElem?_map] at h2
      cases e : vs[i]? with
      | none => rw [e] at h2; cases h2
      | some a => rw [e] at h2; cases h2; rfl
    obtain ⟨u, hu, rv⟩ := r.get ha
    have hp : ps[i]? = some y := by
      rw [← S.pre, List.getElem?_take_of_lt (by omega)]; exact h1
    have ndP : ps.Nodup := by rw [← S.pre]; exact S.nd.sublist (List.take_sublist _ _)
    refine ⟨u, rv, ?_⟩
    rcases S.par y (List.mem_of_getElem? hp) with k | k
    · exact .inl ⟨k, bindL_get ndP hp hu k⟩
    · obtain ⟨c, e⟩ := cell_has (n := s.heap.objs.size + 1) k
      refine .inr ⟨.inl k, c, e, ?_⟩
      have q := x.cell y c e
      rw [bindC_get ndP hp hu (by show scope.names.lookup y ≠ _; rw [k]; decide)] at q
      exact q
  · exact e0.hok.fresh (Nat.le_of_lt (x.above y c (PySem.mem_of_lookup h)))
  · unfold start
    show _ = N.length
    rw [List.length_append, List.length_map, List.length_replicate]
    omega

/-- THE RULE: a def (or a method) of the text, by its body. The body's reading t is chosen for each entry; it is run at the parameters' values -/
theorem fn_of {CX : CXT} {P : Program} {w : World} {K : PySem.W.Frag} {mg : Str → Option Value} {base : Heap} {k : Nat} {f : Addr} {name qual : Str} {params : Arguments} {body : List Stmt} {scope : Scope} {dV kV doc pm cdv ct oc : Value} {an od : Option Addr}
    {osl : Array (Option Value)} {N ps : List Str} {sp : Sp} (lk : K.lookup f = some ⟨oc, od, .func (PySem.W.fnOf name qual params body scope dV kV doc pm an cdv ct), osl⟩) (hcd : PySem.W.codeIn K cdv qual = true) (S : FnScope N ps scope)
    (len : ∀ vs H Q E, sp vs H Q E → vs.length = ps.length)
    (hbody : ∀ (A : Around) (outer : List Env) (s : Shared) (H : Hp) (vs : List V) (Q : VK) (E : XK), Room k (A.deeper (envOfC qual scope s.heap.objs.size f cdv)) → sp vs H Q E →
      ∃ t, PSs (cxOf CX P w K mg base N qual scope f cdv A outer s H E) body t ∧ t { nx := fun _ H' => Q .non H', rt := Q } (start N vs) H) :
    FnOk P w K mg base CX (k + 1) f (PySem.W.fnOf name qual params body scope dV kV doc pm an cdv ct) ps sp := by
  refine ⟨len, fun A outer s H args us vs Q E hr e0 hb r hsp => ?_⟩
  have hl := len _ _ _ _ hsp
  have KX : K.In s.heap := e0.mod.kin.keeps fun b o e => (e0.bs b o e).1
  have lim : s.heap.NoLimit := e0.mod.nolimit.keeps fun b o e => (e0.bs b o e).1
  have hkind : ∀ y ∈ ps.zip us, scope.names.lookup y.1 = some .local ∨ (scope.names.lookup y.1 = some .cell ∧ ((cellsFrom (s.heap.objs.size + 1) scope.names []).lookup y.1).isSome = true) := fun ⟨n, v⟩ hy => by
    rcases S.par n (List.of_mem_zip hy).1 with q | q
    · exact .inl q
    · exact .inr ⟨q, PySem.W.cellsFrom_some _ _ _ (.inl q)⟩
  refine codeAny_call_function hr.depth (KX _ _ lk) rfl S.co S.gen rfl (PySem.W.codeRec_of KX hcd) (hb _ _ _ _ ?_)
  refine wpAny_newFunctionEnv_cells S.kind hkind fun env he s1 x => ?_
  subst he
  refine ⟨lim.keeps x.toInCall.keep, codeAny_func ?_⟩
  obtain ⟨t, ht, hq⟩ := hbody A outer s H vs Q E (hr.deeper _) hsp
  have I : Inv (cxOf CX P w K mg base N qual scope f cdv A outer s H E) [] (start N vs) H s1 := inv_start S hr.hd e0 hl r x
  refine wpAny_mono (ht [] s1 (start N vs) H _ I hq) (fun fl s' hs => ?_) fun e s' hs => hs
  have fin : ∀ {σ' : St} {H' : Hp} {v : V} {u : Value}, Inv (cxOf CX P w K mg base N qual scope f cdv A outer s H E) [] σ' H' s' → RelV v u → Q v H' → CE outer P w H s Q u s' :=
    fun {σ' H' v u} J rv q => ⟨v, H', J.os, J.bare, J.base, J.hok, rv, q⟩
  cases fl with
  | ret u =>
    obtain ⟨v, σ', H', J, rv, q⟩ := hs
    exact fin J rv q
  | next =>
    obtain ⟨σ', H', J, q⟩ := hs
    exact fin (v := V.non) (u := Value.none) J rfl q
  | brk =>
    obtain ⟨_, _, _, q⟩ := hs
    exact False.elim q
  | cont =>
    obtain ⟨_, _, _, q⟩ := hs
    exact False.elim q
end L2

namespace L2
open PySem PySem.Spec PyProof.Rows
section
variable {X : Cx} {x : Str} {p pos : Pos} {e : Expr} {es : List Expr} {t : TA} {id T : String} {r : List V → Hp → VK → Prop}

def tCB (r : List V → Hp → VK → Prop) (t : TA) : TE := fun σ H Q => t σ H fun vs H1 => r vs H1 Q
/-- f(e, ..), f a built-in function -/
theorem pe_callB (hc : CallR X (.builtin id) r) (hg : Gl X x) (hm : X.mg x = none) (hv : bootBuiltins x = some (.builtin id)) (ha : PA X (e :: es) t) (hn : x ≠ "__name__" := by decide) (hdb : (x == ("__debug__" : Str)) = false := by decide)
    (he : starEach (e :: es) X.env = (false, eval e X.env) :: starEach es X.env := by rfl) (hpl : (backTo pos (starEach es X.env)).any (·.1) = false := by rfl) : PE X (.Call (.Name x p) (e :: es) [] pos) (tCB r t) := by
  intro pins s σ H Q I h
  refine wpAny_Call_Name_kw (ld_blt I hg hm hv ?_ hn hdb)
  exact PyProof.Rows.callWith_builtin1 (thn (ha pos pins s σ H _ I h) fun us s1 ⟨vs, H1, I1, r1, q1⟩ => hc pins s1 σ H1 vs us Q I1 r1 q1) he hpl
/-- T(e, ..), T a built-in type -/
theorem pe_callTy (hc : CallR X (.type T) r) (hg : Gl X x) (hm : X.mg x = none) (hv : bootBuiltins x = some (.type T)) (ha : PA X (e :: es) t) (hn : x ≠ "__name__" := by decide) (hdb : (x == ("__debug__" : Str)) = false := by decide)
    (he : starEach (e :: es) X.env = (false, eval e X.env) :: starEach es X.env := by rfl) (hpl : (backTo pos (starEach es X.env)).any (·.1) = false := by rfl) : PE X (.Call (.Name x p) (e :: es) [] pos) (tCB r t) := by
  intro pins s σ H Q I h
  refine wpAny_Call_Name_kw (ld_blt I hg hm hv ?_ hn hdb)
  exact PyProof.Rows.callWith_type1 (thn (ha pos pins s σ H _ I h) fun us s1 ⟨vs, H1, I1, r1, q1⟩ => hc pins s1 σ H1 vs us Q I1 r1 q1) he hpl
end
end L2

namespace HT
open PySem PyProof.Rows

section
open PySem.SeqAt
open PySem.AutoSeq1 (wpAny_loadPart')
open PySem.MeetsSeq PySem.MeetsSeq2 PySem.MeetsSeq3

end

section
variable {prog : Program} {w : World} {A : Around} {E : Value → Shared → Prop} {s : Shared}

/-! ### t[a:b], not the whole -/
/-- a slice's bound as a place among n (d where it is left out) -/
def sIx (n d : Nat) : Option Int → Nat
  | none => d
  | some v => if v < 0 then (v + (n : Int)).toNat else min v.toNat n
theorem sIx_none (n d : Nat) : sIx n d none = d := rfl
theorem sIx_nat (n d k : Nat) : sIx n d (some (k : Int)) = min k n := by
  show (if (k : Int) < 0 then ((k : Int) + (n : Int)).toNat else min (k : Int).toNat n) = min k n
  rw [if_neg (by omega), Int.toNat_natCast]
end
end HT

namespace L2
open PySem PySem.Spec PyProof.Rows

/-! ### the parts of a slice -/
abbrev TO := St → Hp → (Option Int → Hp → Prop) → Prop
/-- a slice's part (left out, or an int) -/
def PO (X : Cx) (e : Option Expr) (t : TO) : Prop :=
  ∀ (pins : List (Addr × Obj)) (s : Shared) (σ : St) (H : Hp) (Q : Option Int → Hp → Prop), Inv X pins σ H s → t σ H Q →
    wpAny (model X.prog X.w) X.A (evalPart e X.env) (fun u s' => ∃ o H', Inv X pins σ H' s' ∧ IsPart u o ∧ Q o H') X.xe s
def tNoPart : TO := fun _ H Q => Q none H
def tPart (t : TE) : TO := fun σ H Q => t σ H fun x H1 => ∃ i, x = .int i ∧ Q (some i) H1

section
variable {X : Cx} {e : Expr} {te : TE} {lo hi : Option Expr} {tl th : TO} {pos p2 : Pos}

theorem po_none : PO X none tNoPart := by
  intro pins s σ H Q I h
  rw [evalPart_none]
  exact wpAny_pure ⟨none, H, I, .none, h⟩
theorem po_some (h : PE X e te) : PO X (some e) (tPart te) := by
  intro pins s σ H Q I hw
  rw [evalPart_some]
  refine thn (h pins s σ H _ I hw) fun u s1 ⟨x, H1, I1, r1, q1⟩ => ?_
  obtain ⟨i, rfl, q⟩ := q1
  obtain ⟨t, rfl⟩ := r1
  exact ⟨some i, H1, I1, .int i t, q⟩

/-- what a slice of a value is, by values: the slice object stands at sl -/
def SlR (X : Cx) (r : V → Option Int → Option Int → Hp → VK → Prop) : Prop :=
  ∀ (pins : List (Addr × Obj)) (s : Shared) (σ : St) (H : Hp) (x : V) (v vl vu : Value) (lo hi : Option Int) (sl : Addr) (Q : VK), Inv X pins σ H s → RelV x v → s.heap.IsSliceOf sl vl vu .none → IsPart vl lo → IsPart vu hi → r x lo hi H Q →
    ∃ T id, typeLookup (.type T) "__getitem__" = pure (some (.builtin id)) ∧ s.TypeIs v T ∧ wpAny (model X.prog X.w) X.A (getItem v (.ref sl)) (EP X pins σ Q) X.xe s
theorem SlR.or {r r' : V → Option Int → Option Int → Hp → VK → Prop} (h : SlR X r) (h' : SlR X r') : SlR X (fun x lo hi H Q => r x lo hi H Q ∨ r' x lo hi H Q) := by
  intro pins s σ H x v vl vu lo hi sl Q I rx hs pl pu q
  rcases q with q | q
  · exact h pins s σ H x v vl vu lo hi sl Q I rx hs pl pu q
  · exact h' pins s σ H x v vl vu lo hi sl Q I rx hs pl pu q
def tSl (r : V → Option Int → Option Int → Hp → VK → Prop) (te : TE) (tl th : TO) : TE := fun σ H Q => te σ H fun x H1 => tl σ H1 fun l H2 => th σ H2 fun u H3 => r x l u H3 Q
/-- a[lo:hi], any a -/
theorem pe_slice {r : V → Option Int → Option Int → Hp → VK → Prop} (hr : SlR X r) (he : PE X e te) (hl : PO X lo tl) (hu : PO X hi th) : PE X (.Subscript e (.Slice lo hi none p2) pos) (tSl r te tl th) := by
  intro pins s σ H Q I h
  refine Subscript_ (thn (he pins s σ H _ I h) fun v s1 ⟨x, H1, I1, r1, q1⟩ => ?_)
  refine wpAny_Slice (thn (hl pins s1 σ H1 _ I1 q1) fun vl s2 ⟨l, H2, I2, pl, q2⟩ => thn (hu pins s2 σ H2 _ I2 q2) fun vu s3 ⟨u, H3, I3, pu, q3⟩ => ?_)
  rw [evalPart_none]
  refine wpAny_pure ?_
  have I4 : Inv X pins σ H3 { s3 with heap := s3.heap.push { cls := .type "slice", data := .fields #[vl, vu, .none] } } := I3.kept (t' := s3.toks) fun b ob q => Heap.get?_push_of_some _ q
  obtain ⟨T, id, hT, ht, hg⟩ := hr pins { s3 with heap := s3.heap.push { cls := .type "slice", data := .fields #[vl, vu, .none] } } σ H3 x v vl vu l u s3.heap.objs.size Q I4 r1 (Heap.IsSliceOf.new ..) pl pu q3
  show wpAny (model X.prog X.w) X.A (subscriptTail e (.Slice lo hi none p2) v (.ref s3.heap.objs.size)) (EP X pins σ Q) X.xe { s3 with heap := s3.heap.push { cls := .type "slice", data := .fields #[vl, vu, .none] } }
  exact tail_any (ops := [.ref s3.heap.objs.size, v]) ht hT hg (by with_unfolding_all rfl)

/-- the items of xs[lo:hi] -/
def cutV (xs : List V) (lo hi : Option Int) : List V := (xs.drop (HT.sIx xs.length 0 lo)).take (HT.sIx xs.length xs.length hi - HT.sIx xs.length 0 lo)
theorem cutV_length (xs : List V) (lo hi : Option Int) : (cutV xs lo hi).length ≤ xs.length := by
  unfold cutV
  rw [List.length_take, List.length_drop]
  omega
/-! ### t < u, t + u -/
end
end L2

namespace L2
open PySem PySem.Spec PyProof.Rows

/-! ### places -/
/-- the place that an index of any sign means -/
def ixN (n : Nat) (i : Int) : Option Nat := if 0 ≤ i then (if i < n then some i.toNat else none) else if -(n : Int) ≤ i then some (i + n).toNat else none
def atI {α : Type} (xs : List α) (i : Int) : Option α := (ixN xs.length i).bind fun j => xs[j]?
theorem ixN_seq {n : Nat} {i : Int} {j : Nat} (h : ixN n i = some j) : seqIndex? i n = some j ∧ j < n ∧ -(n : Int) ≤ i ∧ i < n := by
  unfold ixN at h
  by_cases h0 : 0 ≤ i
  · rw [if_pos h0] at h
    by_cases h1 : i < n
    · rw [if_pos h1] at h
      have e : i.toNat = j := Option.some.inj h
      exact ⟨by rw [seqIndex_of h0 h1, e], by omega, by omega, h1⟩
    · rw [if_neg h1] at h; cases h
  · rw [if_neg h0] at h
    by_cases h1 : -(n : Int) ≤ i
    · rw [if_pos h1] at h
      have e : (i + n).toNat = j := Option.some.inj h
      exact ⟨by rw [seqIndex_neg (by omega) h1, e], by omega, h1, by omega⟩
    · rw [if_neg h1] at h; cases h
theorem atI_get {α : Type} {xs : List α} {i : Int} {v : α} (h : atI xs i = some v) : ∃ j, seqIndex? i xs.length = some j ∧ xs[j]? = some v ∧ j < xs.length ∧ -(xs.length : Int) ≤ i ∧ i < xs.length := by
  unfold atI at h
  cases e : ixN xs.length i with
  | none => rw [e] at h; cases h
  | some j =>
    rw [e] at h
    obtain ⟨h1, h2, h3, h4⟩ := ixN_seq e
    exact ⟨j, h1, h, h2, h3, h4⟩
theorem atI_nat {α : Type} {xs : List α} {j : Nat} {v : α} (h : xs[j]? = some v) : atI xs (j : Int) = some v := by
  have hj : j < xs.length := (List.getElem?_eq_some_iff.mp h).1
  have e : ixN xs.length (j : Int) = some j := by
    unfold ixN
    rw [if_pos (by omega), if_pos (by omega)]; simp
  unfold atI; rw [e]; exact h
/-! ### what may be subscripted -/
/-- what stands as an index of a plain subscript -/
def PlainIx (b : Expr) : Prop := ∀ o i, subscripted b false o i = operate [o, i] (getItem o i)
/-- a subscript by values -/
def IxR (X : Cx) (r : R2) : Prop :=
  ∀ (value slice : Expr) (pins : List (Addr × Obj)) (s : Shared) (σ : St) (H : Hp) (x y : V) (v u : Value) (Q : VK), Inv X pins σ H s → RelV x v → RelV y u → r x y H Q →
    subscripted slice false v u = operate [v, u] (getItem v u) → wpAny (model X.prog X.w) X.A (subscriptTail value slice v u) (EP X pins σ Q) X.xe s
/-- a call of a builtin's method by values: the receiver, the arguments -/
def MtR (X : Cx) (id : String) (r : V → List V → Hp → VK → Prop) : Prop :=
  ∀ (pins : List (Addr × Obj)) (s : Shared) (σ : St) (H : Hp) (x : V) (xs : List V) (v : Value) (us : List Value) (Q : VK), Inv X pins σ H s → RelV x v → Vals xs us → r x xs H Q →
    wpAny (model X.prog X.w) X.A (call (.builtin id) (v :: us)) (EP X pins σ Q) X.xe s
section
variable {X : Cx} {a b : Expr} {ta tb : TE} {pos : Pos}
theorem IxR.or {r r' : R2} (h : IxR X r) (h' : IxR X r') : IxR X (fun x y H Q => r x y H Q ∨ r' x y H Q) := by
  intro value slice pins s σ H x y v u Q I rx ry q hs
  rcases q with q | q
  · exact h value slice pins s σ H x y v u Q I rx ry q hs
  · exact h' value slice pins s σ H x y v u Q I rx ry q hs
theorem MtR.or {id : String} {r r' : V → List V → Hp → VK → Prop} (h : MtR X id r) (h' : MtR X id r') : MtR X id (fun x xs H Q => r x xs H Q ∨ r' x xs H Q) := by
  intro pins s σ H x xs v us Q I rx rs q
  rcases q with q | q
  · exact h pins s σ H x xs v us Q I rx rs q
  · exact h' pins s σ H x xs v us Q I rx rs q
/-- a[b] -/
theorem pe_ix {r : R2} (hr : IxR X r) (ha : PE X a ta) (hb : PE X b tb) (hs : PlainIx b) : PE X (.Subscript a b pos) (tOp r ta tb) := by
  intro pins s σ H Q I h
  exact Subscript_ (binT ha hb I h fun v u s2 x y H2 I2 rx ry q => hr a b pins s2 σ H2 x y v u Q I2 rx ry q (hs _ _))

def rIxL (K : PySem.W.Frag) : R2 := fun x y H Q => ∃ p xs i v, x = .ref p ∧ y = .int i ∧ SqL K H p xs ∧ atI xs i = some v ∧ Q v H
def rIxT (K : PySem.W.Frag) : R2 := fun x y H Q => ∃ p xs i v, x = .ref p ∧ y = .int i ∧ SqT K H p xs ∧ atI xs i = some v ∧ Q v H
theorem ix_list : IxR X (rIxL X.K) := by
  intro value slice pins s σ H x y v u Q I rx ry h hs
  obtain ⟨p, xs, i, z, rfl, rfl, hq, he, q⟩ := h
  cases rx
  obtain ⟨t, rfl⟩ := ry
  obtain ⟨its, r, pl, hz⟩ := I.list hq
  obtain ⟨j, h1, h2, h3, h4, h5⟩ := atI_get he
  obtain ⟨w, ew, rw'⟩ := r.get h2
  have hl := r.length
  have hn := line63
  have fin : EP X pins σ Q w s := ⟨z, H, I, rw', q⟩
  by_cases h0 : 0 ≤ i
  · have hj : i.toNat = j := by
      rw [seqIndex_of h0 h5] at h1
      exact Option.some.inj h1
    exact item_listR pl.isList h0 (by omega) (by rw [hj]; simpa using ew) fin hs
  · have hj : (i + (its.toArray.size : Int)).toNat = j := by
      rw [seqIndex_neg (by omega) h4] at h1
      rw [List.size_toArray, ← hl]
      exact Option.some.inj h1
    exact subscriptTail_builtinR (x := w) pl.isList.typeIs slot_list_getitem.lookup
      (wpAny_getItem_list_neg (Q := fun r s' => r = w ∧ EP X pins σ Q r s') pl.isList (by omega) (by rw [List.size_toArray] <;> omega) (by omega) (by rw [hj]; simpa using ew) ⟨rfl, fin⟩) hs
theorem ix_tup : IxR X (rIxT X.K) := by
  intro value slice pins s σ H x y v u Q I rx ry h hs
  obtain ⟨p, xs, i, z, rfl, rfl, hq, he, q⟩ := h
  cases rx
  obtain ⟨t, rfl⟩ := ry
  obtain ⟨its, r, pl, hz⟩ := I.tuple hq
  obtain ⟨j, h1, h2, h3, h4, h5⟩ := atI_get he
  obtain ⟨w, ew, rw'⟩ := r.get h2
  have hl := r.length
  have hn := line63
  have fin : EP X pins σ Q w s := ⟨z, H, I, rw', q⟩
  exact subscriptTail_builtinR (x := w) pl.typeIs slot_tuple_getitem.lookup
    (getItem_tuple (j := j) (Q := fun r s' => r = w ∧ EP X pins σ Q r s') pl (by omega) (by omega) (by rw [List.size_toArray, ← hl]; exact h1) (by simpa using ew) ⟨rfl, fin⟩) hs
/-! ### xs[i] = v, any sign -/
/-- the list's object behind a store -/
theorem mapSeq_set (its : List Value) (n j : Nat) (u : Value) : Obj.mapSeq (·.setIfInBounds j u) { cls := .type "list", data := .seq its.toArray n } = { cls := .type "list", data := .seq (its.set j u).toArray n } := by
  simp [Obj.mapSeq]
theorem Inv.lst {pins : List (Addr × Obj)} {σ : St} {H : Hp} {s : Shared} {p : Addr} {xs : List V} (I : Inv X pins σ H s) (h : H p = some (.lst xs)) :
    ∃ (its : List Value) (n : Nat), Vals xs its ∧ s.heap.get? p = some { cls := .type "list", data := .seq its.toArray n } ∧ xs.length ≤ sizeLine := by
  obtain ⟨z, its, n, r, e⟩ := I.hok p _ h
  exact ⟨its, n, r, e, z⟩
/-- the list at p is written by an update of its object -/
theorem Inv.lstUpd {pins : List (Addr × Obj)} {σ : St} {H : Hp} {s : Shared} {p : Addr} {xs ys : List V} {its its' : List Value} {n n' : Nat} {f : Obj → Obj} (I : Inv X pins σ H s) (h : H p = some (.lst xs))
    (ho : s.heap.get? p = some { cls := .type "list", data := .seq its.toArray n }) (hf : f { cls := .type "list", data := .seq its.toArray n } = { cls := .type "list", data := .seq its'.toArray n' }) (r : Vals ys its') (hz : ys.length ≤ sizeLine) (t : Nat) :
    Inv X pins σ (upd H p (.lst ys)) { s with heap := s.heap.update p f, toks := t } := by
  have e : (s.heap.update p f).get? p = some { cls := .type "list", data := .seq its'.toArray n' } := by
    rw [Heap.get?_update_self f ho (by rw [hf] <;> rfl), hf]
  refine I.write (x := p) (e := p) (by rw [h]; trivial) (.inl rfl) (fun b u hb q => (Heap.get?_update_other _ _ (Ne.symm hb)).trans q) ⟨_, e⟩ ?_
  exact ⟨hz, its', n', r, e⟩
def rSetL : V → V → V → Hp → (Hp → Prop) → Prop := fun o i v H Q => ∃ p xs k j, o = .ref p ∧ i = .int k ∧ H p = some (.lst xs) ∧ ixN xs.length k = some j ∧ Q (upd H p (.lst (xs.set j v)))
theorem set_list : PSet X rSetL := by
  intro pins s σ H o i v ov iv u Q I ro ri rv h
  obtain ⟨p, xs, k, j, rfl, rfl, hp, hj, q⟩ := h
  cases ro
  obtain ⟨t, rfl⟩ := ri
  obtain ⟨its, n, r, ho, hz⟩ := I.lst hp
  obtain ⟨h1, h2, h3, h4⟩ := ixN_seq hj
  have hl := r.length
  have hn := line63
  have I' : Inv X pins σ (upd H p (.lst (xs.set j v))) { s with heap := s.heap.update p (Obj.mapSeq (·.setIfInBounds j u)) } :=
    I.lstUpd hp ho (mapSeq_set its n j u) (r.set rv j) (by rw [List.length_set]; exact hz) s.toks
  by_cases h0 : 0 ≤ k
  · have hk : k.toNat = j := by
      rw [seqIndex_of h0 h4] at h1
      exact Option.some.inj h1
    exact PySem.W.ki_setAt ho h0 (by omega) (by rw [List.size_toArray, ← hl]; exact h4) (by rw [hk]; exact ⟨_, I', q⟩)
  · have hk : (k + (its.toArray.size : Int)).toNat = j := by
      rw [seqIndex_neg (by omega) h3] at h1
      rw [List.size_toArray, ← hl]
      exact Option.some.inj h1
    exact PySem.W.ki_setBack ho (by omega) (by rw [List.size_toArray, ← hl]; exact h3) (by omega) (by rw [hk]; exact ⟨_, I', q⟩)

/-! ### slices -/
theorem slice_bounds (lo hi : Option Int) (n : Nat) : (sliceBounds lo hi none n).1 = ((HT.sIx n 0 lo : Nat) : Int) ∧ (sliceBounds lo hi none n).2.1 = ((HT.sIx n n hi : Nat) : Int) ∧ (sliceBounds lo hi none n).2.2 = 1 := by
  refine ⟨?_, ?_, rfl⟩
  · cases lo with
    | none => simp [sliceBounds, HT.sIx]
    | some i =>
      simp only [sliceBounds, HT.sIx, Option.getD_none, show (1 : Int) > 0 by decide, if_true]
      by_cases h : i < 0
      · simp only [h, if_true] <;> omega
      · simp only [h, if_false] <;> omega
  · cases hi with
    | none => simp [sliceBounds, HT.sIx]
    | some i =>
      simp only [sliceBounds, HT.sIx, Option.getD_none, show (1 : Int) > 0 by decide, if_true]
      by_cases h : i < 0
      · simp only [h, if_true] <;> omega
      · simp only [h, if_false] <;> omega
theorem slicePick_cut (its : List Value) (lo hi : Option Int) : slicePick its.toArray lo hi none = ((its.drop (HT.sIx its.length 0 lo)).take (HT.sIx its.length its.length hi - HT.sIx its.length 0 lo)).toArray := by
  obtain ⟨h1, h2, h3⟩ := slice_bounds lo hi its.toArray.size
  unfold slicePick
  rw [h1, h2, h3]
  simp only [sliceRange_one, pick_run, List.size_toArray] <;> rfl
/-- xs[lo:hi] of a list: a new list -/
def rSlL (K : PySem.W.Frag) : V → Option Int → Option Int → Hp → VK → Prop := fun x lo hi H Q => ∃ a xs, x = .ref a ∧ SqL K H a xs ∧ ∀ p, H p = none → Q (.ref p) (upd H p (.lst (cutV xs lo hi)))
theorem sl_list : SlR X (rSlL X.K) := by
  intro pins s σ H x v vl vu lo hi sl Q I rx hs pl pu h
  obtain ⟨a, xs, rfl, hx, q⟩ := h
  cases rx
  obtain ⟨its, r, ht, hz⟩ := I.list hx
  have hlen := r.length
  refine ⟨"list", _, slot_list_getitem.lookup, ht.isList.typeIs, ?_⟩
  refine wpAny_getItem_list_slice ht.isList hs pl pu .none (by simp) ?_ (by rw [List.size_toArray] <;> omega)
  rw [slicePick_cut, ← hlen]
  refine ⟨.ref s.heap.objs.size, _, I.laid (t' := s.toks) (o := .lst (cutV xs lo hi)) (fun b ob q => Heap.get?_push_of_some _ q) (Nat.le_refl _) ?_, rfl, q _ (I.hok.fresh (Nat.le_refl _))⟩
  exact ⟨Nat.le_trans (cutV_length xs lo hi) hz, _, 0, (r.drop (HT.sIx xs.length 0 lo)).take (HT.sIx xs.length xs.length hi - HT.sIx xs.length 0 lo), Heap.get?_push_size _ rfl⟩

/-! ### in, not in: flat items -/
def flatV : V → Bool
  | .non => true
  | .bl _ => true
  | .int _ => true
  | .str _ => true
  | _ => false
/-- == of flat values -/
def eqV : V → V → Bool
  | .non, .non => true
  | .bl a, .bl b => a == b
  | .bl a, .int b => (if a then 1 else 0) == b
  | .int a, .bl b => a == (if b then 1 else 0)
  | .int a, .int b => a == b
  | .str a, .str b => a == b
  | _, _ => false
def inV (x : V) (xs : List V) : Bool := xs.any fun y => eqV y x
/-! ### len, list(x), tuple(x) of any list or tuple that is read -/
theorem call_len_seq : CallR X (.builtin "len") (fun xs H Q => ∃ p ys, xs = [.ref p] ∧ (SqL X.K H p ys ∨ SqT X.K H p ys) ∧ Q (.int ys.length) H) := by
  intro pins s σ H xs us Q I r h
  obtain ⟨p, ys, rfl, hq, q⟩ := h
  obtain ⟨u, rfl, rx⟩ := vals1 r
  cases rx
  have hn := line63
  rcases hq with hq | hq
  · obtain ⟨its, r', pl, hz⟩ := I.list hq
    have hlen := r'.length
    exact Calls.call_len_list pl.isList (by simp only [List.size_toArray] <;> omega) ⟨.int ys.length, H, I.tok _, ⟨s.toks + 1, by rw [List.size_toArray, hlen]⟩, q⟩
  · obtain ⟨its, r', pl, hz⟩ := I.tuple hq
    have hlen := r'.length
    exact len_tuple pl (by simp only [List.size_toArray] <;> omega) ⟨.int ys.length, H, I.tok _, ⟨s.toks + 1, by rw [List.size_toArray, hlen]⟩, q⟩
theorem call_len_str : CallR X (.builtin "len") (fun xs H Q => ∃ z, xs = [.str z] ∧ z.length ≤ sizeLine ∧ Q (.int z.length) H) := by
  intro pins s σ H xs us Q I r h
  obtain ⟨z, rfl, hz, q⟩ := h
  obtain ⟨u, rfl, t, rfl⟩ := vals1 r
  have hn := line63
  exact len_str (by omega) ⟨.int z.length, H, I.tok _, ⟨_, rfl⟩, q⟩
theorem CallR.or {f : Value} {r r' : List V → Hp → VK → Prop} (h : CallR X f r) (h' : CallR X f r') : CallR X f (fun xs H Q => r xs H Q ∨ r' xs H Q) := by
  intro pins s σ H xs us Q I rs q
  rcases q with q | q
  · exact h pins s σ H xs us Q I rs q
  · exact h' pins s σ H xs us Q I rs q
theorem call_list_of : CallR X (.type "list") (fun xs H Q => ∃ p ys, xs = [.ref p] ∧ (SqL X.K H p ys ∨ SqT X.K H p ys) ∧ ∀ l, H l = none → Q (.ref l) (upd H l (.lst ys))) := by
  intro pins s σ H xs us Q I r h
  obtain ⟨p, ys, rfl, hq, q⟩ := h
  obtain ⟨u, rfl, rx⟩ := vals1 r
  cases rx
  have fin : ∀ (its : List Value), Vals ys its → ys.length ≤ sizeLine → ∀ (h' : Heap) (c' : Nat), (∀ b o', s.heap.get? b = some o' → h'.get? b = some o') →
      h'.get? s.heap.objs.size = some { cls := .type "list", dict := none, data := .seq its.toArray c', slots := #[] } → EP X pins σ Q (.ref s.heap.objs.size) { s with heap := h' } := fun its r' hz h' c' kp e =>
    ⟨.ref s.heap.objs.size, _, I.laid (t' := s.toks) kp (Nat.le_refl _) (show ObjOk X.prog X.w _ h' _ (.lst ys) from ⟨hz, its, c', r', e⟩), rfl, q _ (I.hok.fresh (Nat.le_refl _))⟩
  rcases hq with hq | hq
  · obtain ⟨its, r', pl, hz⟩ := I.list hq
    have hlen := r'.length
    obtain ⟨o, ho, hc, n, hd⟩ := pl.isList
    exact call_list_seq p (.inl rfl) ho hc hd (fun h' c' kp e => fin its r' hz h' c' kp e) (by simp only [List.size_toArray] <;> omega)
  · obtain ⟨its, r', pl, hz⟩ := I.tuple hq
    have hlen := r'.length
    obtain ⟨o, ho, hc, n, hd⟩ := pl
    exact call_list_seq p (.inr rfl) ho hc hd (fun h' c' kp e => fin its r' hz h' c' kp e) (by simp only [List.size_toArray] <;> omega)
theorem call_tuple_of : CallR X (.type "tuple") (fun xs H Q => ∃ p ys, xs = [.ref p] ∧ ((SqL X.K H p ys ∧ ∀ l, H l = none → Q (.ref l) (upd H l (.tup ys))) ∨ (SqT X.K H p ys ∧ Q (.ref p) H))) := by
  intro pins s σ H xs us Q I r h
  obtain ⟨p, ys, rfl, h⟩ := h
  obtain ⟨u, rfl, rx⟩ := vals1 r
  cases rx
  rcases h with ⟨hq, q⟩ | ⟨hq, q⟩
  · obtain ⟨its, r', pl, hz⟩ := I.list hq
    have hlen := r'.length
    refine call_tuple_list pl.isList (fun h' kp => ?_) (by simp only [List.size_toArray] <;> omega)
    have I1 : Inv X pins σ H { s with heap := h' } := I.kept (t' := s.toks) kp
    have I2 : Inv X pins σ (upd H h'.objs.size (.tup ys)) { s with heap := h'.push { cls := .type "tuple", data := .seq its.toArray } } :=
      I1.laid (t' := s.toks) (fun b o e => Heap.get?_push_of_some _ e) (Nat.le_refl _) (show ObjOk X.prog X.w _ _ _ (.tup ys) from ⟨hz, its, r', IsTup.new _ _⟩)
    exact ⟨.ref h'.objs.size, _, I2, rfl, q _ (I1.hok.fresh (Nat.le_refl _))⟩
  · obtain ⟨its, r', pl, hz⟩ := I.tuple hq
    exact call_tuple_same pl ⟨.ref p, H, I, rfl, q⟩

/-! ### the call of a builtin's method: o.m(..) -/
/-- the value is of that builtin type -/
def tyV (K : PySem.W.Frag) (T : String) (x : V) (H : Hp) : Prop := match x with
  | .str _ => T = "str"
  | .int _ => T = "int"
  | .ref p => (T = "list" ∧ ∃ xs, SqL K H p xs) ∨ (T = "tuple" ∧ ∃ o, K.lookup p = some o ∧ o.cls = .type "tuple" ∧ o.dict = none) ∨
      (T = "dict" ∧ ((∃ kvs, H p = some (.dK kvs)) ∨ ∃ kvs, H p = some (.dT kvs))) ∨ (T = "set" ∧ ∃ S n, H p = some (.set S n))
  | _ => False
theorem tyV_is {pins : List (Addr × Obj)} {σ : St} {H : Hp} {s : Shared} {T : String} {x : V} {v : Value} (I : Inv X pins σ H s) (r : RelV x v) (ty : tyV X.K T x H) :
    s.TypeIs v T ∧ ∀ a, v = .ref a → ∃ ob, s.heap.get? a = some ob ∧ ob.dict = none := by
  cases x with
  | str z =>
    obtain ⟨t, rfl⟩ := r
    cases (show T = "str" from ty)
    exact ⟨typeIs_str s z t, fun _ e => nomatch e⟩
  | int i =>
    obtain ⟨t, rfl⟩ := r
    cases (show T = "int" from ty)
    exact ⟨typeIs_int s i t, fun _ e => nomatch e⟩
  | ref p =>
    cases r
    rcases ty with ⟨rfl, xs, hq⟩ | ⟨rfl, o, hk, hc, hd⟩ | ⟨rfl, hk⟩ | ⟨rfl, S, n, hk⟩
    · obtain ⟨its, _, pl, _⟩ := I.list hq
      refine ⟨pl.isList.typeIs, fun a e => ?_⟩
      cases e
      obtain ⟨o, n, e, c, hd, _⟩ := pl
      exact ⟨o, e, hd⟩
    · refine ⟨⟨o, I.kIn p o hk, hc⟩, fun a e => ?_⟩
      cases e
      exact ⟨o, I.kIn _ o hk, hd⟩
    · have z : ∃ o, s.heap.get? p = some o ∧ o.ExactDict := by
        rcases hk with ⟨kvs, hk⟩ | ⟨kvs, hk⟩
        · obtain ⟨_, _, _, _, o, _, _, e, ex, _⟩ := I.hok p _ hk
          exact ⟨o, e, ex⟩
        · obtain ⟨_, _, _, _, o, _, _, e, ex, _⟩ := I.hok p _ hk
          exact ⟨o, e, ex⟩
      obtain ⟨o, e, ex⟩ := z
      refine ⟨⟨o, e, ex.1⟩, fun a e2 => ?_⟩
      cases e2
      exact ⟨o, e, ex.2.1⟩
    · obtain ⟨o, _, _, _, e, ex, _⟩ := I.hok p _ hk
      refine ⟨⟨o, e, ex.1⟩, fun a e2 => ?_⟩
      cases e2
      exact ⟨o, e, ex.2.1⟩
  | _ => exact False.elim ty
def tBM0 (K : PySem.W.Frag) (T : String) (r : V → List V → Hp → VK → Prop) (to : TE) : TE := fun σ H Q => to σ H fun x H1 => tyV K T x H1 ∧ r x [] H1 Q
def tBM (K : PySem.W.Frag) (T : String) (r : V → List V → Hp → VK → Prop) (to : TE) (t : TA) : TE := fun σ H Q => to σ H fun x H1 => tyV K T x H1 ∧ t σ H1 fun xs H2 => r x xs H2 Q
variable {o e : Expr} {es : List Expr} {to : TE} {t : TA} {name : Str} {apos cpos : Pos} {T id : String} {r : V → List V → Hp → VK → Prop}
theorem pe_bm (pa : PlainAttrs T) (slot : Slot T name id) (hty : typeOf (.builtin id) = pure (.type "method_descriptor")) (hm : MtR X id r) (ho : PE X o to) (ha : PA X (e :: es) t)
    (hbase : attributeBase o name X.env (eval o X.env) = eval o X.env := by rfl)
    (hfew : ((backTo cpos (starEach (e :: es) X.env)).all (fun x => !x.1) && (backToKw cpos (keywordEach [] X.env)).all (fun x => x.1.isSome)
      && decide ((e :: es).length + ([] : List Keyword).length + (if ([] : List Keyword).isEmpty then 0 else 1) < 30)) = true := by rfl)
    (hline : (apos.endLine == cpos.line) = true := by rfl) (hs : starEach (e :: es) X.env = (false, eval e X.env) :: starEach es X.env := by rfl) (hplain : (backTo cpos (starEach es X.env)).any (·.1) = false := by rfl) :
    PE X (.Call (.Attribute o name apos) (e :: es) [] cpos) (tBM X.K T r to t) := by
  intro pins s σ H Q I h
  refine wpAny_Call_method_late hbase hfew hline rfl (thn (ho pins s σ H _ I h) fun v s1 ⟨x, H1, I1, r1, ty, q1⟩ => ?_)
  obtain ⟨h1, h2⟩ := tyV_is I1 r1 ty
  refine ⟨T, id, pa, slot, hty, h1, h2, ?_⟩
  have hA := ha cpos pins s1 σ H1 _ I1 q1
  rw [hs] at hA ⊢
  refine Calls.callWith_builtin (by show (false || (backTo cpos (starEach es X.env)).any (·.1)) = false; rw [hplain] <;> rfl) (Calls.evalArgs_plain ?_)
  exact thn hA fun us s2 ⟨vs, H2, I2, r2, q2⟩ => hm pins s2 σ H2 x vs v us Q I2 r1 r2 q2
/- xs.append(e), list.index on a module's tuple .. are MtR facts of 06m -/
end
end L2

namespace L2
open PySem PySem.Spec PyProof.Rows

def MtM (X : Cx) (id : String) (r : V → List V → Hp → VK → Prop) : Prop :=
  ∀ (pins : List (Addr × Obj)) (s : Shared) (σ : St) (H : Hp) (x : V) (xs : List V) (v : Value) (us : List Value) (Q : VK), Inv X pins σ H s → RelV x v → Vals xs us → r x xs H Q →
    wpAny (model X.prog X.w) X.A (call (.builtin id) (v :: us)) (EP X pins σ Q) X.xe s

/-! ### lists of values -/
theorem Vals.one : ∀ {x : V} {us : List Value}, Vals [x] us → ∃ u, us = [u] ∧ RelV x u
  | _, _, .cons r .nil => ⟨_, rfl, r⟩
theorem Vals.two : ∀ {x y : V} {us : List Value}, Vals [x, y] us → ∃ u v, us = [u, v] ∧ RelV x u ∧ RelV y v
  | _, _, _, .cons r (.cons q .nil) => ⟨_, _, rfl, r, q⟩
theorem Vals.zero : ∀ {us : List Value}, Vals [] us → us = []
  | _, .nil => rfl
theorem Vals.dropLast {xs : List V} {us : List Value} (h : Vals xs us) : Vals xs.dropLast us.dropLast := by
  induction h with
  | nil => exact .nil
  | cons r t ih =>
    cases t with
    | nil => exact .nil
    | cons q t' => exact .cons r ih
theorem Vals.eraseIdx : ∀ {xs : List V} {us : List Value} (i : Nat), Vals xs us → Vals (xs.eraseIdx i) (us.eraseIdx i)
  | _, _, _, .nil => .nil
  | _, _, 0, .cons _ t => t
  | _, _, i + 1, .cons r t => .cons r (Vals.eraseIdx i t)
theorem Vals.reverse {xs : List V} {us : List Value} (h : Vals xs us) : Vals xs.reverse us.reverse := by
  induction h with
  | nil => exact .nil
  | cons r t ih => rw [List.reverse_cons, List.reverse_cons]; exact Vals.append ih (.cons r .nil)
theorem len_erase {α : Type} : ∀ (l : List α) (i : Nat), (l.eraseIdx i).length ≤ l.length
  | [], _ => Nat.le_refl _
  | _ :: _, 0 => Nat.le_succ _
  | _ :: r, i + 1 => Nat.succ_le_succ (len_erase r i)
section
variable {X : Cx} {pins : List (Addr × Obj)} {σ : St} {H : Hp} {s : Shared} {l b : Addr} {xs ys zs : List V}

/-! ### the two steps: a tracked list is rewritten, a new list is laid -/
theorem Inv.lset {its its' : List Value} {n : Nat} {f : Array Value → Array Value} {t' : Nat} (I : Inv X pins σ H s) (hH : H l = some (.lst xs))
    (e : s.heap.get? l = some { cls := .type "list", data := .seq its.toArray n }) (hf : f its.toArray = its'.toArray) (hv : Vals ys its') (hz : ys.length ≤ sizeLine) :
    Inv X pins σ (upd H l (.lst ys)) { s with heap := s.heap.update l (Obj.mapSeq f), toks := t' } := by
  have q := PySem.IsL.update e f
  rw [hf] at q
  refine I.write (x := l) (e := l) (by rw [hH]; exact trivial) (.inl rfl) (fun b' u hb hu => (Heap.get?_update_other s.heap (Obj.mapSeq f) (Ne.symm hb)).trans hu) ⟨_, q⟩ ?_
  exact ⟨hz, its', _, hv, q⟩
theorem Inv.lnew {its : List Value} {t' : Nat} (I : Inv X pins σ H s) (hv : Vals ys its) (hz : ys.length ≤ sizeLine) :
    Inv X pins σ (upd H s.heap.objs.size (.lst ys)) { s with heap := s.heap.push { cls := .type "list", data := .seq its.toArray }, toks := t' } :=
  I.laid (fun _ _ q => Heap.get?_push_of_some _ q) (Nat.le_refl _) ⟨hz, its, 0, hv, Heap.get?_push_size _ rfl⟩
theorem Inv.fresh (I : Inv X pins σ H s) : H s.heap.objs.size = none := I.hok.fresh (Nat.le_refl _)
theorem Inv.lstM (I : Inv X pins σ H s) (hH : H l = some (.lst xs)) : xs.length ≤ sizeLine ∧ ∃ (its : List Value) (n : Nat), Vals xs its ∧ xs.length = its.length ∧ s.heap.get? l = some { cls := .type "list", data := .seq its.toArray n } := by
  obtain ⟨z, its, n, r, e⟩ := I.hok l _ hH
  exact ⟨z, its, n, r, r.length, e⟩

end

section
variable {X : Cx}

/-! ### methods -/
def rAppend : V → List V → Hp → VK → Prop := fun x vs H Q => ∃ l xs y, x = .ref l ∧ vs = [y] ∧ H l = some (.lst xs) ∧ xs.length < sizeLine ∧ Q .non (upd H l (.lst (xs ++ [y])))
theorem mt_append : MtM X "list.append" rAppend := by
  intro pins s σ H x vs v us Q I rx rv h
  obtain ⟨l, xs, y, rfl, rfl, hH, hz, q⟩ := h
  cases rx
  obtain ⟨u, rfl, ru⟩ := rv.one
  obtain ⟨z, its, n, r, hl, e⟩ := I.lstM hH
  refine call_meets F.slot_list_append ⟨_, e, rfl⟩ F.entry_list_append (F.args_list_append_2 _ _) (PySem.list_append l its.toArray n u (by rw [List.size_toArray]; omega)) ⟨e, ?_⟩
  refine ⟨.non, _, I.lset (its' := its ++ [u]) hH e (by simp) (r.append (.cons ru .nil)) ?_, rfl, q⟩
  rw [List.length_append, List.length_singleton]
  omega

def rExtend : V → List V → Hp → VK → Prop := fun x vs H Q => ∃ l b xs zs, x = .ref l ∧ vs = [.ref b] ∧ H l = some (.lst xs) ∧ H b = some (.lst zs) ∧ xs.length + zs.length ≤ sizeLine ∧ Q .non (upd H l (.lst (xs ++ zs)))
def rPop : V → List V → Hp → VK → Prop := fun x vs H Q => ∃ l xs y, x = .ref l ∧ vs = [] ∧ H l = some (.lst xs) ∧ xs[xs.length - 1]? = some y ∧ Q y (upd H l (.lst xs.dropLast))
def rPopAt : V → List V → Hp → VK → Prop := fun x vs H Q => ∃ l xs i k y, x = .ref l ∧ vs = [.int i] ∧ H l = some (.lst xs) ∧ -(2 ^ 63) ≤ i ∧ i < 2 ^ 63 ∧ seqIndex? i xs.length = some k ∧ xs[k]? = some y ∧ Q y (upd H l (.lst (xs.eraseIdx k)))
theorem mt_popAt : MtM X "list.pop" rPopAt := by
  intro pins s σ H x vs v us Q I rx rv h
  obtain ⟨l, xs, i, k, y, rfl, rfl, hH, h1, h2, hk, hy, q⟩ := h
  cases rx
  obtain ⟨u, rfl, ru⟩ := rv.one
  obtain ⟨t, rfl⟩ := ru
  obtain ⟨z, its, n, r, hl, e⟩ := I.lstM hH
  obtain ⟨w, hw, rw'⟩ := r.get hy
  refine call_meets F.slot_list_pop ⟨_, e, rfl⟩ F.entry_list_pop (F.args_list_pop_2 _ _)
    (MeetsSeq.list_pop_at l its.toArray n i t k w (fitsIndex_both h1 h2) (by rw [List.size_toArray, ← hl]; exact hk) (by rw [← Array.getElem?_toList]; exact hw) (by rw [List.size_toArray]; omega)) ⟨e, ?_⟩
  refine ⟨y, _, I.lset (its' := its.eraseIdx k) hH e ?_ (r.eraseIdx k) ?_, rw', q⟩
  · show its.toArray.eraseIdxIfInBounds k = (its.eraseIdx k).toArray
    rw [List.eraseIdxIfInBounds_toArray]
  · have := len_erase xs k
    omega

def rReverse : V → List V → Hp → VK → Prop := fun x vs H Q => ∃ l xs, x = .ref l ∧ vs = [] ∧ H l = some (.lst xs) ∧ Q .non (upd H l (.lst xs.reverse))
def rClear : V → List V → Hp → VK → Prop := fun x vs H Q => ∃ l xs, x = .ref l ∧ vs = [] ∧ H l = some (.lst xs) ∧ Q .non (upd H l (.lst []))
/-! ### list + list, list += list, list * int -/
def rCat : R2 := fun x y H Q => ∃ l b xs zs, x = .ref l ∧ y = .ref b ∧ H l = some (.lst xs) ∧ H b = some (.lst zs) ∧ xs.length + zs.length ≤ sizeLine ∧ ∀ p, H p = none → Q (.ref p) (upd H p (.lst (xs ++ zs)))
theorem op_cat : OpR X (binaryOp .Add) rCat := by
  intro pins s σ H x y v u Q I rx ry h
  obtain ⟨l, b, xs, zs, rfl, rfl, hH, hB, hz, q⟩ := h
  cases rx
  cases ry
  obtain ⟨z, its, n, r, hl, e⟩ := I.lstM hH
  obtain ⟨z2, its2, n2, r2, hl2, e2⟩ := I.lstM hB
  refine PySem.P.add_list e e2 ?_ (by rw [List.size_toArray, List.size_toArray]; omega)
  have ea : its.toArray ++ its2.toArray = (its ++ its2).toArray := by simp
  rw [ea]
  exact ⟨.ref _, _, I.lnew (t' := s.toks) (r.append r2) (by rw [List.length_append]; omega), rfl, q _ I.fresh⟩
/-! ### del xs[i] -/
end

/-! ### xs[a:b] = ys -/
section
variable {prog : Program} {w : World} {A : Around} {E : Value → Shared → Prop} {s : Shared}
end

section
variable {X : Cx}
end
end L2

namespace Att
open PySem PySem.W PySem.Calls PyProof.Rows

/-! ### the script -/
theorem ints_of_wellAll {P : Params} {h : Heap} : ∀ (ns : List Int) (vs : List Value), WellAll P h vs (ns.map WData.int) → IntsAre vs ns := by
  intro ns
  induction ns with
  | nil =>
    intro vs w
    rw [List.map_nil] at w
    cases w
    exact .nil
  | cons n ns ih =>
    intro vs w
    rw [List.map_cons] at w
    cases w with
    | cons a b =>
      cases a
      exact .cons _ _ (ih _ b)

theorem script_of {l : OpenLaw} {n : Nat} (hn : l.most = some n) {P : Params} {h : Heap} {args : List WData} {vals : List Value}
    (hpre : l.row.toRowW.claim.pre args = true) (hwl : WellAll P h vals args) :
    ∃ a vs ns, vals = [Value.ref a] ∧ args = [WData.list (ns.map WData.int)] ∧ h.get? a = some { cls := .type "list", data := .seq vs.toArray } ∧ IntsAre vs ns ∧ ns.length ≤ n := by
  have hsh : WShape.hasAll [] args [.list .int] = true := (pre_splitW hpre).1
  have hc : l.pre.holds [] { args := args } = true := (pre_splitW hpre).2
  obtain ⟨d, r, rfl, h1, h2⟩ := hasAllW_cons hsh
  obtain rfl := hasAllW_nil h2
  obtain ⟨xs, rfl, h3⟩ := hasW_list h1
  obtain ⟨ns, rfl⟩ := items_int h3
  have hlen : ns.length ≤ n := by
    unfold OpenLaw.pre at hc
    have h4 : (WTm.not (.lt (.lit (.int (n : Int))) (.len (.arg 0)))).holds [] { args := [.list (ns.map .int)] } = true := by
      have h4 := (holds_andW hc).1
      rw [hn] at h4
      exact h4
    have h5 := condW_of h4 (w_not (w_lt w_lit (w_len_list (w_arg rfl))))
    rw [List.length_map] at h5
    refine Nat.le_of_not_lt fun q => ?_
    have q' : (n : Int) < ((ns.length : Nat) : Int) := by omega
    first
      | (rw [decide_eq_true q'] at h5; exact absurd h5 (by decide))
      | (simp at h5; omega)
  cases hwl with
  | cons w1 w2 =>
    cases w2
    cases w1 with
    | list ho hall => exact ⟨_, _, ns, rfl, rfl, ho, ints_of_wellAll ns _ hall, hlen⟩

theorem post_true (l : OpenLaw) (args : List WData) : l.row.toRowW.claim.post args (.bool true) args = true :=
  postW_of (r := l.row.toRowW) (X := (true == true))
    (show WShape.has [] (.bool true) .bool = true by first | rfl | decide | simp [WShape.has, WShape.arms, WShape.armsAll])
    (show (WTm.eq .res (.lit (.bool true))).value [] { args := args, res := some (.bool true), after := args } = some (.bool (true == true)) from w_eq_bool (w_res rfl) w_lit) rfl

/-! ### the attachment: holds_open's last premise (the goal 'hc' behind k_head) from a wpAny of the law's body -/
/-- the same from a codeAny of the CALL (for a layer whose function contracts speak of calls) -/
theorem attach_call {l : OpenLaw} {n : Nat} {q : Program} {loose : List Str} {XP : (Str → Option Value) → Heap → Prop} {YP : World → Heap → Prop} {d : DefRec}
    (hn : l.most = some n) (hdf : d.params.defaults = [])
    (call : ∀ (w : World) (s₀ s₁ : Shared) (mg mb : Str → Option Value) (fa : Addr) (o : Obj) (pm cd doc : Value) (a : Addr) (vs : List Value) (ns : List Int),
      Ground q loose [] XP w s₀ mg mb s₁.heap → YP w s₁.heap →
      s₁.heap.get? fa = some o → o.data = .func (docDef d.name d.params d.body d.scope pm cd doc) → s₁.heap.CodeRec cd d.name → mg d.name = some (.ref fa) →
      s₁.heap.get? a = some { cls := .type "list", data := .seq vs.toArray } → IntsAre vs ns → ns.length ≤ n → s₁.gens = #[] →
      codeAny (model l.prog w) callerA (.call (.ref fa) ⟨[.ref a], []⟩) (fun r s' => r = .ok (.ret (.bool true)) ∧ OldK s₁.heap s'.heap ∧ s'.os = s₁.os ∧ AllBare s'.gens) s₁) :
    WalkO q loose XP YP l.row.toRowW d [] (fun f vs => PySem.call f vs) := by
  intro w s₀ s₁ mg mb G Y fa o pm cd doc dV kV ho hd hcd hD hmg hg args vals as hpre hlay hrd hwl hlo
  obtain rfl : dV = .none := Dflts.none hD hdf
  obtain rfl : kV = .none := Dflts.noKw hD
  obtain ⟨a, vs, ns, rfl, rfl, hobj, hints, hlen⟩ := script_of hn hpre hwl
  refine enter_call (codeAny_mono (call w s₀ s₁ mg mb fa o pm cd doc a vs ns G Y ho (fd_plain hd) hcd hmg hobj hints hlen hg) fun r s' hq => ?_)
  obtain ⟨rfl, h2, h3, h4⟩ := hq
  exact ⟨.inl ⟨.bool true, .bool true, [], rfl, fun _ => rfl, .bool true, post_true l _, fun _ => ⟨List.Pairwise.nil, fun _ hm => (nomatch hm)⟩⟩, h2, h3, h4⟩

/-! ### rules over ANY heap (no ledger) from facts about the written part K: the library's own take a ledger (News) for what they write -/
section
variable {prog : Program} {w : World} {A : Around} {E : Value → Shared → Prop} {s : Shared} {K : Frag}

/-! the whole heap as the ledger: makes every rule that writes through a ledger a rule over any heap -/
def ledger (h : Heap) (L d : Addr) : List (Addr × Obj) := (List.range h.objs.size).filterMap fun a => if a = L ∨ a = d then none else (h.get? a).map fun o => (a, o)
end
end Att

namespace L2
open PySem PySem.Spec PyProof.Rows

theorem vals_ints : ∀ {vs : List Value} {ns : List Int}, IntsAre vs ns → Vals (ns.map V.int) vs
  | _, _, .nil => .nil
  | _, _, .cons n t h => .cons ⟨t, rfl⟩ (vals_ints h)

/-- nothing is tracked but the script, known to the object (or it is an object of the module) -/
def Only (H : Hp) : Prop := ∀ b, H b = none ∨ ∃ o xs, H b = some (.frz o (.lst xs))

/-- THE HEAD: the law's promise, at the heap behind the top. F, the promise of the law's def, may use that base is part of the heap (so K.In base, base.Ns mainGlobals mg stand in Mod) -/
theorem law_call {P : Program} {w : World} {K : PySem.W.Frag} {mg mb : Str → Option Value} {CX : CXT} {k : Nat} {fa a : Addr} {fd : FuncData} {x : Str} {sp : Sp} {s₁ : Shared} {vs : List Value} {ns : List Int}
    (KX : K.In s₁.heap) (hns : s₁.heap.Ns mainGlobals mg) (hb : s₁.heap.Ns builtinsNs mb) (hbb : ∀ x : Str, x ≠ "__name__" → mb x = bootBuiltins x) (hlim : s₁.heap.NoLimit) (hg : s₁.gens = #[])
    (ha : s₁.heap.get? a = some { cls := .type "list", data := .seq vs.toArray }) (hi : IntsAre vs ns) (hl : ns.length ≤ sizeLine) (hr : Room k callerA)
    (F : ∀ base : Heap, K.In base → base.Ns mainGlobals mg → FnOk P w K mg base CX k fa fd [x] sp) (hbind : ∀ (s : Shared) (u : Value), BindsTo s fd ⟨[u], []⟩ [(x, u)])
    (hsp : ∀ H : Hp, Only H → SqL K H a (ns.map V.int) → sp [.ref a] H (fun v _ => v = .bl true) fun _ _ _ => False)
    (hCX : ∀ H e s', CX [] H s₁ (fun _ _ _ => False) e s' → False) :
    codeAny (model P w) callerA (.call (.ref fa) ⟨[.ref a], []⟩) (fun r s' => r = .ok (.ret (.bool true)) ∧ OldK s₁.heap s'.heap ∧ s'.os = s₁.os ∧ AllBare s'.gens) s₁ := by
  have rv := vals_ints hi
  have lenV := hi.length
  -- from an abstract heap in which nothing but the script may be tracked
  have core : ∀ H : Hp, Only H → SqL K H a (ns.map V.int) → HOk P w H s₁.heap → (∀ b, H b ≠ none → b = a) → (H a ≠ none → K.lookup a = none) →
      codeAny (model P w) callerA (.call (.ref fa) ⟨[.ref a], []⟩) (fun r s' => r = .ok (.ret (.bool true)) ∧ OldK s₁.heap s'.heap ∧ s'.os = s₁.os ∧ AllBare s'.gens) s₁ := by
    intro H hO hS hok hA hK
    have base_of : ∀ {b : Addr} {o : Obj}, s₁.heap.get? b = some o → H b = none → (hidT s₁.heap H).get? b = some o := fun e n => hidT_get e n
    have noA : ∀ {b : Addr} {o : Obj} {es : Array DictEntry} {ep : Nat}, s₁.heap.get? b = some o → o.data = .dict es ep → H b = none := fun {b o es ep} e d => by
      cases q : H b with
      | none => rfl
      | some u =>
        have e' : b = a := hA b (by rw [q]; simp)
        subst e'
        rw [ha] at e; cases e
        have d' : Data.seq vs.toArray _ = Data.dict es ep := d
        cases d'
    have nsK : ∀ {b : Addr} {m : Str → Option Value}, s₁.heap.Ns b m → (hidT s₁.heap H).Ns b m := fun {b m} ⟨o, es, ep, e, d, r⟩ => ⟨o, es, ep, base_of e (noA e d), d, r⟩
    have hKb : K.In (hidT s₁.heap H) := fun b o e => base_of (KX b o e) (by
      cases q : H b with
      | none => rfl
      | some u =>
        have e' : b = a := hA b (by rw [q]; simp)
        subst e'
        rw [hK (by rw [q]; simp)] at e; cases e)
    have hM : Mod K mg (hidT s₁.heap H) := ⟨hKb, nsK hns, ⟨mb, nsK hb, hbb⟩, let ⟨mc, h1, h2⟩ := hlim; ⟨mc, nsK h1, h2⟩⟩
    have e0 : Env0 P w K mg (hidT s₁.heap H) callerA [] s₁ H := ⟨rfl, hM, fun b o e => of_hidT e, Nat.le_of_eq (hidT_size _ _), trivial, fun b hb => absurd (show b ∈ ([] : List Addr) from hb) (by simp), hok, .of_eq hg⟩
    refine codeAny_mono ((F _ hKb (nsK hns)).run callerA [] s₁ H ⟨[.ref a], []⟩ [.ref a] [.ref a] _ _ hr e0 (hbind s₁ (.ref a)) (.cons rfl .nil) (hsp H hO hS)) fun r s' h => ?_
    cases r with
    | error e => exact (hCX H e s' h).elim
    | ok fl =>
      cases fl with
      | next => exact False.elim h
      | brk => exact False.elim h
      | cont => exact False.elim h
      | ret u =>
        obtain ⟨v, H', os, bare, un, hok', r', q⟩ := h
        have q' : v = .bl true := q
        subst q'
        obtain rfl : u = Value.bool true := r'
        refine ⟨rfl, OldK.of_keep fun b o e => ?_, os, bare⟩
        cases q : H b with
        | none => exact un.keep b o e q (by intro z; exact absurd (show b ∈ ([] : List Addr) from z) (by simp)) (by simp)
        | some u =>
          rcases hO b with z | ⟨ob, xs, z⟩
          · rw [q] at z; cases z
          · have z2 := un.frzs b ob _ z
            obtain ⟨e1, _⟩ := hok b _ z
            obtain ⟨e2, _⟩ := hok' b _ z2
            rw [e] at e1; cases e1
            exact e2
  cases hk : K.lookup a with
  | some o =>
    -- the script is one of the module's own objects
    have e := KX a o hk
    rw [ha] at e
    cases e
    refine core (fun _ => none) (fun _ => .inl rfl) (.inr ⟨_, vs.toArray, _, hk, rfl, rfl, rfl, by rw [List.size_toArray, lenV]; exact hl, by simpa using rv⟩) (fun b u z => by have z' : (none : Option HO) = some u := z; cases z') (fun b z => absurd rfl z) fun z => absurd rfl z
  | none =>
    refine core (fun b => if b = a then some (.frz { cls := .type "list", data := .seq vs.toArray } (.lst (ns.map V.int))) else none) (fun b => ?_) (.inl (.inr ⟨{ cls := .type "list", data := .seq vs.toArray }, if_pos rfl⟩)) (fun b u z => ?_) (fun b z => ?_) fun _ => hk
    · by_cases hb : b = a
      · exact .inr ⟨_, _, if_pos hb⟩
      · exact .inl (if_neg hb)
    · by_cases hb : b = a
      · have z' := (if_pos hb).symm.trans z
        cases z'
        subst hb
        exact ⟨ha, by rw [List.length_map]; exact hl, vs, _, rv, ha⟩
      · have z' := (if_neg hb).symm.trans z
        cases z'
    · by_cases hb : b = a
      · exact hb
      · exact absurd (if_neg hb) z
end L2

namespace L2
open PySem PySem.Spec PyProof.Rows

abbrev KOf {K : PySem.W.Frag} {h : Heap} (_ : K.In h) : PySem.W.Frag := K

/-- the goal that k_head leaves (case hc), from the law's promise. F gives the function object fd (K's own) once, then the promise over every base -/
theorem walk_of {l : PySem.W.OpenLaw} {n k : Nat} {q : Program} {loose : List Str} {XP : (Str → Option Value) → Heap → Prop} {YP : World → Heap → Prop} {d : DefRec} {K : Params → PySem.W.Frag} {CX : World → CXT} {sp : World → Sp} {x : Str}
    (hn : l.most = some n) (hn2 : n ≤ sizeLine) (hdf : d.params.defaults = []) (hr : Room k callerA)
    (hY : ∀ (w : World) (h : Heap), YP w h → (K w.params).In h)
    (F : ∀ (w : World) (mg : Str → Option Value) (fa : Addr) (h : Heap), (K w.params).In h → h.Ns mainGlobals mg → mg d.name = some (.ref fa) →
      ∃ fd : FuncData, (∀ (s : Shared) (u : Value), BindsTo s fd ⟨[u], []⟩ [(x, u)]) ∧
        ∀ base : Heap, (K w.params).In base → base.Ns mainGlobals mg → FnOk l.prog w (K w.params) mg base (CX w) k fa fd [x] (sp w))
    (hsp : ∀ (w : World) (H : Hp) (a : Addr) (ns : List Int), ns.length ≤ n → Only H → SqL (K w.params) H a (ns.map V.int) → sp w [.ref a] H (fun v _ => v = .bl true) fun _ _ _ => False)
    (hCX : ∀ (w : World) (H : Hp) (s : Shared) (e : Value) (s' : Shared), CX w [] H s (fun _ _ _ => False) e s' → False) :
    PySem.W.WalkO q loose XP YP l.row.toRowW d [] (fun f vs => PySem.call f vs) := by
  refine Att.attach_call hn hdf fun w s₀ s₁ mg mb fa o pm cd doc a vs ns G Y ho hd hcd hmg hobj hints hlen hg => ?_
  have KX := hY w _ Y
  obtain ⟨fd, hb, hF⟩ := F w mg fa _ KX G.T.g hmg
  exact law_call KX G.T.g G.T.b G.T.builtins G.T.nolimit hg hobj hints (Nat.le_trans hlen hn2) hr hF hb (fun H hO hS => hsp w H a ns hlen hO hS) fun H e s' => hCX w H s₁ e s'
/-- the same where the promise hangs on the written part alone: (sp := My.sp_law), no hole under a binder -/
theorem walk_ofK {l : PySem.W.OpenLaw} {n k : Nat} {q : Program} {loose : List Str} {XP : (Str → Option Value) → Heap → Prop} {YP : World → Heap → Prop} {d : DefRec} {K : Params → PySem.W.Frag} {CX : CXT} {sp : PySem.W.Frag → Sp} {x : Str}
    (hn : l.most = some n) (hn2 : n ≤ sizeLine) (hdf : d.params.defaults = []) (hr : Room k callerA)
    (hY : ∀ (w : World) (h : Heap), YP w h → (K w.params).In h)
    (F : ∀ (w : World) (mg : Str → Option Value) (fa : Addr) (h : Heap), (K w.params).In h → h.Ns mainGlobals mg → mg d.name = some (.ref fa) →
      ∃ fd : FuncData, (∀ (s : Shared) (u : Value), BindsTo s fd ⟨[u], []⟩ [(x, u)]) ∧
        ∀ base : Heap, (K w.params).In base → base.Ns mainGlobals mg → FnOk l.prog w (K w.params) mg base CX k fa fd [x] (sp (K w.params)))
    (hsp : ∀ (K : PySem.W.Frag) (H : Hp) (a : Addr) (ns : List Int), ns.length ≤ n → Only H → SqL K H a (ns.map V.int) → sp K [.ref a] H (fun v _ => v = .bl true) fun _ _ _ => False)
    (hCX : ∀ (H : Hp) (s : Shared) (e : Value) (s' : Shared), CX [] H s (fun _ _ _ => False) e s' → False) :
    PySem.W.WalkO q loose XP YP l.row.toRowW d [] (fun f vs => PySem.call f vs) :=
  walk_of (K := K) (CX := fun _ => CX) (sp := fun w => sp (K w.params)) hn hn2 hdf hr hY F (fun w H a ns h1 h2 h3 => hsp (K w.params) H a ns h1 h2 h3) fun _ H s e s' => hCX H s e s'
end L2

/-! SHORT WORDS over the layer: a def of the text, its body, what a loop and a test want. -/
namespace L2
open PySem PySem.Spec PyProof.Rows

/-! ### the text by places -/
/-- the j-th statement of a class's body -/
def inClass (s : Stmt) (j : Nat) : Stmt := match s with
  | .ClassDef _ _ _ body _ _ _ _ _ _ _ => body.getD j (.Pass ⟨0, 0, 0, 0⟩)
  | _ => .Pass ⟨0, 0, 0, 0⟩
def defArgs (s : Stmt) : Arguments := match s with
  | .FunctionDef _ a _ _ _ _ _ _ _ _ => a
  | _ => { posonlyargs := [], args := [], vararg := none, kwonlyargs := [], kw_defaults := [], kwarg := none, defaults := [] }
def defBody (s : Stmt) : List Stmt := match s with
  | .FunctionDef _ _ b _ _ _ _ _ _ _ => b
  | _ => []
def defScope (s : Stmt) : Scope := match s with
  | .FunctionDef _ _ _ _ _ _ sc _ _ _ => sc
  | _ => { kind := .function, names := [], isGenerator := false, isCoroutine := false }

/-! ### no exception leaves a def -/
abbrev CX0 : CXT := fun _ _ _ _ _ _ => False
abbrev E0 : XK := fun _ _ _ => False
theorem pass0 {X : Cx} : Passes CX0 X E0 := fun _ _ _ _ _ _ _ h => h.elim

/-! ### a def (or method) of the text as it stands behind the top -/
structure Fun (K : PySem.W.Frag) (x qual : Str) (st : Stmt) (f : Addr) (fd : FuncData) : Prop where
  ex : ∃ (oc : Value) (od : Option Addr) (kV doc pm : Value) (an : Option Addr) (cdv ct : Value) (osl : Array (Option Value)),
    fd = PySem.W.fnOf x qual (defArgs st) (defBody st) (defScope st) .none kV doc pm an cdv ct ∧ K.lookup f = some ⟨oc, od, .func fd, osl⟩ ∧ PySem.W.codeIn K cdv qual = true
  kp : PySem.W.keepIn K (.ref f) = true
section
variable {P : Program} {w : World} {K : PySem.W.Frag} {mg : Str → Option Value} {base : Heap}
/-- THE RULE for a def: its body as a term of rules, and the reading of that term -/
theorem Fun.ok {x qual : Str} {st : Stmt} {f : Addr} {fd : FuncData} {N ps : List Str} {k : Nat} {sp : Sp} (F : Fun K x qual st f fd) (S : FnScope N ps (defScope st)) (len : ∀ vs H Q E, sp vs H Q E → vs.length = ps.length)
    (hbody : ∀ (cdv : Value) (A : Around) (outer : List Env) (s : Shared) (H : Hp) (vs : List V) (Q : VK) (E : XK), Room k (A.deeper (envOfC qual (defScope st) s.heap.objs.size f cdv)) → sp vs H Q E →
      ∃ t, PSs (cxOf CX0 P w K mg base N qual (defScope st) f cdv A outer s H E).nox (defBody st) t ∧ t { nx := fun _ H' => Q .non H', rt := Q } (start N vs) H) : FnOk P w K mg base CX0 (k + 1) f fd ps sp := by
  obtain ⟨oc, od, kV, doc, pm, an, cdv, ct, osl, rfl, lk, hcd⟩ := F.ex
  refine fn_of lk hcd S len fun A outer s H vs Q E hr hsp => ?_
  obtain ⟨t, h, q⟩ := hbody cdv A outer s H vs Q E hr hsp
  exact ⟨t, h.nox, q⟩
/-- how its arguments bind (no defaults): h is «fun _ _ _ _ _ _ us hl => match us, hl with | [_, _], _ => rfl», one _ a parameter -/
theorem Fun.binds {x qual : Str} {st : Stmt} {f : Addr} {fd : FuncData} {ps : List Str} (F : Fun K x qual st f fd)
    (h : ∀ (kV doc pm : Value) (an : Option Addr) (cdv ct : Value) (us : List Value), us.length = ps.length → bindArgs (PySem.W.fnOf x qual (defArgs st) (defBody st) (defScope st) .none kV doc pm an cdv ct) ⟨us, []⟩ = pure (ps.zip us)) : Binds K fd ps [] := by
  obtain ⟨oc, od, kV, doc, pm, an, cdv, ct, osl, rfl, lk, hcd⟩ := F.ex
  exact .all (h kV doc pm an cdv ct)
theorem fun_mk {x qual : Str} {st : Stmt} {f : Addr} {oc : Value} {od an : Option Addr} {osl : Array (Option Value)} {kV doc pm cdv ct : Value} (l : K.lookup f = some ⟨oc, od, .func (PySem.W.fnOf x qual (defArgs st) (defBody st) (defScope st) .none kV doc pm an cdv ct), osl⟩)
    (c : PySem.W.codeIn K cdv qual = true) (k : PySem.W.keepIn K (.ref f) = true) : Fun K x qual st f (PySem.W.fnOf x qual (defArgs st) (defBody st) (defScope st) .none kV doc pm an cdv ct) := ⟨⟨oc, od, kV, doc, pm, an, cdv, ct, osl, rfl, l, c⟩, k⟩
end
theorem small1000 {n : Nat} (h : n ≤ 1000) : n < sizeLine := Nat.lt_of_le_of_lt h (by decide)

/-! ### expressions in short: the name that stands in the i-th slot -/
section
variable {X : Cx}
theorem pv (i : Nat) {x : Str} {pos : Pos} (hN : X.N[i]? = some x := by rfl) (hv : Vis X.env.scope x := by first | exact Or.inl rfl | exact Or.inr (Or.inl rfl) | exact Or.inr (Or.inr rfl)) (hd : (x == ("__debug__" : Str)) = false := by decide)
    (hcd : (x == ("__classdict__" : Str)) = false := by decide) : PE X (.Name x pos) (tVar i) := pe_var hN hv hd hcd
end

/-! ### tests -/
theorem iteF {A B : Prop} (h : B) : if false = true then A else B := by
  rw [if_neg Bool.false_ne_true]
  exact h
theorem iteT {A B : Prop} (h : A) : if true = true then A else B := by
  rw [if_pos rfl]
  exact h
theorem ite2 {c A B : Prop} [Decidable c] (h1 : c → A) (h2 : ¬ c → B) : if c then A else B := by
  by_cases h : c
  · rw [if_pos h]
    exact h1 h
  · rw [if_neg h]
    exact h2 h
/-! ### heaps -/
/-- all that was tracked is as it was -/
def Same (H H' : Hp) : Prop := ∀ b o, H b = some o → H' b = some o
theorem Same.refl (H : Hp) : Same H H := fun _ _ h => h
theorem Same.trans {H H1 H2 : Hp} (a : Same H H1) (b : Same H1 H2) : Same H H2 := fun c o h => b c o (a c o h)
theorem Same.free {H H' : Hp} (e : Same H H') {l : Addr} (h : H' l = Option.none) : H l = Option.none := by
  cases q : H l with
  | none => rfl
  | some o =>
    rw [e l o q] at h
    cases h
theorem Same.seq {K : PySem.W.Frag} {H H' : Hp} {a : Addr} {xs : List V} (e : Same H H') (h : SqL K H a xs) : SqL K H' a xs := by
  rcases h with (h | ⟨o, h⟩) | h
  · exact .inl (.inl (e _ _ h))
  · exact .inl (.inr ⟨o, e _ _ h⟩)
  · exact .inr h

end L2
namespace L2
open PySem PySem.Spec PyProof.Rows

/-! ### lists of pairs as tables -/
section
variable {κ : Type} [DecidableEq κ]
def valV (kvs : List (κ × V)) (k : κ) : Option V := (kvs.find? fun kv => decide (kv.1 = k)).map (·.2)
/-- in its place, or at the end -/
def putK (kvs : List (κ × V)) (k : κ) (v : V) : List (κ × V) :=
  if (kvs.any fun kv => decide (kv.1 = k)) = true then kvs.map (fun kv => if kv.1 = k then (kv.1, v) else kv) else kvs ++ [(k, v)]
def dropK (kvs : List (κ × V)) (k : κ) : List (κ × V) := kvs.filter fun kv => decide (kv.1 ≠ k)

theorem valV_nil {k : κ} : valV ([] : List (κ × V)) k = none := rfl
theorem valV_pos {p : κ × V} {r : List (κ × V)} {k : κ} (e : p.1 = k) : valV (p :: r) k = some p.2 := by simp [valV, List.find?_cons, e]
theorem valV_neg {p : κ × V} {r : List (κ × V)} {k : κ} (e : ¬ p.1 = k) : valV (p :: r) k = valV r k := by simp [valV, List.find?_cons, e]
theorem valV_any (k : κ) : ∀ kvs : List (κ × V), (kvs.any fun kv => decide (kv.1 = k)) = (valV kvs k).isSome
  | [] => rfl
  | p :: r => by
    rw [List.any_cons]
    by_cases e : p.1 = k
    · simp only [valV_pos e, decide_eq_true e, Bool.true_or, Option.isSome_some]
    · rw [valV_neg e, decide_eq_false e, Bool.false_or]; exact valV_any k r
theorem valV_map (k j : κ) (y : V) : ∀ kvs : List (κ × V), valV (kvs.map fun kv => if kv.1 = k then (kv.1, y) else kv) j = (valV kvs j).map fun x => if j = k then y else x
  | [] => rfl
  | p :: r => by
    have ih := valV_map k j y r
    rw [List.map_cons]
    by_cases h : p.1 = k
    · rw [if_pos h]
      by_cases e : p.1 = j
      · rw [valV_pos (p := (p.1, y)) e, valV_pos e, Option.map_some, if_pos (e.symm.trans h)]
      · rw [valV_neg (p := (p.1, y)) e, valV_neg e, ih]
    · rw [if_neg h]
      by_cases e : p.1 = j
      · rw [valV_pos (p := p) e, valV_pos e, Option.map_some, if_neg (fun z => h (e.trans z))]
      · rw [valV_neg (p := p) e, valV_neg e, ih]
theorem valV_snoc (k j : κ) (y : V) : ∀ kvs : List (κ × V), valV kvs k = none → valV (kvs ++ [(k, y)]) j = if j = k then some y else valV kvs j
  | [], _ => by
    by_cases e : k = j
    · rw [if_pos e.symm]; exact valV_pos (p := (k, y)) e
    · rw [if_neg (fun z => e z.symm)]; exact valV_neg (p := (k, y)) e
  | p :: r, hn => by
    rw [List.cons_append]
    have hk : ¬ p.1 = k := fun z => by rw [valV_pos z] at hn; cases hn
    rw [valV_neg hk] at hn
    have ih := valV_snoc k j y r hn
    by_cases e : p.1 = j
    · rw [valV_pos e, valV_pos e, if_neg (fun z => hk (e.trans z))]
    · rw [valV_neg e, valV_neg e, ih]
theorem valV_put (kvs : List (κ × V)) (k j : κ) (y : V) : valV (putK kvs k y) j = if j = k then some y else valV kvs j := by
  unfold putK
  by_cases a : (kvs.any fun kv => decide (kv.1 = k)) = true
  · rw [if_pos a, valV_map]
    rw [valV_any] at a
    by_cases e : j = k
    · obtain ⟨x, hx⟩ := Option.isSome_iff_exists.mp a
      rw [if_pos e, e, hx, Option.map_some, if_pos rfl]
    · rw [if_neg e]
      cases valV kvs j with
      | none => rfl
      | some x => rw [Option.map_some, if_neg e]
  · rw [if_neg a]
    refine valV_snoc k j y kvs ?_
    rw [valV_any] at a
    cases q : valV kvs k with
    | none => rfl
    | some x => rw [q] at a; exact (a rfl).elim
theorem length_putK (kvs : List (κ × V)) (k : κ) (v : V) : (putK kvs k v).length ≤ kvs.length + 1 := by
  unfold putK
  split
  · rw [List.length_map]; omega
  · rw [List.length_append, List.length_cons, List.length_nil]; omega
theorem putK_new {kvs : List (κ × V)} {k : κ} (v : V) (h : valV kvs k = none) : putK kvs k v = kvs ++ [(k, v)] := by
  unfold putK
  rw [valV_any, h]
  exact if_neg (by decide)

theorem RelO.isSome_eq {o : Option V} {u : Option Value} (r : RelO o u) : o.isSome = u.isSome := by
  cases o with
  | none => cases u with
    | none => rfl
    | some _ => exact (show False from r).elim
  | some _ => cases u with
    | none => exact (show False from r).elim
    | some _ => rfl
theorem RelO.getD {o : Option V} {u : Option Value} {d : V} {d' : Value} (r : RelO o u) (rd : RelV d d') : RelV (o.getD d) (u.getD d') := by
  cases o with
  | none => cases u with
    | none => exact rd
    | some _ => exact (show False from r).elim
  | some _ => cases u with
    | none => exact (show False from r).elim
    | some _ => exact r

/-- raw tables of the same keys -/
theorem KV.val {kvs : List (κ × V)} {vs : List (κ × Value)} (r : KV kvs vs) (k : κ) : RelO (valV kvs k) (valueAt vs k) := by
  unfold KV at r
  induction r with
  | nil => exact True.intro
  | @cons p q ps qs h t ih =>
    obtain ⟨h1, h2⟩ := h
    by_cases e : p.1 = k
    · have e' : q.1 = k := h1.symm.trans e
      have b : valueAt (q :: qs) k = some q.2 := by simp [valueAt, List.find?_cons, e']
      rw [valV_pos e, b]; exact h2
    · have e' : ¬ q.1 = k := fun z => e (h1.trans z)
      have b : valueAt (q :: qs) k = valueAt qs k := by simp [valueAt, List.find?_cons, e']
      rw [valV_neg e, b]; exact ih
theorem KV.any {kvs : List (κ × V)} {vs : List (κ × Value)} (r : KV kvs vs) (k : κ) : (kvs.any fun kv => decide (kv.1 = k)) = vs.any fun kv => decide (kv.1 = k) := by
  unfold KV at r
  induction r with
  | nil => rfl
  | cons h t ih => rw [List.any_cons, List.any_cons, ih, h.1]
theorem KV.repl {kvs : List (κ × V)} {vs : List (κ × Value)} (r : KV kvs vs) (k : κ) {y : V} {u : Value} (ry : RelV y u) :
    KV (kvs.map fun kv => if kv.1 = k then (kv.1, y) else kv) (vs.map fun kv => if kv.1 = k then (kv.1, u) else kv) := by
  unfold KV at r ⊢
  induction r with
  | nil => exact .nil
  | @cons p q ps qs h t ih =>
    rw [List.map_cons, List.map_cons]
    refine .cons ?_ ih
    obtain ⟨h1, h2⟩ := h
    by_cases e : p.1 = k
    · rw [if_pos e, if_pos (h1.symm.trans e)]; exact ⟨h1, ry⟩
    · rw [if_neg e, if_neg (fun z => e (h1.trans z))]; exact ⟨h1, h2⟩
theorem KV.put {kvs : List (κ × V)} {vs : List (κ × Value)} (r : KV kvs vs) (k : κ) {y : V} {u : Value} (ry : RelV y u) : KV (putK kvs k y) (stored vs k u) := by
  unfold putK stored
  rw [r.any k]
  by_cases e : (vs.any fun kv => decide (kv.1 = k)) = true
  · rw [if_pos e, if_pos e]; exact r.repl k ry
  · rw [if_neg e, if_neg e]; exact Paired.snoc r ⟨rfl, ry⟩
theorem KV.drop {kvs : List (κ × V)} {vs : List (κ × Value)} (r : KV kvs vs) (k : κ) : KV (dropK kvs k) (without vs k) := by
  unfold KV at r ⊢
  unfold dropK without
  induction r with
  | nil => exact .nil
  | @cons p q ps qs h t ih =>
    obtain ⟨h1, h2⟩ := h
    rw [List.filter_cons, List.filter_cons]
    by_cases e : p.1 = k
    · have a : ¬ decide (p.1 ≠ k) = true := by simp [e]
      have b : ¬ decide (q.1 ≠ k) = true := by simp [h1.symm.trans e]
      rw [if_neg a, if_neg b]; exact ih
    · have e' : ¬ q.1 = k := fun z => e (h1.trans z)
      have a : decide (p.1 ≠ k) = true := by simp [e]
      have b : decide (q.1 ≠ k) = true := by simp [e']
      rw [if_pos a, if_pos b]; exact .cons ⟨h1, h2⟩ ih
theorem KV.keys {kvs : List (κ × V)} {vs : List (κ × Value)} (r : KV kvs vs) : kvs.map (·.1) = vs.map (·.1) := by
  unfold KV at r
  induction r with
  | nil => rfl
  | cons h t ih => rw [List.map_cons, List.map_cons, ih, h.1]
theorem KV.length {kvs : List (κ × V)} {vs : List (κ × Value)} (r : KV kvs vs) : kvs.length = vs.length := Paired.length r
theorem dropK_le (kvs : List (κ × V)) (k : κ) : (dropK kvs k).length ≤ kvs.length := List.length_filter_le _ _
end


/-! ### a tracked dict, its keys ints and texts or tuples of these -/
theorem kV_is {P : Program} {w : World} {k : Key} {u : Value} (r : RelV (kV k) u) : (mixKind P w).is k u = true := by
  cases k with
  | inl i => obtain ⟨t, e⟩ := (show ∃ t, u = Value.int i t from r); subst e; exact mixKind_int P w i t
  | inr x => obtain ⟨t, e⟩ := (show ∃ t, u = Value.str x t from r); subst e; exact mixKind_str P w x t
theorem items_are {P : Program} {w : World} : ∀ {ks : List Key} {us : List Value}, Vals (ks.map kV) us → ItemsAre (mixKind P w) ks us
  | [], _, r => by rw [List.map_nil] at r; cases r; exact .nil
  | k :: ks, _, r => by
    rw [List.map_cons] at r
    cases r with
    | cons h t => exact .cons (kV_is h) (items_are t)

/-- raw entries of a dict with tuple keys -/
abbrev KT (H : Hp) : List (List Key × V) → List (List Key × Addr × Value) → Prop := Paired fun p q => p.1 = q.1 ∧ H q.2.1 = some (.tup (p.1.map kV)) ∧ RelV p.2 q.2.2
theorem KT.val {H : Hp} {kvs : List (List Key × V)} {xs : List (List Key × Addr × Value)} (r : KT H kvs xs) (k : List Key) : RelO (valV kvs k) ((atKey xs k).map (·.2)) := by
  induction r with
  | nil => exact True.intro
  | @cons p q ps qs h t ih =>
    obtain ⟨h1, _, h2⟩ := h
    by_cases e : p.1 = k
    · have e' : q.1 = k := h1.symm.trans e
      have b : atKey (q :: qs) k = some q.2 := by simp [atKey, List.find?_cons, e']
      rw [valV_pos e, b]; exact h2
    · have e' : ¬ q.1 = k := fun z => e (h1.trans z)
      have b : atKey (q :: qs) k = atKey qs k := by simp [atKey, List.find?_cons, e']
      rw [valV_neg e, b]; exact ih
theorem KT.repl {H : Hp} {kvs : List (List Key × V)} {xs : List (List Key × Addr × Value)} (r : KT H kvs xs) (k : List Key) {y : V} {u : Value} (ry : RelV y u) :
    KT H (kvs.map fun kv => if kv.1 = k then (kv.1, y) else kv) (xs.map (putAt k u)) := by
  induction r with
  | nil => exact .nil
  | @cons p q ps qs h t ih =>
    rw [List.map_cons, List.map_cons]
    refine .cons ?_ ih
    obtain ⟨h1, h2, h3⟩ := h
    unfold putAt
    by_cases e : p.1 = k
    · rw [if_pos e, if_pos (h1.symm.trans e)]; exact ⟨h1, h2, ry⟩
    · rw [if_neg e, if_neg (fun z => e (h1.trans z))]; exact ⟨h1, h2, h3⟩
theorem KT.put {H : Hp} {kvs : List (List Key × V)} {xs : List (List Key × Addr × Value)} (r : KT H kvs xs) (k : List Key) {b : Addr} {y : V} {u : Value} (hb : H b = some (.tup (k.map kV))) (ry : RelV y u) :
    KT H (putK kvs k y) (storedH xs k b u) := by
  have e : (kvs.any fun kv => decide (kv.1 = k)) = (atKey xs k).isSome := by
    rw [valV_any, (r.val k).isSome_eq, Option.isSome_map]
  unfold putK storedH
  rw [e]
  by_cases q : (atKey xs k).isSome = true
  · rw [if_pos q, if_pos q]; exact r.repl k ry
  · rw [if_neg q, if_neg q]; exact Paired.snoc r ⟨rfl, hb, ry⟩
theorem KT.keeps {H H' : Hp} {kvs : List (List Key × V)} {xs : List (List Key × Addr × Value)} (r : KT H kvs xs) (ht : ∀ b ys, H b = some (.tup ys) → H' b = some (.tup ys)) : KT H' kvs xs :=
  Paired.mapP r fun _ _ z => ⟨z.1, ht _ _ z.2.1, z.2.2⟩

section
variable {P : Program} {w : World} {H : Hp} {h : Heap} {a : Addr}
theorem rd_of {u : HO} (ok : HOk P w H h) (e : Rd H a u) : ObjOk P w H h a u := e.ok ok
theorem dk_rd {kvs : List (Key × V)} (ok : HOk P w H h) (e : Rd H a (.dK kvs)) : kvs.length ≤ sizeLine ∧ (a == sysModules) = false ∧ ∃ vs, KV kvs vs ∧ h.DictOf (mixKind P w) a vs :=
  show ObjOk P w H h a (.dK kvs) from rd_of ok e
theorem dk_of {kvs : List (Key × V)} (ok : HOk P w H h) (e : H a = some (.dK kvs)) : kvs.length ≤ sizeLine ∧ (a == sysModules) = false ∧ ∃ vs, KV kvs vs ∧ h.DictOf (mixKind P w) a vs := dk_rd ok (.inl e)
/-- a tracked tuple of ints and texts is a key -/
theorem key_of {ks : List Key} (ok : HOk P w H h) (e : H a = some (.tup (ks.map kV))) : (tupleKind (mixKind P w)).is h ks a := by
  obtain ⟨_, its, r, o, h1, h2, n, h3⟩ := (show ObjOk P w H h a (.tup (ks.map kV)) from ok a _ e)
  exact ⟨o, its.toArray, n, h1, h2, h3, by simpa using items_are r⟩
theorem dt_rd {kvs : List (List Key × V)} (ok : HOk P w H h) (e : Rd H a (.dT kvs)) : kvs.length ≤ sizeLine ∧ (a == sysModules) = false ∧
    ∃ xs, KT H kvs xs ∧ h.DictOfH (tupleKind (mixKind P w)) a xs := by
  obtain ⟨z, y, xs, r, o, es, ep, h1, h2, h3, h4, h5⟩ := (show ObjOk P w H h a (.dT kvs) from rd_of ok e)
  refine ⟨z, y, xs, r, o, es, ep, h1, h2, h3, h4, fun x hx => ?_, h5⟩
  have all : ∀ {l : List (List Key × V)} {m : List (List Key × Addr × Value)}, KT H l m → ∀ x ∈ m, (tupleKind (mixKind P w)).is h x.1 x.2.1 := by
    intro l m q
    induction q with
    | nil => intro x hx; exact nomatch hx
    | @cons p q ps qs hq t ih =>
      intro x hx
      rcases List.mem_cons.mp hx with e | hx
      · subst e
        exact key_of ok (by rw [← hq.1]; exact hq.2.1)
      · exact ih x hx
  exact all r x hx
theorem dt_of {kvs : List (List Key × V)} (ok : HOk P w H h) (e : H a = some (.dT kvs)) : kvs.length ≤ sizeLine ∧ (a == sysModules) = false ∧
    ∃ xs, KT H kvs xs ∧ h.DictOfH (tupleKind (mixKind P w)) a xs := dt_rd ok (.inl e)
end

/-- what the dict at a holds at the key y -/
def DGet (H : Hp) (a : Addr) (y : V) (r : Option V) : Prop :=
  (∃ kvs k, Rd H a (.dK kvs) ∧ y = kV k ∧ r = valV kvs k) ∨ ∃ kvs k b, Rd H a (.dT kvs) ∧ y = .ref b ∧ H b = some (.tup (k.map kV)) ∧ r = valV kvs k
/-- the heap behind a[y] = v -/
def DPut (H : Hp) (a : Addr) (y v : V) (H' : Hp) : Prop :=
  (∃ kvs k, H a = some (.dK kvs) ∧ y = kV k ∧ kvs.length < sizeLine ∧ H' = upd H a (.dK (putK kvs k v))) ∨
  ∃ kvs k b, H a = some (.dT kvs) ∧ y = .ref b ∧ H b = some (.tup (k.map kV)) ∧ kvs.length < sizeLine ∧ H' = upd H a (.dT (putK kvs k v))
theorem DGet.k {H : Hp} {a : Addr} {kvs : List (Key × V)} {k : Key} (e : H a = some (.dK kvs)) : DGet H a (kV k) (valV kvs k) := .inl ⟨kvs, k, .inl e, rfl, rfl⟩
theorem DGet.t {H : Hp} {a b : Addr} {kvs : List (List Key × V)} {k : List Key} (e : H a = some (.dT kvs)) (eb : H b = some (.tup (k.map kV))) : DGet H a (.ref b) (valV kvs k) := .inr ⟨kvs, k, b, .inl e, rfl, eb, rfl⟩
theorem DPut.k {H : Hp} {a : Addr} {kvs : List (Key × V)} {k : Key} {v : V} (e : H a = some (.dK kvs)) (hl : kvs.length < sizeLine) : DPut H a (kV k) v (upd H a (.dK (putK kvs k v))) := .inl ⟨kvs, k, e, rfl, hl, rfl⟩
theorem DPut.t {H : Hp} {a b : Addr} {kvs : List (List Key × V)} {k : List Key} {v : V} (e : H a = some (.dT kvs)) (eb : H b = some (.tup (k.map kV))) (hl : kvs.length < sizeLine) :
    DPut H a (.ref b) v (upd H a (.dT (putK kvs k v))) := .inr ⟨kvs, k, b, e, rfl, eb, hl, rfl⟩


section
variable {X : Cx} {pins : List (Addr × Obj)} {σ : St} {H : Hp} {s : Shared} {a : Addr} {y v : V} {u r : Value} {o : Option V} {A : Around} {E : Value → Shared → Prop}

theorem Inv.big (I : Inv X pins σ H s) : sysModules < s.heap.objs.size := by
  have h : mainGlobals < s.heap.objs.size := (I.mod.glob.keeps I.bk).lt
  exact Nat.lt_trans (by decide) h

/-- d[y], there -/
theorem d_getItem {Q : Value → Shared → Prop} (hu : A.units + 1 < cLine) (I : Inv X pins σ H s) (g : DGet H a y (some v)) (ry : RelV y u) (h : ∀ w' s', Inv X pins σ H s' → RelV v w' → Q w' s') :
    wpAny (model X.prog X.w) A (getItem (.ref a) u) Q E s := by
  rcases g with ⟨kvs, k, e, ey, l⟩ | ⟨kvs, k, b, e, ey, eb, l⟩
  · subst ey
    obtain ⟨z, hd, vs, rel, dd⟩ := dk_rd I.hok e
    obtain ⟨w', hw, rw'⟩ := RelO.some_of (v := v) (o := valueAt vs k) (by rw [l]; exact rel.val k)
    exact wpAny_getItem_of (kV_is ry) dd.mapOf hw (h w' _ (I.tok _) rw')
  · subst ey
    cases (show u = Value.ref b from ry)
    obtain ⟨z, hd, xs, rel, dd⟩ := dt_rd I.hok e
    obtain ⟨w', hw, rw'⟩ := RelO.some_of (v := v) (o := (atKey xs k).map (·.2)) (by rw [l]; exact rel.val k)
    obtain ⟨p, hp, hp2⟩ := Option.map_eq_some_iff.mp hw
    refine wpAny_getItem_heap (tupleKind_room_in1 hu) (key_of I.hok eb) dd hp ?_
    rw [hp2]
    exact h w' _ (I.tok _) rw'
/-- a dict's object is replaced -/
theorem d_write {h' : Heap} {t' : Nat} {ob : HO} (I : Inv X pins σ H s) (mu : Mut (H a)) (hs : Heap.SameBut a s.heap h') (he : ∃ q, h'.get? a = some q) (new : ObjOk X.prog X.w (upd H a ob) h' a ob) :
    Inv X pins σ (upd H a ob) { s with heap := h', toks := t' } :=
  I.write (x := a) (e := a) mu (.inl rfl) (fun b q hb z => (hs.2 b hb).trans z) he new
theorem dk_new {P : Program} {w : World} {H' : Hp} {h' : Heap} {kvs : List (Key × V)} {vs : List (Key × Value)} (z : kvs.length ≤ sizeLine) (hd : (a == sysModules) = false) (rel : KV kvs vs) (dd : h'.DictOf (mixKind P w) a vs) :
    ObjOk P w H' h' a (.dK kvs) := ⟨z, hd, vs, rel, dd⟩
/-- d[y] = v -/
theorem d_setItem {H' : Hp} {Q : Unit → Shared → Prop} (hu : A.units + 1 < cLine) (I : Inv X pins σ H s) (g : DPut H a y v H') (ry : RelV y u) (rv : RelV v r) (h : ∀ s', Inv X pins σ H' s' → Q () s') :
    wpAny (model X.prog X.w) A (setItem (.ref a) u r) Q E s := by
  rcases g with ⟨kvs, k, e, ey, l, eH⟩ | ⟨kvs, k, b, e, ey, eb, l, eH⟩
  · subst ey eH
    obtain ⟨z, hd, vs, rel, dd⟩ := dk_of I.hok e
    have hz : vs.length ≤ sizeLine := by rw [← rel.length]; exact z
    have hl : (putK kvs k v).length ≤ sizeLine := by have := length_putK kvs k v; omega
    refine wpAny_setItem_pairs (hsz := hz) (kV_is ry) dd fun h' dd' hs => h _ ?_
    have he : ∃ q, h'.get? a = some q := let ⟨q, _, _, hq, _⟩ := dd'; ⟨q, hq⟩
    exact d_write I (by rw [e]; exact True.intro) hs he (dk_new hl hd (rel.put k rv) dd')
  · subst ey eH
    cases (show u = Value.ref b from ry)
    obtain ⟨z, hd, xs, rel, dd⟩ := dt_of I.hok e
    have hz : xs.length ≤ sizeLine := by rw [← Paired.length rel]; exact z
    have hl : (putK kvs k v).length ≤ sizeLine := by have := length_putK kvs k v; omega
    refine wpAny_setItem_heap (hsz := hz) (tupleKind_room_in1 hu) (key_of I.hok eb) dd fun h' dd' hs => h _ ?_
    obtain ⟨q, es, ep, hq, h2, h3, h4, _, h5⟩ := dd'
    refine d_write I (by rw [e]; exact True.intro) hs ⟨q, hq⟩ ⟨hl, hd, _, (rel.put k eb rv).keeps fun c ys ec => ?_, q, es, ep, hq, h2, h3, h4, h5⟩
    rw [upd_ne (ne_of ec e (fun z => nomatch z))]
    exact ec
end

section
variable {X : Cx} {pins : List (Addr × Obj)} {σ : St} {H : Hp} {s : Shared} {a : Addr} {kvs : List (Key × V)} {k : Key} {u : Value} {A : Around} {E : Value → Shared → Prop}
/-- d.pop(k[, x]), there -/
theorem d_pop {v : V} {more : List Value} {Q : Value → Shared → Prop} (I : Inv X pins σ H s) (e : H a = some (.dK kvs)) (ry : RelV (kV k) u) (l : valV kvs k = some v) (hm : more = [] ∨ ∃ x, more = [x])
    (h : ∀ w' s', Inv X pins σ (upd H a (.dK (dropK kvs k))) s' → RelV v w' → Q w' s') : wpAny (model X.prog X.w) A (call (.builtin "dict.pop") (.ref a :: u :: more)) Q E s := by
  obtain ⟨z, hd, vs, rel, dd⟩ := dk_of I.hok e
  obtain ⟨w', hw, rw'⟩ := RelO.some_of (v := v) (o := valueAt vs k) (by rw [← l]; exact rel.val k)
  have hp : (keyPart u).isSome = true := by
    cases k with
    | inl i => obtain ⟨t, q⟩ := (show ∃ t, u = Value.int i t from ry); subst q; rfl
    | inr x => obtain ⟨t, q⟩ := (show ∃ t, u = Value.str x t from ry); subst q; rfl
  have ha : argsOk "dict.pop" ⟨.ref a :: u :: more, []⟩ := by
    rcases hm with q | ⟨x, q⟩
    · subst q; exact PySem.F.args_dict_pop_2 _ _
    · subst q; exact PySem.F.args_dict_pop_3 _ _ _
  refine call_meetsIn PySem.F.slot_dict_pop dd.typeIs PySem.F.entry_dict_pop ha (meets_dict_pop_there (mixKind X.prog X.w) a (kV_is ry) more hm hp)
    ⟨vs, w', dd, by rw [← rel.length]; exact z, hw, fun h' dd' hs => h w' _ ?_ rw'⟩
  have he : ∃ q, h'.get? a = some q := let ⟨q, _, _, hq, _⟩ := dd'; ⟨q, hq⟩
  exact d_write I (by rw [e]; exact True.intro) hs he (dk_new (Nat.le_trans (dropK_le kvs k) z) hd (rel.drop k) dd')
/-- len(d) -/
theorem d_len {Q : Value → Shared → Prop} (I : Inv X pins σ H s) (e : Rd H a (.dK kvs)) (h : ∀ t s', Inv X pins σ H s' → Q (.int kvs.length t) s') : wpAny (model X.prog X.w) A (call (.builtin "len") [.ref a]) Q E s := by
  obtain ⟨z, hd, vs, rel, dd⟩ := dk_rd I.hok e
  refine call_len_dict hd dd (by rw [← rel.length]; rw [sizeLine_eq] at z; omega) ?_
  rw [← rel.length]
  exact h _ _ (I.tok _)
end


/-! ### readings and rules -/
theorem dict_typeIs {X : Cx} {pins : List (Addr × Obj)} {σ : St} {H : Hp} {s : Shared} {a : Addr} {y : V} {o : Option V} (I : Inv X pins σ H s) (g : DGet H a y o) : s.TypeIs (.ref a) "dict" := by
  rcases g with ⟨kvs, k, e, _, _⟩ | ⟨kvs, k, b, e, _, _, _⟩
  · obtain ⟨_, _, vs, _, dd⟩ := dk_rd I.hok e
    exact dd.typeIs
  · obtain ⟨_, _, xs, _, dd⟩ := dt_rd I.hok e
    exact dd.typeIs
/-- d[y] -/
def tDGet (td ty : TE) : TE := fun σ H Q => td σ H fun x H1 => ty σ H1 fun y H2 => ∃ a v, x = .ref a ∧ DGet H2 a y (some v) ∧ Q v H2
/-- d[y] = v -/
def sDPut (td ty tv : TE) : TS := fun D σ H => tv σ H fun v H1 => td σ H1 fun x H2 => ty σ H2 fun y H3 => ∃ a H4, x = .ref a ∧ DPut H3 a y v H4 ∧ D.nx σ H4
section
variable {X : Cx} {o i e value : Expr} {pos pos' tpos : Pos} {td ty tv : TE}
end


/-! ### displays -/
theorem dk_empty {P : Program} {w : World} {H : Hp} (h : Heap) (hb : sysModules < h.objs.size) : ObjOk P w H (h.push { cls := .type "dict", data := .dict #[] }) h.objs.size (.dK []) :=
  ⟨Nat.zero_le _, beq_eq_false_iff_ne.mpr (Ne.symm (Nat.ne_of_lt hb)), [], .nil, Heap.DictOf.new h⟩
/-- {}, to be a dict of the kind that is wanted -/
def tDNewK : TE := fun _ H Q => ∀ p, H p = none → Q (.ref p) (upd H p (.dK []))
section
variable {X : Cx} {pos : Pos}
theorem pe_dnewK : PE X (.Dict [] [] pos) tDNewK := fun pins s σ H Q I h =>
  wpAny_Dict_empty ⟨.ref s.heap.objs.size, _, I.laid (a := s.heap.objs.size) (o := .dK []) (t' := s.toks) (fun _ _ q => Heap.get?_push_of_some _ q) (Nat.le_refl _) (dk_empty s.heap I.big), rfl, h _ (I.hok.fresh (Nat.le_refl _))⟩
end

/-- the pairs of a display, from the left -/
def tPairs : List (TE × TE) → St → Hp → (List (V × V) → Hp → Prop) → Prop
  | [], _, H, Q => Q [] H
  | (tk, tv) :: r, σ, H, Q => tk σ H fun x H1 => tv σ H1 fun y H2 => tPairs r σ H2 fun ps H3 => Q ((x, y) :: ps) H3
def mergeK (kvs more : List (Key × V)) : List (Key × V) := more.foldl (fun acc kv => putK acc kv.1 kv.2) kvs
/-- {k: v, ..} with keys ints and texts; the new dict stands empty while the pairs are made -/
def tDisp (trs : List (TE × TE)) : TE := fun σ H Q => ∀ p, H p = none → tPairs trs σ (upd H p (.dK [])) fun ps H2 => H2 p = some (.dK []) ∧ ∃ kvs : List (Key × V), ps = kvs.map (fun kv => (kV kv.1, kv.2)) ∧ kvs.length ≤ 15 ∧ Q (.ref p) (upd H2 p (.dK (mergeK [] kvs)))
/-! ### methods -/
/-- a method call o.m(e) of a built-in, with one argument: what must be seen of the text -/
structure M1 (X : Cx) (o : Expr) (m : Str) (apos : Pos) (e : Expr) (cpos : Pos) : Prop where
  base : attributeBase o m X.env (eval o X.env) = eval o X.env
  few : ((backTo cpos (starEach [e] X.env)).all (fun x => !x.1) && (backToKw cpos (keywordEach [] X.env)).all (fun x => x.1.isSome)
    && decide (([e] : List Expr).length + ([] : List Keyword).length + (if ([] : List Keyword).isEmpty then 0 else 1) < 30)) = true
  line : (apos.endLine == cpos.line) = true
  trees : backTo cpos (starEach [e] X.env) = [(false, eval e X.env)]
structure M2 (X : Cx) (o : Expr) (m : Str) (apos : Pos) (e f : Expr) (cpos : Pos) : Prop where
  base : attributeBase o m X.env (eval o X.env) = eval o X.env
  few : ((backTo cpos (starEach [e, f] X.env)).all (fun x => !x.1) && (backToKw cpos (keywordEach [] X.env)).all (fun x => x.1.isSome)
    && decide (([e, f] : List Expr).length + ([] : List Keyword).length + (if ([] : List Keyword).isEmpty then 0 else 1) < 30)) = true
  line : (apos.endLine == cpos.line) = true
  trees : backTo cpos (starEach [e, f] X.env) = [(false, eval e X.env), (false, eval f X.env)]

/-- a is a dict, whatever its keys -/
def IsD (H : Hp) (a : Addr) : Prop := (∃ kvs, Rd H a (.dK kvs)) ∨ ∃ kvs, Rd H a (.dT kvs)
theorem isD_at {X : Cx} {pins : List (Addr × Obj)} {σ : St} {H : Hp} {s : Shared} {a : Addr} (I : Inv X pins σ H s) (d : IsD H a) :
    s.TypeIs (.ref a) "dict" ∧ (∀ b, Value.ref a = .ref b → ∃ ob, s.heap.get? b = some ob ∧ ob.dict = none) ∧ (a == sysModules) = false := by
  rcases d with ⟨kvs, e⟩ | ⟨kvs, e⟩
  · obtain ⟨_, hd, vs, _, dd⟩ := dk_rd I.hok e
    refine ⟨dd.typeIs, fun b q => ?_, hd⟩
    cases q
    obtain ⟨ob, _, _, h1, h2, _⟩ := dd
    exact ⟨ob, h1, h2.2.1⟩
  · obtain ⟨_, hd, xs, _, dd⟩ := dt_rd I.hok e
    refine ⟨dd.typeIs, fun b q => ?_, hd⟩
    cases q
    obtain ⟨ob, _, _, h1, h2, _⟩ := dd
    exact ⟨ob, h1, h2.2.1⟩

section
variable {X : Cx} {pins : List (Addr × Obj)} {σ : St} {H : Hp} {s : Shared} {a : Addr} {y d : V} {u r : Value} {o : Option V} {A : Around} {E : Value → Shared → Prop}
/-- d.get(y, x) -/
theorem d_get2 {Q : Value → Shared → Prop} (hu : A.units + 1 < cLine) (I : Inv X pins σ H s) (g : DGet H a y o) (ry : RelV y u) (rd : RelV d r) (h : ∀ w' s', Inv X pins σ H s' → RelV (o.getD d) w' → Q w' s') :
    wpAny (model X.prog X.w) A (call (.builtin "dict.get") [.ref a, u, r]) Q E s := by
  rcases g with ⟨kvs, k, e, ey, l⟩ | ⟨kvs, k, b, e, ey, eb, l⟩
  · subst ey
    obtain ⟨z, hd, vs, rel, dd⟩ := dk_rd I.hok e
    refine call_meetsIn PySem.F.slot_dict_get dd.typeIs PySem.F.entry_dict_get (PySem.F.args_dict_get_3 _ _ _) (meets_dict_get_default (mixKind X.prog X.w) a (kV_is ry) hd r) ⟨_, dd.mapOf, h _ _ (I.tok _) ?_⟩
    rw [l]
    exact (rel.val k).getD rd
  · subst ey
    cases (show u = Value.ref b from ry)
    obtain ⟨z, hd, xs, rel, dd⟩ := dt_rd I.hok e
    refine call_meetsIn PySem.F.slot_dict_get dd.typeIs PySem.F.entry_dict_get (PySem.F.args_dict_get_3 _ _ _) (meetsH_dict_get_default (tupleKind (mixKind X.prog X.w)) a b hd r) ⟨tupleKind_room_in1 hu, k, xs, key_of I.hok eb, dd, h _ _ (I.tok _) ?_⟩
    rw [l]
    exact (rel.val k).getD rd
end

section
variable {X : Cx} {o e f : Expr} {apos cpos : Pos} {td ty tx : TE}
end

/-! ### dict(d): a copy -/
section
variable {X : Cx} {pins : List (Addr × Obj)} {σ : St} {H : Hp} {s : Shared} {a : Addr} {kvs : List (Key × V)} {A : Around} {E : Value → Shared → Prop}
end


section
variable {X : Cx} {pins : List (Addr × Obj)} {σ : St} {H : Hp} {s : Shared} {a : Addr} {y : V} {u : Value} {A : Around} {E : Value → Shared → Prop}
end
end L2

namespace L2
open PySem PySem.Spec PyProof.Rows
/-! ### a dict's pairs: keys that differ -/
section
variable {κ : Type} [DecidableEq κ]
theorem dropK_pos {p : κ × V} {r : List (κ × V)} {k : κ} (e : p.1 = k) : dropK (p :: r) k = dropK r k := by
  unfold dropK
  rw [List.filter_cons, if_neg (by simp [e])]
theorem dropK_neg {p : κ × V} {r : List (κ × V)} {k : κ} (e : ¬ p.1 = k) : dropK (p :: r) k = p :: dropK r k := by
  unfold dropK
  rw [List.filter_cons, if_pos (by simp [e])]
end
end L2
/-! A list comprehension in the hand layer: one clause, any target, any tests. -/
namespace L2
open PySem PySem.Spec PyProof.Rows

section
variable {prog : Program} {w : World} {A : Around} {R : Result → Shared → Prop} {s : Shared}
abbrev testsOf (ifs : List Expr) (env : Env) : Sem Bool :=
  forIn ifs true fun c r => if r = true then do let ok ← isTrue c env (eval c env); pure (ForInStep.yield ok) else pure (ForInStep.yield r)

theorem compLoop_gen {elt target iter : Expr} {ifs : List Expr} {scope : Scope} {pos : Pos} {it acc : Value} {env : Env} {nE : Value → Shared → Prop} (hE : nE = notedBy (model prog w) A env fun e s' => R (.error e) s') (I : Nat → Shared → Prop)
    (turn : ∀ n s, I n s → wpAny (model prog w) A (pyNext it) (fun r s1 => match r with
      | none => R (.ok .next) s1
      | some v => wpAny (model prog w) A (letOwnedTupleGo target it v) (fun _ s1b => wpAny (model prog w) A (assign target env v) (fun _ s2 =>
          wpAny (model prog w) A (testsOf ifs env) (fun ok s3 =>
            if ok = true then wpAny (model prog w) A (eval elt env) (fun x s4 =>
              wpAny (model prog w) A (call (.builtin "list.append") [acc, x]) (fun _ s5 => ∃ m, m < n ∧ I m s5) nE s4) nE s3
            else ∃ m, m < n ∧ I m s3) nE s2) nE s1b) nE s1) nE s)
    (n : Nat) (h : I n s) :
    codeAny (model prog w) A (.compLoop (.ListComp elt [⟨target, iter, ifs, 0⟩] scope pos) 0 it acc env) R s := by
  subst hE
  refine codeAny_loop rfl I (fun n s hI => ?_) n h
  show wpAny _ A ((compTurn (.ListComp elt [⟨target, iter, ifs, 0⟩] scope pos) 0 it acc env).onRaise (fun x => do noteFrame x env; theTreesLotGoes x)) _ _ s
  refine wpAny_noted ?_
  rw [compTurn_list]
  refine wpAny_bind (wpAny_standAt (wpAny_bind (wpAny_mono (turn n s hI) (fun r s1 h1 => ?_) fun _ _ h' => h')))
  cases r with
  | none => exact wpAny_pure h1
  | some v =>
    refine wpAny_bind (wpAny_mono h1 (fun _ s1b h1b => ?_) fun _ _ h' => h')
    refine wpAny_bind (wpAny_mono h1b (fun _ s2 h2 => wpAny_bind (wpAny_mono h2 (fun ok s3 h3 => ?_) fun _ _ h' => h')) fun _ _ h' => h')
    cases ok with
    | false => exact wpAny_pure ⟨rfl, h3⟩
    | true =>
      exact wpAny_bind (wpAny_bind (wpAny_mono h3 (fun x s4 h4 => wpAny_bind (wpAny_mono h4 (fun _ s5 h5 => wpAny_pure (wpAny_pure ⟨rfl, h5⟩)) fun _ _ h' => h')) fun _ _ h' => h'))
end

/-! ### the block's cells -/
def clOf (cells : List (Str × Addr)) : List (Str × NameKind) → List (Str × Addr) → List (Str × Addr)
  | [], acc => acc
  | (n, k) :: r, acc => clOf cells r (if k == NameKind.free then (n, (cells.lookup n).getD 0) :: acc else acc)

theorem closure_forIn (env : Env) : ∀ (names : List (Str × NameKind)) (acc : List (Str × Addr)), (∀ y ∈ names, y.2 = .free → ∃ c, env.cells.lookup y.1 = some c) →
    (forIn names acc fun x (r : List (Str × Addr)) => match x with
      | (name, kind) => if (kind == NameKind.free) = true then (do let a ← cellOf env name; pure (ForInStep.yield ((name, a) :: r))) else pure (ForInStep.yield r) : Sem (List (Str × Addr))) = pure (clOf env.cells names acc)
  | [], acc, _ => by simp [clOf]
  | (n, k) :: r, acc, h => by
    have ih := fun acc => closure_forIn env r acc fun y hy => h y (List.mem_cons_of_mem _ hy)
    rw [List.forIn_cons]
    unfold clOf
    by_cases hk : k = .free
    · subst hk
      obtain ⟨c, e⟩ := h (n, .free) List.mem_cons_self rfl
      simp only [beq_self_eq_true, if_true, cellOf, e, Option.getD_some, pure_bind]
      exact ih _
    · have hb : (k == NameKind.free) = false := by simpa using hk
      simp only [hb, Bool.false_eq_true, if_false, pure_bind]
      exact ih _

theorem closureFor_eq {scope : Scope} {env : Env} (h : ∀ y ∈ scope.names, y.2 = .free → ∃ c, env.cells.lookup y.1 = some c) : closureFor scope env = pure (clOf env.cells scope.names []) := by
  have e := closure_forIn env scope.names [] h
  unfold closureFor
  first
    | (rw [e]; rfl)
    | (simp only [bind_pure]; exact e)
    | (show (_ >>= _) = _; rw [e]; rfl)

theorem clOf_lookup {cells : List (Str × Addr)} {x : Str} {c : Addr} : ∀ (names : List (Str × NameKind)) (acc : List (Str × Addr)), (∀ y ∈ names, y.2 = .free → ∃ c, cells.lookup y.1 = some c) →
    (∀ d, acc.lookup x = some d → cells.lookup x = some d) → (clOf cells names acc).lookup x = some c → cells.lookup x = some c
  | [], acc, _, ha, e => ha c e
  | (n, k) :: r, acc, h, ha, e => by
    unfold clOf at e
    refine clOf_lookup r _ (fun y hy => h y (List.mem_cons_of_mem _ hy)) (fun d hd => ?_) e
    by_cases hk : k = .free
    · subst hk
      obtain ⟨c', e'⟩ := h (n, .free) List.mem_cons_self rfl
      have e2 : cells.lookup n = some c' := e'
      rw [if_pos (beq_self_eq_true _), e2] at hd
      cases hx : x == n with
      | true =>
        have : x = n := eq_of_beq hx
        subst this
        simp only [List.lookup_cons, hx, Option.getD_some] at hd
        rw [e2]
        exact hd
      | false =>
        simp only [List.lookup_cons, hx] at hd
        exact ha d hd
    · have hb : ¬ (k == NameKind.free) = true := by simpa using hk
      rw [if_neg hb] at hd
      exact ha d hd

theorem clOf_keeps {cells : List (Str × Addr)} {x : Str} : ∀ (names : List (Str × NameKind)) (acc : List (Str × Addr)), (acc.lookup x).isSome = true → ((clOf cells names acc).lookup x).isSome = true
  | [], _, h => h
  | (n, k) :: r, acc, h => by
    unfold clOf
    refine clOf_keeps r _ ?_
    by_cases hk : (k == NameKind.free) = true
    · rw [if_pos hk]
      cases hx : x == n with
      | true => simp only [List.lookup_cons, hx, Option.isSome_some]
      | false => simp only [List.lookup_cons, hx]; exact h
    · rw [if_neg hk]; exact h

theorem clOf_has {cells : List (Str × Addr)} {x : Str} : ∀ (names : List (Str × NameKind)) (acc : List (Str × Addr)), (x, NameKind.free) ∈ names → ((clOf cells names acc).lookup x).isSome = true
  | (n, k) :: r, acc, h => by
    unfold clOf
    rcases List.mem_cons.mp h with e | h
    · cases e
      refine clOf_keeps r _ ?_
      rw [if_pos (beq_self_eq_true _)]
      simp only [List.lookup_cons, beq_self_eq_true, Option.isSome_some]
    · exact clOf_has r _ h

theorem relab_lookup {env : Env} (x : Str) : ∀ names : List (Str × NameKind),
    (names.map fun (n, k) => if (k == NameKind.free && env.scope.kind == .function && env.kindOf n == some .cell) then (n, NameKind.cell) else (n, k)).lookup x =
      (names.lookup x).map fun k => if (k == NameKind.free && env.scope.kind == .function && env.kindOf x == some .cell) then NameKind.cell else k
  | [] => rfl
  | (n, k) :: r => by
    have ih := relab_lookup (env := env) x r
    rw [List.map_cons]
    cases hx : x == n with
    | true =>
      have : x = n := eq_of_beq hx
      subst this
      show List.lookup x ((if (k == NameKind.free && env.scope.kind == .function && env.kindOf x == some .cell) = true then (x, NameKind.cell) else (x, k)) :: _) = _
      by_cases hc : (k == NameKind.free && env.scope.kind == .function && env.kindOf x == some .cell) = true
      · rw [if_pos hc]; simp only [List.lookup_cons, hx, Option.map_some]; rw [if_pos hc]
      · rw [if_neg hc]; simp only [List.lookup_cons, hx, Option.map_some]; rw [if_neg hc]
    | false =>
      show List.lookup x ((if (k == NameKind.free && env.scope.kind == .function && env.kindOf n == some .cell) = true then (n, NameKind.cell) else (n, k)) :: _) = _
      by_cases hc : (k == NameKind.free && env.scope.kind == .function && env.kindOf n == some .cell) = true
      · rw [if_pos hc]; simp only [List.lookup_cons, hx]; exact ih
      · rw [if_neg hc]; simp only [List.lookup_cons, hx]; exact ih

/-- what is asked of the block's names: own are the clause's, caps are captured -/
structure CScope (own caps : List Str) (scope osc : Scope) : Prop where
  kind : scope.kind = .function
  nocell : ∀ y ∈ scope.names, y.2 ≠ .cell
  loc : ∀ y ∈ scope.names, y.2 = .local → scope.names.lookup y.1 = some .local
  fr : ∀ y ∈ scope.names, y.2 = .free → osc.names.lookup y.1 = some .cell ∨ osc.names.lookup y.1 = some .free
  cap : ∀ x ∈ caps, scope.names.lookup x = some .free
  nd : (own ++ caps).Nodup

/-- the block's context -/
def cxC (X : Cx) (scope : Scope) (N' : List Str) (C : Addr) (fp : List Addr) (s : Shared) (H : Hp) : Cx where
  prog := X.prog
  w := X.w
  K := X.K
  mg := X.mg
  base := X.base
  A := X.A
  N := N'
  s₀ := s
  H₀ := H
  env := compEnvC scope (clOf X.env.cells scope.names []) C X.env
  outer := X.stack
  stack := X.stack
  ex := fp
  fn := fun _ => false
  calm := X.calm
  pn := X.pn
  xe := fun _ _ => False

/-- the block's slots: own ones unset, captured ones as they stand -/
def cSt (n : Nat) (js : List Nat) (σ : St) : St := List.replicate n none ++ js.map fun j => (σ[j]?).join

/-- the tests of a clause -/
def PF (X : Cx) (ifs : List Expr) (t : TT) : Prop :=
  ∀ (pins : List (Addr × Obj)) (s : Shared) (σ : St) (H : Hp) (Q : Bool → Hp → Prop), Inv X pins σ H s → t σ H Q → wpAny (model X.prog X.w) X.A (testsOf ifs X.env) (TP X pins σ Q) X.xe s
def tYes : TT := fun _ H Q => Q true H
theorem pf_nil {X : Cx} : PF X [] tYes := fun pins s σ H Q I h => by
  show wpAny _ _ (forIn [] true _) _ _ s
  rw [List.forIn_nil]
  exact wpAny_pure ⟨H, I, h⟩
/-- W: the invariant by the turn, a measure, what was gathered; D: where it is gathered -/
def tComp (n : Nat) (js : List Nat) (wi : TI) (g : TG) (tc : TT) (te : TE) : TE := fun σ H Q => wi σ H fun J H1 => ∀ D, H1 D = none → ∃ W : Nat → Nat → List V → Hp → Prop, (∃ m, W 0 m [] (upd H1 D (.lst []))) ∧ ∀ i m acc H, W i m acc H →
  H D = some (.lst acc) ∧ ((J.stop i H ∧ Q (.ref D) H) ∨ (J.go i H ∧ acc.length < sizeLine ∧ ∃ Nx : List V → Hp → Prop, (∀ acc' H', Nx acc' H' → ∃ m', m' < m ∧ W (i + 1) m' acc' H') ∧
    ∀ x H', J.yld i H x H' → g x (cSt n js σ) H' fun σ2 H2 => σ2.drop n = (cSt n js σ).drop n ∧ tc σ2 H2 fun b H3 => if b = true then te σ2 H3 fun v H4 => H4 D = some (.lst acc) ∧ Nx (acc ++ [v]) (upd H4 D (.lst (acc ++ [v]))) else H3 D = some (.lst acc) ∧ Nx acc H3))

section
variable {X : Cx} {pins : List (Addr × Obj)} {σ : St} {H : Hp} {s : Shared}

abbrev capN (X : Cx) (js : List Nat) : List Str := js.map fun j => (X.N[j]?).getD Str.empty
theorem js_ok {X : Cx} {js : List Nat} (h : (js.all fun j => decide (j < X.N.length)) = true) : ∀ j ∈ js, ∃ x, X.N[j]? = some x := fun j hj => by
  have := of_decide_eq_true (List.all_eq_true.mp h j hj)
  exact ⟨X.N[j], List.getElem?_eq_getElem this⟩

/-- the block begins: its frame is laid at C -/
theorem Inv.block {scope : Scope} {own : List Str} {js : List Nat} {fp : List Addr} {h' : Heap} {t' : Nat} {m : Str → Option Value} (I : Inv X pins σ H s) (S : CScope own (capN X js) scope X.env.scope) (hj : ∀ j ∈ js, ∃ x, X.N[j]? = some x)
    (hf : ∀ b ∈ fp, FpOk X pins H b) (hfo : ∀ b ∈ fp, ∃ o, s.heap.get? b = some o) (hn : h'.Ns s.heap.objs.size m) (hk : ∀ b o, s.heap.get? b = some o → h'.get? b = some o) :
    Inv (cxC X scope (own ++ capN X js) s.heap.objs.size fp s H) pins (cSt own.length js σ) H { s with heap := h', toks := t' } := by
  have hfr : ∀ y ∈ scope.names, y.2 = .free → ∃ c, X.env.cells.lookup y.1 = some c := fun y hy e => I.ok.has y.1 (S.fr y hy e)
  have hcl : ∀ x c, (clOf X.env.cells scope.names []).lookup x = some c → X.env.cells.lookup x = some c := fun x c e => clOf_lookup scope.names [] hfr (fun d z => nomatch z) e
  have hlt : ∀ b o, s.heap.get? b = some o → b ≠ s.heap.objs.size := fun b o e => Nat.ne_of_lt (Heap.lt_size e)
  have nstk : ∀ b, b ≠ X.env.locals → b ∉ X.fs → b ∉ frs X.stack := fun b h1 h2 hb => (List.mem_cons.mp (I.stkSub b hb)).elim h1 h2
  have hrl : ∀ x, (relabel scope X.env).names.lookup x = (scope.names.lookup x).map fun k => if (k == NameKind.free && X.env.scope.kind == .function && X.env.kindOf x == some .cell) then NameKind.cell else k := fun x => relab_lookup x scope.names
  refine ⟨⟨I.ok.mod, S.kind, I.ok.glob, I.ok.blt, Nat.le_refl _, fun x y c h1 h2 => I.ok.inj x y c (hcl x c h1) (hcl y c h2), fun x hx => ?_, (fun x c z => nomatch z), I.ok.hd, I.ok.frames, .inl rfl, fun b hb => ?_, I.bs, Nat.le_trans I.ok.bsz I.sz, fun b o e hb => ?_, fun b hb => ?_, I.stack, I.stkFree⟩,
    rfl, I.bare, Un.kept hk, ⟨m, hn, fun i x v h1 h2 h3 => ?_⟩, fun x c e => ?_, I.hok.fresh (Nat.le_refl _), fun x c e => I.freeC x c (hcl x c e), fun p hp => ?_, I.hok.kept hk, ?_⟩
  · have hx' : (relabel scope X.env).names.lookup x = some .cell ∨ (relabel scope X.env).names.lookup x = some .free := hx
    rw [hrl] at hx'
    cases e : scope.names.lookup x with
    | none => rw [e] at hx'; rcases hx' with z | z <;> cases z
    | some k =>
      have hm : (x, k) ∈ scope.names := PySem.mem_of_lookup e
      have hkf : k = .free := by
        rw [e] at hx'
        cases k with
        | free => rfl
        | cell => exact absurd rfl (S.nocell _ hm)
        | _ => exfalso; revert hx'; simp
      subst hkf
      exact Option.isSome_iff_exists.mp (clOf_has scope.names [] hm)
  · obtain ⟨o, e⟩ := hfo b hb
    obtain ⟨_, _, _, _, f4, _⟩ := hf b hb
    exact ⟨hlt b o e, fun x c z => f4 x c (hcl x c z)⟩
  · obtain ⟨_, _, _, f3, _⟩ := hf b hb
    rcases f3 with z | z
    · exact I.ok.noex b o e z
    · exact absurd (Nat.lt_of_lt_of_le (Heap.lt_size (I.ok.bs b o e).1) z) (Nat.lt_irrefl _)
  · obtain ⟨_, f1, f2, _⟩ := hf b hb
    exact nstk b f1 f2
  · -- a captured name
    have h1' : (own ++ capN X js)[i]? = some x := h1
    have hi : own.length ≤ i := by
      rcases Nat.lt_or_ge i own.length with z | z
      · exfalso
        unfold cSt at h2
        rw [List.getElem?_append_left (by simpa using z), List.getElem?_replicate] at h2
        split at h2 <;> cases h2
      · exact z
    rw [List.getElem?_append_right hi] at h1'
    unfold cSt at h2
    rw [List.getElem?_append_right (by simpa using hi), List.length_replicate, List.getElem?_map] at h2
    unfold capN at h1'
    rw [List.getElem?_map] at h1'
    cases ej : js[i - own.length]? with
    | none => rw [ej] at h2; cases h2
    | some j =>
      rw [ej] at h1' h2
      obtain ⟨y, ey⟩ := hj j (List.mem_of_getElem? ej)
      have exy : y = x := by
        have z : some ((X.N[j]?).getD Str.empty) = some x := h1'
        rw [ey] at z
        exact Option.some.inj z
      subst exy
      have es : σ[j]? = some (some v) := by
        have z : some ((σ[j]?).join) = some (some v) := h2
        cases q : σ[j]? with
        | none => rw [q] at z; cases z
        | some o => rw [q] at z; cases o with
          | none => cases z
          | some v' => cases z; rfl
      have hcap : y ∈ capN X js := List.mem_map.mpr ⟨j, List.mem_of_getElem? ej, by rw [ey]; rfl⟩
      have hfree : scope.names.lookup y = some .free := S.cap y hcap
      have hm : (y, NameKind.free) ∈ scope.names := PySem.mem_of_lookup hfree
      have ho := S.fr _ hm rfl
      obtain ⟨m0, hn0, hl0⟩ := I.loc
      obtain ⟨u, r, l⟩ := hl0 j y v ey es (ho.elim (fun z => .inr (.inl z)) fun z => .inr (.inr z))
      refine ⟨u, r, .inr ⟨?_, ?_⟩⟩
      · show (relabel scope X.env).names.lookup y = _ ∨ (relabel scope X.env).names.lookup y = _
        rw [hrl, hfree, Option.map_some]
        by_cases hcc : (NameKind.free == NameKind.free && X.env.scope.kind == .function && X.env.kindOf y == some .cell) = true
        · rw [if_pos hcc]; exact .inl rfl
        · rw [if_neg hcc]; exact .inr rfl
      · rcases l with ⟨k, _⟩ | ⟨_, c, e, z⟩
        · have k' : X.env.scope.names.lookup y = some .local := k
          rcases ho with z | z <;> (rw [k'] at z; cases z)
        · obtain ⟨c', e'⟩ := Option.isSome_iff_exists.mp (clOf_has (cells := X.env.cells) scope.names [] hm)
          have := hcl y c' e'
          rw [e] at this
          cases this
          refine ⟨c, e', ?_⟩
          obtain ⟨oc, ho', hd⟩ := z
          exact ⟨oc, hk c oc ho', hd⟩
  · obtain ⟨v, o, ho, hd⟩ := I.cell x c (hcl x c e)
    exact ⟨v, o, hk c o ho, hd⟩
  · obtain ⟨e, n, ne, nf, d⟩ := I.pin p hp
    exact ⟨hk _ _ e, n, hlt _ _ e, nstk p.1 ne nf, d⟩
  · unfold cSt
    show _ = (own ++ capN X js).length
    simp

/-- the block is left: its frame's object may have changed -/
theorem Inv.unblock {scope : Scope} {N' : List Str} {fp : List Addr} {σb : St} {H' : Hp} {s' : Shared} {h' : Heap} (I : Inv X pins σ H s) (hf : ∀ b ∈ fp, FpOk X pins H b)
    (B : Inv (cxC X scope N' s.heap.objs.size fp s H) pins σb H' s') (hs : Heap.SameBut s.heap.objs.size s'.heap h') : Inv X pins σ H' { s' with heap := h' } := by
  have hlt : ∀ b o, s.heap.get? b = some o → b ≠ s.heap.objs.size := fun b o e => Nat.ne_of_lt (Heap.lt_size e)
  have hu : Un (frs X.stack) fp H H' s.heap s'.heap := B.base
  have hfree : H' s.heap.objs.size = none := B.free
  refine I.call' (s' := { s' with heap := h' }) (ch := fp) B.os ⟨fun b o e n hb hx => ?_, fun b o e n hb hx => ?_, hu.free, fun b o e hx => ?_, hu.tups, hu.frzs, hu.tbls⟩ (fun b u e => ?_) B.bare fun b hb => ?_
  · exact (hs.2 b (hlt b o e)).trans (hu.keep b o e n hb hx)
  · obtain ⟨sl, z⟩ := hu.slot b o e n hb hx
    exact ⟨sl, (hs.2 b (hlt b o e)).trans z⟩
  · obtain ⟨o', z⟩ := hu.there b o e hx
    exact ⟨o', (hs.2 b (hlt b o e)).trans z⟩
  · refine (B.hok b u e).stay (fun c v hc q => (hs.2 c ?_).trans q) (fun _ q => q) fun _ _ q => q
    rintro rfl
    rcases hc with z | z
    · rw [← z, hfree] at e; cases e
    · rw [hfree] at z; cases z
  · obtain ⟨_, f1, f2, f3, f4, f5⟩ := hf b hb
    exact ⟨f3, f1, f4, f5⟩
end

section
variable {X : Cx} {elt tg iter : Expr} {ifs : List Expr} {scope : Scope} {pos : Pos} {own : List Str} {js : List Nat} {wi : TI} {g : TG} {tc : TT} {te : TE}

theorem comp_core (hc : X.calm = true) (S : CScope own (capN X js) scope X.env.scope) (hj : ∀ j ∈ js, ∃ x, X.N[j]? = some x) (hi : PI X tg iter wi)
    (hg : ∀ C fp s H, PG (cxC X scope (own ++ capN X js) C fp s H) tg g) (ht : ∀ C fp s H, PF (cxC X scope (own ++ capN X js) C fp s H) ifs tc) (he : ∀ C fp s H, PE (cxC X scope (own ++ capN X js) C fp s H) elt te)
    {pins : List (Addr × Obj)} {σ : St} {H : Hp} {s : Shared} {Q : VK} (I : Inv X pins σ H s) (h : tComp own.length js wi g tc te σ H Q) {RR : Value → Addr → Result → Shared → Prop}
    (hRR : ∀ D C s' m H', s'.heap.Ns C m → H' C = none → C ≠ X.env.locals → C ∉ X.fs → (∀ x c, X.env.cells.lookup x = some c → c ≠ C) → X.s₀.heap.objs.size ≤ C → (∀ p ∈ X.pn ++ pins, p.1 ≠ C) → (∀ h', Heap.SameBut C s'.heap h' → Inv X pins σ H' { s' with heap := h' }) → Q (.ref D) H' → RR (.ref D) C (.ok .next) s') :
    wpAny (model X.prog X.w) X.A (eval iter X.env) (fun x s1 => wpAny (model X.prog X.w) X.A (pyIter x) (fun it s2 => wpAny (model X.prog X.w) X.A (newList []) (fun acc s3 =>
      wpAny (model X.prog X.w) X.A (newFunctionEnv scope X.env.globals (clOf X.env.cells scope.names []) [] X.env.qual none .none (some X.env)) (fun cenv s4 =>
        codeAny (model X.prog X.w) X.A (.compStart (.ListComp elt [⟨tg, iter, ifs, 0⟩] scope pos) 0 it acc { cenv with scope := relabel scope X.env }) (RR acc cenv.locals) s4) X.xe s3) X.xe s2) X.xe s1) X.xe s := by
  refine thn (hi pins s σ H _ I h) fun v s1 h1 => thn h1 fun itv s2 h2 => ?_
  obtain ⟨it, fp, tn, J, H2, e, I2, T, st2, f2, hq⟩ := h2
  subst e
  refine wpAny_newList ?_ (by simp)
  have I3 := I2.lnew (t' := s2.toks) (ys := []) (its := []) .nil (by simp)
  have hDn : H2 s2.heap.objs.size = none := I2.fresh
  generalize hD : s2.heap.objs.size = D at I3 hDn ⊢
  generalize hH3 : upd H2 D (.lst []) = H3 at I3
  generalize hs3 : ({ s2 with heap := s2.heap.push { cls := .type "list", data := .seq ([] : List Value).toArray }, toks := s2.toks } : Shared) = s3 at I3
  have k3 : ∀ b o, s2.heap.get? b = some o → s3.heap.get? b = some o := fun b o e => by rw [← hs3]; exact Heap.get?_push_of_some _ e
  have st3 : tn 0 s3.heap := T.keep _ _ _ st2 fun b _ o e => k3 b o e
  have fo2 : ∀ b ∈ fp, ∃ o, s2.heap.get? b = some o := fun b hb => (T.obj _ _ st2 b hb).imp fun _ z => z.1
  have neD : ∀ b ∈ fp, b ≠ D := fun b hb => by
    obtain ⟨o, e⟩ := fo2 b hb
    rw [← hD]
    exact Nat.ne_of_lt (Heap.lt_size e)
  have f3 : ∀ b ∈ fp, FpOk X pins H3 b := fun b hb => by
    obtain ⟨a0, a1⟩ := f2 b hb
    exact ⟨by rw [← hH3, upd_ne (neD b hb)]; exact a0, a1⟩
  have fo3 : ∀ b ∈ fp, ∃ o, s3.heap.get? b = some o := fun b hb => (fo2 b hb).imp fun o e => k3 b o e
  obtain ⟨W, ⟨m0, w0⟩, turn⟩ := hq D hDn
  rw [hH3] at w0
  refine wpAny_newFunctionEnv S.nocell (by intro y hy; simp at hy) (fun h4 hns4 hsb4 => ?_) S.kind
  have k4 : ∀ b o, s3.heap.get? b = some o → h4.get? b = some o := fun b o e => hsb4.extBut b o (Nat.ne_of_lt (Heap.lt_size e)) (Heap.get?_push_of_some _ e)
  have B4 := I3.block (t' := s3.toks + ([] : List (Str × Value)).length) S hj f3 fo3 hns4 k4
  have st4 : tn 0 h4 := T.keep _ _ _ st3 fun b _ o e => k4 b o e
  have f4 : ∀ b ∈ fp, FpOk (cxC X scope (own ++ capN X js) s3.heap.objs.size fp s3 H3) pins H3 b := fun b hb => by
    obtain ⟨a0, a1, a2, a3, a4, a5⟩ := f3 b hb
    obtain ⟨o, e⟩ := fo3 b hb
    exact ⟨a0, (B4.ok.exf b hb).1, B4.ok.exfs b hb, .inl hb, (B4.ok.exf b hb).2, a5⟩
  have nL : s3.heap.objs.size ≠ X.env.locals := Nat.ne_of_gt I3.lt
  have nF : s3.heap.objs.size ∉ X.fs := I3.nofs (Nat.le_refl _)
  have nC : ∀ x c, X.env.cells.lookup x = some c → c ≠ s3.heap.objs.size := fun x c e => by
    obtain ⟨_, o, ho, _⟩ := I3.cell x c e
    exact Nat.ne_of_lt (Heap.lt_size ho)
  -- the loop
  have loop : ∀ s5 : Shared, s5 = { s3 with heap := h4, toks := s3.toks + ([] : List (Str × Value)).length } →
      codeAny (model X.prog X.w) X.A (.compLoop (.ListComp elt [⟨tg, iter, ifs, 0⟩] scope pos) 0 (.ref it) (.ref D) (compEnvC scope (clOf X.env.cells scope.names []) s3.heap.objs.size X.env)) (RR (.ref D) s3.heap.objs.size) s5 := by
    rintro s5 rfl
    have stat : ∀ {H' : Hp}, (∀ b ∈ fp, H' b = none) → ∀ b ∈ fp, FpOk (cxC X scope (own ++ capN X js) s3.heap.objs.size fp s3 H3) pins H' b := fun hn b hb => ⟨hn b hb, (f4 b hb).2⟩
    refine compLoop_gen rfl (fun n s' => ∃ i acc H', Inv (cxC X scope (own ++ capN X js) s3.heap.objs.size fp s3 H3) pins (cSt own.length js σ) H' s' ∧ tn i s'.heap ∧ (∀ b ∈ fp, H' b = none) ∧ W i n acc H') ?_ m0
      ⟨0, [], H3, B4, st4, fun b hb => (f3 b hb).1, w0⟩
    rintro n s6 ⟨i, acc, H6, B6, st6, fr6, w6⟩
    obtain ⟨hacc, way⟩ := turn i n acc H6 w6
    rcases way with ⟨stop, q⟩ | ⟨go, hz, Nx, hN, step⟩
    · refine thn (T.done (cxC X scope (own ++ capN X js) s3.heap.objs.size fp s3 H3) rfl rfl rfl hc i pins s6 _ H6 _ B6 (stat fr6) st6 stop) fun r s7 ⟨hr, B7⟩ => ?_
      subst hr
      obtain ⟨m, hm, _⟩ := B7.loc
      exact hRR D _ s7 m H6 hm B7.free nL nF nC I3.sz (fun p hp => Nat.ne_of_lt (Heap.lt_size (I3.pin p hp).1)) (fun h' hs => I3.unblock f3 B7 hs) q
    · refine thn (T.item (cxC X scope (own ++ capN X js) s3.heap.objs.size fp s3 H3) rfl rfl rfl hc i pins s6 _ H6 _ B6 (stat fr6) st6 go) fun r s7 ⟨u, hr, h7⟩ => ?_
      subst hr
      refine thn h7 fun _ s8 ⟨x, H8, B8, r8, y8, st8, fr8⟩ => ?_
      have B8' := B8.pinned (stat fr8) (T.obj _ _ st8)
      have away : ∀ {s9 : Shared} {σ9 : St} {H9 : Hp} {acc' : List V}, Inv (cxC X scope (own ++ capN X js) s3.heap.objs.size fp s3 H3) (pins ++ pinsAt fp s8.heap) σ9 H9 s9 → σ9.drop own.length = (cSt own.length js σ).drop own.length → Nx acc' H9 →
          ∃ m', m' < n ∧ ∃ i acc H', Inv (cxC X scope (own ++ capN X js) s3.heap.objs.size fp s3 H3) pins (cSt own.length js σ) H' s9 ∧ tn i s9.heap ∧ (∀ b ∈ fp, H' b = none) ∧ W i m' acc H' := fun {s9 σ9 H9 acc'} B9 hd nx => by
        obtain ⟨m', hm, w9⟩ := hN acc' H9 nx
        refine ⟨m', hm, i + 1, acc', H9, B9.unpinned.weak ?_ ?_, T.keep _ _ _ st8 fun b hb o e => (B9.pin (b, o) (List.mem_append_right _ (List.mem_append_right _ (mem_pinsAt hb e)))).1, fun b hb => ?_, w9⟩
        · rw [B9.len, B6.len]
        · intro k v hv
          unfold cSt at hv
          have hk : own.length ≤ k := by
            rcases Nat.lt_or_ge k own.length with z | z
            · exfalso
              rw [List.getElem?_append_left (by simpa using z), List.getElem?_replicate] at hv
              split at hv <;> cases hv
            · exact z
          have e1 : σ9[k]? = (σ9.drop own.length)[k - own.length]? := by rw [List.getElem?_drop]; congr 1; omega
          rw [e1, hd, List.getElem?_drop]
          have e2 : own.length + (k - own.length) = k := by omega
          rw [e2]
          exact hv
        · obtain ⟨o, e, d⟩ := T.obj _ _ st8 b hb
          exact (B9.pin (b, o) (List.mem_append_right _ (List.mem_append_right _ (mem_pinsAt hb e)))).2.1
      refine wpAny_mono (hg _ _ _ _ _ s8 _ H8 x u _ B8' r8 (step x H8 y8)) (fun _ s9 ⟨σ9, H9, B9, hd9, q9⟩ => ?_) fun _ _ f => f.elim
      refine wpAny_mono (ht _ _ _ _ _ s9 σ9 H9 _ B9 q9) (fun b s10 ⟨H10, B10, q10⟩ => ?_) fun _ _ f => f.elim
      cases b with
      | false =>
        rw [if_neg Bool.false_ne_true] at q10 ⊢
        exact away B10 hd9 q10.2
      | true =>
        rw [if_pos rfl] at q10 ⊢
        refine wpAny_mono (he _ _ _ _ _ s10 σ9 H10 _ B10 q10) (fun y s11 ⟨z, H11, B11, r11, q11⟩ => ?_) fun _ _ f => f.elim
        obtain ⟨hl11, nx⟩ := q11
        refine wpAny_mono (mt_append (X := cxC X scope (own ++ capN X js) s3.heap.objs.size fp s3 H3) _ s11 σ9 H11 (.ref D) [z] (.ref D) [y] (fun _ H12 => Nx (acc ++ [z]) H12) B11 rfl (.cons r11 .nil) ⟨D, acc, z, rfl, rfl, hl11, hz, nx⟩) (fun _ s12 ⟨_, H12, B12, _, q12⟩ => ?_) fun _ _ f => f.elim
        exact away B12 hd9 q12
  exact codeAny_compStart_list (loop _ rfl) (T.self X.A 0 _ _ _ st4 (loop _ rfl))

/-- a list comprehension -/
theorem pe_comp (own caps : List Str) (js : List Nat) (hc : X.calm = true) {osc : Scope} (S : CScope own caps scope osc) (hi : PI X tg iter wi)
    (hg : ∀ C fp s H, PG (cxC X scope (own ++ caps) C fp s H) tg g) (ht : ∀ C fp s H, PF (cxC X scope (own ++ caps) C fp s H) ifs tc) (he : ∀ C fp s H, PE (cxC X scope (own ++ caps) C fp s H) elt te)
    (ho : X.env.scope = osc := by rfl) (hcp : capN X js = caps := by rfl) (hj : (js.all fun j => decide (j < X.N.length)) = true := by rfl)
    (hs : ∀ x, foldedSetIterable iter X.env x = pure x := by intro _; rfl) : PE X (.ListComp elt [⟨tg, iter, ifs, 0⟩] scope pos) (tComp own.length js wi g tc te) := by
  subst ho
  subst hcp
  intro pins s σ H Q I h
  have hfr : ∀ y ∈ scope.names, y.2 = .free → ∃ c, X.env.cells.lookup y.1 = some c := fun y hy e => I.ok.has y.1 (S.fr y hy e)
  rw [eval_ListComp]
  refine wpAny_comprehension_free (use := none) rfl hs (closureFor_eq hfr) S.kind S.loc ?_
  refine comp_core hc S (js_ok hj) hi hg ht he I h (RR := fun acc C => compPost (model X.prog X.w) X.A X.xe none (EP X pins σ Q) acc C) ?_
  intro D C s' m H' hn hf h1 h2 h3 h4 h5 hI hq
  exact ⟨m, hn, fun h' hs' => ⟨.ref D, H', hI h' hs', rfl, hq⟩⟩

end
end L2
/-! Data and its equality, any and all, isinstance, slices of tuples, own defs in short. -/
namespace L2
open PySem PySem.Spec PyProof.Rows

/-! ### data -/
mutual
inductive Has (K : PySem.W.Frag) (H : Hp) : V → PyData → Prop
  | non : Has K H .non .none
  | bl (b : Bool) : Has K H (.bl b) (.bool b)
  | int (i : Int) : Has K H (.int i) (.int i)
  | str (x : Str) : Has K H (.str x) (.str x)
  | lst {a : Addr} {xs : List V} {ds : List PyData} : SqL K H a xs → HasAll K H xs ds → Has K H (.ref a) (.list ds)
  | tup {a : Addr} {xs : List V} {ds : List PyData} : SqT K H a xs → HasAll K H xs ds → Has K H (.ref a) (.tuple ds)
inductive HasAll (K : PySem.W.Frag) (H : Hp) : List V → List PyData → Prop
  | nil : HasAll K H [] []
  | cons {x : V} {xs : List V} {d : PyData} {ds : List PyData} : Has K H x d → HasAll K H xs ds → HasAll K H (x :: xs) (d :: ds)
end

section
variable {X : Cx} {pins : List (Addr × Obj)} {σ : St} {H : Hp} {s : Shared}
mutual
theorem Has.reads (I : Inv X pins σ H s) : ∀ {x : V} {d : PyData} {u : Value}, Has X.K H x d → RelV x u → ∃ as, Reads s.heap u d as
  | _, _, _, .non, r => by cases r; exact ⟨_, .none⟩
  | _, _, _, .bl b, r => by cases r; exact ⟨_, .bool b⟩
  | _, _, _, .int i, r => by obtain ⟨t, rfl⟩ := r; exact ⟨_, .int i t⟩
  | _, _, _, .str x, r => by obtain ⟨t, rfl⟩ := r; exact ⟨_, .str x t⟩
  | _, _, _, .lst h hs, r => by
    cases r
    obtain ⟨its, rv, ⟨o, n, ho, hc, hd, hs'⟩, hz⟩ := I.list h
    obtain ⟨as, ra⟩ := HasAll.reads I hs rv
    exact ⟨_, .list ho hc hs' ra⟩
  | _, _, _, .tup h hs, r => by
    cases r
    obtain ⟨its, rv, ⟨o, ho, hc, n, hs'⟩, hz⟩ := I.tuple h
    obtain ⟨as, ra⟩ := HasAll.reads I hs rv
    exact ⟨_, .tuple ho hc hs' ra⟩
theorem HasAll.reads (I : Inv X pins σ H s) : ∀ {xs : List V} {ds : List PyData} {us : List Value}, HasAll X.K H xs ds → Vals xs us → ∃ as, ReadsAll s.heap us ds as
  | _, _, _, .nil, r => by cases r; exact ⟨_, .nil⟩
  | _, _, _, .cons h hs, .cons r rs => by
    obtain ⟨as, ra⟩ := Has.reads I h r
    obtain ⟨bs, rb⟩ := HasAll.reads I hs rs
    exact ⟨_, .cons ra rb⟩
end
end

def rEqD (K : PySem.W.Frag) : R2 := fun x y H Q => ∃ d e, Has K H x d ∧ Has K H y e ∧ SeqAt.shaped d = true ∧ SeqAt.shaped e = true ∧ Q (.bl (PyData.eqv d e)) H
section
variable {X : Cx}
theorem op_eqD (hu : X.A.units + 64 < cLine) : OpR X (compareOp .Eq) (rEqD X.K) := by
  intro pins s σ H x y v u Q I rx ry h
  obtain ⟨d, e, hd, he, sd, se, q⟩ := h
  obtain ⟨as, ra⟩ := hd.reads I rx
  obtain ⟨bs, rb⟩ := he.reads I ry
  exact SeqAt.compareEq_reads ra rb (SeqAt.canLay_of_shaped sd) (SeqAt.canLay_of_shaped se) (SeqAt.room_of_shaped sd hu) ⟨.bl _, H, I, rfl, q⟩
/-! ### any, all of a list of truths -/
/-! ### isinstance -/
def clsV : V → Value
  | .ty n => .type n
  | .ref a => .ref a
  | _ => .none
theorem call_isinst : CallR X (.builtin "isinstance") (fun xs H Q => ∃ x c t b, xs = [x, c] ∧ (∃ n, c = .ty n) ∧ TyOf X.K H x t ∧ PySem.W.kitOne X.K t (clsV c) = some b ∧ Q (.bl b) H) := by
  intro pins s σ H xs us Q I r h
  obtain ⟨x, c, t, b, rfl, ⟨n, rfl⟩, ty, e, q⟩ := h
  obtain ⟨u, w', rfl, rx, rc⟩ := vals2 r
  cases rc
  exact isinst_ok I rx ty e fun tk => ⟨.bl b, H, I.tok _, rfl, q⟩
end
end L2

/-! ### a def of the text, and its promise, in short -/
namespace L2
open PySem PySem.Spec PyProof.Rows
/-- the def x stands at the top as st -/
def Def (K : PySem.W.Frag) (mg : Str → Option Value) (x : Str) (st : Stmt) : Prop := ∃ f fd, mg x = some (.ref f) ∧ Fun K x x st f fd
/-- the def x keeps the promise sp -/
def Own (P : Program) (w : World) (K : PySem.W.Frag) (mg : Str → Option Value) (base : Heap) (k : Nat) (x : Str) (ps : List Str) (sp : Sp) : Prop :=
  ∃ f fd, mg x = some (.ref f) ∧ PySem.W.keepIn K (.ref f) = true ∧ Binds K fd ps [] ∧ FnOk P w K mg base CX0 k f fd ps sp
theorem Def.own {P : Program} {w : World} {K : PySem.W.Frag} {mg : Str → Option Value} {base : Heap} {x : Str} {st : Stmt} {N ps : List Str} {k : Nat} {sp : Sp} (D : Def K mg x st) (S : FnScope N ps (defScope st))
    (hb : ∀ (kV doc pm : Value) (an : Option Addr) (cdv ct : Value) (us : List Value), us.length = ps.length → bindArgs (PySem.W.fnOf x x (defArgs st) (defBody st) (defScope st) .none kV doc pm an cdv ct) ⟨us, []⟩ = pure (ps.zip us))
    (len : ∀ vs H Q E, sp vs H Q E → vs.length = ps.length)
    (hbody : ∀ (f : Addr) (cdv : Value) (A : Around) (outer : List Env) (s : Shared) (H : Hp) (vs : List V) (Q : VK) (E : XK), Room k (A.deeper (envOfC x (defScope st) s.heap.objs.size f cdv)) → sp vs H Q E →
      ∃ t, PSs (cxOf CX0 P w K mg base N x (defScope st) f cdv A outer s H E).nox (defBody st) t ∧ t { nx := fun _ H' => Q .non H', rt := Q } (start N vs) H) : Own P w K mg base (k + 1) x ps sp := by
  obtain ⟨f, fd, hm, F⟩ := D
  exact ⟨f, fd, hm, F.kp, F.binds hb, F.ok S len (hbody f)⟩
theorem def_mk {K : PySem.W.Frag} {h : Heap} {mg : Str → Option Value} (X : K.In h) (G : h.Ns mainGlobals mg) {x : Str} {st : Stmt} {f : Addr} {oc : Value} {od an : Option Addr} {osl : Array (Option Value)} {kV doc pm cdv ct : Value}
    (a : PySem.W.nsIn K mainGlobals x = some (some (.ref f)))
    (l : K.lookup f = some ⟨oc, od, .func (PySem.W.fnOf x x (defArgs st) (defBody st) (defScope st) .none kV doc pm an cdv ct), osl⟩) (c : PySem.W.codeIn K cdv x = true) (k : PySem.W.keepIn K (.ref f) = true) : Def K mg x st :=
  ⟨f, _, PySem.W.mg_of X G a, fun_mk l c k⟩
section
variable {X : Cx} {j k : Nat} {x : Str} {ps : List Str} {sp : Sp} {p pos : Pos} {e : Expr} {es : List Expr} {t : TA}
theorem pe_fn (F : Own X.prog X.w X.K X.mg X.base j x ps sp) (hr : Room k X.A) (ha : PA X (e :: es) t) (hk : j ≤ k := by decide) (hg : Gl X x := by rfl)
    (hdb : (x == ("__debug__" : Str)) = false := by decide) (he : starEach (e :: es) X.env = (false, eval e X.env) :: starEach es X.env := by rfl) (hpl : (backTo pos (starEach es X.env)).any (·.1) = false := by rfl) :
    PE X (.Call (.Name x p) (e :: es) [] pos) (tCall sp [] E0 t) := by
  obtain ⟨f, fd, hm, kp, hb, F⟩ := F
  exact pe_call F (hr.mono hk) hg hm kp hb .nil pass0 ha hdb he hpl
end
/-- the names of built-ins that no def of the text takes -/
def Blt (mg : Str → Option Value) : Prop := ∀ x : Str, x ∈ (["len", "any", "all", "max", "min", "isinstance", "list", "tuple", "int", "bool", "str", "dict", "range"] : List Str) → mg x = none
theorem blt_mk {K : PySem.W.Frag} {h : Heap} {mg : Str → Option Value} (X : K.In h) (G : h.Ns mainGlobals mg) (z0 : PySem.W.nsIn K mainGlobals "len" = some none) (z1 : PySem.W.nsIn K mainGlobals "any" = some none) (z2 : PySem.W.nsIn K mainGlobals "all" = some none) (z3 : PySem.W.nsIn K mainGlobals "max" = some none) (z4 : PySem.W.nsIn K mainGlobals "min" = some none) (z5 : PySem.W.nsIn K mainGlobals "isinstance" = some none) (z6 : PySem.W.nsIn K mainGlobals "list" = some none) (z7 : PySem.W.nsIn K mainGlobals "tuple" = some none) (z8 : PySem.W.nsIn K mainGlobals "int" = some none) (z9 : PySem.W.nsIn K mainGlobals "bool" = some none) (z10 : PySem.W.nsIn K mainGlobals "str" = some none) (z11 : PySem.W.nsIn K mainGlobals "dict" = some none) (z12 : PySem.W.nsIn K mainGlobals "range" = some none) : Blt mg := by
  intro x hx
  simp only [List.mem_cons, List.not_mem_nil, or_false] at hx
  rcases hx with rfl | rfl | rfl | rfl | rfl | rfl | rfl | rfl | rfl | rfl | rfl | rfl | rfl
  · exact PySem.W.mg_none_of X G z0
  · exact PySem.W.mg_none_of X G z1
  · exact PySem.W.mg_none_of X G z2
  · exact PySem.W.mg_none_of X G z3
  · exact PySem.W.mg_none_of X G z4
  · exact PySem.W.mg_none_of X G z5
  · exact PySem.W.mg_none_of X G z6
  · exact PySem.W.mg_none_of X G z7
  · exact PySem.W.mg_none_of X G z8
  · exact PySem.W.mg_none_of X G z9
  · exact PySem.W.mg_none_of X G z10
  · exact PySem.W.mg_none_of X G z11
  · exact PySem.W.mg_none_of X G z12
theorem bt_len : bootBuiltins "len" = some (.builtin "len") := by decide +kernel
theorem bt_max : bootBuiltins "max" = some (.builtin "max") := by decide +kernel
theorem bt_min : bootBuiltins "min" = some (.builtin "min") := by decide +kernel
theorem bt_isinstance : bootBuiltins "isinstance" = some (.builtin "isinstance") := by decide +kernel
theorem bt_list : bootBuiltins "list" = some (.type "list") := by decide +kernel
theorem bt_tuple : bootBuiltins "tuple" = some (.type "tuple") := by decide +kernel
theorem bt_int : bootBuiltins "int" = some (.type "int") := by decide +kernel
theorem bt_dict : bootBuiltins "dict" = some (.type "dict") := by decide +kernel
end L2

namespace HT
open PySem PySem.Spec PyProof.Rows
section
variable {prog : Program} {w : World} {A : Around} {E : Value → Shared → Prop} {s : Shared}
end
end HT

namespace L2
open PySem PySem.Spec PyProof.Rows
section
variable {X : Cx}
end
end L2
/-! The rules that read through the fragment, with the fragment named: so that a block's terms do not hang on the block's context. -/
namespace L2
open PySem PySem.Spec PyProof.Rows
section
variable {X : Cx} (K : PySem.W.Frag)
theorem ix_listK (h : X.K = K := by rfl) : IxR X (rIxL K) := by subst h; exact ix_list
theorem sl_listK (h : X.K = K := by rfl) : SlR X (rSlL K) := by subst h; exact sl_list
def rLen (K : PySem.W.Frag) : List V → Hp → VK → Prop := fun xs H Q => ∃ p ys, xs = [.ref p] ∧ (SqL K H p ys ∨ SqT K H p ys) ∧ Q (.int ys.length) H
theorem call_lenK (h : X.K = K := by rfl) : CallR X (.builtin "len") (rLen K) := by subst h; exact call_len_seq
def rListOf (K : PySem.W.Frag) : List V → Hp → VK → Prop := fun xs H Q => ∃ p ys, xs = [.ref p] ∧ (SqL K H p ys ∨ SqT K H p ys) ∧ ∀ l, H l = none → Q (.ref l) (upd H l (.lst ys))
def rTupOf (K : PySem.W.Frag) : List V → Hp → VK → Prop := fun xs H Q => ∃ p ys, xs = [.ref p] ∧ ((SqL K H p ys ∧ ∀ l, H l = none → Q (.ref l) (upd H l (.tup ys))) ∨ (SqT K H p ys ∧ Q (.ref p) H))
theorem call_tupleK (h : X.K = K := by rfl) : CallR X (.type "tuple") (rTupOf K) := by subst h; exact call_tuple_of
def rAny (K : PySem.W.Frag) : List V → Hp → VK → Prop := fun xs H Q => ∃ (p : Addr) (bs : List Bool), xs = [.ref p] ∧ SqL K H p (bs.map V.bl) ∧ Q (.bl (bs.any id)) H
def rAll (K : PySem.W.Frag) : List V → Hp → VK → Prop := fun xs H Q => ∃ (p : Addr) (bs : List Bool), xs = [.ref p] ∧ SqL K H p (bs.map V.bl) ∧ Q (.bl (bs.all id)) H
def rIsI (K : PySem.W.Frag) : List V → Hp → VK → Prop := fun xs H Q => ∃ x c t b, xs = [x, c] ∧ (∃ n, c = .ty n) ∧ TyOf K H x t ∧ PySem.W.kitOne K t (clsV c) = some b ∧ Q (.bl b) H
theorem call_isiK (h : X.K = K := by rfl) : CallR X (.builtin "isinstance") (rIsI K) := by subst h; exact call_isinst
theorem pi_listK {tg l : Expr} {tl : TE} (hl : PE X l tl) (h : X.K = K := by rfl) : PI X tg l (iList K tl) := by subst h; exact pi_list hl
theorem pi_tupK {tg l : Expr} {tl : TE} (hl : PE X l tl) (h : X.K = K := by rfl) : PI X tg l (iTup K tl) := by subst h; exact pi_tup hl
def tTru (K : PySem.W.Frag) (ta : TE) : TT := fun σ H Q => ta σ H fun x H' => ∃ k, TruV K x H' k ∧ Q k H'
theorem pt_truK {a : Expr} {ta : TE} (ha : PE X a ta) (he : ∀ whole, isTrue a X.env whole = (do let v ← whole; standAt a.pos; holding [v] (truthy v)) := by intro _; rfl) (h : X.K = K := by rfl) : PT X a (tTru K ta) := by
  subst h; exact pt_truth ha he
theorem pg_tupK {es : List Expr} {k : Nat} {t : TGs} {n : Nat} {pos : Pos} (hc : X.calm = true) (hg : PGs X es t)
    (hn : (assignEach es X.env).length = n := by rfl) (hst : (assignEach es X.env).findIdx? (·.1) = none := by rfl) (h : X.K = K := by rfl) : PG X (.Tuple es k pos) (gTup K n t) := by
  subst h; exact pg_tup hc hg hn hst
theorem pe_fldK {e : Expr} {ta : TE} {f : Str} {pos : Pos} (he : PE X e ta) (hb : attributeBase e f X.env (eval e X.env) = eval e X.env := by rfl) (h : X.K = K := by rfl) : PE X (.Attribute e f pos) (tFld K ta f) := by subst h; exact pe_fld he hb
end
end L2
/-! The forms of a comprehension that one uses. -/
namespace L2
open PySem PySem.Spec PyProof.Rows

/-- what tComp asks of an iterator -/
def CompW (n : Nat) (js : List Nat) (g : TG) (tc : TT) (te : TE) (σ : St) (Q : VK) (J : It) (H1 : Hp) : Prop :=
  ∀ D, H1 D = none → ∃ W : Nat → Nat → List V → Hp → Prop, (∃ m, W 0 m [] (upd H1 D (.lst []))) ∧ ∀ i m acc H, W i m acc H →
    H D = some (.lst acc) ∧ ((J.stop i H ∧ Q (.ref D) H) ∨ (J.go i H ∧ acc.length < sizeLine ∧ ∃ Nx : List V → Hp → Prop, (∀ acc' H', Nx acc' H' → ∃ m', m' < m ∧ W (i + 1) m' acc' H') ∧
      ∀ x H', J.yld i H x H' → g x (cSt n js σ) H' fun σ2 H2 => σ2.drop n = (cSt n js σ).drop n ∧ tc σ2 H2 fun b H3 => if b = true then te σ2 H3 fun v H4 => H4 D = some (.lst acc) ∧ Nx (acc ++ [v]) (upd H4 D (.lst (acc ++ [v]))) else H3 D = some (.lst acc) ∧ Nx acc H3))
section
variable {n : Nat} {js : List Nat} {g : TG} {tc : TT} {te : TE} {σ : St} {Q : VK} {H1 : Hp}
theorem Same.upd_new {H : Hp} {a : Addr} {o : HO} (h : H a = none) : Same H (upd H a o) := fun b u e => by
  rw [upd_ne (ne_of_none e h)]
  exact e
theorem Same.upd {H0 H : Hp} {a : Addr} {o : HO} (e : Same H0 H) (h : H0 a = none) : Same H0 (upd H a o) := fun b u q => by
  rw [upd_ne (ne_of_none q h)]
  exact e b u q
end

/-! ### readings in short, for simp -/
theorem cxOf_K {CX : CXT} {P : Program} {w : World} {K : PySem.W.Frag} {mg : Str → Option Value} {base : Heap} {N : List Str} {qual : Str} {scope : Scope} {f : Addr} {cd : Value} {A : Around} {outer : List Env} {s : Shared} {H : Hp} {E : XK} :
    (cxOf CX P w K mg base N qual scope f cd A outer s H E).K = K := rfl
theorem cxC_K {X : Cx} {scope : Scope} {N' : List Str} {C : Addr} {fp : List Addr} {s : Shared} {H : Hp} : (cxC X scope N' C fp s H).K = X.K := rfl
section
variable {H : Hp} {Q : VK} {i j : Int} {b c : Bool} {x y : Str}
theorem rEq_ii : rEq (.int i) (.int j) H Q = Q (.bl (decide (i = j))) H := by simp [rEq, scal]
theorem rNe_ii : rNe (.int i) (.int j) H Q = Q (.bl (!decide (i = j))) H := by simp [rNe, scal]
theorem rEq_bb : rEq (.bl b) (.bl c) H Q = Q (.bl (decide (b = c))) H := by simp [rEq, scal]
theorem rNe_bb : rNe (.bl b) (.bl c) H Q = Q (.bl (!decide (b = c))) H := by simp [rNe, scal]
theorem atI_in {α : Type} {xs : List α} {k : Int} (h0 : 0 ≤ k) (h1 : k < xs.length) : ∃ v, v ∈ xs ∧ atI xs k = some v := by
  obtain ⟨n, rfl⟩ := Int.eq_ofNat_of_zero_le h0
  have hn : n < xs.length := by omega
  exact ⟨xs[n], List.getElem_mem hn, atI_nat (List.getElem?_eq_getElem hn)⟩
end
theorem truV_bl {K : PySem.W.Frag} {H : Hp} {b k : Bool} : TruV K (.bl b) H k = (k = b) := rfl
theorem clsV_ty {n : String} : clsV (.ty n) = .type n := rfl
/-- what tFor asks of an iterator -/
def ForW (g : TG) (tb : TS) (D : Ends) (σ : St) (J : It) (H1 : Hp) : Prop := ∃ W : Nat → Nat → St → Hp → Prop, (∃ m, W 0 m σ H1) ∧ ∀ i m σ H, W i m σ H →
  (J.stop i H ∧ D.nx σ H) ∨ (J.go i H ∧ ∃ N : St → Hp → Prop, (∀ σ' H', N σ' H' → ∃ m', m' < m ∧ W (i + 1) m' σ' H') ∧ ∀ x H', J.yld i H x H' → g x σ H' fun σ2 H2 => tb { D with nx := N, ct := N, bk := D.nx } σ2 H2)
theorem tFor_eq {wi : TI} {g : TG} {tb : TS} {D : Ends} {σ : St} {H : Hp} : tFor wi g tb D σ H = wi σ H fun J H1 => ForW g tb D σ J H1 := rfl
theorem tComp_eq {n : Nat} {js : List Nat} {wi : TI} {g : TG} {tc : TT} {te : TE} {σ : St} {H : Hp} {Q : VK} : tComp n js wi g tc te σ H Q = wi σ H fun J H1 => CompW n js g tc te σ Q J H1 := rfl
/-- what was just made -/
theorem new_same {H H' : Hp} {p : Addr} {o : HO} (h : upd H p o = H') (hp : H p = none) : Same H H' ∧ H' p = some o := by
  subst h
  exact ⟨Same.upd_new hp, upd_same⟩
end L2
/-! Lists of tuples of ints on the abstract heap. -/
namespace L2
open PySem PySem.Spec PyProof.Rows
def TupI (H : Hp) (x : V) (d : List Int) : Prop := ∃ t, x = .ref t ∧ H t = some (.tup (d.map V.int))
abbrev DeedsX (H : Hp) (xs : List V) (ds : List (List Int)) : Prop := Paired (TupI H) xs ds
def DeedsAt (H : Hp) (a : Addr) (ds : List (List Int)) : Prop := ∃ xs, H a = some (.lst xs) ∧ DeedsX H xs ds
def dD (d : List Int) : PyData := .tuple (d.map PyData.int)
section
variable {H H' : Hp} {x : V} {d : List Int} {xs ys : List V} {ds es : List (List Int)} {a : Addr} {o : HO}
theorem TupI.same (e : Same H H') (h : TupI H x d) : TupI H' x d := let ⟨t, p, q⟩ := h; ⟨t, p, e _ _ q⟩
theorem TupI.upd (h : TupI H x d) (ha : ∀ zs, H a ≠ some (.tup zs)) : TupI (upd H a o) x d := by
  obtain ⟨t, p, q⟩ := h
  refine ⟨t, p, ?_⟩
  rw [upd_ne]
  · exact q
  · rintro rfl; exact ha _ q
theorem DeedsX.same (e : Same H H') (h : DeedsX H xs ds) : DeedsX H' xs ds := Paired.mapP h fun _ _ z => z.same e
theorem DeedsX.upd (h : DeedsX H xs ds) (ha : ∀ zs, H a ≠ some (.tup zs)) : DeedsX (upd H a o) xs ds := Paired.mapP h fun _ _ z => z.upd ha
theorem DeedsX.len (h : DeedsX H xs ds) : xs.length = ds.length := Paired.length h
theorem paired_get {α β : Type} {F : α → β → Prop} : ∀ {l1 : List α} {l2 : List β} {i : Nat} {x : α}, Paired F l1 l2 → l1[i]? = some x → ∃ y, l2[i]? = some y ∧ F x y
  | _, _, _, _, .nil, e => by simp at e
  | _, _, 0, _, .cons r _, e => by simp at e; subst e; exact ⟨_, rfl, r⟩
  | _, _, i + 1, x, .cons _ t, e => by
    obtain ⟨u, h1, h2⟩ := paired_get (i := i) (x := x) t (by simpa using e)
    exact ⟨u, by simpa using h1, h2⟩
theorem DeedsAt.same (e : Same H H') (h : DeedsAt H a ds) : DeedsAt H' a ds := let ⟨xs, p, q⟩ := h; ⟨xs, e _ _ p, q.same e⟩
theorem hasAll_ints {K : PySem.W.Frag} : ∀ d : List Int, HasAll K H (d.map V.int) (d.map PyData.int)
  | [] => .nil
  | i :: d => .cons (.int i) (hasAll_ints d)
theorem TupI.has {K : PySem.W.Frag} (h : TupI H x d) : Has K H x (dD d) := by
  obtain ⟨t, rfl, e⟩ := h
  exact .tup (SqT.of e) (hasAll_ints d)
theorem DeedsX.has {K : PySem.W.Frag} : ∀ {xs : List V} {ds : List (List Int)}, DeedsX H xs ds → HasAll K H xs (ds.map dD)
  | _, _, .nil => .nil
  | _, _, .cons r t => .cons r.has (DeedsX.has t)
theorem DeedsAt.has {K : PySem.W.Frag} (h : DeedsAt H a ds) : Has K H (.ref a) (.list (ds.map dD)) := let ⟨_, p, q⟩ := h; .lst (SqL.of p) q.has
/-! equality of such data -/
/-! cuts -/
theorem cutV_drop (xs : List V) {k : Int} (h : 0 ≤ k) : cutV xs (some k) none = xs.drop k.toNat := by
  obtain ⟨n, rfl⟩ := Int.eq_ofNat_of_zero_le h
  unfold cutV
  rw [HT.sIx_none, HT.sIx_nat, Int.toNat_natCast]
  rcases Nat.le_total n xs.length with z | z
  · rw [Nat.min_eq_left z, List.take_of_length_le (by rw [List.length_drop]; exact Nat.le_refl _)]
  · rw [Nat.min_eq_right z, List.drop_of_length_le (Nat.le_refl _), List.drop_of_length_le z, List.take_nil]
theorem cutV_map (d : List Int) (lo hi : Option Int) : ∃ e : List Int, cutV (d.map V.int) lo hi = e.map V.int := by
  unfold cutV
  exact ⟨(d.drop (HT.sIx (d.map V.int).length 0 lo)).take (HT.sIx (d.map V.int).length (d.map V.int).length hi - HT.sIx (d.map V.int).length 0 lo), by rw [List.map_take, List.map_drop]⟩
end
end L2
/-! Own classes in short; dicts with written keys; is with a truth. -/
namespace L2
open PySem PySem.Spec PyProof.Rows
/-- the method m of the class at C stands as st -/
def DefM (K : PySem.W.Frag) (C : Addr) (m qual : Str) (st : Stmt) : Prop := ∃ f fd, Meth K C m f ∧ Fun K m qual st f fd
/-- the class's __init__ stands as st, and the class can be made -/
def DefI (K : PySem.W.Frag) (C : Addr) (qual : Str) (st : Stmt) : Prop := ∃ f fd, Mk K C f ∧ Fun K "__init__" qual st f fd
def OwnM (P : Program) (w : World) (K : PySem.W.Frag) (mg : Str → Option Value) (base : Heap) (k : Nat) (C : Addr) (m : Str) (ps : List Str) (sp : Sp) : Prop :=
  ∃ f fd, Meth K C m f ∧ Binds K fd ps [] ∧ FnOk P w K mg base CX0 k f fd ps sp
def OwnI (P : Program) (w : World) (K : PySem.W.Frag) (mg : Str → Option Value) (base : Heap) (k : Nat) (C : Addr) (ps : List Str) (sp : Sp) : Prop :=
  ∃ f fd, Mk K C f ∧ Binds K fd ps [] ∧ FnOk P w K mg base CX0 k f fd ps sp
/-- the class x stands at C; none of it or above it has the names -/
structure ClsD (K : PySem.W.Frag) (mg : Str → Option Value) (x : Str) (C : Addr) (attrs : List Str) : Prop where
  mgC : mg x = some (.ref C)
  cl : Cls K C
  no : ∀ f ∈ attrs, NoAttr K C f
section
variable {P : Program} {w : World} {K : PySem.W.Frag} {mg : Str → Option Value} {base : Heap} {C : Addr} {m qual : Str} {st : Stmt} {N ps : List Str} {k : Nat} {sp : Sp}
theorem DefM.own (D : DefM K C m qual st) (S : FnScope N ps (defScope st))
    (hb : ∀ (kV doc pm : Value) (an : Option Addr) (cdv ct : Value) (us : List Value), us.length = ps.length → bindArgs (PySem.W.fnOf m qual (defArgs st) (defBody st) (defScope st) .none kV doc pm an cdv ct) ⟨us, []⟩ = pure (ps.zip us))
    (len : ∀ vs H Q E, sp vs H Q E → vs.length = ps.length)
    (hbody : ∀ (f : Addr) (cdv : Value) (A : Around) (outer : List Env) (s : Shared) (H : Hp) (vs : List V) (Q : VK) (E : XK), Room k (A.deeper (envOfC qual (defScope st) s.heap.objs.size f cdv)) → sp vs H Q E →
      ∃ t, PSs (cxOf CX0 P w K mg base N qual (defScope st) f cdv A outer s H E).nox (defBody st) t ∧ t { nx := fun _ H' => Q .non H', rt := Q } (start N vs) H) : OwnM P w K mg base (k + 1) C m ps sp := by
  obtain ⟨f, fd, hm, F⟩ := D
  exact ⟨f, fd, hm, F.binds hb, F.ok S len (hbody f)⟩
theorem DefI.own (D : DefI K C qual st) (S : FnScope N ps (defScope st))
    (hb : ∀ (kV doc pm : Value) (an : Option Addr) (cdv ct : Value) (us : List Value), us.length = ps.length → bindArgs (PySem.W.fnOf "__init__" qual (defArgs st) (defBody st) (defScope st) .none kV doc pm an cdv ct) ⟨us, []⟩ = pure (ps.zip us))
    (len : ∀ vs H Q E, sp vs H Q E → vs.length = ps.length)
    (hbody : ∀ (f : Addr) (cdv : Value) (A : Around) (outer : List Env) (s : Shared) (H : Hp) (vs : List V) (Q : VK) (E : XK), Room k (A.deeper (envOfC qual (defScope st) s.heap.objs.size f cdv)) → sp vs H Q E →
      ∃ t, PSs (cxOf CX0 P w K mg base N qual (defScope st) f cdv A outer s H E).nox (defBody st) t ∧ t { nx := fun _ H' => Q .non H', rt := Q } (start N vs) H) : OwnI P w K mg base (k + 1) C ps sp := by
  obtain ⟨f, fd, hm, F⟩ := D
  exact ⟨f, fd, hm, F.binds hb, F.ok S len (hbody f)⟩
theorem defM_mk {f : Addr} {oc : Value} {od an : Option Addr} {osl : Array (Option Value)} {kV doc pm cdv ct : Value} (a : PySem.W.findIn K (.ref C) m = some (some (.ref f))) (i : PySem.W.isFn K (.ref f) = true)
    (l : K.lookup f = some ⟨oc, od, .func (PySem.W.fnOf m qual (defArgs st) (defBody st) (defScope st) .none kV doc pm an cdv ct), osl⟩) (c : PySem.W.codeIn K cdv qual = true) (k : PySem.W.keepIn K (.ref f) = true) : DefM K C m qual st :=
  ⟨f, _, ⟨a, i, k⟩, fun_mk l c k⟩
theorem defI_mk {f : Addr} {oc : Value} {od an : Option Addr} {osl : Array (Option Value)} {kV doc pm cdv ct : Value} (a : PySem.W.findIn K (.ref C) "__init__" = some (some (.ref f))) (i : PySem.W.isFn K (.ref f) = true)
    (l : K.lookup f = some ⟨oc, od, .func (PySem.W.fnOf "__init__" qual (defArgs st) (defBody st) (defScope st) .none kV doc pm an cdv ct), osl⟩) (c : PySem.W.codeIn K cdv qual = true) (k : PySem.W.keepIn K (.ref f) = true)
    (mk : PySem.W.makesIn K C = true) (kc : PySem.W.keepIn K (.ref C) = true) : DefI K C qual st :=
  ⟨f, _, ⟨mk, a, i, kc⟩, fun_mk l c k⟩
end
section
variable {X : Cx} {j k : Nat} {C : Addr} {x m : Str} {ps : List Str} {sp : Sp} {p pos apos : Pos} {o e : Expr} {es : List Expr} {ta : TE} {t : TA}
theorem pe_mth {pl : Sem Bool} (M : OwnM X.prog X.w X.K X.mg X.base j C m ps sp) (c : Cls X.K C) (hr : Room k X.A) (he : PE X o ta) (ha : PA X (e :: es) t) (hk : j ≤ k := by decide)
    (hst : starEach (e :: es) X.env = (false, eval e X.env) :: starEach es X.env := by rfl) (hpl : (backTo pos (starEach es X.env)).any (·.1) = false := by rfl)
    (ht : eval (.Call (.Attribute o m apos) (e :: es) [] pos) X.env = (do
      let ov ← eval o X.env
      standAt apos.atName
      let (f, first) ← holding [ov] (getMethod ov m pl)
      callWith pos f first (backTo pos (starEach (e :: es) X.env)) (backToKw pos (keywordEach [] X.env))) := by rfl) :
    PE X (.Call (.Attribute o m apos) (e :: es) [] pos) (tMeth C m sp [] E0 ta t) := by
  obtain ⟨f, fd, hm, hb, F⟩ := M
  exact pe_meth (pl := pl) he c hm F (hr.mono hk) hb .nil pass0 ha hst hpl ht
theorem pe_mak (M : OwnI X.prog X.w X.K X.mg X.base j C ps sp) (hr : Room k X.A) (hm : X.mg x = some (.ref C)) (ha : PA X (e :: es) t) (hk : j + 1 ≤ k := by decide) (hg : Gl X x := by rfl)
    (hdb : (x == ("__debug__" : Str)) = false := by decide) (he : starEach (e :: es) X.env = (false, eval e X.env) :: starEach es X.env := by rfl) (hpl : (backTo pos (starEach es X.env)).any (·.1) = false := by rfl) :
    PE X (.Call (.Name x p) (e :: es) [] pos) (tMake C sp [] E0 t) := by
  obtain ⟨f, fd, hk', hb, F⟩ := M
  exact pe_make hk' F (hr.mono hk) hg hm hb .nil pass0 ha hdb he hpl
/-- x is True, x is False, of a truth -/
def rIsB : R2 := fun x y H Q => ∃ a b, x = .bl a ∧ y = .bl b ∧ Q (.bl (decide (a = b))) H
def rIsntB : R2 := fun x y H Q => ∃ a b, x = .bl a ∧ y = .bl b ∧ Q (.bl (!decide (a = b))) H
end
/-! dicts with written text keys -/
theorem DGet.s {H : Hp} {a : Addr} {kvs : List (Key × V)} {x : Str} {v : V} (e : H a = some (.dK kvs)) (h : valV kvs (Sum.inr x : Key) = some v) : DGet H a (.str x) (some v) := by
  have := DGet.k (k := Sum.inr x) e
  rw [h] at this
  exact this
theorem DPut.s {H : Hp} {a : Addr} {kvs : List (Key × V)} {x : Str} {v : V} {kvs' : List (Key × V)} (e : H a = some (.dK kvs)) (hl : kvs.length < sizeLine) (h : putK kvs (Sum.inr x : Key) v = kvs') : DPut H a (.str x) v (upd H a (.dK kvs')) := by
  subst h
  exact DPut.k (k := Sum.inr x) e hl
def tDGs (td : TE) (x : Str) : TE := fun σ H Q => td σ H fun d H1 => ∃ a kvs v, d = .ref a ∧ H1 a = some (.dK kvs) ∧ valV kvs (Sum.inr x : Key) = some v ∧ Q v H1
def sDPs (td tv : TE) (x : Str) : TS := fun D σ H => tv σ H fun v H1 => td σ H1 fun d H2 => ∃ a kvs, d = .ref a ∧ H2 a = some (.dK kvs) ∧ kvs.length < sizeLine ∧ D.nx σ (upd H2 a (.dK (putK kvs (Sum.inr x : Key) v)))
section
variable {X : Cx} {o value : Expr} {td tv : TE} {x : Str} {j : Nat} {pos pos' cpos : Pos}
end
/-- a block over a tuple -/
theorem comp_tup {n : Nat} {js : List Nat} {g : TG} {tc : TT} {te : TE} {σ : St} {Q : VK} {H1 : Hp} {K : PySem.W.Frag} {a : Addr} {xs : List V} (hz : xs.length ≤ sizeLine) (Pv : Addr → Nat → List V → Hp → Prop) (h0 : ∀ D, H1 D = none → Pv D 0 [] (upd H1 D (.lst [])))
    (hl : ∀ D i acc H, H1 D = none → i ≤ xs.length → Pv D i acc H → H D = some (.lst acc) ∧ SqT K H a xs ∧ acc.length ≤ i)
    (hs : ∀ D i x acc H, H1 D = none → xs[i]? = some x → Pv D i acc H → g x (cSt n js σ) H fun σ2 H2 => σ2.drop n = (cSt n js σ).drop n ∧ tc σ2 H2 fun b H3 => if b = true then te σ2 H3 fun v H4 => H4 D = some (.lst acc) ∧ Pv D (i + 1) (acc ++ [v]) (upd H4 D (.lst (acc ++ [v]))) else H3 D = some (.lst acc) ∧ Pv D (i + 1) acc H3)
    (hd : ∀ D acc H, H1 D = none → Pv D xs.length acc H → Q (.ref D) H) : CompW n js g tc te σ Q (Itt K a) H1 := by
  intro D hD
  refine ⟨fun i m acc H => m = xs.length - i ∧ i ≤ xs.length ∧ Pv D i acc H, ⟨xs.length, by simp, Nat.zero_le _, h0 D hD⟩, ?_⟩
  rintro i m acc H ⟨rfl, hi, p⟩
  obtain ⟨e1, q, e3⟩ := hl D i acc H hD hi p
  refine ⟨e1, ?_⟩
  by_cases hlt : i < xs.length
  · refine .inr ⟨⟨xs, xs[i], q, by simp [hlt]⟩, by omega, Pv D (i + 1), fun acc' H' p' => ⟨xs.length - (i + 1), by omega, rfl, hlt, p'⟩, fun x H' y => ?_⟩
    obtain ⟨e, y⟩ := y
    subst e
    exact hs D i x acc _ hD (y xs q) p
  · have e : i = xs.length := by omega
    subst e
    exact .inl ⟨⟨xs, q, Nat.le_refl _⟩, hd D acc H hD p⟩
end L2
namespace K04
/-! The mathematics of a list's fairness: over flags, true where a deed has no delay. -/
def Run (c : List Bool) (k : Nat) : Prop := ∃ i, i + k ≤ c.length ∧ ∀ j, j < k → c[i + j]? = some true
def Tail (c : List Bool) (k : Nat) : Prop := k ≤ c.length ∧ ∀ j, j < k → c[c.length - k + j]? = some true

theorem Run.zero (c : List Bool) : Run c 0 := ⟨0, by omega, fun j h => by omega⟩
theorem Tail.zero (c : List Bool) : Tail c 0 := ⟨by omega, fun j h => by omega⟩

theorem Run.snoc {c : List Bool} {e : Bool} {k : Nat} : Run (c ++ [e]) k ↔ Run c k ∨ Tail (c ++ [e]) k := by
  constructor
  · rintro ⟨i, h1, h2⟩
    simp at h1
    by_cases h : i + k = c.length + 1
    · refine .inr ⟨by simp; omega, fun j hj => ?_⟩
      have e2 : (c ++ [e]).length - k + j = i + j := by simp; omega
      rw [e2]; exact h2 j hj
    · refine .inl ⟨i, by omega, fun j hj => ?_⟩
      have := h2 j hj
      rw [List.getElem?_append_left (by omega)] at this
      exact this
  · rintro (⟨i, h1, h2⟩ | ⟨h1, h2⟩)
    · exact ⟨i, by simp; omega, fun j hj => by rw [List.getElem?_append_left (by omega)]; exact h2 j hj⟩
    · exact ⟨(c ++ [e]).length - k, by omega, h2⟩

/-- of k places one after another, round and round, none has a delay -/
def Ring (b : List Bool) (k : Nat) : Prop := ∃ st, st < b.length ∧ ∀ j, j < k → b[(st + j) % b.length]? = some true

theorem Ring.lt {b : List Bool} {k : Nat} (hf : false ∈ b) (h : Ring b k) : k < b.length := by
  obtain ⟨st, hs, h⟩ := h
  rcases Nat.lt_or_ge k b.length with z | z
  · exact z
  · exfalso
    obtain ⟨i, hi, e⟩ := List.mem_iff_getElem.mp hf
    have q := h ((i + b.length - st) % b.length) (Nat.lt_of_lt_of_le (Nat.mod_lt _ (by omega)) z)
    have e2 : (st + (i + b.length - st) % b.length) % b.length = i := by
      rw [Nat.add_mod_mod]
      have : st + (i + b.length - st) = i + b.length := by omega
      rw [this, Nat.add_mod_right, Nat.mod_eq_of_lt hi]
    rw [e2, List.getElem?_eq_getElem hi, e] at q
    cases q

end K04
/-! Letters, pairs under way, a road, over the abstract heap. -/
namespace L2
open PySem PySem.Spec PyProof.Rows
def optV : Option Int → V
  | some n => .int n
  | none => .non
/-- all but the places of S stays -/
def Keep (S : List Addr) (H H' : Hp) : Prop := ∀ b o, H b = some o → b ∉ S → H' b = some o
section
variable {S T : List Addr} {H H1 H2 : Hp} {a b : Addr} {o : HO}
theorem Keep.refl : Keep S H H := fun _ _ h _ => h
theorem Keep.trans (k : Keep S H H1) (j : Keep S H1 H2) : Keep S H H2 := fun b o h n => j b o (k b o h n) n
theorem Same.keep (s : Same H H1) : Keep S H H1 := fun b o h _ => s b o h
theorem Keep.same (k : Keep S H H1) (s : Same H1 H2) : Keep S H H2 := fun b o h n => s b o (k b o h n)
theorem Keep.mono (k : Keep S H H1) (h : ∀ b ∈ S, b ∈ T) : Keep T H H1 := fun b o e n => k b o e fun z => n (h b z)
theorem Keep.upd (k : Keep S H H1) (h : a ∈ S ∨ H a = none) : Keep S H (upd H1 a o) := fun b u e n => by
  rw [upd_ne]
  · exact k b u e n
  · rintro rfl
    rcases h with z | z
    · exact n z
    · rw [z] at e; cases e
theorem Keep.free (k : Keep S H H1) (h : H1 b = none) (hb : b ∉ S) : H b = none := by
  cases e : H b with
  | none => rfl
  | some o => rw [k b o e hb] at h; cases h
end
/-- a letter and what it says -/
inductive LetV (H : Hp) : V → PyData → Prop
  | str {t : Str} (ok : PyData.strOk t = true) : LetV H (.str t) (.str t)
  | int (n : Int) : LetV H (.int n) (.int n)
  | lst {p : Addr} {n : Int} : H p = some (.lst [.int n]) → LetV H (.ref p) (.list [.int n])
  | tup {p : Addr} {t : Str} {n : Int} (ok : PyData.strOk t = true) : H p = some (.tup [.str t, .int n]) → LetV H (.ref p) (.tuple [.str t, .int n])
theorem strOk_of (x : String) : PyData.strOk (Str.ofString x) = true := by
  rw [Str.ofString_eq_toList]
  unfold PyData.strOk
  rw [Array.all_eq_true_iff_forall_mem]
  intro c hc
  rw [List.mem_toArray, List.mem_map] at hc
  obtain ⟨a, _, rfl⟩ := hc
  refine decide_eq_true ?_
  rcases a.valid with h | h
  · exact Nat.lt_of_lt_of_le h (by decide)
  · exact h.2
/-- no letter lies here -/
def Soft (H : Hp) (b : Addr) : Prop := (∀ xs, H b ≠ some (.tup xs)) ∧ ∀ n, H b ≠ some (.lst [.int n])
section
variable {S : List Addr} {H H' : Hp} {x : V} {d : PyData} {b : Addr}
theorem Soft.of_dK {kvs : List (Key × V)} (h : H b = some (.dK kvs)) : Soft H b := ⟨(fun xs e => by rw [h] at e; cases e), (fun n e => by rw [h] at e; cases e)⟩
theorem LetV.keep (k : Keep S H H') (hs : ∀ b ∈ S, Soft H b) : LetV H x d → LetV H' x d
  | .str ok => .str ok
  | .int n => .int n
  | .lst h => .lst (k _ _ h fun z => (hs _ z).2 _ h)
  | .tup ok h => .tup ok (k _ _ h fun z => (hs _ z).1 _ h)
theorem LetV.same (s : Same H H') (h : LetV H x d) : LetV H' x d := h.keep (S := []) s.keep (fun _ z => nomatch z)
theorem LetV.has {K : PySem.W.Frag} : LetV H x d → Has K H x d
  | .str _ => .str _
  | .int n => .int n
  | .lst h => .lst (SqL.of h) (.cons (.int _) .nil)
  | .tup _ h => .tup (SqT.of h) (.cons (.str _) (.cons (.int _) .nil))
theorem LetV.refl : LetV H x d → PyData.eqv d d = true
  | .str t => by simp [PyData.eqv]
  | .int n => by simp [PyData.eqv]
  | .lst h => by simp [PyData.eqv, PyData.eqvAll]
  | .tup _ h => by simp [PyData.eqv, PyData.eqvAll]
theorem LetV.lay : LetV H x d → PyData.canLay0 d = true
  | .str ok => by simp [PyData.canLay0, ok]
  | .int n => by simp [PyData.canLay0]
  | .lst h => by simp [PyData.canLay0, PyData.canLayAll0]
  | .tup ok h => by simp [PyData.canLay0, PyData.canLayAll0, ok]
theorem LetV.depth : LetV H x d → d.depth ≤ 3
  | .str t => by simp [PyData.depth]
  | .int n => by simp [PyData.depth]
  | .lst h => by simp [PyData.depth, PyData.depthAll]
  | .tup _ h => by simp [PyData.depth, PyData.depthAll]
end
def LetsX (H : Hp) (zs : List V) (qs : List PyData) : Prop := Paired (LetV H) zs qs
section
variable {S : List Addr} {H H' : Hp}
theorem LetsX.keep (k : Keep S H H') (hs : ∀ b ∈ S, Soft H b) {zs : List V} {qs : List PyData} (h : LetsX H zs qs) : LetsX H' zs qs := Paired.mapP h fun _ _ z => z.keep k hs
theorem LetsX.same (s : Same H H') {zs : List V} {qs : List PyData} (h : LetsX H zs qs) : LetsX H' zs qs := Paired.mapP h fun _ _ z => z.same s
theorem LetsX.has {K : PySem.W.Frag} : ∀ {zs : List V} {qs : List PyData}, LetsX H zs qs → HasAll K H zs qs
  | _, _, .nil => .nil
  | _, _, .cons r t => .cons r.has (LetsX.has t)
theorem LetsX.refl : ∀ {zs : List V} {qs : List PyData}, LetsX H zs qs → PyData.eqvAll qs qs = true
  | _, _, .nil => by simp [PyData.eqvAll]
  | _, _, .cons r t => by rw [PyData.eqvAll, r.refl, LetsX.refl t]; rfl
theorem LetsX.lay : ∀ {zs : List V} {qs : List PyData}, LetsX H zs qs → PyData.canLayAll0 qs = true
  | _, _, .nil => by simp [PyData.canLayAll0]
  | _, _, .cons r t => by rw [PyData.canLayAll0, r.lay, LetsX.lay t]; rfl
theorem LetsX.depth : ∀ {zs : List V} {qs : List PyData}, LetsX H zs qs → PyData.depthAll qs ≤ 3
  | _, _, .nil => by simp [PyData.depthAll]
  | _, _, .cons r t => by
    have h1 := r.depth
    have h2 := LetsX.depth t
    rw [PyData.depthAll]
    omega
theorem LetsX.shaped {zs : List V} {qs : List PyData} (h : LetsX H zs qs) : SeqAt.shaped (.list qs) = true := by
  have := h.depth
  unfold SeqAt.shaped
  rw [PyData.canLay0, h.lay, PyData.depth, decide_eq_true (by omega)]; rfl
end
/-- a pair of a turn and a letter -/
def PairV (H : Hp) (x : V) (p : Int × PyData) : Prop := ∃ t y, x = .ref t ∧ H t = some (.tup [.int p.1, y]) ∧ LetV H y p.2
def PairsX (H : Hp) (xs : List V) (us : List (Int × PyData)) : Prop := Paired (PairV H) xs us
section
variable {S : List Addr} {H H' : Hp} {xs : List V} {us : List (Int × PyData)} {b : Addr}
theorem PairV.keep (k : Keep S H H') (hs : ∀ b ∈ S, Soft H b) {x : V} {p : Int × PyData} (h : PairV H x p) : PairV H' x p := by
  obtain ⟨t, y, e, h1, h2⟩ := h
  exact ⟨t, y, e, k _ _ h1 fun z => (hs _ z).1 _ h1, h2.keep k hs⟩
theorem PairsX.keep (k : Keep S H H') (hs : ∀ b ∈ S, Soft H b) (h : PairsX H xs us) : PairsX H' xs us := Paired.mapP h fun _ _ z => z.keep k hs
theorem PairsX.same (s : Same H H') (h : PairsX H xs us) : PairsX H' xs us := h.keep (S := []) s.keep (fun _ z => nomatch z)
theorem PairsX.len (h : PairsX H xs us) : xs.length = us.length := Paired.length h
theorem deeds_keep {a : Addr} {ds : List (List Int)} (k : Keep S H H') (hs : ∀ b ∈ S, Soft H b) (ha : a ∉ S) (h : DeedsAt H a ds) : DeedsAt H' a ds := by
  obtain ⟨xs, e, d⟩ := h
  exact ⟨xs, k _ _ e ha, Paired.mapP d fun _ _ ⟨t, p, q⟩ => ⟨t, p, k _ _ q fun z => (hs _ z).1 _ q⟩⟩
theorem Soft.keep {T : List Addr} (k : Keep T H H') (hb : b ∉ T) (hn : H b ≠ none) (h : Soft H b) : Soft H' b := by
  cases e : H b with
  | none => exact absurd e hn
  | some o =>
    have := k b o e hb
    refine ⟨fun xs q => h.1 xs ?_, fun n q => h.2 n ?_⟩
    · rw [this] at q; rw [e]; exact q
    · rw [this] at q; rw [e]; exact q
end
/-- the delays of what is sent in turn z -/
def del (ds : List (List Int)) (z : Int) : List Int := if ds = [] then [1] else ds.getD (z.toNat % ds.length) []
/-! ### a road -/
def rf (l : Addr) (ls la : Option Int) (u : Addr) : List (Str × V) := [("deeds", .ref l), ("last_sent", optV ls), ("last_asked", optV la), ("underway", .ref u)]
section
variable {l u : Addr} {ls la : Option Int}
end
structure RoadAt (C : Addr) (H : Hp) (x dx l u : Addr) (ds : List (List Int)) (ls la : Option Int) (us : List (Int × PyData)) : Prop where
  ins : H x = some (.ins C dx (rf l ls la u))
  deeds : DeedsAt H l ds
  und : ∃ xs, H u = some (.lst xs) ∧ PairsX H xs us
  ne : l ≠ u
section
variable {S : List Addr} {C : Addr} {H H' : Hp} {x dx l u : Addr} {ds : List (List Int)} {ls la : Option Int} {us : List (Int × PyData)}
theorem RoadAt.keep (k : Keep S H H') (hs : ∀ b ∈ S, Soft H b) (hx : x ∉ S) (hl : l ∉ S) (hu : u ∉ S) (R : RoadAt C H x dx l u ds ls la us) : RoadAt C H' x dx l u ds ls la us := by
  obtain ⟨xs, e, p⟩ := R.und
  exact ⟨k _ _ R.ins hx, deeds_keep k hs hl R.deeds, ⟨xs, k _ _ e hu, p.keep k hs⟩, R.ne⟩
theorem RoadAt.same (s : Same H H') (R : RoadAt C H x dx l u ds ls la us) : RoadAt C H' x dx l u ds ls la us := R.keep (S := []) s.keep (fun _ z => nomatch z) (fun z => nomatch z) (fun z => nomatch z) (fun z => nomatch z)
end
/-! ### what isinstance tells of a letter -/
theorem kit_sl (K : PySem.W.Frag) : PySem.W.kitOne K (.type "str") (.type "list") = some false := by with_unfolding_all rfl
theorem kit_st (K : PySem.W.Frag) : PySem.W.kitOne K (.type "str") (.type "tuple") = some false := by with_unfolding_all rfl
theorem kit_sd (K : PySem.W.Frag) : PySem.W.kitOne K (.type "str") (.type "dict") = some false := by with_unfolding_all rfl
theorem kit_il (K : PySem.W.Frag) : PySem.W.kitOne K (.type "int") (.type "list") = some false := by with_unfolding_all rfl
theorem kit_it (K : PySem.W.Frag) : PySem.W.kitOne K (.type "int") (.type "tuple") = some false := by with_unfolding_all rfl
theorem kit_id (K : PySem.W.Frag) : PySem.W.kitOne K (.type "int") (.type "dict") = some false := by with_unfolding_all rfl
theorem kit_tl (K : PySem.W.Frag) : PySem.W.kitOne K (.type "tuple") (.type "list") = some false := by with_unfolding_all rfl
theorem kit_tt (K : PySem.W.Frag) : PySem.W.kitOne K (.type "tuple") (.type "tuple") = some true := by rfl
end L2
namespace L2
open PySem PySem.Spec PyProof.Rows
theorem SqT.keep {K : PySem.W.Frag} {S : List Addr} {H H' : Hp} {a : Addr} {xs : List V} (k : Keep S H H') (hs : ∀ b ∈ S, ∃ ys, H b = some (.lst ys)) (h : SqT K H a xs) : SqT K H' a xs := by
  rcases h with h | h
  · rcases h with h | ⟨o, h⟩
    · exact .inl (.inl (k _ _ h fun z => by obtain ⟨ys, e⟩ := hs _ z; rw [h] at e; cases e))
    · exact .inl (.inr ⟨o, k _ _ h fun z => by obtain ⟨ys, e⟩ := hs _ z; rw [h] at e; cases e⟩)
  · exact .inr h
end L2
/-! Data that cannot change: numbers, texts, tuples of such. -/
namespace L2
open PySem PySem.Spec PyProof.Rows
mutual
inductive Im (H : Hp) : V → PyData → Prop
  | non : Im H .non .none
  | bl (b : Bool) : Im H (.bl b) (.bool b)
  | int (n : Int) : Im H (.int n) (.int n)
  | str {t : Str} (ok : PyData.strOk t = true) : Im H (.str t) (.str t)
  | tup {p : Addr} {xs : List V} {ds : List PyData} : H p = some (.tup xs) → Ims H xs ds → xs.length ≤ 1000 → Im H (.ref p) (.tuple ds)
inductive Ims (H : Hp) : List V → List PyData → Prop
  | nil : Ims H [] []
  | cons {x : V} {xs : List V} {d : PyData} {ds : List PyData} : Im H x d → Ims H xs ds → Ims H (x :: xs) (d :: ds)
end
/-- no tuple lies here -/
def NoT (H : Hp) (b : Addr) : Prop := ∀ xs, H b ≠ some (.tup xs)
section
variable {S : List Addr} {H H' : Hp} {b : Addr}
theorem NoT.of_lst {xs : List V} (h : H b = some (.lst xs)) : NoT H b := fun xs e => by rw [h] at e; cases e
theorem NoT.of_dK {kvs : List (Key × V)} (h : H b = some (.dK kvs)) : NoT H b := fun xs e => by rw [h] at e; cases e
mutual
theorem Im.keep (k : Keep S H H') (hs : ∀ b ∈ S, NoT H b) : ∀ {x : V} {d : PyData}, Im H x d → Im H' x d
  | _, _, .non => .non
  | _, _, .bl b => .bl b
  | _, _, .int n => .int n
  | _, _, .str ok => .str ok
  | _, _, .tup h hx hl => .tup (k _ _ h fun z => hs _ z _ h) (Ims.keep k hs hx) hl
theorem Ims.keep (k : Keep S H H') (hs : ∀ b ∈ S, NoT H b) : ∀ {xs : List V} {ds : List PyData}, Ims H xs ds → Ims H' xs ds
  | _, _, .nil => .nil
  | _, _, .cons r t => .cons (Im.keep k hs r) (Ims.keep k hs t)
end
theorem Im.same (s : Same H H') {x : V} {d : PyData} (h : Im H x d) : Im H' x d := h.keep (S := []) s.keep (fun _ z => nomatch z)
theorem Ims.same (s : Same H H') {xs : List V} {ds : List PyData} (h : Ims H xs ds) : Ims H' xs ds := h.keep (S := []) s.keep (fun _ z => nomatch z)
mutual
theorem Im.has {K : PySem.W.Frag} : ∀ {x : V} {d : PyData}, Im H x d → Has K H x d
  | _, _, .non => .non
  | _, _, .bl b => .bl b
  | _, _, .int n => .int n
  | _, _, .str _ => .str _
  | _, _, .tup h hx _ => .tup (SqT.of h) (Ims.has hx)
theorem Ims.has {K : PySem.W.Frag} : ∀ {xs : List V} {ds : List PyData}, Ims H xs ds → HasAll K H xs ds
  | _, _, .nil => .nil
  | _, _, .cons r t => .cons (Im.has r) (Ims.has t)
end
mutual
theorem Im.refl : ∀ {x : V} {d : PyData}, Im H x d → PyData.eqv d d = true
  | _, _, .non => by simp [PyData.eqv]
  | _, _, .bl b => by simp [PyData.eqv]
  | _, _, .int n => by simp [PyData.eqv]
  | _, _, .str _ => by simp [PyData.eqv]
  | _, _, .tup _ hx _ => by rw [PyData.eqv]; exact Ims.refl hx
theorem Ims.refl : ∀ {xs : List V} {ds : List PyData}, Ims H xs ds → PyData.eqvAll ds ds = true
  | _, _, .nil => by simp [PyData.eqvAll]
  | _, _, .cons r t => by rw [PyData.eqvAll, Im.refl r, Ims.refl t]; rfl
end
mutual
theorem Im.lay : ∀ {x : V} {d : PyData}, Im H x d → PyData.canLay0 d = true
  | _, _, .non => by simp [PyData.canLay0]
  | _, _, .bl b => by simp [PyData.canLay0]
  | _, _, .int n => by simp [PyData.canLay0]
  | _, _, .str ok => by simp [PyData.canLay0, ok]
  | _, _, .tup _ hx _ => by rw [PyData.canLay0]; exact Ims.lay hx
theorem Ims.lay : ∀ {xs : List V} {ds : List PyData}, Ims H xs ds → PyData.canLayAll0 ds = true
  | _, _, .nil => by simp [PyData.canLayAll0]
  | _, _, .cons r t => by rw [PyData.canLayAll0, Im.lay r, Ims.lay t]; rfl
end
theorem Ims.len : ∀ {xs : List V} {ds : List PyData}, Ims H xs ds → xs.length = ds.length
  | _, _, .nil => rfl
  | _, _, .cons _ t => by rw [List.length_cons, List.length_cons, Ims.len t]
theorem Ims.get : ∀ {xs : List V} {ds : List PyData} {i : Nat} {x : V}, Ims H xs ds → xs[i]? = some x → ∃ d, ds[i]? = some d ∧ Im H x d
  | _, _, _, _, .nil, e => by simp at e
  | _, _, 0, _, .cons r _, e => by simp at e; subst e; exact ⟨_, rfl, r⟩
  | _, _, i + 1, x, .cons _ t, e => by
    obtain ⟨u, h1, h2⟩ := Ims.get (i := i) (x := x) t (by simpa using e)
    exact ⟨u, by simpa using h1, h2⟩
theorem Ims.app : ∀ {xs ys : List V} {ds es : List PyData}, Ims H xs ds → Ims H ys es → Ims H (xs ++ ys) (ds ++ es)
  | _, _, _, _, .nil, s => s
  | _, _, _, _, .cons r t, s => .cons r (Ims.app t s)
theorem Ims.take : ∀ {xs : List V} {ds : List PyData} (n : Nat), Ims H xs ds → Ims H (xs.take n) (ds.take n)
  | _, _, 0, _ => by simp only [List.take_zero]; exact .nil
  | _, _, _ + 1, .nil => .nil
  | _, _, n + 1, .cons r t => .cons r (Ims.take n t)
theorem Ims.drop : ∀ {xs : List V} {ds : List PyData} (n : Nat), Ims H xs ds → Ims H (xs.drop n) (ds.drop n)
  | _, _, 0, r => r
  | _, _, _ + 1, .nil => .nil
  | _, _, n + 1, .cons _ t => Ims.drop n t
theorem Ims.one {x : V} {d : PyData} (h : Im H x d) : Ims H [x] [d] := .cons h .nil
theorem shaped_of {d : PyData} (h : PyData.canLay0 d = true) (hd : d.depth ≤ 64) : SeqAt.shaped d = true := by
  unfold SeqAt.shaped
  rw [h, decide_eq_true hd]; rfl
theorem le_depthAll : ∀ {ds : List PyData} {d : PyData}, d ∈ ds → d.depth ≤ PyData.depthAll ds
  | _ :: _, _, .head _ => by rw [PyData.depthAll]; exact Nat.le_max_left _ _
  | _ :: _, _, .tail _ h => by rw [PyData.depthAll]; exact Nat.le_trans (le_depthAll h) (Nat.le_max_right _ _)
end
theorem kitI_nl (K : PySem.W.Frag) : PySem.W.kitOne K (.type "NoneType") (.type "list") = some false := by with_unfolding_all rfl
theorem kitI_nt (K : PySem.W.Frag) : PySem.W.kitOne K (.type "NoneType") (.type "tuple") = some false := by with_unfolding_all rfl
theorem kitI_nd (K : PySem.W.Frag) : PySem.W.kitOne K (.type "NoneType") (.type "dict") = some false := by with_unfolding_all rfl
theorem kitI_bl (K : PySem.W.Frag) : PySem.W.kitOne K (.type "bool") (.type "list") = some false := by with_unfolding_all rfl
theorem kitI_bt (K : PySem.W.Frag) : PySem.W.kitOne K (.type "bool") (.type "tuple") = some false := by with_unfolding_all rfl
theorem kitI_bd (K : PySem.W.Frag) : PySem.W.kitOne K (.type "bool") (.type "dict") = some false := by with_unfolding_all rfl
/-! ### sum of a list of numbers -/
section
variable {X : Cx}
end
/-- what own_copy promises of data that cannot change -/
def sp_cpy (n : Nat) : Sp := fun vs H Q _ => ∃ (v : V) (d : PyData), vs = [v] ∧ Im H v d ∧ d.depth ≤ n ∧ ∀ v' H', Same H H' → Im H' v' d → Q v' H'
section
variable {X : Cx} {j k : Nat} {C : Addr} {x m : Str} {ps : List Str} {sp : Sp} {p pos apos : Pos} {o : Expr} {ta : TE}
theorem pe_mth0 {pl : Sem Bool} (M : OwnM X.prog X.w X.K X.mg X.base j C m ps sp) (c : Cls X.K C) (hr : Room k X.A) (he : PE X o ta) (hk : j ≤ k := by decide)
    (ht : eval (.Call (.Attribute o m apos) [] [] pos) X.env = (do
      let ov ← eval o X.env
      standAt apos.atName
      let (f, first) ← holding [ov] (getMethod ov m pl)
      callWith pos f first (backTo pos (starEach [] X.env)) (backToKw pos (keywordEach [] X.env))) := by rfl) :
    PE X (.Call (.Attribute o m apos) [] [] pos) (tMeth C m sp [] E0 ta tNil) := by
  obtain ⟨f, fd, hm, hb, F⟩ := M
  exact pe_meth0 (pl := pl) he c hm F (hr.mono hk) hb .nil pass0 ht
end
/-! ### numbered parcels -/
/-- a pair of a number and a parcel -/
def pd (p : Int × PyData) : PyData := .tuple [.int p.1, p.2]
section
variable {S : List Addr} {H H' : Hp}
theorem Ims.pair {v : V} {p : Int × PyData} (h : Im H v (pd p)) : ∃ t y, v = .ref t ∧ H t = some (.tup [.int p.1, y]) ∧ Im H y p.2 := by
  unfold pd at h
  cases h with
  | @tup t xs ds e hx hl =>
    cases hx with
    | cons r1 hx =>
      cases r1
      cases hx with
      | cons r2 hx =>
        cases hx
        exact ⟨t, _, rfl, e, r2⟩
theorem Im.pair {t : Addr} {y : V} {n : Int} {d : PyData} (e : H t = some (.tup [.int n, y])) (h : Im H y d) : Im H (.ref t) (pd (n, d)) := .tup e (.cons (.int n) (.cons h .nil)) (by simp)
end
/-- what the taker does with a pair -/
def tk (s : Int × List PyData) (p : Int × PyData) : Int × List PyData := if p.1 = s.1 then (s.1 + 1, s.2 ++ [p.2]) else s
end L2
/-! Readings that may be weakened: what while_by asks of a test. -/
namespace L2
open PySem PySem.Spec PyProof.Rows
/-! ### a list and another one, both only read -/
section
variable {X : Cx}
end
end L2
/-! Readings by what stands at an address itself: they run by simp alone. -/
namespace L2
open PySem PySem.Spec PyProof.Rows
section
variable {X : Cx}
theorem OpR.weak {f : Value → Value → Sem Value} {r r' : R2} (h : OpR X f r) (w : ∀ x y H Q, r' x y H Q → r x y H Q) : OpR X f r' :=
  fun pins s σ H x y v u Q I rx ry q => h pins s σ H x y v u Q I rx ry (w _ _ _ _ q)
theorem IxR.weak {r r' : R2} (h : IxR X r) (w : ∀ x y H Q, r' x y H Q → r x y H Q) : IxR X r' :=
  fun value slice pins s σ H x y v u Q I rx ry q hs => h value slice pins s σ H x y v u Q I rx ry (w _ _ _ _ q) hs
theorem CallR.weak {f : Value} {r r' : List V → Hp → VK → Prop} (h : CallR X f r) (w : ∀ xs H Q, r' xs H Q → r xs H Q) : CallR X f r' :=
  fun pins s σ H xs us Q I rs q => h pins s σ H xs us Q I rs (w _ _ _ q)
theorem SlR.weak {r r' : V → Option Int → Option Int → Hp → VK → Prop} (h : SlR X r) (w : ∀ x l u H Q, r' x l u H Q → r x l u H Q) : SlR X r' :=
  fun pins s σ H x v vl vu lo hi sl Q I rx hs pl pu q => h pins s σ H x v vl vu lo hi sl Q I rx hs pl pu (w _ _ _ _ _ q)

/-! ### a subscript -/
def getO : HO → V → Option V
  | .lst xs, .int i => atI xs i
  | .tup xs, .int i => atI xs i
  | .dK kvs, .int i => valV kvs (Sum.inl i)
  | .dK kvs, .str x => valV kvs (Sum.inr x)
  | _, _ => none
theorem getO_l {xs : List V} {i : Int} : getO (.lst xs) (.int i) = atI xs i := rfl
theorem getO_t {xs : List V} {i : Int} : getO (.tup xs) (.int i) = atI xs i := rfl
theorem getO_di {kvs : List (Key × V)} {i : Int} : getO (.dK kvs) (.int i) = valV kvs (Sum.inl i) := rfl
theorem getO_ds {kvs : List (Key × V)} {x : Str} : getO (.dK kvs) (.str x) = valV kvs (Sum.inr x) := rfl
def rGet : R2 := fun x y H Q => ∃ p o v, x = .ref p ∧ H p = some o ∧ getO o y = some v ∧ Q v H
theorem ix_dict (hu : X.A.units + 1 < cLine) : IxR X (fun x y H Q => ∃ a v, x = .ref a ∧ DGet H a y (some v) ∧ Q v H) := by
  intro value slice pins s σ H x y v u Q I rx ry h hs
  obtain ⟨a, z, rfl, g, q⟩ := h
  cases rx
  exact tail_any (dict_typeIs I g) PySem.F.slot_dict_getitem.lookup (d_getItem hu I g ry fun w' s3 I3 rw' => ⟨z, H, I3, rw', q⟩) hs
theorem ix_get (hu : X.A.units + 1 < cLine) : IxR X rGet := by
  intro value slice pins s σ H x y v u Q I rx ry h hs
  obtain ⟨p, o, z, rfl, e, g, q⟩ := h
  cases o with
  | lst xs => cases y <;> first | exact ix_list value slice pins s σ H _ _ v u Q I rx ry ⟨p, xs, _, z, rfl, rfl, SqL.of e, g, q⟩ hs | cases g
  | tup xs => cases y <;> first | exact ix_tup value slice pins s σ H _ _ v u Q I rx ry ⟨p, xs, _, z, rfl, rfl, SqT.of e, g, q⟩ hs | cases g
  | dK kvs =>
    cases y with
    | int i => exact ix_dict hu value slice pins s σ H _ _ v u Q I rx ry ⟨p, z, rfl, .inl ⟨kvs, Sum.inl i, .inl e, rfl, g.symm⟩, q⟩ hs
    | str x => exact ix_dict hu value slice pins s σ H _ _ v u Q I rx ry ⟨p, z, rfl, .inl ⟨kvs, Sum.inr x, .inl e, rfl, g.symm⟩, q⟩ hs
    | _ => cases g
  | _ => cases y <;> cases g

/-! ### len -/
def lenO : HO → Option Nat
  | .lst xs => some xs.length
  | .tup xs => some xs.length
  | .dK kvs => some kvs.length
  | _ => none
def lenX (H : Hp) : V → Option Nat
  | .ref p => (H p).bind lenO
  | .str z => if z.length ≤ sizeLine then some z.length else none
  | _ => none
theorem lenX_r {H : Hp} {p : Addr} : lenX H (.ref p) = (H p).bind lenO := rfl
theorem lenO_l {xs : List V} : lenO (.lst xs) = some xs.length := rfl
theorem lenO_t {xs : List V} : lenO (.tup xs) = some xs.length := rfl
theorem lenO_d {kvs : List (Key × V)} : lenO (.dK kvs) = some kvs.length := rfl
def rLenX : List V → Hp → VK → Prop := fun xs H Q => ∃ x n, xs = [x] ∧ lenX H x = some n ∧ Q (.int n) H
theorem call_lenX : CallR X (.builtin "len") rLenX := by
  intro pins s σ H xs us Q I r h
  obtain ⟨x, n, rfl, g, q⟩ := h
  cases x with
  | ref p =>
    cases e : H p with
    | none => rw [lenX_r, e] at g; cases g
    | some o =>
      rw [lenX_r, e] at g
      cases o with
      | lst xs => cases g; exact call_len_seq pins s σ H _ us Q I r ⟨p, xs, rfl, .inl (SqL.of e), q⟩
      | tup xs => cases g; exact call_len_seq pins s σ H _ us Q I r ⟨p, xs, rfl, .inr (SqT.of e), q⟩
      | dK kvs =>
        cases g
        obtain ⟨u, rfl, rx⟩ := vals1 r
        cases rx
        exact d_len I (.inl e) fun t s' I' => ⟨.int _, H, I', ⟨t, rfl⟩, q⟩
      | _ => cases g
  | str z =>
    have g' : (if z.length ≤ sizeLine then some z.length else none) = some n := g
    split at g'
    · cases g'
      rename_i hz
      exact call_len_str pins s σ H _ us Q I r ⟨z, rfl, hz, q⟩
    · cases g'
  | _ => cases g

/-! ### truth -/
def truO : HO → Option Bool
  | .lst xs => some (!xs.isEmpty)
  | .tup xs => some (!xs.isEmpty)
  | .dK kvs => some (!kvs.isEmpty)
  | _ => none
def truX (H : Hp) : V → Option Bool
  | .non => some false
  | .bl b => some b
  | .int i => some (i != 0)
  | .ref p => (H p).bind truO
  | _ => none
theorem truX_n {H : Hp} : truX H .non = some false := rfl
theorem truX_b {H : Hp} {b : Bool} : truX H (.bl b) = some b := rfl
theorem truX_i {H : Hp} {i : Int} : truX H (.int i) = some (i != 0) := rfl
theorem truX_r {H : Hp} {p : Addr} : truX H (.ref p) = (H p).bind truO := rfl
theorem truO_l {xs : List V} : truO (.lst xs) = some (!xs.isEmpty) := rfl
theorem truO_t {xs : List V} : truO (.tup xs) = some (!xs.isEmpty) := rfl
theorem truO_d {kvs : List (Key × V)} : truO (.dK kvs) = some (!kvs.isEmpty) := rfl
def tTruX (ta : TE) : TT := fun σ H Q => ta σ H fun x H' => ∃ k, truX H' x = some k ∧ Q k H'
theorem tru_x : TruR X (fun x H Q => ∃ k, truX H x = some k ∧ Q k H) := by
  intro pins s σ H x v Q I rx h
  obtain ⟨k, g, q⟩ := h
  refine tru_ok pins s σ H x v Q I rx ⟨k, ?_, q⟩
  cases x with
  | non => cases g; rfl
  | bl b => cases g; rfl
  | int i => cases g; rfl
  | ref p =>
    cases e : H p with
    | none => rw [truX_r, e] at g; cases g
    | some o =>
      rw [truX_r, e] at g
      cases o with
      | lst xs => cases g; exact .inl ⟨xs, SqL.of e, rfl⟩
      | tup xs => cases g; exact .inr (.inl ⟨xs, SqT.of e, rfl⟩)
      | dK kvs => cases g; exact .inr (.inr ⟨kvs, e, rfl⟩)
      | _ => cases g
  | _ => cases g
theorem pt_truX {a : Expr} {ta : TE} (ha : PE X a ta) (he : ∀ whole, isTrue a X.env whole = (do let v ← whole; standAt a.pos; holding [v] (truthy v)) := by intro _; rfl) : PT X a (tTruX ta) := by
  intro pins s σ H Q I h
  exact isTrue_plain (thn (ha pins s σ H _ I h) fun v s1 ⟨x, H1, I1, r1, q1⟩ => tru_x pins s1 σ H1 x v Q I1 r1 q1) (he _)

/-! ### in, not in -/
def inO : HO → V → Option Bool
  | .lst xs, x => if flatV x = true ∧ xs.all flatV = true then some (inV x xs) else none
  | .tup xs, x => if flatV x = true ∧ xs.all flatV = true then some (inV x xs) else none
  | .dK kvs, .int i => some (valV kvs (Sum.inl i)).isSome
  | .dK kvs, .str z => some (valV kvs (Sum.inr z)).isSome
  | _, _ => none
theorem inO_di {kvs : List (Key × V)} {i : Int} : inO (.dK kvs) (.int i) = some (valV kvs (Sum.inl i)).isSome := rfl
theorem inO_ds {kvs : List (Key × V)} {z : Str} : inO (.dK kvs) (.str z) = some (valV kvs (Sum.inr z)).isSome := rfl
def rInX : R2 := fun x y H Q => ∃ p o b, y = .ref p ∧ H p = some o ∧ inO o x = some b ∧ Q (.bl b) H
def rNotInX : R2 := fun x y H Q => ∃ p o b, y = .ref p ∧ H p = some o ∧ inO o x = some b ∧ Q (.bl (!b)) H
/-! ### o[i] = v -/
def setO : HO → V → V → Option HO
  | .lst xs, .int k, v => (ixN xs.length k).map fun j => .lst (xs.set j v)
  | .dK kvs, .int i, v => if kvs.length < sizeLine then some (.dK (putK kvs (Sum.inl i) v)) else none
  | .dK kvs, .str z, v => if kvs.length < sizeLine then some (.dK (putK kvs (Sum.inr z) v)) else none
  | _, _, _ => none
theorem setO_l {xs : List V} {k : Int} {v : V} : setO (.lst xs) (.int k) v = (ixN xs.length k).map fun j => .lst (xs.set j v) := rfl
def rSetX : V → V → V → Hp → (Hp → Prop) → Prop := fun o i v H Q => ∃ p ob ob', o = .ref p ∧ H p = some ob ∧ setO ob i v = some ob' ∧ Q (upd H p ob')
theorem set_x (hu : X.A.units + 1 < cLine) : PSet X rSetX := by
  intro pins s σ H o i v ov iv u Q I ro ri rv h
  obtain ⟨p, ob, ob', rfl, e, g, q⟩ := h
  cases ob with
  | lst xs =>
    cases i with
    | int k =>
      cases z : ixN xs.length k with
      | none => rw [setO_l, z] at g; cases g
      | some j =>
        rw [setO_l, z] at g
        cases g
        exact set_list pins s σ H _ _ v ov iv u Q I ro ri rv ⟨p, xs, k, j, rfl, rfl, e, z, q⟩
    | _ => cases g
  | dK kvs =>
    cases ro
    cases i with
    | int k =>
      have g' : (if kvs.length < sizeLine then some (HO.dK (putK kvs (Sum.inl k) v)) else none) = some ob' := g
      split at g'
      · rename_i hz
        cases g'
        exact d_setItem hu I (.inl ⟨kvs, Sum.inl k, e, rfl, hz, rfl⟩) ri rv fun s' I' => ⟨_, I', q⟩
      · cases g'
    | str k =>
      have g' : (if kvs.length < sizeLine then some (HO.dK (putK kvs (Sum.inr k) v)) else none) = some ob' := g
      split at g'
      · rename_i hz
        cases g'
        exact d_setItem hu I (.inl ⟨kvs, Sum.inr k, e, rfl, hz, rfl⟩) ri rv fun s' I' => ⟨_, I', q⟩
      · cases g'
    | _ => cases g
  | _ => cases i <;> cases g

/-! ### slices, list(x), tuple(x) -/
def rSlX : V → Option Int → Option Int → Hp → VK → Prop := fun x lo hi H Q => ∃ a xs, x = .ref a ∧ H a = some (.lst xs) ∧ ∀ p, H p = none → Q (.ref p) (upd H p (.lst (cutV xs lo hi)))
theorem sl_X : SlR X rSlX := sl_list.weak fun _ _ _ _ _ ⟨a, xs, e, h, q⟩ => ⟨a, xs, e, SqL.of h, q⟩
def seqO : HO → Option (List V)
  | .lst xs => some xs
  | .tup xs => some xs
  | _ => none
theorem seqO_l {xs : List V} : seqO (.lst xs) = some xs := rfl
theorem seqO_t {xs : List V} : seqO (.tup xs) = some xs := rfl
theorem seqO_of {K : PySem.W.Frag} {H : Hp} {p : Addr} {o : HO} {ys : List V} (h : H p = some o) (g : seqO o = some ys) : SqL K H p ys ∨ SqT K H p ys := by
  cases o with
  | lst xs => cases g; exact .inl (SqL.of h)
  | tup xs => cases g; exact .inr (SqT.of h)
  | _ => cases g
def rListX : List V → Hp → VK → Prop := fun xs H Q => ∃ p o ys, xs = [.ref p] ∧ H p = some o ∧ seqO o = some ys ∧ ∀ l, H l = none → Q (.ref l) (upd H l (.lst ys))
theorem call_listX : CallR X (.type "list") rListX := call_list_of.weak fun _ _ _ ⟨p, o, ys, e, h, g, q⟩ => ⟨p, ys, e, seqO_of h g, q⟩
def rTupX : List V → Hp → VK → Prop := fun xs H Q => ∃ p ys, xs = [.ref p] ∧ H p = some (.lst ys) ∧ ∀ l, H l = none → Q (.ref l) (upd H l (.tup ys))
/-! ### targets and loops -/
def gTupX (n : Nat) (t : TGs) : TG := fun v σ H Q => ∃ a xs, v = .ref a ∧ H a = some (.tup xs) ∧ xs.length = n ∧ t xs σ H Q
/-! ### equality of scalars, of data -/
/-- data that may be compared -/
def Dt (H : Hp) (v : V) (d : PyData) : Prop := (∀ K : PySem.W.Frag, Has K H v d) ∧ PyData.canLay0 d = true ∧ PyData.eqv d d = true
def Dts (H : Hp) (xs : List V) (ds : List PyData) : Prop := (∀ K : PySem.W.Frag, HasAll K H xs ds) ∧ PyData.canLayAll0 ds = true ∧ PyData.eqvAll ds ds = true
theorem Im.dt {H : Hp} {v : V} {d : PyData} (h : Im H v d) : Dt H v d := ⟨fun _ => h.has, h.lay, h.refl⟩
theorem Ims.dts {H : Hp} {v : List V} {d : List PyData} (h : Ims H v d) : Dts H v d := ⟨fun _ => h.has, h.lay, h.refl⟩
theorem Dt.has {K : PySem.W.Frag} {H : Hp} {v : V} {d : PyData} (h : Dt H v d) : Has K H v d := h.1 K
theorem Dt.lay {H : Hp} {v : V} {d : PyData} (h : Dt H v d) : PyData.canLay0 d = true := h.2.1
theorem Dt.ls {H : Hp} {l : Addr} {xs : List V} {ds : List PyData} (e : H l = some (.lst xs)) (m : Dts H xs ds) : Dt H (.ref l) (.list ds) := ⟨fun K => .lst (SqL.of e) (m.1 K), by rw [PyData.canLay0]; exact m.2.1, by rw [PyData.eqv]; exact m.2.2⟩
theorem Dt.l {H : Hp} {l : Addr} {xs : List V} {ds : List PyData} (e : H l = some (.lst xs)) (m : Ims H xs ds) : Dt H (.ref l) (.list ds) := .ls e m.dts
theorem Dts.nil {H : Hp} : Dts H [] [] := ⟨fun _ => .nil, by simp [PyData.canLayAll0], by simp [PyData.eqvAll]⟩
theorem Dts.cons {H : Hp} {x : V} {xs : List V} {d : PyData} {ds : List PyData} (h : Dt H x d) (t : Dts H xs ds) : Dts H (x :: xs) (d :: ds) :=
  ⟨fun K => .cons (h.1 K) (t.1 K), by rw [PyData.canLayAll0, h.2.1, t.2.1]; rfl, by rw [PyData.eqvAll, h.2.2, t.2.2]; rfl⟩
theorem Dts.app {H : Hp} {ys : List V} {es : List PyData} (t : Dts H ys es) : ∀ {xs : List V} {ds : List PyData}, Dts H xs ds → Dts H (xs ++ ys) (ds ++ es)
  | [], [], _ => t
  | [], _ :: _, h => by cases h.1 [] 
  | _ :: _, [], h => by cases h.1 []
  | x :: xs, d :: ds, h => by
    refine .cons ⟨fun K => ?_, ?_, ?_⟩ (Dts.app t ⟨fun K => ?_, ?_, ?_⟩)
    · cases h.1 K with | cons a b => exact a
    · have := h.2.1; rw [PyData.canLayAll0, Bool.and_eq_true] at this; exact this.1
    · have := h.2.2; rw [PyData.eqvAll, Bool.and_eq_true] at this; exact this.1
    · cases h.1 K with | cons a b => exact b
    · have := h.2.1; rw [PyData.canLayAll0, Bool.and_eq_true] at this; exact this.2
    · have := h.2.2; rw [PyData.eqvAll, Bool.and_eq_true] at this; exact this.2
def rEqX : R2 := fun x y H Q => ∃ d e, Dt H x d ∧ Dt H y e ∧ d.depth ≤ 60 ∧ e.depth ≤ 60 ∧ Q (.bl (PyData.eqv d e)) H
theorem op_eqX (hu : X.A.units + 64 < cLine) : OpR X (compareOp .Eq) rEqX := (op_eqD hu).weak fun _ _ _ _ ⟨d, e, h1, h2, d1, d2, q⟩ => ⟨d, e, h1.has, h2.has, shaped_of h1.lay (by omega), shaped_of h2.lay (by omega), q⟩
/-! ### methods of a list -/
def tBL (r : V → List V → Hp → VK → Prop) (to : TE) (t : TA) : TE := fun σ H Q => to σ H fun x H1 => ∃ p xs, x = .ref p ∧ H1 p = some (.lst xs) ∧ t σ H1 fun xs H2 => r x xs H2 Q
def tBL0 (r : V → List V → Hp → VK → Prop) (to : TE) : TE := fun σ H Q => to σ H fun x H1 => ∃ p xs, x = .ref p ∧ H1 p = some (.lst xs) ∧ r x [] H1 Q
theorem PE.weak {e : Expr} {t t' : TE} (h : PE X e t) (w : ∀ σ H Q, t' σ H Q → t σ H Q) : PE X e t' := fun pins s σ H Q I q => h pins s σ H Q I (w _ _ _ q)
theorem pe_lm {o e : Expr} {es : List Expr} {to : TE} {t : TA} {name : Str} {apos cpos : Pos} {id : String} {r : V → List V → Hp → VK → Prop}
    (slot : Slot "list" name id) (hty : typeOf (.builtin id) = pure (.type "method_descriptor")) (hm : MtR X id r) (ho : PE X o to) (ha : PA X (e :: es) t)
    (hbase : attributeBase o name X.env (eval o X.env) = eval o X.env := by rfl)
    (hfew : ((backTo cpos (starEach (e :: es) X.env)).all (fun x => !x.1) && (backToKw cpos (keywordEach [] X.env)).all (fun x => x.1.isSome)
      && decide ((e :: es).length + ([] : List Keyword).length + (if ([] : List Keyword).isEmpty then 0 else 1) < 30)) = true := by rfl)
    (hline : (apos.endLine == cpos.line) = true := by rfl) (hs : starEach (e :: es) X.env = (false, eval e X.env) :: starEach es X.env := by rfl) (hplain : (backTo cpos (starEach es X.env)).any (·.1) = false := by rfl) :
    PE X (.Call (.Attribute o name apos) (e :: es) [] cpos) (tBL r to t) := by
  intro pins s σ H Q I h
  refine wpAny_Call_method_late hbase hfew hline rfl (thn (ho pins s σ H _ I h) fun v s1 ⟨x, H1, I1, r1, p, xs, ex, ep, q1⟩ => ?_)
  subst ex
  obtain ⟨h1, h2⟩ := tyV_is I1 r1 (show tyV X.K "list" (.ref p) H1 from .inl ⟨rfl, xs, SqL.of ep⟩)
  refine ⟨"list", id, PySem.F.plainAttrs_list, slot, hty, h1, h2, ?_⟩
  have hA := ha cpos pins s1 σ H1 _ I1 q1
  rw [hs] at hA ⊢
  refine Calls.callWith_builtin (by show (false || (backTo cpos (starEach es X.env)).any (·.1)) = false; rw [hplain] <;> rfl) (Calls.evalArgs_plain ?_)
  exact thn hA fun us s2 ⟨vs, H2, I2, r2, q2⟩ => hm pins s2 σ H2 _ vs v us Q I2 r1 r2 q2
def rSumX : List V → Hp → VK → Prop := fun xs H Q => ∃ (p : Addr) (ns : List Int), xs = [.ref p] ∧ H p = some (.lst (ns.map V.int)) ∧ Q (.int ns.sum) H
theorem make_same {H H' : Hp} {x dx : Addr} {o1 o2 : HO} (hx : H x = none) (hdx : H dx = none) (k : Keep [x] (upd (upd H dx o1) x o2) H') : Same H H' := fun b o e => by
  have n1 : b ≠ x := ne_of_none e hx
  have n2 : b ≠ dx := ne_of_none e hdx
  exact k b o (by rw [upd_ne n1, upd_ne n2]; exact e) (by simp; exact n1)
/-! ### a body in parts -/
theorem use1 {t1 R : TS} {D : Ends} {σ : St} {H : Hp} (Pm : St → Hp → Prop) (key : ∀ σ' H', Pm σ' H' → R D σ' H') (go : ∀ R' : TS, (∀ σ' H', Pm σ' H' → R' D σ' H') → tSeq t1 R' D σ H) : tSeq t1 R D σ H := go R key
theorem use2 {t1 t2 R : TS} {D : Ends} {σ : St} {H : Hp} (Pm : St → Hp → Prop) (key : ∀ σ' H', Pm σ' H' → R D σ' H') (go : ∀ R' : TS, (∀ σ' H', Pm σ' H' → R' D σ' H') → tSeq t1 (tSeq t2 R') D σ H) : tSeq t1 (tSeq t2 R) D σ H := go R key
theorem use7 {t1 t2 t3 t4 t5 t6 t7 R : TS} {D : Ends} {σ : St} {H : Hp} (Pm : St → Hp → Prop) (key : ∀ σ' H', Pm σ' H' → R D σ' H') (go : ∀ R' : TS, (∀ σ' H', Pm σ' H' → R' D σ' H') → tSeq t1 (tSeq t2 (tSeq t3 (tSeq t4 (tSeq t5 (tSeq t6 (tSeq t7 R')))))) D σ H) : tSeq t1 (tSeq t2 (tSeq t3 (tSeq t4 (tSeq t5 (tSeq t6 (tSeq t7 R)))))) D σ H := go R key
theorem rNe_nn {H : Hp} {Q : VK} : rNe .non .non H Q = Q (.bl false) H := by simp [rNe, scal]
theorem rEq_nn {H : Hp} {Q : VK} : rEq .non .non H Q = Q (.bl true) H := by simp [rEq, scal]
theorem rNe_in {i : Int} {H : Hp} {Q : VK} : rNe (.int i) .non H Q = Q (.bl true) H := by simp [rNe, scal]
theorem rEq_in {i : Int} {H : Hp} {Q : VK} : rEq (.int i) .non H Q = Q (.bl false) H := by simp [rEq, scal]
theorem rNe_ni {i : Int} {H : Hp} {Q : VK} : rNe .non (.int i) H Q = Q (.bl true) H := by simp [rNe, scal]
theorem rEq_ni {i : Int} {H : Hp} {Q : VK} : rEq .non (.int i) H Q = Q (.bl false) H := by simp [rEq, scal]
theorem noT1 {H : Hp} {b : Addr} (h : NoT H b) : ∀ c ∈ [b], NoT H c := fun c hc => by rw [List.mem_singleton] at hc; subst hc; exact h
theorem ixN_10 : ixN 1 0 = some 0 := rfl
theorem ixN_20 : ixN 2 0 = some 0 := rfl
theorem ixN_21 : ixN 2 1 = some 1 := rfl
theorem ixN_30 : ixN 3 0 = some 0 := rfl
theorem ixN_31 : ixN 3 1 = some 1 := rfl
theorem ixN_32 : ixN 3 2 = some 2 := rfl
theorem ixN_40 : ixN 4 0 = some 0 := rfl
theorem ixN_41 : ixN 4 1 = some 1 := rfl
theorem ixN_42 : ixN 4 2 = some 2 := rfl
theorem ixN_43 : ixN 4 3 = some 3 := rfl
theorem ixN_50 : ixN 5 0 = some 0 := rfl
theorem ixN_51 : ixN 5 1 = some 1 := rfl
theorem ixN_52 : ixN 5 2 = some 2 := rfl
theorem ixN_53 : ixN 5 3 = some 3 := rfl
theorem ixN_54 : ixN 5 4 = some 4 := rfl
/-! ### the first branch of an if in parts -/
/-! ### small facts for simp -/
theorem atI_0 {α : Type} {a : α} {l : List α} : atI (a :: l) 0 = some a := by simp [atI, ixN]
theorem atI_1 {α : Type} {a b : α} {l : List α} : atI (a :: b :: l) 1 = some b := by
  simp only [atI, ixN, List.length_cons]
  rw [if_pos (by decide), if_pos (by omega)]
  rfl
theorem atI_2 {α : Type} {a b c : α} {l : List α} : atI (a :: b :: c :: l) 2 = some c := by
  simp only [atI, ixN, List.length_cons]
  rw [if_pos (by decide), if_pos (by omega)]
  rfl
theorem atI_3 {α : Type} {a b c d : α} {l : List α} : atI (a :: b :: c :: d :: l) 3 = some d := by
  simp only [atI, ixN, List.length_cons]
  rw [if_pos (by decide), if_pos (by omega)]
  rfl
theorem atI_nat' {α : Type} {l : List α} {n : Nat} : atI l (n : Int) = l[n]? := by
  unfold atI ixN
  rw [if_pos (by omega)]
  split
  · simp
  · rw [List.getElem?_eq_none (by omega)]; rfl
theorem atI_pos {α : Type} {l : List α} {k : Int} (h0 : 0 ≤ k) : atI l k = l[k.toNat]? := by
  obtain ⟨n, rfl⟩ := Int.eq_ofNat_of_zero_le h0
  exact atI_nat'
theorem eqX_same {H : Hp} {x y : V} {d : PyData} {Q : VK} (h1 : Dt H x d) (h2 : Dt H y d) (hd : d.depth ≤ 60) (q : Q (.bl true) H) : rEqX x y H Q :=
  ⟨d, d, h1, h2, hd, hd, by rw [h1.2.2]; exact q⟩
/-! ### isinstance with a built-in class -/
def tyO : HO → Option String
  | .lst _ => some "list"
  | .tup _ => some "tuple"
  | .dK _ => some "dict"
  | _ => none
def tyX (H : Hp) : V → Option String
  | .non => some "NoneType"
  | .bl _ => some "bool"
  | .int _ => some "int"
  | .str _ => some "str"
  | .ref p => (H p).bind tyO
  | _ => none
theorem tyX_n {H : Hp} : tyX H .non = some "NoneType" := rfl
theorem tyX_b {H : Hp} {b : Bool} : tyX H (.bl b) = some "bool" := rfl
theorem tyX_i {H : Hp} {i : Int} : tyX H (.int i) = some "int" := rfl
theorem tyX_s {H : Hp} {z : Str} : tyX H (.str z) = some "str" := rfl
theorem tyX_r {H : Hp} {p : Addr} : tyX H (.ref p) = (H p).bind tyO := rfl
theorem tyO_l {xs : List V} : tyO (.lst xs) = some "list" := rfl
theorem tyO_t {xs : List V} : tyO (.tup xs) = some "tuple" := rfl
theorem tyO_d {kvs : List (Key × V)} : tyO (.dK kvs) = some "dict" := rfl
def kT : String → String → Option Bool
  | "NoneType", "int" => some false
  | "NoneType", "bool" => some false
  | "NoneType", "str" => some false
  | "NoneType", "list" => some false
  | "NoneType", "tuple" => some false
  | "NoneType", "dict" => some false
  | "bool", "int" => some true
  | "bool", "bool" => some true
  | "bool", "str" => some false
  | "bool", "list" => some false
  | "bool", "tuple" => some false
  | "bool", "dict" => some false
  | "int", "int" => some true
  | "int", "bool" => some false
  | "int", "str" => some false
  | "int", "list" => some false
  | "int", "tuple" => some false
  | "int", "dict" => some false
  | "str", "int" => some false
  | "str", "bool" => some false
  | "str", "str" => some true
  | "str", "list" => some false
  | "str", "tuple" => some false
  | "str", "dict" => some false
  | "list", "int" => some false
  | "list", "bool" => some false
  | "list", "str" => some false
  | "list", "list" => some true
  | "list", "tuple" => some false
  | "list", "dict" => some false
  | "tuple", "int" => some false
  | "tuple", "bool" => some false
  | "tuple", "str" => some false
  | "tuple", "list" => some false
  | "tuple", "tuple" => some true
  | "tuple", "dict" => some false
  | "dict", "int" => some false
  | "dict", "bool" => some false
  | "dict", "str" => some false
  | "dict", "list" => some false
  | "dict", "tuple" => some false
  | "dict", "dict" => some true
  | _, _ => none
theorem kT_Noin : kT "NoneType" "int" = some false := rfl
theorem kT_Nobo : kT "NoneType" "bool" = some false := rfl
theorem kT_Nost : kT "NoneType" "str" = some false := rfl
theorem kT_Noli : kT "NoneType" "list" = some false := rfl
theorem kT_Notu : kT "NoneType" "tuple" = some false := rfl
theorem kT_Nodi : kT "NoneType" "dict" = some false := rfl
theorem kT_boin : kT "bool" "int" = some true := rfl
theorem kT_bobo : kT "bool" "bool" = some true := rfl
theorem kT_bost : kT "bool" "str" = some false := rfl
theorem kT_boli : kT "bool" "list" = some false := rfl
theorem kT_botu : kT "bool" "tuple" = some false := rfl
theorem kT_bodi : kT "bool" "dict" = some false := rfl
theorem kT_inin : kT "int" "int" = some true := rfl
theorem kT_inbo : kT "int" "bool" = some false := rfl
theorem kT_inst : kT "int" "str" = some false := rfl
theorem kT_inli : kT "int" "list" = some false := rfl
theorem kT_intu : kT "int" "tuple" = some false := rfl
theorem kT_indi : kT "int" "dict" = some false := rfl
theorem kT_stin : kT "str" "int" = some false := rfl
theorem kT_stbo : kT "str" "bool" = some false := rfl
theorem kT_stst : kT "str" "str" = some true := rfl
theorem kT_stli : kT "str" "list" = some false := rfl
theorem kT_sttu : kT "str" "tuple" = some false := rfl
theorem kT_stdi : kT "str" "dict" = some false := rfl
theorem kT_liin : kT "list" "int" = some false := rfl
theorem kT_libo : kT "list" "bool" = some false := rfl
theorem kT_list : kT "list" "str" = some false := rfl
theorem kT_lili : kT "list" "list" = some true := rfl
theorem kT_litu : kT "list" "tuple" = some false := rfl
theorem kT_lidi : kT "list" "dict" = some false := rfl
theorem kT_tuin : kT "tuple" "int" = some false := rfl
theorem kT_tubo : kT "tuple" "bool" = some false := rfl
theorem kT_tust : kT "tuple" "str" = some false := rfl
theorem kT_tuli : kT "tuple" "list" = some false := rfl
theorem kT_tutu : kT "tuple" "tuple" = some true := rfl
theorem kT_tudi : kT "tuple" "dict" = some false := rfl
theorem kT_diin : kT "dict" "int" = some false := rfl
theorem kT_dibo : kT "dict" "bool" = some false := rfl
theorem kT_dist : kT "dict" "str" = some false := rfl
theorem kT_dili : kT "dict" "list" = some false := rfl
theorem kT_ditu : kT "dict" "tuple" = some false := rfl
theorem kT_didi : kT "dict" "dict" = some true := rfl
def rIsIX : List V → Hp → VK → Prop := fun xs H Q => ∃ x n t r, xs = [x, .ty n] ∧ tyX H x = some t ∧ kT t n = some r ∧ Q (.bl r) H
theorem setO_di' {kvs : List (Key × V)} {i : Int} {v : V} : setO (.dK kvs) (.int i) v = if kvs.length < sizeLine then some (.dK (putK kvs (Sum.inl i) v)) else none := rfl
theorem setO_ds' {kvs : List (Key × V)} {z : Str} {v : V} : setO (.dK kvs) (.str z) v = if kvs.length < sizeLine then some (.dK (putK kvs (Sum.inr z) v)) else none := rfl
theorem lenX_s' {H : Hp} {z : Str} : lenX H (.str z) = if z.length ≤ sizeLine then some z.length else none := rfl
theorem inO_l' {xs : List V} {x : V} : inO (.lst xs) x = if flatV x = true ∧ xs.all flatV = true then some (inV x xs) else none := rfl
theorem inO_t' {xs : List V} {x : V} : inO (.tup xs) x = if flatV x = true ∧ xs.all flatV = true then some (inV x xs) else none := rfl
end
end L2
/-! Loops over texts and over a dict's keys; texts compared. -/
namespace L2
open PySem PySem.Spec PyProof.Rows
section
variable {X : Cx}
/-- what is walked stands fast: these values, in this order -/
def Itv (xs : List V) : It := ⟨fun i _ => i < xs.length, fun i H x H' => H' = H ∧ xs[i]? = some x, fun i _ => i = xs.length⟩
/-- the signs of a text -/
def signs (z : Str) : List V := z.cps.toList.map fun c => V.str ⟨#[c]⟩
def iStr (tl : TE) : TI := fun σ H R => tl σ H fun x H1 => ∃ z, x = .str z ∧ R (Itv (signs z)) H1
/-! ### loops and comprehensions over what stands fast -/
/-! ### texts -/
def rLeS : R2 := fun x y H Q => ∃ a b, x = .str a ∧ y = .str b ∧ Q (.bl (!decide (b.cps.toList < a.cps.toList))) H
theorem rEq_ss {a b : Str} {H : Hp} {Q : VK} : rEq (.str a) (.str b) H Q = Q (.bl (decide (a = b))) H := by simp [rEq, scal]
theorem rNe_ss {a b : Str} {H : Hp} {Q : VK} : rNe (.str a) (.str b) H Q = Q (.bl (!decide (a = b))) H := by simp [rNe, scal]
def rStr1 : List V → Hp → VK → Prop := fun xs H Q => (∃ i : Int, xs = [.int i] ∧ i.natAbs.log2 < 1920 ∧ Q (.str (toString i)) H) ∨ ∃ b : Bool, xs = [.bl b] ∧ Q (.str (if b = true then Str.ofString "True" else Str.ofString "False")) H
def rAllX : List V → Hp → VK → Prop := fun xs H Q => ∃ (p : Addr) (bs : List Bool), xs = [.ref p] ∧ H p = some (.lst (bs.map V.bl)) ∧ Q (.bl (bs.all id)) H
def rAnyX : List V → Hp → VK → Prop := fun xs H Q => ∃ (p : Addr) (bs : List Bool), xs = [.ref p] ∧ H p = some (.lst (bs.map V.bl)) ∧ Q (.bl (bs.any id)) H
/-! ### list(d) -/
def rListD : List V → Hp → VK → Prop := fun xs H Q => ∃ p kvs, xs = [.ref p] ∧ H p = some (.dK kvs) ∧ ∀ l, H l = none → Q (.ref l) (upd H l (.lst (kvs.map fun q => kV q.1)))
/-! ### a, b = a list -/
theorem draw_list {prog : Program} {w : World} {A : Around} {E : Value → Shared → Prop} {it l : Addr} {items : Array Value} (hne : l ≠ it) : ∀ (n i : Nat) (s : Shared) (Q : List Value → Shared → Prop), s.heap.IsListIter it l i → s.heap.IsList l items → i + n ≤ items.size →
    (∀ h', h'.IsListIter it l (i + n) → Heap.SameBut it s.heap h' → Q ((items.toList.drop i).take n) { s with heap := h' }) → wpAny (model prog w) A (draw (.ref it) n) Q E s
  | 0, i, s, Q, hit, _, _, hQ => by
    show wpAny _ _ (pure []) Q E s
    exact wpAny_pure (by simpa using hQ s.heap hit (Heap.SameBut.refl ..))
  | n + 1, i, s, Q, hit, ht, hle, hQ => by
    have hlt : i < items.size := by omega
    show wpAny _ _ (pyNext (.ref it) >>= _) Q E s
    refine wpAny_bind (wpAny_pyNext_list_item hit ht (x := items[i]) (by simp [hlt]) fun h₁ hit₁ hs₁ => ?_)
    have ht1 : h₁.IsList l items := by
      obtain ⟨o, ho, r⟩ := ht
      exact ⟨o, hs₁.extBut _ _ hne ho, r⟩
    refine wpAny_bind (wpAny_holding (draw_list hne n (i + 1) _ _ hit₁ ht1 (by omega) fun h₂ hit₂ hs₂ => wpAny_pure ?_))
    have hd : items.toList.drop i = items[i] :: items.toList.drop (i + 1) := by simp [List.drop_eq_getElem_cons, hlt]
    have := hQ h₂ (by rw [show i + (n + 1) = i + 1 + n by omega]; exact hit₂) (hs₁.trans hs₂)
    rw [hd, List.take_succ_cons] at this
    exact this
theorem unpackItems_list {prog : Program} {w : World} {A : Around} {E : Value → Shared → Prop} {s : Shared} {t : Addr} {items : Array Value} {Q : List Value → Shared → Prop} (hh : A.handled = none) (ht : s.heap.IsList t items)
    (hQ : ∀ h', Heap.ExtBut s.heap.objs.size s.heap h' → Q items.toList { s with heap := h' }) : wpAny (model prog w) A (unpackItems (.ref t) items.size none) Q E s := by
  have hlt : t ≠ s.heap.objs.size := by obtain ⟨o, ho, _⟩ := ht; exact Nat.ne_of_lt (Heap.lt_size ho)
  unfold unpackItems
  refine wpAny_bind ?_
  · unfold notIterableAtAll
    refine wpAny_bind (wpAny_specialOf ht.typeIs PySem.F.slot_list_iter.lookup ?_)
    refine wpAny_pure ?_
    simp only [Bool.false_eq_true, if_false]
    refine wpAny_bind (wpAny_holding (wpAny_pyIter_list ht ?_))
    have ht0 : ∀ o', (s.heap.push o').IsList t items := fun o' => by
      obtain ⟨o, ho, r⟩ := ht
      exact ⟨o, Heap.get?_push_of_some _ ho, r⟩
    refine wpAny_bind (wpAny_holding (draw_list hlt items.size 0 _ _ ⟨_, Heap.get?_push_size _ rfl, rfl, rfl⟩ (ht0 _) (by omega) fun h₁ hit₁ hs₁ => ?_))
    have hall : List.take items.size (List.drop 0 items.toList) = items.toList := by
      rw [List.drop_zero]; exact List.take_of_length_le (by simp)
    rw [hall]
    rw [if_neg (by simp)]
    have ht₁ : h₁.IsList t items := by
      obtain ⟨o, ho, r⟩ := ht0 _
      exact ⟨o, hs₁.extBut _ _ hlt ho, r⟩
    refine wpAny_bind (wpAny_holding (wpAny_pyNext_list_end hh hit₁ ht₁ (by simp) fun h₂ he₂ => ?_))
    simp only [Option.isSome_none, Bool.false_eq_true, if_false]
    refine wpAny_pure (hQ h₂ fun b o hb e => he₂ b o hb (hs₁.extBut b o hb (Heap.get?_push_of_some _ e)))
theorem assign_Tuple_list {prog : Program} {w : World} {A : Around} {E : Value → Shared → Prop} {s : Shared} {env : Env} {elts : List Expr} {x1} {pos : Pos} {t : Addr} {items : Array Value} {Q : Unit → Shared → Prop} (hh : A.handled = none) (ht : s.heap.IsList t items)
    (hn : (assignEach elts env).length = items.size) (hstar : (assignEach elts env).findIdx? (·.1) = none)
    (h : ∀ h', Heap.ExtBut s.heap.objs.size s.heap h' → wpAny (model prog w) A (assignInOrder ((assignEach elts env).map (·.2)) items.toList) Q E { s with heap := h' }) :
    wpAny (model prog w) A (assign (.Tuple elts x1 pos) env (.ref t)) Q E s := by
  rw [assign_Tuple]
  refine wpAny_bind (wpAny_standAt ?_)
  unfold unpack
  rw [hn, hstar]
  exact wpAny_bind (wpAny_holding (unpackItems_list hh ht h))
/-- a, b, .. = a tuple or a list of that length -/
def gSeqX (n : Nat) (t : TGs) : TG := fun v σ H Q => ∃ a o xs, v = .ref a ∧ H a = some o ∧ seqO o = some xs ∧ xs.length = n ∧ t xs σ H Q
theorem pg_seqX {es : List Expr} {k : Nat} {t : TGs} {n : Nat} {pos : Pos} (hc : X.calm = true) (hg : PGs X es t)
    (hn : (assignEach es X.env).length = n := by rfl) (hst : (assignEach es X.env).findIdx? (·.1) = none := by rfl) : PG X (.Tuple es k pos) (gSeqX n t) := by
  intro pins s σ H v u Q I rv q
  obtain ⟨a, o, xs, e, hx, g, hl, q⟩ := q
  cases o with
  | tup ys => cases g; exact pg_tupK (K := X.K) (k := k) (pos := pos) hc hg hn hst rfl pins s σ H v u Q I rv ⟨a, _, e, SqT.of hx, hl, q⟩
  | lst ys =>
    cases g
    subst e
    cases rv
    obtain ⟨its, r, ht, hz⟩ := I.list (SqL.of (K := X.K) hx)
    refine assign_Tuple_list (I.ok.hd hc) ht.isList (by simp [hn, ← hl, r.length]) hst fun h' hx' => ?_
    have I1 : Inv X pins σ H { s with heap := h' } := I.kept (t' := s.toks) fun b o e => hx' b o (Nat.ne_of_lt (Heap.lt_size e)) e
    exact hg pins _ σ H _ _ Q I1 (by simpa using r) q
  | _ => cases g
end
end L2
/-! A dict's keys as a view; sorted. -/
namespace L2
open PySem PySem.Spec PyProof.Rows
section
variable {X : Cx}
/-- the keys of the dict at d, at a -/
def viewK (a d : Addr) : HO := .ext fun h => PySem.W.KdlKeysView h a d
def tDKeys (to : TE) : TE := fun σ H Q => to σ H fun x H1 => ∃ p kvs, x = .ref p ∧ H1 p = some (.dK kvs) ∧ ∀ a, H1 a = none → Q (.ref a) (upd H1 a (viewK a p))
def rSortL : List V → Hp → VK → Prop := fun xs H Q => ∃ (p : Addr) (ns : List Int), xs = [.ref p] ∧ H p = some (.lst (ns.map V.int)) ∧ ns.length < 64 ∧ ∀ ms : List Int, ms.Perm ns → ms.Pairwise (· ≤ ·) → ∀ l, H l = none → Q (.ref l) (upd H l (.lst (ms.map V.int)))
def rSortK : List V → Hp → VK → Prop := fun xs H Q => ∃ (a d : Addr) (kvs : List (Key × V)) (ns : List Int), xs = [.ref a] ∧ H a = some (viewK a d) ∧ H d = some (.dK kvs) ∧ kvs.map (·.1) = ns.map Sum.inl ∧ ns.length < 64 ∧ ∀ ms : List Int, ms.Perm ns → ms.Pairwise (· ≤ ·) → ∀ l, H l = none → Q (.ref l) (upd H l (.lst (ms.map V.int)))
/-! ### range objects, list(range(..)) -/
def rRngs : List V → Hp → VK → Prop := fun xs H Q => (∃ j : Int, xs = [.int j] ∧ ∀ p, H p = none → Q (.ref p) (upd H p (.rng 0 j))) ∨ ∃ i j : Int, xs = [.int i, .int j] ∧ ∀ p, H p = none → Q (.ref p) (upd H p (.rng i j))
def rListR : List V → Hp → VK → Prop := fun xs H Q => ∃ (p : Addr) (lo hi : Int), xs = [.ref p] ∧ H p = some (.rng lo hi) ∧ -(2 ^ 62) ≤ lo ∧ lo < 2 ^ 62 ∧ -(2 ^ 62) ≤ hi ∧ hi < 2 ^ 62 ∧ (hi - lo).toNat ≤ 100000 ∧ ∀ l, H l = none → Q (.ref l) (upd H l (.lst (((List.range (hi - lo).toNat).map fun (i : Nat) => lo + (i : Int)).map V.int)))
end
end L2
/-! for i, x in enumerate(a list). -/
namespace L2
open PySem PySem.Spec PyProof.Rows
section
variable {X : Cx}
end
end L2
namespace L2
open PySem
/-- not a starred one -/
def noStar : Expr → Bool
  | .Starred .. => false
  | _ => true
theorem star_cons {e : Expr} {es : List Expr} {env : Env} (h : noStar e = true) : starEach (e :: es) env = (false, eval e env) :: starEach es env := by
  cases e <;> first | rfl | cases h
section
variable {X : Cx} {e : Expr} {es : List Expr} {te : TE} {t : TA}
/-- pa_cons, quick in long lists -/
theorem pa_cX (ha : PE X e te) (hr : PA X es t) (h : noStar e = true := by rfl) : PA X (e :: es) (tCons te t) := pa_cons ha hr (star_cons h)
end
/-! PSs, PS closed to the elaborator: it can't evaluate the program's text inside them -/
structure WSs (X : Cx) (sts : List Stmt) (t : TS) : Prop where
  h : PSs X sts t
structure WS (X : Cx) (st : Stmt) (t : TS) : Prop where
  h : PS X st t
section
variable {X : Cx} {st : Stmt} {rest : List Stmt} {t u : TS}
end
end L2
/-! Loops over a dict: its keys, its values, its items. While it is walked, the dict is held as it is. -/
namespace L2
open PySem PySem.Spec PyProof.Rows
section
variable {X : Cx} {pins : List (Addr × Obj)} {σ : St} {H : Hp} {s : Shared} {d : Addr} {kvs : List (Key × V)}
theorem Inv.frz (I : Inv X pins σ H s) (e : H d = some (.dK kvs)) : ∃ o, s.heap.get? d = some o ∧ Inv X pins σ (upd H d (.frz o (.dK kvs))) s := by
  obtain ⟨hz, hS, vs, rel, o, es, ep, ho, r⟩ := I.hok d _ e
  refine ⟨o, ho, I.un (t' := s.toks) (h' := s.heap) ⟨fun b o q _ _ _ => q, fun b o q _ _ _ => ⟨o.slots, q⟩, fun b o _ n _ => ?_, fun b o q _ => ⟨o, q⟩, fun b xs q => ?_, fun b o u q => ?_, fun b ps q => ?_⟩ fun b u q => ?_⟩
  · rw [upd_ne (Ne.symm (ne_of_none e n))]; exact n
  · rw [upd_ne (ne_of q e (by intro z; cases z))]; exact q
  · rw [upd_ne (ne_of q e (by intro z; cases z))]; exact q
  · exact ⟨#[], by rw [upd_ne (ne_of q e (by intro z; cases z)), q]; simp⟩
  · by_cases hb : b = d
    · subst hb
      rw [upd_same] at q
      cases q
      exact ⟨ho, hz, hS, vs, rel, o, es, ep, ho, r⟩
    · rw [upd_ne hb] at q
      exact (I.hok b u q).stay (fun _ _ _ r => r) (fun c r => by rw [upd_ne (ne_of r e (by intro z; cases z))]; exact r) fun c xs r => by rw [upd_ne (ne_of r e (by intro z; cases z))]; exact r
theorem Inv.unf {o : Obj} (I : Inv X pins σ H s) (e : H d = some (.frz o (.dK kvs))) (hn : ∀ o u, X.H₀ d ≠ some (.frz o u)) : Inv X pins σ (upd H d (.dK kvs)) s := by
  have ne : ∀ {b : Addr}, H b = none → b ≠ d := fun h z => by rw [z, e] at h; cases h
  refine ⟨I.ok, I.os, I.bare, ⟨I.base.keep, I.base.slot, fun b o q n hx => ?_, I.base.there, fun b xs q => ?_, fun b o u q => ?_, fun b ps q => ?_⟩, I.loc, I.cell, ?_, fun x c h => ?_, fun p hp => ?_, fun b u q => ?_, I.len⟩
  · have := I.base.free b o q n hx
    rw [upd_ne (ne this)]; exact this
  · have := I.base.tups b xs q
    rw [upd_ne (ne_of this e (by intro z; cases z))]; exact this
  · have := I.base.frzs b o u q
    have hb : b ≠ d := fun z => hn o u (z ▸ q)
    rw [upd_ne hb]; exact this
  · obtain ⟨more, this⟩ := I.base.tbls b ps q
    exact ⟨more, by rw [upd_ne (ne_of this e (by intro z; cases z))]; exact this⟩
  · rw [upd_ne (ne I.free)]; exact I.free
  · rw [upd_ne (ne (I.freeC x c h))]; exact I.freeC x c h
  · obtain ⟨h1, h2, h3⟩ := I.pin p hp
    exact ⟨h1, by rw [upd_ne (ne h2)]; exact h2, h3⟩
  · by_cases hb : b = d
    · subst hb
      rw [upd_same] at q
      cases q
      exact (I.hok b _ e).2
    · rw [upd_ne hb] at q
      exact (I.hok b u q).stay (fun _ _ _ r => r) (fun c r => by rw [upd_ne (ne_of r e (by intro z; cases z))]; exact r) fun c xs r => by rw [upd_ne (ne_of r e (by intro z; cases z))]; exact r
def epOf (o : Obj) : Nat := match o.data with
  | .dict _ ep => ep
  | _ => 0
theorem frz_at {P : Program} {w : World} {h : Heap} {o : Obj} (ok : HOk P w H h) (e : H d = some (.frz o (.dK kvs))) : h.get? d = some o ∧ (d == sysModules) = false ∧ kvs.length ≤ sizeLine ∧ ∃ vs, KV kvs vs ∧ h.DictAt (mixKind P w) d vs (epOf o) := by
  obtain ⟨ho, hz, hS, vs, rel, o', es, ep, ho', hx, hd, r⟩ := ok d _ e
  rw [ho] at ho'
  cases ho'
  have : epOf o = ep := by unfold epOf; rw [hd]
  rw [this]
  exact ⟨ho, hS, hz, vs, rel, o, es, ho, hx, hd, r⟩
theorem KV.at {vs : List (Key × Value)} (r : KV kvs vs) {i : Nat} {p : Key × V} (h : kvs[i]? = some p) : ∃ u, vs[i]? = some (p.1, u) ∧ RelV p.2 u := by
  obtain ⟨q, hq, h1, h2⟩ := paired_get r h
  exact ⟨q.2, by rw [hq, h1], h2⟩
end
/-- what is walked of the dict at d, held as o -/
def ItF (d : Addr) (o : Obj) (kvs : List (Key × V)) (xs : List V) : It := ⟨fun i H => i < xs.length ∧ H d = some (.frz o (.dK kvs)), fun i H x H' => H' = H ∧ xs[i]? = some x, fun i H => i = xs.length ∧ H d = some (.frz o (.dK kvs))⟩
section
variable {P : Program} {w : World} {K : PySem.W.Frag} {tg : Expr} {d it : Addr} {o : Obj} {kvs : List (Key × V)}
theorem turn_dval : Turn P w K tg (ItF d o kvs (kvs.map (·.2))) [it] it (fun i h => h.IsValIter it d i kvs.length (epOf o)) where
  mem := by simp
  obj := fun i h st b hb => by
    have e : b = it := by simpa using hb
    subst e
    obtain ⟨o, e, c, d⟩ := st
    exact ⟨o, e, fun v z => by rw [d] at z; cases z⟩
  keep := fun i h h' st k => st.at fun o e => k it (by simp) o e
  item := by
    intro X hP hw hK hc i pins s σ H E I hf st hg
    subst hP hw hK
    obtain ⟨hi, hd⟩ := hg
    obtain ⟨ho, hS, hz, vs, rel, hat⟩ := frz_at I.hok hd
    obtain ⟨f0, f1, f2, f3, f4, f5⟩ := hf it (by simp)
    rw [List.length_map] at hi
    obtain ⟨u, hu, ru⟩ := rel.at (List.getElem?_eq_getElem hi)
    have hl := rel.length
    rw [hl] at st
    refine wpAny_pyNext_values_item st hat hu fun h' st' sb => ?_
    rw [← hl] at st'
    have I1 : Inv X pins σ H { s with heap := h' } := I.turned (t' := s.toks) (fun b o hb e => (sb.2 b hb).trans e) f0 f1 f3 f4 f5
    obtain ⟨o', e, c, d'⟩ := id st'
    refine ⟨u, rfl, go_of (s := { s with heap := h' }) e c d' (by decide) ⟨_, H, I1, ru, ⟨rfl, ?_⟩, st', fun b hb => (hf b hb).1⟩⟩
    rw [List.getElem?_map, List.getElem?_eq_getElem hi]
    rfl
  done := by
    intro X hP hw hK hc i pins s σ H E I hf st hg
    subst hP hw hK
    obtain ⟨hi, hd⟩ := hg
    obtain ⟨ho, hS, hz, vs, rel, hat⟩ := frz_at I.hok hd
    obtain ⟨f0, f1, f2, f3, f4, f5⟩ := hf it (by simp)
    have hl := rel.length
    rw [hl] at st
    rw [List.length_map] at hi
    exact wpAny_pyNext_values_end (I.ok.hd hc) st hat (List.getElem?_eq_none (by omega)) fun h' eb => ⟨rfl, I.turned (t' := s.toks) (fun b o hb e => eb b o hb e) f0 f1 f3 f4 f5⟩
  self := fun _ _ _ _ _ st h => wpAny_pyIter_valiter st h
end
section
variable {X : Cx}
def iDVal (td : TE) : TI := fun σ H R => td σ H fun x H1 => ∃ d kvs, x = .ref d ∧ H1 d = some (.dK kvs) ∧ ∀ o, R (ItF d o kvs (kvs.map (·.2))) (upd H1 d (.frz o (.dK kvs)))
theorem pi_dval {tg o : Expr} {td : TE} {apos cpos : Pos} (hl : PE X o td) (hbase : attributeBase o "values" X.env (eval o X.env) = eval o X.env := by rfl) (hline : (apos.endLine == cpos.line) = true := by rfl) : PI X tg (.Call (.Attribute o "values" apos) [] [] cpos) (iDVal td) := by
  intro pins s σ H R I h
  refine wpAny_Call_method0_late hbase hline (thn (hl pins s σ H _ I h) fun v s1 ⟨x, H1, I1, r1, q1⟩ => ?_)
  obtain ⟨d, kvs, rfl, hd, q⟩ := q1
  cases r1
  obtain ⟨h1, h2, _⟩ := isD_at I1 (.inl ⟨kvs, .inl hd⟩)
  obtain ⟨hz, hS, vs, rel, dd⟩ := dk_of I1.hok hd
  refine ⟨"dict", _, PySem.F.plainAttrs_dict, PySem.F.slot_dict_values, PySem.F.type_dict_values, h1, h2, Calls.callWith_builtin rfl (PySem.evalArgs_none ?_)⟩
  refine call_meetsIn PySem.F.slot_dict_values dd.typeIs PySem.F.entry_dict_values (PySem.F.args_dict_values_1 _) (PySem.meets_dict_values (mixKind X.prog X.w) d hS) ⟨⟨vs, dd⟩, ?_⟩
  obtain ⟨ob, ho, I2⟩ := I1.frz hd
  obtain ⟨_, _, _, vs2, rel2, hat⟩ := frz_at I2.hok upd_same
  have I3 : Inv X pins σ (upd H1 d (.frz ob (.dK kvs))) { s1 with heap := s1.heap.push { cls := .type "dict_values", data := .fields #[.ref d] } } := I2.kept (t' := s1.toks) fun b o e => Heap.get?_push_of_some _ e
  refine wpAny_pyIter_values (s := { s1 with heap := s1.heap.push { cls := .type "dict_values", data := .fields #[.ref d] } }) ⟨_, Heap.get?_push_size _ rfl, rfl, rfl⟩ (hat.push _) ?_
  refine ⟨_, [_], _, _, _, rfl, I3.kept (t' := s1.toks) fun b o e => Heap.get?_push_of_some _ e, turn_dval (o := ob), ⟨_, Heap.get?_push_size _ rfl, rfl, by rw [rel2.length]; rfl⟩, fun b hb => ?_, q ob⟩
  have e := List.mem_singleton.mp hb
  subst e
  exact I3.fpOk (Nat.le_refl _) (I3.hok.fresh (Nat.le_refl _))
/-! ### behind the loop -/
def Unf (H H' H'' : Hp) : Prop := H'' = H' ∨ ∃ d o kvs, H' d = some (.frz o (.dK kvs)) ∧ (∀ o u, H d ≠ some (.frz o u)) ∧ H'' = upd H' d (.dK kvs)
theorem Inv.unfs {pins : List (Addr × Obj)} {σ σ' : St} {H H' H'' : Hp} {s s' : Shared} (I : Inv X pins σ H s) (I' : Inv X pins σ' H' s') (u : Unf H H' H'') : Inv X pins σ' H'' s' := by
  rcases u with rfl | ⟨d, o, kvs, e, hn, rfl⟩
  · exact I'
  · exact I'.unf e fun o u z => hn o u (I.base.frzs d o u z)
def tUnf (t : TS) : TS := fun D σ H => t { nx := fun σ' H' => ∃ H'', Unf H H' H'' ∧ D.nx σ' H'', rt := fun v H' => ∃ H'', Unf H H' H'' ∧ D.rt v H'', bk := D.bk, ct := D.ct } σ H
theorem ps_unf {st : Stmt} {t : TS} (h : PS X st t) : PS X st (tUnf t) := by
  intro pins s σ H D I q
  refine thn (h pins s σ H _ I q) fun f s' hs => ?_
  cases f with
  | next =>
    obtain ⟨σ', H', I', H'', u, q⟩ := hs
    exact ⟨σ', H'', I.unfs I' u, q⟩
  | brk => exact hs
  | cont => exact hs
  | ret v =>
    obtain ⟨v', σ', H', I', rv, H'', u, q⟩ := hs
    exact ⟨v', σ', H'', I.unfs I' u, rv, q⟩
theorem Unf.of {H H' : Hp} {d : Addr} {o : Obj} {kvs kvs0 : List (Key × V)} (e : H' d = some (.frz o (.dK kvs))) (e0 : H d = some (.dK kvs0)) : Unf H H' (upd H' d (.dK kvs)) := .inr ⟨d, o, kvs, e, (fun o u z => by rw [e0] at z; cases z), rfl⟩
end
theorem for_itf {d : Addr} {o : Obj} {kvs : List (Key × V)} {xs : List V} {g : TG} {tb : TS} {D : Ends} {σ : St} {H : Hp} (Pv : Nat → St → Hp → Prop) (h0 : Pv 0 σ H) (hf : ∀ i σ H, Pv i σ H → H d = some (.frz o (.dK kvs)))
    (hs : ∀ i x σ H, xs[i]? = some x → Pv i σ H → g x σ H fun σ2 H2 => tb { D with nx := Pv (i + 1), ct := Pv (i + 1), bk := D.nx } σ2 H2) (hd : ∀ σ H, Pv xs.length σ H → D.nx σ H) : ForW g tb D σ (ItF d o kvs xs) H := by
  refine ⟨fun i m σ H => m = xs.length - i ∧ i ≤ xs.length ∧ Pv i σ H, ⟨xs.length, by simp, Nat.zero_le _, h0⟩, ?_⟩
  rintro i m σ H ⟨rfl, hi, p⟩
  have hh := hf i σ H p
  by_cases hlt : i < xs.length
  · refine .inr ⟨⟨hlt, hh⟩, Pv (i + 1), fun σ' H' p' => ⟨xs.length - (i + 1), by omega, rfl, hlt, p'⟩, fun x H' y => ?_⟩
    obtain ⟨e, y⟩ := y
    subst e
    exact hs i x σ _ y p
  · have e : i = xs.length := by omega
    subst e
    exact .inl ⟨⟨rfl, hh⟩, hd σ H p⟩
/-! ### a dict and an empty one -/
def rEqD0 : R2 := fun x y H Q => ∃ (p q : Addr) (kvs : List (Key × V)), x = .ref p ∧ y = .ref q ∧ H p = some (.dK kvs) ∧ H q = some (.dK []) ∧ Q (.bl kvs.isEmpty) H
theorem op_eqD0 {X : Cx} (hu : X.A.units + 64 < cLine) : OpR X (compareOp .Eq) rEqD0 := by
  intro pins s σ H x y v u Q I rx ry h
  obtain ⟨p, q, kvs, rfl, rfl, hp, hq, k⟩ := h
  cases rx
  cases ry
  obtain ⟨hz, hS, vs, rel, dd⟩ := dk_of I.hok hp
  obtain ⟨hz2, hS2, vs2, rel2, dd2⟩ := dk_of I.hok hq
  cases rel2
  have hl := rel.length
  refine PySem.W.keq_eq (r := true) hS hS2 dd dd2 (by omega) (fun e => ?_) ⟨.bl kvs.isEmpty, H, I, ?_, k⟩
  · cases vs with
    | nil => exact .nil
    | cons a b => simp at e
  · show Value.bool _ = Value.bool _
    congr 1
    cases kvs with
    | nil => cases rel; rfl
    | cons a b =>
      cases vs with
      | nil => simp at hl
      | cons c d => rfl
end L2
/-! d.get, d.pop by the dict's content; data in a list of data. -/
namespace L2
open PySem PySem.Spec PyProof.Rows
def keyV : V → Option Key
  | .int i => some (.inl i)
  | .str x => some (.inr x)
  | _ => none
theorem keyV_i {i : Int} : keyV (.int i) = some (.inl i) := rfl
theorem keyV_k {y : V} {k : Key} (h : keyV y = some k) : y = kV k := by
  cases y <;> simp [keyV] at h <;> (subst h; rfl)
def tDGX2 (td ty tx : TE) : TE := fun σ H Q => td σ H fun x H1 => ∃ a kvs, x = .ref a ∧ H1 a = some (.dK kvs) ∧ ty σ H1 fun y H2 => tx σ H2 fun z H3 => ∃ kvs2 k, H3 a = some (.dK kvs2) ∧ keyV y = some k ∧ Q ((valV kvs2 k).getD z) H3
def tDPX1 (td ty : TE) : TE := fun σ H Q => td σ H fun x H1 => ∃ a kvs, x = .ref a ∧ H1 a = some (.dK kvs) ∧ ty σ H1 fun y H2 => ∃ kvs2 k, H2 a = some (.dK kvs2) ∧ keyV y = some k ∧ ∃ v, valV kvs2 k = some v ∧ Q v (upd H2 a (.dK (dropK kvs2 k)))
section
variable {X : Cx} {o e f : Expr} {td ty tx : TE} {apos cpos : Pos}
theorem pe_dgX2 (hu : X.A.units + 1 < cLine) (ho : PE X o td) (he : PE X e ty) (hf : PE X f tx) (m : M2 X o "get" apos e f cpos) : PE X (.Call (.Attribute o "get" apos) [e, f] [] cpos) (tDGX2 td ty tx) := by
  intro pins s σ H Q I h
  refine wpAny_Call_method m.base m.few m.line PySem.F.plainAttrs_dict PySem.F.slot_dict_get PySem.F.type_dict_get (thn (ho pins s σ H _ I h) fun u s1 ⟨x, H1, I1, rx, a, kvs, ex, ed, q1⟩ => ?_)
  subst ex
  obtain rfl : u = Value.ref a := rx
  obtain ⟨t1, t2, _⟩ := isD_at I1 (.inl ⟨kvs, .inl ed⟩)
  refine ⟨t1, t2, ?_⟩
  rw [m.trees]
  refine Calls.callWith_builtin rfl (Calls.evalArgs_plain (Calls.spliced_cons (thn (he pins s1 σ H1 _ I1 q1) fun iv s2 ⟨y, H2, I2, ry, q2⟩ =>
    Calls.spliced_cons (thn (hf pins s2 σ H2 _ I2 q2) fun fv s3 ⟨z, H3, I3, rz, kvs2, k, ed2, hk, q3⟩ => Calls.spliced_nil ?_))))
  exact d_get2 hu I3 (.inl ⟨kvs2, k, .inl ed2, keyV_k hk, rfl⟩) ry rz fun w' s4 I4 rw' => ⟨_, H3, I4, rw', q3⟩
theorem pe_dpX1 (ho : PE X o td) (he : PE X e ty) (m : M1 X o "pop" apos e cpos) : PE X (.Call (.Attribute o "pop" apos) [e] [] cpos) (tDPX1 td ty) := by
  intro pins s σ H Q I h
  refine wpAny_Call_method m.base m.few m.line PySem.F.plainAttrs_dict PySem.F.slot_dict_pop PySem.F.type_dict_pop (thn (ho pins s σ H _ I h) fun u s1 ⟨x, H1, I1, rx, a, kvs, ex, ed, q1⟩ => ?_)
  subst ex
  obtain rfl : u = Value.ref a := rx
  obtain ⟨t1, t2, _⟩ := isD_at I1 (.inl ⟨kvs, .inl ed⟩)
  refine ⟨t1, t2, ?_⟩
  rw [m.trees]
  refine Calls.callWith_builtin rfl (Calls.evalArgs_plain (Calls.spliced_cons (thn (he pins s1 σ H1 _ I1 q1) fun iv s2 ⟨y, H2, I2, ry, kvs2, k, ed2, hk, v, l, q2⟩ => Calls.spliced_nil ?_)))
  have ey := keyV_k hk
  subst ey
  exact d_pop I2 ed2 ry l (.inl rfl) fun w' s3 I3 rw' => ⟨v, _, I3, rw', q2⟩
/-! ### data in a list of data -/
def rInD : R2 := fun x y H Q => ∃ p xs ds d, y = .ref p ∧ H p = some (.lst xs) ∧ Dts H xs ds ∧ Dt H x d ∧ d.depth ≤ 60 ∧ (∀ e ∈ ds, e.depth ≤ 60) ∧ Q (.bl (ds.any fun e => PyData.eqv e d)) H
theorem has_reads_at {pins : List (Addr × Obj)} {σ : St} {H : Hp} {s : Shared} (I : Inv X pins σ H s) : ∀ {xs : List V} {ds : List PyData} {us : List Value}, Dts H xs ds → Vals xs us → ∀ (j : Nat) u, us[j]? = some u → ∃ d as, ds[j]? = some d ∧ Reads s.heap u d as ∧ PyData.canLay0 d = true
  | [], _, _, hD, r, j, u, e => by cases r; simp at e
  | x :: xs, [], _, hD, r, j, u, e => by
    have := hD.1 X.K
    cases this
  | x :: xs, d :: ds, _, hD, .cons rx rt, j, u, e => by
    have h1 : Has X.K H x d := by
      have := hD.1 X.K
      cases this with | cons a b => exact a
    have l1 : PyData.canLay0 d = true := by have := hD.2.1; rw [PyData.canLayAll0, Bool.and_eq_true] at this; exact this.1
    cases j with
    | zero =>
      simp at e
      subst e
      obtain ⟨as, ra⟩ := h1.reads I rx
      exact ⟨d, as, rfl, ra, l1⟩
    | succ j =>
      have hD' : Dts H xs ds := ⟨fun K => by have := hD.1 K; cases this with | cons a b => exact b, by have := hD.2.1; rw [PyData.canLayAll0, Bool.and_eq_true] at this; exact this.2, by have := hD.2.2; rw [PyData.eqvAll, Bool.and_eq_true] at this; exact this.2⟩
      exact has_reads_at I hD' rt j u (by simpa using e)
theorem hasAll_len {K : PySem.W.Frag} {H : Hp} : ∀ {xs : List V} {ds : List PyData}, HasAll K H xs ds → ds.length = xs.length
  | _, _, .nil => rfl
  | _, _, .cons _ t => by rw [List.length_cons, List.length_cons, hasAll_len t]
open Classical in
theorem op_inD (hu : X.A.units + 64 < cLine) : OpR X (compareOp .In) rInD := by
  intro pins s σ H x y v u Q I rx ry h
  obtain ⟨p, xs, ds, d, rfl, hp, hD, hd, dd, de, q⟩ := h
  cases ry
  obtain ⟨its, rv, pl, hz⟩ := I.list (SqL.of (K := X.K) hp)
  obtain ⟨as, ra⟩ := (hd.has (K := X.K)).reads I rx
  have hlen : its.length = xs.length := rv.length.symm
  have hdl : ds.length = xs.length := by
    exact hasAll_len (hD.1 X.K)
  let e : Value → Bool := fun y => decide (∃ (j : Nat) (g : PyData), its[j]? = some y ∧ ds[j]? = some g ∧ PyData.eqv g d = true)
  have key : ∀ (j : Nat) y, its[j]? = some y → ∃ g, ds[j]? = some g ∧ e y = PyData.eqv g d ∧ SeqAt.EqAt X.A.in1 s y v (PyData.eqv g d) := fun j y hy => by
    obtain ⟨g, bs, hg, rb, lb⟩ := has_reads_at I hD rv j y hy
    refine ⟨g, hg, ?_, ?_⟩
    · cases hq : PyData.eqv g d with
      | true => exact decide_eq_true ⟨j, g, hy, hg, hq⟩
      | false =>
        refine decide_eq_false ?_
        rintro ⟨j', g', hy', hg', hq'⟩
        obtain ⟨g2, bs2, hg2, rb2, _⟩ := has_reads_at I hD rv j' y hy'
        rw [hg'] at hg2
        cases hg2
        have := (rb.unique _ _ rb2).1
        subst this
        rw [hq] at hq'
        cases hq'
    · have hgd := de g (List.mem_of_getElem? hg)
      exact SeqAt.eqAt_reads g d X.A.in1 s y v bs as rb ra lb hd.lay (by show X.A.units + 1 + min g.depth d.depth < cLine; omega)
  refine SeqAt.in_listAt e pl.isList (fun y hy => ?_) ?_
  · obtain ⟨j, hj, e1⟩ := List.mem_iff_getElem.mp (by simpa using hy : y ∈ its)
    obtain ⟨g, hg, he, hE⟩ := key j y (by rw [List.getElem?_eq_getElem hj, e1])
    rw [he]
    exact hE
  · refine ⟨.bl (ds.any fun e => PyData.eqv e d), H, I, ?_, q⟩
    show Value.bool _ = Value.bool _
    congr 1
    rw [Bool.eq_iff_iff]
    simp only [List.any_toArray, List.any_eq_true]
    constructor
    · rintro ⟨y, hy, ey⟩
      obtain ⟨j, hj, e1⟩ := List.mem_iff_getElem.mp hy
      obtain ⟨g, hg, he, _⟩ := key j y (by rw [List.getElem?_eq_getElem hj, e1])
      exact ⟨g, List.mem_of_getElem? hg, by rw [← he]; exact ey⟩
    · rintro ⟨g, hg, eg⟩
      obtain ⟨j, hj, e1⟩ := List.mem_iff_getElem.mp hg
      have hj2 : j < its.length := by omega
      obtain ⟨g2, hg2, he, _⟩ := key j its[j] (List.getElem?_eq_getElem hj2)
      rw [List.getElem?_eq_getElem hj, e1] at hg2
      cases hg2
      exact ⟨its[j], List.getElem_mem hj2, by rw [he]; exact eg⟩
end
end L2
namespace K32
open PySem L2
def top (i : Nat) : Stmt := PySem.Challenge.pw_roadnet_k32_no_parcel_waits_for_ever.main.body.getD i (.Pass ⟨0, 0, 0, 0⟩)
section
variable {P : Program} {w : World} {K : PySem.W.Frag} {mg : Str → Option Value} {base : Heap}
abbrev s_own_copy : Stmt := top 1
theorem sc_own_copy : FnScope ["thing"] ["thing"] (defScope s_own_copy) := ⟨rfl, rfl, rfl, by decide +kernel, rfl, by decide +kernel, by decide +kernel⟩
theorem cs_own_copy_1 : CScope ["part"] [] { kind := .function, names := [(".0", .local), ("part", .local), ("own_copy", .globalImplicit)], isGenerator := false, isCoroutine := false, more := [] } (defScope s_own_copy) := ⟨rfl, by decide +kernel, by decide +kernel, by decide +kernel, by decide +kernel, by decide +kernel⟩
theorem own_cpy0 (D : Def K mg "own_copy" s_own_copy) (hb : Blt mg) : Own P w K mg base 1 "own_copy" ["thing"] (sp_cpy 0) := by
  refine D.own sc_own_copy (fun _ _ _ _ _ _ us hl => match us, hl with | [_], _ => rfl) (fun vs H Q E h => ?_) (fun f cdv A outer s H vs Q E hr h => ?_)
  · obtain ⟨v, d, rfl, _⟩ := h
    rfl
  · obtain ⟨v, d, rfl, hv, hd, q⟩ := h
    refine ⟨_, (pss_cons (ps_if (pt_truK K (pe_callB (call_isiK K) rfl (hb _ (by decide)) bt_isinstance (pa_cons (pv 0) (pa_cons (pe_bltn (v := .ty "list") rfl (hb _ (by decide)) bt_list rfl) pa_nil))))
      (pss_one ps_never)
      pss_nil)
      (pss_cons (ps_if (pt_truK K (pe_callB (call_isiK K) rfl (hb _ (by decide)) bt_isinstance (pa_cons (pv 0) (pa_cons (pe_bltn (v := .ty "tuple") rfl (hb _ (by decide)) bt_tuple rfl) pa_nil))))
      (pss_one ps_never)
      pss_nil)
      (pss_cons (ps_if (pt_truK K (pe_callB (call_isiK K) rfl (hb _ (by decide)) bt_isinstance (pa_cons (pv 0) (pa_cons (pe_bltn (v := .ty "dict") rfl (hb _ (by decide)) bt_dict rfl) pa_nil))))
      (pss_one ps_never)
      pss_nil)
      (pss_one (ps_ret (pv 0)))))), ?_⟩
    cases hv with
    | non =>
      simp only [tFor_eq, tComp_eq, tDGs, sDPs, rIsB, rIsntB, tMeth, tMake, tDGet, sDPut, tFld, sFld, tDisp, tPairs, tNever, decide_true, decide_false, truV_bl, clsV_ty, V.ty.injEq, exists_eq', exists_eq, Bool.not_true, Bool.not_false, Bool.not_not, rLen, rListOf, rTupOf, rAny, rAll, rIsI, tTru, iRng1, iRng2, iList, tYes, cSt, List.drop_succ_cons, List.drop_zero, cxOf_K, cxC_K,  tBM, tBM0, rAppend, tSl, rSlL, tNoPart, tPart, rIxL, rIxT, rCat, List.cons.injEq, rEq_ii, rNe_ii, rEq_bb, rNe_bb, tSeq, exists_and_left, if_false, if_true, reduceIte, Bool.false_eq_true, tIfS, tAnd, tOr, tNot, tTest, tOp, tUn, tVar, tC, rI, rI0, rU, tRet, tRetN, tAsg, gName, tNext, tAndV, tOrV, tNotV, tIf, tCall, tCons, tNil, tCB, tDrop, tLst, tTup, tChain, L2.start, List.map_cons, List.map_nil, List.length_cons, List.length_nil, List.replicate, List.cons_append, List.nil_append, List.getElem?_cons_zero, List.getElem?_cons_succ, List.set_cons_zero, List.set_cons_succ, Option.some.injEq, exists_eq_left', exists_eq_left, V.int.injEq, V.bl.injEq, V.ref.injEq, V.str.injEq, exists_const, and_true, true_and, reduceCtorEq, false_and, exists_false, or_false, false_or, and_assoc, List.append_nil]
      exact ⟨_, .non, _, kitI_nl K, iteF ⟨_, .non, _, kitI_nt K, iteF ⟨_, .non, _, kitI_nd K, iteF (q _ _ (Same.refl _) .non)⟩⟩⟩
    | bl b =>
      simp only [tFor_eq, tComp_eq, tDGs, sDPs, rIsB, rIsntB, tMeth, tMake, tDGet, sDPut, tFld, sFld, tDisp, tPairs, tNever, decide_true, decide_false, truV_bl, clsV_ty, V.ty.injEq, exists_eq', exists_eq, Bool.not_true, Bool.not_false, Bool.not_not, rLen, rListOf, rTupOf, rAny, rAll, rIsI, tTru, iRng1, iRng2, iList, tYes, cSt, List.drop_succ_cons, List.drop_zero, cxOf_K, cxC_K,  tBM, tBM0, rAppend, tSl, rSlL, tNoPart, tPart, rIxL, rIxT, rCat, List.cons.injEq, rEq_ii, rNe_ii, rEq_bb, rNe_bb, tSeq, exists_and_left, if_false, if_true, reduceIte, Bool.false_eq_true, tIfS, tAnd, tOr, tNot, tTest, tOp, tUn, tVar, tC, rI, rI0, rU, tRet, tRetN, tAsg, gName, tNext, tAndV, tOrV, tNotV, tIf, tCall, tCons, tNil, tCB, tDrop, tLst, tTup, tChain, L2.start, List.map_cons, List.map_nil, List.length_cons, List.length_nil, List.replicate, List.cons_append, List.nil_append, List.getElem?_cons_zero, List.getElem?_cons_succ, List.set_cons_zero, List.set_cons_succ, Option.some.injEq, exists_eq_left', exists_eq_left, V.int.injEq, V.bl.injEq, V.ref.injEq, V.str.injEq, exists_const, and_true, true_and, reduceCtorEq, false_and, exists_false, or_false, false_or, and_assoc, List.append_nil]
      exact ⟨_, .bl b, _, kitI_bl K, iteF ⟨_, .bl b, _, kitI_bt K, iteF ⟨_, .bl b, _, kitI_bd K, iteF (q _ _ (Same.refl _) (.bl b))⟩⟩⟩
    | int n =>
      simp only [tFor_eq, tComp_eq, tDGs, sDPs, rIsB, rIsntB, tMeth, tMake, tDGet, sDPut, tFld, sFld, tDisp, tPairs, tNever, decide_true, decide_false, truV_bl, clsV_ty, V.ty.injEq, exists_eq', exists_eq, Bool.not_true, Bool.not_false, Bool.not_not, rLen, rListOf, rTupOf, rAny, rAll, rIsI, tTru, iRng1, iRng2, iList, tYes, cSt, List.drop_succ_cons, List.drop_zero, cxOf_K, cxC_K,  tBM, tBM0, rAppend, tSl, rSlL, tNoPart, tPart, rIxL, rIxT, rCat, List.cons.injEq, rEq_ii, rNe_ii, rEq_bb, rNe_bb, tSeq, exists_and_left, if_false, if_true, reduceIte, Bool.false_eq_true, tIfS, tAnd, tOr, tNot, tTest, tOp, tUn, tVar, tC, rI, rI0, rU, tRet, tRetN, tAsg, gName, tNext, tAndV, tOrV, tNotV, tIf, tCall, tCons, tNil, tCB, tDrop, tLst, tTup, tChain, L2.start, List.map_cons, List.map_nil, List.length_cons, List.length_nil, List.replicate, List.cons_append, List.nil_append, List.getElem?_cons_zero, List.getElem?_cons_succ, List.set_cons_zero, List.set_cons_succ, Option.some.injEq, exists_eq_left', exists_eq_left, V.int.injEq, V.bl.injEq, V.ref.injEq, V.str.injEq, exists_const, and_true, true_and, reduceCtorEq, false_and, exists_false, or_false, false_or, and_assoc, List.append_nil]
      exact ⟨_, .int n, _, kit_il K, iteF ⟨_, .int n, _, kit_it K, iteF ⟨_, .int n, _, kit_id K, iteF (q _ _ (Same.refl _) (.int n))⟩⟩⟩
    | str ok =>
      simp only [tFor_eq, tComp_eq, tDGs, sDPs, rIsB, rIsntB, tMeth, tMake, tDGet, sDPut, tFld, sFld, tDisp, tPairs, tNever, decide_true, decide_false, truV_bl, clsV_ty, V.ty.injEq, exists_eq', exists_eq, Bool.not_true, Bool.not_false, Bool.not_not, rLen, rListOf, rTupOf, rAny, rAll, rIsI, tTru, iRng1, iRng2, iList, tYes, cSt, List.drop_succ_cons, List.drop_zero, cxOf_K, cxC_K,  tBM, tBM0, rAppend, tSl, rSlL, tNoPart, tPart, rIxL, rIxT, rCat, List.cons.injEq, rEq_ii, rNe_ii, rEq_bb, rNe_bb, tSeq, exists_and_left, if_false, if_true, reduceIte, Bool.false_eq_true, tIfS, tAnd, tOr, tNot, tTest, tOp, tUn, tVar, tC, rI, rI0, rU, tRet, tRetN, tAsg, gName, tNext, tAndV, tOrV, tNotV, tIf, tCall, tCons, tNil, tCB, tDrop, tLst, tTup, tChain, L2.start, List.map_cons, List.map_nil, List.length_cons, List.length_nil, List.replicate, List.cons_append, List.nil_append, List.getElem?_cons_zero, List.getElem?_cons_succ, List.set_cons_zero, List.set_cons_succ, Option.some.injEq, exists_eq_left', exists_eq_left, V.int.injEq, V.bl.injEq, V.ref.injEq, V.str.injEq, exists_const, and_true, true_and, reduceCtorEq, false_and, exists_false, or_false, false_or, and_assoc, List.append_nil]
      exact ⟨_, .str _, _, kit_sl K, iteF ⟨_, .str _, _, kit_st K, iteF ⟨_, .str _, _, kit_sd K, iteF (q _ _ (Same.refl _) (.str ok))⟩⟩⟩
    | tup e hx hl => rw [PyData.depth] at hd; omega
theorem own_cpyS {n : Nat} (D : Def K mg "own_copy" s_own_copy) (hb : Blt mg) (F_own_copy : Own P w K mg base (n + 1) "own_copy" ["thing"] (sp_cpy n)) : Own P w K mg base (n + 2) "own_copy" ["thing"] (sp_cpy (n + 1)) := by
  refine D.own sc_own_copy (fun _ _ _ _ _ _ us hl => match us, hl with | [_], _ => rfl) (fun vs H Q E h => ?_) (fun f cdv A outer s H vs Q E hr h => ?_)
  · obtain ⟨v, d, rfl, _⟩ := h
    rfl
  · obtain ⟨v, d, rfl, hv, hd, q⟩ := h
    refine ⟨_, (pss_cons (ps_if (pt_truK K (pe_callB (call_isiK K) rfl (hb _ (by decide)) bt_isinstance (pa_cons (pv 0) (pa_cons (pe_bltn (v := .ty "list") rfl (hb _ (by decide)) bt_list rfl) pa_nil))))
      (pss_one ps_never)
      pss_nil)
      (pss_cons (ps_if (pt_truK K (pe_callB (call_isiK K) rfl (hb _ (by decide)) bt_isinstance (pa_cons (pv 0) (pa_cons (pe_bltn (v := .ty "tuple") rfl (hb _ (by decide)) bt_tuple rfl) pa_nil))))
      (pss_one (ps_ret (pe_callTy (call_tupleK K) rfl (hb _ (by decide)) bt_tuple (pa_cons (pe_comp ["part"] [] [] rfl cs_own_copy_1 (pi_tupK K (pv 0)) (fun _ _ _ _ => (pg_name (i := 0) cs_own_copy_1.nd rfl (by first | exact Or.inl rfl | exact Or.inr rfl))) (fun _ _ _ _ => pf_nil) (fun _ _ _ _ => (pe_fn F_own_copy hr (pa_cons (pv 0) pa_nil) (Nat.le_refl _)))) pa_nil))))
      pss_nil)
      (pss_cons (ps_if (pt_truK K (pe_callB (call_isiK K) rfl (hb _ (by decide)) bt_isinstance (pa_cons (pv 0) (pa_cons (pe_bltn (v := .ty "dict") rfl (hb _ (by decide)) bt_dict rfl) pa_nil))))
      (pss_one ps_never)
      pss_nil)
      (pss_one (ps_ret (pv 0)))))), ?_⟩
    cases hv with
    | non =>
      simp only [tFor_eq, tComp_eq, tDGs, sDPs, rIsB, rIsntB, tMeth, tMake, tDGet, sDPut, tFld, sFld, tDisp, tPairs, tNever, decide_true, decide_false, truV_bl, clsV_ty, V.ty.injEq, exists_eq', exists_eq, Bool.not_true, Bool.not_false, Bool.not_not, rLen, rListOf, rTupOf, rAny, rAll, rIsI, tTru, iRng1, iRng2, iList, tYes, cSt, List.drop_succ_cons, List.drop_zero, cxOf_K, cxC_K,  tBM, tBM0, rAppend, tSl, rSlL, tNoPart, tPart, rIxL, rIxT, rCat, List.cons.injEq, rEq_ii, rNe_ii, rEq_bb, rNe_bb, tSeq, exists_and_left, if_false, if_true, reduceIte, Bool.false_eq_true, tIfS, tAnd, tOr, tNot, tTest, tOp, tUn, tVar, tC, rI, rI0, rU, tRet, tRetN, tAsg, gName, tNext, tAndV, tOrV, tNotV, tIf, tCall, tCons, tNil, tCB, tDrop, tLst, tTup, tChain, L2.start, List.map_cons, List.map_nil, List.length_cons, List.length_nil, List.replicate, List.cons_append, List.nil_append, List.getElem?_cons_zero, List.getElem?_cons_succ, List.set_cons_zero, List.set_cons_succ, Option.some.injEq, exists_eq_left', exists_eq_left, V.int.injEq, V.bl.injEq, V.ref.injEq, V.str.injEq, exists_const, and_true, true_and, reduceCtorEq, false_and, exists_false, or_false, false_or, and_assoc, List.append_nil]
      exact ⟨_, .non, _, kitI_nl K, iteF ⟨_, .non, _, kitI_nt K, iteF ⟨_, .non, _, kitI_nd K, iteF (q _ _ (Same.refl _) .non)⟩⟩⟩
    | bl b =>
      simp only [tFor_eq, tComp_eq, tDGs, sDPs, rIsB, rIsntB, tMeth, tMake, tDGet, sDPut, tFld, sFld, tDisp, tPairs, tNever, decide_true, decide_false, truV_bl, clsV_ty, V.ty.injEq, exists_eq', exists_eq, Bool.not_true, Bool.not_false, Bool.not_not, rLen, rListOf, rTupOf, rAny, rAll, rIsI, tTru, iRng1, iRng2, iList, tYes, cSt, List.drop_succ_cons, List.drop_zero, cxOf_K, cxC_K,  tBM, tBM0, rAppend, tSl, rSlL, tNoPart, tPart, rIxL, rIxT, rCat, List.cons.injEq, rEq_ii, rNe_ii, rEq_bb, rNe_bb, tSeq, exists_and_left, if_false, if_true, reduceIte, Bool.false_eq_true, tIfS, tAnd, tOr, tNot, tTest, tOp, tUn, tVar, tC, rI, rI0, rU, tRet, tRetN, tAsg, gName, tNext, tAndV, tOrV, tNotV, tIf, tCall, tCons, tNil, tCB, tDrop, tLst, tTup, tChain, L2.start, List.map_cons, List.map_nil, List.length_cons, List.length_nil, List.replicate, List.cons_append, List.nil_append, List.getElem?_cons_zero, List.getElem?_cons_succ, List.set_cons_zero, List.set_cons_succ, Option.some.injEq, exists_eq_left', exists_eq_left, V.int.injEq, V.bl.injEq, V.ref.injEq, V.str.injEq, exists_const, and_true, true_and, reduceCtorEq, false_and, exists_false, or_false, false_or, and_assoc, List.append_nil]
      exact ⟨_, .bl b, _, kitI_bl K, iteF ⟨_, .bl b, _, kitI_bt K, iteF ⟨_, .bl b, _, kitI_bd K, iteF (q _ _ (Same.refl _) (.bl b))⟩⟩⟩
    | int n =>
      simp only [tFor_eq, tComp_eq, tDGs, sDPs, rIsB, rIsntB, tMeth, tMake, tDGet, sDPut, tFld, sFld, tDisp, tPairs, tNever, decide_true, decide_false, truV_bl, clsV_ty, V.ty.injEq, exists_eq', exists_eq, Bool.not_true, Bool.not_false, Bool.not_not, rLen, rListOf, rTupOf, rAny, rAll, rIsI, tTru, iRng1, iRng2, iList, tYes, cSt, List.drop_succ_cons, List.drop_zero, cxOf_K, cxC_K,  tBM, tBM0, rAppend, tSl, rSlL, tNoPart, tPart, rIxL, rIxT, rCat, List.cons.injEq, rEq_ii, rNe_ii, rEq_bb, rNe_bb, tSeq, exists_and_left, if_false, if_true, reduceIte, Bool.false_eq_true, tIfS, tAnd, tOr, tNot, tTest, tOp, tUn, tVar, tC, rI, rI0, rU, tRet, tRetN, tAsg, gName, tNext, tAndV, tOrV, tNotV, tIf, tCall, tCons, tNil, tCB, tDrop, tLst, tTup, tChain, L2.start, List.map_cons, List.map_nil, List.length_cons, List.length_nil, List.replicate, List.cons_append, List.nil_append, List.getElem?_cons_zero, List.getElem?_cons_succ, List.set_cons_zero, List.set_cons_succ, Option.some.injEq, exists_eq_left', exists_eq_left, V.int.injEq, V.bl.injEq, V.ref.injEq, V.str.injEq, exists_const, and_true, true_and, reduceCtorEq, false_and, exists_false, or_false, false_or, and_assoc, List.append_nil]
      exact ⟨_, .int n, _, kit_il K, iteF ⟨_, .int n, _, kit_it K, iteF ⟨_, .int n, _, kit_id K, iteF (q _ _ (Same.refl _) (.int n))⟩⟩⟩
    | str ok =>
      simp only [tFor_eq, tComp_eq, tDGs, sDPs, rIsB, rIsntB, tMeth, tMake, tDGet, sDPut, tFld, sFld, tDisp, tPairs, tNever, decide_true, decide_false, truV_bl, clsV_ty, V.ty.injEq, exists_eq', exists_eq, Bool.not_true, Bool.not_false, Bool.not_not, rLen, rListOf, rTupOf, rAny, rAll, rIsI, tTru, iRng1, iRng2, iList, tYes, cSt, List.drop_succ_cons, List.drop_zero, cxOf_K, cxC_K,  tBM, tBM0, rAppend, tSl, rSlL, tNoPart, tPart, rIxL, rIxT, rCat, List.cons.injEq, rEq_ii, rNe_ii, rEq_bb, rNe_bb, tSeq, exists_and_left, if_false, if_true, reduceIte, Bool.false_eq_true, tIfS, tAnd, tOr, tNot, tTest, tOp, tUn, tVar, tC, rI, rI0, rU, tRet, tRetN, tAsg, gName, tNext, tAndV, tOrV, tNotV, tIf, tCall, tCons, tNil, tCB, tDrop, tLst, tTup, tChain, L2.start, List.map_cons, List.map_nil, List.length_cons, List.length_nil, List.replicate, List.cons_append, List.nil_append, List.getElem?_cons_zero, List.getElem?_cons_succ, List.set_cons_zero, List.set_cons_succ, Option.some.injEq, exists_eq_left', exists_eq_left, V.int.injEq, V.bl.injEq, V.ref.injEq, V.str.injEq, exists_const, and_true, true_and, reduceCtorEq, false_and, exists_false, or_false, false_or, and_assoc, List.append_nil]
      exact ⟨_, .str _, _, kit_sl K, iteF ⟨_, .str _, _, kit_st K, iteF ⟨_, .str _, _, kit_sd K, iteF (q _ _ (Same.refl _) (.str ok))⟩⟩⟩
    | @tup p xs ds e hx hl =>
      rw [PyData.depth] at hd
      simp only [tFor_eq, tComp_eq, tDGs, sDPs, rIsB, rIsntB, tMeth, tMake, tDGet, sDPut, tFld, sFld, tDisp, tPairs, tNever, decide_true, decide_false, truV_bl, clsV_ty, V.ty.injEq, exists_eq', exists_eq, Bool.not_true, Bool.not_false, Bool.not_not, rLen, rListOf, rTupOf, rAny, rAll, rIsI, tTru, iRng1, iRng2, iList, tYes, cSt, List.drop_succ_cons, List.drop_zero, cxOf_K, cxC_K,  tBM, tBM0, rAppend, tSl, rSlL, tNoPart, tPart, rIxL, rIxT, rCat, List.cons.injEq, rEq_ii, rNe_ii, rEq_bb, rNe_bb, tSeq, exists_and_left, if_false, if_true, reduceIte, Bool.false_eq_true, tIfS, tAnd, tOr, tNot, tTest, tOp, tUn, tVar, tC, rI, rI0, rU, tRet, tRetN, tAsg, gName, tNext, tAndV, tOrV, tNotV, tIf, tCall, tCons, tNil, tCB, tDrop, tLst, tTup, tChain, L2.start, List.map_cons, List.map_nil, List.length_cons, List.length_nil, List.replicate, List.cons_append, List.nil_append, List.getElem?_cons_zero, List.getElem?_cons_succ, List.set_cons_zero, List.set_cons_succ, Option.some.injEq, exists_eq_left', exists_eq_left, V.int.injEq, V.bl.injEq, V.ref.injEq, V.str.injEq, exists_const, and_true, true_and, reduceCtorEq, false_and, exists_false, or_false, false_or, and_assoc, List.append_nil, iTup]
      refine ⟨_, .tup e, _, kit_tl K, iteF ⟨_, .tup e, _, kit_tt K, iteT ⟨⟨_, SqT.of e⟩, comp_tup (K := K) (xs := xs) (Nat.le_of_lt (small1000 hl)) (fun D i acc H' => Same H H' ∧ H' D = some (.lst acc) ∧ Ims H' acc (ds.take i)) (fun D hD => ⟨Same.upd_new hD, upd_same, .nil⟩) ?_ ?_ ?_⟩⟩⟩
      · rintro D i acc H' hD hi ⟨s1, e1, h1⟩
        have := h1.len
        rw [List.length_take] at this
        exact ⟨e1, SqT.of (s1 _ _ e), by omega⟩
      · rintro D i x acc H' hD hi ⟨s1, e1, h1⟩
        obtain ⟨d, hd', hxd⟩ := hx.get hi
        simp only [tFor_eq, tComp_eq, tDGs, sDPs, rIsB, rIsntB, tMeth, tMake, tDGet, sDPut, tFld, sFld, tDisp, tPairs, tNever, decide_true, decide_false, truV_bl, clsV_ty, V.ty.injEq, exists_eq', exists_eq, Bool.not_true, Bool.not_false, Bool.not_not, rLen, rListOf, rTupOf, rAny, rAll, rIsI, tTru, iRng1, iRng2, iList, tYes, cSt, List.drop_succ_cons, List.drop_zero, cxOf_K, cxC_K,  tBM, tBM0, rAppend, tSl, rSlL, tNoPart, tPart, rIxL, rIxT, rCat, List.cons.injEq, rEq_ii, rNe_ii, rEq_bb, rNe_bb, tSeq, exists_and_left, if_false, if_true, reduceIte, Bool.false_eq_true, tIfS, tAnd, tOr, tNot, tTest, tOp, tUn, tVar, tC, rI, rI0, rU, tRet, tRetN, tAsg, gName, tNext, tAndV, tOrV, tNotV, tIf, tCall, tCons, tNil, tCB, tDrop, tLst, tTup, tChain, L2.start, List.map_cons, List.map_nil, List.length_cons, List.length_nil, List.replicate, List.cons_append, List.nil_append, List.getElem?_cons_zero, List.getElem?_cons_succ, List.set_cons_zero, List.set_cons_succ, Option.some.injEq, exists_eq_left', exists_eq_left, V.int.injEq, V.bl.injEq, V.ref.injEq, V.str.injEq, exists_const, and_true, true_and, reduceCtorEq, false_and, exists_false, or_false, false_or, and_assoc, List.append_nil, sp_cpy, List.map_cons, Option.join_some]
        refine ⟨d, hxd.same s1, Nat.le_trans (le_depthAll (List.mem_of_getElem? hd')) (by omega), fun v' H2 s2 h2 => ⟨s2 _ _ e1, (s1.trans s2).upd hD, upd_same, ?_⟩⟩
        have k : Keep [D] H2 (upd H2 D (.lst (acc ++ [v']))) := Keep.refl.upd (.inl (.head _))
        have hs : ∀ b ∈ [D], NoT H2 b := fun b hb => by rw [List.mem_singleton] at hb; subst hb; exact .of_lst (s2 _ _ e1)
        rw [List.take_add_one, hd', Option.toList_some]
        exact ((h1.same s2).keep k hs).app (.one (h2.keep k hs))
      · rintro D acc H' hD ⟨s1, e1, h1⟩
        rw [hx.len, List.take_length] at h1
        refine ⟨D, rfl, acc, .inl ⟨SqL.of e1, fun l hl' => ?_⟩⟩
        refine q _ _ (s1.trans (Same.upd_new hl')) (.tup upd_same (h1.same (Same.upd_new hl')) ?_)
        have := h1.len
        have := hx.len
        omega
theorem own_cpy (D : Def K mg "own_copy" s_own_copy) (hb : Blt mg) : ∀ n, Own P w K mg base (n + 1) "own_copy" ["thing"] (sp_cpy n)
  | 0 => own_cpy0 D hb
  | n + 1 => own_cpyS D hb (own_cpy D hb n)
abbrev s__law_digits : Stmt := top 6
theorem sc__law_digits : FnScope ["_law_cell", "_law_size", "_law_many", "_law_found", "_law_mix", "_law_rest", "_law_k"] ["_law_cell", "_law_size", "_law_many"] (defScope s__law_digits) := ⟨rfl, rfl, rfl, by decide +kernel, rfl, by decide +kernel, by decide +kernel⟩
def sp_digits : Sp := fun vs H Q _ => ∃ (c n m : Int), vs = [.int c, .int n, .int m] ∧ 1 ≤ n ∧ n ≤ 100000 ∧ 0 ≤ m ∧ m ≤ 100 ∧ ∀ (r : Addr) (ds : List Int) (H' : Hp), H r = none → H' r = some (.lst (ds.map V.int)) → (ds.length : Int) = m → (∀ d ∈ ds, 0 ≤ d ∧ d < n) → Same H H' → Q (.ref r) H'
def Ldg (c n m : Int) (r : Addr) (H : Hp) (i : Nat) (σ : St) (H' : Hp) : Prop := ∃ (mix rest : Int) (v6 : Option V) (ds : List Int), σ = [some (.int c), some (.int n), some (.int m), some (.ref r), some (.int mix), some (.int rest), v6] ∧ 0 ≤ mix ∧ mix < 2147483647 ∧
  Same H H' ∧ H' r = some (.lst (ds.map V.int)) ∧ ds.length = i ∧ ∀ d ∈ ds, 0 ≤ d ∧ d < n
theorem own_digits (D : Def K mg "_law_digits" s__law_digits) (hb : Blt mg) : Own P w K mg base 1 "_law_digits" ["_law_cell", "_law_size", "_law_many"] sp_digits := by
  refine D.own sc__law_digits (fun _ _ _ _ _ _ us hl => match us, hl with | [_, _, _], _ => rfl) (fun vs H Q E h => ?_) (fun f cdv A outer s H vs Q E hr h => ?_)
  · obtain ⟨c, n, m, rfl, _⟩ := h
    rfl
  · obtain ⟨c, n, m, rfl, hn1, hn2, hm0, hm1, q⟩ := h
    refine ⟨_, (pss_cons (ps_set (i := 3) sc__law_digits.nd rfl (by first | exact Or.inl rfl | exact Or.inr rfl) (pe_lst pa_nil))
      (pss_cons (ps_set (i := 4) sc__law_digits.nd rfl (by first | exact Or.inl rfl | exact Or.inr rfl) (pe_op op_mod (pe_op op_mul (pe_op op_add (pv 0) pe_int) pe_int) pe_int))
      (pss_cons (ps_set (i := 5) sc__law_digits.nd rfl (by first | exact Or.inl rfl | exact Or.inr rfl) (pe_op op_fdiv (pv 0) pe_int))
      (pss_cons (ps_for PassesOwn.never rfl (pi_range1 rfl (hb _ (by decide)) (pa_cons (pv 2) pa_nil)) (pg_name (i := 6) sc__law_digits.nd rfl (by first | exact Or.inl rfl | exact Or.inr rfl))
      (pss_cons (ps_set (i := 4) sc__law_digits.nd rfl (by first | exact Or.inl rfl | exact Or.inr rfl) (pe_op op_mod (pe_op op_mul (pe_op op_add (pe_op op_add (pv 4) (pe_op op_mul pe_int (pv 6))) pe_int) (pe_op op_add (pe_op op_fdiv (pv 4) pe_int) pe_int)) pe_int))
      (pss_cons (ps_expr (pe_bm PySem.F.plainAttrs_list PySem.F.slot_list_append PySem.F.type_list_append mt_append (pv 3) (pa_cons (pe_ix (ix_listK K) (pe_lst (pa_cons (pe_op op_mod (pe_op op_fdiv (pv 4) pe_int) (pv 1)) (pa_cons (pe_op op_mod (pv 5) (pv 1)) pa_nil))) (pe_callTy call_int1 rfl (hb _ (by decide)) bt_int (pa_cons (pe_and (pe_cmpR op_eq (pe_op op_mod (pv 0) pe_int) pe_int (nomark _)) (pe_one (pe_cmpR op_gt (pv 5) pe_int (nomark _)))) pa_nil)) (fun _ _ => rfl)) pa_nil)))
      (pss_one (ps_set (i := 5) sc__law_digits.nd rfl (by first | exact Or.inl rfl | exact Or.inr rfl) (pe_op op_fdiv (pv 5) (pv 1)))))))
      (pss_one (ps_ret (pv 3))))))), ?_⟩
    simp only [tFor_eq, tComp_eq, tDGs, sDPs, rIsB, rIsntB, tMeth, tMake, tDGet, sDPut, tFld, sFld, tDisp, tPairs, tNever, decide_true, decide_false, truV_bl, clsV_ty, V.ty.injEq, exists_eq', exists_eq, Bool.not_true, Bool.not_false, Bool.not_not, rLen, rListOf, rTupOf, rAny, rAll, rIsI, tTru, iRng1, iRng2, iList, tYes, cSt, List.drop_succ_cons, List.drop_zero, cxOf_K, cxC_K,  tBM, tBM0, rAppend, tSl, rSlL, tNoPart, tPart, rIxL, rIxT, rCat, List.cons.injEq, rEq_ii, rNe_ii, rEq_bb, rNe_bb, tSeq, exists_and_left, if_false, if_true, reduceIte, Bool.false_eq_true, tIfS, tAnd, tOr, tNot, tTest, tOp, tUn, tVar, tC, rI, rI0, rU, tRet, tRetN, tAsg, gName, tNext, tAndV, tOrV, tNotV, tIf, tCall, tCons, tNil, tCB, tDrop, tLst, tTup, tChain, L2.start, List.map_cons, List.map_nil, List.length_cons, List.length_nil, List.replicate, List.cons_append, List.nil_append, List.getElem?_cons_zero, List.getElem?_cons_succ, List.set_cons_zero, List.set_cons_succ, Option.some.injEq, exists_eq_left', exists_eq_left, V.int.injEq, V.bl.injEq, V.ref.injEq, V.str.injEq, exists_const, and_true, true_and, reduceCtorEq, false_and, exists_false, or_false, false_or, and_assoc, List.append_nil]
    refine ⟨Nat.zero_le _, fun r hr' => ⟨.inr ⟨by decide, by decide⟩, by decide, ⟨by decide, by decide⟩, by omega, by omega, for_range (n := m.toNat) (Ldg c n m r H) ⟨_, _, none, [], rfl, Int.emod_nonneg _ (by decide), Int.emod_lt_of_pos _ (by decide), Same.upd_new hr', upd_same, rfl, (fun d hd => nomatch hd)⟩ ?_ ?_⟩⟩
    · rintro i σ H1 hi ⟨mix, rest, v6, ds, rfl, hx0, hx1, s1, e1, hl, hv⟩
      simp only [tFor_eq, tComp_eq, tDGs, sDPs, rIsB, rIsntB, tMeth, tMake, tDGet, sDPut, tFld, sFld, tDisp, tPairs, tNever, decide_true, decide_false, truV_bl, clsV_ty, V.ty.injEq, exists_eq', exists_eq, Bool.not_true, Bool.not_false, Bool.not_not, rLen, rListOf, rTupOf, rAny, rAll, rIsI, tTru, iRng1, iRng2, iList, tYes, cSt, List.drop_succ_cons, List.drop_zero, cxOf_K, cxC_K,  tBM, tBM0, rAppend, tSl, rSlL, tNoPart, tPart, rIxL, rIxT, rCat, List.cons.injEq, rEq_ii, rNe_ii, rEq_bb, rNe_bb, tSeq, exists_and_left, if_false, if_true, reduceIte, Bool.false_eq_true, tIfS, tAnd, tOr, tNot, tTest, tOp, tUn, tVar, tC, rI, rI0, rU, tRet, tRetN, tAsg, gName, tNext, tAndV, tOrV, tNotV, tIf, tCall, tCons, tNil, tCB, tDrop, tLst, tTup, tChain, L2.start, List.map_cons, List.map_nil, List.length_cons, List.length_nil, List.replicate, List.cons_append, List.nil_append, List.getElem?_cons_zero, List.getElem?_cons_succ, List.set_cons_zero, List.set_cons_succ, Option.some.injEq, exists_eq_left', exists_eq_left, V.int.injEq, V.bl.injEq, V.ref.injEq, V.str.injEq, exists_const, and_true, true_and, reduceCtorEq, false_and, exists_false, or_false, false_or, and_assoc, List.append_nil]
      have hmix : 0 ≤ (mix + 7919 * (0 + (i : Int)) + 1) * (mix / 1009 + 69621) % 2147483647 ∧ (mix + 7919 * (0 + (i : Int)) + 1) * (mix / 1009 + 69621) % 2147483647 < 2147483647 := ⟨Int.emod_nonneg _ (by decide), Int.emod_lt_of_pos _ (by decide)⟩
      refine ⟨.inl ⟨by decide, by decide⟩, ⟨by decide, by decide⟩, .inl ⟨by omega, by omega⟩, by decide, .inl ⟨rfl, _, SqL.of e1⟩, ?_⟩
      generalize (mix + 7919 * (0 + (i : Int)) + 1) * (mix / 1009 + 69621) % 2147483647 = mx at hmix ⊢
      refine ⟨⟨by decide, by decide⟩, by omega, by omega, by decide, fun p hp => ⟨by decide, ?_⟩⟩
      have hA : 0 ≤ mx / 7 % n ∧ mx / 7 % n < n := ⟨Int.emod_nonneg _ (by omega), Int.emod_lt_of_pos _ (by omega)⟩
      have hB : 0 ≤ rest % n ∧ rest % n < n := ⟨Int.emod_nonneg _ (by omega), Int.emod_lt_of_pos _ (by omega)⟩
      generalize mx / 7 % n = x1 at hA ⊢
      generalize rest % n = x2 at hB ⊢
      generalize h2 : upd H1 p _ = H2
      obtain ⟨s2, e2⟩ := new_same h2 hp
      have go : ∀ k : Int, 0 ≤ k → k < 2 → ∃ x, SqL K H2 p x ∧ ∃ x_1, atI x k = some x_1 ∧ ∃ x, H2 r = some (.lst x) ∧ x.length < sizeLine ∧ CDiv rest n ∧ Ldg c n m r H (i + 1) [some (V.int c), some (V.int n), some (V.int m), some (V.ref r), some (V.int mx), some (V.int (rest / n)), some (V.int (0 + (i : Int)))] (upd H2 r (.lst (x ++ [x_1]))) := by
        intro k hk0 hk1
        obtain ⟨v, hv', ev⟩ := atI_in (xs := [V.int x1, V.int x2]) (k := k) hk0 (by simp only [List.length_cons, List.length_nil]; omega)
        obtain ⟨z, rfl, hz⟩ : ∃ z : Int, v = .int z ∧ 0 ≤ z ∧ z < n := by
          simp only [List.mem_cons, List.not_mem_nil, or_false] at hv'
          rcases hv' with rfl | rfl
          · exact ⟨_, rfl, hA⟩
          · exact ⟨_, rfl, hB⟩
        refine ⟨_, SqL.of e2, _, ev, _, s2 _ _ e1, small1000 (by rw [List.length_map]; omega), ⟨by omega, by omega⟩, mx, _, _, ds ++ [z], rfl, hmix.1, hmix.2, (s1.trans s2).upd hr', by rw [List.map_append]; exact upd_same, by rw [List.length_append, hl]; rfl, fun d hd => ?_⟩
        rcases List.mem_append.mp hd with y | y
        · exact hv d y
        · rw [List.mem_singleton] at y
          subst y
          exact hz
      refine ite2 (fun _ => go _ ?_ ?_) (fun _ => go _ ?_ ?_)
      all_goals first | (split <;> decide) | decide
    · rintro σ H1 ⟨mix, rest, v6, ds, rfl, hx0, hx1, s1, e1, hl, hv⟩
      simp only [tFor_eq, tComp_eq, tDGs, sDPs, rIsB, rIsntB, tMeth, tMake, tDGet, sDPut, tFld, sFld, tDisp, tPairs, tNever, decide_true, decide_false, truV_bl, clsV_ty, V.ty.injEq, exists_eq', exists_eq, Bool.not_true, Bool.not_false, Bool.not_not, rLen, rListOf, rTupOf, rAny, rAll, rIsI, tTru, iRng1, iRng2, iList, tYes, cSt, List.drop_succ_cons, List.drop_zero, cxOf_K, cxC_K,  tBM, tBM0, rAppend, tSl, rSlL, tNoPart, tPart, rIxL, rIxT, rCat, List.cons.injEq, rEq_ii, rNe_ii, rEq_bb, rNe_bb, tSeq, exists_and_left, if_false, if_true, reduceIte, Bool.false_eq_true, tIfS, tAnd, tOr, tNot, tTest, tOp, tUn, tVar, tC, rI, rI0, rU, tRet, tRetN, tAsg, gName, tNext, tAndV, tOrV, tNotV, tIf, tCall, tCons, tNil, tCB, tDrop, tLst, tTup, tChain, L2.start, List.map_cons, List.map_nil, List.length_cons, List.length_nil, List.replicate, List.cons_append, List.nil_append, List.getElem?_cons_zero, List.getElem?_cons_succ, List.set_cons_zero, List.set_cons_succ, Option.some.injEq, exists_eq_left', exists_eq_left, V.int.injEq, V.bl.injEq, V.ref.injEq, V.str.injEq, exists_const, and_true, true_and, reduceCtorEq, false_and, exists_false, or_false, false_or, and_assoc, List.append_nil]
      exact q r ds H1 hr' e1 (by omega) hv s1
abbrev s__law_cell_at : Stmt := top 5
theorem sc__law_cell_at : FnScope ["_law_script", "_law_k"] ["_law_script", "_law_k"] (defScope s__law_cell_at) := ⟨rfl, rfl, rfl, by decide +kernel, rfl, by decide +kernel, by decide +kernel⟩
def sp_cell (K : PySem.W.Frag) : Sp := fun vs H Q _ => ∃ (a : Addr) (ns : List Int) (k : Int), vs = [.ref a, .int k] ∧ 0 ≤ k ∧ SqL K H a (ns.map V.int) ∧ ∀ r : Int, Q (.int r) H
theorem own_cell (D : Def K mg "_law_cell_at" s__law_cell_at) (hb : Blt mg) : Own P w K mg base 1 "_law_cell_at" ["_law_script", "_law_k"] (sp_cell K) := by
  refine D.own sc__law_cell_at (fun _ _ _ _ _ _ us hl => match us, hl with | [_, _], _ => rfl) (fun vs H Q E h => ?_) (fun f cdv A outer s H vs Q E hr h => ?_)
  · obtain ⟨a, ns, k, rfl, _⟩ := h
    rfl
  · obtain ⟨a, ns, k, rfl, hk, hS, q⟩ := h
    refine ⟨_, (pss_cons (ps_if (pt_cmpR op_lt (pv 1) (pe_callB (call_lenK K) rfl (hb _ (by decide)) bt_len (pa_cons (pv 0) pa_nil)) (nomark _))
      (pss_one (ps_ret (pe_ix (ix_listK K) (pv 0) (pv 1) (fun _ _ => rfl))))
      pss_nil)
      (pss_one (ps_ret pe_int))), ?_⟩
    simp only [tDGs, sDPs, rIsB, rIsntB, tMeth, tMake, tDGet, sDPut, tFld, sFld, tDisp, tPairs, tNever, decide_true, decide_false, truV_bl, clsV_ty, V.ty.injEq, exists_eq', exists_eq, Bool.not_true, Bool.not_false, Bool.not_not, rLen, rListOf, rTupOf, rAny, rAll, rIsI, tTru, iRng1, iRng2, iList, tYes, cSt, List.drop_succ_cons, List.drop_zero, cxOf_K, cxC_K,  tBM, tBM0, rAppend, tSl, rSlL, tNoPart, tPart, rIxL, rIxT, rCat, List.cons.injEq, rEq_ii, rNe_ii, rEq_bb, rNe_bb, tSeq, exists_and_left, if_false, if_true, reduceIte, Bool.false_eq_true, tIfS, tAnd, tOr, tNot, tTest, tOp, tUn, tVar, tC, rI, rI0, rU, tRet, tRetN, tAsg, gName, tNext, tAndV, tOrV, tNotV, tIf, tCall, tCons, tNil, tCB, tDrop, tLst, tTup, tChain, L2.start, List.map_cons, List.map_nil, List.length_cons, List.length_nil, List.replicate, List.cons_append, List.nil_append, List.getElem?_cons_zero, List.getElem?_cons_succ, List.set_cons_zero, List.set_cons_succ, Option.some.injEq, exists_eq_left', exists_eq_left, V.int.injEq, V.bl.injEq, V.ref.injEq, V.str.injEq, exists_const, and_true, true_and, reduceCtorEq, false_and, exists_false, or_false, false_or, and_assoc, List.append_nil]
    refine ⟨_, .inl hS, ite2 (fun h => ?_) (fun _ => q 0)⟩
    have h' := of_decide_eq_true h
    obtain ⟨v, hv, ev⟩ := atI_in (xs := ns.map V.int) hk h'
    obtain ⟨z, _, rfl⟩ := List.mem_map.mp hv
    exact ⟨_, hS, _, ev, q z⟩
end
/-! ### keys in a row, with the numbers that wait under each -/
abbrev Rw := List (Int × List Int)
def nums (S : Rw) (k : Int) : List Int := ((S.find? fun q => decide (q.1 = k)).map (·.2)).getD []
def putS : Rw → Int → Int → Rw
  | [], k, v => [(k, [v])]
  | q :: r, k, v => if q.1 = k then (q.1, q.2 ++ [v]) :: r else q :: putS r k v
def nextS (k : Int) (vs : List Int) (r : Rw) : Rw := if vs = [] then r else r ++ [(k, vs)]
def outS : Nat → Rw → List (Int × Int) × Rw
  | 0, S => ([], S)
  | _ + 1, [] => ([], [])
  | _ + 1, (k, []) :: r => ([], (k, []) :: r)
  | n + 1, (k, v :: vs) :: r => ((k, v) :: (outS n (nextS k vs r)).1, (outS n (nextS k vs r)).2)
def allN (S : Rw) : List Int := S.flatMap (·.2)
structure Ok (S : Rw) : Prop where
  nd : (S.map (·.1)).Nodup
  ne : ∀ q ∈ S, q.2 ≠ []
theorem nums_cons {q : Int × List Int} {r : Rw} {k : Int} : nums (q :: r) k = if q.1 = k then q.2 else nums r k := by
  unfold nums
  by_cases h : q.1 = k
  · rw [List.find?_cons_of_pos (by simpa using h), if_pos h]; rfl
  · rw [List.find?_cons_of_neg (by simpa using h), if_neg h]
theorem nums_out {S : Rw} {k : Int} (h : k ∉ S.map (·.1)) : nums S k = [] := by
  induction S with
  | nil => rfl
  | cons q r ih =>
    rw [List.map_cons, List.mem_cons, not_or] at h
    rw [nums_cons, if_neg (Ne.symm h.1)]
    exact ih h.2
theorem nums_of {S : Rw} (h : (S.map (·.1)).Nodup) {q : Int × List Int} (hq : q ∈ S) : nums S q.1 = q.2 := by
  induction S with
  | nil => cases hq
  | cons p r ih =>
    rw [List.map_cons, List.nodup_cons] at h
    rw [nums_cons]
    rcases List.mem_cons.mp hq with rfl | hq
    · rw [if_pos rfl]
    · rw [if_neg (fun z => h.1 (by rw [z]; exact List.mem_map_of_mem hq))]
      exact ih h.2 hq
theorem nums_mem {S : Rw} {k n : Int} (h : n ∈ nums S k) : k ∈ S.map (·.1) := by
  by_cases hk : k ∈ S.map (·.1)
  · exact hk
  · rw [nums_out hk] at h; cases h
theorem mem_allN {S : Rw} (h : (S.map (·.1)).Nodup) {n : Int} : n ∈ allN S ↔ ∃ k, n ∈ nums S k := by
  unfold allN
  rw [List.mem_flatMap]
  constructor
  · rintro ⟨q, hq, hn⟩
    exact ⟨q.1, by rw [nums_of h hq]; exact hn⟩
  · rintro ⟨k, hn⟩
    obtain ⟨q, hq, rfl⟩ := List.mem_map.mp (nums_mem hn)
    exact ⟨q, hq, by rw [nums_of h hq] at hn; exact hn⟩
theorem putS_keys {S : Rw} {k v : Int} : (putS S k v).map (·.1) = if k ∈ S.map (·.1) then S.map (·.1) else S.map (·.1) ++ [k] := by
  induction S with
  | nil => simp [putS]
  | cons q r ih =>
    unfold putS
    by_cases h : q.1 = k
    · rw [if_pos h, List.map_cons, List.map_cons, if_pos (by simp [h])]
    · rw [if_neg h, List.map_cons, List.map_cons, ih]
      by_cases hk : k ∈ r.map (·.1)
      · rw [if_pos hk, if_pos (List.mem_cons_of_mem _ hk)]
      · rw [if_neg hk, if_neg (by rw [List.mem_cons, not_or]; exact ⟨Ne.symm h, hk⟩)]; rfl
theorem putS_nums {S : Rw} {k v j : Int} : nums (putS S k v) j = if j = k then nums S k ++ [v] else nums S j := by
  induction S with
  | nil =>
    unfold putS
    rw [nums_cons]
    by_cases h : j = k
    · subst h; simp [nums]
    · rw [if_neg (Ne.symm h), if_neg h]
  | cons q r ih =>
    unfold putS
    by_cases h : q.1 = k
    · rw [if_pos h, nums_cons, nums_cons, nums_cons, if_pos h]
      by_cases hj : j = k
      · subst hj; rw [if_pos h, if_pos rfl]
      · rw [if_neg (fun z => hj (z.symm.trans h)), if_neg hj, if_neg (fun z => hj (z.symm.trans h))]
    · rw [if_neg h, nums_cons, nums_cons, nums_cons, ih, if_neg h]
      by_cases hj : j = k
      · subst hj; simp [h]
      · rw [if_neg hj, if_neg hj]
theorem putS_ok {S : Rw} {k v : Int} (h : Ok S) : Ok (putS S k v) := by
  refine ⟨?_, ?_⟩
  · rw [putS_keys]
    split
    · exact h.nd
    · next hk =>
      rw [List.nodup_append]
      exact ⟨h.nd, by simp, fun a ha b hb => by rw [List.mem_singleton] at hb; subst hb; exact fun z => hk (z ▸ ha)⟩
  · have ne := h.ne
    clear h
    induction S with
    | nil => intro q hq; unfold putS at hq; rw [List.mem_singleton] at hq; subst hq; simp
    | cons p r ih =>
      intro q hq
      unfold putS at hq
      split at hq
      · rcases List.mem_cons.mp hq with rfl | hq
        · simp
        · exact ne q (.tail _ hq)
      · rcases List.mem_cons.mp hq with rfl | hq
        · exact ne _ (.head _)
        · exact ih (fun q hq => ne q (.tail _ hq)) q hq
theorem putS_perm {S : Rw} {k v : Int} : (allN (putS S k v)).Perm (v :: allN S) := by
  induction S with
  | nil => simp [putS, allN]
  | cons q r ih =>
    unfold putS
    split
    · unfold allN
      rw [List.flatMap_cons, List.flatMap_cons]
      simp only [List.append_assoc, List.singleton_append]
      exact List.perm_middle
    · unfold allN at ih ⊢
      rw [List.flatMap_cons, List.flatMap_cons]
      exact (List.Perm.append_left _ ih).trans List.perm_middle
theorem nextS_perm {k v : Int} {vs : List Int} {r : Rw} : (allN ((k, v :: vs) :: r)).Perm (v :: allN (nextS k vs r)) := by
  unfold nextS allN
  split
  · next h => subst h; simp
  · rw [List.flatMap_append]
    simp only [List.flatMap_cons, List.flatMap_nil, List.append_nil, List.cons_append]
    exact List.Perm.cons _ List.perm_append_comm
theorem nextS_ok {k v : Int} {vs : List Int} {r : Rw} (h : Ok ((k, v :: vs) :: r)) : Ok (nextS k vs r) := by
  have nd := h.nd
  rw [List.map_cons, List.nodup_cons] at nd
  have ne := h.ne
  unfold nextS
  split
  · exact ⟨nd.2, fun q hq => ne q (.tail _ hq)⟩
  · next hv =>
    refine ⟨?_, fun q hq => ?_⟩
    · rw [List.map_append, List.nodup_append]
      refine ⟨nd.2, by simp, fun a ha b hb => ?_⟩
      simp at hb
      subst hb
      exact fun z => nd.1 (z ▸ ha)
    · rcases List.mem_append.mp hq with z | z
      · exact ne q (.tail _ z)
      · rw [List.mem_singleton] at z
        subst z
        exact hv
theorem nums_app {S : Rw} {k : Int} {vs : List Int} {j : Int} (h : k ∉ S.map (·.1)) : nums (S ++ [(k, vs)]) j = if j = k then vs else nums S j := by
  induction S with
  | nil =>
    rw [List.nil_append, nums_cons]
    by_cases e : j = k
    · rw [if_pos e.symm, if_pos e]
    · rw [if_neg (Ne.symm e), if_neg e]
  | cons q r ih =>
    rw [List.map_cons, List.mem_cons, not_or] at h
    rw [List.cons_append, nums_cons, nums_cons, ih h.2]
    by_cases e : j = k
    · subst e; rw [if_neg (Ne.symm h.1), if_pos rfl, if_pos rfl]
    · rw [if_neg e, if_neg e]
theorem nextS_nums {k v : Int} {vs : List Int} {r : Rw} (h : Ok ((k, v :: vs) :: r)) {j : Int} : nums (nextS k vs r) j = if j = k then vs else nums ((k, v :: vs) :: r) j := by
  have nd := h.nd
  rw [List.map_cons, List.nodup_cons] at nd
  rw [nums_cons]
  unfold nextS
  split
  · next hv =>
    subst hv
    by_cases e : j = k
    · subst e; rw [if_pos rfl, nums_out nd.1]
    · rw [if_neg e, if_neg (Ne.symm e)]
  · rw [nums_app nd.1]
    by_cases e : j = k
    · rw [if_pos e, if_pos e]
    · rw [if_neg e, if_neg e, if_neg (Ne.symm e)]
theorem nextS_len {k v : Int} {vs : List Int} {r : Rw} : (nextS k vs r).length ≤ ((k, v :: vs) :: r).length := by
  unfold nextS
  split <;> simp
theorem allN_pos {k : Int} {v : Int} {vs : List Int} {r : Rw} : (allN ((k, v :: vs) :: r)).length = (allN (nextS k vs r)).length + 1 := by
  rw [(nextS_perm (k := k) (v := v) (vs := vs) (r := r)).length_eq]; rfl
theorem outS_len : ∀ {n : Nat} {S : Rw}, Ok S → (outS n S).1.length = min n (allN S).length
  | 0, S, h => by simp [outS]
  | n + 1, [], h => by simp [outS, allN]
  | n + 1, (k, []) :: r, h => absurd rfl (h.ne _ (.head _))
  | n + 1, (k, v :: vs) :: r, h => by
    unfold outS
    rw [List.length_cons, outS_len (nextS_ok h), allN_pos]
    omega
theorem outS_all : ∀ {n : Nat} {S : Rw}, Ok S → (allN S).length ≤ n → (outS n S).2 = []
  | 0, [], h, _ => rfl
  | 0, (k, []) :: r, h, _ => absurd rfl (h.ne _ (.head _))
  | 0, (k, v :: vs) :: r, h, e => by simp [allN] at e
  | n + 1, [], h, _ => rfl
  | n + 1, (k, []) :: r, h, _ => absurd rfl (h.ne _ (.head _))
  | n + 1, (k, v :: vs) :: r, h, e => by
    unfold outS
    refine outS_all (nextS_ok h) ?_
    rw [allN_pos] at e
    omega
end K32
namespace K32
open PySem L2
structure WR where
  num : Int
  addr : Addr
  key : Int
  place : Int
  came : Int
  keys : Int
structure Rec (S : Rw) (g : Int) (q : WR) : Prop where
  mem : q.num ∈ nums S q.key
  cam : q.came ≤ g
  bnd : g - q.came + ((S.map (·.1)).idxOf q.key : Int) + 1 ≤ (q.place - ((nums S q.key).idxOf q.num : Int)) * q.keys
  k0 : 0 ≤ q.keys
theorem ix_app {α : Type} [DecidableEq α] {l m : List α} {a : α} (h : a ∈ l) : (l ++ m).idxOf a = l.idxOf a := by
  rw [List.idxOf_append, if_pos h]
theorem putS_ix {S : Rw} {k v j : Int} (h : j ∈ S.map (·.1)) : ((putS S k v).map (·.1)).idxOf j = (S.map (·.1)).idxOf j := by
  rw [putS_keys]
  split
  · rfl
  · exact ix_app h
theorem Rec.put {S : Rw} {g k v : Int} {q : WR} (r : Rec S g q) : Rec (putS S k v) g q := by
  have hk := nums_mem r.mem
  have e2 : (nums (putS S k v) q.key).idxOf q.num = (nums S q.key).idxOf q.num := by
    rw [putS_nums]
    split
    · next h => rw [← h]; exact ix_app r.mem
    · rfl
  refine ⟨?_, r.cam, ?_, r.k0⟩
  · rw [putS_nums]
    split
    · next h => rw [← h]; exact List.mem_append_left _ r.mem
    · exact r.mem
  · rw [putS_ix hk, e2]
    exact r.bnd
theorem Rec.new {S : Rw} {g k v : Int} {a : Addr} (h : v ∉ nums S k) : Rec (putS S k v) g ⟨v, a, k, (nums S k).length + 1, g, (putS S k v).length⟩ := by
  have hk : k ∈ (putS S k v).map (·.1) := by
    rw [putS_keys]
    split
    · assumption
    · simp
  have hi := List.idxOf_lt_length_of_mem hk
  rw [List.length_map] at hi
  refine ⟨by rw [putS_nums, if_pos rfl]; simp, Int.le_refl _, ?_, by show (0 : Int) ≤ ((putS S k v).length : Int); omega⟩
  have e2 : (nums (putS S k v) k).idxOf v = (nums S k).length := by
    rw [putS_nums, if_pos rfl, List.idxOf_append, if_neg h]
    simp
  dsimp only
  rw [e2, show ((nums S k).length : Int) + 1 - ((nums S k).length : Int) = 1 by omega, Int.one_mul]
  omega
theorem Rec.more {S : Rw} {g K' : Int} {q : WR} (r : Rec S g q) (h : q.keys ≤ K') : Rec S g { q with keys := K' } := by
  refine ⟨r.mem, r.cam, ?_, Int.le_trans r.k0 h⟩
  have b := r.bnd
  have c := r.cam
  have k0 := r.k0
  dsimp only
  have hp : 0 < (q.place - ((nums S q.key).idxOf q.num : Int)) := by
    by_cases hx : 0 < (q.place - ((nums S q.key).idxOf q.num : Int))
    · exact hx
    · have := Int.mul_le_mul_of_nonneg_right (show (q.place - ((nums S q.key).idxOf q.num : Int)) ≤ 0 by omega) k0
      omega
  have := Int.mul_le_mul_of_nonneg_left h (Int.le_of_lt hp)
  omega
theorem uq_key0 {S : Rw} (nd : (S.map (·.1)).Nodup) (h : (allN S).Nodup) {n k j : Int} (h1 : n ∈ nums S k) (h2 : n ∈ nums S j) : k = j := by
  induction S with
  | nil => cases h1
  | cons q r ih =>
    rw [List.map_cons, List.nodup_cons] at nd
    unfold allN at h ih
    rw [List.flatMap_cons, List.nodup_append] at h
    rw [nums_cons] at h1 h2
    have inR : ∀ {i : Int}, n ∈ nums r i → n ∈ r.flatMap (·.2) := fun hi => (mem_allN nd.2).mpr ⟨_, hi⟩
    split at h1 <;> split at h2
    · next a b => rw [← a, ← b]
    · exact absurd rfl (h.2.2 n h1 n (inR h2))
    · exact absurd rfl (h.2.2 n h2 n (inR h1))
    · exact ih nd.2 h.2.1 h1 h2
theorem uq_key {S : Rw} (hk : Ok S) (h : (allN S).Nodup) {n k j : Int} (h1 : n ∈ nums S k) (h2 : n ∈ nums S j) : k = j := uq_key0 hk.nd h h1 h2
theorem ix_ne {a b : Int} {l : List Int} (h : b ≠ a) : (b :: l).idxOf a = l.idxOf a + 1 := by
  rw [List.idxOf_cons, beq_eq_false_iff_ne.mpr h]
  rfl
theorem Rec.give {k v : Int} {vs : List Int} {r : Rw} {g : Int} {q : WR} (hS : Ok ((k, v :: vs) :: r)) (hU : (allN ((k, v :: vs) :: r)).Nodup) (h : Rec ((k, v :: vs) :: r) g q) (hK : (((k, v :: vs) :: r).length : Int) ≤ q.keys) :
    (q.num = v → q.key = k ∧ g + 1 - q.came ≤ q.place * q.keys) ∧ (q.num ≠ v → Rec (nextS k vs r) (g + 1) q) := by
  have nd := hS.nd
  rw [List.map_cons, List.nodup_cons] at nd
  have hv : v ∈ nums ((k, v :: vs) :: r) k := by rw [nums_cons, if_pos rfl]; exact .head _
  refine ⟨fun e => ?_, fun e => ?_⟩
  · have hm := h.mem
    rw [e] at hm
    have hk : q.key = k := uq_key hS hU hm hv
    have b := h.bnd
    rw [hk, e, List.map_cons, nums_cons, if_pos rfl] at b
    simp only [List.idxOf_cons_self] at b
    refine ⟨hk, ?_⟩
    simp at b
    omega
  · have m := h.mem
    have b := h.bnd
    have c := h.cam
    have k0 := h.k0
    rw [List.length_cons] at hK
    by_cases hk : q.key = k
    · rw [hk, nums_cons, if_pos rfl] at m
      have m2 : q.num ∈ vs := by
        rcases List.mem_cons.mp m with z | z
        · exact absurd z e
        · exact z
      have hvs : vs ≠ [] := fun z => by rw [z] at m2; cases m2
      rw [hk, List.map_cons, nums_cons, if_pos rfl, List.idxOf_cons_self, ix_ne (Ne.symm e)] at b
      have en : nextS k vs r = r ++ [(k, vs)] := if_neg hvs
      have ei : ((nextS k vs r).map (·.1)).idxOf k = r.length := by
        rw [en, List.map_append, List.idxOf_append, if_neg nd.1]
        simp
      have e3 : nums (nextS k vs r) k = vs := by rw [nextS_nums hS, if_pos rfl]
      refine ⟨by rw [hk, e3]; exact m2, by omega, ?_, k0⟩
      rw [hk, ei, e3]
      have e4 : (q.place - ((vs.idxOf q.num : Nat) : Int)) * q.keys = (q.place - (((vs.idxOf q.num) + 1 : Nat) : Int)) * q.keys + q.keys := by
        rw [show q.place - ((vs.idxOf q.num : Nat) : Int) = (q.place - (((vs.idxOf q.num) + 1 : Nat) : Int)) + 1 by omega, Int.add_mul, Int.one_mul]
      rw [e4]
      generalize (q.place - (((vs.idxOf q.num) + 1 : Nat) : Int)) * q.keys = z at b ⊢
      omega
    · have hk' : k ≠ q.key := Ne.symm hk
      have e3 : nums (nextS k vs r) q.key = nums ((k, v :: vs) :: r) q.key := by rw [nextS_nums hS, if_neg hk]
      have m2 := nums_mem m
      rw [List.map_cons] at m2
      have m3 : q.key ∈ r.map (·.1) := by
        rcases List.mem_cons.mp m2 with z | z
        · exact absurd z hk
        · exact z
      have ei : ((nextS k vs r).map (·.1)).idxOf q.key = (r.map (·.1)).idxOf q.key := by
        unfold nextS
        split
        · rfl
        · rw [List.map_append]; exact ix_app m3
      rw [List.map_cons, ix_ne hk'] at b
      refine ⟨by rw [e3]; exact m, by omega, ?_, k0⟩
      rw [ei, e3]
      omega
end K32
namespace K32
open PySem L2
section
variable {P : Program} {w : World} {K : PySem.W.Frag} {mg : Str → Option Value} {base : Heap} {C : Addr}
abbrev at_Gate : List Str := ["places", "row", "kept"]
def fs_Gate (a0 a1 a2 : V) : List (Str × V) := [("places", a0), ("row", a1), ("kept", a2)]
section
variable {a0 a1 a2 : V}
theorem fs_Gate_places : (fs_Gate a0 a1 a2).lookup ("places" : Str) = some a0 := rfl
theorem fs_Gate_row : (fs_Gate a0 a1 a2).lookup ("row" : Str) = some a1 := rfl
theorem fs_Gate_kept : (fs_Gate a0 a1 a2).lookup ("kept" : Str) = some a2 := rfl
theorem fn_Gate___init__ : (fs_Gate a0 a1 a2).lookup ("__init__" : Str) = none := rfl
theorem fn_Gate_put : (fs_Gate a0 a1 a2).lookup ("put" : Str) = none := rfl
theorem fn_Gate_out : (fs_Gate a0 a1 a2).lookup ("out" : Str) = none := rfl
theorem fn_Gate_give_one : (fs_Gate a0 a1 a2).lookup ("give_one" : Str) = none := rfl
theorem fn_Gate_waiting : (fs_Gate a0 a1 a2).lookup ("waiting" : Str) = none := rfl
theorem fn_Gate_waits : (fs_Gate a0 a1 a2).lookup ("waits" : Str) = none := rfl
theorem fl_Gate : ((fs_Gate a0 a1 a2).length < 1000) = True := by simp [fs_Gate]
theorem fp_Gate_places {v : V} : putF "places" v (fs_Gate a0 a1 a2) = fs_Gate v a1 a2 := by with_unfolding_all rfl
theorem fp_Gate_row {v : V} : putF "row" v (fs_Gate a0 a1 a2) = fs_Gate a0 v a2 := by with_unfolding_all rfl
theorem fp_Gate_kept {v : V} : putF "kept" v (fs_Gate a0 a1 a2) = fs_Gate a0 a1 v := by with_unfolding_all rfl
theorem fq_Gate_0 {v : V} : putF "places" v ([] : List (Str × V)) = ([("places", v)] : List (Str × V)) := by with_unfolding_all rfl
theorem fq_Gate_1 {v : V} : putF "row" v ([("places", a0)] : List (Str × V)) = ([("places", a0), ("row", v)] : List (Str × V)) := by with_unfolding_all rfl
theorem fq_Gate_2 {v : V} : putF "kept" v ([("places", a0), ("row", a1)] : List (Str × V)) = fs_Gate a0 a1 v := by with_unfolding_all rfl
end
abbrev s_Gate___init__ : Stmt := inClass (top 3) 0
theorem sc_Gate___init__ : FnScope ["self", "places"] ["self", "places"] (defScope s_Gate___init__) := ⟨rfl, rfl, rfl, by decide +kernel, rfl, by decide +kernel, by decide +kernel⟩
abbrev s_Gate_put : Stmt := inClass (top 3) 1
theorem sc_Gate_put : FnScope ["self", "key", "parcel", "parcels"] ["self", "key", "parcel"] (defScope s_Gate_put) := ⟨rfl, rfl, rfl, by decide +kernel, rfl, by decide +kernel, by decide +kernel⟩
abbrev s_Gate_out : Stmt := inClass (top 3) 2
theorem sc_Gate_out : FnScope ["self", "many", "given_out"] ["self", "many"] (defScope s_Gate_out) := ⟨rfl, rfl, rfl, by decide +kernel, rfl, by decide +kernel, by decide +kernel⟩
abbrev s_Gate_give_one : Stmt := inClass (top 3) 3
theorem sc_Gate_give_one : FnScope ["self", "key", "parcels"] ["self"] (defScope s_Gate_give_one) := ⟨rfl, rfl, rfl, by decide +kernel, rfl, by decide +kernel, by decide +kernel⟩
abbrev s_Gate_waiting : Stmt := inClass (top 3) 4
theorem sc_Gate_waiting : FnScope ["self"] ["self"] (defScope s_Gate_waiting) := ⟨rfl, rfl, rfl, by decide +kernel, rfl, by decide +kernel, by decide +kernel⟩
abbrev s_Gate_waits : Stmt := inClass (top 3) 5
theorem sc_Gate_waits : FnScope ["self", "key"] ["self", "key"] (defScope s_Gate_waits) := ⟨rfl, rfl, rfl, by decide +kernel, rfl, by decide +kernel, by decide +kernel⟩
/-! ### a gate -/
def pcl (k n : Int) : PyData := .tuple [.int 0, .int k, .int 9, .tuple [.str "got", .int n]]
def Lk (H : Hp) (kvs : List (Key × V)) (S : Rw) : Prop := ∀ k : Int, if nums S k = [] then valV kvs (Sum.inl k) = none else ∃ p xs, valV kvs (Sum.inl k) = some (.ref p) ∧ H p = some (.lst xs) ∧ Ims H xs ((nums S k).map (pcl k))
structure GateAt (C : Addr) (H : Hp) (x dx pr pk : Addr) (pl : Int) (kvs : List (Key × V)) (S : Rw) (n : Nat) : Prop where
  ins : H x = some (.ins C dx (fs_Gate (.int pl) (.ref pr) (.ref pk)))
  row : H pr = some (.lst (S.map fun q => V.int q.1))
  kep : H pk = some (.dK kvs)
  lk : Lk H kvs S
  ok : Ok S
  len : kvs.length ≤ n
  vl : ∀ k p, valV kvs (Sum.inl k) = some (.ref p) → p ≠ pr
  few : ∀ k, (nums S k).length ≤ pl.toNat
theorem Lk.keep {S : List Addr} {H H' : Hp} {kvs : List (Key × V)} {R : Rw} (h : Lk H kvs R) (k : Keep S H H') (hs : ∀ b ∈ S, NoT H b) (hv : ∀ j p, valV kvs (Sum.inl j) = some (.ref p) → p ∉ S) : Lk H' kvs R := fun j => by
  have := h j
  split
  · next e => rw [if_pos e] at this; exact this
  · next e =>
    rw [if_neg e] at this
    obtain ⟨p, xs, h1, h2, h3⟩ := this
    exact ⟨p, xs, h1, k _ _ h2 (hv j p h1), h3.keep k hs⟩
theorem GateAt.keep {S : List Addr} {H H' : Hp} {x dx pr pk : Addr} {pl : Int} {kvs : List (Key × V)} {R : Rw} {n : Nat} (G : GateAt C H x dx pr pk pl kvs R n) (k : Keep S H H') (hs : ∀ b ∈ S, NoT H b) (n1 : x ∉ S) (n2 : pr ∉ S) (n3 : pk ∉ S) (hv : ∀ j p, valV kvs (Sum.inl j) = some (.ref p) → p ∉ S) : GateAt C H' x dx pr pk pl kvs R n :=
  ⟨k _ _ G.ins n1, k _ _ G.row n2, k _ _ G.kep n3, G.lk.keep k hs hv, G.ok, G.len, G.vl, G.few⟩
theorem GateAt.same {H H' : Hp} {x dx pr pk : Addr} {pl : Int} {kvs : List (Key × V)} {R : Rw} {n : Nat} (G : GateAt C H x dx pr pk pl kvs R n) (s : Same H H') : GateAt C H' x dx pr pk pl kvs R n :=
  G.keep (S := []) s.keep (fun _ z => nomatch z) (by simp) (by simp) (by simp) (fun _ _ _ => by simp)
def sp_ginit (C : Addr) : Sp := fun vs H Q _ => ∃ (x dx : Addr) (pl : Int), vs = [.ref x, .int pl] ∧ H x = some (.ins C dx []) ∧ ∀ pr pk H', H pr = none → H pk = none → GateAt C H' x dx pr pk pl [] [] 0 → Keep [x] H H' → Q .non H'
theorem own_ginit (D : DefI K C "Gate.__init__" s_Gate___init__) (T_Gate : ClsD K mg "Gate" C at_Gate) : OwnI P w K mg base 1 C ["self", "places"] (sp_ginit C) := by
  refine D.own sc_Gate___init__ (fun _ _ _ _ _ _ us hl => match us, hl with | [_, _], _ => rfl) (fun vs H Q E h => ?_) (fun f cdv A outer s H vs Q E hr h => ?_)
  · obtain ⟨x, dx, pl, rfl, _⟩ := h
    rfl
  · obtain ⟨x, dx, pl, rfl, e, q⟩ := h
    refine ⟨_, (@pss_cons _ _ _ _ _ (@ps_fld _ _ _ _ _ _ _ _ (@pv _ 0 _ _ (by rfl) (by first | exact Or.inl rfl | exact Or.inr (Or.inl rfl) | exact Or.inr (Or.inr rfl)) (by decide) (by decide)) (@pv _ 1 _ _ (by rfl) (by first | exact Or.inl rfl | exact Or.inr (Or.inl rfl) | exact Or.inr (Or.inr rfl)) (by decide) (by decide)) rfl) (@pss_cons _ _ _ _ _ (@ps_fld _ _ _ _ _ _ _ _ (@pv _ 0 _ _ (by rfl) (by first | exact Or.inl rfl | exact Or.inr (Or.inl rfl) | exact Or.inr (Or.inr rfl)) (by decide) (by decide)) (@pe_lst _ _ _ _ (@pa_nil _)) rfl) (@pss_one _ _ _ (@ps_fld _ _ _ _ _ _ _ _ (@pv _ 0 _ _ (by rfl) (by first | exact Or.inl rfl | exact Or.inr (Or.inl rfl) | exact Or.inr (Or.inr rfl)) (by decide) (by decide)) (@pe_dnewK _ _) rfl)))), ?_⟩
    simp (maxSteps := 1000000) only [tFor_eq, tComp_eq, rRngs, rListR, HO.rng.injEq, tDKeys, rSortL, rSortK, ixN_10, ixN_20, ixN_21, ixN_30, ixN_31, ixN_32, ixN_40, ixN_41, ixN_42, ixN_43, ixN_50, ixN_51, ixN_52, ixN_53, ixN_54, rNe_nn, rEq_nn, rNe_in, rEq_in, rNe_ni, rEq_ni, gSeqX, rLeS, rEq_ss, rNe_ss, rStr1, rAllX, rAnyX, rListD, iStr, rSumX, tBL, tBL0, rExtend, rPopAt, rPop, rReverse, rClear, rIsIX, tyX_n, tyX_b, tyX_i, tyX_s, tyX_r, tyO_l, tyO_t, tyO_d, V.ty.injEq, kT_Noin, kT_Nobo, kT_Nost, kT_Noli, kT_Notu, kT_Nodi, kT_boin, kT_bobo, kT_bost, kT_boli, kT_botu, kT_bodi, kT_inin, kT_inbo, kT_inst, kT_inli, kT_intu, kT_indi, kT_stin, kT_stbo, kT_stst, kT_stli, kT_sttu, kT_stdi, kT_liin, kT_libo, kT_list, kT_lili, kT_litu, kT_lidi, kT_tuin, kT_tubo, kT_tust, kT_tuli, kT_tutu, kT_tudi, kT_diin, kT_dibo, kT_dist, kT_dili, kT_ditu, kT_didi, rGet, getO_l, getO_t, getO_di, getO_ds, rLenX, lenX_r, lenX_s', lenO_l, lenO_t, lenO_d, Option.bind_some, tTruX, truX_n, truX_b, truX_i, truX_r, truO_l, truO_t, truO_d, rInX, rNotInX, inO_l', inO_t', inO_di, inO_ds, rSetX, setO_l, setO_di', setO_ds', rSlX, rListX, seqO_l, seqO_t, rTupX, gTupX, gCons, gNil, gSub, atI_0, atI_1, atI_2, atI_3, tDNewK, Nat.reduceSub, upd_same, upd_upd, Nat.reduceLT, HO.lst.injEq, HO.tup.injEq, HO.dK.injEq, HO.ins.injEq, Option.map_some, Option.isSome_some, Int.reduceEq, Int.reduceLT, Int.reduceLE, Nat.reduceAdd, List.isEmpty_nil, List.isEmpty_cons, ne_eq, not_false_eq_true, tDGs, sDPs, rIsB, rIsntB, tMeth, tMake, tDGet, sDPut, tFld, sFld, tDisp, tPairs, tNever, decide_true, decide_false, truV_bl, clsV_ty, V.ty.injEq, exists_eq', exists_eq, Bool.not_true, Bool.not_false, Bool.not_not, rLen, rListOf, rTupOf, rAny, rAll, rIsI, tTru, iRng1, iRng2, iList, tYes, cSt, List.drop_succ_cons, List.drop_zero, cxOf_K, cxC_K,  tBM, tBM0, rAppend, tSl, rSlL, tNoPart, tPart, rIxL, rIxT, rCat, List.cons.injEq, rEq_ii, rNe_ii, rEq_bb, rNe_bb, tSeq, exists_and_left, if_false, if_true, reduceIte, Bool.false_eq_true, tIfS, tAnd, tOr, tNot, tTest, tOp, tUn, tVar, tC, rI, rI0, rU, tRet, tRetN, tAsg, gName, tNext, tAndV, tOrV, tNotV, tIf, tCall, tCons, tNil, tCB, tDrop, tLst, tTup, tChain, L2.start, List.map_cons, List.map_nil, List.length_cons, List.length_nil, List.replicate, List.cons_append, List.nil_append, List.getElem?_cons_zero, List.getElem?_cons_succ, List.set_cons_zero, List.set_cons_succ, Option.some.injEq, exists_eq_left', exists_eq_left, V.int.injEq, V.bl.injEq, V.ref.injEq, V.str.injEq, exists_const, and_true, true_and, reduceCtorEq, false_and, exists_false, or_false, false_or, and_assoc, List.append_nil, e, T_Gate.cl, T_Gate.no "places" (by decide), T_Gate.no "row" (by decide), T_Gate.no "kept" (by decide), fs_Gate_places, fs_Gate_row, fs_Gate_kept, fn_Gate___init__, fn_Gate_put, fn_Gate_out, fn_Gate_give_one, fn_Gate_waiting, fn_Gate_waits, fl_Gate, fp_Gate_places, fp_Gate_row, fp_Gate_kept, fq_Gate_0, fq_Gate_1, fq_Gate_2]
    generalize z0 : upd H x _ = H0
    have e0 := (congrFun z0.symm x).trans upd_same
    have k0 : Keep [x] H H0 := by rw [← z0]; exact Keep.refl.upd (.inl (.head _))
    refine ⟨by decide, ?_⟩
    intro p1 n1
    generalize z1 : upd H0 p1 _ = H1
    obtain ⟨s1, e1⟩ := new_same z1 n1
    have ex1 := s1 _ _ e0
    simp (maxSteps := 1000000) only [tFor_eq, tComp_eq, rRngs, rListR, HO.rng.injEq, tDKeys, rSortL, rSortK, ixN_10, ixN_20, ixN_21, ixN_30, ixN_31, ixN_32, ixN_40, ixN_41, ixN_42, ixN_43, ixN_50, ixN_51, ixN_52, ixN_53, ixN_54, rNe_nn, rEq_nn, rNe_in, rEq_in, rNe_ni, rEq_ni, gSeqX, rLeS, rEq_ss, rNe_ss, rStr1, rAllX, rAnyX, rListD, iStr, rSumX, tBL, tBL0, rExtend, rPopAt, rPop, rReverse, rClear, rIsIX, tyX_n, tyX_b, tyX_i, tyX_s, tyX_r, tyO_l, tyO_t, tyO_d, V.ty.injEq, kT_Noin, kT_Nobo, kT_Nost, kT_Noli, kT_Notu, kT_Nodi, kT_boin, kT_bobo, kT_bost, kT_boli, kT_botu, kT_bodi, kT_inin, kT_inbo, kT_inst, kT_inli, kT_intu, kT_indi, kT_stin, kT_stbo, kT_stst, kT_stli, kT_sttu, kT_stdi, kT_liin, kT_libo, kT_list, kT_lili, kT_litu, kT_lidi, kT_tuin, kT_tubo, kT_tust, kT_tuli, kT_tutu, kT_tudi, kT_diin, kT_dibo, kT_dist, kT_dili, kT_ditu, kT_didi, rGet, getO_l, getO_t, getO_di, getO_ds, rLenX, lenX_r, lenX_s', lenO_l, lenO_t, lenO_d, Option.bind_some, tTruX, truX_n, truX_b, truX_i, truX_r, truO_l, truO_t, truO_d, rInX, rNotInX, inO_l', inO_t', inO_di, inO_ds, rSetX, setO_l, setO_di', setO_ds', rSlX, rListX, seqO_l, seqO_t, rTupX, gTupX, gCons, gNil, gSub, atI_0, atI_1, atI_2, atI_3, tDNewK, Nat.reduceSub, upd_same, upd_upd, Nat.reduceLT, HO.lst.injEq, HO.tup.injEq, HO.dK.injEq, HO.ins.injEq, Option.map_some, Option.isSome_some, Int.reduceEq, Int.reduceLT, Int.reduceLE, Nat.reduceAdd, List.isEmpty_nil, List.isEmpty_cons, ne_eq, not_false_eq_true, tDGs, sDPs, rIsB, rIsntB, tMeth, tMake, tDGet, sDPut, tFld, sFld, tDisp, tPairs, tNever, decide_true, decide_false, truV_bl, clsV_ty, V.ty.injEq, exists_eq', exists_eq, Bool.not_true, Bool.not_false, Bool.not_not, rLen, rListOf, rTupOf, rAny, rAll, rIsI, tTru, iRng1, iRng2, iList, tYes, cSt, List.drop_succ_cons, List.drop_zero, cxOf_K, cxC_K,  tBM, tBM0, rAppend, tSl, rSlL, tNoPart, tPart, rIxL, rIxT, rCat, List.cons.injEq, rEq_ii, rNe_ii, rEq_bb, rNe_bb, tSeq, exists_and_left, if_false, if_true, reduceIte, Bool.false_eq_true, tIfS, tAnd, tOr, tNot, tTest, tOp, tUn, tVar, tC, rI, rI0, rU, tRet, tRetN, tAsg, gName, tNext, tAndV, tOrV, tNotV, tIf, tCall, tCons, tNil, tCB, tDrop, tLst, tTup, tChain, L2.start, List.map_cons, List.map_nil, List.length_cons, List.length_nil, List.replicate, List.cons_append, List.nil_append, List.getElem?_cons_zero, List.getElem?_cons_succ, List.set_cons_zero, List.set_cons_succ, Option.some.injEq, exists_eq_left', exists_eq_left, V.int.injEq, V.bl.injEq, V.ref.injEq, V.str.injEq, exists_const, and_true, true_and, reduceCtorEq, false_and, exists_false, or_false, false_or, and_assoc, List.append_nil, ex1, T_Gate.cl, T_Gate.no "places" (by decide), T_Gate.no "row" (by decide), T_Gate.no "kept" (by decide), fs_Gate_places, fs_Gate_row, fs_Gate_kept, fn_Gate___init__, fn_Gate_put, fn_Gate_out, fn_Gate_give_one, fn_Gate_waiting, fn_Gate_waits, fl_Gate, fp_Gate_places, fp_Gate_row, fp_Gate_kept, fq_Gate_0, fq_Gate_1, fq_Gate_2]
    have nx1 : p1 ≠ x := fun z => by subst z; rw [e0] at n1; cases n1
    generalize z2 : upd H1 x _ = H2
    have e2 := (congrFun z2.symm x).trans upd_same
    have k2 : Keep [x] H1 H2 := by rw [← z2]; exact Keep.refl.upd (.inl (.head _))
    intro p3 n3
    generalize z3 : upd H2 p3 _ = H3
    obtain ⟨s3, e3⟩ := new_same z3 n3
    have ex3 := s3 _ _ e2
    simp (maxSteps := 1000000) only [tFor_eq, tComp_eq, rRngs, rListR, HO.rng.injEq, tDKeys, rSortL, rSortK, ixN_10, ixN_20, ixN_21, ixN_30, ixN_31, ixN_32, ixN_40, ixN_41, ixN_42, ixN_43, ixN_50, ixN_51, ixN_52, ixN_53, ixN_54, rNe_nn, rEq_nn, rNe_in, rEq_in, rNe_ni, rEq_ni, gSeqX, rLeS, rEq_ss, rNe_ss, rStr1, rAllX, rAnyX, rListD, iStr, rSumX, tBL, tBL0, rExtend, rPopAt, rPop, rReverse, rClear, rIsIX, tyX_n, tyX_b, tyX_i, tyX_s, tyX_r, tyO_l, tyO_t, tyO_d, V.ty.injEq, kT_Noin, kT_Nobo, kT_Nost, kT_Noli, kT_Notu, kT_Nodi, kT_boin, kT_bobo, kT_bost, kT_boli, kT_botu, kT_bodi, kT_inin, kT_inbo, kT_inst, kT_inli, kT_intu, kT_indi, kT_stin, kT_stbo, kT_stst, kT_stli, kT_sttu, kT_stdi, kT_liin, kT_libo, kT_list, kT_lili, kT_litu, kT_lidi, kT_tuin, kT_tubo, kT_tust, kT_tuli, kT_tutu, kT_tudi, kT_diin, kT_dibo, kT_dist, kT_dili, kT_ditu, kT_didi, rGet, getO_l, getO_t, getO_di, getO_ds, rLenX, lenX_r, lenX_s', lenO_l, lenO_t, lenO_d, Option.bind_some, tTruX, truX_n, truX_b, truX_i, truX_r, truO_l, truO_t, truO_d, rInX, rNotInX, inO_l', inO_t', inO_di, inO_ds, rSetX, setO_l, setO_di', setO_ds', rSlX, rListX, seqO_l, seqO_t, rTupX, gTupX, gCons, gNil, gSub, atI_0, atI_1, atI_2, atI_3, tDNewK, Nat.reduceSub, upd_same, upd_upd, Nat.reduceLT, HO.lst.injEq, HO.tup.injEq, HO.dK.injEq, HO.ins.injEq, Option.map_some, Option.isSome_some, Int.reduceEq, Int.reduceLT, Int.reduceLE, Nat.reduceAdd, List.isEmpty_nil, List.isEmpty_cons, ne_eq, not_false_eq_true, tDGs, sDPs, rIsB, rIsntB, tMeth, tMake, tDGet, sDPut, tFld, sFld, tDisp, tPairs, tNever, decide_true, decide_false, truV_bl, clsV_ty, V.ty.injEq, exists_eq', exists_eq, Bool.not_true, Bool.not_false, Bool.not_not, rLen, rListOf, rTupOf, rAny, rAll, rIsI, tTru, iRng1, iRng2, iList, tYes, cSt, List.drop_succ_cons, List.drop_zero, cxOf_K, cxC_K,  tBM, tBM0, rAppend, tSl, rSlL, tNoPart, tPart, rIxL, rIxT, rCat, List.cons.injEq, rEq_ii, rNe_ii, rEq_bb, rNe_bb, tSeq, exists_and_left, if_false, if_true, reduceIte, Bool.false_eq_true, tIfS, tAnd, tOr, tNot, tTest, tOp, tUn, tVar, tC, rI, rI0, rU, tRet, tRetN, tAsg, gName, tNext, tAndV, tOrV, tNotV, tIf, tCall, tCons, tNil, tCB, tDrop, tLst, tTup, tChain, L2.start, List.map_cons, List.map_nil, List.length_cons, List.length_nil, List.replicate, List.cons_append, List.nil_append, List.getElem?_cons_zero, List.getElem?_cons_succ, List.set_cons_zero, List.set_cons_succ, Option.some.injEq, exists_eq_left', exists_eq_left, V.int.injEq, V.bl.injEq, V.ref.injEq, V.str.injEq, exists_const, and_true, true_and, reduceCtorEq, false_and, exists_false, or_false, false_or, and_assoc, List.append_nil, ex3, T_Gate.cl, T_Gate.no "places" (by decide), T_Gate.no "row" (by decide), T_Gate.no "kept" (by decide), fs_Gate_places, fs_Gate_row, fs_Gate_kept, fn_Gate___init__, fn_Gate_put, fn_Gate_out, fn_Gate_give_one, fn_Gate_waiting, fn_Gate_waits, fl_Gate, fp_Gate_places, fp_Gate_row, fp_Gate_kept, fq_Gate_0, fq_Gate_1, fq_Gate_2]
    have nx3 : p3 ≠ x := fun z => by subst z; rw [e2] at n3; cases n3
    have e12 := k2 _ _ e1 (by simpa using nx1)
    have hn3 : H1 p3 = none := k2.free n3 (by simpa using nx3)
    refine q p1 p3 _ (k0.free n1 (by simpa using nx1)) (k0.free (by cases z : H0 p3 with | none => rfl | some o => rw [s1 _ _ z] at hn3; cases hn3) (by simpa using nx3)) ⟨upd_same, by rw [upd_ne nx1]; exact s3 _ _ e12, by rw [upd_ne nx3]; exact e3, fun k => ?_, ⟨List.nodup_nil, (fun q hq => nomatch hq)⟩, by simp, (fun k p h => by rw [valV_nil] at h; cases h), (fun k => by simp [nums])⟩ ((((k0.same s1).trans k2).same s3).upd (.inl (.head _)))
    rw [if_pos (show nums [] k = [] from rfl)]
    exact valV_nil
def sp_waiting (C : Addr) : Sp := fun vs H Q _ => ∃ (x dx pr pk : Addr) (pl : Int) (kvs : List (Key × V)) (S : Rw) (n : Nat), vs = [.ref x] ∧ GateAt C H x dx pr pk pl kvs S n ∧ ∀ p H', H p = none → H' p = some (.lst (S.map fun q => V.int q.1)) → Same H H' → Q (.ref p) H'
theorem own_waiting (D : DefM K C "waiting" "Gate.waiting" s_Gate_waiting) (hb : Blt mg) (T_Gate : ClsD K mg "Gate" C at_Gate) : OwnM P w K mg base 1 C "waiting" ["self"] (sp_waiting C) := by
  refine D.own sc_Gate_waiting (fun _ _ _ _ _ _ us hl => match us, hl with | [_], _ => rfl) (fun vs H Q E h => ?_) (fun f cdv A outer s H vs Q E hr h => ?_)
  · obtain ⟨x, dx, pr, pk, pl, kvs, S, n, rfl, _⟩ := h
    rfl
  · obtain ⟨x, dx, pr, pk, pl, kvs, S, n, rfl, G, q⟩ := h
    have ex := G.ins
    have er := G.row
    refine ⟨_, (@pss_one _ _ _ (@ps_ret _ _ _ _ (@pe_callTy _ _ _ _ _ _ _ _ _ call_listX rfl (hb _ (by decide)) bt_list (@pa_cX _ _ _ _ _ (@pe_fldK _ K _ _ _ _ (@pv _ 0 _ _ (by rfl) (by first | exact Or.inl rfl | exact Or.inr (Or.inl rfl) | exact Or.inr (Or.inr rfl)) (by decide) (by decide)) (by rfl) (by rfl)) (@pa_nil _) (by rfl)) (by decide) (by decide) (by rfl) (by rfl)))), ?_⟩
    simp (maxSteps := 1000000) only [tFor_eq, tComp_eq, rRngs, rListR, HO.rng.injEq, tDKeys, rSortL, rSortK, ixN_10, ixN_20, ixN_21, ixN_30, ixN_31, ixN_32, ixN_40, ixN_41, ixN_42, ixN_43, ixN_50, ixN_51, ixN_52, ixN_53, ixN_54, rNe_nn, rEq_nn, rNe_in, rEq_in, rNe_ni, rEq_ni, gSeqX, rLeS, rEq_ss, rNe_ss, rStr1, rAllX, rAnyX, rListD, iStr, rSumX, tBL, tBL0, rExtend, rPopAt, rPop, rReverse, rClear, rIsIX, tyX_n, tyX_b, tyX_i, tyX_s, tyX_r, tyO_l, tyO_t, tyO_d, V.ty.injEq, kT_Noin, kT_Nobo, kT_Nost, kT_Noli, kT_Notu, kT_Nodi, kT_boin, kT_bobo, kT_bost, kT_boli, kT_botu, kT_bodi, kT_inin, kT_inbo, kT_inst, kT_inli, kT_intu, kT_indi, kT_stin, kT_stbo, kT_stst, kT_stli, kT_sttu, kT_stdi, kT_liin, kT_libo, kT_list, kT_lili, kT_litu, kT_lidi, kT_tuin, kT_tubo, kT_tust, kT_tuli, kT_tutu, kT_tudi, kT_diin, kT_dibo, kT_dist, kT_dili, kT_ditu, kT_didi, rGet, getO_l, getO_t, getO_di, getO_ds, rLenX, lenX_r, lenX_s', lenO_l, lenO_t, lenO_d, Option.bind_some, tTruX, truX_n, truX_b, truX_i, truX_r, truO_l, truO_t, truO_d, rInX, rNotInX, inO_l', inO_t', inO_di, inO_ds, rSetX, setO_l, setO_di', setO_ds', rSlX, rListX, seqO_l, seqO_t, rTupX, gTupX, gCons, gNil, gSub, atI_0, atI_1, atI_2, atI_3, tDNewK, Nat.reduceSub, upd_same, upd_upd, Nat.reduceLT, HO.lst.injEq, HO.tup.injEq, HO.dK.injEq, HO.ins.injEq, Option.map_some, Option.isSome_some, Int.reduceEq, Int.reduceLT, Int.reduceLE, Nat.reduceAdd, List.isEmpty_nil, List.isEmpty_cons, ne_eq, not_false_eq_true, tDGs, sDPs, rIsB, rIsntB, tMeth, tMake, tDGet, sDPut, tFld, sFld, tDisp, tPairs, tNever, decide_true, decide_false, truV_bl, clsV_ty, V.ty.injEq, exists_eq', exists_eq, Bool.not_true, Bool.not_false, Bool.not_not, rLen, rListOf, rTupOf, rAny, rAll, rIsI, tTru, iRng1, iRng2, iList, tYes, cSt, List.drop_succ_cons, List.drop_zero, cxOf_K, cxC_K,  tBM, tBM0, rAppend, tSl, rSlL, tNoPart, tPart, rIxL, rIxT, rCat, List.cons.injEq, rEq_ii, rNe_ii, rEq_bb, rNe_bb, tSeq, exists_and_left, if_false, if_true, reduceIte, Bool.false_eq_true, tIfS, tAnd, tOr, tNot, tTest, tOp, tUn, tVar, tC, rI, rI0, rU, tRet, tRetN, tAsg, gName, tNext, tAndV, tOrV, tNotV, tIf, tCall, tCons, tNil, tCB, tDrop, tLst, tTup, tChain, L2.start, List.map_cons, List.map_nil, List.length_cons, List.length_nil, List.replicate, List.cons_append, List.nil_append, List.getElem?_cons_zero, List.getElem?_cons_succ, List.set_cons_zero, List.set_cons_succ, Option.some.injEq, exists_eq_left', exists_eq_left, V.int.injEq, V.bl.injEq, V.ref.injEq, V.str.injEq, exists_const, and_true, true_and, reduceCtorEq, false_and, exists_false, or_false, false_or, and_assoc, List.append_nil, ex, er, T_Gate.cl, T_Gate.no "places" (by decide), T_Gate.no "row" (by decide), T_Gate.no "kept" (by decide), fs_Gate_places, fs_Gate_row, fs_Gate_kept, fn_Gate___init__, fn_Gate_put, fn_Gate_out, fn_Gate_give_one, fn_Gate_waiting, fn_Gate_waits, fl_Gate, fp_Gate_places, fp_Gate_row, fp_Gate_kept, fq_Gate_0, fq_Gate_1, fq_Gate_2]
    intro p1 n1
    generalize z1 : upd H p1 _ = H1
    obtain ⟨s1, e1⟩ := new_same z1 n1
    exact q p1 H1 n1 e1 s1
def sp_waits (C : Addr) : Sp := fun vs H Q _ => ∃ (x dx pr pk : Addr) (pl k : Int) (kvs : List (Key × V)) (S : Rw) (n : Nat), vs = [.ref x, .int k] ∧ GateAt C H x dx pr pk pl kvs S n ∧ ∀ H', Same H H' → Q (.int (nums S k).length) H'
theorem own_waits (D : DefM K C "waits" "Gate.waits" s_Gate_waits) (hb : Blt mg) (T_Gate : ClsD K mg "Gate" C at_Gate) : OwnM P w K mg base 1 C "waits" ["self", "key"] (sp_waits C) := by
  refine D.own sc_Gate_waits (fun _ _ _ _ _ _ us hl => match us, hl with | [_, _], _ => rfl) (fun vs H Q E h => ?_) (fun f cdv A outer s H vs Q E hr h => ?_)
  · obtain ⟨x, dx, pr, pk, pl, k, kvs, S, n, rfl, _⟩ := h
    rfl
  · obtain ⟨x, dx, pr, pk, pl, k, kvs, S, n, rfl, G, q⟩ := h
    have hu := hr.units
    have hu1 : (A.deeper (PyProof.Rows.envOfC "Gate.waits" (defScope s_Gate_waits) s.heap.objs.size f cdv)).units + 1 < cLine := by omega
    have ex := G.ins
    have er := G.row
    have ek := G.kep
    refine ⟨_, (@pss_one _ _ _ (@ps_ret _ _ _ _ (@pe_callB _ _ _ _ _ _ _ _ _ call_lenX rfl (hb _ (by decide)) bt_len (@pa_cX _ _ _ _ _ (pe_dgX2 hu1 (@pe_fldK _ K _ _ _ _ (@pv _ 0 _ _ (by rfl) (by first | exact Or.inl rfl | exact Or.inr (Or.inl rfl) | exact Or.inr (Or.inr rfl)) (by decide) (by decide)) (by rfl) (by rfl)) (@pv _ 1 _ _ (by rfl) (by first | exact Or.inl rfl | exact Or.inr (Or.inl rfl) | exact Or.inr (Or.inr rfl)) (by decide) (by decide)) (@pe_lst _ _ _ _ (@pa_nil _)) (by constructor <;> rfl)) (@pa_nil _) (by rfl)) (by decide) (by decide) (by rfl) (by rfl)))), ?_⟩
    simp (maxSteps := 1000000) only [tFor_eq, tComp_eq, rRngs, rListR, HO.rng.injEq, tDKeys, rSortL, rSortK, ixN_10, ixN_20, ixN_21, ixN_30, ixN_31, ixN_32, ixN_40, ixN_41, ixN_42, ixN_43, ixN_50, ixN_51, ixN_52, ixN_53, ixN_54, rNe_nn, rEq_nn, rNe_in, rEq_in, rNe_ni, rEq_ni, gSeqX, rLeS, rEq_ss, rNe_ss, rStr1, rAllX, rAnyX, rListD, iStr, rSumX, tBL, tBL0, rExtend, rPopAt, rPop, rReverse, rClear, rIsIX, tyX_n, tyX_b, tyX_i, tyX_s, tyX_r, tyO_l, tyO_t, tyO_d, V.ty.injEq, kT_Noin, kT_Nobo, kT_Nost, kT_Noli, kT_Notu, kT_Nodi, kT_boin, kT_bobo, kT_bost, kT_boli, kT_botu, kT_bodi, kT_inin, kT_inbo, kT_inst, kT_inli, kT_intu, kT_indi, kT_stin, kT_stbo, kT_stst, kT_stli, kT_sttu, kT_stdi, kT_liin, kT_libo, kT_list, kT_lili, kT_litu, kT_lidi, kT_tuin, kT_tubo, kT_tust, kT_tuli, kT_tutu, kT_tudi, kT_diin, kT_dibo, kT_dist, kT_dili, kT_ditu, kT_didi, rGet, getO_l, getO_t, getO_di, getO_ds, rLenX, lenX_r, lenX_s', lenO_l, lenO_t, lenO_d, Option.bind_some, tTruX, truX_n, truX_b, truX_i, truX_r, truO_l, truO_t, truO_d, rInX, rNotInX, inO_l', inO_t', inO_di, inO_ds, rSetX, setO_l, setO_di', setO_ds', rSlX, rListX, seqO_l, seqO_t, rTupX, gTupX, gCons, gNil, gSub, atI_0, atI_1, atI_2, atI_3, tDNewK, Nat.reduceSub, upd_same, upd_upd, Nat.reduceLT, HO.lst.injEq, HO.tup.injEq, HO.dK.injEq, HO.ins.injEq, Option.map_some, Option.isSome_some, Int.reduceEq, Int.reduceLT, Int.reduceLE, Nat.reduceAdd, List.isEmpty_nil, List.isEmpty_cons, ne_eq, not_false_eq_true, tDGs, sDPs, rIsB, rIsntB, tMeth, tMake, tDGet, sDPut, tFld, sFld, tDisp, tPairs, tNever, decide_true, decide_false, truV_bl, clsV_ty, V.ty.injEq, exists_eq', exists_eq, Bool.not_true, Bool.not_false, Bool.not_not, rLen, rListOf, rTupOf, rAny, rAll, rIsI, tTru, iRng1, iRng2, iList, tYes, cSt, List.drop_succ_cons, List.drop_zero, cxOf_K, cxC_K,  tBM, tBM0, rAppend, tSl, rSlL, tNoPart, tPart, rIxL, rIxT, rCat, List.cons.injEq, rEq_ii, rNe_ii, rEq_bb, rNe_bb, tSeq, exists_and_left, if_false, if_true, reduceIte, Bool.false_eq_true, tIfS, tAnd, tOr, tNot, tTest, tOp, tUn, tVar, tC, rI, rI0, rU, tRet, tRetN, tAsg, gName, tNext, tAndV, tOrV, tNotV, tIf, tCall, tCons, tNil, tCB, tDrop, tLst, tTup, tChain, L2.start, List.map_cons, List.map_nil, List.length_cons, List.length_nil, List.replicate, List.cons_append, List.nil_append, List.getElem?_cons_zero, List.getElem?_cons_succ, List.set_cons_zero, List.set_cons_succ, Option.some.injEq, exists_eq_left', exists_eq_left, V.int.injEq, V.bl.injEq, V.ref.injEq, V.str.injEq, exists_const, and_true, true_and, reduceCtorEq, false_and, exists_false, or_false, false_or, and_assoc, List.append_nil, ex, er, ek, T_Gate.cl, T_Gate.no "places" (by decide), T_Gate.no "row" (by decide), T_Gate.no "kept" (by decide), fs_Gate_places, fs_Gate_row, fs_Gate_kept, fn_Gate___init__, fn_Gate_put, fn_Gate_out, fn_Gate_give_one, fn_Gate_waiting, fn_Gate_waits, fl_Gate, fp_Gate_places, fp_Gate_row, fp_Gate_kept, fq_Gate_0, fq_Gate_1, fq_Gate_2, tDGX2]
    refine ⟨by decide, ?_⟩
    intro p1 n1
    generalize z1 : upd H p1 _ = H1
    obtain ⟨s1, e1⟩ := new_same z1 n1
    have ek1 := s1 _ _ ek
    simp (maxSteps := 1000000) only [tFor_eq, tComp_eq, rRngs, rListR, HO.rng.injEq, tDKeys, rSortL, rSortK, ixN_10, ixN_20, ixN_21, ixN_30, ixN_31, ixN_32, ixN_40, ixN_41, ixN_42, ixN_43, ixN_50, ixN_51, ixN_52, ixN_53, ixN_54, rNe_nn, rEq_nn, rNe_in, rEq_in, rNe_ni, rEq_ni, gSeqX, rLeS, rEq_ss, rNe_ss, rStr1, rAllX, rAnyX, rListD, iStr, rSumX, tBL, tBL0, rExtend, rPopAt, rPop, rReverse, rClear, rIsIX, tyX_n, tyX_b, tyX_i, tyX_s, tyX_r, tyO_l, tyO_t, tyO_d, V.ty.injEq, kT_Noin, kT_Nobo, kT_Nost, kT_Noli, kT_Notu, kT_Nodi, kT_boin, kT_bobo, kT_bost, kT_boli, kT_botu, kT_bodi, kT_inin, kT_inbo, kT_inst, kT_inli, kT_intu, kT_indi, kT_stin, kT_stbo, kT_stst, kT_stli, kT_sttu, kT_stdi, kT_liin, kT_libo, kT_list, kT_lili, kT_litu, kT_lidi, kT_tuin, kT_tubo, kT_tust, kT_tuli, kT_tutu, kT_tudi, kT_diin, kT_dibo, kT_dist, kT_dili, kT_ditu, kT_didi, rGet, getO_l, getO_t, getO_di, getO_ds, rLenX, lenX_r, lenX_s', lenO_l, lenO_t, lenO_d, Option.bind_some, tTruX, truX_n, truX_b, truX_i, truX_r, truO_l, truO_t, truO_d, rInX, rNotInX, inO_l', inO_t', inO_di, inO_ds, rSetX, setO_l, setO_di', setO_ds', rSlX, rListX, seqO_l, seqO_t, rTupX, gTupX, gCons, gNil, gSub, atI_0, atI_1, atI_2, atI_3, tDNewK, Nat.reduceSub, upd_same, upd_upd, Nat.reduceLT, HO.lst.injEq, HO.tup.injEq, HO.dK.injEq, HO.ins.injEq, Option.map_some, Option.isSome_some, Int.reduceEq, Int.reduceLT, Int.reduceLE, Nat.reduceAdd, List.isEmpty_nil, List.isEmpty_cons, ne_eq, not_false_eq_true, tDGs, sDPs, rIsB, rIsntB, tMeth, tMake, tDGet, sDPut, tFld, sFld, tDisp, tPairs, tNever, decide_true, decide_false, truV_bl, clsV_ty, V.ty.injEq, exists_eq', exists_eq, Bool.not_true, Bool.not_false, Bool.not_not, rLen, rListOf, rTupOf, rAny, rAll, rIsI, tTru, iRng1, iRng2, iList, tYes, cSt, List.drop_succ_cons, List.drop_zero, cxOf_K, cxC_K,  tBM, tBM0, rAppend, tSl, rSlL, tNoPart, tPart, rIxL, rIxT, rCat, List.cons.injEq, rEq_ii, rNe_ii, rEq_bb, rNe_bb, tSeq, exists_and_left, if_false, if_true, reduceIte, Bool.false_eq_true, tIfS, tAnd, tOr, tNot, tTest, tOp, tUn, tVar, tC, rI, rI0, rU, tRet, tRetN, tAsg, gName, tNext, tAndV, tOrV, tNotV, tIf, tCall, tCons, tNil, tCB, tDrop, tLst, tTup, tChain, L2.start, List.map_cons, List.map_nil, List.length_cons, List.length_nil, List.replicate, List.cons_append, List.nil_append, List.getElem?_cons_zero, List.getElem?_cons_succ, List.set_cons_zero, List.set_cons_succ, Option.some.injEq, exists_eq_left', exists_eq_left, V.int.injEq, V.bl.injEq, V.ref.injEq, V.str.injEq, exists_const, and_true, true_and, reduceCtorEq, false_and, exists_false, or_false, false_or, and_assoc, List.append_nil, ek1, keyV_i]
    have := G.lk k
    split at this
    · next h0 =>
      rw [this, Option.getD_none]
      simp (maxSteps := 1000000) only [tFor_eq, tComp_eq, rRngs, rListR, HO.rng.injEq, tDKeys, rSortL, rSortK, ixN_10, ixN_20, ixN_21, ixN_30, ixN_31, ixN_32, ixN_40, ixN_41, ixN_42, ixN_43, ixN_50, ixN_51, ixN_52, ixN_53, ixN_54, rNe_nn, rEq_nn, rNe_in, rEq_in, rNe_ni, rEq_ni, gSeqX, rLeS, rEq_ss, rNe_ss, rStr1, rAllX, rAnyX, rListD, iStr, rSumX, tBL, tBL0, rExtend, rPopAt, rPop, rReverse, rClear, rIsIX, tyX_n, tyX_b, tyX_i, tyX_s, tyX_r, tyO_l, tyO_t, tyO_d, V.ty.injEq, kT_Noin, kT_Nobo, kT_Nost, kT_Noli, kT_Notu, kT_Nodi, kT_boin, kT_bobo, kT_bost, kT_boli, kT_botu, kT_bodi, kT_inin, kT_inbo, kT_inst, kT_inli, kT_intu, kT_indi, kT_stin, kT_stbo, kT_stst, kT_stli, kT_sttu, kT_stdi, kT_liin, kT_libo, kT_list, kT_lili, kT_litu, kT_lidi, kT_tuin, kT_tubo, kT_tust, kT_tuli, kT_tutu, kT_tudi, kT_diin, kT_dibo, kT_dist, kT_dili, kT_ditu, kT_didi, rGet, getO_l, getO_t, getO_di, getO_ds, rLenX, lenX_r, lenX_s', lenO_l, lenO_t, lenO_d, Option.bind_some, tTruX, truX_n, truX_b, truX_i, truX_r, truO_l, truO_t, truO_d, rInX, rNotInX, inO_l', inO_t', inO_di, inO_ds, rSetX, setO_l, setO_di', setO_ds', rSlX, rListX, seqO_l, seqO_t, rTupX, gTupX, gCons, gNil, gSub, atI_0, atI_1, atI_2, atI_3, tDNewK, Nat.reduceSub, upd_same, upd_upd, Nat.reduceLT, HO.lst.injEq, HO.tup.injEq, HO.dK.injEq, HO.ins.injEq, Option.map_some, Option.isSome_some, Int.reduceEq, Int.reduceLT, Int.reduceLE, Nat.reduceAdd, List.isEmpty_nil, List.isEmpty_cons, ne_eq, not_false_eq_true, tDGs, sDPs, rIsB, rIsntB, tMeth, tMake, tDGet, sDPut, tFld, sFld, tDisp, tPairs, tNever, decide_true, decide_false, truV_bl, clsV_ty, V.ty.injEq, exists_eq', exists_eq, Bool.not_true, Bool.not_false, Bool.not_not, rLen, rListOf, rTupOf, rAny, rAll, rIsI, tTru, iRng1, iRng2, iList, tYes, cSt, List.drop_succ_cons, List.drop_zero, cxOf_K, cxC_K,  tBM, tBM0, rAppend, tSl, rSlL, tNoPart, tPart, rIxL, rIxT, rCat, List.cons.injEq, rEq_ii, rNe_ii, rEq_bb, rNe_bb, tSeq, exists_and_left, if_false, if_true, reduceIte, Bool.false_eq_true, tIfS, tAnd, tOr, tNot, tTest, tOp, tUn, tVar, tC, rI, rI0, rU, tRet, tRetN, tAsg, gName, tNext, tAndV, tOrV, tNotV, tIf, tCall, tCons, tNil, tCB, tDrop, tLst, tTup, tChain, L2.start, List.map_cons, List.map_nil, List.length_cons, List.length_nil, List.replicate, List.cons_append, List.nil_append, List.getElem?_cons_zero, List.getElem?_cons_succ, List.set_cons_zero, List.set_cons_succ, Option.some.injEq, exists_eq_left', exists_eq_left, V.int.injEq, V.bl.injEq, V.ref.injEq, V.str.injEq, exists_const, and_true, true_and, reduceCtorEq, false_and, exists_false, or_false, false_or, and_assoc, List.append_nil, e1]
      have := q H1 s1
      rw [h0] at this
      exact this
    · obtain ⟨p, xs, h1, h2, h3⟩ := this
      rw [h1, Option.getD_some]
      have h21 := s1 _ _ h2
      have hl := h3.len
      rw [List.length_map] at hl
      simp (maxSteps := 1000000) only [tFor_eq, tComp_eq, rRngs, rListR, HO.rng.injEq, tDKeys, rSortL, rSortK, ixN_10, ixN_20, ixN_21, ixN_30, ixN_31, ixN_32, ixN_40, ixN_41, ixN_42, ixN_43, ixN_50, ixN_51, ixN_52, ixN_53, ixN_54, rNe_nn, rEq_nn, rNe_in, rEq_in, rNe_ni, rEq_ni, gSeqX, rLeS, rEq_ss, rNe_ss, rStr1, rAllX, rAnyX, rListD, iStr, rSumX, tBL, tBL0, rExtend, rPopAt, rPop, rReverse, rClear, rIsIX, tyX_n, tyX_b, tyX_i, tyX_s, tyX_r, tyO_l, tyO_t, tyO_d, V.ty.injEq, kT_Noin, kT_Nobo, kT_Nost, kT_Noli, kT_Notu, kT_Nodi, kT_boin, kT_bobo, kT_bost, kT_boli, kT_botu, kT_bodi, kT_inin, kT_inbo, kT_inst, kT_inli, kT_intu, kT_indi, kT_stin, kT_stbo, kT_stst, kT_stli, kT_sttu, kT_stdi, kT_liin, kT_libo, kT_list, kT_lili, kT_litu, kT_lidi, kT_tuin, kT_tubo, kT_tust, kT_tuli, kT_tutu, kT_tudi, kT_diin, kT_dibo, kT_dist, kT_dili, kT_ditu, kT_didi, rGet, getO_l, getO_t, getO_di, getO_ds, rLenX, lenX_r, lenX_s', lenO_l, lenO_t, lenO_d, Option.bind_some, tTruX, truX_n, truX_b, truX_i, truX_r, truO_l, truO_t, truO_d, rInX, rNotInX, inO_l', inO_t', inO_di, inO_ds, rSetX, setO_l, setO_di', setO_ds', rSlX, rListX, seqO_l, seqO_t, rTupX, gTupX, gCons, gNil, gSub, atI_0, atI_1, atI_2, atI_3, tDNewK, Nat.reduceSub, upd_same, upd_upd, Nat.reduceLT, HO.lst.injEq, HO.tup.injEq, HO.dK.injEq, HO.ins.injEq, Option.map_some, Option.isSome_some, Int.reduceEq, Int.reduceLT, Int.reduceLE, Nat.reduceAdd, List.isEmpty_nil, List.isEmpty_cons, ne_eq, not_false_eq_true, tDGs, sDPs, rIsB, rIsntB, tMeth, tMake, tDGet, sDPut, tFld, sFld, tDisp, tPairs, tNever, decide_true, decide_false, truV_bl, clsV_ty, V.ty.injEq, exists_eq', exists_eq, Bool.not_true, Bool.not_false, Bool.not_not, rLen, rListOf, rTupOf, rAny, rAll, rIsI, tTru, iRng1, iRng2, iList, tYes, cSt, List.drop_succ_cons, List.drop_zero, cxOf_K, cxC_K,  tBM, tBM0, rAppend, tSl, rSlL, tNoPart, tPart, rIxL, rIxT, rCat, List.cons.injEq, rEq_ii, rNe_ii, rEq_bb, rNe_bb, tSeq, exists_and_left, if_false, if_true, reduceIte, Bool.false_eq_true, tIfS, tAnd, tOr, tNot, tTest, tOp, tUn, tVar, tC, rI, rI0, rU, tRet, tRetN, tAsg, gName, tNext, tAndV, tOrV, tNotV, tIf, tCall, tCons, tNil, tCB, tDrop, tLst, tTup, tChain, L2.start, List.map_cons, List.map_nil, List.length_cons, List.length_nil, List.replicate, List.cons_append, List.nil_append, List.getElem?_cons_zero, List.getElem?_cons_succ, List.set_cons_zero, List.set_cons_succ, Option.some.injEq, exists_eq_left', exists_eq_left, V.int.injEq, V.bl.injEq, V.ref.injEq, V.str.injEq, exists_const, and_true, true_and, reduceCtorEq, false_and, exists_false, or_false, false_or, and_assoc, List.append_nil, h21]
      rw [hl]
      exact q H1 s1
end
end K32
namespace K32
open PySem L2
section
variable {P : Program} {w : World} {K : PySem.W.Frag} {mg : Str → Option Value} {base : Heap} {C : Addr}
theorem valV_drop {kvs : List (Key × V)} {k j : Key} : valV (dropK kvs k) j = if j = k then none else valV kvs j := by
  induction kvs with
  | nil => rw [show dropK ([] : List (Key × V)) k = [] from rfl, valV_nil]; split <;> rfl
  | cons p r ih =>
    by_cases e : p.1 = k
    · rw [dropK_pos e, ih]
      split
      · rfl
      · next h => rw [valV_neg (fun z => h (z.symm.trans e))]
    · rw [dropK_neg e]
      by_cases f : p.1 = j
      · rw [valV_pos f, valV_pos f, if_neg (fun z => e (f.trans z))]
      · rw [valV_neg f, valV_neg f, ih]
theorem dropK_lt {kvs : List (Key × V)} {k : Key} {v : V} (h : valV kvs k = some v) : (dropK kvs k).length + 1 ≤ kvs.length := by
  induction kvs with
  | nil => rw [valV_nil] at h; cases h
  | cons p r ih =>
    by_cases e : p.1 = k
    · rw [dropK_pos e]
      have := dropK_le r k
      simp only [List.length_cons]
      omega
    · rw [dropK_neg e]
      rw [valV_neg e] at h
      have := ih h
      simp only [List.length_cons]
      omega
theorem pcl_ne {k m n : Int} (h : m ≠ n) : PyData.eqv (pcl k m) (pcl k n) = false := by
  simp [pcl, PyData.eqv, PyData.eqvAll, h]
theorem pcl_depth {k n : Int} : (pcl k n).depth ≤ 3 := by
  simp [pcl, PyData.depth, PyData.depthAll]
def Frs (kvs kvs' : List (Key × V)) (H : Hp) : Prop := ∀ j p, valV kvs' (Sum.inl j) = some (.ref p) → valV kvs (Sum.inl j) = some (.ref p) ∨ H p = none
theorem _root_.L2.Same.fr {H H' : Hp} {b : Addr} (s : Same H H') (h : H' b = none) : H b = none := by
  cases z : H b with
  | none => rfl
  | some o => rw [s _ _ z] at h; cases h
theorem frs_put {kvs : List (Key × V)} {k : Int} {p5 : Addr} {H : Hp} (h : H p5 = none) : Frs kvs (putK kvs (Sum.inl k) (.ref p5)) H := fun j p e => by
  rw [valV_put] at e
  split at e
  · cases e; exact .inr h
  · exact .inl e
theorem frs_drop {kvs : List (Key × V)} {k : Int} {H : Hp} : Frs kvs (dropK kvs (Sum.inl k)) H := fun j p e => by
  rw [valV_drop] at e
  split at e
  · cases e
  · exact .inl e
def sp_put (C : Addr) : Sp := fun vs H Q _ => ∃ (x dx pr pk : Addr) (pl k n0 : Int) (v : V) (kvs : List (Key × V)) (S : Rw) (n : Nat), vs = [.ref x, .int k, v] ∧ GateAt C H x dx pr pk pl kvs S n ∧ Im H v (pcl k n0) ∧ n0 ∉ nums S k ∧ n ≤ 1000 ∧ 0 ≤ pl ∧ pl ≤ 1000 ∧
  ∀ b kvs' S' H', GateAt C H' x dx pr pk pl kvs' S' (n + 1) → (b = false → S' = S) → (b = true → S' = putS S k n0) → Frs kvs kvs' H → Keep [pr, pk] H H' → Q (.bl b) H'
theorem noT_gate {H : Hp} {x dx pr pk : Addr} {pl : Int} {kvs : List (Key × V)} {S : Rw} {n : Nat} (G : GateAt C H x dx pr pk pl kvs S n) : ∀ b ∈ [pr, pk], NoT H b := fun b hb => by
  simp only [List.mem_cons, List.not_mem_nil, or_false] at hb
  rcases hb with rfl | rfl
  · exact .of_lst G.row
  · exact .of_dK G.kep
theorem nd_le {α : Type} [DecidableEq α] : ∀ {l1 l2 : List α}, l1.Nodup → (∀ x ∈ l1, x ∈ l2) → l1.length ≤ l2.length
  | [], _, _, _ => Nat.zero_le _
  | a :: r, l2, hn, h => by
    rw [List.nodup_cons] at hn
    have ha := h a (.head _)
    have := nd_le (l2 := l2.erase a) hn.2 fun x hx => (List.mem_erase_of_ne (fun e => by subst e; exact hn.1 hx)).mpr (h x (.tail _ hx))
    rw [List.length_erase_of_mem ha] at this
    have : 0 < l2.length := List.length_pos_of_mem ha
    simp only [List.length_cons]
    omega
theorem valV_mem {kvs : List (Key × V)} {k : Key} {v : V} (h : valV kvs k = some v) : k ∈ kvs.map (·.1) := by
  rw [valV, Option.map_eq_some_iff] at h
  obtain ⟨q, hq, _⟩ := h
  have h2 := List.find?_some hq
  exact List.mem_map.mpr ⟨q, List.mem_of_find?_eq_some hq, of_decide_eq_true h2⟩
theorem inl_nd : ∀ {L : List Int}, L.Nodup → (L.map (Sum.inl : Int → Key)).Nodup
  | [], _ => List.nodup_nil
  | a :: r, h => by
    rw [List.nodup_cons] at h
    rw [List.map_cons, List.nodup_cons]
    refine ⟨fun hm => ?_, inl_nd h.2⟩
    obtain ⟨b, hb, e⟩ := List.mem_map.mp hm
    cases e
    exact h.1 hb
theorem GateAt.slen {H : Hp} {x dx pr pk : Addr} {pl : Int} {kvs : List (Key × V)} {S : Rw} {n : Nat} (G : GateAt C H x dx pr pk pl kvs S n) : S.length ≤ n := by
  have := nd_le (l2 := kvs.map (·.1)) (inl_nd G.ok.nd) fun k hk => by
    obtain ⟨j, hj, rfl⟩ := List.mem_map.mp hk
    obtain ⟨q, hq, rfl⟩ := List.mem_map.mp hj
    have l := G.lk q.1
    rw [nums_of G.ok.nd hq, if_neg (G.ok.ne q hq)] at l
    obtain ⟨p, xs, h1, _⟩ := l
    exact valV_mem h1
  rw [List.length_map, List.length_map, List.length_map] at this
  have := G.len
  omega
theorem put_fin {H1 H2 H5 : Hp} {x dx pr pk pp p5 : Addr} {pl k n0 : Int} {kvs : List (Key × V)} {S : Rw} {n : Nat} {xs : List V} {v3 : V} (G : GateAt C H1 x dx pr pk pl kvs S n) (kA : Keep [pr] H1 H2) (eA : H2 pr = some (.lst ((putS S k n0).map fun q => V.int q.1))) (s25 : Same H2 H5) (h3 : Im H5 v3 (pcl k n0))
    (hxs : Ims H1 xs ((nums S k).map (pcl k))) (epp : H1 pp = some (.lst xs)) (nppr : pp ≠ pr) (few' : (nums S k).length + 1 ≤ pl.toNat) (e5 : H5 p5 = some (.lst (xs ++ [v3]))) (n5 : pr ≠ p5) :
    GateAt C (upd H5 pk (.dK (putK kvs (Sum.inl k) (.ref p5)))) x dx pr pk pl (putK kvs (Sum.inl k) (.ref p5)) (putS S k n0) (n + 1) ∧ Keep [pr, pk] H1 (upd H5 pk (.dK (putK kvs (Sum.inl k) (.ref p5)))) := by
  have hpk : pk ≠ pr := ne_of G.kep G.row (by intro z; cases z)
  have hxr : x ≠ pr := ne_of G.ins G.row (by intro z; cases z)
  have hxk : x ≠ pk := ne_of G.ins G.kep (by intro z; cases z)
  have ek5 := s25 _ _ (kA _ _ G.kep (by simp; exact hpk))
  have hnT : ∀ b ∈ [pr], NoT H1 b := noT1 (.of_lst G.row)
  have k15 : Keep [pr] H1 H5 := fun b o e hn => s25 _ _ (kA _ _ e hn)
  have kF : Keep [pk] H5 (upd H5 pk (.dK (putK kvs (Sum.inl k) (.ref p5)))) := Keep.refl.upd (.inl (.head _))
  have hnT5 : ∀ b ∈ [pk], NoT H5 b := noT1 (.of_dK ek5)
  have k16 : Keep [pr, pk] H1 (upd H5 pk (.dK (putK kvs (Sum.inl k) (.ref p5)))) := fun b o e hn => by
    simp only [List.mem_cons, List.not_mem_nil, or_false, not_or] at hn
    rw [upd_ne hn.2]
    exact k15 _ _ e (by simp; exact hn.1)
  refine ⟨⟨k16 _ _ G.ins (by simp; exact ⟨hxr, hxk⟩), by rw [upd_ne (Ne.symm hpk)]; exact s25 _ _ eA, upd_same, fun j => ?_, putS_ok G.ok, by have := length_putK kvs (Sum.inl k) (.ref p5); have := G.len; omega, fun j p h => ?_, fun j => ?_⟩, k16⟩
  · rw [putS_nums]
    by_cases hj : j = k
    · subst hj
      simp only [if_true]
      rw [if_neg (by simp)]
      refine ⟨p5, xs ++ [v3], by rw [valV_put, if_pos rfl], by rw [upd_ne (ne_of e5 ek5 (by intro z; cases z))]; exact e5, ?_⟩
      rw [List.map_append]
      exact (((hxs.keep k15 hnT).app (.one h3))).keep kF hnT5
    · simp only [hj, if_false]
      have l := G.lk j
      have e0 : valV (putK kvs (Sum.inl k) (.ref p5)) (Sum.inl j) = valV kvs (Sum.inl j) := by rw [valV_put, if_neg (by intro z; cases z; exact hj rfl)]
      split
      · next h0 => rw [if_pos h0] at l; rw [e0]; exact l
      · next h0 =>
        rw [if_neg h0] at l
        obtain ⟨p, ys, h1, h2, h4⟩ := l
        have hp5 := k15 _ _ h2 (by simp; exact G.vl j p h1)
        exact ⟨p, ys, by rw [e0]; exact h1, by rw [upd_ne (ne_of hp5 ek5 (by intro z; cases z))]; exact hp5, (h4.keep k15 hnT).keep kF hnT5⟩
  · rw [valV_put] at h
    split at h
    · cases h; exact Ne.symm n5
    · exact G.vl j p h
  · rw [putS_nums]
    split
    · rw [List.length_append, List.length_singleton]; exact few'
    · exact G.few j
set_option maxHeartbeats 4000000 in
theorem own_put (D : DefM K C "put" "Gate.put" s_Gate_put) (hb : Blt mg) (T_Gate : ClsD K mg "Gate" C at_Gate) (F_own_copy : Own P w K mg base 5 "own_copy" ["thing"] (sp_cpy 4)) : OwnM P w K mg base 6 C "put" ["self", "key", "parcel"] (sp_put C) := by
  refine D.own sc_Gate_put (fun _ _ _ _ _ _ us hl => match us, hl with | [_, _, _], _ => rfl) (fun vs H Q E h => ?_) (fun f cdv A outer s H vs Q E hr h => ?_)
  · obtain ⟨x, dx, pr, pk, pl, k, n0, v, kvs, S, n, rfl, _⟩ := h
    rfl
  · obtain ⟨x, dx, pr, pk, pl, k, n0, v, kvs, S, n, rfl, G, hv, hn, hn1, hpl, hpl2, q⟩ := h
    have hu := hr.units
    have hu1 : (A.deeper (PyProof.Rows.envOfC "Gate.put" (defScope s_Gate_put) s.heap.objs.size f cdv)).units + 1 < cLine := by omega
    have ex := G.ins
    have ek := G.kep
    refine ⟨_, (@pss_cons _ _ _ _ _ (@ps_set _ _ 3 _ _ _ _ sc_Gate_put.nd rfl (by first | exact Or.inl rfl | exact Or.inr rfl) (pe_dgX2 hu1 (@pe_fldK _ K _ _ _ _ (@pv _ 0 _ _ (by rfl) (by first | exact Or.inl rfl | exact Or.inr (Or.inl rfl) | exact Or.inr (Or.inr rfl)) (by decide) (by decide)) (by rfl) (by rfl)) (@pv _ 1 _ _ (by rfl) (by first | exact Or.inl rfl | exact Or.inr (Or.inl rfl) | exact Or.inr (Or.inr rfl)) (by decide) (by decide)) (@pe_lst _ _ _ _ (@pa_nil _)) (by constructor <;> rfl)) (by rfl) (by first | exact .inl rfl | exact .inr rfl | assumption)) (@pss_cons _ _ _ _ _ (@ps_if _ _ _ _ _ _ _ _ (@pt_cmpR _ _ _ _ _ _ _ _ (op_inD hu) (@pv _ 2 _ _ (by rfl) (by first | exact Or.inl rfl | exact Or.inr (Or.inl rfl) | exact Or.inr (Or.inr rfl)) (by decide) (by decide)) (@pv _ 3 _ _ (by rfl) (by first | exact Or.inl rfl | exact Or.inr (Or.inl rfl) | exact Or.inr (Or.inr rfl)) (by decide) (by decide)) rfl) (@pss_one _ _ _ (@ps_ret _ _ _ _ (@pe_bl _ _ _ _))) (@pss_nil _)) (@pss_cons _ _ _ _ _ (@ps_if _ _ _ _ _ _ _ _ (@pt_cmpR _ _ _ _ _ _ _ _ op_ge (@pe_callB _ _ _ _ _ _ _ _ _ call_lenX rfl (hb _ (by decide)) bt_len (@pa_cX _ _ _ _ _ (@pv _ 3 _ _ (by rfl) (by first | exact Or.inl rfl | exact Or.inr (Or.inl rfl) | exact Or.inr (Or.inr rfl)) (by decide) (by decide)) (@pa_nil _) (by rfl)) (by decide) (by decide) (by rfl) (by rfl)) (@pe_fldK _ K _ _ _ _ (@pv _ 0 _ _ (by rfl) (by first | exact Or.inl rfl | exact Or.inr (Or.inl rfl) | exact Or.inr (Or.inr rfl)) (by decide) (by decide)) (by rfl) (by rfl)) (nomark _)) (@pss_one _ _ _ (@ps_ret _ _ _ _ (@pe_bl _ _ _ _))) (@pss_nil _)) (@pss_cons _ _ _ _ _ (@ps_if _ _ _ _ _ _ _ _ (@pt_not _ _ _ _ (@pt_truX _ _ _ (@pv _ 3 _ _ (by rfl) (by first | exact Or.inl rfl | exact Or.inr (Or.inl rfl) | exact Or.inr (Or.inr rfl)) (by decide) (by decide)) (by intro _; rfl))) (@pss_one _ _ _ (@ps_expr _ _ _ _ (@pe_lm _ _ _ _ _ _ _ _ _ _ _ PySem.F.slot_list_append PySem.F.type_list_append mt_append (@pe_fldK _ K _ _ _ _ (@pv _ 0 _ _ (by rfl) (by first | exact Or.inl rfl | exact Or.inr (Or.inl rfl) | exact Or.inr (Or.inr rfl)) (by decide) (by decide)) (by rfl) (by rfl)) (@pa_cX _ _ _ _ _ (@pv _ 1 _ _ (by rfl) (by first | exact Or.inl rfl | exact Or.inr (Or.inl rfl) | exact Or.inr (Or.inr rfl)) (by decide) (by decide)) (@pa_nil _) (by rfl)) (by rfl) (by rfl) (by rfl) (by rfl) (by rfl)) (by rfl))) (@pss_nil _)) (@pss_cons _ _ _ _ _ (@ps_asg _ _ _ _ _ _ (@pe_op _ _ _ _ _ _ _ _ op_cat (@pv _ 3 _ _ (by rfl) (by first | exact Or.inl rfl | exact Or.inr (Or.inl rfl) | exact Or.inr (Or.inr rfl)) (by decide) (by decide)) (@pe_lst _ _ _ _ (@pa_cX _ _ _ _ _ (@pe_fn _ _ _ _ _ _ _ _ _ _ _ F_own_copy hr (@pa_cX _ _ _ _ _ (@pv _ 2 _ _ (by rfl) (by first | exact Or.inl rfl | exact Or.inr (Or.inl rfl) | exact Or.inr (Or.inr rfl)) (by decide) (by decide)) (@pa_nil _) (by rfl)) (by decide) (by rfl) (by decide) (by rfl) (by rfl)) (@pa_nil _) (by rfl)))) (@pg_sub _ _ _ _ _ _ _ (@pe_fldK _ K _ _ _ _ (@pv _ 0 _ _ (by rfl) (by first | exact Or.inl rfl | exact Or.inr (Or.inl rfl) | exact Or.inr (Or.inr rfl)) (by decide) (by decide)) (by rfl) (by rfl)) (@pv _ 1 _ _ (by rfl) (by first | exact Or.inl rfl | exact Or.inr (Or.inl rfl) | exact Or.inr (Or.inr rfl)) (by decide) (by decide)) (@set_x _ hu1) (by intro _; rfl)) (by rfl) (by rfl) (by rfl)) (@pss_one _ _ _ (@ps_ret _ _ _ _ (@pe_bl _ _ _ _)))))))), ?_⟩
    simp (maxSteps := 1000000) only [tFor_eq, tComp_eq, rRngs, rListR, HO.rng.injEq, tDKeys, rSortL, rSortK, ixN_10, ixN_20, ixN_21, ixN_30, ixN_31, ixN_32, ixN_40, ixN_41, ixN_42, ixN_43, ixN_50, ixN_51, ixN_52, ixN_53, ixN_54, rNe_nn, rEq_nn, rNe_in, rEq_in, rNe_ni, rEq_ni, gSeqX, rLeS, rEq_ss, rNe_ss, rStr1, rAllX, rAnyX, rListD, iStr, rSumX, tBL, tBL0, rExtend, rPopAt, rPop, rReverse, rClear, rIsIX, tyX_n, tyX_b, tyX_i, tyX_s, tyX_r, tyO_l, tyO_t, tyO_d, V.ty.injEq, kT_Noin, kT_Nobo, kT_Nost, kT_Noli, kT_Notu, kT_Nodi, kT_boin, kT_bobo, kT_bost, kT_boli, kT_botu, kT_bodi, kT_inin, kT_inbo, kT_inst, kT_inli, kT_intu, kT_indi, kT_stin, kT_stbo, kT_stst, kT_stli, kT_sttu, kT_stdi, kT_liin, kT_libo, kT_list, kT_lili, kT_litu, kT_lidi, kT_tuin, kT_tubo, kT_tust, kT_tuli, kT_tutu, kT_tudi, kT_diin, kT_dibo, kT_dist, kT_dili, kT_ditu, kT_didi, rGet, getO_l, getO_t, getO_di, getO_ds, rLenX, lenX_r, lenX_s', lenO_l, lenO_t, lenO_d, Option.bind_some, tTruX, truX_n, truX_b, truX_i, truX_r, truO_l, truO_t, truO_d, rInX, rNotInX, inO_l', inO_t', inO_di, inO_ds, rSetX, setO_l, setO_di', setO_ds', rSlX, rListX, seqO_l, seqO_t, rTupX, gTupX, gCons, gNil, gSub, atI_0, atI_1, atI_2, atI_3, tDNewK, Nat.reduceSub, upd_same, upd_upd, Nat.reduceLT, HO.lst.injEq, HO.tup.injEq, HO.dK.injEq, HO.ins.injEq, Option.map_some, Option.isSome_some, Int.reduceEq, Int.reduceLT, Int.reduceLE, Nat.reduceAdd, List.isEmpty_nil, List.isEmpty_cons, ne_eq, not_false_eq_true, tDGs, sDPs, rIsB, rIsntB, tMeth, tMake, tDGet, sDPut, tFld, sFld, tDisp, tPairs, tNever, decide_true, decide_false, truV_bl, clsV_ty, V.ty.injEq, exists_eq', exists_eq, Bool.not_true, Bool.not_false, Bool.not_not, rLen, rListOf, rTupOf, rAny, rAll, rIsI, tTru, iRng1, iRng2, iList, tYes, cSt, List.drop_succ_cons, List.drop_zero, cxOf_K, cxC_K,  tBM, tBM0, rAppend, tSl, rSlL, tNoPart, tPart, rIxL, rIxT, rCat, List.cons.injEq, rEq_ii, rNe_ii, rEq_bb, rNe_bb, tSeq, exists_and_left, if_false, if_true, reduceIte, Bool.false_eq_true, tIfS, tAnd, tOr, tNot, tTest, tOp, tUn, tVar, tC, rI, rI0, rU, tRet, tRetN, tAsg, gName, tNext, tAndV, tOrV, tNotV, tIf, tCall, tCons, tNil, tCB, tDrop, tLst, tTup, tChain, L2.start, List.map_cons, List.map_nil, List.length_cons, List.length_nil, List.replicate, List.cons_append, List.nil_append, List.getElem?_cons_zero, List.getElem?_cons_succ, List.set_cons_zero, List.set_cons_succ, Option.some.injEq, exists_eq_left', exists_eq_left, V.int.injEq, V.bl.injEq, V.ref.injEq, V.str.injEq, exists_const, and_true, true_and, reduceCtorEq, false_and, exists_false, or_false, false_or, and_assoc, List.append_nil, ex, ek, T_Gate.cl, T_Gate.no "places" (by decide), T_Gate.no "row" (by decide), T_Gate.no "kept" (by decide), fs_Gate_places, fs_Gate_row, fs_Gate_kept, fn_Gate___init__, fn_Gate_put, fn_Gate_out, fn_Gate_give_one, fn_Gate_waiting, fn_Gate_waits, fl_Gate, fp_Gate_places, fp_Gate_row, fp_Gate_kept, fq_Gate_0, fq_Gate_1, fq_Gate_2, tDGX2]
    refine ⟨by decide, ?_⟩
    intro p1 n1
    generalize z1 : upd H p1 _ = H1
    obtain ⟨s1, e1⟩ := new_same z1 n1
    have ek1 := s1 _ _ ek
    have G1 := G.same s1
    have ex1 := G1.ins
    obtain ⟨pp, xs, hpp, epp, hxs⟩ : ∃ pp xs, (valV kvs (Sum.inl k)).getD (.ref p1) = .ref pp ∧ H1 pp = some (.lst xs) ∧ Ims H1 xs ((nums S k).map (pcl k)) := by
      have := G1.lk k
      split at this
      · next h0 => exact ⟨p1, [], by rw [this]; rfl, e1, by rw [h0]; exact .nil⟩
      · obtain ⟨p, xs, h1, h2, h3⟩ := this
        exact ⟨p, xs, by rw [h1]; rfl, h2, h3⟩
    have hxl : xs.length = (nums S k).length := by have := hxs.len; rw [List.length_map] at this; exact this
    simp (maxSteps := 1000000) only [tFor_eq, tComp_eq, rRngs, rListR, HO.rng.injEq, tDKeys, rSortL, rSortK, ixN_10, ixN_20, ixN_21, ixN_30, ixN_31, ixN_32, ixN_40, ixN_41, ixN_42, ixN_43, ixN_50, ixN_51, ixN_52, ixN_53, ixN_54, rNe_nn, rEq_nn, rNe_in, rEq_in, rNe_ni, rEq_ni, gSeqX, rLeS, rEq_ss, rNe_ss, rStr1, rAllX, rAnyX, rListD, iStr, rSumX, tBL, tBL0, rExtend, rPopAt, rPop, rReverse, rClear, rIsIX, tyX_n, tyX_b, tyX_i, tyX_s, tyX_r, tyO_l, tyO_t, tyO_d, V.ty.injEq, kT_Noin, kT_Nobo, kT_Nost, kT_Noli, kT_Notu, kT_Nodi, kT_boin, kT_bobo, kT_bost, kT_boli, kT_botu, kT_bodi, kT_inin, kT_inbo, kT_inst, kT_inli, kT_intu, kT_indi, kT_stin, kT_stbo, kT_stst, kT_stli, kT_sttu, kT_stdi, kT_liin, kT_libo, kT_list, kT_lili, kT_litu, kT_lidi, kT_tuin, kT_tubo, kT_tust, kT_tuli, kT_tutu, kT_tudi, kT_diin, kT_dibo, kT_dist, kT_dili, kT_ditu, kT_didi, rGet, getO_l, getO_t, getO_di, getO_ds, rLenX, lenX_r, lenX_s', lenO_l, lenO_t, lenO_d, Option.bind_some, tTruX, truX_n, truX_b, truX_i, truX_r, truO_l, truO_t, truO_d, rInX, rNotInX, inO_l', inO_t', inO_di, inO_ds, rSetX, setO_l, setO_di', setO_ds', rSlX, rListX, seqO_l, seqO_t, rTupX, gTupX, gCons, gNil, gSub, atI_0, atI_1, atI_2, atI_3, tDNewK, Nat.reduceSub, upd_same, upd_upd, Nat.reduceLT, HO.lst.injEq, HO.tup.injEq, HO.dK.injEq, HO.ins.injEq, Option.map_some, Option.isSome_some, Int.reduceEq, Int.reduceLT, Int.reduceLE, Nat.reduceAdd, List.isEmpty_nil, List.isEmpty_cons, ne_eq, not_false_eq_true, tDGs, sDPs, rIsB, rIsntB, tMeth, tMake, tDGet, sDPut, tFld, sFld, tDisp, tPairs, tNever, decide_true, decide_false, truV_bl, clsV_ty, V.ty.injEq, exists_eq', exists_eq, Bool.not_true, Bool.not_false, Bool.not_not, rLen, rListOf, rTupOf, rAny, rAll, rIsI, tTru, iRng1, iRng2, iList, tYes, cSt, List.drop_succ_cons, List.drop_zero, cxOf_K, cxC_K,  tBM, tBM0, rAppend, tSl, rSlL, tNoPart, tPart, rIxL, rIxT, rCat, List.cons.injEq, rEq_ii, rNe_ii, rEq_bb, rNe_bb, tSeq, exists_and_left, if_false, if_true, reduceIte, Bool.false_eq_true, tIfS, tAnd, tOr, tNot, tTest, tOp, tUn, tVar, tC, rI, rI0, rU, tRet, tRetN, tAsg, gName, tNext, tAndV, tOrV, tNotV, tIf, tCall, tCons, tNil, tCB, tDrop, tLst, tTup, tChain, L2.start, List.map_cons, List.map_nil, List.length_cons, List.length_nil, List.replicate, List.cons_append, List.nil_append, List.getElem?_cons_zero, List.getElem?_cons_succ, List.set_cons_zero, List.set_cons_succ, Option.some.injEq, exists_eq_left', exists_eq_left, V.int.injEq, V.bl.injEq, V.ref.injEq, V.str.injEq, exists_const, and_true, true_and, reduceCtorEq, false_and, exists_false, or_false, false_or, and_assoc, List.append_nil, ek1, keyV_i, hpp]
    refine ⟨pp, xs, _, _, rfl, epp, hxs.dts, (hv.same s1).dt, Nat.le_trans pcl_depth (by decide), fun e he => ?_, ?_⟩
    · obtain ⟨m, _, rfl⟩ := List.mem_map.mp he
      exact Nat.le_trans pcl_depth (by decide)
    have hany : (((nums S k).map (pcl k)).any fun e => PyData.eqv e (pcl k n0)) = false := by
      rw [List.any_eq_false]
      intro e he
      obtain ⟨m, hm, rfl⟩ := List.mem_map.mp he
      rw [pcl_ne (fun z : m = n0 => hn (z ▸ hm))]
      simp
    rw [hany]
    simp (maxSteps := 1000000) only [tFor_eq, tComp_eq, rRngs, rListR, HO.rng.injEq, tDKeys, rSortL, rSortK, ixN_10, ixN_20, ixN_21, ixN_30, ixN_31, ixN_32, ixN_40, ixN_41, ixN_42, ixN_43, ixN_50, ixN_51, ixN_52, ixN_53, ixN_54, rNe_nn, rEq_nn, rNe_in, rEq_in, rNe_ni, rEq_ni, gSeqX, rLeS, rEq_ss, rNe_ss, rStr1, rAllX, rAnyX, rListD, iStr, rSumX, tBL, tBL0, rExtend, rPopAt, rPop, rReverse, rClear, rIsIX, tyX_n, tyX_b, tyX_i, tyX_s, tyX_r, tyO_l, tyO_t, tyO_d, V.ty.injEq, kT_Noin, kT_Nobo, kT_Nost, kT_Noli, kT_Notu, kT_Nodi, kT_boin, kT_bobo, kT_bost, kT_boli, kT_botu, kT_bodi, kT_inin, kT_inbo, kT_inst, kT_inli, kT_intu, kT_indi, kT_stin, kT_stbo, kT_stst, kT_stli, kT_sttu, kT_stdi, kT_liin, kT_libo, kT_list, kT_lili, kT_litu, kT_lidi, kT_tuin, kT_tubo, kT_tust, kT_tuli, kT_tutu, kT_tudi, kT_diin, kT_dibo, kT_dist, kT_dili, kT_ditu, kT_didi, rGet, getO_l, getO_t, getO_di, getO_ds, rLenX, lenX_r, lenX_s', lenO_l, lenO_t, lenO_d, Option.bind_some, tTruX, truX_n, truX_b, truX_i, truX_r, truO_l, truO_t, truO_d, rInX, rNotInX, inO_l', inO_t', inO_di, inO_ds, rSetX, setO_l, setO_di', setO_ds', rSlX, rListX, seqO_l, seqO_t, rTupX, gTupX, gCons, gNil, gSub, atI_0, atI_1, atI_2, atI_3, tDNewK, Nat.reduceSub, upd_same, upd_upd, Nat.reduceLT, HO.lst.injEq, HO.tup.injEq, HO.dK.injEq, HO.ins.injEq, Option.map_some, Option.isSome_some, Int.reduceEq, Int.reduceLT, Int.reduceLE, Nat.reduceAdd, List.isEmpty_nil, List.isEmpty_cons, ne_eq, not_false_eq_true, tDGs, sDPs, rIsB, rIsntB, tMeth, tMake, tDGet, sDPut, tFld, sFld, tDisp, tPairs, tNever, decide_true, decide_false, truV_bl, clsV_ty, V.ty.injEq, exists_eq', exists_eq, Bool.not_true, Bool.not_false, Bool.not_not, rLen, rListOf, rTupOf, rAny, rAll, rIsI, tTru, iRng1, iRng2, iList, tYes, cSt, List.drop_succ_cons, List.drop_zero, cxOf_K, cxC_K,  tBM, tBM0, rAppend, tSl, rSlL, tNoPart, tPart, rIxL, rIxT, rCat, List.cons.injEq, rEq_ii, rNe_ii, rEq_bb, rNe_bb, tSeq, exists_and_left, if_false, if_true, reduceIte, Bool.false_eq_true, tIfS, tAnd, tOr, tNot, tTest, tOp, tUn, tVar, tC, rI, rI0, rU, tRet, tRetN, tAsg, gName, tNext, tAndV, tOrV, tNotV, tIf, tCall, tCons, tNil, tCB, tDrop, tLst, tTup, tChain, L2.start, List.map_cons, List.map_nil, List.length_cons, List.length_nil, List.replicate, List.cons_append, List.nil_append, List.getElem?_cons_zero, List.getElem?_cons_succ, List.set_cons_zero, List.set_cons_succ, Option.some.injEq, exists_eq_left', exists_eq_left, V.int.injEq, V.bl.injEq, V.ref.injEq, V.str.injEq, exists_const, and_true, true_and, reduceCtorEq, false_and, exists_false, or_false, false_or, and_assoc, List.append_nil, epp, ex1, T_Gate.cl, T_Gate.no "places" (by decide), T_Gate.no "row" (by decide), T_Gate.no "kept" (by decide), fs_Gate_places, fs_Gate_row, fs_Gate_kept, fn_Gate___init__, fn_Gate_put, fn_Gate_out, fn_Gate_give_one, fn_Gate_waiting, fn_Gate_waits, fl_Gate, fp_Gate_places, fp_Gate_row, fp_Gate_kept, fq_Gate_0, fq_Gate_1, fq_Gate_2]
    refine ite2 (fun hge => ?_) (fun hge => ?_)
    · exact q false kvs S H1 ⟨G1.ins, G1.row, G1.kep, G1.lk, G1.ok, by have := G1.len; omega, G1.vl, G1.few⟩ (fun _ => rfl) (fun z => nomatch z) (fun j p h => .inl h) s1.keep
    · have hlt : (xs.length : Int) < pl := by
        have : ¬ (pl ≤ (xs.length : Int)) := fun z => hge (decide_eq_true z)
        omega
      have erow := G1.row
      have hpk : pk ≠ pr := ne_of G1.kep erow (by intro z; cases z)
      have hxr : x ≠ pr := ne_of ex1 erow (by intro z; cases z)
      have hxk : x ≠ pk := ne_of ex1 ek1 (by intro z; cases z)
      have nppk : pp ≠ pk := ne_of epp ek1 (by intro z; cases z)
      have nppr : pp ≠ pr := by
        have := G1.lk k
        split at this
        · rw [this] at hpp
          cases hpp
          exact Ne.symm (ne_of_none G.row n1)
        · obtain ⟨p, _, h1, _⟩ := this
          rw [h1] at hpp
          cases hpp
          exact G1.vl k _ h1
      have hSl := G.slen
      have hxs0 : xs.isEmpty = true ↔ nums S k = [] := by
        rw [List.isEmpty_iff]
        constructor
        · intro z; rw [z] at hxl; exact List.length_eq_zero_iff.mp hxl.symm
        · intro z; rw [z] at hxl; exact List.length_eq_zero_iff.mp hxl
      have few' : (nums S k).length + 1 ≤ pl.toNat := by omega
      refine ite2 (fun he => ?_) (fun he => ?_)
      · have h0 := hxs0.mp he
        have hk0 : k ∉ S.map (·.1) := fun z => by
          obtain ⟨q, hq, e⟩ := List.mem_map.mp z
          have := nums_of G.ok.nd hq
          rw [e, h0] at this
          exact G.ok.ne q hq this.symm
        refine ⟨_, erow, _, erow, by rw [sizeLine_eq, List.length_map]; omega, ?_⟩
        generalize zA : upd H1 pr _ = H2
        have kA : Keep [pr] H1 H2 := by rw [← zA]; exact Keep.refl.upd (.inl (.head _))
        have eA : H2 pr = some (.lst ((putS S k n0).map fun q => V.int q.1)) := by
          have e1 : (putS S k n0).map (fun q => V.int q.1) = ((putS S k n0).map (·.1)).map V.int := by rw [List.map_map]; rfl
          rw [← zA, upd_same, e1, putS_keys, if_neg hk0, List.map_append, List.map_map]
          rfl
        have hnT : ∀ b ∈ [pr], NoT H1 b := noT1 (.of_lst erow)
        refine ⟨v, _, rfl, (hv.same s1).keep kA hnT, Nat.le_trans pcl_depth (by decide), fun v3 H3 s3 h3 => ⟨by decide, ?_⟩⟩
        intro p4 n4
        generalize z4 : upd H3 p4 _ = H4
        obtain ⟨s4, e4⟩ := new_same z4 n4
        have epp4 := s4 _ _ (s3 _ _ (kA _ _ epp (by simp; exact nppr)))
        refine ⟨_, epp4, by rw [sizeLine_eq]; omega, ?_⟩
        intro p5 n5
        generalize z5 : upd H4 p5 _ = H5
        obtain ⟨s5, e5⟩ := new_same z5 n5
        have ex5 := s5 _ _ (s4 _ _ (s3 _ _ (kA _ _ ex1 (by simp; exact hxr))))
        have ek5 := s5 _ _ (s4 _ _ (s3 _ _ (kA _ _ ek1 (by simp; exact hpk))))
        have hln : kvs.length < sizeLine := by have := G.len; rw [sizeLine_eq]; omega
        simp (maxSteps := 1000000) only [tFor_eq, tComp_eq, rRngs, rListR, HO.rng.injEq, tDKeys, rSortL, rSortK, ixN_10, ixN_20, ixN_21, ixN_30, ixN_31, ixN_32, ixN_40, ixN_41, ixN_42, ixN_43, ixN_50, ixN_51, ixN_52, ixN_53, ixN_54, rNe_nn, rEq_nn, rNe_in, rEq_in, rNe_ni, rEq_ni, gSeqX, rLeS, rEq_ss, rNe_ss, rStr1, rAllX, rAnyX, rListD, iStr, rSumX, tBL, tBL0, rExtend, rPopAt, rPop, rReverse, rClear, rIsIX, tyX_n, tyX_b, tyX_i, tyX_s, tyX_r, tyO_l, tyO_t, tyO_d, V.ty.injEq, kT_Noin, kT_Nobo, kT_Nost, kT_Noli, kT_Notu, kT_Nodi, kT_boin, kT_bobo, kT_bost, kT_boli, kT_botu, kT_bodi, kT_inin, kT_inbo, kT_inst, kT_inli, kT_intu, kT_indi, kT_stin, kT_stbo, kT_stst, kT_stli, kT_sttu, kT_stdi, kT_liin, kT_libo, kT_list, kT_lili, kT_litu, kT_lidi, kT_tuin, kT_tubo, kT_tust, kT_tuli, kT_tutu, kT_tudi, kT_diin, kT_dibo, kT_dist, kT_dili, kT_ditu, kT_didi, rGet, getO_l, getO_t, getO_di, getO_ds, rLenX, lenX_r, lenX_s', lenO_l, lenO_t, lenO_d, Option.bind_some, tTruX, truX_n, truX_b, truX_i, truX_r, truO_l, truO_t, truO_d, rInX, rNotInX, inO_l', inO_t', inO_di, inO_ds, rSetX, setO_l, setO_di', setO_ds', rSlX, rListX, seqO_l, seqO_t, rTupX, gTupX, gCons, gNil, gSub, atI_0, atI_1, atI_2, atI_3, tDNewK, Nat.reduceSub, upd_same, upd_upd, Nat.reduceLT, HO.lst.injEq, HO.tup.injEq, HO.dK.injEq, HO.ins.injEq, Option.map_some, Option.isSome_some, Int.reduceEq, Int.reduceLT, Int.reduceLE, Nat.reduceAdd, List.isEmpty_nil, List.isEmpty_cons, ne_eq, not_false_eq_true, tDGs, sDPs, rIsB, rIsntB, tMeth, tMake, tDGet, sDPut, tFld, sFld, tDisp, tPairs, tNever, decide_true, decide_false, truV_bl, clsV_ty, V.ty.injEq, exists_eq', exists_eq, Bool.not_true, Bool.not_false, Bool.not_not, rLen, rListOf, rTupOf, rAny, rAll, rIsI, tTru, iRng1, iRng2, iList, tYes, cSt, List.drop_succ_cons, List.drop_zero, cxOf_K, cxC_K,  tBM, tBM0, rAppend, tSl, rSlL, tNoPart, tPart, rIxL, rIxT, rCat, List.cons.injEq, rEq_ii, rNe_ii, rEq_bb, rNe_bb, tSeq, exists_and_left, if_false, if_true, reduceIte, Bool.false_eq_true, tIfS, tAnd, tOr, tNot, tTest, tOp, tUn, tVar, tC, rI, rI0, rU, tRet, tRetN, tAsg, gName, tNext, tAndV, tOrV, tNotV, tIf, tCall, tCons, tNil, tCB, tDrop, tLst, tTup, tChain, L2.start, List.map_cons, List.map_nil, List.length_cons, List.length_nil, List.replicate, List.cons_append, List.nil_append, List.getElem?_cons_zero, List.getElem?_cons_succ, List.set_cons_zero, List.set_cons_succ, Option.some.injEq, exists_eq_left', exists_eq_left, V.int.injEq, V.bl.injEq, V.ref.injEq, V.str.injEq, exists_const, and_true, true_and, reduceCtorEq, false_and, exists_false, or_false, false_or, and_assoc, List.append_nil, ex5, ek5, hln, T_Gate.cl, T_Gate.no "places" (by decide), T_Gate.no "row" (by decide), T_Gate.no "kept" (by decide), fs_Gate_places, fs_Gate_row, fs_Gate_kept, fn_Gate___init__, fn_Gate_put, fn_Gate_out, fn_Gate_give_one, fn_Gate_waiting, fn_Gate_waits, fl_Gate, fp_Gate_places, fp_Gate_row, fp_Gate_kept, fq_Gate_0, fq_Gate_1, fq_Gate_2]
        have s25 := (s3.trans s4).trans s5
        obtain ⟨g1, g2⟩ := put_fin G1 kA eA s25 ((h3.same s4).same s5) hxs epp nppr few' e5 (ne_of_none (s4 _ _ (s3 _ _ eA)) n5)
        exact q true _ _ _ g1 (fun z => nomatch z) (fun _ => rfl) (frs_put (s1.fr (kA.free (s3.fr (s4.fr n5)) (by simp; exact Ne.symm (ne_of_none (s4 _ _ (s3 _ _ eA)) n5))))) fun b o e hn => g2 b o (s1 _ _ e) hn
      · have h0 : nums S k ≠ [] := fun z => he (hxs0.mpr z)
        have hk0 : k ∈ S.map (·.1) := by
          cases hl : nums S k with
          | nil => exact absurd hl h0
          | cons a b => exact nums_mem (n := a) (by rw [hl]; exact .head _)
        have eA : H1 pr = some (.lst ((putS S k n0).map fun q => V.int q.1)) := by
          have e1 : (putS S k n0).map (fun q => V.int q.1) = ((putS S k n0).map (·.1)).map V.int := by rw [List.map_map]; rfl
          rw [erow, e1, putS_keys, if_pos hk0, List.map_map]
          rfl
        refine ⟨v, _, rfl, hv.same s1, Nat.le_trans pcl_depth (by decide), fun v3 H3 s3 h3 => ⟨by decide, ?_⟩⟩
        intro p4 n4
        generalize z4 : upd H3 p4 _ = H4
        obtain ⟨s4, e4⟩ := new_same z4 n4
        have epp4 := s4 _ _ (s3 _ _ epp)
        refine ⟨_, epp4, by rw [sizeLine_eq]; omega, ?_⟩
        intro p5 n5
        generalize z5 : upd H4 p5 _ = H5
        obtain ⟨s5, e5⟩ := new_same z5 n5
        have ex5 := s5 _ _ (s4 _ _ (s3 _ _ ex1))
        have ek5 := s5 _ _ (s4 _ _ (s3 _ _ ek1))
        have hln : kvs.length < sizeLine := by have := G.len; rw [sizeLine_eq]; omega
        simp (maxSteps := 1000000) only [tFor_eq, tComp_eq, rRngs, rListR, HO.rng.injEq, tDKeys, rSortL, rSortK, ixN_10, ixN_20, ixN_21, ixN_30, ixN_31, ixN_32, ixN_40, ixN_41, ixN_42, ixN_43, ixN_50, ixN_51, ixN_52, ixN_53, ixN_54, rNe_nn, rEq_nn, rNe_in, rEq_in, rNe_ni, rEq_ni, gSeqX, rLeS, rEq_ss, rNe_ss, rStr1, rAllX, rAnyX, rListD, iStr, rSumX, tBL, tBL0, rExtend, rPopAt, rPop, rReverse, rClear, rIsIX, tyX_n, tyX_b, tyX_i, tyX_s, tyX_r, tyO_l, tyO_t, tyO_d, V.ty.injEq, kT_Noin, kT_Nobo, kT_Nost, kT_Noli, kT_Notu, kT_Nodi, kT_boin, kT_bobo, kT_bost, kT_boli, kT_botu, kT_bodi, kT_inin, kT_inbo, kT_inst, kT_inli, kT_intu, kT_indi, kT_stin, kT_stbo, kT_stst, kT_stli, kT_sttu, kT_stdi, kT_liin, kT_libo, kT_list, kT_lili, kT_litu, kT_lidi, kT_tuin, kT_tubo, kT_tust, kT_tuli, kT_tutu, kT_tudi, kT_diin, kT_dibo, kT_dist, kT_dili, kT_ditu, kT_didi, rGet, getO_l, getO_t, getO_di, getO_ds, rLenX, lenX_r, lenX_s', lenO_l, lenO_t, lenO_d, Option.bind_some, tTruX, truX_n, truX_b, truX_i, truX_r, truO_l, truO_t, truO_d, rInX, rNotInX, inO_l', inO_t', inO_di, inO_ds, rSetX, setO_l, setO_di', setO_ds', rSlX, rListX, seqO_l, seqO_t, rTupX, gTupX, gCons, gNil, gSub, atI_0, atI_1, atI_2, atI_3, tDNewK, Nat.reduceSub, upd_same, upd_upd, Nat.reduceLT, HO.lst.injEq, HO.tup.injEq, HO.dK.injEq, HO.ins.injEq, Option.map_some, Option.isSome_some, Int.reduceEq, Int.reduceLT, Int.reduceLE, Nat.reduceAdd, List.isEmpty_nil, List.isEmpty_cons, ne_eq, not_false_eq_true, tDGs, sDPs, rIsB, rIsntB, tMeth, tMake, tDGet, sDPut, tFld, sFld, tDisp, tPairs, tNever, decide_true, decide_false, truV_bl, clsV_ty, V.ty.injEq, exists_eq', exists_eq, Bool.not_true, Bool.not_false, Bool.not_not, rLen, rListOf, rTupOf, rAny, rAll, rIsI, tTru, iRng1, iRng2, iList, tYes, cSt, List.drop_succ_cons, List.drop_zero, cxOf_K, cxC_K,  tBM, tBM0, rAppend, tSl, rSlL, tNoPart, tPart, rIxL, rIxT, rCat, List.cons.injEq, rEq_ii, rNe_ii, rEq_bb, rNe_bb, tSeq, exists_and_left, if_false, if_true, reduceIte, Bool.false_eq_true, tIfS, tAnd, tOr, tNot, tTest, tOp, tUn, tVar, tC, rI, rI0, rU, tRet, tRetN, tAsg, gName, tNext, tAndV, tOrV, tNotV, tIf, tCall, tCons, tNil, tCB, tDrop, tLst, tTup, tChain, L2.start, List.map_cons, List.map_nil, List.length_cons, List.length_nil, List.replicate, List.cons_append, List.nil_append, List.getElem?_cons_zero, List.getElem?_cons_succ, List.set_cons_zero, List.set_cons_succ, Option.some.injEq, exists_eq_left', exists_eq_left, V.int.injEq, V.bl.injEq, V.ref.injEq, V.str.injEq, exists_const, and_true, true_and, reduceCtorEq, false_and, exists_false, or_false, false_or, and_assoc, List.append_nil, ex5, ek5, hln, T_Gate.cl, T_Gate.no "places" (by decide), T_Gate.no "row" (by decide), T_Gate.no "kept" (by decide), fs_Gate_places, fs_Gate_row, fs_Gate_kept, fn_Gate___init__, fn_Gate_put, fn_Gate_out, fn_Gate_give_one, fn_Gate_waiting, fn_Gate_waits, fl_Gate, fp_Gate_places, fp_Gate_row, fp_Gate_kept, fq_Gate_0, fq_Gate_1, fq_Gate_2]
        have s25 := (s3.trans s4).trans s5
        obtain ⟨g1, g2⟩ := put_fin G1 (Keep.refl (S := [pr])) eA s25 ((h3.same s4).same s5) hxs epp nppr few' e5 (ne_of_none (s4 _ _ (s3 _ _ eA)) n5)
        exact q true _ _ _ g1 (fun z => nomatch z) (fun _ => rfl) (frs_put (s1.fr (s3.fr (s4.fr n5)))) fun b o e hn => g2 b o (s1 _ _ e) hn
/-! ### given out -/
def sp_give (C : Addr) : Sp := fun vs H Q _ => ∃ (x dx pr pk : Addr) (pl k v : Int) (vs' : List Int) (r : Rw) (kvs : List (Key × V)) (n : Nat), vs = [.ref x] ∧ GateAt C H x dx pr pk pl kvs ((k, v :: vs') :: r) n ∧ n ≤ 1000 ∧
  ∀ w kvs' H', Im H' w (pcl k v) → GateAt C H' x dx pr pk pl kvs' (nextS k vs' r) n → Frs kvs kvs' H → Keep [pr, pk] H H' → Q w H'
set_option maxHeartbeats 4000000 in
theorem own_give (D : DefM K C "give_one" "Gate.give_one" s_Gate_give_one) (hb : Blt mg) (T_Gate : ClsD K mg "Gate" C at_Gate) : OwnM P w K mg base 1 C "give_one" ["self"] (sp_give C) := by
  refine D.own sc_Gate_give_one (fun _ _ _ _ _ _ us hl => match us, hl with | [_], _ => rfl) (fun vs H Q E h => ?_) (fun f cdv A outer s H vs Q E hr h => ?_)
  · obtain ⟨x, dx, pr, pk, pl, k, v, vs', r, kvs, n, rfl, _⟩ := h
    rfl
  · obtain ⟨x, dx, pr, pk, pl, k, v, vs', r, kvs, n, rfl, G, hn, q⟩ := h
    have hu := hr.units
    have hu1 : (A.deeper (PyProof.Rows.envOfC "Gate.give_one" (defScope s_Gate_give_one) s.heap.objs.size f cdv)).units + 1 < cLine := by omega
    have ex := G.ins
    have erow := G.row
    have ek := G.kep
    have hnk : nums ((k, v :: vs') :: r) k = v :: vs' := by rw [nums_cons, if_pos rfl]
    have l := G.lk k
    rw [hnk, if_neg (by simp)] at l
    obtain ⟨pp, xs, hval, epp, hxs⟩ := l
    obtain ⟨x0, xr, rfl⟩ : ∃ x0 xr, xs = x0 :: xr := by
      cases hxs with
      | cons a b => exact ⟨_, _, rfl⟩
    have hx0 : Im H x0 (pcl k v) := by cases hxs with | cons a b => exact a
    have hxr : Ims H xr (vs'.map (pcl k)) := by cases hxs with | cons a b => exact b
    have hxl : xr.length = vs'.length := by have := hxr.len; rw [List.length_map] at this; exact this
    have few0 := G.few
    have hpk : pk ≠ pr := ne_of ek erow (by intro z; cases z)
    have hxpr : x ≠ pr := ne_of ex erow (by intro z; cases z)
    have hxpk : x ≠ pk := ne_of ex ek (by intro z; cases z)
    have nppr : pp ≠ pr := G.vl k pp hval
    have nppk : pp ≠ pk := ne_of epp ek (by intro z; cases z)
    refine ⟨_, (@pss_cons _ _ _ _ _ (@ps_set _ _ 1 _ _ _ _ sc_Gate_give_one.nd rfl (by first | exact Or.inl rfl | exact Or.inr rfl) (@pe_bm _ _ _ _ _ _ _ _ _ _ _ _ PySem.F.plainAttrs_list PySem.F.slot_list_pop PySem.F.type_list_pop mt_popAt (@pe_fldK _ K _ _ _ _ (@pv _ 0 _ _ (by rfl) (by first | exact Or.inl rfl | exact Or.inr (Or.inl rfl) | exact Or.inr (Or.inr rfl)) (by decide) (by decide)) (by rfl) (by rfl)) (@pa_cX _ _ _ _ _ (@pe_int _ _ _ _) (@pa_nil _) (by rfl)) (by rfl) (by rfl) (by rfl) (by rfl) (by rfl)) (by rfl) (by first | exact .inl rfl | exact .inr rfl | assumption)) (@pss_cons _ _ _ _ _ (@ps_set _ _ 2 _ _ _ _ sc_Gate_give_one.nd rfl (by first | exact Or.inl rfl | exact Or.inr rfl) (pe_dpX1 (@pe_fldK _ K _ _ _ _ (@pv _ 0 _ _ (by rfl) (by first | exact Or.inl rfl | exact Or.inr (Or.inl rfl) | exact Or.inr (Or.inr rfl)) (by decide) (by decide)) (by rfl) (by rfl)) (@pv _ 1 _ _ (by rfl) (by first | exact Or.inl rfl | exact Or.inr (Or.inl rfl) | exact Or.inr (Or.inr rfl)) (by decide) (by decide)) (by constructor <;> rfl)) (by rfl) (by first | exact .inl rfl | exact .inr rfl | assumption)) (@pss_cons _ _ _ _ _ (@ps_if _ _ _ _ _ _ _ _ (@pt_cmpR _ _ _ _ _ _ _ _ op_gt (@pe_callB _ _ _ _ _ _ _ _ _ call_lenX rfl (hb _ (by decide)) bt_len (@pa_cX _ _ _ _ _ (@pv _ 2 _ _ (by rfl) (by first | exact Or.inl rfl | exact Or.inr (Or.inl rfl) | exact Or.inr (Or.inr rfl)) (by decide) (by decide)) (@pa_nil _) (by rfl)) (by decide) (by decide) (by rfl) (by rfl)) (@pe_int _ _ _ _) (nomark _)) (@pss_cons _ _ _ _ _ (@ps_expr _ _ _ _ (@pe_lm _ _ _ _ _ _ _ _ _ _ _ PySem.F.slot_list_append PySem.F.type_list_append mt_append (@pe_fldK _ K _ _ _ _ (@pv _ 0 _ _ (by rfl) (by first | exact Or.inl rfl | exact Or.inr (Or.inl rfl) | exact Or.inr (Or.inr rfl)) (by decide) (by decide)) (by rfl) (by rfl)) (@pa_cX _ _ _ _ _ (@pv _ 1 _ _ (by rfl) (by first | exact Or.inl rfl | exact Or.inr (Or.inl rfl) | exact Or.inr (Or.inr rfl)) (by decide) (by decide)) (@pa_nil _) (by rfl)) (by rfl) (by rfl) (by rfl) (by rfl) (by rfl)) (by rfl)) (@pss_one _ _ _ (@ps_asg _ _ _ _ _ _ (@pe_slice _ _ _ _ _ _ _ _ _ _ sl_X (@pv _ 2 _ _ (by rfl) (by first | exact Or.inl rfl | exact Or.inr (Or.inl rfl) | exact Or.inr (Or.inr rfl)) (by decide) (by decide)) (@po_some _ _ _ (@pe_int _ _ _ _)) (@po_none _)) (@pg_sub _ _ _ _ _ _ _ (@pe_fldK _ K _ _ _ _ (@pv _ 0 _ _ (by rfl) (by first | exact Or.inl rfl | exact Or.inr (Or.inl rfl) | exact Or.inr (Or.inr rfl)) (by decide) (by decide)) (by rfl) (by rfl)) (@pv _ 1 _ _ (by rfl) (by first | exact Or.inl rfl | exact Or.inr (Or.inl rfl) | exact Or.inr (Or.inr rfl)) (by decide) (by decide)) (@set_x _ hu1) (by intro _; rfl)) (by rfl) (by rfl) (by rfl)))) (@pss_nil _)) (@pss_one _ _ _ (@ps_ret _ _ _ _ (@pe_ix _ _ _ _ _ _ _ (ix_get hu1) (@pv _ 2 _ _ (by rfl) (by first | exact Or.inl rfl | exact Or.inr (Or.inl rfl) | exact Or.inr (Or.inr rfl)) (by decide) (by decide)) (@pe_int _ _ _ _) (fun _ _ => rfl))))))), ?_⟩
    simp (maxSteps := 1000000) only [tFor_eq, tComp_eq, rRngs, rListR, HO.rng.injEq, tDKeys, rSortL, rSortK, ixN_10, ixN_20, ixN_21, ixN_30, ixN_31, ixN_32, ixN_40, ixN_41, ixN_42, ixN_43, ixN_50, ixN_51, ixN_52, ixN_53, ixN_54, rNe_nn, rEq_nn, rNe_in, rEq_in, rNe_ni, rEq_ni, gSeqX, rLeS, rEq_ss, rNe_ss, rStr1, rAllX, rAnyX, rListD, iStr, rSumX, tBL, tBL0, rExtend, rPopAt, rPop, rReverse, rClear, rIsIX, tyX_n, tyX_b, tyX_i, tyX_s, tyX_r, tyO_l, tyO_t, tyO_d, V.ty.injEq, kT_Noin, kT_Nobo, kT_Nost, kT_Noli, kT_Notu, kT_Nodi, kT_boin, kT_bobo, kT_bost, kT_boli, kT_botu, kT_bodi, kT_inin, kT_inbo, kT_inst, kT_inli, kT_intu, kT_indi, kT_stin, kT_stbo, kT_stst, kT_stli, kT_sttu, kT_stdi, kT_liin, kT_libo, kT_list, kT_lili, kT_litu, kT_lidi, kT_tuin, kT_tubo, kT_tust, kT_tuli, kT_tutu, kT_tudi, kT_diin, kT_dibo, kT_dist, kT_dili, kT_ditu, kT_didi, rGet, getO_l, getO_t, getO_di, getO_ds, rLenX, lenX_r, lenX_s', lenO_l, lenO_t, lenO_d, Option.bind_some, tTruX, truX_n, truX_b, truX_i, truX_r, truO_l, truO_t, truO_d, rInX, rNotInX, inO_l', inO_t', inO_di, inO_ds, rSetX, setO_l, setO_di', setO_ds', rSlX, rListX, seqO_l, seqO_t, rTupX, gTupX, gCons, gNil, gSub, atI_0, atI_1, atI_2, atI_3, tDNewK, Nat.reduceSub, upd_same, upd_upd, Nat.reduceLT, HO.lst.injEq, HO.tup.injEq, HO.dK.injEq, HO.ins.injEq, Option.map_some, Option.isSome_some, Int.reduceEq, Int.reduceLT, Int.reduceLE, Nat.reduceAdd, List.isEmpty_nil, List.isEmpty_cons, ne_eq, not_false_eq_true, tDGs, sDPs, rIsB, rIsntB, tMeth, tMake, tDGet, sDPut, tFld, sFld, tDisp, tPairs, tNever, decide_true, decide_false, truV_bl, clsV_ty, V.ty.injEq, exists_eq', exists_eq, Bool.not_true, Bool.not_false, Bool.not_not, rLen, rListOf, rTupOf, rAny, rAll, rIsI, tTru, iRng1, iRng2, iList, tYes, cSt, List.drop_succ_cons, List.drop_zero, cxOf_K, cxC_K,  tBM, tBM0, rAppend, tSl, rSlL, tNoPart, tPart, rIxL, rIxT, rCat, List.cons.injEq, rEq_ii, rNe_ii, rEq_bb, rNe_bb, tSeq, exists_and_left, if_false, if_true, reduceIte, Bool.false_eq_true, tIfS, tAnd, tOr, tNot, tTest, tOp, tUn, tVar, tC, rI, rI0, rU, tRet, tRetN, tAsg, gName, tNext, tAndV, tOrV, tNotV, tIf, tCall, tCons, tNil, tCB, tDrop, tLst, tTup, tChain, L2.start, List.map_cons, List.map_nil, List.length_cons, List.length_nil, List.replicate, List.cons_append, List.nil_append, List.getElem?_cons_zero, List.getElem?_cons_succ, List.set_cons_zero, List.set_cons_succ, Option.some.injEq, exists_eq_left', exists_eq_left, V.int.injEq, V.bl.injEq, V.ref.injEq, V.str.injEq, exists_const, and_true, true_and, reduceCtorEq, false_and, exists_false, or_false, false_or, and_assoc, List.append_nil, ex, erow, T_Gate.cl, T_Gate.no "places" (by decide), T_Gate.no "row" (by decide), T_Gate.no "kept" (by decide), fs_Gate_places, fs_Gate_row, fs_Gate_kept, fn_Gate___init__, fn_Gate_put, fn_Gate_out, fn_Gate_give_one, fn_Gate_waiting, fn_Gate_waits, fl_Gate, fp_Gate_places, fp_Gate_row, fp_Gate_kept, fq_Gate_0, fq_Gate_1, fq_Gate_2, tDPX1]
    refine ⟨.inl ⟨rfl, _, SqL.of erow⟩, by decide, by decide, 0, seqIndex_of (by decide) (by omega), ?_⟩
    generalize zA : upd H pr _ = H1
    have k1 : Keep [pr] H H1 := by rw [← zA]; exact Keep.refl.upd (.inl (.head _))
    have e1 : H1 pr = some (.lst (r.map fun q => V.int q.1)) := by rw [← zA, upd_same]; rfl
    have ex1 := k1 _ _ ex (by simp; exact hxpr)
    have ek1 := k1 _ _ ek (by simp; exact hpk)
    simp (maxSteps := 1000000) only [tFor_eq, tComp_eq, rRngs, rListR, HO.rng.injEq, tDKeys, rSortL, rSortK, ixN_10, ixN_20, ixN_21, ixN_30, ixN_31, ixN_32, ixN_40, ixN_41, ixN_42, ixN_43, ixN_50, ixN_51, ixN_52, ixN_53, ixN_54, rNe_nn, rEq_nn, rNe_in, rEq_in, rNe_ni, rEq_ni, gSeqX, rLeS, rEq_ss, rNe_ss, rStr1, rAllX, rAnyX, rListD, iStr, rSumX, tBL, tBL0, rExtend, rPopAt, rPop, rReverse, rClear, rIsIX, tyX_n, tyX_b, tyX_i, tyX_s, tyX_r, tyO_l, tyO_t, tyO_d, V.ty.injEq, kT_Noin, kT_Nobo, kT_Nost, kT_Noli, kT_Notu, kT_Nodi, kT_boin, kT_bobo, kT_bost, kT_boli, kT_botu, kT_bodi, kT_inin, kT_inbo, kT_inst, kT_inli, kT_intu, kT_indi, kT_stin, kT_stbo, kT_stst, kT_stli, kT_sttu, kT_stdi, kT_liin, kT_libo, kT_list, kT_lili, kT_litu, kT_lidi, kT_tuin, kT_tubo, kT_tust, kT_tuli, kT_tutu, kT_tudi, kT_diin, kT_dibo, kT_dist, kT_dili, kT_ditu, kT_didi, rGet, getO_l, getO_t, getO_di, getO_ds, rLenX, lenX_r, lenX_s', lenO_l, lenO_t, lenO_d, Option.bind_some, tTruX, truX_n, truX_b, truX_i, truX_r, truO_l, truO_t, truO_d, rInX, rNotInX, inO_l', inO_t', inO_di, inO_ds, rSetX, setO_l, setO_di', setO_ds', rSlX, rListX, seqO_l, seqO_t, rTupX, gTupX, gCons, gNil, gSub, atI_0, atI_1, atI_2, atI_3, tDNewK, Nat.reduceSub, upd_same, upd_upd, Nat.reduceLT, HO.lst.injEq, HO.tup.injEq, HO.dK.injEq, HO.ins.injEq, Option.map_some, Option.isSome_some, Int.reduceEq, Int.reduceLT, Int.reduceLE, Nat.reduceAdd, List.isEmpty_nil, List.isEmpty_cons, ne_eq, not_false_eq_true, tDGs, sDPs, rIsB, rIsntB, tMeth, tMake, tDGet, sDPut, tFld, sFld, tDisp, tPairs, tNever, decide_true, decide_false, truV_bl, clsV_ty, V.ty.injEq, exists_eq', exists_eq, Bool.not_true, Bool.not_false, Bool.not_not, rLen, rListOf, rTupOf, rAny, rAll, rIsI, tTru, iRng1, iRng2, iList, tYes, cSt, List.drop_succ_cons, List.drop_zero, cxOf_K, cxC_K,  tBM, tBM0, rAppend, tSl, rSlL, tNoPart, tPart, rIxL, rIxT, rCat, List.cons.injEq, rEq_ii, rNe_ii, rEq_bb, rNe_bb, tSeq, exists_and_left, if_false, if_true, reduceIte, Bool.false_eq_true, tIfS, tAnd, tOr, tNot, tTest, tOp, tUn, tVar, tC, rI, rI0, rU, tRet, tRetN, tAsg, gName, tNext, tAndV, tOrV, tNotV, tIf, tCall, tCons, tNil, tCB, tDrop, tLst, tTup, tChain, L2.start, List.map_cons, List.map_nil, List.length_cons, List.length_nil, List.replicate, List.cons_append, List.nil_append, List.getElem?_cons_zero, List.getElem?_cons_succ, List.set_cons_zero, List.set_cons_succ, Option.some.injEq, exists_eq_left', exists_eq_left, V.int.injEq, V.bl.injEq, V.ref.injEq, V.str.injEq, exists_const, and_true, true_and, reduceCtorEq, false_and, exists_false, or_false, false_or, and_assoc, List.append_nil, ex1, ek1, keyV_i, hval, T_Gate.cl, T_Gate.no "places" (by decide), T_Gate.no "row" (by decide), T_Gate.no "kept" (by decide), fs_Gate_places, fs_Gate_row, fs_Gate_kept, fn_Gate___init__, fn_Gate_put, fn_Gate_out, fn_Gate_give_one, fn_Gate_waiting, fn_Gate_waits, fl_Gate, fp_Gate_places, fp_Gate_row, fp_Gate_kept, fq_Gate_0, fq_Gate_1, fq_Gate_2]
    generalize zB : upd H1 pk _ = H2
    have k2 : Keep [pk] H1 H2 := by rw [← zB]; exact Keep.refl.upd (.inl (.head _))
    have e2 := (congrFun zB.symm pk).trans upd_same
    have epp2 := k2 _ _ (k1 _ _ epp (by simp; exact nppr)) (by simp; exact nppk)
    have ex2 := k2 _ _ ex1 (by simp; exact hxpk)
    have er2 := k2 _ _ e1 (by simp; exact Ne.symm hpk)
    have k12 : Keep [pr, pk] H H2 := fun b o e hn => by
      simp only [List.mem_cons, List.not_mem_nil, or_false, not_or] at hn
      exact k2 _ _ (k1 _ _ e (by simp; exact hn.1)) (by simp; exact hn.2)
    have hdl := dropK_lt hval
    have hok := nextS_ok G.ok
    have vl2 : ∀ j p, valV (dropK kvs (Sum.inl k)) (Sum.inl j) = some (.ref p) → p ≠ pr := fun j p h => by
      rw [valV_drop] at h
      split at h
      · cases h
      · exact G.vl j p h
    have few2 : ∀ j, (nums (nextS k vs' r) j).length ≤ pl.toNat := fun j => by
      rw [nextS_nums G.ok]
      split
      · have := G.few k
        rw [hnk, List.length_cons] at this
        omega
      · exact G.few j
    have oth : ∀ {Hx : Hp} {kv : List (Key × V)}, Keep [pr, pk] H Hx → (∀ j, j ≠ k → valV kv (Sum.inl j) = valV kvs (Sum.inl j)) → ∀ j, j ≠ k → if nums (nextS k vs' r) j = [] then valV kv (Sum.inl j) = none else ∃ p xs, valV kv (Sum.inl j) = some (.ref p) ∧ Hx p = some (.lst xs) ∧ Ims Hx xs ((nums (nextS k vs' r) j).map (pcl j)) := fun {Hx kv} kk he j hj => by
      rw [nextS_nums G.ok, if_neg hj, he j hj]
      have l := G.lk j
      split
      · next h0 => rw [if_pos h0] at l; exact l
      · next h0 =>
        rw [if_neg h0] at l
        obtain ⟨p, ys, h1, h2, h3⟩ := l
        refine ⟨p, ys, h1, kk _ _ h2 ?_, h3.keep kk (noT_gate G)⟩
        simp only [List.mem_cons, List.not_mem_nil, or_false, not_or]
        exact ⟨G.vl j p h1, ne_of h2 ek (by intro z; cases z)⟩
    simp (maxSteps := 1000000) only [tFor_eq, tComp_eq, rRngs, rListR, HO.rng.injEq, tDKeys, rSortL, rSortK, ixN_10, ixN_20, ixN_21, ixN_30, ixN_31, ixN_32, ixN_40, ixN_41, ixN_42, ixN_43, ixN_50, ixN_51, ixN_52, ixN_53, ixN_54, rNe_nn, rEq_nn, rNe_in, rEq_in, rNe_ni, rEq_ni, gSeqX, rLeS, rEq_ss, rNe_ss, rStr1, rAllX, rAnyX, rListD, iStr, rSumX, tBL, tBL0, rExtend, rPopAt, rPop, rReverse, rClear, rIsIX, tyX_n, tyX_b, tyX_i, tyX_s, tyX_r, tyO_l, tyO_t, tyO_d, V.ty.injEq, kT_Noin, kT_Nobo, kT_Nost, kT_Noli, kT_Notu, kT_Nodi, kT_boin, kT_bobo, kT_bost, kT_boli, kT_botu, kT_bodi, kT_inin, kT_inbo, kT_inst, kT_inli, kT_intu, kT_indi, kT_stin, kT_stbo, kT_stst, kT_stli, kT_sttu, kT_stdi, kT_liin, kT_libo, kT_list, kT_lili, kT_litu, kT_lidi, kT_tuin, kT_tubo, kT_tust, kT_tuli, kT_tutu, kT_tudi, kT_diin, kT_dibo, kT_dist, kT_dili, kT_ditu, kT_didi, rGet, getO_l, getO_t, getO_di, getO_ds, rLenX, lenX_r, lenX_s', lenO_l, lenO_t, lenO_d, Option.bind_some, tTruX, truX_n, truX_b, truX_i, truX_r, truO_l, truO_t, truO_d, rInX, rNotInX, inO_l', inO_t', inO_di, inO_ds, rSetX, setO_l, setO_di', setO_ds', rSlX, rListX, seqO_l, seqO_t, rTupX, gTupX, gCons, gNil, gSub, atI_0, atI_1, atI_2, atI_3, tDNewK, Nat.reduceSub, upd_same, upd_upd, Nat.reduceLT, HO.lst.injEq, HO.tup.injEq, HO.dK.injEq, HO.ins.injEq, Option.map_some, Option.isSome_some, Int.reduceEq, Int.reduceLT, Int.reduceLE, Nat.reduceAdd, List.isEmpty_nil, List.isEmpty_cons, ne_eq, not_false_eq_true, tDGs, sDPs, rIsB, rIsntB, tMeth, tMake, tDGet, sDPut, tFld, sFld, tDisp, tPairs, tNever, decide_true, decide_false, truV_bl, clsV_ty, V.ty.injEq, exists_eq', exists_eq, Bool.not_true, Bool.not_false, Bool.not_not, rLen, rListOf, rTupOf, rAny, rAll, rIsI, tTru, iRng1, iRng2, iList, tYes, cSt, List.drop_succ_cons, List.drop_zero, cxOf_K, cxC_K,  tBM, tBM0, rAppend, tSl, rSlL, tNoPart, tPart, rIxL, rIxT, rCat, List.cons.injEq, rEq_ii, rNe_ii, rEq_bb, rNe_bb, tSeq, exists_and_left, if_false, if_true, reduceIte, Bool.false_eq_true, tIfS, tAnd, tOr, tNot, tTest, tOp, tUn, tVar, tC, rI, rI0, rU, tRet, tRetN, tAsg, gName, tNext, tAndV, tOrV, tNotV, tIf, tCall, tCons, tNil, tCB, tDrop, tLst, tTup, tChain, L2.start, List.map_cons, List.map_nil, List.length_cons, List.length_nil, List.replicate, List.cons_append, List.nil_append, List.getElem?_cons_zero, List.getElem?_cons_succ, List.set_cons_zero, List.set_cons_succ, Option.some.injEq, exists_eq_left', exists_eq_left, V.int.injEq, V.bl.injEq, V.ref.injEq, V.str.injEq, exists_const, and_true, true_and, reduceCtorEq, false_and, exists_false, or_false, false_or, and_assoc, List.append_nil, epp2]
    by_cases hvs : vs' = []
    · have hlen : ¬ (1 < ((xr.length + 1 : Nat) : Int)) := by rw [hxl, hvs]; simp
      simp (maxSteps := 1000000) only [tFor_eq, tComp_eq, rRngs, rListR, HO.rng.injEq, tDKeys, rSortL, rSortK, ixN_10, ixN_20, ixN_21, ixN_30, ixN_31, ixN_32, ixN_40, ixN_41, ixN_42, ixN_43, ixN_50, ixN_51, ixN_52, ixN_53, ixN_54, rNe_nn, rEq_nn, rNe_in, rEq_in, rNe_ni, rEq_ni, gSeqX, rLeS, rEq_ss, rNe_ss, rStr1, rAllX, rAnyX, rListD, iStr, rSumX, tBL, tBL0, rExtend, rPopAt, rPop, rReverse, rClear, rIsIX, tyX_n, tyX_b, tyX_i, tyX_s, tyX_r, tyO_l, tyO_t, tyO_d, V.ty.injEq, kT_Noin, kT_Nobo, kT_Nost, kT_Noli, kT_Notu, kT_Nodi, kT_boin, kT_bobo, kT_bost, kT_boli, kT_botu, kT_bodi, kT_inin, kT_inbo, kT_inst, kT_inli, kT_intu, kT_indi, kT_stin, kT_stbo, kT_stst, kT_stli, kT_sttu, kT_stdi, kT_liin, kT_libo, kT_list, kT_lili, kT_litu, kT_lidi, kT_tuin, kT_tubo, kT_tust, kT_tuli, kT_tutu, kT_tudi, kT_diin, kT_dibo, kT_dist, kT_dili, kT_ditu, kT_didi, rGet, getO_l, getO_t, getO_di, getO_ds, rLenX, lenX_r, lenX_s', lenO_l, lenO_t, lenO_d, Option.bind_some, tTruX, truX_n, truX_b, truX_i, truX_r, truO_l, truO_t, truO_d, rInX, rNotInX, inO_l', inO_t', inO_di, inO_ds, rSetX, setO_l, setO_di', setO_ds', rSlX, rListX, seqO_l, seqO_t, rTupX, gTupX, gCons, gNil, gSub, atI_0, atI_1, atI_2, atI_3, tDNewK, Nat.reduceSub, upd_same, upd_upd, Nat.reduceLT, HO.lst.injEq, HO.tup.injEq, HO.dK.injEq, HO.ins.injEq, Option.map_some, Option.isSome_some, Int.reduceEq, Int.reduceLT, Int.reduceLE, Nat.reduceAdd, List.isEmpty_nil, List.isEmpty_cons, ne_eq, not_false_eq_true, tDGs, sDPs, rIsB, rIsntB, tMeth, tMake, tDGet, sDPut, tFld, sFld, tDisp, tPairs, tNever, decide_true, decide_false, truV_bl, clsV_ty, V.ty.injEq, exists_eq', exists_eq, Bool.not_true, Bool.not_false, Bool.not_not, rLen, rListOf, rTupOf, rAny, rAll, rIsI, tTru, iRng1, iRng2, iList, tYes, cSt, List.drop_succ_cons, List.drop_zero, cxOf_K, cxC_K,  tBM, tBM0, rAppend, tSl, rSlL, tNoPart, tPart, rIxL, rIxT, rCat, List.cons.injEq, rEq_ii, rNe_ii, rEq_bb, rNe_bb, tSeq, exists_and_left, if_false, if_true, reduceIte, Bool.false_eq_true, tIfS, tAnd, tOr, tNot, tTest, tOp, tUn, tVar, tC, rI, rI0, rU, tRet, tRetN, tAsg, gName, tNext, tAndV, tOrV, tNotV, tIf, tCall, tCons, tNil, tCB, tDrop, tLst, tTup, tChain, L2.start, List.map_cons, List.map_nil, List.length_cons, List.length_nil, List.replicate, List.cons_append, List.nil_append, List.getElem?_cons_zero, List.getElem?_cons_succ, List.set_cons_zero, List.set_cons_succ, Option.some.injEq, exists_eq_left', exists_eq_left, V.int.injEq, V.bl.injEq, V.ref.injEq, V.str.injEq, exists_const, and_true, true_and, reduceCtorEq, false_and, exists_false, or_false, false_or, and_assoc, List.append_nil, hlen, epp2]
      refine q x0 _ H2 (hx0.keep k12 (noT_gate G)) ⟨ex2, ?_, e2, fun j => ?_, hok, by have := G.len; omega, vl2, few2⟩ frs_drop k12
      · rw [er2]
        unfold nextS
        rw [if_pos hvs]
      · by_cases hj : j = k
        · subst hj
          rw [nextS_nums G.ok, if_pos rfl, if_pos hvs, valV_drop, if_pos rfl]
        · exact oth k12 (fun i hi => by rw [valV_drop, if_neg (by intro z; cases z; exact hi rfl)]) j hj
    · have hlen : (1 < ((xr.length + 1 : Nat) : Int)) := by
        have : 0 < vs'.length := List.length_pos_iff.mpr hvs
        rw [hxl]; omega
      have hrl : r.length < sizeLine := by
        have := G.slen
        rw [List.length_cons] at this
        rw [sizeLine_eq]; omega
      simp (maxSteps := 1000000) only [tFor_eq, tComp_eq, rRngs, rListR, HO.rng.injEq, tDKeys, rSortL, rSortK, ixN_10, ixN_20, ixN_21, ixN_30, ixN_31, ixN_32, ixN_40, ixN_41, ixN_42, ixN_43, ixN_50, ixN_51, ixN_52, ixN_53, ixN_54, rNe_nn, rEq_nn, rNe_in, rEq_in, rNe_ni, rEq_ni, gSeqX, rLeS, rEq_ss, rNe_ss, rStr1, rAllX, rAnyX, rListD, iStr, rSumX, tBL, tBL0, rExtend, rPopAt, rPop, rReverse, rClear, rIsIX, tyX_n, tyX_b, tyX_i, tyX_s, tyX_r, tyO_l, tyO_t, tyO_d, V.ty.injEq, kT_Noin, kT_Nobo, kT_Nost, kT_Noli, kT_Notu, kT_Nodi, kT_boin, kT_bobo, kT_bost, kT_boli, kT_botu, kT_bodi, kT_inin, kT_inbo, kT_inst, kT_inli, kT_intu, kT_indi, kT_stin, kT_stbo, kT_stst, kT_stli, kT_sttu, kT_stdi, kT_liin, kT_libo, kT_list, kT_lili, kT_litu, kT_lidi, kT_tuin, kT_tubo, kT_tust, kT_tuli, kT_tutu, kT_tudi, kT_diin, kT_dibo, kT_dist, kT_dili, kT_ditu, kT_didi, rGet, getO_l, getO_t, getO_di, getO_ds, rLenX, lenX_r, lenX_s', lenO_l, lenO_t, lenO_d, Option.bind_some, tTruX, truX_n, truX_b, truX_i, truX_r, truO_l, truO_t, truO_d, rInX, rNotInX, inO_l', inO_t', inO_di, inO_ds, rSetX, setO_l, setO_di', setO_ds', rSlX, rListX, seqO_l, seqO_t, rTupX, gTupX, gCons, gNil, gSub, atI_0, atI_1, atI_2, atI_3, tDNewK, Nat.reduceSub, upd_same, upd_upd, Nat.reduceLT, HO.lst.injEq, HO.tup.injEq, HO.dK.injEq, HO.ins.injEq, Option.map_some, Option.isSome_some, Int.reduceEq, Int.reduceLT, Int.reduceLE, Nat.reduceAdd, List.isEmpty_nil, List.isEmpty_cons, ne_eq, not_false_eq_true, tDGs, sDPs, rIsB, rIsntB, tMeth, tMake, tDGet, sDPut, tFld, sFld, tDisp, tPairs, tNever, decide_true, decide_false, truV_bl, clsV_ty, V.ty.injEq, exists_eq', exists_eq, Bool.not_true, Bool.not_false, Bool.not_not, rLen, rListOf, rTupOf, rAny, rAll, rIsI, tTru, iRng1, iRng2, iList, tYes, cSt, List.drop_succ_cons, List.drop_zero, cxOf_K, cxC_K,  tBM, tBM0, rAppend, tSl, rSlL, tNoPart, tPart, rIxL, rIxT, rCat, List.cons.injEq, rEq_ii, rNe_ii, rEq_bb, rNe_bb, tSeq, exists_and_left, if_false, if_true, reduceIte, Bool.false_eq_true, tIfS, tAnd, tOr, tNot, tTest, tOp, tUn, tVar, tC, rI, rI0, rU, tRet, tRetN, tAsg, gName, tNext, tAndV, tOrV, tNotV, tIf, tCall, tCons, tNil, tCB, tDrop, tLst, tTup, tChain, L2.start, List.map_cons, List.map_nil, List.length_cons, List.length_nil, List.replicate, List.cons_append, List.nil_append, List.getElem?_cons_zero, List.getElem?_cons_succ, List.set_cons_zero, List.set_cons_succ, Option.some.injEq, exists_eq_left', exists_eq_left, V.int.injEq, V.bl.injEq, V.ref.injEq, V.str.injEq, exists_const, and_true, true_and, reduceCtorEq, false_and, exists_false, or_false, false_or, and_assoc, List.append_nil, hlen, ex2, er2, T_Gate.cl, T_Gate.no "places" (by decide), T_Gate.no "row" (by decide), T_Gate.no "kept" (by decide), fs_Gate_places, fs_Gate_row, fs_Gate_kept, fn_Gate___init__, fn_Gate_put, fn_Gate_out, fn_Gate_give_one, fn_Gate_waiting, fn_Gate_waits, fl_Gate, fp_Gate_places, fp_Gate_row, fp_Gate_kept, fq_Gate_0, fq_Gate_1, fq_Gate_2, List.length_map, hrl]
      generalize zC : upd H2 pr _ = H3
      have k3 : Keep [pr] H2 H3 := by rw [← zC]; exact Keep.refl.upd (.inl (.head _))
      have er3 := (congrFun zC.symm pr).trans upd_same
      have epp3 := k3 _ _ epp2 (by simp; exact nppr)
      simp (maxSteps := 1000000) only [tFor_eq, tComp_eq, rRngs, rListR, HO.rng.injEq, tDKeys, rSortL, rSortK, ixN_10, ixN_20, ixN_21, ixN_30, ixN_31, ixN_32, ixN_40, ixN_41, ixN_42, ixN_43, ixN_50, ixN_51, ixN_52, ixN_53, ixN_54, rNe_nn, rEq_nn, rNe_in, rEq_in, rNe_ni, rEq_ni, gSeqX, rLeS, rEq_ss, rNe_ss, rStr1, rAllX, rAnyX, rListD, iStr, rSumX, tBL, tBL0, rExtend, rPopAt, rPop, rReverse, rClear, rIsIX, tyX_n, tyX_b, tyX_i, tyX_s, tyX_r, tyO_l, tyO_t, tyO_d, V.ty.injEq, kT_Noin, kT_Nobo, kT_Nost, kT_Noli, kT_Notu, kT_Nodi, kT_boin, kT_bobo, kT_bost, kT_boli, kT_botu, kT_bodi, kT_inin, kT_inbo, kT_inst, kT_inli, kT_intu, kT_indi, kT_stin, kT_stbo, kT_stst, kT_stli, kT_sttu, kT_stdi, kT_liin, kT_libo, kT_list, kT_lili, kT_litu, kT_lidi, kT_tuin, kT_tubo, kT_tust, kT_tuli, kT_tutu, kT_tudi, kT_diin, kT_dibo, kT_dist, kT_dili, kT_ditu, kT_didi, rGet, getO_l, getO_t, getO_di, getO_ds, rLenX, lenX_r, lenX_s', lenO_l, lenO_t, lenO_d, Option.bind_some, tTruX, truX_n, truX_b, truX_i, truX_r, truO_l, truO_t, truO_d, rInX, rNotInX, inO_l', inO_t', inO_di, inO_ds, rSetX, setO_l, setO_di', setO_ds', rSlX, rListX, seqO_l, seqO_t, rTupX, gTupX, gCons, gNil, gSub, atI_0, atI_1, atI_2, atI_3, tDNewK, Nat.reduceSub, upd_same, upd_upd, Nat.reduceLT, HO.lst.injEq, HO.tup.injEq, HO.dK.injEq, HO.ins.injEq, Option.map_some, Option.isSome_some, Int.reduceEq, Int.reduceLT, Int.reduceLE, Nat.reduceAdd, List.isEmpty_nil, List.isEmpty_cons, ne_eq, not_false_eq_true, tDGs, sDPs, rIsB, rIsntB, tMeth, tMake, tDGet, sDPut, tFld, sFld, tDisp, tPairs, tNever, decide_true, decide_false, truV_bl, clsV_ty, V.ty.injEq, exists_eq', exists_eq, Bool.not_true, Bool.not_false, Bool.not_not, rLen, rListOf, rTupOf, rAny, rAll, rIsI, tTru, iRng1, iRng2, iList, tYes, cSt, List.drop_succ_cons, List.drop_zero, cxOf_K, cxC_K,  tBM, tBM0, rAppend, tSl, rSlL, tNoPart, tPart, rIxL, rIxT, rCat, List.cons.injEq, rEq_ii, rNe_ii, rEq_bb, rNe_bb, tSeq, exists_and_left, if_false, if_true, reduceIte, Bool.false_eq_true, tIfS, tAnd, tOr, tNot, tTest, tOp, tUn, tVar, tC, rI, rI0, rU, tRet, tRetN, tAsg, gName, tNext, tAndV, tOrV, tNotV, tIf, tCall, tCons, tNil, tCB, tDrop, tLst, tTup, tChain, L2.start, List.map_cons, List.map_nil, List.length_cons, List.length_nil, List.replicate, List.cons_append, List.nil_append, List.getElem?_cons_zero, List.getElem?_cons_succ, List.set_cons_zero, List.set_cons_succ, Option.some.injEq, exists_eq_left', exists_eq_left, V.int.injEq, V.bl.injEq, V.ref.injEq, V.str.injEq, exists_const, and_true, true_and, reduceCtorEq, false_and, exists_false, or_false, false_or, and_assoc, List.append_nil, epp3]
      rw [cutV_drop _ (by omega)]
      intro p4 n4
      generalize z4 : upd H3 p4 _ = H4
      obtain ⟨s4, e4⟩ := new_same z4 n4
      have e4' : H4 p4 = some (.lst xr) := e4
      have ex4 := s4 _ _ (k3 _ _ ex2 (by simp; exact hxpr))
      have ek4 := s4 _ _ (k3 _ _ e2 (by simp; exact hpk))
      have hln : (dropK kvs (Sum.inl k)).length < sizeLine := by have := G.len; rw [sizeLine_eq]; omega
      simp (maxSteps := 1000000) only [tFor_eq, tComp_eq, rRngs, rListR, HO.rng.injEq, tDKeys, rSortL, rSortK, ixN_10, ixN_20, ixN_21, ixN_30, ixN_31, ixN_32, ixN_40, ixN_41, ixN_42, ixN_43, ixN_50, ixN_51, ixN_52, ixN_53, ixN_54, rNe_nn, rEq_nn, rNe_in, rEq_in, rNe_ni, rEq_ni, gSeqX, rLeS, rEq_ss, rNe_ss, rStr1, rAllX, rAnyX, rListD, iStr, rSumX, tBL, tBL0, rExtend, rPopAt, rPop, rReverse, rClear, rIsIX, tyX_n, tyX_b, tyX_i, tyX_s, tyX_r, tyO_l, tyO_t, tyO_d, V.ty.injEq, kT_Noin, kT_Nobo, kT_Nost, kT_Noli, kT_Notu, kT_Nodi, kT_boin, kT_bobo, kT_bost, kT_boli, kT_botu, kT_bodi, kT_inin, kT_inbo, kT_inst, kT_inli, kT_intu, kT_indi, kT_stin, kT_stbo, kT_stst, kT_stli, kT_sttu, kT_stdi, kT_liin, kT_libo, kT_list, kT_lili, kT_litu, kT_lidi, kT_tuin, kT_tubo, kT_tust, kT_tuli, kT_tutu, kT_tudi, kT_diin, kT_dibo, kT_dist, kT_dili, kT_ditu, kT_didi, rGet, getO_l, getO_t, getO_di, getO_ds, rLenX, lenX_r, lenX_s', lenO_l, lenO_t, lenO_d, Option.bind_some, tTruX, truX_n, truX_b, truX_i, truX_r, truO_l, truO_t, truO_d, rInX, rNotInX, inO_l', inO_t', inO_di, inO_ds, rSetX, setO_l, setO_di', setO_ds', rSlX, rListX, seqO_l, seqO_t, rTupX, gTupX, gCons, gNil, gSub, atI_0, atI_1, atI_2, atI_3, tDNewK, Nat.reduceSub, upd_same, upd_upd, Nat.reduceLT, HO.lst.injEq, HO.tup.injEq, HO.dK.injEq, HO.ins.injEq, Option.map_some, Option.isSome_some, Int.reduceEq, Int.reduceLT, Int.reduceLE, Nat.reduceAdd, List.isEmpty_nil, List.isEmpty_cons, ne_eq, not_false_eq_true, tDGs, sDPs, rIsB, rIsntB, tMeth, tMake, tDGet, sDPut, tFld, sFld, tDisp, tPairs, tNever, decide_true, decide_false, truV_bl, clsV_ty, V.ty.injEq, exists_eq', exists_eq, Bool.not_true, Bool.not_false, Bool.not_not, rLen, rListOf, rTupOf, rAny, rAll, rIsI, tTru, iRng1, iRng2, iList, tYes, cSt, List.drop_succ_cons, List.drop_zero, cxOf_K, cxC_K,  tBM, tBM0, rAppend, tSl, rSlL, tNoPart, tPart, rIxL, rIxT, rCat, List.cons.injEq, rEq_ii, rNe_ii, rEq_bb, rNe_bb, tSeq, exists_and_left, if_false, if_true, reduceIte, Bool.false_eq_true, tIfS, tAnd, tOr, tNot, tTest, tOp, tUn, tVar, tC, rI, rI0, rU, tRet, tRetN, tAsg, gName, tNext, tAndV, tOrV, tNotV, tIf, tCall, tCons, tNil, tCB, tDrop, tLst, tTup, tChain, L2.start, List.map_cons, List.map_nil, List.length_cons, List.length_nil, List.replicate, List.cons_append, List.nil_append, List.getElem?_cons_zero, List.getElem?_cons_succ, List.set_cons_zero, List.set_cons_succ, Option.some.injEq, exists_eq_left', exists_eq_left, V.int.injEq, V.bl.injEq, V.ref.injEq, V.str.injEq, exists_const, and_true, true_and, reduceCtorEq, false_and, exists_false, or_false, false_or, and_assoc, List.append_nil, ex4, ek4, hln, T_Gate.cl, T_Gate.no "places" (by decide), T_Gate.no "row" (by decide), T_Gate.no "kept" (by decide), fs_Gate_places, fs_Gate_row, fs_Gate_kept, fn_Gate___init__, fn_Gate_put, fn_Gate_out, fn_Gate_give_one, fn_Gate_waiting, fn_Gate_waits, fl_Gate, fp_Gate_places, fp_Gate_row, fp_Gate_kept, fq_Gate_0, fq_Gate_1, fq_Gate_2]
      generalize zD : upd H4 pk _ = H5
      have k5 : Keep [pk] H4 H5 := by rw [← zD]; exact Keep.refl.upd (.inl (.head _))
      have ek5 := (congrFun zD.symm pk).trans upd_same
      have epp5 := k5 _ _ (s4 _ _ epp3) (by simp; exact nppk)
      have k15 : Keep [pr, pk] H H5 := fun b o e hn => by
        have hn' := hn
        simp only [List.mem_cons, List.not_mem_nil, or_false, not_or] at hn'
        exact k5 _ _ (s4 _ _ (k3 _ _ (k12 _ _ e hn) (by simp; exact hn'.1))) (by simp; exact hn'.2)
      simp (maxSteps := 1000000) only [tFor_eq, tComp_eq, rRngs, rListR, HO.rng.injEq, tDKeys, rSortL, rSortK, ixN_10, ixN_20, ixN_21, ixN_30, ixN_31, ixN_32, ixN_40, ixN_41, ixN_42, ixN_43, ixN_50, ixN_51, ixN_52, ixN_53, ixN_54, rNe_nn, rEq_nn, rNe_in, rEq_in, rNe_ni, rEq_ni, gSeqX, rLeS, rEq_ss, rNe_ss, rStr1, rAllX, rAnyX, rListD, iStr, rSumX, tBL, tBL0, rExtend, rPopAt, rPop, rReverse, rClear, rIsIX, tyX_n, tyX_b, tyX_i, tyX_s, tyX_r, tyO_l, tyO_t, tyO_d, V.ty.injEq, kT_Noin, kT_Nobo, kT_Nost, kT_Noli, kT_Notu, kT_Nodi, kT_boin, kT_bobo, kT_bost, kT_boli, kT_botu, kT_bodi, kT_inin, kT_inbo, kT_inst, kT_inli, kT_intu, kT_indi, kT_stin, kT_stbo, kT_stst, kT_stli, kT_sttu, kT_stdi, kT_liin, kT_libo, kT_list, kT_lili, kT_litu, kT_lidi, kT_tuin, kT_tubo, kT_tust, kT_tuli, kT_tutu, kT_tudi, kT_diin, kT_dibo, kT_dist, kT_dili, kT_ditu, kT_didi, rGet, getO_l, getO_t, getO_di, getO_ds, rLenX, lenX_r, lenX_s', lenO_l, lenO_t, lenO_d, Option.bind_some, tTruX, truX_n, truX_b, truX_i, truX_r, truO_l, truO_t, truO_d, rInX, rNotInX, inO_l', inO_t', inO_di, inO_ds, rSetX, setO_l, setO_di', setO_ds', rSlX, rListX, seqO_l, seqO_t, rTupX, gTupX, gCons, gNil, gSub, atI_0, atI_1, atI_2, atI_3, tDNewK, Nat.reduceSub, upd_same, upd_upd, Nat.reduceLT, HO.lst.injEq, HO.tup.injEq, HO.dK.injEq, HO.ins.injEq, Option.map_some, Option.isSome_some, Int.reduceEq, Int.reduceLT, Int.reduceLE, Nat.reduceAdd, List.isEmpty_nil, List.isEmpty_cons, ne_eq, not_false_eq_true, tDGs, sDPs, rIsB, rIsntB, tMeth, tMake, tDGet, sDPut, tFld, sFld, tDisp, tPairs, tNever, decide_true, decide_false, truV_bl, clsV_ty, V.ty.injEq, exists_eq', exists_eq, Bool.not_true, Bool.not_false, Bool.not_not, rLen, rListOf, rTupOf, rAny, rAll, rIsI, tTru, iRng1, iRng2, iList, tYes, cSt, List.drop_succ_cons, List.drop_zero, cxOf_K, cxC_K,  tBM, tBM0, rAppend, tSl, rSlL, tNoPart, tPart, rIxL, rIxT, rCat, List.cons.injEq, rEq_ii, rNe_ii, rEq_bb, rNe_bb, tSeq, exists_and_left, if_false, if_true, reduceIte, Bool.false_eq_true, tIfS, tAnd, tOr, tNot, tTest, tOp, tUn, tVar, tC, rI, rI0, rU, tRet, tRetN, tAsg, gName, tNext, tAndV, tOrV, tNotV, tIf, tCall, tCons, tNil, tCB, tDrop, tLst, tTup, tChain, L2.start, List.map_cons, List.map_nil, List.length_cons, List.length_nil, List.replicate, List.cons_append, List.nil_append, List.getElem?_cons_zero, List.getElem?_cons_succ, List.set_cons_zero, List.set_cons_succ, Option.some.injEq, exists_eq_left', exists_eq_left, V.int.injEq, V.bl.injEq, V.ref.injEq, V.str.injEq, exists_const, and_true, true_and, reduceCtorEq, false_and, exists_false, or_false, false_or, and_assoc, List.append_nil, epp5]
      have en : nextS k vs' r = r ++ [(k, vs')] := if_neg hvs
      refine q x0 _ H5 (hx0.keep k15 (noT_gate G)) ⟨k5 _ _ ex4 (by simp; exact hxpk), ?_, ek5, fun j => ?_, hok, by have := length_putK (dropK kvs (Sum.inl k)) (Sum.inl k) (.ref p4); have := G.len; omega, fun j p h => ?_, few2⟩ (fun j p e => ?_) k15
      · rw [k5 _ _ (s4 _ _ er3) (by simp; exact Ne.symm hpk), en, List.map_append]
        rfl
      · by_cases hj : j = k
        · subst hj
          rw [nextS_nums G.ok, if_pos rfl, if_neg hvs]
          exact ⟨p4, xr, by rw [valV_put, if_pos rfl], k5 _ _ e4' (by simp; exact ne_of e4' ek4 (by intro z; cases z)), hxr.keep k15 (noT_gate G)⟩
        · exact oth k15 (fun i hi => by rw [valV_put, if_neg (by intro z; cases z; exact hi rfl), valV_drop, if_neg (by intro z; cases z; exact hi rfl)]) j hj
      · rw [valV_put] at h
        split at h
        · cases h; exact Ne.symm (ne_of_none er3 n4)
        · exact vl2 j p h
      · have hp4 : H p4 = none := k12.free (k3.free n4 (by simp; exact Ne.symm (ne_of_none er3 n4))) (by simp; exact ⟨Ne.symm (ne_of_none er3 n4), Ne.symm (ne_of_none (k3 _ _ e2 (by simp; exact hpk)) n4)⟩)
        rcases frs_put (kvs := dropK kvs (Sum.inl k)) (k := k) hp4 j p e with z | z
        · exact frs_drop j p z
        · exact .inr z
def sp_out (C : Addr) : Sp := fun vs H Q _ => ∃ (x dx pr pk : Addr) (pl : Int) (kvs : List (Key × V)) (S : Rw) (n m : Nat), vs = [.ref x, .int m] ∧ GateAt C H x dx pr pk pl kvs S n ∧ n ≤ 1000 ∧ m ≤ 10000 ∧
  ∀ p xs kvs' H', H p = none → H' p = some (.lst xs) → Ims H' xs ((outS m S).1.map fun q => pcl q.1 q.2) → GateAt C H' x dx pr pk pl kvs' (outS m S).2 n → Frs kvs kvs' H → Keep [pr, pk] H H' → Q (.ref p) H'
def Wo (C : Addr) (H : Hp) (x dx pr pk po : Addr) (pl : Int) (kvs0 : List (Key × V)) (n m : Nat) (R : List (Int × Int) × Rw) (j : Nat) (σ : St) (H' : Hp) : Prop := ∃ (xs : List V) (kvs : List (Key × V)) (S : Rw) (i : Nat) (ini : List (Int × Int)), σ = [some (.ref x), some (.int m), some (.ref po)] ∧ i + j = m ∧ H' po = some (.lst xs) ∧ Ims H' xs (ini.map fun q => pcl q.1 q.2) ∧ ini.length = i ∧ (ini ++ (outS j S).1, (outS j S).2) = R ∧ GateAt C H' x dx pr pk pl kvs S n ∧ Frs kvs0 kvs H ∧ (∀ j p, valV kvs (Sum.inl j) = some (.ref p) → p ≠ po) ∧ Keep [pr, pk] H H'
set_option maxHeartbeats 4000000 in
theorem own_out (D : DefM K C "out" "Gate.out" s_Gate_out) (hb : Blt mg) (T_Gate : ClsD K mg "Gate" C at_Gate) (M_Gate_give_one : OwnM P w K mg base 1 C "give_one" ["self"] (sp_give C)) : OwnM P w K mg base 2 C "out" ["self", "many"] (sp_out C) := by
  refine D.own sc_Gate_out (fun _ _ _ _ _ _ us hl => match us, hl with | [_, _], _ => rfl) (fun vs H Q E h => ?_) (fun f cdv A outer s H vs Q E hr h => ?_)
  · obtain ⟨x, dx, pr, pk, pl, kvs, S, n, m, rfl, _⟩ := h
    rfl
  · obtain ⟨x, dx, pr, pk, pl, kvs, S, n, m, rfl, G, hn, hm, q⟩ := h
    refine ⟨_, (@pss_cons _ _ _ _ _ (@ps_set _ _ 2 _ _ _ _ sc_Gate_out.nd rfl (by first | exact Or.inl rfl | exact Or.inr rfl) (@pe_lst _ _ _ _ (@pa_nil _)) (by rfl) (by first | exact .inl rfl | exact .inr rfl | assumption)) (@pss_cons _ _ _ _ _ (@ps_while _ _ _ _ _ _ PassesOwn.never (@PW.pt _ _ _ (@pw_and _ _ _ _ _ _ _ (@pt_truX _ _ _ (@pe_fldK _ K _ _ _ _ (@pv _ 0 _ _ (by rfl) (by first | exact Or.inl rfl | exact Or.inr (Or.inl rfl) | exact Or.inr (Or.inr rfl)) (by decide) (by decide)) (by rfl) (by rfl)) (by intro _; rfl)) (@pw_and1 _ _ _ _ (@pt_cmpR _ _ _ _ _ _ _ _ op_lt (@pe_callB _ _ _ _ _ _ _ _ _ call_lenX rfl (hb _ (by decide)) bt_len (@pa_cX _ _ _ _ _ (@pv _ 2 _ _ (by rfl) (by first | exact Or.inl rfl | exact Or.inr (Or.inl rfl) | exact Or.inr (Or.inr rfl)) (by decide) (by decide)) (@pa_nil _) (by rfl)) (by decide) (by decide) (by rfl) (by rfl)) (@pv _ 1 _ _ (by rfl) (by first | exact Or.inl rfl | exact Or.inr (Or.inl rfl) | exact Or.inr (Or.inr rfl)) (by decide) (by decide)) (nomark _))))) (@pss_one _ _ _ (@ps_expr _ _ _ _ (@pe_lm _ _ _ _ _ _ _ _ _ _ _ PySem.F.slot_list_append PySem.F.type_list_append mt_append (@pv _ 2 _ _ (by rfl) (by first | exact Or.inl rfl | exact Or.inr (Or.inl rfl) | exact Or.inr (Or.inr rfl)) (by decide) (by decide)) (@pa_cX _ _ _ _ _ (@pe_mth0 _ _ _ _ _ _ _ _ _ _ _ _ M_Gate_give_one T_Gate.cl hr (@pv _ 0 _ _ (by rfl) (by first | exact Or.inl rfl | exact Or.inr (Or.inl rfl) | exact Or.inr (Or.inr rfl)) (by decide) (by decide)) (by decide) (by rfl)) (@pa_nil _) (by rfl)) (by rfl) (by rfl) (by rfl) (by rfl) (by rfl)) (by rfl)))) (@pss_one _ _ _ (@ps_ret _ _ _ _ (@pv _ 2 _ _ (by rfl) (by first | exact Or.inl rfl | exact Or.inr (Or.inl rfl) | exact Or.inr (Or.inr rfl)) (by decide) (by decide)))))), ?_⟩
    simp (maxSteps := 1000000) only [tFor_eq, tComp_eq, rRngs, rListR, HO.rng.injEq, tDKeys, rSortL, rSortK, ixN_10, ixN_20, ixN_21, ixN_30, ixN_31, ixN_32, ixN_40, ixN_41, ixN_42, ixN_43, ixN_50, ixN_51, ixN_52, ixN_53, ixN_54, rNe_nn, rEq_nn, rNe_in, rEq_in, rNe_ni, rEq_ni, gSeqX, rLeS, rEq_ss, rNe_ss, rStr1, rAllX, rAnyX, rListD, iStr, rSumX, tBL, tBL0, rExtend, rPopAt, rPop, rReverse, rClear, rIsIX, tyX_n, tyX_b, tyX_i, tyX_s, tyX_r, tyO_l, tyO_t, tyO_d, V.ty.injEq, kT_Noin, kT_Nobo, kT_Nost, kT_Noli, kT_Notu, kT_Nodi, kT_boin, kT_bobo, kT_bost, kT_boli, kT_botu, kT_bodi, kT_inin, kT_inbo, kT_inst, kT_inli, kT_intu, kT_indi, kT_stin, kT_stbo, kT_stst, kT_stli, kT_sttu, kT_stdi, kT_liin, kT_libo, kT_list, kT_lili, kT_litu, kT_lidi, kT_tuin, kT_tubo, kT_tust, kT_tuli, kT_tutu, kT_tudi, kT_diin, kT_dibo, kT_dist, kT_dili, kT_ditu, kT_didi, rGet, getO_l, getO_t, getO_di, getO_ds, rLenX, lenX_r, lenX_s', lenO_l, lenO_t, lenO_d, Option.bind_some, tTruX, truX_n, truX_b, truX_i, truX_r, truO_l, truO_t, truO_d, rInX, rNotInX, inO_l', inO_t', inO_di, inO_ds, rSetX, setO_l, setO_di', setO_ds', rSlX, rListX, seqO_l, seqO_t, rTupX, gTupX, gCons, gNil, gSub, atI_0, atI_1, atI_2, atI_3, tDNewK, Nat.reduceSub, upd_same, upd_upd, Nat.reduceLT, HO.lst.injEq, HO.tup.injEq, HO.dK.injEq, HO.ins.injEq, Option.map_some, Option.isSome_some, Int.reduceEq, Int.reduceLT, Int.reduceLE, Nat.reduceAdd, List.isEmpty_nil, List.isEmpty_cons, ne_eq, not_false_eq_true, tDGs, sDPs, rIsB, rIsntB, tMeth, tMake, tDGet, sDPut, tFld, sFld, tDisp, tPairs, tNever, decide_true, decide_false, truV_bl, clsV_ty, V.ty.injEq, exists_eq', exists_eq, Bool.not_true, Bool.not_false, Bool.not_not, rLen, rListOf, rTupOf, rAny, rAll, rIsI, tTru, iRng1, iRng2, iList, tYes, cSt, List.drop_succ_cons, List.drop_zero, cxOf_K, cxC_K,  tBM, tBM0, rAppend, tSl, rSlL, tNoPart, tPart, rIxL, rIxT, rCat, List.cons.injEq, rEq_ii, rNe_ii, rEq_bb, rNe_bb, tSeq, exists_and_left, if_false, if_true, reduceIte, Bool.false_eq_true, tIfS, tAnd, tOr, tNot, tTest, tOp, tUn, tVar, tC, rI, rI0, rU, tRet, tRetN, tAsg, gName, tNext, tAndV, tOrV, tNotV, tIf, tCall, tCons, tNil, tCB, tDrop, tLst, tTup, tChain, L2.start, List.map_cons, List.map_nil, List.length_cons, List.length_nil, List.replicate, List.cons_append, List.nil_append, List.getElem?_cons_zero, List.getElem?_cons_succ, List.set_cons_zero, List.set_cons_succ, Option.some.injEq, exists_eq_left', exists_eq_left, V.int.injEq, V.bl.injEq, V.ref.injEq, V.str.injEq, exists_const, and_true, true_and, reduceCtorEq, false_and, exists_false, or_false, false_or, and_assoc, List.append_nil]
    refine ⟨by decide, ?_⟩
    intro p1 n1
    generalize z1 : upd H p1 _ = H1
    obtain ⟨s1, e1⟩ := new_same z1 n1
    generalize hR : outS m S = R at q
    refine ⟨Wo C H x dx pr pk p1 pl kvs n m R, ⟨m, [], kvs, S, 0, [], rfl, by omega, e1, .nil, rfl, by rw [hR]; rfl, G.same s1, (fun j p h => .inl h), (fun j p h => ?_), s1.keep⟩, ?_⟩
    · have l := G.lk j
      split at l
      · rw [l] at h; cases h
      · obtain ⟨p', ys, h1, h2, _⟩ := l
        rw [h1] at h
        cases h
        exact ne_of_none h2 n1
    rintro j σ H2 ⟨xs, kvs2, S, i, ini, rfl, hij, e2, hxs, hil, hRR, G2, fr2, ho2, k2⟩
    have ex := G2.ins
    have erow := G2.row
    have hxl : xs.length = i := by have := hxs.len; rw [List.length_map] at this; omega
    cases S with
    | nil =>
      simp (maxSteps := 1000000) only [tFor_eq, tComp_eq, rRngs, rListR, HO.rng.injEq, tDKeys, rSortL, rSortK, ixN_10, ixN_20, ixN_21, ixN_30, ixN_31, ixN_32, ixN_40, ixN_41, ixN_42, ixN_43, ixN_50, ixN_51, ixN_52, ixN_53, ixN_54, rNe_nn, rEq_nn, rNe_in, rEq_in, rNe_ni, rEq_ni, gSeqX, rLeS, rEq_ss, rNe_ss, rStr1, rAllX, rAnyX, rListD, iStr, rSumX, tBL, tBL0, rExtend, rPopAt, rPop, rReverse, rClear, rIsIX, tyX_n, tyX_b, tyX_i, tyX_s, tyX_r, tyO_l, tyO_t, tyO_d, V.ty.injEq, kT_Noin, kT_Nobo, kT_Nost, kT_Noli, kT_Notu, kT_Nodi, kT_boin, kT_bobo, kT_bost, kT_boli, kT_botu, kT_bodi, kT_inin, kT_inbo, kT_inst, kT_inli, kT_intu, kT_indi, kT_stin, kT_stbo, kT_stst, kT_stli, kT_sttu, kT_stdi, kT_liin, kT_libo, kT_list, kT_lili, kT_litu, kT_lidi, kT_tuin, kT_tubo, kT_tust, kT_tuli, kT_tutu, kT_tudi, kT_diin, kT_dibo, kT_dist, kT_dili, kT_ditu, kT_didi, rGet, getO_l, getO_t, getO_di, getO_ds, rLenX, lenX_r, lenX_s', lenO_l, lenO_t, lenO_d, Option.bind_some, tTruX, truX_n, truX_b, truX_i, truX_r, truO_l, truO_t, truO_d, rInX, rNotInX, inO_l', inO_t', inO_di, inO_ds, rSetX, setO_l, setO_di', setO_ds', rSlX, rListX, seqO_l, seqO_t, rTupX, gTupX, gCons, gNil, gSub, atI_0, atI_1, atI_2, atI_3, tDNewK, Nat.reduceSub, upd_same, upd_upd, Nat.reduceLT, HO.lst.injEq, HO.tup.injEq, HO.dK.injEq, HO.ins.injEq, Option.map_some, Option.isSome_some, Int.reduceEq, Int.reduceLT, Int.reduceLE, Nat.reduceAdd, List.isEmpty_nil, List.isEmpty_cons, ne_eq, not_false_eq_true, tDGs, sDPs, rIsB, rIsntB, tMeth, tMake, tDGet, sDPut, tFld, sFld, tDisp, tPairs, tNever, decide_true, decide_false, truV_bl, clsV_ty, V.ty.injEq, exists_eq', exists_eq, Bool.not_true, Bool.not_false, Bool.not_not, rLen, rListOf, rTupOf, rAny, rAll, rIsI, tTru, iRng1, iRng2, iList, tYes, cSt, List.drop_succ_cons, List.drop_zero, cxOf_K, cxC_K,  tBM, tBM0, rAppend, tSl, rSlL, tNoPart, tPart, rIxL, rIxT, rCat, List.cons.injEq, rEq_ii, rNe_ii, rEq_bb, rNe_bb, tSeq, exists_and_left, if_false, if_true, reduceIte, Bool.false_eq_true, tIfS, tAnd, tOr, tNot, tTest, tOp, tUn, tVar, tC, rI, rI0, rU, tRet, tRetN, tAsg, gName, tNext, tAndV, tOrV, tNotV, tIf, tCall, tCons, tNil, tCB, tDrop, tLst, tTup, tChain, L2.start, List.map_cons, List.map_nil, List.length_cons, List.length_nil, List.replicate, List.cons_append, List.nil_append, List.getElem?_cons_zero, List.getElem?_cons_succ, List.set_cons_zero, List.set_cons_succ, Option.some.injEq, exists_eq_left', exists_eq_left, V.int.injEq, V.bl.injEq, V.ref.injEq, V.str.injEq, exists_const, and_true, true_and, reduceCtorEq, false_and, exists_false, or_false, false_or, and_assoc, List.append_nil, ex, erow, T_Gate.cl, T_Gate.no "places" (by decide), T_Gate.no "row" (by decide), T_Gate.no "kept" (by decide), fs_Gate_places, fs_Gate_row, fs_Gate_kept, fn_Gate___init__, fn_Gate_put, fn_Gate_out, fn_Gate_give_one, fn_Gate_waiting, fn_Gate_waits, fl_Gate, fp_Gate_places, fp_Gate_row, fp_Gate_kept, fq_Gate_0, fq_Gate_1, fq_Gate_2]
      have hRn : (outS j ([] : Rw)) = ([], []) := by cases j <;> rfl
      rw [hRn] at hRR
      subst hRR
      rw [List.append_nil] at q
      exact q p1 xs kvs2 H2 n1 e2 hxs G2 fr2 k2
    | cons a r =>
      obtain ⟨k, vs'⟩ := a
      cases vs' with
      | nil => exact absurd rfl (G2.ok.ne _ (.head _))
      | cons v vs' =>
        simp (maxSteps := 1000000) only [tFor_eq, tComp_eq, rRngs, rListR, HO.rng.injEq, tDKeys, rSortL, rSortK, ixN_10, ixN_20, ixN_21, ixN_30, ixN_31, ixN_32, ixN_40, ixN_41, ixN_42, ixN_43, ixN_50, ixN_51, ixN_52, ixN_53, ixN_54, rNe_nn, rEq_nn, rNe_in, rEq_in, rNe_ni, rEq_ni, gSeqX, rLeS, rEq_ss, rNe_ss, rStr1, rAllX, rAnyX, rListD, iStr, rSumX, tBL, tBL0, rExtend, rPopAt, rPop, rReverse, rClear, rIsIX, tyX_n, tyX_b, tyX_i, tyX_s, tyX_r, tyO_l, tyO_t, tyO_d, V.ty.injEq, kT_Noin, kT_Nobo, kT_Nost, kT_Noli, kT_Notu, kT_Nodi, kT_boin, kT_bobo, kT_bost, kT_boli, kT_botu, kT_bodi, kT_inin, kT_inbo, kT_inst, kT_inli, kT_intu, kT_indi, kT_stin, kT_stbo, kT_stst, kT_stli, kT_sttu, kT_stdi, kT_liin, kT_libo, kT_list, kT_lili, kT_litu, kT_lidi, kT_tuin, kT_tubo, kT_tust, kT_tuli, kT_tutu, kT_tudi, kT_diin, kT_dibo, kT_dist, kT_dili, kT_ditu, kT_didi, rGet, getO_l, getO_t, getO_di, getO_ds, rLenX, lenX_r, lenX_s', lenO_l, lenO_t, lenO_d, Option.bind_some, tTruX, truX_n, truX_b, truX_i, truX_r, truO_l, truO_t, truO_d, rInX, rNotInX, inO_l', inO_t', inO_di, inO_ds, rSetX, setO_l, setO_di', setO_ds', rSlX, rListX, seqO_l, seqO_t, rTupX, gTupX, gCons, gNil, gSub, atI_0, atI_1, atI_2, atI_3, tDNewK, Nat.reduceSub, upd_same, upd_upd, Nat.reduceLT, HO.lst.injEq, HO.tup.injEq, HO.dK.injEq, HO.ins.injEq, Option.map_some, Option.isSome_some, Int.reduceEq, Int.reduceLT, Int.reduceLE, Nat.reduceAdd, List.isEmpty_nil, List.isEmpty_cons, ne_eq, not_false_eq_true, tDGs, sDPs, rIsB, rIsntB, tMeth, tMake, tDGet, sDPut, tFld, sFld, tDisp, tPairs, tNever, decide_true, decide_false, truV_bl, clsV_ty, V.ty.injEq, exists_eq', exists_eq, Bool.not_true, Bool.not_false, Bool.not_not, rLen, rListOf, rTupOf, rAny, rAll, rIsI, tTru, iRng1, iRng2, iList, tYes, cSt, List.drop_succ_cons, List.drop_zero, cxOf_K, cxC_K,  tBM, tBM0, rAppend, tSl, rSlL, tNoPart, tPart, rIxL, rIxT, rCat, List.cons.injEq, rEq_ii, rNe_ii, rEq_bb, rNe_bb, tSeq, exists_and_left, if_false, if_true, reduceIte, Bool.false_eq_true, tIfS, tAnd, tOr, tNot, tTest, tOp, tUn, tVar, tC, rI, rI0, rU, tRet, tRetN, tAsg, gName, tNext, tAndV, tOrV, tNotV, tIf, tCall, tCons, tNil, tCB, tDrop, tLst, tTup, tChain, L2.start, List.map_cons, List.map_nil, List.length_cons, List.length_nil, List.replicate, List.cons_append, List.nil_append, List.getElem?_cons_zero, List.getElem?_cons_succ, List.set_cons_zero, List.set_cons_succ, Option.some.injEq, exists_eq_left', exists_eq_left, V.int.injEq, V.bl.injEq, V.ref.injEq, V.str.injEq, exists_const, and_true, true_and, reduceCtorEq, false_and, exists_false, or_false, false_or, and_assoc, List.append_nil, ex, erow, T_Gate.cl, T_Gate.no "places" (by decide), T_Gate.no "row" (by decide), T_Gate.no "kept" (by decide), fs_Gate_places, fs_Gate_row, fs_Gate_kept, fn_Gate___init__, fn_Gate_put, fn_Gate_out, fn_Gate_give_one, fn_Gate_waiting, fn_Gate_waits, fl_Gate, fp_Gate_places, fp_Gate_row, fp_Gate_kept, fq_Gate_0, fq_Gate_1, fq_Gate_2, e2]
        cases j with
        | zero =>
          have hc : ¬ ((xs.length : Int) < (m : Int)) := by omega
          simp only [hc, decide_false, Bool.false_eq_true, if_false]
          try simp (maxSteps := 1000000) only [tFor_eq, tComp_eq, rRngs, rListR, HO.rng.injEq, tDKeys, rSortL, rSortK, ixN_10, ixN_20, ixN_21, ixN_30, ixN_31, ixN_32, ixN_40, ixN_41, ixN_42, ixN_43, ixN_50, ixN_51, ixN_52, ixN_53, ixN_54, rNe_nn, rEq_nn, rNe_in, rEq_in, rNe_ni, rEq_ni, gSeqX, rLeS, rEq_ss, rNe_ss, rStr1, rAllX, rAnyX, rListD, iStr, rSumX, tBL, tBL0, rExtend, rPopAt, rPop, rReverse, rClear, rIsIX, tyX_n, tyX_b, tyX_i, tyX_s, tyX_r, tyO_l, tyO_t, tyO_d, V.ty.injEq, kT_Noin, kT_Nobo, kT_Nost, kT_Noli, kT_Notu, kT_Nodi, kT_boin, kT_bobo, kT_bost, kT_boli, kT_botu, kT_bodi, kT_inin, kT_inbo, kT_inst, kT_inli, kT_intu, kT_indi, kT_stin, kT_stbo, kT_stst, kT_stli, kT_sttu, kT_stdi, kT_liin, kT_libo, kT_list, kT_lili, kT_litu, kT_lidi, kT_tuin, kT_tubo, kT_tust, kT_tuli, kT_tutu, kT_tudi, kT_diin, kT_dibo, kT_dist, kT_dili, kT_ditu, kT_didi, rGet, getO_l, getO_t, getO_di, getO_ds, rLenX, lenX_r, lenX_s', lenO_l, lenO_t, lenO_d, Option.bind_some, tTruX, truX_n, truX_b, truX_i, truX_r, truO_l, truO_t, truO_d, rInX, rNotInX, inO_l', inO_t', inO_di, inO_ds, rSetX, setO_l, setO_di', setO_ds', rSlX, rListX, seqO_l, seqO_t, rTupX, gTupX, gCons, gNil, gSub, atI_0, atI_1, atI_2, atI_3, tDNewK, Nat.reduceSub, upd_same, upd_upd, Nat.reduceLT, HO.lst.injEq, HO.tup.injEq, HO.dK.injEq, HO.ins.injEq, Option.map_some, Option.isSome_some, Int.reduceEq, Int.reduceLT, Int.reduceLE, Nat.reduceAdd, List.isEmpty_nil, List.isEmpty_cons, ne_eq, not_false_eq_true, tDGs, sDPs, rIsB, rIsntB, tMeth, tMake, tDGet, sDPut, tFld, sFld, tDisp, tPairs, tNever, decide_true, decide_false, truV_bl, clsV_ty, V.ty.injEq, exists_eq', exists_eq, Bool.not_true, Bool.not_false, Bool.not_not, rLen, rListOf, rTupOf, rAny, rAll, rIsI, tTru, iRng1, iRng2, iList, tYes, cSt, List.drop_succ_cons, List.drop_zero, cxOf_K, cxC_K,  tBM, tBM0, rAppend, tSl, rSlL, tNoPart, tPart, rIxL, rIxT, rCat, List.cons.injEq, rEq_ii, rNe_ii, rEq_bb, rNe_bb, tSeq, exists_and_left, if_false, if_true, reduceIte, Bool.false_eq_true, tIfS, tAnd, tOr, tNot, tTest, tOp, tUn, tVar, tC, rI, rI0, rU, tRet, tRetN, tAsg, gName, tNext, tAndV, tOrV, tNotV, tIf, tCall, tCons, tNil, tCB, tDrop, tLst, tTup, tChain, L2.start, List.map_cons, List.map_nil, List.length_cons, List.length_nil, List.replicate, List.cons_append, List.nil_append, List.getElem?_cons_zero, List.getElem?_cons_succ, List.set_cons_zero, List.set_cons_succ, Option.some.injEq, exists_eq_left', exists_eq_left, V.int.injEq, V.bl.injEq, V.ref.injEq, V.str.injEq, exists_const, and_true, true_and, reduceCtorEq, false_and, exists_false, or_false, false_or, and_assoc, List.append_nil]
          have hRn : (outS 0 ((k, v :: vs') :: r)) = ([], (k, v :: vs') :: r) := rfl
          rw [hRn] at hRR
          subst hRR
          rw [List.append_nil] at q
          exact q p1 xs kvs2 H2 n1 e2 hxs G2 fr2 k2
        | succ j =>
          have hc : ((xs.length : Int) < (m : Int)) := by omega
          simp only [hc, decide_true, if_true]
          refine ⟨Wo C H x dx pr pk p1 pl kvs n m R j, fun σ' H' z => ⟨j, Nat.lt_succ_self j, z⟩, ?_⟩
          refine ⟨x, dx, pr, pk, pl, k, v, vs', r, kvs2, n, rfl, G2, hn, fun w kvs' H3 hw G3 fr3 k3 => ?_⟩
          have npr : p1 ≠ pr := Ne.symm (ne_of_none G.row n1)
          have npk : p1 ≠ pk := Ne.symm (ne_of_none G.kep n1)
          have e3 := k3 _ _ e2 (by simp; exact ⟨npr, npk⟩)
          refine ⟨xs, e3, by rw [sizeLine_eq]; omega, ?_⟩
          have kU : Keep [p1] H3 (upd H3 p1 (.lst (xs ++ [w]))) := Keep.refl.upd (.inl (.head _))
          have hnT : ∀ b ∈ [p1], NoT H3 b := noT1 (.of_lst e3)
          have ho3 : ∀ j p, valV kvs' (Sum.inl j) = some (.ref p) → p ≠ p1 := fun j p h => by
            rcases fr3 j p h with z | z
            · exact ho2 j p z
            · exact Ne.symm (ne_of_none e2 z)
          refine ⟨xs ++ [w], kvs', nextS k vs' r, i + 1, ini ++ [(k, v)], rfl, by omega, upd_same, ?_, by rw [List.length_append, hil]; rfl, ?_, G3.keep kU hnT (by simp; exact ne_of G3.ins e3 (by intro z; cases z)) (by simp; exact Ne.symm npr) (by simp; exact Ne.symm npk) (fun j p h => by simp; exact ho3 j p h), (fun j p h => ?_), ho3, ?_⟩
          · rw [List.map_append]
            exact (((hxs.keep k3 (noT_gate G2)).app (.one hw))).keep kU hnT
          · rw [← hRR]
            conv => rhs; unfold outS
            simp
          · rcases fr3 j p h with z | z
            · exact fr2 j p z
            · refine .inr (k2.free z ?_)
              simp only [List.mem_cons, List.not_mem_nil, or_false, not_or]
              exact ⟨Ne.symm (ne_of_none erow z), Ne.symm (ne_of_none G2.kep z)⟩
          · intro b o e hb'
            have nb : b ≠ p1 := ne_of_none e n1
            rw [upd_ne nb]
            exact k3 _ _ (k2 _ _ e hb') hb'
end
end K32
namespace K32
open PySem L2
section
variable {P : Program} {w : World} {K : PySem.W.Frag} {mg : Str → Option Value} {base : Heap} {C : Addr}
abbrev s__law_put : Stmt := top 7
theorem sc__law_put : FnScope ["_law_gate", "_law_key", "_law_number", "_law_waits", "_law_given_here", "_law_place"] ["_law_gate", "_law_key", "_law_number", "_law_waits", "_law_given_here"] (defScope s__law_put) := ⟨rfl, rfl, rfl, by decide +kernel, rfl, by decide +kernel, by decide +kernel⟩
abbrev s__law_given : Stmt := top 8
theorem sc__law_given : FnScope ["_law_found", "_law_waits", "_law_given_here", "_law_order", "_law_most", "_law_parcel", "_law_key", "_law_place", "_law_came", "_law_keys"] ["_law_found", "_law_waits", "_law_given_here", "_law_order", "_law_most"] (defScope s__law_given) := ⟨rfl, rfl, rfl, by decide +kernel, rfl, by decide +kernel, by decide +kernel⟩
/-! ### what the law keeps of them -/
def wkv (ws : List WR) : List (Key × V) := ws.map fun q => (Sum.inl q.num, V.ref q.addr)
structure Bk (H : Hp) (pw po : Addr) (ws : List WR) (okv : List (Key × V)) (S : Rw) (g : Int) (N : Nat) : Prop where
  wd : H pw = some (.dK (wkv ws))
  rcd : ∀ q ∈ ws, H q.addr = some (.lst [.int q.key, .int q.place, .int q.came, .int q.keys])
  an : (ws.map (·.addr)).Nodup
  pm : (ws.map (·.num)).Perm (allN S)
  un : (allN S).Nodup
  rs : ∀ q ∈ ws, Rec S g q
  od : H po = some (.dK okv)
  ov : ∀ k v, valV okv (Sum.inl k) = some v → ∃ z : Int, v = .int z ∧ z < N ∧ ∀ n ∈ nums S k, z < n
  ol : (okv.length : Int) ≤ g
  ns : ∀ k, (nums S k).Pairwise (· < ·) ∧ ∀ n ∈ nums S k, 0 ≤ n ∧ n < N
  ct : g + (allN S).length ≤ N
  ne : pw ≠ po
  ok : Ok S
  pb : ∀ q ∈ ws, 0 ≤ q.place ∧ q.place ≤ 2000
theorem Bk.keep {T : List Addr} {H H' : Hp} {pw po : Addr} {ws : List WR} {okv : List (Key × V)} {S : Rw} {g : Int} {N : Nat} (B : Bk H pw po ws okv S g N) (k : Keep T H H') (h1 : pw ∉ T) (h2 : po ∉ T) (h3 : ∀ q ∈ ws, q.addr ∉ T) : Bk H' pw po ws okv S g N :=
  ⟨k _ _ B.wd h1, fun q hq => k _ _ (B.rcd q hq) (h3 q hq), B.an, B.pm, B.un, B.rs, k _ _ B.od h2, B.ov, B.ol, B.ns, B.ct, B.ne, B.ok, B.pb⟩
theorem Bk.same {H H' : Hp} {pw po : Addr} {ws : List WR} {okv : List (Key × V)} {S : Rw} {g : Int} {N : Nat} (B : Bk H pw po ws okv S g N) (s : Same H H') : Bk H' pw po ws okv S g N := B.keep (T := []) s.keep (by simp) (by simp) (fun _ _ => by simp)
theorem valV_ws {v : Int} : ∀ {ws : List WR}, v ∈ ws.map (·.num) → ∃ q ∈ ws, q.num = v ∧ valV (wkv ws) (Sum.inl v) = some (.ref q.addr)
  | q :: r, h => by
    by_cases e : q.num = v
    · exact ⟨q, .head _, e, valV_pos (show Sum.inl q.num = Sum.inl v by rw [e])⟩
    · rw [List.map_cons, List.mem_cons] at h
      obtain ⟨q2, h1, h2, h3⟩ := valV_ws (ws := r) (h.resolve_left (Ne.symm e))
      exact ⟨q2, .tail _ h1, h2, by rw [show wkv (q :: r) = (Sum.inl q.num, V.ref q.addr) :: wkv r from rfl, valV_neg (fun z => e (Sum.inl.inj z))]; exact h3⟩
theorem valV_wn {v : Int} {ws : List WR} (h : v ∉ ws.map (·.num)) : valV (wkv ws) (Sum.inl v) = none := by
  induction ws with
  | nil => exact valV_nil
  | cons q r ih =>
    rw [List.map_cons, List.mem_cons, not_or] at h
    rw [show wkv (q :: r) = (Sum.inl q.num, V.ref q.addr) :: wkv r from rfl, valV_neg (fun z => h.1 (Sum.inl.inj z).symm)]
    exact ih h.2
theorem drop_ws {v : Int} : ∀ {ws : List WR}, dropK (wkv ws) (Sum.inl v) = wkv (ws.filter fun q => !decide (q.num = v))
  | [] => rfl
  | q :: r => by
    by_cases e : q.num = v
    · rw [show wkv (q :: r) = (Sum.inl q.num, V.ref q.addr) :: wkv r from rfl, dropK_pos (show Sum.inl q.num = Sum.inl v by rw [e]), List.filter_cons_of_neg (by simp [e])]
      exact drop_ws
    · rw [show wkv (q :: r) = (Sum.inl q.num, V.ref q.addr) :: wkv r from rfl, dropK_neg (fun z => e (Sum.inl.inj z)), List.filter_cons_of_pos (by simp [e]), drop_ws]
      rfl
theorem filter_map_num {v : Int} : ∀ {ws : List WR}, (ws.filter fun q => !decide (q.num = v)).map (·.num) = (ws.map (·.num)).filter fun n => !decide (n = v)
  | [] => rfl
  | q :: r => by
    by_cases e : q.num = v
    · rw [List.filter_cons_of_neg (by simp [e]), List.map_cons, List.filter_cons_of_neg (by simp [e]), filter_map_num]
    · rw [List.filter_cons_of_pos (by simp [e]), List.map_cons, List.map_cons, List.filter_cons_of_pos (by simp [e]), filter_map_num]
theorem perm_drop {v : Int} {l m : List Int} (h : l.Perm (v :: m)) (hn : (v :: m).Nodup) : (l.filter fun n => !decide (n = v)).Perm m := by
  have h1 := h.filter fun n => !decide (n = v)
  rw [List.filter_cons_of_neg (by simp)] at h1
  have h2 : m.filter (fun n => !decide (n = v)) = m := by
    rw [List.filter_eq_self]
    intro a ha
    have : a ≠ v := fun z => (List.nodup_cons.mp hn).1 (z ▸ ha)
    simp [this]
  rw [h2] at h1
  exact h1
/-! ### given -/
def sp_given : Sp := fun vs H Q _ => ∃ (pf pw po : Addr) (g : Int) (xs : List V) (ws : List WR) (okv : List (Key × V)) (S : Rw) (N m : Nat), vs = [.ref pf, .ref pw, .int g, .ref po, .int 0] ∧ H pf = some (.lst xs) ∧ Ims H xs ((outS m S).1.map fun q => pcl q.1 q.2) ∧ Bk H pw po ws okv S g N ∧ (∀ q ∈ ws, (S.length : Int) ≤ q.keys) ∧ N ≤ 1000 ∧ 0 ≤ g ∧
  ∀ ws' okv' H', Bk H' pw po ws' okv' (outS m S).2 (g + (outS m S).1.length) N → (∀ q ∈ ws', q ∈ ws) → Keep [pw, po] H H' → Q (.int (g + (outS m S).1.length)) H'
def Lg (H : Hp) (pf pw po : Addr) (g : Int) (xs : List V) (ws0 : List WR) (N : Nat) (R : List (Int × Int) × Rw) (i : Nat) (σ : St) (H' : Hp) : Prop := ∃ (ws : List WR) (okv : List (Key × V)) (S : Rw) (j : Nat) (v5 v6 v7 v8 v9 : Option V), σ = [some (.ref pf), some (.ref pw), some (.int (g + i)), some (.ref po), some (.int 0), v5, v6, v7, v8, v9] ∧ H' pf = some (.lst xs) ∧ outS j S = (R.1.drop i, R.2) ∧ Bk H' pw po ws okv S (g + i) N ∧ (∀ q ∈ ws, (S.length : Int) ≤ q.keys) ∧ (∀ q ∈ ws, q ∈ ws0) ∧ Keep [pw, po] H H'
theorem im_pcl {H : Hp} {v : V} {k n : Int} (h : Im H v (pcl k n)) : ∃ p p2, v = .ref p ∧ H p = some (.tup [.int 0, .int k, .int 9, .ref p2]) ∧ H p2 = some (.tup [.str "got", .int n]) := by
  unfold pcl at h
  cases h with
  | @tup p xs ds e hx hl =>
    cases hx with
    | cons r1 hx =>
      cases r1
      cases hx with
      | cons r2 hx =>
        cases r2
        cases hx with
        | cons r3 hx =>
          cases r3
          cases hx with
          | cons r4 hx =>
            cases hx
            cases r4 with
            | @tup p2 ys es e2 hy hl2 =>
              cases hy with
              | cons t1 hy =>
                cases t1
                cases hy with
                | cons t2 hy =>
                  cases t2
                  cases hy
                  exact ⟨p, p2, rfl, e, e2⟩
theorem pairwise_head {v : Int} {vs : List Int} (h : (v :: vs).Pairwise (· < ·)) : ∀ n ∈ vs, v < n := (List.pairwise_cons.mp h).1
set_option maxHeartbeats 4000000 in
theorem own_given (D : Def K mg "_law_given" s__law_given) (hb : Blt mg) : Own P w K mg base 1 "_law_given" ["_law_found", "_law_waits", "_law_given_here", "_law_order", "_law_most"] sp_given := by
  refine D.own sc__law_given (fun _ _ _ _ _ _ us hl => match us, hl with | [_, _, _, _, _], _ => rfl) (fun vs H Q E h => ?_) (fun f cdv A outer s H vs Q E hr h => ?_)
  · obtain ⟨pf, pw, po, g, xs, ws, okv, S, N, m, rfl, _⟩ := h
    rfl
  · obtain ⟨pf, pw, po, g, xs, ws, okv, S, N, m, rfl, ef, hxs, B, hset, hN, g0, q⟩ := h
    have hu := hr.units
    have hu1 : (A.deeper (PyProof.Rows.envOfC "_law_given" (defScope s__law_given) s.heap.objs.size f cdv)).units + 1 < cLine := by omega
    refine ⟨_, (@pss_cons _ _ _ _ _ (@ps_for _ _ _ _ _ _ _ _ PassesOwn.never rfl (@pi_listK _ K _ _ _ (@pv _ 0 _ _ (by rfl) (by first | exact Or.inl rfl | exact Or.inr (Or.inl rfl) | exact Or.inr (Or.inr rfl)) (by decide) (by decide)) (by rfl)) (@pg_name _ _ 5 _ sc__law_given.nd rfl (by first | exact Or.inl rfl | exact Or.inr rfl) (by first | exact .inl rfl | exact .inr rfl | assumption)) (@pss_cons _ _ _ _ _ (@ps_set _ _ 2 _ _ _ _ sc__law_given.nd rfl (by first | exact Or.inl rfl | exact Or.inr rfl) (@pe_op _ _ _ _ _ _ _ _ op_add (@pv _ 2 _ _ (by rfl) (by first | exact Or.inl rfl | exact Or.inr (Or.inl rfl) | exact Or.inr (Or.inr rfl)) (by decide) (by decide)) (@pe_int _ _ _ _)) (by rfl) (by first | exact .inl rfl | exact .inr rfl | assumption)) (@pss_cons _ _ _ _ _ (@ps_asg _ _ _ _ _ _ (pe_dpX1 (@pv _ 1 _ _ (by rfl) (by first | exact Or.inl rfl | exact Or.inr (Or.inl rfl) | exact Or.inr (Or.inr rfl)) (by decide) (by decide)) (@pe_ix _ _ _ _ _ _ _ (ix_get hu1) (@pe_ix _ _ _ _ _ _ _ (ix_get hu1) (@pv _ 5 _ _ (by rfl) (by first | exact Or.inl rfl | exact Or.inr (Or.inl rfl) | exact Or.inr (Or.inr rfl)) (by decide) (by decide)) (@pe_int _ _ _ _) (fun _ _ => rfl)) (@pe_int _ _ _ _) (fun _ _ => rfl)) (by constructor <;> rfl)) (@pg_seqX _ _ _ _ 4 _ rfl (@pgs_cons _ _ _ _ _ (@pg_name _ _ 6 _ sc__law_given.nd rfl (by first | exact Or.inl rfl | exact Or.inr rfl) (by first | exact .inl rfl | exact .inr rfl | assumption)) (@pgs_cons _ _ _ _ _ (@pg_name _ _ 7 _ sc__law_given.nd rfl (by first | exact Or.inl rfl | exact Or.inr rfl) (by first | exact .inl rfl | exact .inr rfl | assumption)) (@pgs_cons _ _ _ _ _ (@pg_name _ _ 8 _ sc__law_given.nd rfl (by first | exact Or.inl rfl | exact Or.inr rfl) (by first | exact .inl rfl | exact .inr rfl | assumption)) (@pgs_cons _ _ _ _ _ (@pg_name _ _ 9 _ sc__law_given.nd rfl (by first | exact Or.inl rfl | exact Or.inr rfl) (by first | exact .inl rfl | exact .inr rfl | assumption)) (@pgs_nil _) (by rfl)) (by rfl)) (by rfl)) (by rfl)) (by rfl) (by rfl)) (by rfl) (by rfl) (by rfl)) (@pss_cons _ _ _ _ _ (@ps_if _ _ _ _ _ _ _ _ (@PW.pt _ _ _ (@pw_or _ _ _ _ _ _ _ (@pt_cmpR _ _ _ _ _ _ _ _ op_ne (@pe_ix _ _ _ _ _ _ _ (ix_get hu1) (@pv _ 5 _ _ (by rfl) (by first | exact Or.inl rfl | exact Or.inr (Or.inl rfl) | exact Or.inr (Or.inr rfl)) (by decide) (by decide)) (@pe_int _ _ _ _) (fun _ _ => rfl)) (@pv _ 6 _ _ (by rfl) (by first | exact Or.inl rfl | exact Or.inr (Or.inl rfl) | exact Or.inr (Or.inr rfl)) (by decide) (by decide)) (nomark _)) (@pw_or1 _ _ _ _ (@pt_cmpR _ _ _ _ _ _ _ _ op_gt (@pe_op _ _ _ _ _ _ _ _ op_sub (@pv _ 2 _ _ (by rfl) (by first | exact Or.inl rfl | exact Or.inr (Or.inl rfl) | exact Or.inr (Or.inr rfl)) (by decide) (by decide)) (@pv _ 8 _ _ (by rfl) (by first | exact Or.inl rfl | exact Or.inr (Or.inl rfl) | exact Or.inr (Or.inr rfl)) (by decide) (by decide))) (@pe_op _ _ _ _ _ _ _ _ op_mul (@pv _ 7 _ _ (by rfl) (by first | exact Or.inl rfl | exact Or.inr (Or.inl rfl) | exact Or.inr (Or.inr rfl)) (by decide) (by decide)) (@pe_callB _ _ _ _ _ _ _ _ _ (call_max2 rfl) rfl (hb _ (by decide)) bt_max (@pa_cX _ _ _ _ _ (@pv _ 9 _ _ (by rfl) (by first | exact Or.inl rfl | exact Or.inr (Or.inl rfl) | exact Or.inr (Or.inr rfl)) (by decide) (by decide)) (@pa_cX _ _ _ _ _ (@pv _ 4 _ _ (by rfl) (by first | exact Or.inl rfl | exact Or.inr (Or.inl rfl) | exact Or.inr (Or.inr rfl)) (by decide) (by decide)) (@pa_nil _) (by rfl)) (by rfl)) (by decide) (by decide) (by rfl) (by rfl))) (nomark _))))) (@pss_one _ _ _ (@ps_ret _ _ _ _ (@pe_non _ _ _))) (@pss_nil _)) (@pss_cons _ _ _ _ _ (@ps_if _ _ _ _ _ _ _ _ (@pt_cmpR _ _ _ _ _ _ _ _ op_gt (pe_dgX2 hu1 (@pv _ 3 _ _ (by rfl) (by first | exact Or.inl rfl | exact Or.inr (Or.inl rfl) | exact Or.inr (Or.inr rfl)) (by decide) (by decide)) (@pv _ 6 _ _ (by rfl) (by first | exact Or.inl rfl | exact Or.inr (Or.inl rfl) | exact Or.inr (Or.inr rfl)) (by decide) (by decide)) (@pe_un _ _ _ _ _ _ un_neg (@pe_int _ _ _ _)) (by constructor <;> rfl)) (@pe_ix _ _ _ _ _ _ _ (ix_get hu1) (@pe_ix _ _ _ _ _ _ _ (ix_get hu1) (@pv _ 5 _ _ (by rfl) (by first | exact Or.inl rfl | exact Or.inr (Or.inl rfl) | exact Or.inr (Or.inr rfl)) (by decide) (by decide)) (@pe_int _ _ _ _) (fun _ _ => rfl)) (@pe_int _ _ _ _) (fun _ _ => rfl)) (nomark _)) (@pss_one _ _ _ (@ps_ret _ _ _ _ (@pe_non _ _ _))) (@pss_nil _)) (@pss_one _ _ _ (@ps_asg _ _ _ _ _ _ (@pe_ix _ _ _ _ _ _ _ (ix_get hu1) (@pe_ix _ _ _ _ _ _ _ (ix_get hu1) (@pv _ 5 _ _ (by rfl) (by first | exact Or.inl rfl | exact Or.inr (Or.inl rfl) | exact Or.inr (Or.inr rfl)) (by decide) (by decide)) (@pe_int _ _ _ _) (fun _ _ => rfl)) (@pe_int _ _ _ _) (fun _ _ => rfl)) (@pg_sub _ _ _ _ _ _ _ (@pv _ 3 _ _ (by rfl) (by first | exact Or.inl rfl | exact Or.inr (Or.inl rfl) | exact Or.inr (Or.inr rfl)) (by decide) (by decide)) (@pv _ 6 _ _ (by rfl) (by first | exact Or.inl rfl | exact Or.inr (Or.inl rfl) | exact Or.inr (Or.inr rfl)) (by decide) (by decide)) (@set_x _ hu1) (by intro _; rfl)) (by rfl) (by rfl) (by rfl))))))) (by intro _; rfl)) (@pss_one _ _ _ (@ps_ret _ _ _ _ (@pv _ 2 _ _ (by rfl) (by first | exact Or.inl rfl | exact Or.inr (Or.inl rfl) | exact Or.inr (Or.inr rfl)) (by decide) (by decide))))), ?_⟩
    generalize hR : outS m S = R at q hxs
    have hxl : xs.length = R.1.length := by have := hxs.len; rw [List.length_map] at this; exact this
    simp (maxSteps := 1000000) only [tFor_eq, tComp_eq, rRngs, rListR, HO.rng.injEq, tDKeys, rSortL, rSortK, ixN_10, ixN_20, ixN_21, ixN_30, ixN_31, ixN_32, ixN_40, ixN_41, ixN_42, ixN_43, ixN_50, ixN_51, ixN_52, ixN_53, ixN_54, rNe_nn, rEq_nn, rNe_in, rEq_in, rNe_ni, rEq_ni, gSeqX, rLeS, rEq_ss, rNe_ss, rStr1, rAllX, rAnyX, rListD, iStr, rSumX, tBL, tBL0, rExtend, rPopAt, rPop, rReverse, rClear, rIsIX, tyX_n, tyX_b, tyX_i, tyX_s, tyX_r, tyO_l, tyO_t, tyO_d, V.ty.injEq, kT_Noin, kT_Nobo, kT_Nost, kT_Noli, kT_Notu, kT_Nodi, kT_boin, kT_bobo, kT_bost, kT_boli, kT_botu, kT_bodi, kT_inin, kT_inbo, kT_inst, kT_inli, kT_intu, kT_indi, kT_stin, kT_stbo, kT_stst, kT_stli, kT_sttu, kT_stdi, kT_liin, kT_libo, kT_list, kT_lili, kT_litu, kT_lidi, kT_tuin, kT_tubo, kT_tust, kT_tuli, kT_tutu, kT_tudi, kT_diin, kT_dibo, kT_dist, kT_dili, kT_ditu, kT_didi, rGet, getO_l, getO_t, getO_di, getO_ds, rLenX, lenX_r, lenX_s', lenO_l, lenO_t, lenO_d, Option.bind_some, tTruX, truX_n, truX_b, truX_i, truX_r, truO_l, truO_t, truO_d, rInX, rNotInX, inO_l', inO_t', inO_di, inO_ds, rSetX, setO_l, setO_di', setO_ds', rSlX, rListX, seqO_l, seqO_t, rTupX, gTupX, gCons, gNil, gSub, atI_0, atI_1, atI_2, atI_3, tDNewK, Nat.reduceSub, upd_same, upd_upd, Nat.reduceLT, HO.lst.injEq, HO.tup.injEq, HO.dK.injEq, HO.ins.injEq, Option.map_some, Option.isSome_some, Int.reduceEq, Int.reduceLT, Int.reduceLE, Nat.reduceAdd, List.isEmpty_nil, List.isEmpty_cons, ne_eq, not_false_eq_true, tDGs, sDPs, rIsB, rIsntB, tMeth, tMake, tDGet, sDPut, tFld, sFld, tDisp, tPairs, tNever, decide_true, decide_false, truV_bl, clsV_ty, V.ty.injEq, exists_eq', exists_eq, Bool.not_true, Bool.not_false, Bool.not_not, rLen, rListOf, rTupOf, rAny, rAll, rIsI, tTru, iRng1, iRng2, iList, tYes, cSt, List.drop_succ_cons, List.drop_zero, cxOf_K, cxC_K,  tBM, tBM0, rAppend, tSl, rSlL, tNoPart, tPart, rIxL, rIxT, rCat, List.cons.injEq, rEq_ii, rNe_ii, rEq_bb, rNe_bb, tSeq, exists_and_left, if_false, if_true, reduceIte, Bool.false_eq_true, tIfS, tAnd, tOr, tNot, tTest, tOp, tUn, tVar, tC, rI, rI0, rU, tRet, tRetN, tAsg, gName, tNext, tAndV, tOrV, tNotV, tIf, tCall, tCons, tNil, tCB, tDrop, tLst, tTup, tChain, L2.start, List.map_cons, List.map_nil, List.length_cons, List.length_nil, List.replicate, List.cons_append, List.nil_append, List.getElem?_cons_zero, List.getElem?_cons_succ, List.set_cons_zero, List.set_cons_succ, Option.some.injEq, exists_eq_left', exists_eq_left, V.int.injEq, V.bl.injEq, V.ref.injEq, V.str.injEq, exists_const, and_true, true_and, reduceCtorEq, false_and, exists_false, or_false, false_or, and_assoc, List.append_nil, ef]
    refine ⟨⟨_, SqL.of ef⟩, for_list (xs := xs) (Lg H pf pw po g xs ws N R) ⟨ws, okv, S, m, none, none, none, none, none, by simp, ef, by rw [hR]; simp, by simpa using B, hset, fun q hq => hq, Keep.refl⟩ ?_ ?_ ?_⟩
    · rintro i σ H' hi ⟨ws2, okv2, S2, j, v5, v6, v7, v8, v9, rfl, ef2, hj, B2, hs2, hw2, k2⟩
      exact SqL.of ef2
    · rintro i pv σ H2 hpv ⟨ws2, okv2, S2, j, v5, v6, v7, v8, v9, rfl, ef2, hj, B2, hs2, hw2, k2⟩
      have hi : i < R.1.length := by rw [← hxl]; exact (List.getElem?_eq_some_iff.mp hpv).1
      obtain ⟨dd, hdd, him⟩ := hxs.get hpv
      rw [List.getElem?_map, List.getElem?_eq_getElem hi] at hdd
      cases hdd
      have hdrop : R.1.drop i = R.1[i] :: R.1.drop (i + 1) := List.drop_eq_getElem_cons hi
      rw [hdrop] at hj
      generalize R.1[i] = kv at him hj
      obtain ⟨k, v⟩ := kv
      obtain ⟨j', vs, r, rfl, rfl, hj'⟩ : ∃ j' vs r, j = j' + 1 ∧ S2 = (k, v :: vs) :: r ∧ outS j' (nextS k vs r) = (R.1.drop (i + 1), R.2) := by
        cases j with
        | zero => simp [outS] at hj
        | succ j' =>
          cases S2 with
          | nil => simp [outS] at hj
          | cons a r =>
            obtain ⟨k2, vs2⟩ := a
            cases vs2 with
            | nil => simp [outS] at hj
            | cons v2 vs =>
              unfold outS at hj
              injection hj with h1 h2
              injection h1 with h3 h4
              cases h3
              exact ⟨j', vs, r, rfl, rfl, Prod.ext h4 h2⟩
      have hnT : ∀ b ∈ [pw, po], NoT H b := fun b hb' => by
        simp only [List.mem_cons, List.not_mem_nil, or_false] at hb'
        rcases hb' with rfl | rfl
        · exact .of_dK B.wd
        · exact .of_dK B.od
      obtain ⟨pp, pp2, rfl, epp, epp2⟩ := im_pcl (him.keep k2 hnT)
      have hv : v ∈ allN ((k, v :: vs) :: r) := by simp [allN]
      obtain ⟨q0, hq0, hqn, hqv⟩ := valV_ws (ws := ws2) (v := v) (B2.pm.mem_iff.mpr hv)
      obtain ⟨hgv, hgo⟩ := (B2.rs q0 hq0).give B2.ok B2.un (hs2 q0 hq0)
      obtain ⟨hqk, hbd⟩ := hgv hqn
      have erec := B2.rcd q0 hq0
      have hpb := B2.pb q0 hq0
      have ewd := B2.wd
      have eod := B2.od
      have nwo := B2.ne
      have nwl : q0.addr ≠ pw := ne_of erec ewd (by intro z; cases z)
      have nol : q0.addr ≠ po := ne_of erec eod (by intro z; cases z)
      have epw := ne_of epp ewd (by intro z; cases z)
      have epo := ne_of epp eod (by intro z; cases z)
      have ep2w := ne_of epp2 ewd (by intro z; cases z)
      have ep2o := ne_of epp2 eod (by intro z; cases z)
      simp (maxSteps := 1000000) only [tFor_eq, tComp_eq, rRngs, rListR, HO.rng.injEq, tDKeys, rSortL, rSortK, ixN_10, ixN_20, ixN_21, ixN_30, ixN_31, ixN_32, ixN_40, ixN_41, ixN_42, ixN_43, ixN_50, ixN_51, ixN_52, ixN_53, ixN_54, rNe_nn, rEq_nn, rNe_in, rEq_in, rNe_ni, rEq_ni, gSeqX, rLeS, rEq_ss, rNe_ss, rStr1, rAllX, rAnyX, rListD, iStr, rSumX, tBL, tBL0, rExtend, rPopAt, rPop, rReverse, rClear, rIsIX, tyX_n, tyX_b, tyX_i, tyX_s, tyX_r, tyO_l, tyO_t, tyO_d, V.ty.injEq, kT_Noin, kT_Nobo, kT_Nost, kT_Noli, kT_Notu, kT_Nodi, kT_boin, kT_bobo, kT_bost, kT_boli, kT_botu, kT_bodi, kT_inin, kT_inbo, kT_inst, kT_inli, kT_intu, kT_indi, kT_stin, kT_stbo, kT_stst, kT_stli, kT_sttu, kT_stdi, kT_liin, kT_libo, kT_list, kT_lili, kT_litu, kT_lidi, kT_tuin, kT_tubo, kT_tust, kT_tuli, kT_tutu, kT_tudi, kT_diin, kT_dibo, kT_dist, kT_dili, kT_ditu, kT_didi, rGet, getO_l, getO_t, getO_di, getO_ds, rLenX, lenX_r, lenX_s', lenO_l, lenO_t, lenO_d, Option.bind_some, tTruX, truX_n, truX_b, truX_i, truX_r, truO_l, truO_t, truO_d, rInX, rNotInX, inO_l', inO_t', inO_di, inO_ds, rSetX, setO_l, setO_di', setO_ds', rSlX, rListX, seqO_l, seqO_t, rTupX, gTupX, gCons, gNil, gSub, atI_0, atI_1, atI_2, atI_3, tDNewK, Nat.reduceSub, upd_same, upd_upd, Nat.reduceLT, HO.lst.injEq, HO.tup.injEq, HO.dK.injEq, HO.ins.injEq, Option.map_some, Option.isSome_some, Int.reduceEq, Int.reduceLT, Int.reduceLE, Nat.reduceAdd, List.isEmpty_nil, List.isEmpty_cons, ne_eq, not_false_eq_true, tDGs, sDPs, rIsB, rIsntB, tMeth, tMake, tDGet, sDPut, tFld, sFld, tDisp, tPairs, tNever, decide_true, decide_false, truV_bl, clsV_ty, V.ty.injEq, exists_eq', exists_eq, Bool.not_true, Bool.not_false, Bool.not_not, rLen, rListOf, rTupOf, rAny, rAll, rIsI, tTru, iRng1, iRng2, iList, tYes, cSt, List.drop_succ_cons, List.drop_zero, cxOf_K, cxC_K,  tBM, tBM0, rAppend, tSl, rSlL, tNoPart, tPart, rIxL, rIxT, rCat, List.cons.injEq, rEq_ii, rNe_ii, rEq_bb, rNe_bb, tSeq, exists_and_left, if_false, if_true, reduceIte, Bool.false_eq_true, tIfS, tAnd, tOr, tNot, tTest, tOp, tUn, tVar, tC, rI, rI0, rU, tRet, tRetN, tAsg, gName, tNext, tAndV, tOrV, tNotV, tIf, tCall, tCons, tNil, tCB, tDrop, tLst, tTup, tChain, L2.start, List.map_cons, List.map_nil, List.length_cons, List.length_nil, List.replicate, List.cons_append, List.nil_append, List.getElem?_cons_zero, List.getElem?_cons_succ, List.set_cons_zero, List.set_cons_succ, Option.some.injEq, exists_eq_left', exists_eq_left, V.int.injEq, V.bl.injEq, V.ref.injEq, V.str.injEq, exists_const, and_true, true_and, reduceCtorEq, false_and, exists_false, or_false, false_or, and_assoc, List.append_nil, epp, epp2, ewd, tDPX1, keyV_i, hqv]
      generalize zA : upd H2 pw _ = H3
      have kA : Keep [pw] H2 H3 := by rw [← zA]; exact Keep.refl.upd (.inl (.head _))
      have eA := (congrFun zA.symm pw).trans upd_same
      have er3 := kA _ _ erec (by simp; exact nwl)
      have epp3 := kA _ _ epp (by simp; exact epw)
      have epp23 := kA _ _ epp2 (by simp; exact ep2w)
      have eod3 := kA _ _ eod (by simp; exact Ne.symm nwo)
      simp (maxSteps := 1000000) only [tFor_eq, tComp_eq, rRngs, rListR, HO.rng.injEq, tDKeys, rSortL, rSortK, ixN_10, ixN_20, ixN_21, ixN_30, ixN_31, ixN_32, ixN_40, ixN_41, ixN_42, ixN_43, ixN_50, ixN_51, ixN_52, ixN_53, ixN_54, rNe_nn, rEq_nn, rNe_in, rEq_in, rNe_ni, rEq_ni, gSeqX, rLeS, rEq_ss, rNe_ss, rStr1, rAllX, rAnyX, rListD, iStr, rSumX, tBL, tBL0, rExtend, rPopAt, rPop, rReverse, rClear, rIsIX, tyX_n, tyX_b, tyX_i, tyX_s, tyX_r, tyO_l, tyO_t, tyO_d, V.ty.injEq, kT_Noin, kT_Nobo, kT_Nost, kT_Noli, kT_Notu, kT_Nodi, kT_boin, kT_bobo, kT_bost, kT_boli, kT_botu, kT_bodi, kT_inin, kT_inbo, kT_inst, kT_inli, kT_intu, kT_indi, kT_stin, kT_stbo, kT_stst, kT_stli, kT_sttu, kT_stdi, kT_liin, kT_libo, kT_list, kT_lili, kT_litu, kT_lidi, kT_tuin, kT_tubo, kT_tust, kT_tuli, kT_tutu, kT_tudi, kT_diin, kT_dibo, kT_dist, kT_dili, kT_ditu, kT_didi, rGet, getO_l, getO_t, getO_di, getO_ds, rLenX, lenX_r, lenX_s', lenO_l, lenO_t, lenO_d, Option.bind_some, tTruX, truX_n, truX_b, truX_i, truX_r, truO_l, truO_t, truO_d, rInX, rNotInX, inO_l', inO_t', inO_di, inO_ds, rSetX, setO_l, setO_di', setO_ds', rSlX, rListX, seqO_l, seqO_t, rTupX, gTupX, gCons, gNil, gSub, atI_0, atI_1, atI_2, atI_3, tDNewK, Nat.reduceSub, upd_same, upd_upd, Nat.reduceLT, HO.lst.injEq, HO.tup.injEq, HO.dK.injEq, HO.ins.injEq, Option.map_some, Option.isSome_some, Int.reduceEq, Int.reduceLT, Int.reduceLE, Nat.reduceAdd, List.isEmpty_nil, List.isEmpty_cons, ne_eq, not_false_eq_true, tDGs, sDPs, rIsB, rIsntB, tMeth, tMake, tDGet, sDPut, tFld, sFld, tDisp, tPairs, tNever, decide_true, decide_false, truV_bl, clsV_ty, V.ty.injEq, exists_eq', exists_eq, Bool.not_true, Bool.not_false, Bool.not_not, rLen, rListOf, rTupOf, rAny, rAll, rIsI, tTru, iRng1, iRng2, iList, tYes, cSt, List.drop_succ_cons, List.drop_zero, cxOf_K, cxC_K,  tBM, tBM0, rAppend, tSl, rSlL, tNoPart, tPart, rIxL, rIxT, rCat, List.cons.injEq, rEq_ii, rNe_ii, rEq_bb, rNe_bb, tSeq, exists_and_left, if_false, if_true, reduceIte, Bool.false_eq_true, tIfS, tAnd, tOr, tNot, tTest, tOp, tUn, tVar, tC, rI, rI0, rU, tRet, tRetN, tAsg, gName, tNext, tAndV, tOrV, tNotV, tIf, tCall, tCons, tNil, tCB, tDrop, tLst, tTup, tChain, L2.start, List.map_cons, List.map_nil, List.length_cons, List.length_nil, List.replicate, List.cons_append, List.nil_append, List.getElem?_cons_zero, List.getElem?_cons_succ, List.set_cons_zero, List.set_cons_succ, Option.some.injEq, exists_eq_left', exists_eq_left, V.int.injEq, V.bl.injEq, V.ref.injEq, V.str.injEq, exists_const, and_true, true_and, reduceCtorEq, false_and, exists_false, or_false, false_or, and_assoc, List.append_nil, er3, epp3, hqk]
      have hk0 := (B2.rs q0 hq0).k0
      have hmx : (if (0 : Int) > q0.keys then (0 : Int) else q0.keys) = q0.keys := if_neg (by omega)
      rw [hmx]
      have hbd2 : ¬ (q0.place * q0.keys < g + (i : Int) + 1 - q0.came) := by
        have : g + (i : Int) + 1 - q0.came ≤ q0.place * q0.keys := hbd
        omega
      refine ⟨.inl ⟨by omega, by omega⟩, ?_⟩
      simp only [hbd2, decide_false, Bool.false_eq_true, if_false]
      have hvk : v ∈ nums ((k, v :: vs) :: r) k := by rw [nums_cons, if_pos rfl]; exact .head _
      obtain ⟨z, hz, hzv⟩ : ∃ z : Int, (valV okv2 (Sum.inl k)).getD (.int (-1)) = .int z ∧ ¬ (v < z) := by
        cases hval : valV okv2 (Sum.inl k) with
        | none =>
          have := ((B2.ns k).2 v hvk).1
          exact ⟨-1, rfl, by omega⟩
        | some u =>
          obtain ⟨z, rfl, _, h3⟩ := B2.ov k u hval
          have := h3 v hvk
          exact ⟨z, rfl, by omega⟩
      have hoL : okv2.length < sizeLine := by
        have := B2.ol
        have := B2.ct
        rw [sizeLine_eq]; omega
      simp (maxSteps := 1000000) only [tFor_eq, tComp_eq, rRngs, rListR, HO.rng.injEq, tDKeys, rSortL, rSortK, ixN_10, ixN_20, ixN_21, ixN_30, ixN_31, ixN_32, ixN_40, ixN_41, ixN_42, ixN_43, ixN_50, ixN_51, ixN_52, ixN_53, ixN_54, rNe_nn, rEq_nn, rNe_in, rEq_in, rNe_ni, rEq_ni, gSeqX, rLeS, rEq_ss, rNe_ss, rStr1, rAllX, rAnyX, rListD, iStr, rSumX, tBL, tBL0, rExtend, rPopAt, rPop, rReverse, rClear, rIsIX, tyX_n, tyX_b, tyX_i, tyX_s, tyX_r, tyO_l, tyO_t, tyO_d, V.ty.injEq, kT_Noin, kT_Nobo, kT_Nost, kT_Noli, kT_Notu, kT_Nodi, kT_boin, kT_bobo, kT_bost, kT_boli, kT_botu, kT_bodi, kT_inin, kT_inbo, kT_inst, kT_inli, kT_intu, kT_indi, kT_stin, kT_stbo, kT_stst, kT_stli, kT_sttu, kT_stdi, kT_liin, kT_libo, kT_list, kT_lili, kT_litu, kT_lidi, kT_tuin, kT_tubo, kT_tust, kT_tuli, kT_tutu, kT_tudi, kT_diin, kT_dibo, kT_dist, kT_dili, kT_ditu, kT_didi, rGet, getO_l, getO_t, getO_di, getO_ds, rLenX, lenX_r, lenX_s', lenO_l, lenO_t, lenO_d, Option.bind_some, tTruX, truX_n, truX_b, truX_i, truX_r, truO_l, truO_t, truO_d, rInX, rNotInX, inO_l', inO_t', inO_di, inO_ds, rSetX, setO_l, setO_di', setO_ds', rSlX, rListX, seqO_l, seqO_t, rTupX, gTupX, gCons, gNil, gSub, atI_0, atI_1, atI_2, atI_3, tDNewK, Nat.reduceSub, upd_same, upd_upd, Nat.reduceLT, HO.lst.injEq, HO.tup.injEq, HO.dK.injEq, HO.ins.injEq, Option.map_some, Option.isSome_some, Int.reduceEq, Int.reduceLT, Int.reduceLE, Nat.reduceAdd, List.isEmpty_nil, List.isEmpty_cons, ne_eq, not_false_eq_true, tDGs, sDPs, rIsB, rIsntB, tMeth, tMake, tDGet, sDPut, tFld, sFld, tDisp, tPairs, tNever, decide_true, decide_false, truV_bl, clsV_ty, V.ty.injEq, exists_eq', exists_eq, Bool.not_true, Bool.not_false, Bool.not_not, rLen, rListOf, rTupOf, rAny, rAll, rIsI, tTru, iRng1, iRng2, iList, tYes, cSt, List.drop_succ_cons, List.drop_zero, cxOf_K, cxC_K,  tBM, tBM0, rAppend, tSl, rSlL, tNoPart, tPart, rIxL, rIxT, rCat, List.cons.injEq, rEq_ii, rNe_ii, rEq_bb, rNe_bb, tSeq, exists_and_left, if_false, if_true, reduceIte, Bool.false_eq_true, tIfS, tAnd, tOr, tNot, tTest, tOp, tUn, tVar, tC, rI, rI0, rU, tRet, tRetN, tAsg, gName, tNext, tAndV, tOrV, tNotV, tIf, tCall, tCons, tNil, tCB, tDrop, tLst, tTup, tChain, L2.start, List.map_cons, List.map_nil, List.length_cons, List.length_nil, List.replicate, List.cons_append, List.nil_append, List.getElem?_cons_zero, List.getElem?_cons_succ, List.set_cons_zero, List.set_cons_succ, Option.some.injEq, exists_eq_left', exists_eq_left, V.int.injEq, V.bl.injEq, V.ref.injEq, V.str.injEq, exists_const, and_true, true_and, reduceCtorEq, false_and, exists_false, or_false, false_or, and_assoc, List.append_nil, tDGX2, eod3, keyV_i, hz, epp3, epp23, hzv, hoL]
      have n1 := (B2.ns k).1
      rw [nums_cons, if_pos rfl] at n1
      have kB : Keep [po] H3 (upd H3 po (.dK (putK okv2 (Sum.inl k) (.int v)))) := Keep.refl.upd (.inl (.head _))
      have hper := nextS_perm (k := k) (v := v) (vs := vs) (r := r)
      have hnd2 : (v :: allN (nextS k vs r)).Nodup := hper.nodup_iff.mp B2.un
      have hsub : ∀ q ∈ ws2.filter (fun q => !decide (q.num = v)), q ∈ ws2 ∧ q.num ≠ v := fun q hq => by
        obtain ⟨h1, h2⟩ := List.mem_filter.mp hq
        exact ⟨h1, fun z => by simp [z] at h2⟩
      have kF : Keep [pw, po] H2 (upd H3 po (.dK (putK okv2 (Sum.inl k) (.int v)))) := fun b o e hn => by
        simp only [List.mem_cons, List.not_mem_nil, or_false, not_or] at hn
        rw [upd_ne hn.2]
        exact kA _ _ e (by simp; exact hn.1)
      have eg : g + ((i + 1 : Nat) : Int) = g + (i : Int) + 1 := by omega
      refine ⟨ws2.filter (fun q => !decide (q.num = v)), _, nextS k vs r, j', _, _, _, _, _, by rw [eg], kF _ _ ef2 ?_, hj', ⟨?_, fun q hq => ?_, ?_, ?_, (List.nodup_cons.mp hnd2).2, fun q hq => ?_, upd_same, fun a u ha => ?_, ?_, fun a => ?_, ?_, nwo, nextS_ok B2.ok, fun q hq => B2.pb q (hsub q hq).1⟩, fun q hq => ?_, fun q hq => hw2 q (hsub q hq).1, fun b o e hn => kF _ _ (k2 _ _ e hn) hn⟩
      · simp only [List.mem_cons, List.not_mem_nil, or_false, not_or]
        exact ⟨ne_of ef2 ewd (by intro z; cases z), ne_of ef2 eod (by intro z; cases z)⟩
      · rw [upd_ne nwo, eA, drop_ws]
      · have hr := B2.rcd q (hsub q hq).1
        refine kF _ _ hr ?_
        simp only [List.mem_cons, List.not_mem_nil, or_false, not_or]
        exact ⟨ne_of hr ewd (by intro z; cases z), ne_of hr eod (by intro z; cases z)⟩
      · exact B2.an.sublist (List.Sublist.map _ List.filter_sublist)
      · rw [filter_map_num]
        exact perm_drop (B2.pm.trans hper) hnd2
      · rw [eg]
        exact ((B2.rs q (hsub q hq).1).give B2.ok B2.un (hs2 q (hsub q hq).1)).2 (hsub q hq).2
      · rw [valV_put] at ha
        split at ha
        · next e =>
          cases e
          cases ha
          refine ⟨v, rfl, ((B2.ns k).2 v hvk).2, fun n hn => ?_⟩
          rw [nextS_nums B2.ok, if_pos rfl] at hn
          exact pairwise_head n1 n hn
        · next e =>
          obtain ⟨z, h1, h2, h3⟩ := B2.ov a u ha
          refine ⟨z, h1, h2, fun n hn => ?_⟩
          rw [nextS_nums B2.ok, if_neg (fun z => e (by rw [z]))] at hn
          exact h3 n hn
      · have := length_putK okv2 (Sum.inl k) (.int v)
        have := B2.ol
        omega
      · rw [nextS_nums B2.ok]
        split
        · next e =>
          have h1 := B2.ns k
          rw [nums_cons, if_pos rfl] at h1
          exact ⟨(List.pairwise_cons.mp h1.1).2, fun n hn => h1.2 n (.tail _ hn)⟩
        · exact B2.ns a
      · have := B2.ct
        rw [allN_pos] at this
        omega
      · have := hs2 q (hsub q hq).1
        have := nextS_len (k := k) (v := v) (vs := vs) (r := r)
        omega
    · rintro σ H2 ⟨ws2, okv2, S2, j, v5, v6, v7, v8, v9, rfl, ef2, hj, B2, hs2, hw2, k2⟩
      rw [hxl] at B2 hj
      rw [List.drop_length] at hj
      have hS2 : S2 = R.2 := by
        have hlen := congrArg (fun z => z.1.length) hj
        dsimp only at hlen
        rw [outS_len B2.ok] at hlen
        simp only [List.length_nil] at hlen
        by_cases hj0 : j = 0
        · subst hj0
          exact congrArg Prod.snd hj
        · have h0 : (allN S2).length = 0 := by omega
          cases S2 with
          | nil =>
            have := congrArg Prod.snd hj
            cases j with
            | zero => exact absurd rfl hj0
            | succ j => exact this
          | cons a r =>
            obtain ⟨k, vs⟩ := a
            cases vs with
            | nil => exact absurd rfl (B2.ok.ne _ (.head _))
            | cons v vs => simp [allN] at h0
      subst hS2
      simp (maxSteps := 1000000) only [tFor_eq, tComp_eq, rRngs, rListR, HO.rng.injEq, tDKeys, rSortL, rSortK, ixN_10, ixN_20, ixN_21, ixN_30, ixN_31, ixN_32, ixN_40, ixN_41, ixN_42, ixN_43, ixN_50, ixN_51, ixN_52, ixN_53, ixN_54, rNe_nn, rEq_nn, rNe_in, rEq_in, rNe_ni, rEq_ni, gSeqX, rLeS, rEq_ss, rNe_ss, rStr1, rAllX, rAnyX, rListD, iStr, rSumX, tBL, tBL0, rExtend, rPopAt, rPop, rReverse, rClear, rIsIX, tyX_n, tyX_b, tyX_i, tyX_s, tyX_r, tyO_l, tyO_t, tyO_d, V.ty.injEq, kT_Noin, kT_Nobo, kT_Nost, kT_Noli, kT_Notu, kT_Nodi, kT_boin, kT_bobo, kT_bost, kT_boli, kT_botu, kT_bodi, kT_inin, kT_inbo, kT_inst, kT_inli, kT_intu, kT_indi, kT_stin, kT_stbo, kT_stst, kT_stli, kT_sttu, kT_stdi, kT_liin, kT_libo, kT_list, kT_lili, kT_litu, kT_lidi, kT_tuin, kT_tubo, kT_tust, kT_tuli, kT_tutu, kT_tudi, kT_diin, kT_dibo, kT_dist, kT_dili, kT_ditu, kT_didi, rGet, getO_l, getO_t, getO_di, getO_ds, rLenX, lenX_r, lenX_s', lenO_l, lenO_t, lenO_d, Option.bind_some, tTruX, truX_n, truX_b, truX_i, truX_r, truO_l, truO_t, truO_d, rInX, rNotInX, inO_l', inO_t', inO_di, inO_ds, rSetX, setO_l, setO_di', setO_ds', rSlX, rListX, seqO_l, seqO_t, rTupX, gTupX, gCons, gNil, gSub, atI_0, atI_1, atI_2, atI_3, tDNewK, Nat.reduceSub, upd_same, upd_upd, Nat.reduceLT, HO.lst.injEq, HO.tup.injEq, HO.dK.injEq, HO.ins.injEq, Option.map_some, Option.isSome_some, Int.reduceEq, Int.reduceLT, Int.reduceLE, Nat.reduceAdd, List.isEmpty_nil, List.isEmpty_cons, ne_eq, not_false_eq_true, tDGs, sDPs, rIsB, rIsntB, tMeth, tMake, tDGet, sDPut, tFld, sFld, tDisp, tPairs, tNever, decide_true, decide_false, truV_bl, clsV_ty, V.ty.injEq, exists_eq', exists_eq, Bool.not_true, Bool.not_false, Bool.not_not, rLen, rListOf, rTupOf, rAny, rAll, rIsI, tTru, iRng1, iRng2, iList, tYes, cSt, List.drop_succ_cons, List.drop_zero, cxOf_K, cxC_K,  tBM, tBM0, rAppend, tSl, rSlL, tNoPart, tPart, rIxL, rIxT, rCat, List.cons.injEq, rEq_ii, rNe_ii, rEq_bb, rNe_bb, tSeq, exists_and_left, if_false, if_true, reduceIte, Bool.false_eq_true, tIfS, tAnd, tOr, tNot, tTest, tOp, tUn, tVar, tC, rI, rI0, rU, tRet, tRetN, tAsg, gName, tNext, tAndV, tOrV, tNotV, tIf, tCall, tCons, tNil, tCB, tDrop, tLst, tTup, tChain, L2.start, List.map_cons, List.map_nil, List.length_cons, List.length_nil, List.replicate, List.cons_append, List.nil_append, List.getElem?_cons_zero, List.getElem?_cons_succ, List.set_cons_zero, List.set_cons_succ, Option.some.injEq, exists_eq_left', exists_eq_left, V.int.injEq, V.bl.injEq, V.ref.injEq, V.str.injEq, exists_const, and_true, true_and, reduceCtorEq, false_and, exists_false, or_false, false_or, and_assoc, List.append_nil, hxl]
      exact q ws2 okv2 H2 B2 hw2 k2
end
end K32
namespace K32
open PySem L2
section
variable {P : Program} {w : World} {K : PySem.W.Frag} {mg : Str → Option Value} {base : Heap} {C : Addr}
structure Gh where
  x : Addr
  dx : Addr
  pr : Addr
  pk : Addr
  pw : Addr
  po : Addr
  pl : Int
  few : Int
structure Iv (C : Addr) (a : Gh) (kvs : List (Key × V)) (S : Rw) (ws : List WR) (okv : List (Key × V)) (g : Int) (N : Nat) (H : Hp) : Prop where
  gt : GateAt C H a.x a.dx a.pr a.pk a.pl kvs S N
  bk : Bk H a.pw a.po ws okv S g N
  ap : ∀ q ∈ ws, q.addr ≠ a.pr ∧ ∀ j p, valV kvs (Sum.inl j) = some (.ref p) → p ≠ q.addr
  kr : ∀ k ∈ S.map (·.1), 0 ≤ k ∧ k < a.few
  n1 : a.pw ≠ a.pk
  n2 : a.po ≠ a.pk
  l1 : 1 ≤ a.pl
  l2 : a.pl ≤ 16
  l3 : a.few ≤ 12
def tch (a : Gh) (ws : List WR) : List Addr := [a.pr, a.pk, a.pw, a.po] ++ ws.map (·.addr)
theorem Iv.same {a : Gh} {kvs : List (Key × V)} {S : Rw} {ws : List WR} {okv : List (Key × V)} {g : Int} {N : Nat} {H H' : Hp} (I : Iv C a kvs S ws okv g N H) (s : Same H H') : Iv C a kvs S ws okv g N H' := ⟨I.gt.same s, I.bk.same s, I.ap, I.kr, I.n1, I.n2, I.l1, I.l2, I.l3⟩
theorem GateAt.list {H : Hp} {x dx pr pk : Addr} {pl : Int} {kvs : List (Key × V)} {S : Rw} {n : Nat} (G : GateAt C H x dx pr pk pl kvs S n) {j : Int} {p : Addr} (h : valV kvs (Sum.inl j) = some (.ref p)) : ∃ xs, H p = some (.lst xs) := by
  have l := G.lk j
  split at l
  · rw [l] at h; cases h
  · obtain ⟨p', xs, h1, h2, _⟩ := l
    rw [h1] at h
    cases h
    exact ⟨xs, h2⟩
theorem Bk.up {H : Hp} {pw po : Addr} {ws : List WR} {okv : List (Key × V)} {S : Rw} {g : Int} {N : Nat} (B : Bk H pw po ws okv S g N) : Bk H pw po ws okv S g (N + 1) :=
  ⟨B.wd, B.rcd, B.an, B.pm, B.un, B.rs, B.od, fun k v h => by obtain ⟨z, h1, h2, h3⟩ := B.ov k v h; exact ⟨z, h1, by omega, h3⟩, B.ol, fun k => ⟨(B.ns k).1, fun n hn => by have := (B.ns k).2 n hn; omega⟩, by have := B.ct; omega, B.ne, B.ok, B.pb⟩
theorem Bk.lt {H : Hp} {pw po : Addr} {ws : List WR} {okv : List (Key × V)} {S : Rw} {g : Int} {N : Nat} (B : Bk H pw po ws okv S g N) {n : Int} (h : n ∈ allN S) : 0 ≤ n ∧ n < N := by
  obtain ⟨k, hk⟩ := (mem_allN B.ok.nd).mp h
  exact (B.ns k).2 n hk
theorem Iv.away {a : Gh} {kvs : List (Key × V)} {S : Rw} {ws : List WR} {okv : List (Key × V)} {g : Int} {N : Nat} {H : Hp} (I : Iv C a kvs S ws okv g N H) : a.pw ∉ [a.pr, a.pk] ∧ a.po ∉ [a.pr, a.pk] ∧ ∀ q ∈ ws, q.addr ∉ [a.pr, a.pk] := by
  refine ⟨?_, ?_, fun q hq => ?_⟩
  · simp only [List.mem_cons, List.not_mem_nil, or_false, not_or]
    exact ⟨ne_of I.bk.wd I.gt.row (by intro z; cases z), I.n1⟩
  · simp only [List.mem_cons, List.not_mem_nil, or_false, not_or]
    exact ⟨ne_of I.bk.od I.gt.row (by intro z; cases z), I.n2⟩
  · simp only [List.mem_cons, List.not_mem_nil, or_false, not_or]
    exact ⟨(I.ap q hq).1, ne_of (I.bk.rcd q hq) I.gt.kep (by intro z; cases z)⟩
theorem nums_len {S : Rw} {k : Int} : (nums S k).length ≤ (allN S).length := by
  induction S with
  | nil => simp [nums]
  | cons q r ih =>
    rw [nums_cons]
    unfold allN at ih ⊢
    rw [List.flatMap_cons, List.length_append]
    split <;> omega
def sp_lput (C : Addr) : Sp := fun vs H Q _ => ∃ (a : Gh) (kvs : List (Key × V)) (S : Rw) (ws : List WR) (okv : List (Key × V)) (g k : Int) (N : Nat), vs = [.ref a.x, .int k, .int N, .ref a.pw, .int g] ∧ Iv C a kvs S ws okv g N H ∧ 0 ≤ g ∧ 0 ≤ k ∧ k < a.few ∧ N ≤ 900 ∧
  ∀ kvs' S' ws' H', Iv C a kvs' S' ws' okv g (N + 1) H' → (∀ q ∈ ws', q.addr ∈ ws.map (·.addr) ∨ H q.addr = none) → Keep (tch a ws) H H' → Q .non H'
set_option maxHeartbeats 4000000 in
theorem own_lput (D : Def K mg "_law_put" s__law_put) (hb : Blt mg) (T_Gate : ClsD K mg "Gate" C at_Gate) (M_Gate_put : OwnM P w K mg base 6 C "put" ["self", "key", "parcel"] (sp_put C)) (M_Gate_waits : OwnM P w K mg base 1 C "waits" ["self", "key"] (sp_waits C)) (M_Gate_waiting : OwnM P w K mg base 1 C "waiting" ["self"] (sp_waiting C)) :
    Own P w K mg base 7 "_law_put" ["_law_gate", "_law_key", "_law_number", "_law_waits", "_law_given_here"] (sp_lput C) := by
  refine D.own sc__law_put (fun _ _ _ _ _ _ us hl => match us, hl with | [_, _, _, _, _], _ => rfl) (fun vs H Q E h => ?_) (fun f cdv A outer s H vs Q E hr h => ?_)
  · obtain ⟨a, kvs, S, ws, okv, g, k, N, rfl, _⟩ := h
    rfl
  · obtain ⟨a, kvs, S, ws, okv, g, k, N, rfl, I, g0, k0, k1, hN, q⟩ := h
    have hu := hr.units
    have hu1 : (A.deeper (PyProof.Rows.envOfC "_law_put" (defScope s__law_put) s.heap.objs.size f cdv)).units + 1 < cLine := by omega
    have ex := I.gt.ins
    refine ⟨_, (@pss_cons _ _ _ _ _ (@ps_set _ _ 5 _ _ _ _ sc__law_put.nd rfl (by first | exact Or.inl rfl | exact Or.inr rfl) (@pe_op _ _ _ _ _ _ _ _ op_add (@pe_mth _ _ _ _ _ _ _ _ _ _ _ _ _ _ _ M_Gate_waits T_Gate.cl hr (@pv _ 0 _ _ (by rfl) (by first | exact Or.inl rfl | exact Or.inr (Or.inl rfl) | exact Or.inr (Or.inr rfl)) (by decide) (by decide)) (@pa_cX _ _ _ _ _ (@pv _ 1 _ _ (by rfl) (by first | exact Or.inl rfl | exact Or.inr (Or.inl rfl) | exact Or.inr (Or.inr rfl)) (by decide) (by decide)) (@pa_nil _) (by rfl)) (by decide) (by rfl) (by rfl) (by rfl)) (@pe_int _ _ _ _)) (by rfl) (by first | exact .inl rfl | exact .inr rfl | assumption)) (@pss_one _ _ _ (@ps_if _ _ _ _ _ _ _ _ (@pt_truX _ _ _ (@pe_mth _ _ _ _ _ _ _ _ _ _ _ _ _ _ _ M_Gate_put T_Gate.cl hr (@pv _ 0 _ _ (by rfl) (by first | exact Or.inl rfl | exact Or.inr (Or.inl rfl) | exact Or.inr (Or.inr rfl)) (by decide) (by decide)) (@pa_cX _ _ _ _ _ (@pv _ 1 _ _ (by rfl) (by first | exact Or.inl rfl | exact Or.inr (Or.inl rfl) | exact Or.inr (Or.inr rfl)) (by decide) (by decide)) (@pa_cX _ _ _ _ _ (@pe_tup _ _ _ _ _ (@pa_cX _ _ _ _ _ (@pe_int _ _ _ _) (@pa_cX _ _ _ _ _ (@pv _ 1 _ _ (by rfl) (by first | exact Or.inl rfl | exact Or.inr (Or.inl rfl) | exact Or.inr (Or.inr rfl)) (by decide) (by decide)) (@pa_cX _ _ _ _ _ (@pe_int _ _ _ _) (@pa_cX _ _ _ _ _ (@pe_tup _ _ _ _ _ (@pa_cX _ _ _ _ _ (@pe_str _ _ _ _) (@pa_cX _ _ _ _ _ (@pv _ 2 _ _ (by rfl) (by first | exact Or.inl rfl | exact Or.inr (Or.inl rfl) | exact Or.inr (Or.inr rfl)) (by decide) (by decide)) (@pa_nil _) (by rfl)) (by rfl))) (@pa_nil _) (by rfl)) (by rfl)) (by rfl)) (by rfl))) (@pa_nil _) (by rfl)) (by rfl)) (by decide) (by rfl) (by rfl) (by rfl)) (by intro _; rfl)) (@pss_one _ _ _ (@ps_asg _ _ _ _ _ _ (@pe_lst _ _ _ _ (@pa_cX _ _ _ _ _ (@pv _ 1 _ _ (by rfl) (by first | exact Or.inl rfl | exact Or.inr (Or.inl rfl) | exact Or.inr (Or.inr rfl)) (by decide) (by decide)) (@pa_cX _ _ _ _ _ (@pv _ 5 _ _ (by rfl) (by first | exact Or.inl rfl | exact Or.inr (Or.inl rfl) | exact Or.inr (Or.inr rfl)) (by decide) (by decide)) (@pa_cX _ _ _ _ _ (@pv _ 4 _ _ (by rfl) (by first | exact Or.inl rfl | exact Or.inr (Or.inl rfl) | exact Or.inr (Or.inr rfl)) (by decide) (by decide)) (@pa_cX _ _ _ _ _ (@pe_callB _ _ _ _ _ _ _ _ _ call_lenX rfl (hb _ (by decide)) bt_len (@pa_cX _ _ _ _ _ (@pe_mth0 _ _ _ _ _ _ _ _ _ _ _ _ M_Gate_waiting T_Gate.cl hr (@pv _ 0 _ _ (by rfl) (by first | exact Or.inl rfl | exact Or.inr (Or.inl rfl) | exact Or.inr (Or.inr rfl)) (by decide) (by decide)) (by decide) (by rfl)) (@pa_nil _) (by rfl)) (by decide) (by decide) (by rfl) (by rfl)) (@pa_nil _) (by rfl)) (by rfl)) (by rfl)) (by rfl))) (@pg_sub _ _ _ _ _ _ _ (@pv _ 3 _ _ (by rfl) (by first | exact Or.inl rfl | exact Or.inr (Or.inl rfl) | exact Or.inr (Or.inr rfl)) (by decide) (by decide)) (@pv _ 2 _ _ (by rfl) (by first | exact Or.inl rfl | exact Or.inr (Or.inl rfl) | exact Or.inr (Or.inr rfl)) (by decide) (by decide)) (@set_x _ hu1) (by intro _; rfl)) (by rfl) (by rfl) (by rfl))) (@pss_nil _)))), ?_⟩
    simp (maxSteps := 1000000) only [tFor_eq, tComp_eq, rRngs, rListR, HO.rng.injEq, tDKeys, rSortL, rSortK, ixN_10, ixN_20, ixN_21, ixN_30, ixN_31, ixN_32, ixN_40, ixN_41, ixN_42, ixN_43, ixN_50, ixN_51, ixN_52, ixN_53, ixN_54, rNe_nn, rEq_nn, rNe_in, rEq_in, rNe_ni, rEq_ni, gSeqX, rLeS, rEq_ss, rNe_ss, rStr1, rAllX, rAnyX, rListD, iStr, rSumX, tBL, tBL0, rExtend, rPopAt, rPop, rReverse, rClear, rIsIX, tyX_n, tyX_b, tyX_i, tyX_s, tyX_r, tyO_l, tyO_t, tyO_d, V.ty.injEq, kT_Noin, kT_Nobo, kT_Nost, kT_Noli, kT_Notu, kT_Nodi, kT_boin, kT_bobo, kT_bost, kT_boli, kT_botu, kT_bodi, kT_inin, kT_inbo, kT_inst, kT_inli, kT_intu, kT_indi, kT_stin, kT_stbo, kT_stst, kT_stli, kT_sttu, kT_stdi, kT_liin, kT_libo, kT_list, kT_lili, kT_litu, kT_lidi, kT_tuin, kT_tubo, kT_tust, kT_tuli, kT_tutu, kT_tudi, kT_diin, kT_dibo, kT_dist, kT_dili, kT_ditu, kT_didi, rGet, getO_l, getO_t, getO_di, getO_ds, rLenX, lenX_r, lenX_s', lenO_l, lenO_t, lenO_d, Option.bind_some, tTruX, truX_n, truX_b, truX_i, truX_r, truO_l, truO_t, truO_d, rInX, rNotInX, inO_l', inO_t', inO_di, inO_ds, rSetX, setO_l, setO_di', setO_ds', rSlX, rListX, seqO_l, seqO_t, rTupX, gTupX, gCons, gNil, gSub, atI_0, atI_1, atI_2, atI_3, tDNewK, Nat.reduceSub, upd_same, upd_upd, Nat.reduceLT, HO.lst.injEq, HO.tup.injEq, HO.dK.injEq, HO.ins.injEq, Option.map_some, Option.isSome_some, Int.reduceEq, Int.reduceLT, Int.reduceLE, Nat.reduceAdd, List.isEmpty_nil, List.isEmpty_cons, ne_eq, not_false_eq_true, tDGs, sDPs, rIsB, rIsntB, tMeth, tMake, tDGet, sDPut, tFld, sFld, tDisp, tPairs, tNever, decide_true, decide_false, truV_bl, clsV_ty, V.ty.injEq, exists_eq', exists_eq, Bool.not_true, Bool.not_false, Bool.not_not, rLen, rListOf, rTupOf, rAny, rAll, rIsI, tTru, iRng1, iRng2, iList, tYes, cSt, List.drop_succ_cons, List.drop_zero, cxOf_K, cxC_K,  tBM, tBM0, rAppend, tSl, rSlL, tNoPart, tPart, rIxL, rIxT, rCat, List.cons.injEq, rEq_ii, rNe_ii, rEq_bb, rNe_bb, tSeq, exists_and_left, if_false, if_true, reduceIte, Bool.false_eq_true, tIfS, tAnd, tOr, tNot, tTest, tOp, tUn, tVar, tC, rI, rI0, rU, tRet, tRetN, tAsg, gName, tNext, tAndV, tOrV, tNotV, tIf, tCall, tCons, tNil, tCB, tDrop, tLst, tTup, tChain, L2.start, List.map_cons, List.map_nil, List.length_cons, List.length_nil, List.replicate, List.cons_append, List.nil_append, List.getElem?_cons_zero, List.getElem?_cons_succ, List.set_cons_zero, List.set_cons_succ, Option.some.injEq, exists_eq_left', exists_eq_left, V.int.injEq, V.bl.injEq, V.ref.injEq, V.str.injEq, exists_const, and_true, true_and, reduceCtorEq, false_and, exists_false, or_false, false_or, and_assoc, List.append_nil, ex, T_Gate.cl, T_Gate.no "places" (by decide), T_Gate.no "row" (by decide), T_Gate.no "kept" (by decide), fs_Gate_places, fs_Gate_row, fs_Gate_kept, fn_Gate___init__, fn_Gate_put, fn_Gate_out, fn_Gate_give_one, fn_Gate_waiting, fn_Gate_waits, fl_Gate, fp_Gate_places, fp_Gate_row, fp_Gate_kept, fq_Gate_0, fq_Gate_1, fq_Gate_2]
    refine ⟨a.x, a.dx, a.pr, a.pk, a.pl, k, kvs, S, N, rfl, I.gt, fun H1 s1 => ?_⟩
    have I1 := I.same s1
    have ex1 := I1.gt.ins
    simp (maxSteps := 1000000) only [tFor_eq, tComp_eq, rRngs, rListR, HO.rng.injEq, tDKeys, rSortL, rSortK, ixN_10, ixN_20, ixN_21, ixN_30, ixN_31, ixN_32, ixN_40, ixN_41, ixN_42, ixN_43, ixN_50, ixN_51, ixN_52, ixN_53, ixN_54, rNe_nn, rEq_nn, rNe_in, rEq_in, rNe_ni, rEq_ni, gSeqX, rLeS, rEq_ss, rNe_ss, rStr1, rAllX, rAnyX, rListD, iStr, rSumX, tBL, tBL0, rExtend, rPopAt, rPop, rReverse, rClear, rIsIX, tyX_n, tyX_b, tyX_i, tyX_s, tyX_r, tyO_l, tyO_t, tyO_d, V.ty.injEq, kT_Noin, kT_Nobo, kT_Nost, kT_Noli, kT_Notu, kT_Nodi, kT_boin, kT_bobo, kT_bost, kT_boli, kT_botu, kT_bodi, kT_inin, kT_inbo, kT_inst, kT_inli, kT_intu, kT_indi, kT_stin, kT_stbo, kT_stst, kT_stli, kT_sttu, kT_stdi, kT_liin, kT_libo, kT_list, kT_lili, kT_litu, kT_lidi, kT_tuin, kT_tubo, kT_tust, kT_tuli, kT_tutu, kT_tudi, kT_diin, kT_dibo, kT_dist, kT_dili, kT_ditu, kT_didi, rGet, getO_l, getO_t, getO_di, getO_ds, rLenX, lenX_r, lenX_s', lenO_l, lenO_t, lenO_d, Option.bind_some, tTruX, truX_n, truX_b, truX_i, truX_r, truO_l, truO_t, truO_d, rInX, rNotInX, inO_l', inO_t', inO_di, inO_ds, rSetX, setO_l, setO_di', setO_ds', rSlX, rListX, seqO_l, seqO_t, rTupX, gTupX, gCons, gNil, gSub, atI_0, atI_1, atI_2, atI_3, tDNewK, Nat.reduceSub, upd_same, upd_upd, Nat.reduceLT, HO.lst.injEq, HO.tup.injEq, HO.dK.injEq, HO.ins.injEq, Option.map_some, Option.isSome_some, Int.reduceEq, Int.reduceLT, Int.reduceLE, Nat.reduceAdd, List.isEmpty_nil, List.isEmpty_cons, ne_eq, not_false_eq_true, tDGs, sDPs, rIsB, rIsntB, tMeth, tMake, tDGet, sDPut, tFld, sFld, tDisp, tPairs, tNever, decide_true, decide_false, truV_bl, clsV_ty, V.ty.injEq, exists_eq', exists_eq, Bool.not_true, Bool.not_false, Bool.not_not, rLen, rListOf, rTupOf, rAny, rAll, rIsI, tTru, iRng1, iRng2, iList, tYes, cSt, List.drop_succ_cons, List.drop_zero, cxOf_K, cxC_K,  tBM, tBM0, rAppend, tSl, rSlL, tNoPart, tPart, rIxL, rIxT, rCat, List.cons.injEq, rEq_ii, rNe_ii, rEq_bb, rNe_bb, tSeq, exists_and_left, if_false, if_true, reduceIte, Bool.false_eq_true, tIfS, tAnd, tOr, tNot, tTest, tOp, tUn, tVar, tC, rI, rI0, rU, tRet, tRetN, tAsg, gName, tNext, tAndV, tOrV, tNotV, tIf, tCall, tCons, tNil, tCB, tDrop, tLst, tTup, tChain, L2.start, List.map_cons, List.map_nil, List.length_cons, List.length_nil, List.replicate, List.cons_append, List.nil_append, List.getElem?_cons_zero, List.getElem?_cons_succ, List.set_cons_zero, List.set_cons_succ, Option.some.injEq, exists_eq_left', exists_eq_left, V.int.injEq, V.bl.injEq, V.ref.injEq, V.str.injEq, exists_const, and_true, true_and, reduceCtorEq, false_and, exists_false, or_false, false_or, and_assoc, List.append_nil, ex1, T_Gate.cl, T_Gate.no "places" (by decide), T_Gate.no "row" (by decide), T_Gate.no "kept" (by decide), fs_Gate_places, fs_Gate_row, fs_Gate_kept, fn_Gate___init__, fn_Gate_put, fn_Gate_out, fn_Gate_give_one, fn_Gate_waiting, fn_Gate_waits, fl_Gate, fp_Gate_places, fp_Gate_row, fp_Gate_kept, fq_Gate_0, fq_Gate_1, fq_Gate_2]
    refine ⟨by decide, ?_⟩
    intro p2 n2
    generalize z2 : upd H1 p2 _ = H2
    obtain ⟨s2, e2⟩ := new_same z2 n2
    refine ⟨by decide, ?_⟩
    intro p3 n3
    generalize z3 : upd H2 p3 _ = H3
    obtain ⟨s3, e3⟩ := new_same z3 n3
    have I3 := (I1.same s2).same s3
    have hnk : (N : Int) ∉ nums S k := fun z => by have := (I.bk.ns k).2 _ z; omega
    have hna : (N : Int) ∉ allN S := fun z => by have := I.bk.lt z; omega
    have s13 : Same H H3 := (s1.trans s2).trans s3
    have hct := I.bk.ct
    have hnl : (nums S k).length ≤ (allN S).length := nums_len
    refine ⟨a.x, a.dx, a.pr, a.pk, a.pl, k, N, _, kvs, S, N, rfl, I3.gt, .tup e3 (.cons (.int _) (.cons (.int _) (.cons (.int _) (.cons (.tup (s3 _ _ e2) (.cons (.str (strOk_of _)) (.cons (.int _) .nil)) (by simp)) .nil)))) (by simp), hnk, by omega, by have := I.l1; omega, by have := I.l2; omega, fun b kvs' S' H4 G4 hb0 hb1 fr k4 => ?_⟩
    obtain ⟨w1, w2, w3⟩ := I3.away
    have B4 := I3.bk.keep k4 w1 w2 w3
    have ap4 : ∀ q ∈ ws, q.addr ≠ a.pr ∧ ∀ j p, valV kvs' (Sum.inl j) = some (.ref p) → p ≠ q.addr := fun q hq => by
      refine ⟨(I.ap q hq).1, fun j p h => ?_⟩
      rcases fr j p h with z | z
      · exact (I.ap q hq).2 j p z
      · exact Ne.symm (ne_of_none (I3.bk.rcd q hq) z)
    have kT : Keep (tch a ws) H H4 := fun b o e hn => by
      unfold tch at hn
      simp only [List.cons_append, List.nil_append, List.mem_cons, not_or] at hn
      exact k4 _ _ (s13 _ _ e) (by simp; exact ⟨hn.1, hn.2.1⟩)
    cases b with
    | false =>
      have := hb0 rfl
      subst this
      simp (maxSteps := 1000000) only [tFor_eq, tComp_eq, rRngs, rListR, HO.rng.injEq, tDKeys, rSortL, rSortK, ixN_10, ixN_20, ixN_21, ixN_30, ixN_31, ixN_32, ixN_40, ixN_41, ixN_42, ixN_43, ixN_50, ixN_51, ixN_52, ixN_53, ixN_54, rNe_nn, rEq_nn, rNe_in, rEq_in, rNe_ni, rEq_ni, gSeqX, rLeS, rEq_ss, rNe_ss, rStr1, rAllX, rAnyX, rListD, iStr, rSumX, tBL, tBL0, rExtend, rPopAt, rPop, rReverse, rClear, rIsIX, tyX_n, tyX_b, tyX_i, tyX_s, tyX_r, tyO_l, tyO_t, tyO_d, V.ty.injEq, kT_Noin, kT_Nobo, kT_Nost, kT_Noli, kT_Notu, kT_Nodi, kT_boin, kT_bobo, kT_bost, kT_boli, kT_botu, kT_bodi, kT_inin, kT_inbo, kT_inst, kT_inli, kT_intu, kT_indi, kT_stin, kT_stbo, kT_stst, kT_stli, kT_sttu, kT_stdi, kT_liin, kT_libo, kT_list, kT_lili, kT_litu, kT_lidi, kT_tuin, kT_tubo, kT_tust, kT_tuli, kT_tutu, kT_tudi, kT_diin, kT_dibo, kT_dist, kT_dili, kT_ditu, kT_didi, rGet, getO_l, getO_t, getO_di, getO_ds, rLenX, lenX_r, lenX_s', lenO_l, lenO_t, lenO_d, Option.bind_some, tTruX, truX_n, truX_b, truX_i, truX_r, truO_l, truO_t, truO_d, rInX, rNotInX, inO_l', inO_t', inO_di, inO_ds, rSetX, setO_l, setO_di', setO_ds', rSlX, rListX, seqO_l, seqO_t, rTupX, gTupX, gCons, gNil, gSub, atI_0, atI_1, atI_2, atI_3, tDNewK, Nat.reduceSub, upd_same, upd_upd, Nat.reduceLT, HO.lst.injEq, HO.tup.injEq, HO.dK.injEq, HO.ins.injEq, Option.map_some, Option.isSome_some, Int.reduceEq, Int.reduceLT, Int.reduceLE, Nat.reduceAdd, List.isEmpty_nil, List.isEmpty_cons, ne_eq, not_false_eq_true, tDGs, sDPs, rIsB, rIsntB, tMeth, tMake, tDGet, sDPut, tFld, sFld, tDisp, tPairs, tNever, decide_true, decide_false, truV_bl, clsV_ty, V.ty.injEq, exists_eq', exists_eq, Bool.not_true, Bool.not_false, Bool.not_not, rLen, rListOf, rTupOf, rAny, rAll, rIsI, tTru, iRng1, iRng2, iList, tYes, cSt, List.drop_succ_cons, List.drop_zero, cxOf_K, cxC_K,  tBM, tBM0, rAppend, tSl, rSlL, tNoPart, tPart, rIxL, rIxT, rCat, List.cons.injEq, rEq_ii, rNe_ii, rEq_bb, rNe_bb, tSeq, exists_and_left, if_false, if_true, reduceIte, Bool.false_eq_true, tIfS, tAnd, tOr, tNot, tTest, tOp, tUn, tVar, tC, rI, rI0, rU, tRet, tRetN, tAsg, gName, tNext, tAndV, tOrV, tNotV, tIf, tCall, tCons, tNil, tCB, tDrop, tLst, tTup, tChain, L2.start, List.map_cons, List.map_nil, List.length_cons, List.length_nil, List.replicate, List.cons_append, List.nil_append, List.getElem?_cons_zero, List.getElem?_cons_succ, List.set_cons_zero, List.set_cons_succ, Option.some.injEq, exists_eq_left', exists_eq_left, V.int.injEq, V.bl.injEq, V.ref.injEq, V.str.injEq, exists_const, and_true, true_and, reduceCtorEq, false_and, exists_false, or_false, false_or, and_assoc, List.append_nil]
      exact q kvs' S' ws H4 ⟨G4, B4.up, ap4, I.kr, I.n1, I.n2, I.l1, I.l2, I.l3⟩ (fun q hq => .inl (List.mem_map_of_mem hq)) kT
    | true =>
      have := hb1 rfl
      subst this
      have ex4 := G4.ins
      simp (maxSteps := 1000000) only [tFor_eq, tComp_eq, rRngs, rListR, HO.rng.injEq, tDKeys, rSortL, rSortK, ixN_10, ixN_20, ixN_21, ixN_30, ixN_31, ixN_32, ixN_40, ixN_41, ixN_42, ixN_43, ixN_50, ixN_51, ixN_52, ixN_53, ixN_54, rNe_nn, rEq_nn, rNe_in, rEq_in, rNe_ni, rEq_ni, gSeqX, rLeS, rEq_ss, rNe_ss, rStr1, rAllX, rAnyX, rListD, iStr, rSumX, tBL, tBL0, rExtend, rPopAt, rPop, rReverse, rClear, rIsIX, tyX_n, tyX_b, tyX_i, tyX_s, tyX_r, tyO_l, tyO_t, tyO_d, V.ty.injEq, kT_Noin, kT_Nobo, kT_Nost, kT_Noli, kT_Notu, kT_Nodi, kT_boin, kT_bobo, kT_bost, kT_boli, kT_botu, kT_bodi, kT_inin, kT_inbo, kT_inst, kT_inli, kT_intu, kT_indi, kT_stin, kT_stbo, kT_stst, kT_stli, kT_sttu, kT_stdi, kT_liin, kT_libo, kT_list, kT_lili, kT_litu, kT_lidi, kT_tuin, kT_tubo, kT_tust, kT_tuli, kT_tutu, kT_tudi, kT_diin, kT_dibo, kT_dist, kT_dili, kT_ditu, kT_didi, rGet, getO_l, getO_t, getO_di, getO_ds, rLenX, lenX_r, lenX_s', lenO_l, lenO_t, lenO_d, Option.bind_some, tTruX, truX_n, truX_b, truX_i, truX_r, truO_l, truO_t, truO_d, rInX, rNotInX, inO_l', inO_t', inO_di, inO_ds, rSetX, setO_l, setO_di', setO_ds', rSlX, rListX, seqO_l, seqO_t, rTupX, gTupX, gCons, gNil, gSub, atI_0, atI_1, atI_2, atI_3, tDNewK, Nat.reduceSub, upd_same, upd_upd, Nat.reduceLT, HO.lst.injEq, HO.tup.injEq, HO.dK.injEq, HO.ins.injEq, Option.map_some, Option.isSome_some, Int.reduceEq, Int.reduceLT, Int.reduceLE, Nat.reduceAdd, List.isEmpty_nil, List.isEmpty_cons, ne_eq, not_false_eq_true, tDGs, sDPs, rIsB, rIsntB, tMeth, tMake, tDGet, sDPut, tFld, sFld, tDisp, tPairs, tNever, decide_true, decide_false, truV_bl, clsV_ty, V.ty.injEq, exists_eq', exists_eq, Bool.not_true, Bool.not_false, Bool.not_not, rLen, rListOf, rTupOf, rAny, rAll, rIsI, tTru, iRng1, iRng2, iList, tYes, cSt, List.drop_succ_cons, List.drop_zero, cxOf_K, cxC_K,  tBM, tBM0, rAppend, tSl, rSlL, tNoPart, tPart, rIxL, rIxT, rCat, List.cons.injEq, rEq_ii, rNe_ii, rEq_bb, rNe_bb, tSeq, exists_and_left, if_false, if_true, reduceIte, Bool.false_eq_true, tIfS, tAnd, tOr, tNot, tTest, tOp, tUn, tVar, tC, rI, rI0, rU, tRet, tRetN, tAsg, gName, tNext, tAndV, tOrV, tNotV, tIf, tCall, tCons, tNil, tCB, tDrop, tLst, tTup, tChain, L2.start, List.map_cons, List.map_nil, List.length_cons, List.length_nil, List.replicate, List.cons_append, List.nil_append, List.getElem?_cons_zero, List.getElem?_cons_succ, List.set_cons_zero, List.set_cons_succ, Option.some.injEq, exists_eq_left', exists_eq_left, V.int.injEq, V.bl.injEq, V.ref.injEq, V.str.injEq, exists_const, and_true, true_and, reduceCtorEq, false_and, exists_false, or_false, false_or, and_assoc, List.append_nil, ex4, T_Gate.cl, T_Gate.no "places" (by decide), T_Gate.no "row" (by decide), T_Gate.no "kept" (by decide), fs_Gate_places, fs_Gate_row, fs_Gate_kept, fn_Gate___init__, fn_Gate_put, fn_Gate_out, fn_Gate_give_one, fn_Gate_waiting, fn_Gate_waits, fl_Gate, fp_Gate_places, fp_Gate_row, fp_Gate_kept, fq_Gate_0, fq_Gate_1, fq_Gate_2]
      refine ⟨a.x, a.dx, a.pr, a.pk, a.pl, kvs', _, N + 1, rfl, G4, fun p5 H5 n5 e5 s5 => ?_⟩
      simp (maxSteps := 1000000) only [tFor_eq, tComp_eq, rRngs, rListR, HO.rng.injEq, tDKeys, rSortL, rSortK, ixN_10, ixN_20, ixN_21, ixN_30, ixN_31, ixN_32, ixN_40, ixN_41, ixN_42, ixN_43, ixN_50, ixN_51, ixN_52, ixN_53, ixN_54, rNe_nn, rEq_nn, rNe_in, rEq_in, rNe_ni, rEq_ni, gSeqX, rLeS, rEq_ss, rNe_ss, rStr1, rAllX, rAnyX, rListD, iStr, rSumX, tBL, tBL0, rExtend, rPopAt, rPop, rReverse, rClear, rIsIX, tyX_n, tyX_b, tyX_i, tyX_s, tyX_r, tyO_l, tyO_t, tyO_d, V.ty.injEq, kT_Noin, kT_Nobo, kT_Nost, kT_Noli, kT_Notu, kT_Nodi, kT_boin, kT_bobo, kT_bost, kT_boli, kT_botu, kT_bodi, kT_inin, kT_inbo, kT_inst, kT_inli, kT_intu, kT_indi, kT_stin, kT_stbo, kT_stst, kT_stli, kT_sttu, kT_stdi, kT_liin, kT_libo, kT_list, kT_lili, kT_litu, kT_lidi, kT_tuin, kT_tubo, kT_tust, kT_tuli, kT_tutu, kT_tudi, kT_diin, kT_dibo, kT_dist, kT_dili, kT_ditu, kT_didi, rGet, getO_l, getO_t, getO_di, getO_ds, rLenX, lenX_r, lenX_s', lenO_l, lenO_t, lenO_d, Option.bind_some, tTruX, truX_n, truX_b, truX_i, truX_r, truO_l, truO_t, truO_d, rInX, rNotInX, inO_l', inO_t', inO_di, inO_ds, rSetX, setO_l, setO_di', setO_ds', rSlX, rListX, seqO_l, seqO_t, rTupX, gTupX, gCons, gNil, gSub, atI_0, atI_1, atI_2, atI_3, tDNewK, Nat.reduceSub, upd_same, upd_upd, Nat.reduceLT, HO.lst.injEq, HO.tup.injEq, HO.dK.injEq, HO.ins.injEq, Option.map_some, Option.isSome_some, Int.reduceEq, Int.reduceLT, Int.reduceLE, Nat.reduceAdd, List.isEmpty_nil, List.isEmpty_cons, ne_eq, not_false_eq_true, tDGs, sDPs, rIsB, rIsntB, tMeth, tMake, tDGet, sDPut, tFld, sFld, tDisp, tPairs, tNever, decide_true, decide_false, truV_bl, clsV_ty, V.ty.injEq, exists_eq', exists_eq, Bool.not_true, Bool.not_false, Bool.not_not, rLen, rListOf, rTupOf, rAny, rAll, rIsI, tTru, iRng1, iRng2, iList, tYes, cSt, List.drop_succ_cons, List.drop_zero, cxOf_K, cxC_K,  tBM, tBM0, rAppend, tSl, rSlL, tNoPart, tPart, rIxL, rIxT, rCat, List.cons.injEq, rEq_ii, rNe_ii, rEq_bb, rNe_bb, tSeq, exists_and_left, if_false, if_true, reduceIte, Bool.false_eq_true, tIfS, tAnd, tOr, tNot, tTest, tOp, tUn, tVar, tC, rI, rI0, rU, tRet, tRetN, tAsg, gName, tNext, tAndV, tOrV, tNotV, tIf, tCall, tCons, tNil, tCB, tDrop, tLst, tTup, tChain, L2.start, List.map_cons, List.map_nil, List.length_cons, List.length_nil, List.replicate, List.cons_append, List.nil_append, List.getElem?_cons_zero, List.getElem?_cons_succ, List.set_cons_zero, List.set_cons_succ, Option.some.injEq, exists_eq_left', exists_eq_left, V.int.injEq, V.bl.injEq, V.ref.injEq, V.str.injEq, exists_const, and_true, true_and, reduceCtorEq, false_and, exists_false, or_false, false_or, and_assoc, List.append_nil, e5, List.length_map]
      refine ⟨by decide, ?_⟩
      intro p6 n6
      generalize z6 : upd H5 p6 _ = H6
      obtain ⟨s6, e6⟩ := new_same z6 n6
      have ew6 := s6 _ _ (s5 _ _ B4.wd)
      have hwl : (wkv ws).length < sizeLine := by
        have h1 := I.bk.pm.length_eq
        rw [List.length_map] at h1
        rw [sizeLine_eq]
        unfold wkv
        rw [List.length_map]
        omega
      simp (maxSteps := 1000000) only [tFor_eq, tComp_eq, rRngs, rListR, HO.rng.injEq, tDKeys, rSortL, rSortK, ixN_10, ixN_20, ixN_21, ixN_30, ixN_31, ixN_32, ixN_40, ixN_41, ixN_42, ixN_43, ixN_50, ixN_51, ixN_52, ixN_53, ixN_54, rNe_nn, rEq_nn, rNe_in, rEq_in, rNe_ni, rEq_ni, gSeqX, rLeS, rEq_ss, rNe_ss, rStr1, rAllX, rAnyX, rListD, iStr, rSumX, tBL, tBL0, rExtend, rPopAt, rPop, rReverse, rClear, rIsIX, tyX_n, tyX_b, tyX_i, tyX_s, tyX_r, tyO_l, tyO_t, tyO_d, V.ty.injEq, kT_Noin, kT_Nobo, kT_Nost, kT_Noli, kT_Notu, kT_Nodi, kT_boin, kT_bobo, kT_bost, kT_boli, kT_botu, kT_bodi, kT_inin, kT_inbo, kT_inst, kT_inli, kT_intu, kT_indi, kT_stin, kT_stbo, kT_stst, kT_stli, kT_sttu, kT_stdi, kT_liin, kT_libo, kT_list, kT_lili, kT_litu, kT_lidi, kT_tuin, kT_tubo, kT_tust, kT_tuli, kT_tutu, kT_tudi, kT_diin, kT_dibo, kT_dist, kT_dili, kT_ditu, kT_didi, rGet, getO_l, getO_t, getO_di, getO_ds, rLenX, lenX_r, lenX_s', lenO_l, lenO_t, lenO_d, Option.bind_some, tTruX, truX_n, truX_b, truX_i, truX_r, truO_l, truO_t, truO_d, rInX, rNotInX, inO_l', inO_t', inO_di, inO_ds, rSetX, setO_l, setO_di', setO_ds', rSlX, rListX, seqO_l, seqO_t, rTupX, gTupX, gCons, gNil, gSub, atI_0, atI_1, atI_2, atI_3, tDNewK, Nat.reduceSub, upd_same, upd_upd, Nat.reduceLT, HO.lst.injEq, HO.tup.injEq, HO.dK.injEq, HO.ins.injEq, Option.map_some, Option.isSome_some, Int.reduceEq, Int.reduceLT, Int.reduceLE, Nat.reduceAdd, List.isEmpty_nil, List.isEmpty_cons, ne_eq, not_false_eq_true, tDGs, sDPs, rIsB, rIsntB, tMeth, tMake, tDGet, sDPut, tFld, sFld, tDisp, tPairs, tNever, decide_true, decide_false, truV_bl, clsV_ty, V.ty.injEq, exists_eq', exists_eq, Bool.not_true, Bool.not_false, Bool.not_not, rLen, rListOf, rTupOf, rAny, rAll, rIsI, tTru, iRng1, iRng2, iList, tYes, cSt, List.drop_succ_cons, List.drop_zero, cxOf_K, cxC_K,  tBM, tBM0, rAppend, tSl, rSlL, tNoPart, tPart, rIxL, rIxT, rCat, List.cons.injEq, rEq_ii, rNe_ii, rEq_bb, rNe_bb, tSeq, exists_and_left, if_false, if_true, reduceIte, Bool.false_eq_true, tIfS, tAnd, tOr, tNot, tTest, tOp, tUn, tVar, tC, rI, rI0, rU, tRet, tRetN, tAsg, gName, tNext, tAndV, tOrV, tNotV, tIf, tCall, tCons, tNil, tCB, tDrop, tLst, tTup, tChain, L2.start, List.map_cons, List.map_nil, List.length_cons, List.length_nil, List.replicate, List.cons_append, List.nil_append, List.getElem?_cons_zero, List.getElem?_cons_succ, List.set_cons_zero, List.set_cons_succ, Option.some.injEq, exists_eq_left', exists_eq_left, V.int.injEq, V.bl.injEq, V.ref.injEq, V.str.injEq, exists_const, and_true, true_and, reduceCtorEq, false_and, exists_false, or_false, false_or, and_assoc, List.append_nil, ew6, hwl]
      have hnw : (N : Int) ∉ ws.map (·.num) := fun z => hna (I.bk.pm.mem_iff.mp z)
      have ewk : putK (wkv ws) (Sum.inl (N : Int)) (.ref p6) = wkv (ws ++ [⟨N, p6, k, (nums S k).length + 1, g, (putS S k N).length⟩]) := by
        rw [putK_new _ (valV_wn hnw)]
        unfold wkv
        rw [List.map_append]
        rfl
      have hp6 : H4 p6 = none := s5.fr n6
      have kW : Keep [a.pw] H6 (upd H6 a.pw (.dK (putK (wkv ws) (Sum.inl (N : Int)) (.ref p6)))) := Keep.refl.upd (.inl (.head _))
      have G6 := (G4.same s5).same s6
      have B6 := (B4.same s5).same s6
      have nwp : a.pw ≠ p6 := ne_of_none B4.wd hp6
      have hnp : ∀ q ∈ ws, q.addr ≠ p6 := fun q hq => ne_of_none (B4.rcd q hq) hp6
      refine q kvs' _ (ws ++ [⟨N, p6, k, (nums S k).length + 1, g, (putS S k N).length⟩]) _ ⟨G6.keep kW (noT1 (.of_dK ew6)) (by simp; exact ne_of G6.ins ew6 (by intro z; cases z)) (by simp; exact ne_of G6.row ew6 (by intro z; cases z)) (by simp; exact Ne.symm I.n1) (fun j p h => by
          obtain ⟨ys, hy⟩ := G6.list h
          simp
          exact ne_of hy ew6 (by intro z; cases z)), ⟨by rw [upd_same, ewk], fun q hq => ?_, ?_, ?_, ?_, fun q hq => ?_, by rw [upd_ne (Ne.symm B4.ne)]; exact B6.od, fun j u h => ?_, B4.ol, fun j => ?_, ?_, B4.ne, putS_ok B4.ok, fun q hq => ?_⟩, fun q hq => ?_, fun j hj => ?_, I.n1, I.n2, I.l1, I.l2, I.l3⟩ (fun q hq => ?_) (fun b o e hn => ?_)
      · rcases List.mem_append.mp hq with z | z
        · have hr := B6.rcd q z
          rw [upd_ne (ne_of hr ew6 (by intro z; cases z))]
          exact hr
        · rw [List.mem_singleton] at z
          subst z
          rw [upd_ne (Ne.symm nwp)]
          exact e6
      · rw [List.map_append, List.nodup_append]
        refine ⟨B4.an, by simp, fun c hc d hd => ?_⟩
        simp at hd
        subst hd
        obtain ⟨q, hq, rfl⟩ := List.mem_map.mp hc
        exact hnp q hq
      · rw [List.map_append]
        refine (List.perm_append_comm.trans ?_).trans putS_perm.symm
        exact List.Perm.cons _ B4.pm
      · refine putS_perm.nodup_iff.mpr (List.nodup_cons.mpr ⟨hna, B4.un⟩)
      · rcases List.mem_append.mp hq with z | z
        · exact (B4.rs q z).put
        · rw [List.mem_singleton] at z
          subst z
          exact Rec.new hnk
      · obtain ⟨z, h1, h2, h3⟩ := B4.ov j u h
        refine ⟨z, h1, by omega, fun n hn => ?_⟩
        rw [putS_nums] at hn
        split at hn
        · next e =>
          subst e
          rcases List.mem_append.mp hn with y | y
          · exact h3 n y
          · rw [List.mem_singleton] at y
            subst y
            exact h2
        · exact h3 n hn
      · rw [putS_nums]
        split
        · refine ⟨?_, fun n hn => ?_⟩
          · rw [List.pairwise_append]
            refine ⟨(B4.ns k).1, by simp, fun c hc d hd => ?_⟩
            rw [List.mem_singleton] at hd
            subst hd
            exact ((B4.ns k).2 c hc).2
          · rcases List.mem_append.mp hn with y | y
            · have := (B4.ns k).2 n y
              omega
            · rw [List.mem_singleton] at y
              subst y
              omega
        · refine ⟨(B4.ns j).1, fun n hn => ?_⟩
          have := (B4.ns j).2 n hn
          omega
      · have := putS_perm (S := S) (k := k) (v := N) |>.length_eq
        rw [List.length_cons] at this
        omega
      · rcases List.mem_append.mp hq with z | z
        · exact B4.pb q z
        · rw [List.mem_singleton] at z
          subst z
          dsimp only
          omega
      · rcases List.mem_append.mp hq with z | z
        · exact ap4 q z
        · rw [List.mem_singleton] at z
          subst z
          refine ⟨Ne.symm (ne_of_none G4.row hp6), fun j p h => ?_⟩
          obtain ⟨ys, hy⟩ := G4.list h
          exact ne_of_none hy hp6
      · rw [putS_keys] at hj
        split at hj
        · exact I.kr j hj
        · rcases List.mem_append.mp hj with z | z
          · exact I.kr j z
          · rw [List.mem_singleton] at z
            subst z
            exact ⟨k0, k1⟩
      · rcases List.mem_append.mp hq with z | z
        · exact .inl (List.mem_map_of_mem z)
        · rw [List.mem_singleton] at z
          subst z
          refine .inr (s13.fr (k4.free hp6 ?_))
          simp only [List.mem_cons, List.not_mem_nil, or_false, not_or]
          exact ⟨Ne.symm (ne_of_none G4.row hp6), Ne.symm (ne_of_none G4.kep hp6)⟩
      · have h4 := kT b o e hn
        unfold tch at hn
        simp only [List.cons_append, List.nil_append, List.mem_cons, not_or] at hn
        rw [upd_ne hn.2.2.1]
        exact s6 _ _ (s5 _ _ h4)
end
end K32
namespace K32
open PySem L2
section
variable {P : Program} {w : World} {K : PySem.W.Frag} {mg : Str → Option Value} {base : Heap} {C : Addr}
abbrev s_law : Stmt := top 9
theorem sc_law : FnScope ["_law_script", "_law_first", "_law_gate", "_law_few", "_law_waits", "_law_order", "_law_given_here", "_law_number", "_law_cell", "_law_ds", "_law_d", "_law_one", "_law_many", "_law_found"] ["_law_script"] (defScope s_law) := ⟨rfl, rfl, rfl, by decide +kernel, rfl, by decide +kernel, by decide +kernel⟩
def sp_law (K : PySem.W.Frag) : Sp := fun vs H Q _ => ∃ (a : Addr) (ns : List Int), vs = [.ref a] ∧ SqL K H a (ns.map V.int) ∧ ns.length ≤ 63 ∧ ∀ H', Q (.bl true) H'
structure Prot (a : Gh) (ws : List WR) (H : Hp) (c : Addr) (xs : List V) : Prop where
  e : H c = some (.lst xs)
  n1 : c ≠ a.pr
  n2 : c ∉ ws.map (·.addr)
theorem Prot.same {a : Gh} {ws : List WR} {H H' : Hp} {c : Addr} {xs : List V} (p : Prot a ws H c xs) (s : Same H H') : Prot a ws H' c xs := ⟨s _ _ p.e, p.n1, p.n2⟩
theorem Prot.out {a : Gh} {ws : List WR} {H : Hp} {c : Addr} {xs : List V} {kvs okv : List (Key × V)} {S : Rw} {g : Int} {N : Nat} (p : Prot a ws H c xs) (I : Iv C a kvs S ws okv g N H) : c ∉ tch a ws := by
  unfold tch
  simp only [List.cons_append, List.nil_append, List.mem_cons, not_or]
  exact ⟨p.n1, ne_of p.e I.gt.kep (by intro z; cases z), ne_of p.e I.bk.wd (by intro z; cases z), ne_of p.e I.bk.od (by intro z; cases z), p.n2⟩
theorem Prot.step {a : Gh} {ws ws' : List WR} {H H' : Hp} {c : Addr} {xs : List V} {kvs okv : List (Key × V)} {S : Rw} {g : Int} {N : Nat} (p : Prot a ws H c xs) (I : Iv C a kvs S ws okv g N H) (hw : ∀ q ∈ ws', q.addr ∈ ws.map (·.addr) ∨ H q.addr = none) (k : Keep (tch a ws) H H') : Prot a ws' H' c xs := by
  refine ⟨k _ _ p.e (p.out I), p.n1, fun z => ?_⟩
  obtain ⟨q, hq, rfl⟩ := List.mem_map.mp z
  rcases hw q hq with y | y
  · exact p.n2 y
  · rw [p.e] at y; cases y
theorem Prot.new {a : Gh} {ws : List WR} {H H' : Hp} {c : Addr} {xs : List V} {kvs okv : List (Key × V)} {S : Rw} {g : Int} {N : Nat} (I : Iv C a kvs S ws okv g N H) (h : H c = none) (e : H' c = some (.lst xs)) : Prot a ws H' c xs := by
  refine ⟨e, Ne.symm (ne_of_none I.gt.row h), fun z => ?_⟩
  obtain ⟨q, hq, rfl⟩ := List.mem_map.mp z
  have := I.bk.rcd q hq
  rw [h] at this
  cases this
theorem outS_keys : ∀ {n : Nat} {S : Rw} {k : Int}, k ∈ (outS n S).2.map (·.1) → k ∈ S.map (·.1)
  | 0, S, k, h => h
  | n + 1, [], k, h => h
  | n + 1, (j, []) :: r, k, h => h
  | n + 1, (j, v :: vs) :: r, k, h => by
    unfold outS at h
    have h1 := outS_keys h
    unfold nextS at h1
    rw [List.map_cons, List.mem_cons]
    split at h1
    · exact .inr h1
    · rw [List.map_append] at h1
      rcases List.mem_append.mp h1 with z | z
      · exact .inr z
      · simp at z
        exact .inl z
theorem nodup_len : ∀ (n : Nat) (l : List Int), l.Nodup → (∀ x ∈ l, 0 ≤ x ∧ x < (n : Int)) → l.length ≤ n
  | 0, [], _, _ => Nat.le_refl _
  | 0, x :: _, _, h => by have := h x (.head _); omega
  | n + 1, l, nd, h => by
    by_cases hm : (n : Int) ∈ l
    · have e := List.length_erase_of_mem hm
      have hp : 0 < l.length := List.length_pos_of_mem hm
      have := nodup_len n (l.erase (n : Int)) (nd.erase _) fun x hx => by
        have h1 := (nd.mem_erase_iff).mp hx
        have h2 := h x h1.2
        have := h1.1
        omega
      omega
    · have := nodup_len n l nd fun x hx => by
        have h2 := h x hx
        have : x ≠ (n : Int) := fun z => hm (z ▸ hx)
        omega
      omega
theorem allN_le {S : Rw} {b : Nat} (h : ∀ q ∈ S, q.2.length ≤ b) : (allN S).length ≤ S.length * b := by
  induction S with
  | nil => simp [allN]
  | cons q r ih =>
    have h1 := h q (.head _)
    have h2 := ih fun q hq => h q (.tail _ hq)
    unfold allN at h2 ⊢
    rw [List.flatMap_cons, List.length_append, List.length_cons, Nat.succ_mul]
    omega
theorem Iv.total {a : Gh} {kvs okv : List (Key × V)} {S : Rw} {ws : List WR} {g : Int} {N : Nat} {H : Hp} (I : Iv C a kvs S ws okv g N H) : (allN S).length ≤ 192 := by
  have h1 : S.length ≤ 12 := by
    have := nodup_len 12 (S.map (·.1)) I.gt.ok.nd fun k hk => by have := I.kr k hk; have := I.l3; omega
    rw [List.length_map] at this
    exact this
  have h2 := allN_le (S := S) (b := 16) fun q hq => by
    have := I.gt.few q.1
    rw [nums_of I.gt.ok.nd hq] at this
    have := I.l2
    omega
  have : S.length * 16 ≤ 12 * 16 := Nat.mul_le_mul_right _ h1
  omega
theorem cutV_60 (xs : List V) : (cutV xs (some 1) (some 61)).length ≤ 60 := by
  unfold cutV
  rw [List.length_take]
  have e1 : HT.sIx xs.length xs.length (some 61) = min 61 xs.length := HT.sIx_nat _ _ 61
  have e2 : HT.sIx xs.length 0 (some 1) = min 1 xs.length := HT.sIx_nat _ _ 1
  rw [e1, e2]
  omega
def sg (sc : Addr) (r : Int) (a : Gh) (g : Int) (N : Nat) (v8 v9 v10 v11 v12 v13 : Option V) : St := [some (.ref sc), some (.int r), some (.ref a.x), some (.int a.few), some (.ref a.pw), some (.ref a.po), some (.int g), some (.int N), v8, v9, v10, v11, v12, v13]
def Pm0 (C sc : Addr) (H : Hp) (σ : St) (H' : Hp) : Prop := ∃ r a, σ = sg sc r a 0 0 none none none none none none ∧ Iv C a [] [] [] [] 0 0 H' ∧ Same H H' ∧ 1 ≤ a.few
def Lw (C sc pc : Addr) (r : Int) (a : Gh) (xs : List V) (n : Nat) (i : Nat) (σ : St) (H' : Hp) : Prop := ∃ kvs S ws okv g N v8 v9 v10 v11 v12 v13, σ = sg sc r a g N v8 v9 v10 v11 v12 v13 ∧ Iv C a kvs S ws okv g N H' ∧ Prot a ws H' pc xs ∧ N ≤ 7 * i ∧ 0 ≤ g ∧ (n < i → S = [])
def Li (C sc pc pd ps : Addr) (r : Int) (a : Gh) (xs zs ds : List V) (cell : V) (g : Int) (N0 : Nat) (i : Nat) (σ : St) (H' : Hp) : Prop := ∃ kvs S ws okv v10 v11 v12 v13, σ = sg sc r a g (N0 + i) (some cell) (some (.ref pd)) v10 v11 v12 v13 ∧ Iv C a kvs S ws okv g (N0 + i) H' ∧ Prot a ws H' pc xs ∧ Prot a ws H' ps zs ∧ Prot a ws H' pd ds
def PmB (C sc pc pd : Addr) (r : Int) (a : Gh) (xs ds : List V) (cell : V) (n0 : Nat) (σ : St) (H' : Hp) : Prop := ∃ kvs S ws okv g N v10 v11 v12 v13, σ = sg sc r a g N (some cell) (some (.ref pd)) v10 v11 v12 v13 ∧ Iv C a kvs S ws okv g N H' ∧ Prot a ws H' pc xs ∧ Prot a ws H' pd ds ∧ N ≤ n0 ∧ 0 ≤ g
def PmC (C sc pc pd : Addr) (r : Int) (a : Gh) (xs ds : List V) (cell : V) (n0 : Nat) (σ : St) (H' : Hp) : Prop := ∃ kvs S ws okv g N v10 v11 v12 v13, σ = sg sc r a g N (some cell) (some (.ref pd)) v10 v11 v12 v13 ∧ Iv C a kvs S ws okv g N H' ∧ (∀ q ∈ ws, (S.length : Int) ≤ q.keys) ∧ Prot a ws H' pc xs ∧ Prot a ws H' pd ds ∧ N ≤ n0 ∧ 0 ≤ g
def upq (L : Nat) (q : WR) : WR := { q with keys := if (L : Int) > q.keys then (L : Int) else q.keys }
def Lu (C sc pd : Addr) (r : Int) (a : Gh) (kvs : List (Key × V)) (S : Rw) (ws : List WR) (okv : List (Key × V)) (g : Int) (N : Nat) (H7 : Hp) (o : Obj) (cell : V) (v10 v12 v13 : Option V) (t : Nat) (σ : St) (H' : Hp) : Prop := ∃ v11, σ = sg sc r a g N (some cell) (some (.ref pd)) v10 v11 v12 v13 ∧ H' a.pw = some (.frz o (.dK (wkv ws))) ∧ GateAt C H' a.x a.dx a.pr a.pk a.pl kvs S N ∧ H' a.po = some (.dK okv) ∧
  (∀ u q, ws[u]? = some q → H' q.addr = some (.lst [.int q.key, .int q.place, .int q.came, .int (if u < t then (if (S.length : Int) > q.keys then (S.length : Int) else q.keys) else q.keys)])) ∧ Keep (tch a ws) H7 H'
set_option maxHeartbeats 8000000 in
theorem law_fn {f : Addr} {fd : FuncData} (F : Fun K "law" "law" s_law f fd) (hb : Blt mg) (T_Gate : ClsD K mg "Gate" C at_Gate) (I_Gate : OwnI P w K mg base 1 C ["self", "places"] (sp_ginit C)) (M_Gate_waiting : OwnM P w K mg base 1 C "waiting" ["self"] (sp_waiting C)) (M_Gate_out : OwnM P w K mg base 2 C "out" ["self", "many"] (sp_out C))
    (F__law_cell_at : Own P w K mg base 1 "_law_cell_at" ["_law_script", "_law_k"] (sp_cell K)) (F__law_digits : Own P w K mg base 1 "_law_digits" ["_law_cell", "_law_size", "_law_many"] sp_digits) (F__law_put : Own P w K mg base 7 "_law_put" ["_law_gate", "_law_key", "_law_number", "_law_waits", "_law_given_here"] (sp_lput C))
    (F__law_given : Own P w K mg base 1 "_law_given" ["_law_found", "_law_waits", "_law_given_here", "_law_order", "_law_most"] sp_given) : FnOk P w K mg base CX0 8 f fd ["_law_script"] (sp_law K) := by
  refine F.ok sc_law (fun vs H Q E h => ?_) (fun cdv A outer s H vs Q E hr h => ?_)
  · obtain ⟨a, ns, rfl, _⟩ := h
    rfl
  · obtain ⟨sc, ns, rfl, hS, h63, q⟩ := h
    have hu := hr.units
    have hu1 : (A.deeper (PyProof.Rows.envOfC "law" (defScope s_law) s.heap.objs.size f cdv)).units + 1 < cLine := by omega
    refine ⟨_, (@pss_cons _ _ _ _ _ (@ps_set _ _ 1 _ _ _ _ sc_law.nd rfl (by first | exact Or.inl rfl | exact Or.inr rfl) (@pe_fn _ _ _ _ _ _ _ _ _ _ _ F__law_cell_at hr (@pa_cX _ _ _ _ _ (@pv _ 0 _ _ (by rfl) (by first | exact Or.inl rfl | exact Or.inr (Or.inl rfl) | exact Or.inr (Or.inr rfl)) (by decide) (by decide)) (@pa_cX _ _ _ _ _ (@pe_int _ _ _ _) (@pa_nil _) (by rfl)) (by rfl)) (by decide) (by rfl) (by decide) (by rfl) (by rfl)) (by rfl) (by first | exact .inl rfl | exact .inr rfl | assumption)) (@pss_cons _ _ _ _ _ (@ps_set _ _ 2 _ _ _ _ sc_law.nd rfl (by first | exact Or.inl rfl | exact Or.inr rfl) (@pe_mak _ _ _ _ _ _ _ _ _ _ _ _ I_Gate hr T_Gate.mgC (@pa_cX _ _ _ _ _ (@pe_op _ _ _ _ _ _ _ _ op_add (@pe_int _ _ _ _) (@pe_op _ _ _ _ _ _ _ _ op_mod (@pv _ 1 _ _ (by rfl) (by first | exact Or.inl rfl | exact Or.inr (Or.inl rfl) | exact Or.inr (Or.inr rfl)) (by decide) (by decide)) (@pe_int _ _ _ _))) (@pa_nil _) (by rfl)) (by decide) (by rfl) (by decide) (by rfl) (by rfl)) (by rfl) (by first | exact .inl rfl | exact .inr rfl | assumption)) (@pss_cons _ _ _ _ _ (@ps_set _ _ 3 _ _ _ _ sc_law.nd rfl (by first | exact Or.inl rfl | exact Or.inr rfl) (@pe_op _ _ _ _ _ _ _ _ op_add (@pe_int _ _ _ _) (@pe_op _ _ _ _ _ _ _ _ op_mod (@pe_op _ _ _ _ _ _ _ _ op_fdiv (@pv _ 1 _ _ (by rfl) (by first | exact Or.inl rfl | exact Or.inr (Or.inl rfl) | exact Or.inr (Or.inr rfl)) (by decide) (by decide)) (@pe_int _ _ _ _)) (@pe_int _ _ _ _))) (by rfl) (by first | exact .inl rfl | exact .inr rfl | assumption)) (@pss_cons _ _ _ _ _ (@ps_set _ _ 4 _ _ _ _ sc_law.nd rfl (by first | exact Or.inl rfl | exact Or.inr rfl) (@pe_dnewK _ _) (by rfl) (by first | exact .inl rfl | exact .inr rfl | assumption)) (@pss_cons _ _ _ _ _ (@ps_set _ _ 5 _ _ _ _ sc_law.nd rfl (by first | exact Or.inl rfl | exact Or.inr rfl) (@pe_dnewK _ _) (by rfl) (by first | exact .inl rfl | exact .inr rfl | assumption)) (@pss_cons _ _ _ _ _ (@ps_set _ _ 6 _ _ _ _ sc_law.nd rfl (by first | exact Or.inl rfl | exact Or.inr rfl) (@pe_int _ _ _ _) (by rfl) (by first | exact .inl rfl | exact .inr rfl | assumption)) (@pss_cons _ _ _ _ _ (@ps_set _ _ 7 _ _ _ _ sc_law.nd rfl (by first | exact Or.inl rfl | exact Or.inr rfl) (@pe_int _ _ _ _) (by rfl) (by first | exact .inl rfl | exact .inr rfl | assumption)) (@pss_cons _ _ _ _ _ (@ps_for _ _ _ _ _ _ _ _ PassesOwn.never rfl (@pi_listK _ K _ _ _ (@pe_op _ _ _ _ _ _ _ _ op_cat (@pe_slice _ _ _ _ _ _ _ _ _ _ (sl_listK K) (@pv _ 0 _ _ (by rfl) (by first | exact Or.inl rfl | exact Or.inr (Or.inl rfl) | exact Or.inr (Or.inr rfl)) (by decide) (by decide)) (@po_some _ _ _ (@pe_int _ _ _ _)) (@po_some _ _ _ (@pe_int _ _ _ _))) (@pe_lst _ _ _ _ (@pa_cX _ _ _ _ _ (@pe_int _ _ _ _) (@pa_nil _) (by rfl)))) (by rfl)) (@pg_name _ _ 8 _ sc_law.nd rfl (by first | exact Or.inl rfl | exact Or.inr rfl) (by first | exact .inl rfl | exact .inr rfl | assumption)) (@pss_cons _ _ _ _ _ (@ps_set _ _ 9 _ _ _ _ sc_law.nd rfl (by first | exact Or.inl rfl | exact Or.inr rfl) (@pe_fn _ _ _ _ _ _ _ _ _ _ _ F__law_digits hr (@pa_cX _ _ _ _ _ (@pv _ 8 _ _ (by rfl) (by first | exact Or.inl rfl | exact Or.inr (Or.inl rfl) | exact Or.inr (Or.inr rfl)) (by decide) (by decide)) (@pa_cX _ _ _ _ _ (@pe_int _ _ _ _) (@pa_cX _ _ _ _ _ (@pe_int _ _ _ _) (@pa_nil _) (by rfl)) (by rfl)) (by rfl)) (by decide) (by rfl) (by decide) (by rfl) (by rfl)) (by rfl) (by first | exact .inl rfl | exact .inr rfl | assumption)) (@pss_cons _ _ _ _ _ (@ps_for _ _ _ _ _ _ _ _ PassesOwn.never rfl (@pi_listK _ K _ _ _ (@pe_slice _ _ _ _ _ _ _ _ _ _ sl_X (@pv _ 9 _ _ (by rfl) (by first | exact Or.inl rfl | exact Or.inr (Or.inl rfl) | exact Or.inr (Or.inr rfl)) (by decide) (by decide)) (@po_some _ _ _ (@pe_int _ _ _ _)) (@po_some _ _ _ (@pe_op _ _ _ _ _ _ _ _ op_add (@pe_int _ _ _ _) (@pe_op _ _ _ _ _ _ _ _ op_mod (@pe_ix _ _ _ _ _ _ _ (ix_get hu1) (@pv _ 9 _ _ (by rfl) (by first | exact Or.inl rfl | exact Or.inr (Or.inl rfl) | exact Or.inr (Or.inr rfl)) (by decide) (by decide)) (@pe_int _ _ _ _) (fun _ _ => rfl)) (@pe_int _ _ _ _))))) (by rfl)) (@pg_name _ _ 10 _ sc_law.nd rfl (by first | exact Or.inl rfl | exact Or.inr rfl) (by first | exact .inl rfl | exact .inr rfl | assumption)) (@pss_cons _ _ _ _ _ (@ps_expr _ _ _ _ (@pe_fn _ _ _ _ _ _ _ _ _ _ _ F__law_put hr (@pa_cX _ _ _ _ _ (@pv _ 2 _ _ (by rfl) (by first | exact Or.inl rfl | exact Or.inr (Or.inl rfl) | exact Or.inr (Or.inr rfl)) (by decide) (by decide)) (@pa_cX _ _ _ _ _ (@pe_op _ _ _ _ _ _ _ _ op_mod (@pv _ 10 _ _ (by rfl) (by first | exact Or.inl rfl | exact Or.inr (Or.inl rfl) | exact Or.inr (Or.inr rfl)) (by decide) (by decide)) (@pv _ 3 _ _ (by rfl) (by first | exact Or.inl rfl | exact Or.inr (Or.inl rfl) | exact Or.inr (Or.inr rfl)) (by decide) (by decide))) (@pa_cX _ _ _ _ _ (@pv _ 7 _ _ (by rfl) (by first | exact Or.inl rfl | exact Or.inr (Or.inl rfl) | exact Or.inr (Or.inr rfl)) (by decide) (by decide)) (@pa_cX _ _ _ _ _ (@pv _ 4 _ _ (by rfl) (by first | exact Or.inl rfl | exact Or.inr (Or.inl rfl) | exact Or.inr (Or.inr rfl)) (by decide) (by decide)) (@pa_cX _ _ _ _ _ (@pv _ 6 _ _ (by rfl) (by first | exact Or.inl rfl | exact Or.inr (Or.inl rfl) | exact Or.inr (Or.inr rfl)) (by decide) (by decide)) (@pa_nil _) (by rfl)) (by rfl)) (by rfl)) (by rfl)) (by rfl)) (by decide) (by rfl) (by decide) (by rfl) (by rfl)) (by rfl)) (@pss_one _ _ _ (@ps_set _ _ 7 _ _ _ _ sc_law.nd rfl (by first | exact Or.inl rfl | exact Or.inr rfl) (@pe_op _ _ _ _ _ _ _ _ op_add (@pv _ 7 _ _ (by rfl) (by first | exact Or.inl rfl | exact Or.inr (Or.inl rfl) | exact Or.inr (Or.inr rfl)) (by decide) (by decide)) (@pe_int _ _ _ _)) (by rfl) (by first | exact .inl rfl | exact .inr rfl | assumption)))) (by intro _; rfl)) (@pss_cons _ _ _ _ _ (@ps_unf _ _ _ (@ps_for _ _ _ _ _ _ _ _ PassesOwn.never rfl (@pi_dval _ _ _ _ _ _ (@pv _ 4 _ _ (by rfl) (by first | exact Or.inl rfl | exact Or.inr (Or.inl rfl) | exact Or.inr (Or.inr rfl)) (by decide) (by decide)) (by rfl) (by rfl)) (@pg_name _ _ 11 _ sc_law.nd rfl (by first | exact Or.inl rfl | exact Or.inr rfl) (by first | exact .inl rfl | exact .inr rfl | assumption)) (@pss_one _ _ _ (@ps_asg _ _ _ _ _ _ (@pe_callB _ _ _ _ _ _ _ _ _ (call_max2 rfl) rfl (hb _ (by decide)) bt_max (@pa_cX _ _ _ _ _ (@pe_ix _ _ _ _ _ _ _ (ix_get hu1) (@pv _ 11 _ _ (by rfl) (by first | exact Or.inl rfl | exact Or.inr (Or.inl rfl) | exact Or.inr (Or.inr rfl)) (by decide) (by decide)) (@pe_int _ _ _ _) (fun _ _ => rfl)) (@pa_cX _ _ _ _ _ (@pe_callB _ _ _ _ _ _ _ _ _ call_lenX rfl (hb _ (by decide)) bt_len (@pa_cX _ _ _ _ _ (@pe_mth0 _ _ _ _ _ _ _ _ _ _ _ _ M_Gate_waiting T_Gate.cl hr (@pv _ 2 _ _ (by rfl) (by first | exact Or.inl rfl | exact Or.inr (Or.inl rfl) | exact Or.inr (Or.inr rfl)) (by decide) (by decide)) (by decide) (by rfl)) (@pa_nil _) (by rfl)) (by decide) (by decide) (by rfl) (by rfl)) (@pa_nil _) (by rfl)) (by rfl)) (by decide) (by decide) (by rfl) (by rfl)) (@pg_sub _ _ _ _ _ _ _ (@pv _ 11 _ _ (by rfl) (by first | exact Or.inl rfl | exact Or.inr (Or.inl rfl) | exact Or.inr (Or.inr rfl)) (by decide) (by decide)) (@pe_int _ _ _ _) (@set_x _ hu1) (by intro _; rfl)) (by rfl) (by rfl) (by rfl))) (by intro _; rfl))) (@pss_cons _ _ _ _ _ (@ps_set _ _ 12 _ _ _ _ sc_law.nd rfl (by first | exact Or.inl rfl | exact Or.inr rfl) (@pe_op _ _ _ _ _ _ _ _ op_mod (@pe_ix _ _ _ _ _ _ _ (ix_get hu1) (@pv _ 9 _ _ (by rfl) (by first | exact Or.inl rfl | exact Or.inr (Or.inl rfl) | exact Or.inr (Or.inr rfl)) (by decide) (by decide)) (@pe_int _ _ _ _) (fun _ _ => rfl)) (@pe_ix _ _ _ _ _ _ _ (ix_get hu1) (@pe_lst _ _ _ _ (@pa_cX _ _ _ _ _ (@pe_int _ _ _ _) (@pa_cX _ _ _ _ _ (@pe_int _ _ _ _) (@pa_cX _ _ _ _ _ (@pe_int _ _ _ _) (@pa_nil _) (by rfl)) (by rfl)) (by rfl))) (@pe_op _ _ _ _ _ _ _ _ op_mod (@pe_op _ _ _ _ _ _ _ _ op_fdiv (@pv _ 1 _ _ (by rfl) (by first | exact Or.inl rfl | exact Or.inr (Or.inl rfl) | exact Or.inr (Or.inr rfl)) (by decide) (by decide)) (@pe_int _ _ _ _)) (@pe_int _ _ _ _)) (fun _ _ => rfl))) (by rfl) (by first | exact .inl rfl | exact .inr rfl | assumption)) (@pss_cons _ _ _ _ _ (@ps_if _ _ _ _ _ _ _ _ (@pt_cmpR _ _ _ _ _ _ _ _ op_eq (@pv _ 8 _ _ (by rfl) (by first | exact Or.inl rfl | exact Or.inr (Or.inl rfl) | exact Or.inr (Or.inr rfl)) (by decide) (by decide)) (@pe_int _ _ _ _) (nomark _)) (@pss_one _ _ _ (@ps_set _ _ 12 _ _ _ _ sc_law.nd rfl (by first | exact Or.inl rfl | exact Or.inr rfl) (@pe_op _ _ _ _ _ _ _ _ op_mul (@pe_int _ _ _ _) (@pe_int _ _ _ _)) (by rfl) (by first | exact .inl rfl | exact .inr rfl | assumption))) (@pss_nil _)) (@pss_cons _ _ _ _ _ (@ps_set _ _ 13 _ _ _ _ sc_law.nd rfl (by first | exact Or.inl rfl | exact Or.inr rfl) (@pe_mth _ _ _ _ _ _ _ _ _ _ _ _ _ _ _ M_Gate_out T_Gate.cl hr (@pv _ 2 _ _ (by rfl) (by first | exact Or.inl rfl | exact Or.inr (Or.inl rfl) | exact Or.inr (Or.inr rfl)) (by decide) (by decide)) (@pa_cX _ _ _ _ _ (@pv _ 12 _ _ (by rfl) (by first | exact Or.inl rfl | exact Or.inr (Or.inl rfl) | exact Or.inr (Or.inr rfl)) (by decide) (by decide)) (@pa_nil _) (by rfl)) (by decide) (by rfl) (by rfl) (by rfl)) (by rfl) (by first | exact .inl rfl | exact .inr rfl | assumption)) (@pss_cons _ _ _ _ _ (@ps_if _ _ _ _ _ _ _ _ (@pt_cmpR _ _ _ _ _ _ _ _ op_ne (@pe_callB _ _ _ _ _ _ _ _ _ call_lenX rfl (hb _ (by decide)) bt_len (@pa_cX _ _ _ _ _ (@pv _ 13 _ _ (by rfl) (by first | exact Or.inl rfl | exact Or.inr (Or.inl rfl) | exact Or.inr (Or.inr rfl)) (by decide) (by decide)) (@pa_nil _) (by rfl)) (by decide) (by decide) (by rfl) (by rfl)) (@pe_callB _ _ _ _ _ _ _ _ _ (call_min2 rfl) rfl (hb _ (by decide)) bt_min (@pa_cX _ _ _ _ _ (@pv _ 12 _ _ (by rfl) (by first | exact Or.inl rfl | exact Or.inr (Or.inl rfl) | exact Or.inr (Or.inr rfl)) (by decide) (by decide)) (@pa_cX _ _ _ _ _ (@pe_callB _ _ _ _ _ _ _ _ _ call_lenX rfl (hb _ (by decide)) bt_len (@pa_cX _ _ _ _ _ (@pv _ 4 _ _ (by rfl) (by first | exact Or.inl rfl | exact Or.inr (Or.inl rfl) | exact Or.inr (Or.inr rfl)) (by decide) (by decide)) (@pa_nil _) (by rfl)) (by decide) (by decide) (by rfl) (by rfl)) (@pa_nil _) (by rfl)) (by rfl)) (by decide) (by decide) (by rfl) (by rfl)) (nomark _)) (@pss_one _ _ _ (@ps_ret _ _ _ _ (@pe_bl _ _ _ _))) (@pss_nil _)) (@pss_cons _ _ _ _ _ (@ps_set _ _ 6 _ _ _ _ sc_law.nd rfl (by first | exact Or.inl rfl | exact Or.inr rfl) (@pe_fn _ _ _ _ _ _ _ _ _ _ _ F__law_given hr (@pa_cX _ _ _ _ _ (@pv _ 13 _ _ (by rfl) (by first | exact Or.inl rfl | exact Or.inr (Or.inl rfl) | exact Or.inr (Or.inr rfl)) (by decide) (by decide)) (@pa_cX _ _ _ _ _ (@pv _ 4 _ _ (by rfl) (by first | exact Or.inl rfl | exact Or.inr (Or.inl rfl) | exact Or.inr (Or.inr rfl)) (by decide) (by decide)) (@pa_cX _ _ _ _ _ (@pv _ 6 _ _ (by rfl) (by first | exact Or.inl rfl | exact Or.inr (Or.inl rfl) | exact Or.inr (Or.inr rfl)) (by decide) (by decide)) (@pa_cX _ _ _ _ _ (@pv _ 5 _ _ (by rfl) (by first | exact Or.inl rfl | exact Or.inr (Or.inl rfl) | exact Or.inr (Or.inr rfl)) (by decide) (by decide)) (@pa_cX _ _ _ _ _ (@pe_int _ _ _ _) (@pa_nil _) (by rfl)) (by rfl)) (by rfl)) (by rfl)) (by rfl)) (by decide) (by rfl) (by decide) (by rfl) (by rfl)) (by rfl) (by first | exact .inl rfl | exact .inr rfl | assumption)) (@pss_one _ _ _ (@ps_if _ _ _ _ _ _ _ _ (@pt_cmpR _ _ _ _ _ _ _ _ op_isN (@pv _ 6 _ _ (by rfl) (by first | exact Or.inl rfl | exact Or.inr (Or.inl rfl) | exact Or.inr (Or.inr rfl)) (by decide) (by decide)) (@pe_non _ _ _) (nomark _)) (@pss_one _ _ _ (@ps_ret _ _ _ _ (@pe_bl _ _ _ _))) (@pss_nil _))))))))))) (by intro _; rfl)) (@pss_one _ _ _ (@ps_ret _ _ _ _ (@pe_and _ _ _ _ _ _ _ (@pe_cmpR _ _ _ _ _ _ _ _ (op_eqD0 hu) (@pv _ 4 _ _ (by rfl) (by first | exact Or.inl rfl | exact Or.inr (Or.inl rfl) | exact Or.inr (Or.inr rfl)) (by decide) (by decide)) (@pe_dnewK _ _) (nomark _)) (@pe_and _ _ _ _ _ _ _ (@pe_cmpR _ _ _ _ _ _ _ _ (op_eqX hu) (@pe_mth0 _ _ _ _ _ _ _ _ _ _ _ _ M_Gate_waiting T_Gate.cl hr (@pv _ 2 _ _ (by rfl) (by first | exact Or.inl rfl | exact Or.inr (Or.inl rfl) | exact Or.inr (Or.inr rfl)) (by decide) (by decide)) (by decide) (by rfl)) (@pe_lst _ _ _ _ (@pa_nil _)) (nomark _)) (@pe_one _ _ _ _ _ (@pe_cmpR _ _ _ _ _ _ _ _ (op_eqX hu) (@pe_mth _ _ _ _ _ _ _ _ _ _ _ _ _ _ _ M_Gate_out T_Gate.cl hr (@pv _ 2 _ _ (by rfl) (by first | exact Or.inl rfl | exact Or.inr (Or.inl rfl) | exact Or.inr (Or.inr rfl)) (by decide) (by decide)) (@pa_cX _ _ _ _ _ (@pe_int _ _ _ _) (@pa_nil _) (by rfl)) (by decide) (by rfl) (by rfl) (by rfl)) (@pe_lst _ _ _ _ (@pa_nil _)) (nomark _))))))))))))))), ?_⟩
    refine use7 (Pm0 C sc H) ?key ?go
    case go =>
      intro R' hR
      simp (maxSteps := 1000000) only [tFor_eq, tComp_eq, rRngs, rListR, HO.rng.injEq, tDKeys, rSortL, rSortK, ixN_10, ixN_20, ixN_21, ixN_30, ixN_31, ixN_32, ixN_40, ixN_41, ixN_42, ixN_43, ixN_50, ixN_51, ixN_52, ixN_53, ixN_54, rNe_nn, rEq_nn, rNe_in, rEq_in, rNe_ni, rEq_ni, gSeqX, rLeS, rEq_ss, rNe_ss, rStr1, rAllX, rAnyX, rListD, iStr, rSumX, tBL, tBL0, rExtend, rPopAt, rPop, rReverse, rClear, rIsIX, tyX_n, tyX_b, tyX_i, tyX_s, tyX_r, tyO_l, tyO_t, tyO_d, V.ty.injEq, kT_Noin, kT_Nobo, kT_Nost, kT_Noli, kT_Notu, kT_Nodi, kT_boin, kT_bobo, kT_bost, kT_boli, kT_botu, kT_bodi, kT_inin, kT_inbo, kT_inst, kT_inli, kT_intu, kT_indi, kT_stin, kT_stbo, kT_stst, kT_stli, kT_sttu, kT_stdi, kT_liin, kT_libo, kT_list, kT_lili, kT_litu, kT_lidi, kT_tuin, kT_tubo, kT_tust, kT_tuli, kT_tutu, kT_tudi, kT_diin, kT_dibo, kT_dist, kT_dili, kT_ditu, kT_didi, rGet, getO_l, getO_t, getO_di, getO_ds, rLenX, lenX_r, lenX_s', lenO_l, lenO_t, lenO_d, Option.bind_some, tTruX, truX_n, truX_b, truX_i, truX_r, truO_l, truO_t, truO_d, rInX, rNotInX, inO_l', inO_t', inO_di, inO_ds, rSetX, setO_l, setO_di', setO_ds', rSlX, rListX, seqO_l, seqO_t, rTupX, gTupX, gCons, gNil, gSub, atI_0, atI_1, atI_2, atI_3, tDNewK, Nat.reduceSub, upd_same, upd_upd, Nat.reduceLT, HO.lst.injEq, HO.tup.injEq, HO.dK.injEq, HO.ins.injEq, Option.map_some, Option.isSome_some, Int.reduceEq, Int.reduceLT, Int.reduceLE, Nat.reduceAdd, List.isEmpty_nil, List.isEmpty_cons, ne_eq, not_false_eq_true, tDGs, sDPs, rIsB, rIsntB, tMeth, tMake, tDGet, sDPut, tFld, sFld, tDisp, tPairs, tNever, decide_true, decide_false, truV_bl, clsV_ty, V.ty.injEq, exists_eq', exists_eq, Bool.not_true, Bool.not_false, Bool.not_not, rLen, rListOf, rTupOf, rAny, rAll, rIsI, tTru, iRng1, iRng2, iList, tYes, cSt, List.drop_succ_cons, List.drop_zero, cxOf_K, cxC_K,  tBM, tBM0, rAppend, tSl, rSlL, tNoPart, tPart, rIxL, rIxT, rCat, List.cons.injEq, rEq_ii, rNe_ii, rEq_bb, rNe_bb, tSeq, exists_and_left, if_false, if_true, reduceIte, Bool.false_eq_true, tIfS, tAnd, tOr, tNot, tTest, tOp, tUn, tVar, tC, rI, rI0, rU, tRet, tRetN, tAsg, gName, tNext, tAndV, tOrV, tNotV, tIf, tCall, tCons, tNil, tCB, tDrop, tLst, tTup, tChain, L2.start, List.map_cons, List.map_nil, List.length_cons, List.length_nil, List.replicate, List.cons_append, List.nil_append, List.getElem?_cons_zero, List.getElem?_cons_succ, List.set_cons_zero, List.set_cons_succ, Option.some.injEq, exists_eq_left', exists_eq_left, V.int.injEq, V.bl.injEq, V.ref.injEq, V.str.injEq, exists_const, and_true, true_and, reduceCtorEq, false_and, exists_false, or_false, false_or, and_assoc, List.append_nil]
      refine ⟨sc, ns, 0, rfl, by decide, hS, fun r => ?_⟩
      simp (maxSteps := 1000000) only [tFor_eq, tComp_eq, rRngs, rListR, HO.rng.injEq, tDKeys, rSortL, rSortK, ixN_10, ixN_20, ixN_21, ixN_30, ixN_31, ixN_32, ixN_40, ixN_41, ixN_42, ixN_43, ixN_50, ixN_51, ixN_52, ixN_53, ixN_54, rNe_nn, rEq_nn, rNe_in, rEq_in, rNe_ni, rEq_ni, gSeqX, rLeS, rEq_ss, rNe_ss, rStr1, rAllX, rAnyX, rListD, iStr, rSumX, tBL, tBL0, rExtend, rPopAt, rPop, rReverse, rClear, rIsIX, tyX_n, tyX_b, tyX_i, tyX_s, tyX_r, tyO_l, tyO_t, tyO_d, V.ty.injEq, kT_Noin, kT_Nobo, kT_Nost, kT_Noli, kT_Notu, kT_Nodi, kT_boin, kT_bobo, kT_bost, kT_boli, kT_botu, kT_bodi, kT_inin, kT_inbo, kT_inst, kT_inli, kT_intu, kT_indi, kT_stin, kT_stbo, kT_stst, kT_stli, kT_sttu, kT_stdi, kT_liin, kT_libo, kT_list, kT_lili, kT_litu, kT_lidi, kT_tuin, kT_tubo, kT_tust, kT_tuli, kT_tutu, kT_tudi, kT_diin, kT_dibo, kT_dist, kT_dili, kT_ditu, kT_didi, rGet, getO_l, getO_t, getO_di, getO_ds, rLenX, lenX_r, lenX_s', lenO_l, lenO_t, lenO_d, Option.bind_some, tTruX, truX_n, truX_b, truX_i, truX_r, truO_l, truO_t, truO_d, rInX, rNotInX, inO_l', inO_t', inO_di, inO_ds, rSetX, setO_l, setO_di', setO_ds', rSlX, rListX, seqO_l, seqO_t, rTupX, gTupX, gCons, gNil, gSub, atI_0, atI_1, atI_2, atI_3, tDNewK, Nat.reduceSub, upd_same, upd_upd, Nat.reduceLT, HO.lst.injEq, HO.tup.injEq, HO.dK.injEq, HO.ins.injEq, Option.map_some, Option.isSome_some, Int.reduceEq, Int.reduceLT, Int.reduceLE, Nat.reduceAdd, List.isEmpty_nil, List.isEmpty_cons, ne_eq, not_false_eq_true, tDGs, sDPs, rIsB, rIsntB, tMeth, tMake, tDGet, sDPut, tFld, sFld, tDisp, tPairs, tNever, decide_true, decide_false, truV_bl, clsV_ty, V.ty.injEq, exists_eq', exists_eq, Bool.not_true, Bool.not_false, Bool.not_not, rLen, rListOf, rTupOf, rAny, rAll, rIsI, tTru, iRng1, iRng2, iList, tYes, cSt, List.drop_succ_cons, List.drop_zero, cxOf_K, cxC_K,  tBM, tBM0, rAppend, tSl, rSlL, tNoPart, tPart, rIxL, rIxT, rCat, List.cons.injEq, rEq_ii, rNe_ii, rEq_bb, rNe_bb, tSeq, exists_and_left, if_false, if_true, reduceIte, Bool.false_eq_true, tIfS, tAnd, tOr, tNot, tTest, tOp, tUn, tVar, tC, rI, rI0, rU, tRet, tRetN, tAsg, gName, tNext, tAndV, tOrV, tNotV, tIf, tCall, tCons, tNil, tCB, tDrop, tLst, tTup, tChain, L2.start, List.map_cons, List.map_nil, List.length_cons, List.length_nil, List.replicate, List.cons_append, List.nil_append, List.getElem?_cons_zero, List.getElem?_cons_succ, List.set_cons_zero, List.set_cons_succ, Option.some.injEq, exists_eq_left', exists_eq_left, V.int.injEq, V.bl.injEq, V.ref.injEq, V.str.injEq, exists_const, and_true, true_and, reduceCtorEq, false_and, exists_false, or_false, false_or, and_assoc, List.append_nil, sp_ginit]
      refine fun x dx hx hdx _ pr pk H1 hpr hpk G1 k1 => ⟨⟨by decide, by decide⟩, ?_⟩
      have s1 : Same H H1 := make_same hx hdx k1
      intro p2 n2
      generalize z2 : upd H1 p2 _ = H2
      obtain ⟨s2, e2⟩ := new_same z2 n2
      intro p3 n3
      generalize z3 : upd H2 p3 _ = H3
      obtain ⟨s3, e3⟩ := new_same z3 n3
      have b1 : 0 ≤ r % 16 ∧ r % 16 < 16 := by omega
      have b2 : 0 ≤ r / 16 % 12 ∧ r / 16 % 12 < 12 := by omega
      have G3 := (G1.same s2).same s3
      have B3 : Bk H3 p2 p3 [] [] [] 0 0 := ⟨s3 _ _ e2, (fun q hq => nomatch hq), List.nodup_nil, List.Perm.nil, List.nodup_nil, (fun q hq => nomatch hq), e3, (fun k v h => by rw [valV_nil] at h; cases h), by simp, (fun k => ⟨List.Pairwise.nil, (fun n hn => nomatch hn)⟩), by simp [allN], ne_of_none e2 n3, G3.ok, (fun q hq => nomatch hq)⟩
      have n1 : p2 ≠ pk := Ne.symm (ne_of_none G1.kep n2)
      have n2' : p3 ≠ pk := Ne.symm (ne_of_none (s2 _ _ G1.kep) n3)
      have I3 : Iv C ⟨x, dx, pr, pk, p2, p3, 1 + r % 16, 1 + r / 16 % 12⟩ [] [] [] [] 0 0 H3 := ⟨G3, B3, (fun q hq => nomatch hq), (fun k hk => nomatch hk), n1, n2', (show 1 ≤ 1 + r % 16 by omega), (show 1 + r % 16 ≤ 16 by omega), (show 1 + r / 16 % 12 ≤ 12 by omega)⟩
      exact hR _ _ ⟨r, ⟨x, dx, pr, pk, p2, p3, 1 + r % 16, 1 + r / 16 % 12⟩, rfl, I3, (s1.trans s2).trans s3, (show 1 ≤ 1 + r / 16 % 12 by omega)⟩
    case key =>
      rintro σ H1 ⟨r, a, rfl, I1, s1, hf1⟩
      have hS1 := s1.seq hS
      simp (maxSteps := 1000000) only [tFor_eq, tComp_eq, rRngs, rListR, HO.rng.injEq, tDKeys, rSortL, rSortK, ixN_10, ixN_20, ixN_21, ixN_30, ixN_31, ixN_32, ixN_40, ixN_41, ixN_42, ixN_43, ixN_50, ixN_51, ixN_52, ixN_53, ixN_54, rNe_nn, rEq_nn, rNe_in, rEq_in, rNe_ni, rEq_ni, gSeqX, rLeS, rEq_ss, rNe_ss, rStr1, rAllX, rAnyX, rListD, iStr, rSumX, tBL, tBL0, rExtend, rPopAt, rPop, rReverse, rClear, rIsIX, tyX_n, tyX_b, tyX_i, tyX_s, tyX_r, tyO_l, tyO_t, tyO_d, V.ty.injEq, kT_Noin, kT_Nobo, kT_Nost, kT_Noli, kT_Notu, kT_Nodi, kT_boin, kT_bobo, kT_bost, kT_boli, kT_botu, kT_bodi, kT_inin, kT_inbo, kT_inst, kT_inli, kT_intu, kT_indi, kT_stin, kT_stbo, kT_stst, kT_stli, kT_sttu, kT_stdi, kT_liin, kT_libo, kT_list, kT_lili, kT_litu, kT_lidi, kT_tuin, kT_tubo, kT_tust, kT_tuli, kT_tutu, kT_tudi, kT_diin, kT_dibo, kT_dist, kT_dili, kT_ditu, kT_didi, rGet, getO_l, getO_t, getO_di, getO_ds, rLenX, lenX_r, lenX_s', lenO_l, lenO_t, lenO_d, Option.bind_some, tTruX, truX_n, truX_b, truX_i, truX_r, truO_l, truO_t, truO_d, rInX, rNotInX, inO_l', inO_t', inO_di, inO_ds, rSetX, setO_l, setO_di', setO_ds', rSlX, rListX, seqO_l, seqO_t, rTupX, gTupX, gCons, gNil, gSub, atI_0, atI_1, atI_2, atI_3, tDNewK, Nat.reduceSub, upd_same, upd_upd, Nat.reduceLT, HO.lst.injEq, HO.tup.injEq, HO.dK.injEq, HO.ins.injEq, Option.map_some, Option.isSome_some, Int.reduceEq, Int.reduceLT, Int.reduceLE, Nat.reduceAdd, List.isEmpty_nil, List.isEmpty_cons, ne_eq, not_false_eq_true, tDGs, sDPs, rIsB, rIsntB, tMeth, tMake, tDGet, sDPut, tFld, sFld, tDisp, tPairs, tNever, decide_true, decide_false, truV_bl, clsV_ty, V.ty.injEq, exists_eq', exists_eq, Bool.not_true, Bool.not_false, Bool.not_not, rLen, rListOf, rTupOf, rAny, rAll, rIsI, tTru, iRng1, iRng2, iList, tYes, cSt, List.drop_succ_cons, List.drop_zero, cxOf_K, cxC_K,  tBM, tBM0, rAppend, tSl, rSlL, tNoPart, tPart, rIxL, rIxT, rCat, List.cons.injEq, rEq_ii, rNe_ii, rEq_bb, rNe_bb, tSeq, exists_and_left, if_false, if_true, reduceIte, Bool.false_eq_true, tIfS, tAnd, tOr, tNot, tTest, tOp, tUn, tVar, tC, rI, rI0, rU, tRet, tRetN, tAsg, gName, tNext, tAndV, tOrV, tNotV, tIf, tCall, tCons, tNil, tCB, tDrop, tLst, tTup, tChain, L2.start, List.map_cons, List.map_nil, List.length_cons, List.length_nil, List.replicate, List.cons_append, List.nil_append, List.getElem?_cons_zero, List.getElem?_cons_succ, List.set_cons_zero, List.set_cons_succ, Option.some.injEq, exists_eq_left', exists_eq_left, V.int.injEq, V.bl.injEq, V.ref.injEq, V.str.injEq, exists_const, and_true, true_and, reduceCtorEq, false_and, exists_false, or_false, false_or, and_assoc, List.append_nil, sg]
      refine ⟨_, hS1, ?_⟩
      obtain ⟨cs, hcs⟩ := cutV_map ns (some 1) (some 61)
      have lcs : cs.length ≤ 60 := by
        have h1 := congrArg List.length hcs
        have := cutV_60 (ns.map V.int)
        rw [List.length_map] at h1
        omega
      rw [hcs]
      intro p2 n2
      generalize z2 : upd H1 p2 _ = H2
      obtain ⟨s2, e2⟩ := new_same z2 n2
      refine ⟨by decide, ?_⟩
      intro p3 n3
      generalize z3 : upd H2 p3 _ = H3
      obtain ⟨s3, e3⟩ := new_same z3 n3
      have e23 := s3 _ _ e2
      simp (maxSteps := 1000000) only [tFor_eq, tComp_eq, rRngs, rListR, HO.rng.injEq, tDKeys, rSortL, rSortK, ixN_10, ixN_20, ixN_21, ixN_30, ixN_31, ixN_32, ixN_40, ixN_41, ixN_42, ixN_43, ixN_50, ixN_51, ixN_52, ixN_53, ixN_54, rNe_nn, rEq_nn, rNe_in, rEq_in, rNe_ni, rEq_ni, gSeqX, rLeS, rEq_ss, rNe_ss, rStr1, rAllX, rAnyX, rListD, iStr, rSumX, tBL, tBL0, rExtend, rPopAt, rPop, rReverse, rClear, rIsIX, tyX_n, tyX_b, tyX_i, tyX_s, tyX_r, tyO_l, tyO_t, tyO_d, V.ty.injEq, kT_Noin, kT_Nobo, kT_Nost, kT_Noli, kT_Notu, kT_Nodi, kT_boin, kT_bobo, kT_bost, kT_boli, kT_botu, kT_bodi, kT_inin, kT_inbo, kT_inst, kT_inli, kT_intu, kT_indi, kT_stin, kT_stbo, kT_stst, kT_stli, kT_sttu, kT_stdi, kT_liin, kT_libo, kT_list, kT_lili, kT_litu, kT_lidi, kT_tuin, kT_tubo, kT_tust, kT_tuli, kT_tutu, kT_tudi, kT_diin, kT_dibo, kT_dist, kT_dili, kT_ditu, kT_didi, rGet, getO_l, getO_t, getO_di, getO_ds, rLenX, lenX_r, lenX_s', lenO_l, lenO_t, lenO_d, Option.bind_some, tTruX, truX_n, truX_b, truX_i, truX_r, truO_l, truO_t, truO_d, rInX, rNotInX, inO_l', inO_t', inO_di, inO_ds, rSetX, setO_l, setO_di', setO_ds', rSlX, rListX, seqO_l, seqO_t, rTupX, gTupX, gCons, gNil, gSub, atI_0, atI_1, atI_2, atI_3, tDNewK, Nat.reduceSub, upd_same, upd_upd, Nat.reduceLT, HO.lst.injEq, HO.tup.injEq, HO.dK.injEq, HO.ins.injEq, Option.map_some, Option.isSome_some, Int.reduceEq, Int.reduceLT, Int.reduceLE, Nat.reduceAdd, List.isEmpty_nil, List.isEmpty_cons, ne_eq, not_false_eq_true, tDGs, sDPs, rIsB, rIsntB, tMeth, tMake, tDGet, sDPut, tFld, sFld, tDisp, tPairs, tNever, decide_true, decide_false, truV_bl, clsV_ty, V.ty.injEq, exists_eq', exists_eq, Bool.not_true, Bool.not_false, Bool.not_not, rLen, rListOf, rTupOf, rAny, rAll, rIsI, tTru, iRng1, iRng2, iList, tYes, cSt, List.drop_succ_cons, List.drop_zero, cxOf_K, cxC_K,  tBM, tBM0, rAppend, tSl, rSlL, tNoPart, tPart, rIxL, rIxT, rCat, List.cons.injEq, rEq_ii, rNe_ii, rEq_bb, rNe_bb, tSeq, exists_and_left, if_false, if_true, reduceIte, Bool.false_eq_true, tIfS, tAnd, tOr, tNot, tTest, tOp, tUn, tVar, tC, rI, rI0, rU, tRet, tRetN, tAsg, gName, tNext, tAndV, tOrV, tNotV, tIf, tCall, tCons, tNil, tCB, tDrop, tLst, tTup, tChain, L2.start, List.map_cons, List.map_nil, List.length_cons, List.length_nil, List.replicate, List.cons_append, List.nil_append, List.getElem?_cons_zero, List.getElem?_cons_succ, List.set_cons_zero, List.set_cons_succ, Option.some.injEq, exists_eq_left', exists_eq_left, V.int.injEq, V.bl.injEq, V.ref.injEq, V.str.injEq, exists_const, and_true, true_and, reduceCtorEq, false_and, exists_false, or_false, false_or, and_assoc, List.append_nil, e23, e3]
      refine ⟨by rw [sizeLine_eq, List.length_map]; omega, ?_⟩
      have ecl : cs.map V.int ++ [V.int 1000000] = (cs ++ [1000000]).map V.int := by simp
      rw [ecl]
      intro p4 n4
      generalize z4 : upd H3 p4 _ = H4
      obtain ⟨s4, e4⟩ := new_same z4 n4
      have I4 := ((I1.same s2).same s3).same s4
      have P4 : Prot a [] H4 p4 ((cs ++ [1000000]).map V.int) := Prot.new ((I1.same s2).same s3) n4 e4
      refine ⟨⟨_, SqL.of e4⟩, for_list (xs := (cs ++ [1000000]).map V.int) (Lw C sc p4 r a ((cs ++ [1000000]).map V.int) cs.length) ⟨[], [], [], [], 0, 0, none, none, none, none, none, none, rfl, I4, P4, by simp, by simp, fun _ => rfl⟩ ?_ ?_ ?_⟩
      · rintro i σ H' hi ⟨kvs, S, ws, okv, g, N, v8, v9, v10, v11, v12, v13, rfl, I, Pc, hN, g0, hS⟩
        exact SqL.of Pc.e
      · rintro i cv σ H5 hcv ⟨kvs, S, ws, okv, g, N, v8, v9, v10, v11, v12, v13, rfl, I5, Pc5, hN5, g05, hS5⟩
        rw [List.getElem?_map] at hcv
        obtain ⟨cc, hc, rfl⟩ := Option.map_eq_some_iff.mp hcv
        have hi61 : i < (cs ++ [1000000]).length := (List.getElem?_eq_some_iff.mp hc).1
        rw [List.length_append, List.length_singleton] at hi61
        refine use1 (fun σ' H' => ∃ pd d0 d8 ds, σ' = sg sc r a g N (some (.int cc)) (some (.ref pd)) v10 v11 v12 v13 ∧ Iv C a kvs S ws okv g N H' ∧ Prot a ws H' p4 ((cs ++ [1000000]).map V.int) ∧ Prot a ws H' pd ((ds : List Int).map V.int) ∧ ds.length = 9 ∧ (ds.map V.int)[0]? = some (.int d0) ∧ (ds.map V.int)[8]? = some (.int d8) ∧ 0 ≤ d8) ?key1 ?go1
        case go1 =>
          intro R' hR
          simp (maxSteps := 1000000) only [tFor_eq, tComp_eq, rRngs, rListR, HO.rng.injEq, tDKeys, rSortL, rSortK, ixN_10, ixN_20, ixN_21, ixN_30, ixN_31, ixN_32, ixN_40, ixN_41, ixN_42, ixN_43, ixN_50, ixN_51, ixN_52, ixN_53, ixN_54, rNe_nn, rEq_nn, rNe_in, rEq_in, rNe_ni, rEq_ni, gSeqX, rLeS, rEq_ss, rNe_ss, rStr1, rAllX, rAnyX, rListD, iStr, rSumX, tBL, tBL0, rExtend, rPopAt, rPop, rReverse, rClear, rIsIX, tyX_n, tyX_b, tyX_i, tyX_s, tyX_r, tyO_l, tyO_t, tyO_d, V.ty.injEq, kT_Noin, kT_Nobo, kT_Nost, kT_Noli, kT_Notu, kT_Nodi, kT_boin, kT_bobo, kT_bost, kT_boli, kT_botu, kT_bodi, kT_inin, kT_inbo, kT_inst, kT_inli, kT_intu, kT_indi, kT_stin, kT_stbo, kT_stst, kT_stli, kT_sttu, kT_stdi, kT_liin, kT_libo, kT_list, kT_lili, kT_litu, kT_lidi, kT_tuin, kT_tubo, kT_tust, kT_tuli, kT_tutu, kT_tudi, kT_diin, kT_dibo, kT_dist, kT_dili, kT_ditu, kT_didi, rGet, getO_l, getO_t, getO_di, getO_ds, rLenX, lenX_r, lenX_s', lenO_l, lenO_t, lenO_d, Option.bind_some, tTruX, truX_n, truX_b, truX_i, truX_r, truO_l, truO_t, truO_d, rInX, rNotInX, inO_l', inO_t', inO_di, inO_ds, rSetX, setO_l, setO_di', setO_ds', rSlX, rListX, seqO_l, seqO_t, rTupX, gTupX, gCons, gNil, gSub, atI_0, atI_1, atI_2, atI_3, tDNewK, Nat.reduceSub, upd_same, upd_upd, Nat.reduceLT, HO.lst.injEq, HO.tup.injEq, HO.dK.injEq, HO.ins.injEq, Option.map_some, Option.isSome_some, Int.reduceEq, Int.reduceLT, Int.reduceLE, Nat.reduceAdd, List.isEmpty_nil, List.isEmpty_cons, ne_eq, not_false_eq_true, tDGs, sDPs, rIsB, rIsntB, tMeth, tMake, tDGet, sDPut, tFld, sFld, tDisp, tPairs, tNever, decide_true, decide_false, truV_bl, clsV_ty, V.ty.injEq, exists_eq', exists_eq, Bool.not_true, Bool.not_false, Bool.not_not, rLen, rListOf, rTupOf, rAny, rAll, rIsI, tTru, iRng1, iRng2, iList, tYes, cSt, List.drop_succ_cons, List.drop_zero, cxOf_K, cxC_K,  tBM, tBM0, rAppend, tSl, rSlL, tNoPart, tPart, rIxL, rIxT, rCat, List.cons.injEq, rEq_ii, rNe_ii, rEq_bb, rNe_bb, tSeq, exists_and_left, if_false, if_true, reduceIte, Bool.false_eq_true, tIfS, tAnd, tOr, tNot, tTest, tOp, tUn, tVar, tC, rI, rI0, rU, tRet, tRetN, tAsg, gName, tNext, tAndV, tOrV, tNotV, tIf, tCall, tCons, tNil, tCB, tDrop, tLst, tTup, tChain, L2.start, List.map_cons, List.map_nil, List.length_cons, List.length_nil, List.replicate, List.cons_append, List.nil_append, List.getElem?_cons_zero, List.getElem?_cons_succ, List.set_cons_zero, List.set_cons_succ, Option.some.injEq, exists_eq_left', exists_eq_left, V.int.injEq, V.bl.injEq, V.ref.injEq, V.str.injEq, exists_const, and_true, true_and, reduceCtorEq, false_and, exists_false, or_false, false_or, and_assoc, List.append_nil, sg]
          refine ⟨_, _, _, rfl, by decide, by decide, by decide, by decide, fun pd ds H6 hpd epd hdl hdv s6 => ?_⟩
          have hl9 : ds.length = 9 := by omega
          refine hR _ _ ⟨pd, ds[0], ds[8], ds, rfl, I5.same s6, Pc5.same s6, Prot.new I5 hpd epd, hl9, ?_, ?_, (hdv _ (List.getElem_mem _)).1⟩
          · rw [List.getElem?_map, List.getElem?_eq_getElem (by omega)]; rfl
          · rw [List.getElem?_map, List.getElem?_eq_getElem (by omega)]; rfl
        case key1 =>
          rintro σ H6 ⟨pd, d0, d8, ds, rfl, I6, Pc6, Pd6, hl9, hd0, hd8, hd80⟩
          refine use1 (PmB C sc p4 pd r a ((cs ++ [1000000]).map V.int) (ds.map V.int) (.int cc) (7 * (i + 1))) ?key2 ?go2
          case go2 =>
            intro R' hR
            have ed6 := Pd6.e
            have ha0 : atI (ds.map V.int) 0 = some (.int d0) := by rw [atI_pos (by decide)]; exact hd0
            simp (maxSteps := 1000000) only [tFor_eq, tComp_eq, rRngs, rListR, HO.rng.injEq, tDKeys, rSortL, rSortK, ixN_10, ixN_20, ixN_21, ixN_30, ixN_31, ixN_32, ixN_40, ixN_41, ixN_42, ixN_43, ixN_50, ixN_51, ixN_52, ixN_53, ixN_54, rNe_nn, rEq_nn, rNe_in, rEq_in, rNe_ni, rEq_ni, gSeqX, rLeS, rEq_ss, rNe_ss, rStr1, rAllX, rAnyX, rListD, iStr, rSumX, tBL, tBL0, rExtend, rPopAt, rPop, rReverse, rClear, rIsIX, tyX_n, tyX_b, tyX_i, tyX_s, tyX_r, tyO_l, tyO_t, tyO_d, V.ty.injEq, kT_Noin, kT_Nobo, kT_Nost, kT_Noli, kT_Notu, kT_Nodi, kT_boin, kT_bobo, kT_bost, kT_boli, kT_botu, kT_bodi, kT_inin, kT_inbo, kT_inst, kT_inli, kT_intu, kT_indi, kT_stin, kT_stbo, kT_stst, kT_stli, kT_sttu, kT_stdi, kT_liin, kT_libo, kT_list, kT_lili, kT_litu, kT_lidi, kT_tuin, kT_tubo, kT_tust, kT_tuli, kT_tutu, kT_tudi, kT_diin, kT_dibo, kT_dist, kT_dili, kT_ditu, kT_didi, rGet, getO_l, getO_t, getO_di, getO_ds, rLenX, lenX_r, lenX_s', lenO_l, lenO_t, lenO_d, Option.bind_some, tTruX, truX_n, truX_b, truX_i, truX_r, truO_l, truO_t, truO_d, rInX, rNotInX, inO_l', inO_t', inO_di, inO_ds, rSetX, setO_l, setO_di', setO_ds', rSlX, rListX, seqO_l, seqO_t, rTupX, gTupX, gCons, gNil, gSub, atI_0, atI_1, atI_2, atI_3, tDNewK, Nat.reduceSub, upd_same, upd_upd, Nat.reduceLT, HO.lst.injEq, HO.tup.injEq, HO.dK.injEq, HO.ins.injEq, Option.map_some, Option.isSome_some, Int.reduceEq, Int.reduceLT, Int.reduceLE, Nat.reduceAdd, List.isEmpty_nil, List.isEmpty_cons, ne_eq, not_false_eq_true, tDGs, sDPs, rIsB, rIsntB, tMeth, tMake, tDGet, sDPut, tFld, sFld, tDisp, tPairs, tNever, decide_true, decide_false, truV_bl, clsV_ty, V.ty.injEq, exists_eq', exists_eq, Bool.not_true, Bool.not_false, Bool.not_not, rLen, rListOf, rTupOf, rAny, rAll, rIsI, tTru, iRng1, iRng2, iList, tYes, cSt, List.drop_succ_cons, List.drop_zero, cxOf_K, cxC_K,  tBM, tBM0, rAppend, tSl, rSlL, tNoPart, tPart, rIxL, rIxT, rCat, List.cons.injEq, rEq_ii, rNe_ii, rEq_bb, rNe_bb, tSeq, exists_and_left, if_false, if_true, reduceIte, Bool.false_eq_true, tIfS, tAnd, tOr, tNot, tTest, tOp, tUn, tVar, tC, rI, rI0, rU, tRet, tRetN, tAsg, gName, tNext, tAndV, tOrV, tNotV, tIf, tCall, tCons, tNil, tCB, tDrop, tLst, tTup, tChain, L2.start, List.map_cons, List.map_nil, List.length_cons, List.length_nil, List.replicate, List.cons_append, List.nil_append, List.getElem?_cons_zero, List.getElem?_cons_succ, List.set_cons_zero, List.set_cons_succ, Option.some.injEq, exists_eq_left', exists_eq_left, V.int.injEq, V.bl.injEq, V.ref.injEq, V.str.injEq, exists_const, and_true, true_and, reduceCtorEq, false_and, exists_false, or_false, false_or, and_assoc, List.append_nil, sg, ed6, ha0]
            have hcl : (cutV (ds.map V.int) (some 1) (some (1 + d0 % 8))).length ≤ 7 := by
              unfold cutV
              rw [List.length_take]
              obtain ⟨m, hm, m7⟩ : ∃ m : Nat, 1 + d0 % 8 = ((m : Nat) : Int) ∧ m ≤ 8 := ⟨(1 + d0 % 8).toNat, by omega, by omega⟩
              rw [hm]
              have e1 : HT.sIx (ds.map V.int).length (ds.map V.int).length (some ((m : Nat) : Int)) = min m (ds.map V.int).length := HT.sIx_nat _ _ m
              have e2 : HT.sIx (ds.map V.int).length 0 (some 1) = min 1 (ds.map V.int).length := HT.sIx_nat _ _ 1
              rw [e1, e2]
              omega
            obtain ⟨zs, hzs⟩ := cutV_map ds (some 1) (some (1 + d0 % 8))
            rw [hzs] at hcl ⊢
            rw [List.length_map] at hcl
            intro p7 n7
            generalize z7 : upd H6 p7 _ = H7
            obtain ⟨s7, e7⟩ := new_same z7 n7
            refine ⟨⟨_, SqL.of e7⟩, for_list (xs := zs.map V.int) (Li C sc p4 pd p7 r a ((cs ++ [1000000]).map V.int) (zs.map V.int) (ds.map V.int) (.int cc) g N) ⟨kvs, S, ws, okv, v10, v11, v12, v13, rfl, I6.same s7, Pc6.same s7, Prot.new I6 n7 e7, Pd6.same s7⟩ ?_ ?_ ?_⟩
            · rintro j σ H' hj ⟨kvs2, S2, ws2, okv2, w10, w11, w12, w13, rfl, I, Pc, Ps, Pd⟩
              exact SqL.of Ps.e
            · rintro j dv σ H8 hdv ⟨kvs2, S2, ws2, okv2, w10, w11, w12, w13, rfl, I8, Pc8, Ps8, Pd8⟩
              rw [List.getElem?_map] at hdv
              obtain ⟨d, hd, rfl⟩ := Option.map_eq_some_iff.mp hdv
              have hj : j < zs.length := (List.getElem?_eq_some_iff.mp hd).1
              simp (maxSteps := 1000000) only [tFor_eq, tComp_eq, rRngs, rListR, HO.rng.injEq, tDKeys, rSortL, rSortK, ixN_10, ixN_20, ixN_21, ixN_30, ixN_31, ixN_32, ixN_40, ixN_41, ixN_42, ixN_43, ixN_50, ixN_51, ixN_52, ixN_53, ixN_54, rNe_nn, rEq_nn, rNe_in, rEq_in, rNe_ni, rEq_ni, gSeqX, rLeS, rEq_ss, rNe_ss, rStr1, rAllX, rAnyX, rListD, iStr, rSumX, tBL, tBL0, rExtend, rPopAt, rPop, rReverse, rClear, rIsIX, tyX_n, tyX_b, tyX_i, tyX_s, tyX_r, tyO_l, tyO_t, tyO_d, V.ty.injEq, kT_Noin, kT_Nobo, kT_Nost, kT_Noli, kT_Notu, kT_Nodi, kT_boin, kT_bobo, kT_bost, kT_boli, kT_botu, kT_bodi, kT_inin, kT_inbo, kT_inst, kT_inli, kT_intu, kT_indi, kT_stin, kT_stbo, kT_stst, kT_stli, kT_sttu, kT_stdi, kT_liin, kT_libo, kT_list, kT_lili, kT_litu, kT_lidi, kT_tuin, kT_tubo, kT_tust, kT_tuli, kT_tutu, kT_tudi, kT_diin, kT_dibo, kT_dist, kT_dili, kT_ditu, kT_didi, rGet, getO_l, getO_t, getO_di, getO_ds, rLenX, lenX_r, lenX_s', lenO_l, lenO_t, lenO_d, Option.bind_some, tTruX, truX_n, truX_b, truX_i, truX_r, truO_l, truO_t, truO_d, rInX, rNotInX, inO_l', inO_t', inO_di, inO_ds, rSetX, setO_l, setO_di', setO_ds', rSlX, rListX, seqO_l, seqO_t, rTupX, gTupX, gCons, gNil, gSub, atI_0, atI_1, atI_2, atI_3, tDNewK, Nat.reduceSub, upd_same, upd_upd, Nat.reduceLT, HO.lst.injEq, HO.tup.injEq, HO.dK.injEq, HO.ins.injEq, Option.map_some, Option.isSome_some, Int.reduceEq, Int.reduceLT, Int.reduceLE, Nat.reduceAdd, List.isEmpty_nil, List.isEmpty_cons, ne_eq, not_false_eq_true, tDGs, sDPs, rIsB, rIsntB, tMeth, tMake, tDGet, sDPut, tFld, sFld, tDisp, tPairs, tNever, decide_true, decide_false, truV_bl, clsV_ty, V.ty.injEq, exists_eq', exists_eq, Bool.not_true, Bool.not_false, Bool.not_not, rLen, rListOf, rTupOf, rAny, rAll, rIsI, tTru, iRng1, iRng2, iList, tYes, cSt, List.drop_succ_cons, List.drop_zero, cxOf_K, cxC_K,  tBM, tBM0, rAppend, tSl, rSlL, tNoPart, tPart, rIxL, rIxT, rCat, List.cons.injEq, rEq_ii, rNe_ii, rEq_bb, rNe_bb, tSeq, exists_and_left, if_false, if_true, reduceIte, Bool.false_eq_true, tIfS, tAnd, tOr, tNot, tTest, tOp, tUn, tVar, tC, rI, rI0, rU, tRet, tRetN, tAsg, gName, tNext, tAndV, tOrV, tNotV, tIf, tCall, tCons, tNil, tCB, tDrop, tLst, tTup, tChain, L2.start, List.map_cons, List.map_nil, List.length_cons, List.length_nil, List.replicate, List.cons_append, List.nil_append, List.getElem?_cons_zero, List.getElem?_cons_succ, List.set_cons_zero, List.set_cons_succ, Option.some.injEq, exists_eq_left', exists_eq_left, V.int.injEq, V.bl.injEq, V.ref.injEq, V.str.injEq, exists_const, and_true, true_and, reduceCtorEq, false_and, exists_false, or_false, false_or, and_assoc, List.append_nil, sg]
              have c0 : 0 ≤ d % a.few := Int.emod_nonneg _ (by omega)
              have c1 : d % a.few < a.few := Int.emod_lt_of_pos _ (by omega)
              refine ⟨by omega, a, kvs2, S2, ws2, okv2, g, _, N + j, rfl, I8, g05, c0, c1, by omega, fun kvs' S' ws' H9 I9 hw9 k9 => ?_⟩
              refine ⟨kvs', S', ws', okv2, some (.int d), w11, w12, w13, ?_, I9, Pc8.step I8 hw9 k9, Ps8.step I8 hw9 k9, Pd8.step I8 hw9 k9⟩
              have : ((N + j : Nat) : Int) + 1 = ((N + (j + 1) : Nat) : Int) := by omega
              rw [this]
              rfl
            · rintro σ H8 ⟨kvs2, S2, ws2, okv2, w10, w11, w12, w13, rfl, I8, Pc8, Ps8, Pd8⟩
              rw [List.length_map] at I8
              refine hR _ _ ⟨kvs2, S2, ws2, okv2, g, N + zs.length, w10, w11, w12, w13, by rw [List.length_map], I8, Pc8, Pd8, by omega, g05⟩
          case key2 =>
            rintro σ H7 ⟨kvs, S, ws, okv, g, N, v10, v11, v12, v13, rfl, I7, Pc7, Pd7, hN7, g07⟩
            refine use1 (PmC C sc p4 pd r a ((cs ++ [1000000]).map V.int) (ds.map V.int) (.int cc) (7 * (i + 1))) ?key3 ?go3
            case go3 =>
              intro R' hR
              have ew7 := I7.bk.wd
              simp (maxSteps := 1000000) only [tFor_eq, tComp_eq, rRngs, rListR, HO.rng.injEq, tDKeys, rSortL, rSortK, ixN_10, ixN_20, ixN_21, ixN_30, ixN_31, ixN_32, ixN_40, ixN_41, ixN_42, ixN_43, ixN_50, ixN_51, ixN_52, ixN_53, ixN_54, rNe_nn, rEq_nn, rNe_in, rEq_in, rNe_ni, rEq_ni, gSeqX, rLeS, rEq_ss, rNe_ss, rStr1, rAllX, rAnyX, rListD, iStr, rSumX, tBL, tBL0, rExtend, rPopAt, rPop, rReverse, rClear, rIsIX, tyX_n, tyX_b, tyX_i, tyX_s, tyX_r, tyO_l, tyO_t, tyO_d, V.ty.injEq, kT_Noin, kT_Nobo, kT_Nost, kT_Noli, kT_Notu, kT_Nodi, kT_boin, kT_bobo, kT_bost, kT_boli, kT_botu, kT_bodi, kT_inin, kT_inbo, kT_inst, kT_inli, kT_intu, kT_indi, kT_stin, kT_stbo, kT_stst, kT_stli, kT_sttu, kT_stdi, kT_liin, kT_libo, kT_list, kT_lili, kT_litu, kT_lidi, kT_tuin, kT_tubo, kT_tust, kT_tuli, kT_tutu, kT_tudi, kT_diin, kT_dibo, kT_dist, kT_dili, kT_ditu, kT_didi, rGet, getO_l, getO_t, getO_di, getO_ds, rLenX, lenX_r, lenX_s', lenO_l, lenO_t, lenO_d, Option.bind_some, tTruX, truX_n, truX_b, truX_i, truX_r, truO_l, truO_t, truO_d, rInX, rNotInX, inO_l', inO_t', inO_di, inO_ds, rSetX, setO_l, setO_di', setO_ds', rSlX, rListX, seqO_l, seqO_t, rTupX, gTupX, gCons, gNil, gSub, atI_0, atI_1, atI_2, atI_3, tDNewK, Nat.reduceSub, upd_same, upd_upd, Nat.reduceLT, HO.lst.injEq, HO.tup.injEq, HO.dK.injEq, HO.ins.injEq, Option.map_some, Option.isSome_some, Int.reduceEq, Int.reduceLT, Int.reduceLE, Nat.reduceAdd, List.isEmpty_nil, List.isEmpty_cons, ne_eq, not_false_eq_true, tDGs, sDPs, rIsB, rIsntB, tMeth, tMake, tDGet, sDPut, tFld, sFld, tDisp, tPairs, tNever, decide_true, decide_false, truV_bl, clsV_ty, V.ty.injEq, exists_eq', exists_eq, Bool.not_true, Bool.not_false, Bool.not_not, rLen, rListOf, rTupOf, rAny, rAll, rIsI, tTru, iRng1, iRng2, iList, tYes, cSt, List.drop_succ_cons, List.drop_zero, cxOf_K, cxC_K,  tBM, tBM0, rAppend, tSl, rSlL, tNoPart, tPart, rIxL, rIxT, rCat, List.cons.injEq, rEq_ii, rNe_ii, rEq_bb, rNe_bb, tSeq, exists_and_left, if_false, if_true, reduceIte, Bool.false_eq_true, tIfS, tAnd, tOr, tNot, tTest, tOp, tUn, tVar, tC, rI, rI0, rU, tRet, tRetN, tAsg, gName, tNext, tAndV, tOrV, tNotV, tIf, tCall, tCons, tNil, tCB, tDrop, tLst, tTup, tChain, L2.start, List.map_cons, List.map_nil, List.length_cons, List.length_nil, List.replicate, List.cons_append, List.nil_append, List.getElem?_cons_zero, List.getElem?_cons_succ, List.set_cons_zero, List.set_cons_succ, Option.some.injEq, exists_eq_left', exists_eq_left, V.int.injEq, V.bl.injEq, V.ref.injEq, V.str.injEq, exists_const, and_true, true_and, reduceCtorEq, false_and, exists_false, or_false, false_or, and_assoc, List.append_nil, sg, tUnf, iDVal, ew7]
              intro o
              obtain ⟨w1, w2, w3⟩ := I7.away
              have hS0 := I7.gt.slen
              have kz : Keep [a.pw] H7 (upd H7 a.pw (.frz o (.dK (wkv ws)))) := Keep.refl.upd (.inl (.head _))
              have hxw : a.x ≠ a.pw := ne_of I7.gt.ins ew7 (by intro z; cases z)
              have hrw : a.pr ≠ a.pw := ne_of I7.gt.row ew7 (by intro z; cases z)
              have hG0 : GateAt C (upd H7 a.pw (.frz o (.dK (wkv ws)))) a.x a.dx a.pr a.pk a.pl kvs S N := I7.gt.keep kz (noT1 (.of_dK ew7)) (by simp; exact hxw) (by simp; exact hrw) (by simp; exact Ne.symm I7.n1) (fun j p h => by
                obtain ⟨ys, hy⟩ := I7.gt.list h
                simp
                exact ne_of hy ew7 (by intro z; cases z))
              refine for_itf (Lu C sc pd r a kvs S ws okv g N H7 o (.int cc) v10 v12 v13) ⟨v11, rfl, upd_same, hG0, by rw [upd_ne (Ne.symm I7.bk.ne)]; exact I7.bk.od, fun u q hq => ?_, fun b o' e hn => ?_⟩ ?_ ?_ ?_
              · have hr := I7.bk.rcd q (List.mem_of_getElem? hq)
                rw [if_neg (Nat.not_lt_zero _), upd_ne (ne_of hr ew7 (by intro z; cases z))]
                exact hr
              · unfold tch at hn
                simp only [List.cons_append, List.nil_append, List.mem_cons, not_or] at hn
                rw [upd_ne hn.2.2.1]
                exact e
              · rintro t σ H' ⟨u11, rfl, hw, hG, hod, hrec, kk⟩
                exact hw
              · rintro t rv σ H8 hrv ⟨u11, rfl, hw, hG, hod, hrec, kk⟩
                rw [List.getElem?_map] at hrv
                obtain ⟨kv, hkv, rfl⟩ := Option.map_eq_some_iff.mp hrv
                unfold wkv at hkv
                rw [List.getElem?_map] at hkv
                obtain ⟨q, hq, rfl⟩ := Option.map_eq_some_iff.mp hkv
                have hqm := List.mem_of_getElem? hq
                have er := hrec t q hq
                rw [if_neg (Nat.lt_irrefl _)] at er
                have ex8 := hG.ins
                simp (maxSteps := 1000000) only [tFor_eq, tComp_eq, rRngs, rListR, HO.rng.injEq, tDKeys, rSortL, rSortK, ixN_10, ixN_20, ixN_21, ixN_30, ixN_31, ixN_32, ixN_40, ixN_41, ixN_42, ixN_43, ixN_50, ixN_51, ixN_52, ixN_53, ixN_54, rNe_nn, rEq_nn, rNe_in, rEq_in, rNe_ni, rEq_ni, gSeqX, rLeS, rEq_ss, rNe_ss, rStr1, rAllX, rAnyX, rListD, iStr, rSumX, tBL, tBL0, rExtend, rPopAt, rPop, rReverse, rClear, rIsIX, tyX_n, tyX_b, tyX_i, tyX_s, tyX_r, tyO_l, tyO_t, tyO_d, V.ty.injEq, kT_Noin, kT_Nobo, kT_Nost, kT_Noli, kT_Notu, kT_Nodi, kT_boin, kT_bobo, kT_bost, kT_boli, kT_botu, kT_bodi, kT_inin, kT_inbo, kT_inst, kT_inli, kT_intu, kT_indi, kT_stin, kT_stbo, kT_stst, kT_stli, kT_sttu, kT_stdi, kT_liin, kT_libo, kT_list, kT_lili, kT_litu, kT_lidi, kT_tuin, kT_tubo, kT_tust, kT_tuli, kT_tutu, kT_tudi, kT_diin, kT_dibo, kT_dist, kT_dili, kT_ditu, kT_didi, rGet, getO_l, getO_t, getO_di, getO_ds, rLenX, lenX_r, lenX_s', lenO_l, lenO_t, lenO_d, Option.bind_some, tTruX, truX_n, truX_b, truX_i, truX_r, truO_l, truO_t, truO_d, rInX, rNotInX, inO_l', inO_t', inO_di, inO_ds, rSetX, setO_l, setO_di', setO_ds', rSlX, rListX, seqO_l, seqO_t, rTupX, gTupX, gCons, gNil, gSub, atI_0, atI_1, atI_2, atI_3, tDNewK, Nat.reduceSub, upd_same, upd_upd, Nat.reduceLT, HO.lst.injEq, HO.tup.injEq, HO.dK.injEq, HO.ins.injEq, Option.map_some, Option.isSome_some, Int.reduceEq, Int.reduceLT, Int.reduceLE, Nat.reduceAdd, List.isEmpty_nil, List.isEmpty_cons, ne_eq, not_false_eq_true, tDGs, sDPs, rIsB, rIsntB, tMeth, tMake, tDGet, sDPut, tFld, sFld, tDisp, tPairs, tNever, decide_true, decide_false, truV_bl, clsV_ty, V.ty.injEq, exists_eq', exists_eq, Bool.not_true, Bool.not_false, Bool.not_not, rLen, rListOf, rTupOf, rAny, rAll, rIsI, tTru, iRng1, iRng2, iList, tYes, cSt, List.drop_succ_cons, List.drop_zero, cxOf_K, cxC_K,  tBM, tBM0, rAppend, tSl, rSlL, tNoPart, tPart, rIxL, rIxT, rCat, List.cons.injEq, rEq_ii, rNe_ii, rEq_bb, rNe_bb, tSeq, exists_and_left, if_false, if_true, reduceIte, Bool.false_eq_true, tIfS, tAnd, tOr, tNot, tTest, tOp, tUn, tVar, tC, rI, rI0, rU, tRet, tRetN, tAsg, gName, tNext, tAndV, tOrV, tNotV, tIf, tCall, tCons, tNil, tCB, tDrop, tLst, tTup, tChain, L2.start, List.map_cons, List.map_nil, List.length_cons, List.length_nil, List.replicate, List.cons_append, List.nil_append, List.getElem?_cons_zero, List.getElem?_cons_succ, List.set_cons_zero, List.set_cons_succ, Option.some.injEq, exists_eq_left', exists_eq_left, V.int.injEq, V.bl.injEq, V.ref.injEq, V.str.injEq, exists_const, and_true, true_and, reduceCtorEq, false_and, exists_false, or_false, false_or, and_assoc, List.append_nil, sg, er, ex8, T_Gate.cl, T_Gate.no "places" (by decide), T_Gate.no "row" (by decide), T_Gate.no "kept" (by decide), fs_Gate_places, fs_Gate_row, fs_Gate_kept, fn_Gate___init__, fn_Gate_put, fn_Gate_out, fn_Gate_give_one, fn_Gate_waiting, fn_Gate_waits, fl_Gate, fp_Gate_places, fp_Gate_row, fp_Gate_kept, fq_Gate_0, fq_Gate_1, fq_Gate_2]
                refine ⟨a.x, a.dx, a.pr, a.pk, a.pl, kvs, S, N, rfl, hG, fun p9 H9 n9 e9 s9 => ?_⟩
                have er9 := s9 _ _ er
                simp (maxSteps := 1000000) only [tFor_eq, tComp_eq, rRngs, rListR, HO.rng.injEq, tDKeys, rSortL, rSortK, ixN_10, ixN_20, ixN_21, ixN_30, ixN_31, ixN_32, ixN_40, ixN_41, ixN_42, ixN_43, ixN_50, ixN_51, ixN_52, ixN_53, ixN_54, rNe_nn, rEq_nn, rNe_in, rEq_in, rNe_ni, rEq_ni, gSeqX, rLeS, rEq_ss, rNe_ss, rStr1, rAllX, rAnyX, rListD, iStr, rSumX, tBL, tBL0, rExtend, rPopAt, rPop, rReverse, rClear, rIsIX, tyX_n, tyX_b, tyX_i, tyX_s, tyX_r, tyO_l, tyO_t, tyO_d, V.ty.injEq, kT_Noin, kT_Nobo, kT_Nost, kT_Noli, kT_Notu, kT_Nodi, kT_boin, kT_bobo, kT_bost, kT_boli, kT_botu, kT_bodi, kT_inin, kT_inbo, kT_inst, kT_inli, kT_intu, kT_indi, kT_stin, kT_stbo, kT_stst, kT_stli, kT_sttu, kT_stdi, kT_liin, kT_libo, kT_list, kT_lili, kT_litu, kT_lidi, kT_tuin, kT_tubo, kT_tust, kT_tuli, kT_tutu, kT_tudi, kT_diin, kT_dibo, kT_dist, kT_dili, kT_ditu, kT_didi, rGet, getO_l, getO_t, getO_di, getO_ds, rLenX, lenX_r, lenX_s', lenO_l, lenO_t, lenO_d, Option.bind_some, tTruX, truX_n, truX_b, truX_i, truX_r, truO_l, truO_t, truO_d, rInX, rNotInX, inO_l', inO_t', inO_di, inO_ds, rSetX, setO_l, setO_di', setO_ds', rSlX, rListX, seqO_l, seqO_t, rTupX, gTupX, gCons, gNil, gSub, atI_0, atI_1, atI_2, atI_3, tDNewK, Nat.reduceSub, upd_same, upd_upd, Nat.reduceLT, HO.lst.injEq, HO.tup.injEq, HO.dK.injEq, HO.ins.injEq, Option.map_some, Option.isSome_some, Int.reduceEq, Int.reduceLT, Int.reduceLE, Nat.reduceAdd, List.isEmpty_nil, List.isEmpty_cons, ne_eq, not_false_eq_true, tDGs, sDPs, rIsB, rIsntB, tMeth, tMake, tDGet, sDPut, tFld, sFld, tDisp, tPairs, tNever, decide_true, decide_false, truV_bl, clsV_ty, V.ty.injEq, exists_eq', exists_eq, Bool.not_true, Bool.not_false, Bool.not_not, rLen, rListOf, rTupOf, rAny, rAll, rIsI, tTru, iRng1, iRng2, iList, tYes, cSt, List.drop_succ_cons, List.drop_zero, cxOf_K, cxC_K,  tBM, tBM0, rAppend, tSl, rSlL, tNoPart, tPart, rIxL, rIxT, rCat, List.cons.injEq, rEq_ii, rNe_ii, rEq_bb, rNe_bb, tSeq, exists_and_left, if_false, if_true, reduceIte, Bool.false_eq_true, tIfS, tAnd, tOr, tNot, tTest, tOp, tUn, tVar, tC, rI, rI0, rU, tRet, tRetN, tAsg, gName, tNext, tAndV, tOrV, tNotV, tIf, tCall, tCons, tNil, tCB, tDrop, tLst, tTup, tChain, L2.start, List.map_cons, List.map_nil, List.length_cons, List.length_nil, List.replicate, List.cons_append, List.nil_append, List.getElem?_cons_zero, List.getElem?_cons_succ, List.set_cons_zero, List.set_cons_succ, Option.some.injEq, exists_eq_left', exists_eq_left, V.int.injEq, V.bl.injEq, V.ref.injEq, V.str.injEq, exists_const, and_true, true_and, reduceCtorEq, false_and, exists_false, or_false, false_or, and_assoc, List.append_nil, e9, er9, List.length_map]
                have kU : Keep [q.addr] H9 (upd H9 q.addr (.lst [.int q.key, .int q.place, .int q.came, .int (if (S.length : Int) > q.keys then (S.length : Int) else q.keys)])) := Keep.refl.upd (.inl (.head _))
                have hG9 := hG.same s9
                have hw9 := s9 _ _ hw
                have hod9 := s9 _ _ hod
                refine ⟨some (.ref q.addr), rfl, by rw [upd_ne (ne_of hw9 er9 (by intro z; cases z))]; exact hw9, hG9.keep kU (noT1 (.of_lst er9)) (by simp; exact ne_of hG9.ins er9 (by intro z; cases z)) (by simp; exact Ne.symm (I7.ap q hqm).1) (by simp; exact ne_of hG9.kep er9 (by intro z; cases z)) (fun j p h => by simp; exact (I7.ap q hqm).2 j p h), by rw [upd_ne (ne_of hod9 er9 (by intro z; cases z))]; exact hod9, fun u q2 hq2 => ?_, fun b o' e hn => ?_⟩
                · by_cases hut : u = t
                  · subst hut
                    rw [hq] at hq2
                    cases hq2
                    rw [if_pos (Nat.lt_succ_self _), upd_same]
                  · have hne : q2.addr ≠ q.addr := fun z => by
                      have h1 : (ws.map (·.addr))[u]? = some q2.addr := by rw [List.getElem?_map, hq2]; rfl
                      have h2 : (ws.map (·.addr))[t]? = some q.addr := by rw [List.getElem?_map, hq]; rfl
                      rw [z] at h1
                      have hlt : u < (ws.map (·.addr)).length := (List.getElem?_eq_some_iff.mp h1).1
                      exact hut ((List.getElem?_inj hlt I7.bk.an).mp (h1.trans h2.symm))
                    rw [upd_ne hne]
                    have h3 := s9 _ _ (hrec u q2 hq2)
                    by_cases hlt : u < t
                    · rw [if_pos hlt] at h3
                      rw [if_pos (by omega)]
                      exact h3
                    · rw [if_neg hlt] at h3
                      rw [if_neg (by omega)]
                      exact h3
                · have hb2 : b ≠ q.addr := fun z => by
                    unfold tch at hn
                    exact hn (List.mem_append_right _ (by rw [z]; exact List.mem_map_of_mem hqm))
                  rw [upd_ne hb2]
                  exact s9 _ _ (kk _ _ e hn)
              · rintro σ H8 ⟨u11, rfl, hw, hG, hod, hrec, kk⟩
                rw [List.length_map, show (wkv ws).length = ws.length by simp [wkv]] at hrec
                have kU : Keep [a.pw] H8 (upd H8 a.pw (.dK (wkv ws))) := Keep.refl.upd (.inl (.head _))
                have hnTw : ∀ b ∈ [a.pw], NoT H8 b := fun b hb' xs z => by
                  rw [List.mem_singleton] at hb'
                  subst hb'
                  rw [hw] at z
                  cases z
                have upk : ∀ {b : Addr} {l : List V}, H8 b = some (.lst l) → upd H8 a.pw (.dK (wkv ws)) b = some (.lst l) := fun e => by rw [upd_ne (ne_of e hw (by intro z; cases z))]; exact e
                have hwk : wkv (ws.map (upq S.length)) = wkv ws := by
                  unfold wkv
                  rw [List.map_map]
                  rfl
                have hads : (ws.map (upq S.length)).map (·.addr) = ws.map (·.addr) := by rw [List.map_map]; rfl
                have hnms : (ws.map (upq S.length)).map (·.num) = ws.map (·.num) := by rw [List.map_map]; rfl
                have memU : ∀ q ∈ ws.map (upq S.length), ∃ q0 ∈ ws, q = upq S.length q0 := fun q hq => by
                  obtain ⟨q0, h1, h2⟩ := List.mem_map.mp hq
                  exact ⟨q0, h1, h2.symm⟩
                have leU : ∀ q0 : WR, q0.keys ≤ (upq S.length q0).keys ∧ (S.length : Int) ≤ (upq S.length q0).keys := fun q0 => by
                  unfold upq
                  dsimp only
                  split <;> omega
                have kF : Keep (tch a ws) H7 (upd H8 a.pw (.dK (wkv ws))) := fun b o' e hn => by
                  have h8 := kk _ _ e hn
                  unfold tch at hn
                  simp only [List.cons_append, List.nil_append, List.mem_cons, not_or] at hn
                  rw [upd_ne hn.2.2.1]
                  exact h8
                have hadw : ∀ q ∈ ws.map (upq S.length), q.addr ∈ ws.map (·.addr) ∨ H7 q.addr = none := fun q hq => .inl (by rw [← hads]; exact List.mem_map_of_mem hq)
                refine ⟨_, Unf.of hw ew7, hR _ _ ⟨kvs, S, ws.map (upq S.length), okv, g, N, v10, u11, v12, v13, rfl, ⟨hG.keep kU hnTw (by simp; exact hxw) (by simp; exact hrw) (by simp; exact Ne.symm I7.n1) (fun j p h => ?_), ⟨by rw [upd_same, hwk], fun q hq => ?_, by rw [hads]; exact I7.bk.an, by rw [hnms]; exact I7.bk.pm, I7.bk.un, fun q hq => ?_, by rw [upd_ne (Ne.symm I7.bk.ne)]; exact hod, I7.bk.ov, I7.bk.ol, I7.bk.ns, I7.bk.ct, I7.bk.ne, I7.bk.ok, fun q hq => ?_⟩, fun q hq => ?_, I7.kr, I7.n1, I7.n2, I7.l1, I7.l2, I7.l3⟩, fun q hq => ?_, Pc7.step I7 hadw kF, Pd7.step I7 hadw kF, hN7, g07⟩⟩
                · obtain ⟨ys, hy⟩ := hG.list h
                  simp
                  exact ne_of hy hw (by intro z; cases z)
                · obtain ⟨q0, h1, rfl⟩ := memU q hq
                  obtain ⟨u, hu', e1⟩ := List.mem_iff_getElem.mp h1
                  have h3 := hrec u q0 (by rw [List.getElem?_eq_getElem hu', e1])
                  rw [if_pos hu'] at h3
                  exact upk h3
                · obtain ⟨q0, h1, rfl⟩ := memU q hq
                  exact (I7.bk.rs q0 h1).more (leU q0).1
                · obtain ⟨q0, h1, rfl⟩ := memU q hq
                  exact I7.bk.pb q0 h1
                · obtain ⟨q0, h1, rfl⟩ := memU q hq
                  exact I7.ap q0 h1
                · obtain ⟨q0, h1, rfl⟩ := memU q hq
                  exact (leU q0).2
            case key3 =>
              rintro σ H8 ⟨kvs, S, ws, okv, g, N, v10, v11, v12, v13, rfl, I8, hset, Pc8, Pd8, hN8, g08⟩
              refine use2 (fun σ' H' => ∃ m : Nat, σ' = sg sc r a g N (some (.int cc)) (some (.ref pd)) v10 v11 (some (.int m)) v13 ∧ Same H8 H' ∧ m ≤ 192 ∧ (cc = 1000000 → m = 192)) ?key4 ?go4
              case go4 =>
                intro R' hR
                have ed8 := Pd8.e
                have ha8 : atI (ds.map V.int) 8 = some (.int d8) := by rw [atI_pos (by decide)]; exact hd8
                simp (maxSteps := 1000000) only [tFor_eq, tComp_eq, rRngs, rListR, HO.rng.injEq, tDKeys, rSortL, rSortK, ixN_10, ixN_20, ixN_21, ixN_30, ixN_31, ixN_32, ixN_40, ixN_41, ixN_42, ixN_43, ixN_50, ixN_51, ixN_52, ixN_53, ixN_54, rNe_nn, rEq_nn, rNe_in, rEq_in, rNe_ni, rEq_ni, gSeqX, rLeS, rEq_ss, rNe_ss, rStr1, rAllX, rAnyX, rListD, iStr, rSumX, tBL, tBL0, rExtend, rPopAt, rPop, rReverse, rClear, rIsIX, tyX_n, tyX_b, tyX_i, tyX_s, tyX_r, tyO_l, tyO_t, tyO_d, V.ty.injEq, kT_Noin, kT_Nobo, kT_Nost, kT_Noli, kT_Notu, kT_Nodi, kT_boin, kT_bobo, kT_bost, kT_boli, kT_botu, kT_bodi, kT_inin, kT_inbo, kT_inst, kT_inli, kT_intu, kT_indi, kT_stin, kT_stbo, kT_stst, kT_stli, kT_sttu, kT_stdi, kT_liin, kT_libo, kT_list, kT_lili, kT_litu, kT_lidi, kT_tuin, kT_tubo, kT_tust, kT_tuli, kT_tutu, kT_tudi, kT_diin, kT_dibo, kT_dist, kT_dili, kT_ditu, kT_didi, rGet, getO_l, getO_t, getO_di, getO_ds, rLenX, lenX_r, lenX_s', lenO_l, lenO_t, lenO_d, Option.bind_some, tTruX, truX_n, truX_b, truX_i, truX_r, truO_l, truO_t, truO_d, rInX, rNotInX, inO_l', inO_t', inO_di, inO_ds, rSetX, setO_l, setO_di', setO_ds', rSlX, rListX, seqO_l, seqO_t, rTupX, gTupX, gCons, gNil, gSub, atI_0, atI_1, atI_2, atI_3, tDNewK, Nat.reduceSub, upd_same, upd_upd, Nat.reduceLT, HO.lst.injEq, HO.tup.injEq, HO.dK.injEq, HO.ins.injEq, Option.map_some, Option.isSome_some, Int.reduceEq, Int.reduceLT, Int.reduceLE, Nat.reduceAdd, List.isEmpty_nil, List.isEmpty_cons, ne_eq, not_false_eq_true, tDGs, sDPs, rIsB, rIsntB, tMeth, tMake, tDGet, sDPut, tFld, sFld, tDisp, tPairs, tNever, decide_true, decide_false, truV_bl, clsV_ty, V.ty.injEq, exists_eq', exists_eq, Bool.not_true, Bool.not_false, Bool.not_not, rLen, rListOf, rTupOf, rAny, rAll, rIsI, tTru, iRng1, iRng2, iList, tYes, cSt, List.drop_succ_cons, List.drop_zero, cxOf_K, cxC_K,  tBM, tBM0, rAppend, tSl, rSlL, tNoPart, tPart, rIxL, rIxT, rCat, List.cons.injEq, rEq_ii, rNe_ii, rEq_bb, rNe_bb, tSeq, exists_and_left, if_false, if_true, reduceIte, Bool.false_eq_true, tIfS, tAnd, tOr, tNot, tTest, tOp, tUn, tVar, tC, rI, rI0, rU, tRet, tRetN, tAsg, gName, tNext, tAndV, tOrV, tNotV, tIf, tCall, tCons, tNil, tCB, tDrop, tLst, tTup, tChain, L2.start, List.map_cons, List.map_nil, List.length_cons, List.length_nil, List.replicate, List.cons_append, List.nil_append, List.getElem?_cons_zero, List.getElem?_cons_succ, List.set_cons_zero, List.set_cons_succ, Option.some.injEq, exists_eq_left', exists_eq_left, V.int.injEq, V.bl.injEq, V.ref.injEq, V.str.injEq, exists_const, and_true, true_and, reduceCtorEq, false_and, exists_false, or_false, false_or, and_assoc, List.append_nil, sg, ed8, ha8]
                refine ⟨by decide, ?_⟩
                intro p9 n9
                generalize z9 : upd H8 p9 _ = H9
                obtain ⟨s9, e9⟩ := new_same z9 n9
                obtain ⟨wv, hwv, ewv⟩ := atI_in (xs := [V.int 7, V.int 3, V.int 2]) (k := r / 192 % 3) (by omega) (by simp only [List.length_cons, List.length_nil]; omega)
                obtain ⟨z, rfl, z0, z1⟩ : ∃ z : Int, wv = .int z ∧ 0 < z ∧ z ≤ 7 := by
                  simp only [List.mem_cons, List.not_mem_nil, or_false] at hwv
                  rcases hwv with rfl | rfl | rfl
                  · exact ⟨_, rfl, by omega, by omega⟩
                  · exact ⟨_, rfl, by omega, by omega⟩
                  · exact ⟨_, rfl, by omega, by omega⟩
                have hz0 : 0 ≤ d8 % z := Int.emod_nonneg _ (by omega)
                have hz1 : d8 % z < z := Int.emod_lt_of_pos _ z0
                refine ⟨⟨by decide, by decide⟩, _, ewv, z, rfl, z0, ?_⟩
                refine ite2 (fun hc' => ?_) (fun hc' => ?_)
                · exact ⟨.inl ⟨by decide, by decide⟩, hR _ _ ⟨192, rfl, s9, by omega, fun _ => rfl⟩⟩
                · refine hR _ _ ⟨(d8 % z).toNat, ?_, s9, by omega, fun z => absurd (decide_eq_true z) hc'⟩
                  rw [Int.toNat_of_nonneg hz0]
                  rfl
              case key4 =>
                rintro σ H9 ⟨m, rfl, s9, hm, hmc⟩
                have I9 := I8.same s9
                have Pc9 := Pc8.same s9
                have ex9 := I9.gt.ins
                simp (maxSteps := 1000000) only [tFor_eq, tComp_eq, rRngs, rListR, HO.rng.injEq, tDKeys, rSortL, rSortK, ixN_10, ixN_20, ixN_21, ixN_30, ixN_31, ixN_32, ixN_40, ixN_41, ixN_42, ixN_43, ixN_50, ixN_51, ixN_52, ixN_53, ixN_54, rNe_nn, rEq_nn, rNe_in, rEq_in, rNe_ni, rEq_ni, gSeqX, rLeS, rEq_ss, rNe_ss, rStr1, rAllX, rAnyX, rListD, iStr, rSumX, tBL, tBL0, rExtend, rPopAt, rPop, rReverse, rClear, rIsIX, tyX_n, tyX_b, tyX_i, tyX_s, tyX_r, tyO_l, tyO_t, tyO_d, V.ty.injEq, kT_Noin, kT_Nobo, kT_Nost, kT_Noli, kT_Notu, kT_Nodi, kT_boin, kT_bobo, kT_bost, kT_boli, kT_botu, kT_bodi, kT_inin, kT_inbo, kT_inst, kT_inli, kT_intu, kT_indi, kT_stin, kT_stbo, kT_stst, kT_stli, kT_sttu, kT_stdi, kT_liin, kT_libo, kT_list, kT_lili, kT_litu, kT_lidi, kT_tuin, kT_tubo, kT_tust, kT_tuli, kT_tutu, kT_tudi, kT_diin, kT_dibo, kT_dist, kT_dili, kT_ditu, kT_didi, rGet, getO_l, getO_t, getO_di, getO_ds, rLenX, lenX_r, lenX_s', lenO_l, lenO_t, lenO_d, Option.bind_some, tTruX, truX_n, truX_b, truX_i, truX_r, truO_l, truO_t, truO_d, rInX, rNotInX, inO_l', inO_t', inO_di, inO_ds, rSetX, setO_l, setO_di', setO_ds', rSlX, rListX, seqO_l, seqO_t, rTupX, gTupX, gCons, gNil, gSub, atI_0, atI_1, atI_2, atI_3, tDNewK, Nat.reduceSub, upd_same, upd_upd, Nat.reduceLT, HO.lst.injEq, HO.tup.injEq, HO.dK.injEq, HO.ins.injEq, Option.map_some, Option.isSome_some, Int.reduceEq, Int.reduceLT, Int.reduceLE, Nat.reduceAdd, List.isEmpty_nil, List.isEmpty_cons, ne_eq, not_false_eq_true, tDGs, sDPs, rIsB, rIsntB, tMeth, tMake, tDGet, sDPut, tFld, sFld, tDisp, tPairs, tNever, decide_true, decide_false, truV_bl, clsV_ty, V.ty.injEq, exists_eq', exists_eq, Bool.not_true, Bool.not_false, Bool.not_not, rLen, rListOf, rTupOf, rAny, rAll, rIsI, tTru, iRng1, iRng2, iList, tYes, cSt, List.drop_succ_cons, List.drop_zero, cxOf_K, cxC_K,  tBM, tBM0, rAppend, tSl, rSlL, tNoPart, tPart, rIxL, rIxT, rCat, List.cons.injEq, rEq_ii, rNe_ii, rEq_bb, rNe_bb, tSeq, exists_and_left, if_false, if_true, reduceIte, Bool.false_eq_true, tIfS, tAnd, tOr, tNot, tTest, tOp, tUn, tVar, tC, rI, rI0, rU, tRet, tRetN, tAsg, gName, tNext, tAndV, tOrV, tNotV, tIf, tCall, tCons, tNil, tCB, tDrop, tLst, tTup, tChain, L2.start, List.map_cons, List.map_nil, List.length_cons, List.length_nil, List.replicate, List.cons_append, List.nil_append, List.getElem?_cons_zero, List.getElem?_cons_succ, List.set_cons_zero, List.set_cons_succ, Option.some.injEq, exists_eq_left', exists_eq_left, V.int.injEq, V.bl.injEq, V.ref.injEq, V.str.injEq, exists_const, and_true, true_and, reduceCtorEq, false_and, exists_false, or_false, false_or, and_assoc, List.append_nil, sg, ex9, T_Gate.cl, T_Gate.no "places" (by decide), T_Gate.no "row" (by decide), T_Gate.no "kept" (by decide), fs_Gate_places, fs_Gate_row, fs_Gate_kept, fn_Gate___init__, fn_Gate_put, fn_Gate_out, fn_Gate_give_one, fn_Gate_waiting, fn_Gate_waits, fl_Gate, fp_Gate_places, fp_Gate_row, fp_Gate_kept, fq_Gate_0, fq_Gate_1, fq_Gate_2]
                refine ⟨a.x, a.dx, a.pr, a.pk, a.pl, kvs, S, N, m, rfl, I9.gt, by omega, by omega, fun pf xs kvs' HA hpf epf hxs GA frA kA => ?_⟩
                obtain ⟨w1, w2, w3⟩ := I9.away
                have BA := I9.bk.keep kA w1 w2 w3
                have hxl : xs.length = (outS m S).1.length := by have := hxs.len; rw [List.length_map] at this; exact this
                have hol := outS_len (n := m) I9.gt.ok
                have hwl : ((wkv ws).length : Int) = ((allN S).length : Int) := by
                  have h1 := I9.bk.pm.length_eq
                  rw [List.length_map] at h1
                  unfold wkv
                  rw [List.length_map]
                  omega
                have ewA := BA.wd
                have hxm : (xs.length : Int) = (if (((wkv ws).length : Int)) < (m : Int) then ((wkv ws).length : Int) else (m : Int)) := by
                  rw [hwl]
                  split <;> omega
                simp (maxSteps := 1000000) only [tFor_eq, tComp_eq, rRngs, rListR, HO.rng.injEq, tDKeys, rSortL, rSortK, ixN_10, ixN_20, ixN_21, ixN_30, ixN_31, ixN_32, ixN_40, ixN_41, ixN_42, ixN_43, ixN_50, ixN_51, ixN_52, ixN_53, ixN_54, rNe_nn, rEq_nn, rNe_in, rEq_in, rNe_ni, rEq_ni, gSeqX, rLeS, rEq_ss, rNe_ss, rStr1, rAllX, rAnyX, rListD, iStr, rSumX, tBL, tBL0, rExtend, rPopAt, rPop, rReverse, rClear, rIsIX, tyX_n, tyX_b, tyX_i, tyX_s, tyX_r, tyO_l, tyO_t, tyO_d, V.ty.injEq, kT_Noin, kT_Nobo, kT_Nost, kT_Noli, kT_Notu, kT_Nodi, kT_boin, kT_bobo, kT_bost, kT_boli, kT_botu, kT_bodi, kT_inin, kT_inbo, kT_inst, kT_inli, kT_intu, kT_indi, kT_stin, kT_stbo, kT_stst, kT_stli, kT_sttu, kT_stdi, kT_liin, kT_libo, kT_list, kT_lili, kT_litu, kT_lidi, kT_tuin, kT_tubo, kT_tust, kT_tuli, kT_tutu, kT_tudi, kT_diin, kT_dibo, kT_dist, kT_dili, kT_ditu, kT_didi, rGet, getO_l, getO_t, getO_di, getO_ds, rLenX, lenX_r, lenX_s', lenO_l, lenO_t, lenO_d, Option.bind_some, tTruX, truX_n, truX_b, truX_i, truX_r, truO_l, truO_t, truO_d, rInX, rNotInX, inO_l', inO_t', inO_di, inO_ds, rSetX, setO_l, setO_di', setO_ds', rSlX, rListX, seqO_l, seqO_t, rTupX, gTupX, gCons, gNil, gSub, atI_0, atI_1, atI_2, atI_3, tDNewK, Nat.reduceSub, upd_same, upd_upd, Nat.reduceLT, HO.lst.injEq, HO.tup.injEq, HO.dK.injEq, HO.ins.injEq, Option.map_some, Option.isSome_some, Int.reduceEq, Int.reduceLT, Int.reduceLE, Nat.reduceAdd, List.isEmpty_nil, List.isEmpty_cons, ne_eq, not_false_eq_true, tDGs, sDPs, rIsB, rIsntB, tMeth, tMake, tDGet, sDPut, tFld, sFld, tDisp, tPairs, tNever, decide_true, decide_false, truV_bl, clsV_ty, V.ty.injEq, exists_eq', exists_eq, Bool.not_true, Bool.not_false, Bool.not_not, rLen, rListOf, rTupOf, rAny, rAll, rIsI, tTru, iRng1, iRng2, iList, tYes, cSt, List.drop_succ_cons, List.drop_zero, cxOf_K, cxC_K,  tBM, tBM0, rAppend, tSl, rSlL, tNoPart, tPart, rIxL, rIxT, rCat, List.cons.injEq, rEq_ii, rNe_ii, rEq_bb, rNe_bb, tSeq, exists_and_left, if_false, if_true, reduceIte, Bool.false_eq_true, tIfS, tAnd, tOr, tNot, tTest, tOp, tUn, tVar, tC, rI, rI0, rU, tRet, tRetN, tAsg, gName, tNext, tAndV, tOrV, tNotV, tIf, tCall, tCons, tNil, tCB, tDrop, tLst, tTup, tChain, L2.start, List.map_cons, List.map_nil, List.length_cons, List.length_nil, List.replicate, List.cons_append, List.nil_append, List.getElem?_cons_zero, List.getElem?_cons_succ, List.set_cons_zero, List.set_cons_succ, Option.some.injEq, exists_eq_left', exists_eq_left, V.int.injEq, V.bl.injEq, V.ref.injEq, V.str.injEq, exists_const, and_true, true_and, reduceCtorEq, false_and, exists_false, or_false, false_or, and_assoc, List.append_nil, epf, ewA, hxm]
                refine ⟨pf, a.pw, a.po, g, xs, ws, okv, S, N, m, rfl, epf, hxs, BA, hset, by omega, g08, fun ws' okv' HB BB hsub kB => ?_⟩
                simp (maxSteps := 1000000) only [tFor_eq, tComp_eq, rRngs, rListR, HO.rng.injEq, tDKeys, rSortL, rSortK, ixN_10, ixN_20, ixN_21, ixN_30, ixN_31, ixN_32, ixN_40, ixN_41, ixN_42, ixN_43, ixN_50, ixN_51, ixN_52, ixN_53, ixN_54, rNe_nn, rEq_nn, rNe_in, rEq_in, rNe_ni, rEq_ni, gSeqX, rLeS, rEq_ss, rNe_ss, rStr1, rAllX, rAnyX, rListD, iStr, rSumX, tBL, tBL0, rExtend, rPopAt, rPop, rReverse, rClear, rIsIX, tyX_n, tyX_b, tyX_i, tyX_s, tyX_r, tyO_l, tyO_t, tyO_d, V.ty.injEq, kT_Noin, kT_Nobo, kT_Nost, kT_Noli, kT_Notu, kT_Nodi, kT_boin, kT_bobo, kT_bost, kT_boli, kT_botu, kT_bodi, kT_inin, kT_inbo, kT_inst, kT_inli, kT_intu, kT_indi, kT_stin, kT_stbo, kT_stst, kT_stli, kT_sttu, kT_stdi, kT_liin, kT_libo, kT_list, kT_lili, kT_litu, kT_lidi, kT_tuin, kT_tubo, kT_tust, kT_tuli, kT_tutu, kT_tudi, kT_diin, kT_dibo, kT_dist, kT_dili, kT_ditu, kT_didi, rGet, getO_l, getO_t, getO_di, getO_ds, rLenX, lenX_r, lenX_s', lenO_l, lenO_t, lenO_d, Option.bind_some, tTruX, truX_n, truX_b, truX_i, truX_r, truO_l, truO_t, truO_d, rInX, rNotInX, inO_l', inO_t', inO_di, inO_ds, rSetX, setO_l, setO_di', setO_ds', rSlX, rListX, seqO_l, seqO_t, rTupX, gTupX, gCons, gNil, gSub, atI_0, atI_1, atI_2, atI_3, tDNewK, Nat.reduceSub, upd_same, upd_upd, Nat.reduceLT, HO.lst.injEq, HO.tup.injEq, HO.dK.injEq, HO.ins.injEq, Option.map_some, Option.isSome_some, Int.reduceEq, Int.reduceLT, Int.reduceLE, Nat.reduceAdd, List.isEmpty_nil, List.isEmpty_cons, ne_eq, not_false_eq_true, tDGs, sDPs, rIsB, rIsntB, tMeth, tMake, tDGet, sDPut, tFld, sFld, tDisp, tPairs, tNever, decide_true, decide_false, truV_bl, clsV_ty, V.ty.injEq, exists_eq', exists_eq, Bool.not_true, Bool.not_false, Bool.not_not, rLen, rListOf, rTupOf, rAny, rAll, rIsI, tTru, iRng1, iRng2, iList, tYes, cSt, List.drop_succ_cons, List.drop_zero, cxOf_K, cxC_K,  tBM, tBM0, rAppend, tSl, rSlL, tNoPart, tPart, rIxL, rIxT, rCat, List.cons.injEq, rEq_ii, rNe_ii, rEq_bb, rNe_bb, tSeq, exists_and_left, if_false, if_true, reduceIte, Bool.false_eq_true, tIfS, tAnd, tOr, tNot, tTest, tOp, tUn, tVar, tC, rI, rI0, rU, tRet, tRetN, tAsg, gName, tNext, tAndV, tOrV, tNotV, tIf, tCall, tCons, tNil, tCB, tDrop, tLst, tTup, tChain, L2.start, List.map_cons, List.map_nil, List.length_cons, List.length_nil, List.replicate, List.cons_append, List.nil_append, List.getElem?_cons_zero, List.getElem?_cons_succ, List.set_cons_zero, List.set_cons_succ, Option.some.injEq, exists_eq_left', exists_eq_left, V.int.injEq, V.bl.injEq, V.ref.injEq, V.str.injEq, exists_const, and_true, true_and, reduceCtorEq, false_and, exists_false, or_false, false_or, and_assoc, List.append_nil]
                have hnTB : ∀ b ∈ [a.pw, a.po], NoT HA b := fun b hb' => by
                  simp only [List.mem_cons, List.not_mem_nil, or_false] at hb'
                  rcases hb' with rfl | rfl
                  · exact .of_dK BA.wd
                  · exact .of_dK BA.od
                have out2 : ∀ {b : Addr} {o : HO}, HA b = some o → (∀ l, o ≠ .dK l) → b ∉ [a.pw, a.po] := fun e hd => by
                  simp only [List.mem_cons, List.not_mem_nil, or_false, not_or]
                  exact ⟨ne_of e BA.wd (hd _), ne_of e BA.od (hd _)⟩
                have epc : H9 p4 = some (.lst ((cs ++ [1000000]).map V.int)) := Pc9.e
                have npk : p4 ≠ a.pk := ne_of epc I9.gt.kep (by intro z; cases z)
                have epcA := kA _ _ epc (by simp; exact ⟨Pc9.n1, npk⟩)
                refine ⟨kvs', (outS m S).2, ws', okv', _, N, _, _, _, _, _, _, rfl, ⟨GA.keep kB hnTB (out2 GA.ins (by intro l z; cases z)) (out2 GA.row (by intro l z; cases z)) ?_ (fun j p h => ?_), BB, fun q hq => ?_, fun k hk => I9.kr k (outS_keys hk), I9.n1, I9.n2, I9.l1, I9.l2, I9.l3⟩, ⟨kB _ _ epcA (out2 epcA (by intro l z; cases z)), Pc9.n1, fun z => ?_⟩, by omega, by omega, fun hlast => ?_⟩
                · simp only [List.mem_cons, List.not_mem_nil, or_false, not_or]
                  exact ⟨Ne.symm I9.n1, Ne.symm I9.n2⟩
                · obtain ⟨ys, hy⟩ := GA.list h
                  exact out2 hy (by intro l z; cases z)
                · have hq0 := hsub q hq
                  refine ⟨(I9.ap q hq0).1, fun j p h => ?_⟩
                  rcases frA j p h with z | z
                  · exact (I9.ap q hq0).2 j p z
                  · exact Ne.symm (ne_of_none (I9.bk.rcd q hq0) z)
                · obtain ⟨q, hq, e⟩ := List.mem_map.mp z
                  exact Pc9.n2 (by rw [← e]; exact List.mem_map_of_mem (hsub q hq))
                · have hic : i = cs.length := by omega
                  subst hic
                  rw [List.getElem?_append_right (Nat.le_refl _)] at hc
                  simp at hc
                  refine outS_all I9.gt.ok ?_
                  rw [hmc hc.symm]
                  exact I9.total
      · rintro σ H5 ⟨kvs, S, ws, okv, g, N, v8, v9, v10, v11, v12, v13, rfl, I5, Pc5, hN5, g05, hS5⟩
        have hS0 : S = [] := hS5 (by simp)
        have hN427 : N ≤ 427 := by
          rw [List.length_map, List.length_append, List.length_singleton] at hN5
          omega
        subst hS0
        have ew := I5.bk.wd
        have hws : ws = [] := by
          have := I5.bk.pm.length_eq
          rw [List.length_map] at this
          exact List.length_eq_zero_iff.mp (by rw [this]; rfl)
        subst hws
        have ex := I5.gt.ins
        simp (maxSteps := 1000000) only [tFor_eq, tComp_eq, rRngs, rListR, HO.rng.injEq, tDKeys, rSortL, rSortK, ixN_10, ixN_20, ixN_21, ixN_30, ixN_31, ixN_32, ixN_40, ixN_41, ixN_42, ixN_43, ixN_50, ixN_51, ixN_52, ixN_53, ixN_54, rNe_nn, rEq_nn, rNe_in, rEq_in, rNe_ni, rEq_ni, gSeqX, rLeS, rEq_ss, rNe_ss, rStr1, rAllX, rAnyX, rListD, iStr, rSumX, tBL, tBL0, rExtend, rPopAt, rPop, rReverse, rClear, rIsIX, tyX_n, tyX_b, tyX_i, tyX_s, tyX_r, tyO_l, tyO_t, tyO_d, V.ty.injEq, kT_Noin, kT_Nobo, kT_Nost, kT_Noli, kT_Notu, kT_Nodi, kT_boin, kT_bobo, kT_bost, kT_boli, kT_botu, kT_bodi, kT_inin, kT_inbo, kT_inst, kT_inli, kT_intu, kT_indi, kT_stin, kT_stbo, kT_stst, kT_stli, kT_sttu, kT_stdi, kT_liin, kT_libo, kT_list, kT_lili, kT_litu, kT_lidi, kT_tuin, kT_tubo, kT_tust, kT_tuli, kT_tutu, kT_tudi, kT_diin, kT_dibo, kT_dist, kT_dili, kT_ditu, kT_didi, rGet, getO_l, getO_t, getO_di, getO_ds, rLenX, lenX_r, lenX_s', lenO_l, lenO_t, lenO_d, Option.bind_some, tTruX, truX_n, truX_b, truX_i, truX_r, truO_l, truO_t, truO_d, rInX, rNotInX, inO_l', inO_t', inO_di, inO_ds, rSetX, setO_l, setO_di', setO_ds', rSlX, rListX, seqO_l, seqO_t, rTupX, gTupX, gCons, gNil, gSub, atI_0, atI_1, atI_2, atI_3, tDNewK, Nat.reduceSub, upd_same, upd_upd, Nat.reduceLT, HO.lst.injEq, HO.tup.injEq, HO.dK.injEq, HO.ins.injEq, Option.map_some, Option.isSome_some, Int.reduceEq, Int.reduceLT, Int.reduceLE, Nat.reduceAdd, List.isEmpty_nil, List.isEmpty_cons, ne_eq, not_false_eq_true, tDGs, sDPs, rIsB, rIsntB, tMeth, tMake, tDGet, sDPut, tFld, sFld, tDisp, tPairs, tNever, decide_true, decide_false, truV_bl, clsV_ty, V.ty.injEq, exists_eq', exists_eq, Bool.not_true, Bool.not_false, Bool.not_not, rLen, rListOf, rTupOf, rAny, rAll, rIsI, tTru, iRng1, iRng2, iList, tYes, cSt, List.drop_succ_cons, List.drop_zero, cxOf_K, cxC_K,  tBM, tBM0, rAppend, tSl, rSlL, tNoPart, tPart, rIxL, rIxT, rCat, List.cons.injEq, rEq_ii, rNe_ii, rEq_bb, rNe_bb, tSeq, exists_and_left, if_false, if_true, reduceIte, Bool.false_eq_true, tIfS, tAnd, tOr, tNot, tTest, tOp, tUn, tVar, tC, rI, rI0, rU, tRet, tRetN, tAsg, gName, tNext, tAndV, tOrV, tNotV, tIf, tCall, tCons, tNil, tCB, tDrop, tLst, tTup, tChain, L2.start, List.map_cons, List.map_nil, List.length_cons, List.length_nil, List.replicate, List.cons_append, List.nil_append, List.getElem?_cons_zero, List.getElem?_cons_succ, List.set_cons_zero, List.set_cons_succ, Option.some.injEq, exists_eq_left', exists_eq_left, V.int.injEq, V.bl.injEq, V.ref.injEq, V.str.injEq, exists_const, and_true, true_and, reduceCtorEq, false_and, exists_false, or_false, false_or, and_assoc, List.append_nil, sg, ew]
        intro p6 n6
        generalize z6 : upd H5 p6 _ = H6
        obtain ⟨s6, e6⟩ := new_same z6 n6
        refine ⟨_, _, _, rfl, rfl, s6 _ _ ew, e6, ?_⟩
        have ex6 := s6 _ _ ex
        have I6 := I5.same s6
        simp (maxSteps := 1000000) only [tFor_eq, tComp_eq, rRngs, rListR, HO.rng.injEq, tDKeys, rSortL, rSortK, ixN_10, ixN_20, ixN_21, ixN_30, ixN_31, ixN_32, ixN_40, ixN_41, ixN_42, ixN_43, ixN_50, ixN_51, ixN_52, ixN_53, ixN_54, rNe_nn, rEq_nn, rNe_in, rEq_in, rNe_ni, rEq_ni, gSeqX, rLeS, rEq_ss, rNe_ss, rStr1, rAllX, rAnyX, rListD, iStr, rSumX, tBL, tBL0, rExtend, rPopAt, rPop, rReverse, rClear, rIsIX, tyX_n, tyX_b, tyX_i, tyX_s, tyX_r, tyO_l, tyO_t, tyO_d, V.ty.injEq, kT_Noin, kT_Nobo, kT_Nost, kT_Noli, kT_Notu, kT_Nodi, kT_boin, kT_bobo, kT_bost, kT_boli, kT_botu, kT_bodi, kT_inin, kT_inbo, kT_inst, kT_inli, kT_intu, kT_indi, kT_stin, kT_stbo, kT_stst, kT_stli, kT_sttu, kT_stdi, kT_liin, kT_libo, kT_list, kT_lili, kT_litu, kT_lidi, kT_tuin, kT_tubo, kT_tust, kT_tuli, kT_tutu, kT_tudi, kT_diin, kT_dibo, kT_dist, kT_dili, kT_ditu, kT_didi, rGet, getO_l, getO_t, getO_di, getO_ds, rLenX, lenX_r, lenX_s', lenO_l, lenO_t, lenO_d, Option.bind_some, tTruX, truX_n, truX_b, truX_i, truX_r, truO_l, truO_t, truO_d, rInX, rNotInX, inO_l', inO_t', inO_di, inO_ds, rSetX, setO_l, setO_di', setO_ds', rSlX, rListX, seqO_l, seqO_t, rTupX, gTupX, gCons, gNil, gSub, atI_0, atI_1, atI_2, atI_3, tDNewK, Nat.reduceSub, upd_same, upd_upd, Nat.reduceLT, HO.lst.injEq, HO.tup.injEq, HO.dK.injEq, HO.ins.injEq, Option.map_some, Option.isSome_some, Int.reduceEq, Int.reduceLT, Int.reduceLE, Nat.reduceAdd, List.isEmpty_nil, List.isEmpty_cons, ne_eq, not_false_eq_true, tDGs, sDPs, rIsB, rIsntB, tMeth, tMake, tDGet, sDPut, tFld, sFld, tDisp, tPairs, tNever, decide_true, decide_false, truV_bl, clsV_ty, V.ty.injEq, exists_eq', exists_eq, Bool.not_true, Bool.not_false, Bool.not_not, rLen, rListOf, rTupOf, rAny, rAll, rIsI, tTru, iRng1, iRng2, iList, tYes, cSt, List.drop_succ_cons, List.drop_zero, cxOf_K, cxC_K,  tBM, tBM0, rAppend, tSl, rSlL, tNoPart, tPart, rIxL, rIxT, rCat, List.cons.injEq, rEq_ii, rNe_ii, rEq_bb, rNe_bb, tSeq, exists_and_left, if_false, if_true, reduceIte, Bool.false_eq_true, tIfS, tAnd, tOr, tNot, tTest, tOp, tUn, tVar, tC, rI, rI0, rU, tRet, tRetN, tAsg, gName, tNext, tAndV, tOrV, tNotV, tIf, tCall, tCons, tNil, tCB, tDrop, tLst, tTup, tChain, L2.start, List.map_cons, List.map_nil, List.length_cons, List.length_nil, List.replicate, List.cons_append, List.nil_append, List.getElem?_cons_zero, List.getElem?_cons_succ, List.set_cons_zero, List.set_cons_succ, Option.some.injEq, exists_eq_left', exists_eq_left, V.int.injEq, V.bl.injEq, V.ref.injEq, V.str.injEq, exists_const, and_true, true_and, reduceCtorEq, false_and, exists_false, or_false, false_or, and_assoc, List.append_nil, ex6, T_Gate.cl, T_Gate.no "places" (by decide), T_Gate.no "row" (by decide), T_Gate.no "kept" (by decide), fs_Gate_places, fs_Gate_row, fs_Gate_kept, fn_Gate___init__, fn_Gate_put, fn_Gate_out, fn_Gate_give_one, fn_Gate_waiting, fn_Gate_waits, fl_Gate, fp_Gate_places, fp_Gate_row, fp_Gate_kept, fq_Gate_0, fq_Gate_1, fq_Gate_2, show (wkv []).isEmpty = true from rfl]
        refine ⟨a.x, a.dx, a.pr, a.pk, a.pl, kvs, [], N, rfl, I6.gt, fun p7 H7 n7 e7 s7 => ⟨by decide, ?_⟩⟩
        intro p8 n8
        generalize z8 : upd H7 p8 _ = H8
        obtain ⟨s8, e8⟩ := new_same z8 n8
        refine eqX_same (d := .list []) (.l (s8 _ _ e7) .nil) (.l e8 .nil) (by simp [PyData.depth, PyData.depthAll]) ?_
        have I8 := (I6.same s7).same s8
        have ex8 := I8.gt.ins
        simp (maxSteps := 1000000) only [tFor_eq, tComp_eq, rRngs, rListR, HO.rng.injEq, tDKeys, rSortL, rSortK, ixN_10, ixN_20, ixN_21, ixN_30, ixN_31, ixN_32, ixN_40, ixN_41, ixN_42, ixN_43, ixN_50, ixN_51, ixN_52, ixN_53, ixN_54, rNe_nn, rEq_nn, rNe_in, rEq_in, rNe_ni, rEq_ni, gSeqX, rLeS, rEq_ss, rNe_ss, rStr1, rAllX, rAnyX, rListD, iStr, rSumX, tBL, tBL0, rExtend, rPopAt, rPop, rReverse, rClear, rIsIX, tyX_n, tyX_b, tyX_i, tyX_s, tyX_r, tyO_l, tyO_t, tyO_d, V.ty.injEq, kT_Noin, kT_Nobo, kT_Nost, kT_Noli, kT_Notu, kT_Nodi, kT_boin, kT_bobo, kT_bost, kT_boli, kT_botu, kT_bodi, kT_inin, kT_inbo, kT_inst, kT_inli, kT_intu, kT_indi, kT_stin, kT_stbo, kT_stst, kT_stli, kT_sttu, kT_stdi, kT_liin, kT_libo, kT_list, kT_lili, kT_litu, kT_lidi, kT_tuin, kT_tubo, kT_tust, kT_tuli, kT_tutu, kT_tudi, kT_diin, kT_dibo, kT_dist, kT_dili, kT_ditu, kT_didi, rGet, getO_l, getO_t, getO_di, getO_ds, rLenX, lenX_r, lenX_s', lenO_l, lenO_t, lenO_d, Option.bind_some, tTruX, truX_n, truX_b, truX_i, truX_r, truO_l, truO_t, truO_d, rInX, rNotInX, inO_l', inO_t', inO_di, inO_ds, rSetX, setO_l, setO_di', setO_ds', rSlX, rListX, seqO_l, seqO_t, rTupX, gTupX, gCons, gNil, gSub, atI_0, atI_1, atI_2, atI_3, tDNewK, Nat.reduceSub, upd_same, upd_upd, Nat.reduceLT, HO.lst.injEq, HO.tup.injEq, HO.dK.injEq, HO.ins.injEq, Option.map_some, Option.isSome_some, Int.reduceEq, Int.reduceLT, Int.reduceLE, Nat.reduceAdd, List.isEmpty_nil, List.isEmpty_cons, ne_eq, not_false_eq_true, tDGs, sDPs, rIsB, rIsntB, tMeth, tMake, tDGet, sDPut, tFld, sFld, tDisp, tPairs, tNever, decide_true, decide_false, truV_bl, clsV_ty, V.ty.injEq, exists_eq', exists_eq, Bool.not_true, Bool.not_false, Bool.not_not, rLen, rListOf, rTupOf, rAny, rAll, rIsI, tTru, iRng1, iRng2, iList, tYes, cSt, List.drop_succ_cons, List.drop_zero, cxOf_K, cxC_K,  tBM, tBM0, rAppend, tSl, rSlL, tNoPart, tPart, rIxL, rIxT, rCat, List.cons.injEq, rEq_ii, rNe_ii, rEq_bb, rNe_bb, tSeq, exists_and_left, if_false, if_true, reduceIte, Bool.false_eq_true, tIfS, tAnd, tOr, tNot, tTest, tOp, tUn, tVar, tC, rI, rI0, rU, tRet, tRetN, tAsg, gName, tNext, tAndV, tOrV, tNotV, tIf, tCall, tCons, tNil, tCB, tDrop, tLst, tTup, tChain, L2.start, List.map_cons, List.map_nil, List.length_cons, List.length_nil, List.replicate, List.cons_append, List.nil_append, List.getElem?_cons_zero, List.getElem?_cons_succ, List.set_cons_zero, List.set_cons_succ, Option.some.injEq, exists_eq_left', exists_eq_left, V.int.injEq, V.bl.injEq, V.ref.injEq, V.str.injEq, exists_const, and_true, true_and, reduceCtorEq, false_and, exists_false, or_false, false_or, and_assoc, List.append_nil, ex8, T_Gate.cl, T_Gate.no "places" (by decide), T_Gate.no "row" (by decide), T_Gate.no "kept" (by decide), fs_Gate_places, fs_Gate_row, fs_Gate_kept, fn_Gate___init__, fn_Gate_put, fn_Gate_out, fn_Gate_give_one, fn_Gate_waiting, fn_Gate_waits, fl_Gate, fp_Gate_places, fp_Gate_row, fp_Gate_kept, fq_Gate_0, fq_Gate_1, fq_Gate_2]
        refine ⟨a.x, a.dx, a.pr, a.pk, a.pl, kvs, [], N, 3, rfl, I8.gt, by omega, by decide, fun p9 xs kvs' H9 n9 e9 hxs G9 fr9 k9 => ⟨by decide, ?_⟩⟩
        have hx0 : xs = [] := by
          have := hxs.len
          exact List.length_eq_zero_iff.mp this
        subst hx0
        intro p10 n10
        generalize z10 : upd H9 p10 _ = H10
        obtain ⟨s10, e10⟩ := new_same z10 n10
        refine eqX_same (d := .list []) (.l (s10 _ _ e9) .nil) (.l e10 .nil) (by simp [PyData.depth, PyData.depthAll]) ?_
        exact q _
end
end K32
namespace K32
open PySem L2
section
variable {P : Program} {w : World} {K : PySem.W.Frag} {mg : Str → Option Value} {C : Addr}
theorem mk_Gate {h : Heap} (X : K.In h) (G : h.Ns mainGlobals mg) {C f0 f1 f2 f3 f4 f5 : Addr} {od0 an0 od1 an1 od2 an2 od3 an3 od4 an4 od5 an5 : Option Addr} {sl0 sl1 sl2 sl3 sl4 sl5 : Array (Option Value)} {oc0 kV0 dc0 pm0 cd0 ct0 oc1 kV1 dc1 pm1 cd1 ct1 oc2 kV2 dc2 pm2 cd2 ct2 oc3 kV3 dc3 pm3 cd3 ct3 oc4 kV4 dc4 pm4 cd4 ct4 oc5 kV5 dc5 pm5 cd5 ct5 : Value}
    (aC : PySem.W.nsIn K mainGlobals "Gate" = some (some (.ref C))) (pg : PySem.W.plainGet K C Str.empty = true) (hd : PySem.W.hasDictIn K C = true) (po : PySem.W.plainOver K C = true) (sa : PySem.W.findIn K (.ref C) "__setattr__" = some (some (.builtin "object.__setattr__")))
    (n0 : PySem.W.findIn K (.ref C) "places" = some none) (n1 : PySem.W.findIn K (.ref C) "row" = some none) (n2 : PySem.W.findIn K (.ref C) "kept" = some none) (mk : PySem.W.makesIn K C = true) (kc : PySem.W.keepIn K (.ref C) = true)
    (a0 : PySem.W.findIn K (.ref C) "__init__" = some (some (.ref f0))) (i0 : PySem.W.isFn K (.ref f0) = true) (l0 : K.lookup f0 = some ⟨oc0, od0, .func (PySem.W.fnOf "__init__" "Gate.__init__" (defArgs s_Gate___init__) (defBody s_Gate___init__) (defScope s_Gate___init__) .none kV0 dc0 pm0 an0 cd0 ct0), sl0⟩) (c0 : PySem.W.codeIn K cd0 "Gate.__init__" = true) (k0 : PySem.W.keepIn K (.ref f0) = true)
    (a1 : PySem.W.findIn K (.ref C) "put" = some (some (.ref f1))) (i1 : PySem.W.isFn K (.ref f1) = true) (l1 : K.lookup f1 = some ⟨oc1, od1, .func (PySem.W.fnOf "put" "Gate.put" (defArgs s_Gate_put) (defBody s_Gate_put) (defScope s_Gate_put) .none kV1 dc1 pm1 an1 cd1 ct1), sl1⟩) (c1 : PySem.W.codeIn K cd1 "Gate.put" = true) (k1 : PySem.W.keepIn K (.ref f1) = true)
    (a2 : PySem.W.findIn K (.ref C) "out" = some (some (.ref f2))) (i2 : PySem.W.isFn K (.ref f2) = true) (l2 : K.lookup f2 = some ⟨oc2, od2, .func (PySem.W.fnOf "out" "Gate.out" (defArgs s_Gate_out) (defBody s_Gate_out) (defScope s_Gate_out) .none kV2 dc2 pm2 an2 cd2 ct2), sl2⟩) (c2 : PySem.W.codeIn K cd2 "Gate.out" = true) (k2 : PySem.W.keepIn K (.ref f2) = true)
    (a3 : PySem.W.findIn K (.ref C) "give_one" = some (some (.ref f3))) (i3 : PySem.W.isFn K (.ref f3) = true) (l3 : K.lookup f3 = some ⟨oc3, od3, .func (PySem.W.fnOf "give_one" "Gate.give_one" (defArgs s_Gate_give_one) (defBody s_Gate_give_one) (defScope s_Gate_give_one) .none kV3 dc3 pm3 an3 cd3 ct3), sl3⟩) (c3 : PySem.W.codeIn K cd3 "Gate.give_one" = true) (k3 : PySem.W.keepIn K (.ref f3) = true)
    (a4 : PySem.W.findIn K (.ref C) "waiting" = some (some (.ref f4))) (i4 : PySem.W.isFn K (.ref f4) = true) (l4 : K.lookup f4 = some ⟨oc4, od4, .func (PySem.W.fnOf "waiting" "Gate.waiting" (defArgs s_Gate_waiting) (defBody s_Gate_waiting) (defScope s_Gate_waiting) .none kV4 dc4 pm4 an4 cd4 ct4), sl4⟩) (c4 : PySem.W.codeIn K cd4 "Gate.waiting" = true) (k4 : PySem.W.keepIn K (.ref f4) = true)
    (a5 : PySem.W.findIn K (.ref C) "waits" = some (some (.ref f5))) (i5 : PySem.W.isFn K (.ref f5) = true) (l5 : K.lookup f5 = some ⟨oc5, od5, .func (PySem.W.fnOf "waits" "Gate.waits" (defArgs s_Gate_waits) (defBody s_Gate_waits) (defScope s_Gate_waits) .none kV5 dc5 pm5 an5 cd5 ct5), sl5⟩) (c5 : PySem.W.codeIn K cd5 "Gate.waits" = true) (k5 : PySem.W.keepIn K (.ref f5) = true)
    : ∃ C, ClsD K mg "Gate" C at_Gate ∧ DefI K C "Gate.__init__" s_Gate___init__ ∧ DefM K C "put" "Gate.put" s_Gate_put ∧ DefM K C "out" "Gate.out" s_Gate_out ∧ DefM K C "give_one" "Gate.give_one" s_Gate_give_one ∧ DefM K C "waiting" "Gate.waiting" s_Gate_waiting ∧ DefM K C "waits" "Gate.waits" s_Gate_waits := by
  refine ⟨C, ⟨PySem.W.mg_of X G aC, ⟨pg, hd, po, sa⟩, fun f hf => ?_⟩, defI_mk a0 i0 l0 c0 k0 mk kc, defM_mk a1 i1 l1 c1 k1, defM_mk a2 i2 l2 c2 k2, defM_mk a3 i3 l3 c3 k3, defM_mk a4 i4 l4 c4 k4, defM_mk a5 i5 l5 c5 k5⟩
  simp only [List.mem_cons, List.not_mem_nil, or_false] at hf
  rcases hf with rfl | rfl | rfl
  · exact n0
  · exact n1
  · exact n2
theorem last {fa : Addr} (E1 : DefI K C "Gate.__init__" s_Gate___init__) (E2 : DefM K C "put" "Gate.put" s_Gate_put) (E3 : DefM K C "out" "Gate.out" s_Gate_out) (E4 : DefM K C "give_one" "Gate.give_one" s_Gate_give_one) (E5 : DefM K C "waiting" "Gate.waiting" s_Gate_waiting) (E6 : DefM K C "waits" "Gate.waits" s_Gate_waits)
    (D0 : Def K mg "own_copy" s_own_copy) (D1 : Def K mg "_law_cell_at" s__law_cell_at) (D2 : Def K mg "_law_digits" s__law_digits) (D3 : Def K mg "_law_put" s__law_put) (D4 : Def K mg "_law_given" s__law_given) (DE : Def K mg "law" s_law)
    (T : ClsD K mg "Gate" C at_Gate) (hb : Blt mg) (hmg : mg "law" = some (.ref fa)) :
    ∃ fd : FuncData, (∀ (s : Shared) (u : Value), BindsTo s fd ⟨[u], []⟩ [("_law_script", u)]) ∧ ∀ base : Heap, K.In base → base.Ns mainGlobals mg → FnOk P w K mg base CX0 8 fa fd ["_law_script"] (sp_law K) := by
  obtain ⟨f, fd, hm, F⟩ := DE
  have e := hmg.symm.trans hm
  cases e
  refine ⟨fd, ?_, fun base _ _ => ?_⟩
  · obtain ⟨oc, od, kV, doc, pm, an, cdv, ct, osl, rfl, lk, hcd⟩ := F.ex
    exact fun s u => .of_eq rfl
  · exact law_fn F hb T (own_ginit E1 T) (own_waiting E5 hb T) (own_out E3 hb T (own_give E4 hb T)) (own_cell D1 hb) (own_digits D2 hb) (own_lput D3 hb T (own_put E2 hb T (own_cpy D0 hb 4)) (own_waits E6 hb T) (own_waiting E5 hb T)) (own_given D4 hb)
end
end K32
open PySem PySem.W PyProof.Rows
set_option maxHeartbeats 0 in
theorem PySem.Challenge.cw_roadnet_k32_no_parcel_waits_for_ever_holds : PySem.Challenge.rw_roadnet_k32_no_parcel_waits_for_ever.Holds := by
  w_on; o_law; k_head; (case hw => w_witness2)
  k_fill
  refine L2.walk_ofK (l := PySem.Challenge.rw_roadnet_k32_no_parcel_waits_for_ever) (n := 63) (k := 8) (x := "_law_script") (CX := L2.CX0) (sp := K32.sp_law) rfl (by decide) rfl ⟨rfl, by decide, by decide⟩ (fun w h Y => PySem.W.kIn_of Y) ?F (fun _ _ a ns hl _ hS => ⟨a, ns, rfl, hS, hl, fun _ => rfl⟩) fun _ _ _ _ z => z
  case F =>
    intro w mg fa h KX G hmg
    have D_own_copy : L2.Def (L2.KOf KX) mg "own_copy" K32.s_own_copy := by
      dsimp only [L2.KOf]
      refine' L2.def_mk KX G ?a ?l ?c ?k
      (case a => k_is); (case l => k_is); (case c => k_is); (case k => k_is)
    have D__law_cell_at : L2.Def (L2.KOf KX) mg "_law_cell_at" K32.s__law_cell_at := by
      dsimp only [L2.KOf]
      refine' L2.def_mk KX G ?a ?l ?c ?k
      (case a => k_is); (case l => k_is); (case c => k_is); (case k => k_is)
    have D__law_digits : L2.Def (L2.KOf KX) mg "_law_digits" K32.s__law_digits := by
      dsimp only [L2.KOf]
      refine' L2.def_mk KX G ?a ?l ?c ?k
      (case a => k_is); (case l => k_is); (case c => k_is); (case k => k_is)
    have D__law_put : L2.Def (L2.KOf KX) mg "_law_put" K32.s__law_put := by
      dsimp only [L2.KOf]
      refine' L2.def_mk KX G ?a ?l ?c ?k
      (case a => k_is); (case l => k_is); (case c => k_is); (case k => k_is)
    have D__law_given : L2.Def (L2.KOf KX) mg "_law_given" K32.s__law_given := by
      dsimp only [L2.KOf]
      refine' L2.def_mk KX G ?a ?l ?c ?k
      (case a => k_is); (case l => k_is); (case c => k_is); (case k => k_is)
    have D_law : L2.Def (L2.KOf KX) mg "law" K32.s_law := by
      dsimp only [L2.KOf]
      refine' L2.def_mk KX G ?a ?l ?c ?k
      (case a => k_is); (case l => k_is); (case c => k_is); (case k => k_is)
    have Z_Gate : ∃ C, L2.ClsD (L2.KOf KX) mg "Gate" C K32.at_Gate ∧ L2.DefI (L2.KOf KX) C "Gate.__init__" K32.s_Gate___init__ ∧ L2.DefM (L2.KOf KX) C "put" "Gate.put" K32.s_Gate_put ∧ L2.DefM (L2.KOf KX) C "out" "Gate.out" K32.s_Gate_out ∧ L2.DefM (L2.KOf KX) C "give_one" "Gate.give_one" K32.s_Gate_give_one ∧ L2.DefM (L2.KOf KX) C "waiting" "Gate.waiting" K32.s_Gate_waiting ∧ L2.DefM (L2.KOf KX) C "waits" "Gate.waits" K32.s_Gate_waits := by
      dsimp only [L2.KOf]
      refine' K32.mk_Gate KX G ?aC ?pg ?hd ?po ?sa ?n0 ?n1 ?n2 ?mk ?kc ?a0 ?i0 ?l0 ?c0 ?k0 ?a1 ?i1 ?l1 ?c1 ?k1 ?a2 ?i2 ?l2 ?c2 ?k2 ?a3 ?i3 ?l3 ?c3 ?k3 ?a4 ?i4 ?l4 ?c4 ?k4 ?a5 ?i5 ?l5 ?c5 ?k5
      (case aC => k_is)
      (case pg => k_is)
      (case hd => k_is)
      (case po => k_is)
      (case sa => k_is)
      (case n0 => k_is)
      (case n1 => k_is)
      (case n2 => k_is)
      (case mk => k_is)
      (case kc => k_is)
      (case a0 => k_is)
      (case i0 => k_is)
      (case l0 => k_is)
      (case c0 => k_is)
      (case k0 => k_is)
      (case a1 => k_is)
      (case i1 => k_is)
      (case l1 => k_is)
      (case c1 => k_is)
      (case k1 => k_is)
      (case a2 => k_is)
      (case i2 => k_is)
      (case l2 => k_is)
      (case c2 => k_is)
      (case k2 => k_is)
      (case a3 => k_is)
      (case i3 => k_is)
      (case l3 => k_is)
      (case c3 => k_is)
      (case k3 => k_is)
      (case a4 => k_is)
      (case i4 => k_is)
      (case l4 => k_is)
      (case c4 => k_is)
      (case k4 => k_is)
      (case a5 => k_is)
      (case i5 => k_is)
      (case l5 => k_is)
      (case c5 => k_is)
      (case k5 => k_is)
    obtain ⟨C_Gate, T_Gate, DI_Gate, DM_Gate_put, DM_Gate_out, DM_Gate_give_one, DM_Gate_waiting, DM_Gate_waits⟩ := Z_Gate
    have hb : L2.Blt mg := by
      refine' L2.blt_mk (K := L2.KOf KX) KX G ?b1 ?b2 ?b3 ?b4 ?b5 ?b6 ?b7 ?b8 ?b9 ?b10 ?b11 ?b12 ?b13
      all_goals (dsimp only [L2.KOf]; k_is)
    exact K32.last DI_Gate DM_Gate_put DM_Gate_out DM_Gate_give_one DM_Gate_waiting DM_Gate_waits D_own_copy D__law_cell_at D__law_digits D__law_put D__law_given D_law T_Gate hb hmg
#print axioms PySem.Challenge.cw_roadnet_k32_no_parcel_waits_for_ever_holds
