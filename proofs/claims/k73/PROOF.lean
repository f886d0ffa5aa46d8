import PyProof.Rows.All
import Wide.All
import OpenK.AllK
import Wide.FinOn
import Lean
import PyProof.EqAt
import PyProof.EqKinds
import PyProof.TupleCall
import PyProof.NeData
import PyProof.EqLayable
import PyProof.ConsumeWalk
import PyProof.StrWalks
import PyProof.FString5
import PyProof.CallStr
import KE.KDictList
import KE.KDictSum
import PyProof.Rows.SortWalk
import PyProof.ListRange
import PyProof.EnumFor
import PyProof.EnumMake
import PyProof.EnumStmt
import PyProof.DictWalks
import PyProof.DictItems
import KE.KEqDict
import PyProof.Claim2Refuses
import KE.KMinKey
import PyProof.Rows.SetFrom
import PyProof.SetRoads
import PyProof.ZipIter
import PyProof.Rows.ZipGen
import PyProof.TupleIter
import PyProof.WalksMore
import PyProof.TupleKey
import PyProof.SetKind
import PyProof.IsRules
import PySem.Challenge.RW_roadnet_k73_reckoned_ahead
set_option Elab.async false
set_option linter.all false
set_option maxRecDepth 100000
/-! THE HAND LAYER, for ints, bools, texts, own classes, LISTS and tuples (index, slices, in, append, pop ..), calls, loops. Paste it whole ahead of your own text; what your proof does not reach may be deleted. -/
namespace L2
open PySem PySem.Spec PyProof.Rows

/-- a key: an int or a str -/
abbrev Key := Sum Int Str
def keyIs : Key → Value → Bool
  | .inl k, v => Value.isInt k v
  | .inr x, v => Value.isStrOf x v
def keyH (w : World) : Key → Int
  | .inl k => hashInt k
  | .inr x => hashStr w x
theorem keyIs_shape : ∀ {k : Key} {v : Value}, keyIs k v = true → (∃ i t, k = Sum.inl i ∧ v = Value.int i t) ∨ (∃ x t, k = Sum.inr x ∧ v = Value.str x t)
  | .inl i, v, h => by
    obtain ⟨t, e⟩ := Value.isInt_shape (k := i) (v := v) h
    exact .inl ⟨i, t, rfl, e⟩
  | .inr x, v, h => by
    obtain ⟨t, e⟩ := Value.isStrOf_shape (x := x) (v := v) h
    exact .inr ⟨x, t, rfl, e⟩
theorem keyIs_int (i : Int) (t : Tok) : keyIs (.inl i) (.int i t) = true := by simp [keyIs, Value.isInt]
theorem keyIs_str (x : Str) (t : Tok) : keyIs (.inr x) (.str x t) = true := by simp [keyIs, Value.isStrOf]
theorem key_ll (a b : Int) : decide ((Sum.inl a : Key) = Sum.inl b) = (a == b) := by
  by_cases e : a = b
  · subst e; simp
  · have h : ¬ (Sum.inl a : Key) = Sum.inl b := fun q => e (Sum.inl.inj q)
    rw [decide_eq_false h]
    exact (beq_eq_false_iff_ne.mpr e).symm
theorem key_rr (a b : Str) : decide ((Sum.inr a : Key) = Sum.inr b) = decide (a = b) := by
  by_cases e : a = b
  · subst e; simp
  · have h : ¬ (Sum.inr a : Key) = Sum.inr b := fun q => e (Sum.inr.inj q)
    rw [decide_eq_false h, decide_eq_false e]
theorem key_lr (a : Int) (b : Str) : decide ((Sum.inl a : Key) = Sum.inr b) = false := decide_eq_false (fun q => nomatch q)
theorem key_rl (a : Str) (b : Int) : decide ((Sum.inr a : Key) = Sum.inl b) = false := decide_eq_false (fun q => nomatch q)

def mixKind (prog : Program) (w : World) : PySem.KeyKind prog w Key where
  is := keyIs
  hash := keyH w
  inj := fun v a b ha hb => by
    rcases keyIs_shape ha with ⟨i, t, rfl, rfl⟩ | ⟨x, t, rfl, rfl⟩
    · rcases keyIs_shape hb with ⟨j, u, rfl, e⟩ | ⟨y, u, rfl, e⟩
      · injection e with e1 _; rw [e1]
      · exact nomatch e
    · rcases keyIs_shape hb with ⟨j, u, rfl, e⟩ | ⟨y, u, rfl, e⟩
      · exact nomatch e
      · injection e with e1 _; rw [e1]
  byValue := fun k v h => by
    rcases keyIs_shape h with ⟨i, t, rfl, rfl⟩ | ⟨x, t, rfl, rfl⟩ <;> rfl
  pyHash := fun hv h => by
    rcases keyIs_shape hv with ⟨i, t, rfl, rfl⟩ | ⟨x, t, rfl, rfl⟩
    · exact wpAny_pyHash_int h
    · exact wpAny_pyHash_str h
  eqBool := fun hu hv h => by
    rcases keyIs_shape hu with ⟨i, t, rfl, rfl⟩ | ⟨x, t, rfl, rfl⟩
    · rcases keyIs_shape hv with ⟨j, u, rfl, rfl⟩ | ⟨y, u, rfl, rfl⟩
      · rw [key_ll] at h; exact wpAny_eqBool_int h
      · rw [key_lr] at h; exact SeqAt.EqAt.int_str i t y u _ _ _ _ h
    · rcases keyIs_shape hv with ⟨j, u, rfl, rfl⟩ | ⟨y, u, rfl, rfl⟩
      · rw [key_rl] at h; exact SeqAt.EqAt.str_int x t j u _ _ _ _ h
      · rw [key_rr] at h; exact wpAny_eqBool_str h
  «strs» := fun k x t v h => by
    rcases keyIs_shape h with ⟨i, u, rfl, e⟩ | ⟨y, u, rfl, e⟩
    · exact nomatch e
    · injection e with e1 _
      subst e1
      cases v <;> rfl

theorem mixKind_int (prog : Program) (w : World) (i : Int) (t : Tok) : (mixKind prog w).is (.inl i) (.int i t) = true := keyIs_int i t
theorem mixKind_str (prog : Program) (w : World) (x : Str) (t : Tok) : (mixKind prog w).is (.inr x) (.str x t) = true := keyIs_str x t
end L2

namespace L2
open PySem PySem.Spec PyProof.Rows

/-- a value, without the heap -/
inductive V where
  | non | bl (b : Bool) | int (i : Int) | str (x : Str) | byt (b : Array UInt8) | flt (b : UInt64) | ref (a : Addr) | ty (n : String)
  deriving DecidableEq

def RelV : V → Value → Prop
  | .non, u => u = Value.none
  | .bl b, u => u = Value.bool b
  | .int i, u => ∃ t, u = Value.int i t
  | .str x, u => ∃ t, u = Value.str x t
  | .byt b, u => ∃ t, u = Value.bytes b t
  | .flt b, u => ∃ t, u = Value.float b t
  | .ref a, u => u = Value.ref a
  | .ty n, u => u = Value.type n

abbrev Vals : List V → List Value → Prop := Paired RelV
theorem Vals.length {xs : List V} {us : List Value} (r : Vals xs us) : xs.length = us.length := Paired.length r
theorem Vals.get : ∀ {xs : List V} {us : List Value} {i : Nat} {x : V}, Vals xs us → xs[i]? = some x → ∃ u, us[i]? = some u ∧ RelV x u
  | _, _, _, _, .nil, e => by simp at e
  | _, _, 0, _, .cons r _, e => by simp at e; subst e; exact ⟨_, rfl, r⟩
  | _, _, i + 1, x, .cons _ t, e => by
    obtain ⟨u, h1, h2⟩ := Vals.get (i := i) (x := x) t (by simpa using e)
    exact ⟨u, by simpa using h1, h2⟩
theorem Vals.set {x : V} {u : Value} (r : RelV x u) : ∀ {xs : List V} {us : List Value} (i : Nat), Vals xs us → Vals (xs.set i x) (us.set i u)
  | _, _, _, .nil => .nil
  | _, _, 0, .cons _ t => .cons r t
  | _, _, i + 1, .cons q t => .cons q (Vals.set r i t)
theorem Vals.append : ∀ {xs ys : List V} {us ws : List Value}, Vals xs us → Vals ys ws → Vals (xs ++ ys) (us ++ ws)
  | _, _, _, _, .nil, s => s
  | _, _, _, _, .cons r t, s => .cons r (Vals.append t s)
theorem Vals.take : ∀ {xs : List V} {us : List Value} (n : Nat), Vals xs us → Vals (xs.take n) (us.take n)
  | _, _, 0, _ => .nil
  | _, _, _ + 1, .nil => .nil
  | _, _, n + 1, .cons r t => .cons r (Vals.take n t)
theorem Vals.drop : ∀ {xs : List V} {us : List Value} (n : Nat), Vals xs us → Vals (xs.drop n) (us.drop n)
  | _, _, 0, r => r
  | _, _, _ + 1, .nil => .nil
  | _, _, n + 1, .cons _ t => Vals.drop n t
def RelO : Option V → Option Value → Prop
  | some v, some u => RelV v u
  | none, none => True
  | _, _ => False
def KV {κ : Type} : List (κ × V) → List (κ × Value) → Prop := Paired fun (p : κ × V) (q : κ × Value) => p.1 = q.1 ∧ RelV p.2 q.2

/-- a key of a dict (00_mix): an int or a text -/
def kV : Key → V
  | .inl i => .int i
  | .inr x => .str x

/-- what stands at a tracked address -/
inductive HO where
  /-- a list -/
  | lst (xs : List V)
  /-- a tuple (never changes) -/
  | tup (xs : List V)
  /-- a dict whose keys are ints and texts; one whose keys are tuples of ints and texts (the empty one is both) -/
  | dK (kvs : List (Key × V)) | dT (kvs : List (List Key × V))
  /-- a set of ints: its members, its size -/
  | set (S : Int → Bool) (n : Nat)
  /-- an instance of the class at C, its dict at dx, its attributes -/
  | ins (C dx : Addr) (fs : List (Str × V))
  /-- the dict of the instance at x -/
  | own (x : Addr)
  /-- the dict of an exception -/
  | xd (fs : List (Str × V))
  /-- a bound method, f of x -/
  | met (f x : Addr)
  /-- a range object lo, lo + 1, .. below hi -/
  | rng (lo hi : Int)
  /-- a thing that is known to the object (the script; a dict while a loop walks it): read, never written while it is so -/
  | frz (o : Obj) (u : HO)
  /-- a code object's table -/
  | tbl (ps : Array Value)
  /-- any other thing, by what is true of its one object (a def of one's own: SetO a S n := HO.ext fun h => ..) -/
  | ext (φ : Heap → Prop)

abbrev Hp := Addr → Option HO
def upd (H : Hp) (a : Addr) (o : HO) : Hp := fun b => if b = a then some o else H b
theorem upd_same {H : Hp} {a : Addr} {o : HO} : upd H a o a = some o := by unfold upd; rw [if_pos rfl]
theorem upd_ne {H : Hp} {a b : Addr} {o : HO} (h : b ≠ a) : upd H a o b = H b := by unfold upd; rw [if_neg h]
theorem upd_upd {H : Hp} {a : Addr} {o u : HO} : upd (upd H a o) a u = upd H a u := by
  funext b; unfold upd; split <;> rfl
/-- two objects of different content stand apart -/
theorem ne_of {H : Hp} {a b : Addr} {o u : HO} (h : H a = some o) (h' : H b = some u) (d : o ≠ u) : a ≠ b := by
  intro e; subst e; rw [h] at h'; exact d (Option.some.inj h')
theorem ne_of_none {H : Hp} {a b : Addr} {o : HO} (h : H a = some o) (h' : H b = none) : a ≠ b := by
  intro e; subst e; rw [h] at h'; cases h'

section
variable (P : Program) (w : World)
def ObjOk (H : Hp) (h : Heap) (a : Addr) : HO → Prop
  | .lst xs => xs.length ≤ sizeLine ∧ ∃ (its : List Value) (n : Nat), Vals xs its ∧ h.get? a = some { cls := .type "list", data := .seq its.toArray n }
  | .tup xs => xs.length ≤ sizeLine ∧ ∃ its : List Value, Vals xs its ∧ IsTup h a its.toArray
  | .dK kvs => kvs.length ≤ sizeLine ∧ (a == sysModules) = false ∧ ∃ vs, KV kvs vs ∧ h.DictOf (mixKind P w) a vs
  | .dT kvs => kvs.length ≤ sizeLine ∧ (a == sysModules) = false ∧ ∃ xs : List (List Key × Addr × Value),
      Paired (fun (p : List Key × V) (q : List Key × Addr × Value) => p.1 = q.1 ∧ H q.2.1 = some (.tup (p.1.map kV)) ∧ RelV p.2 q.2.2) kvs xs ∧
      ∃ o es ep, h.get? a = some o ∧ o.ExactDict ∧ o.data = .dict es ep ∧ es.toList = xs.map (entryOfKey (tupleKind (mixKind P w))) ∧ (xs.map (·.1)).Nodup
  | .set S n => h.SetOf (intKind P w) a S n
  | .ins C dx fs => H dx = some (.own a) ∧ fs.length ≤ 1000 ∧ dx ≠ a ∧ h.get? a = some (PySem.W.instObj C dx) ∧
      ∃ mA, h.Ns1 dx mA ∧ (∀ f, RelO (fs.lookup f) (mA f)) ∧ PySem.Within mA (fs.map (·.1))
  | .own _ => ∃ o, h.get? a = some o
  | .xd fs => ∃ mA, h.Ns1 a mA ∧ ∀ f, RelO (fs.lookup f) (mA f)
  | .rng lo hi => ∃ t u v, h.get? a = some { cls := .type "range", data := .fields #[.int lo t, .int hi u, .int 1 v] }
  | .frz o u => h.get? a = some o ∧ ObjOk H h a u
  | .tbl ps => h.get? a = some { cls := .none, data := .fields ps }
  | .met f x => h.get? a = some (PySem.W.methodObj (.ref f) (.ref x))
  | .ext φ => φ h ∧ (∃ o, h.get? a = some o) ∧ ∀ h1 h2 : Heap, φ h1 → (∀ o, h1.get? a = some o → h2.get? a = some o) → φ h2
/-- the abstract heap is held -/
def HOk (H : Hp) (h : Heap) : Prop := ∀ a o, H a = some o → ObjOk P w H h a o
end

section
variable {P : Program} {w : World} {H H' : Hp} {h h' : Heap} {a : Addr} {o : HO}
theorem ObjOk.lt (x : ObjOk P w H h a o) : a < h.objs.size := by
  cases o with
  | lst xs => obtain ⟨_, _, _, _, e⟩ := x; exact Heap.lt_size e
  | tup xs => obtain ⟨_, _, _, p⟩ := x; exact p.lt
  | dK kvs => obtain ⟨_, _, _, _, o, _, _, e, _⟩ := x; exact Heap.lt_size e
  | dT kvs => obtain ⟨_, _, _, _, o, _, _, e, _⟩ := x; exact Heap.lt_size e
  | set S n => obtain ⟨o, _, _, _, e, _⟩ := x; exact Heap.lt_size e
  | ins C dx fs => obtain ⟨_, _, _, e, _⟩ := x; exact Heap.lt_size e
  | own y => obtain ⟨_, e⟩ := x; exact Heap.lt_size e
  | xd fs => obtain ⟨_, ⟨_, _, _, e, _⟩, _⟩ := x; exact Heap.lt_size e
  | rng lo hi => obtain ⟨_, _, _, e⟩ := x; exact Heap.lt_size e
  | frz ob u => obtain ⟨e, _⟩ := x; exact Heap.lt_size e
  | tbl ps => exact Heap.lt_size (show h.get? a = some _ from x)
  | met f y => exact Heap.lt_size (show h.get? a = some _ from x)
  | ext φ => obtain ⟨_, ⟨_, e⟩, _⟩ := x; exact Heap.lt_size e
theorem Paired.mapP {α β : Type} {F G : α → β → Prop} : ∀ {l₁ : List α} {l₂ : List β}, Paired F l₁ l₂ → (∀ a b, F a b → G a b) → Paired G l₁ l₂
  | _, _, .nil, _ => .nil
  | _, _, .cons r t, f => .cons (f _ _ r) (Paired.mapP t f)
/-- what an object's description leans on: its own object, its own dict, the tuples -/
theorem ObjOk.stay (x : ObjOk P w H h a o) (k : ∀ b u, (b = a ∨ H b = some (.own a)) → h.get? b = some u → h'.get? b = some u)
    (ho : ∀ b, H b = some (.own a) → H' b = some (.own a)) (ht : ∀ b xs, H b = some (.tup xs) → H' b = some (.tup xs)) : ObjOk P w H' h' a o := by
  induction o with
  | lst xs => obtain ⟨z, its, n, r, e⟩ := x; exact ⟨z, its, n, r, k _ _ (.inl rfl) e⟩
  | tup xs => obtain ⟨z, its, r, ob, e, c⟩ := x; exact ⟨z, its, r, ob, k _ _ (.inl rfl) e, c⟩
  | dK kvs => obtain ⟨z, y, vs, r, ob, es, ep, e, c⟩ := x; exact ⟨z, y, vs, r, ob, es, ep, k _ _ (.inl rfl) e, c⟩
  | dT kvs =>
    obtain ⟨z, y, xs, r, ob, es, ep, e, c⟩ := x
    exact ⟨z, y, xs, Paired.mapP r fun p q z => ⟨z.1, ht _ _ z.2.1, z.2.2⟩, ob, es, ep, k _ _ (.inl rfl) e, c⟩
  | set S n => obtain ⟨ob, es, ep, t, e, c⟩ := x; exact ⟨ob, es, ep, t, k _ _ (.inl rfl) e, c⟩
  | ins C dx fs =>
    obtain ⟨d, z, ne, e, mA, ⟨od, es, ep, e2, c⟩, r⟩ := x
    exact ⟨ho _ d, z, ne, k _ _ (.inl rfl) e, mA, ⟨od, es, ep, k _ _ (.inr d) e2, c⟩, r⟩
  | own y => obtain ⟨ob, e⟩ := x; exact ⟨ob, k _ _ (.inl rfl) e⟩
  | xd fs => obtain ⟨mA, ⟨od, es, ep, e, c⟩, r⟩ := x; exact ⟨mA, ⟨od, es, ep, k _ _ (.inl rfl) e, c⟩, r⟩
  | rng lo hi => obtain ⟨t, u, v, e⟩ := x; exact ⟨t, u, v, k _ _ (.inl rfl) e⟩
  | frz ob u ih => obtain ⟨e, q⟩ := x; exact ⟨k _ _ (.inl rfl) e, ih q⟩
  | tbl ps =>
    have e : h.get? a = some { cls := .none, data := .fields ps } := x
    show h'.get? a = some { cls := .none, data := .fields ps }
    exact k a _ (.inl rfl) e
  | met f y =>
    have e : h.get? a = some (PySem.W.methodObj (.ref f) (.ref y)) := x
    show h'.get? a = some (PySem.W.methodObj (.ref f) (.ref y))
    exact k a _ (.inl rfl) e
  | ext φ => obtain ⟨p, ⟨o, e⟩, st⟩ := x; exact ⟨st _ _ p fun o q => k _ _ (.inl rfl) q, ⟨o, k _ _ (.inl rfl) e⟩, st⟩
theorem HOk.lt (x : HOk P w H h) (e : H a = some o) : a < h.objs.size := (x a o e).lt
theorem HOk.fresh (x : HOk P w H h) (e : h.objs.size ≤ a) : H a = none := by
  cases q : H a with
  | none => rfl
  | some u => exact absurd (Nat.lt_of_lt_of_le (x.lt q) e) (Nat.lt_irrefl _)
/-- every object of the heap is kept -/
theorem HOk.kept (x : HOk P w H h) (k : ∀ b u, h.get? b = some u → h'.get? b = some u) : HOk P w H h' := fun a o e =>
  (x a o e).stay (fun b u _ q => k b u q) (fun _ q => q) fun _ _ q => q
/-- a new object is laid and tracked -/
theorem HOk.laid (x : HOk P w H h) (k : ∀ b u, h.get? b = some u → h'.get? b = some u) (hp : h.objs.size ≤ a) (new : ObjOk P w (upd H a o) h' a o) : HOk P w (upd H a o) h' := fun b u e => by
  have hn := x.fresh hp
  by_cases hb : b = a
  · subst hb; rw [upd_same] at e; cases e; exact new
  · rw [upd_ne hb] at e
    exact (x b u e).stay (fun c v _ q => k c v q) (fun c q => by rw [upd_ne (ne_of_none q hn)]; exact q) fun c xs q => by rw [upd_ne (ne_of_none q hn)]; exact q
end

/-- what may be read as u: it is u, or a known u -/
def Rd (H : Hp) (a : Addr) (u : HO) : Prop := H a = some u ∨ ∃ o, H a = some (.frz o u)
theorem Rd.of {H : Hp} {a : Addr} {u : HO} (h : H a = some u) : Rd H a u := .inl h
theorem Rd.ok {P : Program} {w : World} {H : Hp} {h : Heap} {a : Addr} {u : HO} (r : Rd H a u) (x : HOk P w H h) : ObjOk P w H h a u := by
  rcases r with r | ⟨o, r⟩
  · exact x a u r
  · obtain ⟨_, q⟩ := x a _ r
    exact q
/-- what may be written -/
def Mut : Option HO → Prop
  | some (.lst _) => True
  | some (.dK _) => True
  | some (.dT _) => True
  | some (.set _ _) => True
  | some (.ins _ _ _) => True
  | some (.ext _) => True
  | _ => False
section
variable {P : Program} {w : World} {H : Hp} {h h' : Heap} {x e : Addr} {o' : HO}
/-- the object at e is changed: x itself, or the dict of the instance x -/
theorem HOk.write (ok : HOk P w H h) (mu : Mut (H x)) (he : e = x ∨ H e = some (.own x)) (k : ∀ b u, b ≠ e → h.get? b = some u → h'.get? b = some u) (heo : ∃ u, h'.get? e = some u)
    (new : ObjOk P w (upd H x o') h' x o') : HOk P w (upd H x o') h' := fun b u q => by
  have nown : ∀ c y, H c = some (.own y) → c ≠ x := fun c y r z => by subst z; rw [r] at mu; exact mu
  have ntup : ∀ c xs, H c = some (.tup xs) → c ≠ x := fun c xs r z => by subst z; rw [r] at mu; exact mu
  by_cases hb : b = x
  · subst hb; rw [upd_same] at q; cases q; exact new
  · rw [upd_ne hb] at q
    by_cases hbe : b = e
    · have q' : H b = some (.own x) := by
        rcases he with z | z
        · exact absurd (hbe.trans z) hb
        · rw [hbe]; exact z
      rw [q] at q'; cases q'
      obtain ⟨v, hv⟩ := heo
      exact ⟨v, by rw [hbe]; exact hv⟩
    · refine (ok b u q).stay (fun c v hc r => k c v ?_ r) (fun c r => by rw [upd_ne (nown c b r)]; exact r) fun c xs r => by rw [upd_ne (ntup c xs r)]; exact r
      rcases hc with rfl | hc
      · exact hbe
      · rintro rfl
        rcases he with z | z
        · exact nown c b hc z
        · rw [hc] at z; cases z; exact hb rfl
end

/-! ### kept unless tracked; of the frames at fs (the callers') the slots may change (an exception that passes writes there); of the records at ex (iterators) nothing is said -/
structure Un (fs ex : List Addr) (H H' : Hp) (h h' : Heap) : Prop where
  keep : ∀ b o, h.get? b = some o → H b = none → b ∉ fs → b ∉ ex → h'.get? b = some o
  slot : ∀ b o, h.get? b = some o → H b = none → b ∈ fs → b ∉ ex → ∃ sl, h'.get? b = some { o with slots := sl }
  free : ∀ b o, h.get? b = some o → H b = none → b ∉ ex → H' b = none
  there : ∀ b o, h.get? b = some o → b ∉ ex → ∃ o', h'.get? b = some o'
  tups : ∀ b xs, H b = some (.tup xs) → H' b = some (.tup xs)
  frzs : ∀ b o u, H b = some (.frz o u) → H' b = some (.frz o u)
  tbls : ∀ b ps, H b = some (.tbl ps) → ∃ more, H' b = some (.tbl (ps ++ more))
section
variable {fs fs' ex ex' : List Addr} {H H1 H2 : Hp} {h h1 h2 h' : Heap} {a x e : Addr} {o : HO}
theorem Un.any (u : Un fs ex H H1 h h1) {b : Addr} {ob : Obj} (q : h.get? b = some ob) (n : H b = none) (hx : b ∉ ex) : ∃ sl, h1.get? b = some { ob with slots := sl } := by
  by_cases hb : b ∈ fs
  · exact u.slot b ob q n hb hx
  · exact ⟨ob.slots, u.keep b ob q n hb hx⟩
theorem Un.trans (a : Un fs ex H H1 h h1) (b : Un fs ex H1 H2 h1 h2) : Un fs ex H H2 h h2 where
  keep := fun c ob q n hc hx => b.keep c ob (a.keep c ob q n hc hx) (a.free c ob q n hx) hc hx
  slot := fun c ob q n hc hx => by
    obtain ⟨sl, e1⟩ := a.slot c ob q n hc hx
    obtain ⟨sl', e2⟩ := b.slot c _ e1 (a.free c ob q n hx) hc hx
    exact ⟨sl', e2⟩
  free := fun c ob q n hx => by
    obtain ⟨o', e1⟩ := a.there c ob q hx
    exact b.free c o' e1 (a.free c ob q n hx) hx
  there := fun c ob q hx => by
    obtain ⟨o', e1⟩ := a.there c ob q hx
    exact b.there c o' e1 hx
  tups := fun c xs q => b.tups c xs (a.tups c xs q)
  frzs := fun c ob xs q => b.frzs c ob xs (a.frzs c ob xs q)
  tbls := fun c ps q => by
    obtain ⟨m1, e1⟩ := a.tbls c ps q
    obtain ⟨m2, e2⟩ := b.tbls c _ e1
    exact ⟨m1 ++ m2, by rw [e2, Array.append_assoc]⟩
theorem Un.kept (k : ∀ b u, h.get? b = some u → h'.get? b = some u) : Un fs ex H H h h' :=
  ⟨fun b ob q _ _ _ => k b ob q, fun b ob q _ _ _ => ⟨ob.slots, k b ob q⟩, fun _ _ _ n _ => n, fun b ob q _ => ⟨ob, k b ob q⟩, fun _ _ q => q, fun _ _ _ q => q, fun _ ps q => ⟨#[], by rw [q]; simp⟩⟩
theorem Un.refl : Un fs ex H H h h := Un.kept fun _ _ q => q
theorem Un.laid (k : ∀ b u, h.get? b = some u → h'.get? b = some u) (hp : h.objs.size ≤ a) (hn : H a = none) : Un fs ex H (upd H a o) h h' where
  keep := fun b u q _ _ _ => k b u q
  slot := fun b u q _ _ _ => ⟨u.slots, k b u q⟩
  free := fun b u q n _ => by rw [upd_ne (Nat.ne_of_lt (Nat.lt_of_lt_of_le (Heap.lt_size q) hp))]; exact n
  there := fun b u q _ => ⟨u, k b u q⟩
  tups := fun b xs q => by rw [upd_ne (ne_of_none q hn)]; exact q
  frzs := fun b u xs q => by rw [upd_ne (ne_of_none q hn)]; exact q
  tbls := fun b ps q => ⟨#[], by rw [upd_ne (ne_of_none q hn), q]; simp⟩
theorem Un.write (mu : Mut (H x)) (he : e = x ∨ H e = some (.own x)) (k : ∀ b u, b ≠ e → h.get? b = some u → h'.get? b = some u) (heo : ∃ u, h'.get? e = some u) : Un fs ex H (upd H x o) h h' := by
  have hx : ∀ b, H b = none → b ≠ x := fun b n z => by subst z; rw [n] at mu; exact mu
  have hb : ∀ b, H b = none → b ≠ e := fun b n z => by
    subst z
    rcases he with r | r
    · exact hx b n r
    · rw [n] at r; cases r
  have hm : ∀ b u, H b = some u → ¬ Mut (some u) → b ≠ x := fun b u q nm z => by subst z; rw [q] at mu; exact nm mu
  refine ⟨fun b u q n _ _ => k b u (hb b n) q, fun b u q n _ _ => ⟨u.slots, k b u (hb b n) q⟩, fun b u q n _ => by rw [upd_ne (hx b n)]; exact n, fun b u q _ => ?_,
    fun b xs q => by rw [upd_ne (hm b _ q fun z => z)]; exact q, fun b u xs q => by rw [upd_ne (hm b _ q fun z => z)]; exact q, fun b ps q => ⟨#[], by rw [upd_ne (hm b _ q fun z => z), q]; simp⟩⟩
  by_cases hbe : b = e
  · subst hbe; exact heo
  · exact ⟨u, k b u hbe q⟩
theorem Un.mono (u : Un fs ex H H1 h h1) (hs : ∀ b ∈ fs, b ∈ fs') (hx : ∀ b ∈ ex, b ∈ ex') : Un fs' ex' H H1 h h1 :=
  ⟨fun b ob q n hb he => u.keep b ob q n (fun z => hb (hs b z)) fun z => he (hx b z), fun _ _ q n _ he => u.any q n fun z => he (hx _ z), fun b ob q n he => u.free b ob q n fun z => he (hx b z), fun b ob q he => u.there b ob q fun z => he (hx b z), u.tups, u.frzs, u.tbls⟩
end

/-! ### the heap without what is tracked -/
def trk (h : Heap) (H : Hp) : List Addr := (List.range h.objs.size).filter fun a => (H a).isSome
def hidT (h : Heap) (H : Hp) : Heap := PySem.W.hideAll h (trk h H)
theorem hidT_size (h : Heap) (H : Hp) : (hidT h H).objs.size = h.objs.size := PySem.W.hideAll_size _ _
theorem hidT_get {h : Heap} {H : Hp} {b : Addr} {o : Obj} (e : h.get? b = some o) (n : H b = none) : (hidT h H).get? b = some o :=
  PySem.W.hideAll_get _ e fun hm => by
    have q : (H b).isSome = true := (List.mem_filter.mp hm).2
    rw [n] at q; simp at q
theorem of_hidT {h : Heap} {H : Hp} {b : Addr} {o : Obj} (e : (hidT h H).get? b = some o) : h.get? b = some o ∧ H b = none := by
  have e' : h.get? b = some o := PySem.W.of_hideAll (trk h H) e
  refine ⟨e', ?_⟩
  cases q : H b with
  | none => rfl
  | some x =>
    have hm : b ∈ trk h H := List.mem_filter.mpr ⟨List.mem_range.mpr (Heap.lt_size e'), by simp [q]⟩
    have z : (hidT h H).get? b = none := PySem.W.hideAll_none (trk h H) hm
    rw [z] at e; cases e

/-! ### OpenK's ledger, filled with every new object but one -/
def allNews (g h : Heap) (L : Addr) : List (Addr × Obj) := (List.range h.objs.size).filterMap fun a => if a = L ∨ (g.get? a).isSome = true then none else (h.get? a).map fun o => (a, o)
def rest (g h : Heap) (L d : Addr) : List (Addr × Obj) := (allNews g h L).filter fun p => decide (p.1 ≠ d)
end L2

namespace L2
open PySem PySem.Spec PyProof.Rows

/-- the module's facts, over the base: the heap at the law's entry without what is tracked there -/
structure Mod (K : PySem.W.Frag) (mg : Str → Option Value) (base : Heap) : Prop where
  kin : K.In base
  glob : base.Ns mainGlobals mg
  blt : ∃ mb, base.Ns builtinsNs mb ∧ ∀ x : Str, x ≠ "__name__" → mb x = bootBuiltins x
  nolimit : base.NoLimit

/-- the context: a def's body (or a comprehension's block) running. base: fixed through the whole law; s₀, H₀: the entry; outer: the frames whose slots others may change (a def's callers); stack: all frames that run;
   ex: iterators that were made ahead of the entry and are walked here (a comprehension's); fn: the names whose cells were made at the entry (a def: all; a comprehension's block: its own); calm: not within an except suite; pn: pins that every state bears; xe: what is wanted of an exception that leaves the code -/
structure Cx where
  prog : Program
  w : World
  K : PySem.W.Frag
  mg : Str → Option Value
  base : Heap
  A : Around
  N : List Str
  s₀ : Shared
  H₀ : Hp
  env : Env
  outer : List Env
  stack : List Env
  ex : List Addr
  fn : Str → Bool
  calm : Bool
  pn : List (Addr × Obj)
  xe : Value → Shared → Prop
/-- the callers' frames -/
def frs (l : List Env) : List Addr := l.filterMap (·.frame)
abbrev Cx.fs (X : Cx) : List Addr := frs X.outer

def Vis (sc : Scope) (x : Str) : Prop := sc.names.lookup x = some .local ∨ sc.names.lookup x = some .cell ∨ sc.names.lookup x = some .free
def Loc (sc : Scope) (x : Str) : Prop := sc.names.lookup x = some .local ∨ sc.names.lookup x = some .cell
def Look (env : Env) (h : Heap) (m : Str → Option Value) (x : Str) (u : Value) : Prop :=
  (env.kindOf x = some .local ∧ m x = some u) ∨ ((env.kindOf x = some .cell ∨ env.kindOf x = some .free) ∧ ∃ c, env.cells.lookup x = some c ∧ h.IsCell c (some u))

structure Cx.Ok (X : Cx) : Prop where
  mod : Mod X.K X.mg X.base
  kind : X.env.scope.kind = .function
  glob : X.env.globals = mainGlobals
  blt : X.env.builtins = builtinsNs
  above : X.s₀.heap.objs.size ≤ X.env.locals
  inj : ∀ x y c, X.env.cells.lookup x = some c → X.env.cells.lookup y = some c → x = y
  has : ∀ x, (X.env.kindOf x = some .cell ∨ X.env.kindOf x = some .free) → ∃ c, X.env.cells.lookup x = some c
  cab : ∀ x c, X.fn x = true → X.env.cells.lookup x = some c → X.s₀.heap.objs.size ≤ c
  hd : X.calm = true → X.A.handled = none
  frames : X.A.frames = some X.stack
  stk : X.stack = X.outer ∨ (X.stack = X.env :: X.outer ∧ X.env.frame = some X.env.locals)
  exf : ∀ b ∈ X.ex, b ≠ X.env.locals ∧ ∀ x c, X.env.cells.lookup x = some c → c ≠ b
  bs : ∀ b o, X.base.get? b = some o → X.s₀.heap.get? b = some o ∧ X.H₀ b = none
  bsz : X.base.objs.size ≤ X.s₀.heap.objs.size
  noex : ∀ b o, X.base.get? b = some o → b ∉ X.ex
  exfs : ∀ b ∈ X.ex, b ∉ X.fs
  funs : X.s₀.heap.FunFrames X.base X.outer
  frf : ∀ b ∈ X.fs, X.H₀ b = none

structure Inv (X : Cx) (pins : List (Addr × Obj)) (σ : List (Option V)) (H : Hp) (s : Shared) : Prop where
  ok : X.Ok
  os : s.os = X.s₀.os
  bare : AllBare s.gens
  base : Un X.fs X.ex X.H₀ H X.s₀.heap s.heap
  loc : ∃ m, s.heap.Ns X.env.locals m ∧ ∀ (i : Nat) (x : Str) (v : V), X.N[i]? = some x → σ[i]? = some (some v) → Vis X.env.scope x → ∃ u, RelV v u ∧ Look X.env s.heap m x u
  cell : ∀ x c, X.env.cells.lookup x = some c → ∃ v, s.heap.IsCell c v
  free : H X.env.locals = none
  freeC : ∀ x c, X.env.cells.lookup x = some c → H c = none
  pin : ∀ p ∈ X.pn ++ pins, s.heap.get? p.1 = some p.2 ∧ H p.1 = none ∧ p.1 ≠ X.env.locals ∧ p.1 ∉ X.fs ∧ ∀ v, p.2.data ≠ .cell v
  hok : HOk X.prog X.w H s.heap
  len : σ.length = X.N.length

section
variable {X : Cx} {pins : List (Addr × Obj)} {σ : List (Option V)} {H H' : Hp} {s : Shared} {h' : Heap}

theorem Cx.Ok.nofr (ok : X.Ok) {b : Addr} {o : Obj} (e : X.base.get? b = some o) : b ∉ X.fs := fun hb => by
  have := (ok.funs.mem hb).1
  rw [e] at this; cases this
theorem Inv.bs (I : Inv X pins σ H s) : ∀ b o, X.base.get? b = some o → s.heap.get? b = some o ∧ H b = none := fun b o e =>
  ⟨I.base.keep b o (I.ok.bs b o e).1 (I.ok.bs b o e).2 (I.ok.nofr e) (I.ok.noex b o e), I.base.free b o (I.ok.bs b o e).1 (I.ok.bs b o e).2 (I.ok.noex b o e)⟩
theorem Inv.bk (I : Inv X pins σ H s) : ∀ b o, X.base.get? b = some o → s.heap.get? b = some o := fun b o e => (I.bs b o e).1
theorem Inv.mod (I : Inv X pins σ H s) : Mod X.K X.mg X.base := I.ok.mod
theorem Inv.kIn (I : Inv X pins σ H s) : X.K.In s.heap := I.ok.mod.kin.keeps I.bk
theorem Inv.nolimit (I : Inv X pins σ H s) : s.heap.NoLimit := I.ok.mod.nolimit.keeps I.bk
/-- the frame over the base: for OpenK's rules (K.In X.base is I.mod.kin) -/
theorem Inv.fr (I : Inv X pins σ H s) : ∃ m, Fr X.base X.env.locals s.heap m :=
  let ⟨m, hn, _⟩ := I.loc
  ⟨m, hn, I.bk, Nat.le_trans I.ok.bsz I.ok.above⟩
theorem Inv.lt (I : Inv X pins σ H s) : X.env.locals < s.heap.objs.size := let ⟨_, hn, _⟩ := I.loc; hn.lt
theorem Inv.sz (I : Inv X pins σ H s) : X.s₀.heap.objs.size ≤ s.heap.objs.size := Nat.le_trans I.ok.above (Nat.le_of_lt I.lt)
theorem Inv.nofs (I : Inv X pins σ H s) {a : Addr} (h : s.heap.objs.size ≤ a) : a ∉ X.fs := fun hb => by
  obtain ⟨_, o, ho, _⟩ := I.ok.funs.mem hb
  exact absurd (Nat.lt_of_lt_of_le (Heap.lt_size ho) (Nat.le_trans I.sz h)) (Nat.lt_irrefl _)
theorem Inv.cne (I : Inv X pins σ H s) : ∀ x c, X.env.cells.lookup x = some c → c ≠ X.env.locals := fun x c e z => by
  obtain ⟨v, o, ho, hd⟩ := I.cell x c e
  obtain ⟨m, ⟨o', es, ep, ho', hd', _⟩, _⟩ := I.loc
  rw [z, ho'] at ho; cases ho; rw [hd'] at hd; cases hd
theorem Inv.funs (I : Inv X pins σ H s) : s.heap.FunFrames X.base X.outer := by
  have all : ∀ (l : List Env), (∀ b ∈ frs l, b ∈ X.fs) → X.s₀.heap.FunFrames X.base l → s.heap.FunFrames X.base l := by
    intro l
    induction l with
    | nil => intro _ _; trivial
    | cons env r ih =>
      intro hs hl
      obtain ⟨hk, ⟨L, o, hf, hn, ho, hd⟩, hr⟩ := hl
      have hL : L ∈ X.fs := hs L (by unfold frs; rw [List.filterMap_cons, hf]; exact List.mem_cons_self)
      obtain ⟨sl, e⟩ := I.base.slot L o ho (I.ok.frf L hL) hL fun z => I.ok.exfs L z hL
      exact ⟨hk, ⟨L, _, hf, hn, e, hd⟩, ih (fun b hb => hs b (by unfold frs; rw [List.filterMap_cons, hf]; exact List.mem_cons_of_mem _ hb)) hr⟩
  exact all X.outer (fun _ hb => hb) I.ok.funs

/-- the frames that run, for a call -/
theorem Inv.stack (I : Inv X pins σ H s) : s.heap.FunFrames X.base X.stack := by
  rcases I.ok.stk with e | ⟨e, hf⟩
  · rw [e]; exact I.funs
  · rw [e]
    obtain ⟨m, hn, _⟩ := I.loc
    refine .cons (by rw [I.ok.kind]; decide) hf hn ?_ I.funs
    exact Heap.get?_none_of_le (Nat.le_trans I.ok.bsz I.ok.above)
theorem Inv.stkSub (I : Inv X pins σ H s) : ∀ b ∈ frs X.stack, b ∈ X.env.locals :: X.fs := fun b hb => by
  rcases I.ok.stk with e | ⟨e, hf⟩
  · rw [e] at hb; exact List.mem_cons_of_mem _ hb
  · rw [e] at hb
    unfold frs at hb
    rw [List.filterMap_cons, hf] at hb
    exact hb
theorem Inv.stkFree (I : Inv X pins σ H s) : ∀ b ∈ frs X.stack, H b = none := fun b hb => by
  rcases List.mem_cons.mp (I.stkSub b hb) with e | hb
  · rw [e]; exact I.free
  · obtain ⟨_, o, ho, _⟩ := I.ok.funs.mem hb
    exact I.base.free b o ho (I.ok.frf b hb) fun z => I.ok.exfs b z hb

/-- THE STEP: the untracked objects but the frame and the records at ch are kept (the callers' frames up to slots), the frame's map is kept, the new abstract heap is held -/
theorem Inv.step {g' : Array GenState} {t' : Nat} {d' : Drawn} {ch : List Addr} (I : Inv X pins σ H s)
    (hch : ∀ b ∈ ch, (b ∈ X.ex ∨ X.s₀.heap.objs.size ≤ b) ∧ b ≠ X.env.locals ∧ (∀ x c, X.env.cells.lookup x = some c → c ≠ b) ∧ ∀ p ∈ X.pn ++ pins, p.1 ≠ b)
    (keep : ∀ b o, b ≠ X.env.locals → b ∉ X.fs → b ∉ ch → s.heap.get? b = some o → H b = none → h'.get? b = some o)
    (slot : ∀ b o, b ≠ X.env.locals → b ∈ X.fs → b ∉ ch → s.heap.get? b = some o → H b = none → ∃ sl, h'.get? b = some { o with slots := sl }) (free : ∀ b o, b ∉ ch → s.heap.get? b = some o → H b = none → H' b = none)
    (there : ∀ b o, b ∉ ch → s.heap.get? b = some o → ∃ o', h'.get? b = some o')
    (tups : ∀ b xs, H b = some (.tup xs) → H' b = some (.tup xs)) (frzs : ∀ b o u, H b = some (.frz o u) → H' b = some (.frz o u)) (tbls : ∀ b ps, H b = some (.tbl ps) → ∃ more, H' b = some (.tbl (ps ++ more)))
    (ns : ∀ m, s.heap.Ns X.env.locals m → h'.Ns X.env.locals m) (hok : HOk X.prog X.w H' h') (hg : AllBare g') :
    Inv X pins σ H' { s with heap := h', gens := g', drawn := d', toks := t' } := by
  have neL : ∀ b o, X.s₀.heap.get? b = some o → b ≠ X.env.locals := fun b o e => Nat.ne_of_lt (Nat.lt_of_lt_of_le (Heap.lt_size e) I.ok.above)
  have neC : ∀ b o, X.s₀.heap.get? b = some o → b ∉ X.ex → b ∉ ch := fun b o e hx hb => by
    rcases (hch b hb).1 with z | z
    · exact hx z
    · exact absurd (Nat.lt_of_lt_of_le (Heap.lt_size e) z) (Nat.lt_irrefl _)
  have cellK : ∀ x c, X.env.cells.lookup x = some c → ∀ v, s.heap.IsCell c v → h'.IsCell c v := fun x c e v ⟨o, ho, hd⟩ => by
    have nch : c ∉ ch := fun z => (hch c z).2.2.1 x c e rfl
    by_cases hc : c ∈ X.fs
    · obtain ⟨sl, q⟩ := slot c o (I.cne x c e) hc nch ho (I.freeC x c e)
      exact ⟨_, q, hd⟩
    · exact ⟨o, keep c o (I.cne x c e) hc nch ho (I.freeC x c e), hd⟩
  refine ⟨I.ok, I.os, hg, ⟨fun b o e n hb hx => ?_, fun b o e n hb hx => ?_, fun b o e n hx => ?_, fun b o e hx => ?_, fun b xs e => tups b xs (I.base.tups b xs e), fun b o xs e => frzs b o xs (I.base.frzs b o xs e), fun b ps e => ?_⟩, ?_, fun x c e => ?_, ?_, fun x c e => ?_, fun p hp => ?_, hok, I.len⟩
  · exact keep b o (neL b o e) hb (neC b o e hx) (I.base.keep b o e n hb hx) (I.base.free b o e n hx)
  · obtain ⟨sl, e1⟩ := I.base.slot b o e n hb hx
    obtain ⟨sl', e2⟩ := slot b _ (neL b o e) hb (neC b o e hx) e1 (I.base.free b o e n hx)
    exact ⟨sl', e2⟩
  · obtain ⟨o', e1⟩ := I.base.there b o e hx
    exact free b o' (neC b o e hx) e1 (I.base.free b o e n hx)
  · obtain ⟨o', e1⟩ := I.base.there b o e hx
    exact there b o' (neC b o e hx) e1
  · obtain ⟨m1, e1⟩ := I.base.tbls b ps e
    obtain ⟨m2, e2⟩ := tbls b _ e1
    exact ⟨m1 ++ m2, by rw [e2, Array.append_assoc]⟩
  · obtain ⟨m, hn, hl⟩ := I.loc
    refine ⟨m, ns m hn, fun i x v e1 e2 e3 => ?_⟩
    obtain ⟨u, r, l⟩ := hl i x v e1 e2 e3
    refine ⟨u, r, ?_⟩
    rcases l with l | ⟨k, c, e, z⟩
    · exact .inl l
    · exact .inr ⟨k, c, e, cellK x c e _ z⟩
  · obtain ⟨v, z⟩ := I.cell x c e
    exact ⟨v, cellK x c e v z⟩
  · obtain ⟨m, ⟨o, _, _, ho, _⟩, _⟩ := I.loc
    exact free _ o (fun z => (hch _ z).2.1 rfl) ho I.free
  · obtain ⟨v, o, ho, hd⟩ := I.cell x c e
    exact free c o (fun z => (hch c z).2.2.1 x c e rfl) ho (I.freeC x c e)
  · obtain ⟨e, n, ne, nf, d⟩ := I.pin p hp
    have nch : p.1 ∉ ch := fun z => (hch p.1 z).2.2.2 p hp rfl
    exact ⟨keep p.1 p.2 ne nf nch e n, free p.1 p.2 nch e n, ne, nf, d⟩
/-- .. where the frame's own object is kept too -/
theorem Inv.un {t' : Nat} (I : Inv X pins σ H s) (u : Un X.fs [] H H' s.heap h') (hok : HOk X.prog X.w H' h') : Inv X pins σ H' { s with heap := h', toks := t' } := by
  obtain ⟨m, ⟨o, es, ep, ho, r⟩, _⟩ := id I.loc
  obtain ⟨sl, hL⟩ := u.any ho I.free (by simp)
  exact I.step (g' := s.gens) (d' := s.drawn) (ch := []) (fun _ z => nomatch z) (fun b o _ hb _ e n => u.keep b o e n hb (by simp)) (fun b o _ hb _ e n => u.slot b o e n hb (by simp)) (fun b o _ e n => u.free b o e n (by simp)) (fun b o _ e => u.there b o e (by simp)) u.tups u.frzs u.tbls (fun m' hm => by
    obtain ⟨o', es', ep', ho', r'⟩ := hm
    rw [ho] at ho'; cases ho'
    exact ⟨_, es', ep', hL, r'⟩) hok I.bare
/-- behind a call (or a comprehension's block): the slots of this frame may have changed too, the records at ch may have turned -/
theorem Inv.call {g' : Array GenState} {t' : Nat} {d' : Drawn} {ch : List Addr} (I : Inv X pins σ H s) (u : Un (frs X.stack) ch H H' s.heap h') (hok : HOk X.prog X.w H' h') (hg : AllBare g')
    (hch : ∀ b ∈ ch, (b ∈ X.ex ∨ X.s₀.heap.objs.size ≤ b) ∧ b ≠ X.env.locals ∧ (∀ x c, X.env.cells.lookup x = some c → c ≠ b) ∧ ∀ p ∈ X.pn ++ pins, p.1 ≠ b) :
    Inv X pins σ H' { s with heap := h', gens := g', drawn := d', toks := t' } := by
  obtain ⟨m, ⟨o, es, ep, ho, r⟩, _⟩ := id I.loc
  obtain ⟨sl, hL⟩ := u.any ho I.free fun z => (hch _ z).2.1 rfl
  exact I.step (ch := ch) hch (fun b o hL hb hc e n => u.keep b o e n (fun z => (List.mem_cons.mp (I.stkSub b z)).elim hL hb) hc) (fun b o _ _ hc e n => u.any e n hc) (fun b o hc e n => u.free b o e n hc) (fun b o hc e => u.there b o e hc) u.tups u.frzs u.tbls (fun m' hm => by
    obtain ⟨o', es', ep', ho', r'⟩ := hm
    rw [ho] at ho'; cases ho'
    exact ⟨_, es', ep', hL, r'⟩) hok hg
/-- an untracked record of ours (an iterator) has turned -/
theorem Inv.turned {t' : Nat} {it : Addr} (I : Inv X pins σ H s) (k : ∀ b o, b ≠ it → s.heap.get? b = some o → h'.get? b = some o) (hn : H it = none) (hL : it ≠ X.env.locals)
    (h1 : it ∈ X.ex ∨ X.s₀.heap.objs.size ≤ it) (h2 : ∀ x c, X.env.cells.lookup x = some c → c ≠ it) (h3 : ∀ p ∈ X.pn ++ pins, p.1 ≠ it) : Inv X pins σ H { s with heap := h', toks := t' } := by
  have nit : ∀ b u, H b = some u → b ≠ it := fun b u e z => by rw [z, hn] at e; cases e
  refine I.step (g' := s.gens) (d' := s.drawn) (ch := [it]) (fun b hb => ?_) (fun b o _ _ hc e _ => k b o (fun z => hc (by simp [z])) e) (fun b o _ _ hc e _ => ⟨o.slots, k b o (fun z => hc (by simp [z])) e⟩) (fun _ _ _ _ n => n)
    (fun b o hc e => ⟨o, k b o (fun z => hc (by simp [z])) e⟩) (fun _ _ e => e) (fun _ _ _ e => e) (fun b ps e => ⟨#[], by rw [e]; simp⟩) (fun m hm => ?_) (fun b u e => ?_) I.bare
  · have e : b = it := by simpa using hb
    subst e
    exact ⟨h1, hL, h2, h3⟩
  · obtain ⟨o, es, ep, ho, r⟩ := hm
    exact ⟨o, es, ep, k _ o (Ne.symm hL) ho, r⟩
  · refine (I.hok b u e).stay (fun c v hc q => k c v ?_ q) (fun _ q => q) fun _ _ q => q
    rcases hc with z | z
    · rw [z]; exact nit b u e
    · exact nit c _ z
theorem Inv.tok (I : Inv X pins σ H s) (t : Nat) : Inv X pins σ H { s with toks := t } := I.un (h' := s.heap) (t' := t) Un.refl I.hok
/-- all objects kept -/
theorem Inv.kept {t' : Nat} (I : Inv X pins σ H s) (k : ∀ b u, s.heap.get? b = some u → h'.get? b = some u) : Inv X pins σ H { s with heap := h', toks := t' } := I.un (Un.kept k) (I.hok.kept k)
/-- a new object laid and tracked -/
theorem Inv.laid {a : Addr} {o : HO} {t' : Nat} (I : Inv X pins σ H s) (k : ∀ b u, s.heap.get? b = some u → h'.get? b = some u) (hp : s.heap.objs.size ≤ a) (new : ObjOk X.prog X.w (upd H a o) h' a o) :
    Inv X pins σ (upd H a o) { s with heap := h', toks := t' } := I.un (Un.laid k hp (I.hok.fresh hp)) (I.hok.laid k hp new)
/-- an object written -/
theorem Inv.write {x e : Addr} {o : HO} {t' : Nat} (I : Inv X pins σ H s) (mu : Mut (H x)) (he : e = x ∨ H e = some (.own x)) (k : ∀ b u, b ≠ e → s.heap.get? b = some u → h'.get? b = some u) (heo : ∃ u, h'.get? e = some u)
    (new : ObjOk X.prog X.w (upd H x o) h' x o) : Inv X pins σ (upd H x o) { s with heap := h', toks := t' } := I.un (Un.write mu he k heo) (I.hok.write mu he k heo new)
/-- forgetting slots, pins -/
theorem Inv.weak {σ' : List (Option V)} (I : Inv X pins σ H s) (hl : σ'.length = σ.length) (w : ∀ (i : Nat) v, σ'[i]? = some (some v) → σ[i]? = some (some v)) : Inv X pins σ' H s :=
  ⟨I.ok, I.os, I.bare, I.base, let ⟨m, hn, hl'⟩ := I.loc; ⟨m, hn, fun i x v e1 e2 e3 => hl' i x v e1 (w i v e2) e3⟩, I.cell, I.free, I.freeC, I.pin, I.hok, hl.trans I.len⟩
theorem Inv.pins_of {pins' : List (Addr × Obj)} (I : Inv X pins σ H s) (h : ∀ p ∈ pins', s.heap.get? p.1 = some p.2 ∧ H p.1 = none ∧ p.1 ≠ X.env.locals ∧ p.1 ∉ X.fs ∧ ∀ v, p.2.data ≠ .cell v) : Inv X pins' σ H s :=
  ⟨I.ok, I.os, I.bare, I.base, I.loc, I.cell, I.free, I.freeC, fun p hp => (List.mem_append.mp hp).elim (fun z => I.pin p (List.mem_append_left _ z)) (h p), I.hok, I.len⟩

theorem nodup_ix {N : List Str} (hN : N.Nodup) {i j : Nat} {x : Str} (a : N[i]? = some x) (b : N[j]? = some x) : i = j := by
  obtain ⟨h1, e1⟩ := List.getElem?_eq_some_iff.mp a
  obtain ⟨h2, e2⟩ := List.getElem?_eq_some_iff.mp b
  exact (List.getElem_inj hN).mp (e1.trans e2.symm)

/-- a name is stored; what changed -/
theorem store_ok2 {M : Model} {A : Around} {E : Value → Shared → Prop} {i : Nat} {x : Str} {v : V} {u : Value} {Q : Unit → Shared → Prop} (I : Inv X pins σ H s) (hN : X.N.Nodup) (hi : X.N[i]? = some x) (hx : Loc X.env.scope x) (r : RelV v u)
    (h : ∀ s', Inv X pins (σ.set i (some v)) H s' → (∃ a, Heap.SameBut a s.heap s'.heap ∧ (a = X.env.locals ∨ X.env.cells.lookup x = some a)) → Q () s') (hf : X.fn x = true ∨ X.env.scope.names.lookup x = some .local := by first | exact .inl rfl | exact .inr rfl | assumption) : wpAny M A (storeName X.env x u) Q E s := by
  obtain ⟨m, hn, hl⟩ := id I.loc
  have hcls : (X.env.scope.kind == .class || (X.env.scope.kind == .module && X.env.locals != X.env.globals)) = false := by rw [I.ok.kind]; rfl
  have hiσ : i < σ.length := by rw [I.len]; exact (List.getElem?_eq_some_iff.mp hi).1
  have cne := I.cne
  have tracked : ∀ {a : Addr} {h' : Heap}, (∃ o, s.heap.get? a = some o ∧ H a = none) → Heap.SameBut a s.heap h' → HOk X.prog X.w H h' := fun {a h'} ha hs b ob e => by
    obtain ⟨_, _, hfree⟩ := ha
    refine (I.hok b ob e).stay (fun c w' hc q => (hs.2 c ?_).trans q) (fun _ q => q) fun _ _ q => q
    rintro rfl
    rcases hc with rfl | hc
    · rw [hfree] at e; cases e
    · rw [hfree] at hc; cases hc
  rcases hx with hk | hk
  · refine wpAny_storeName_local hk hn (fun h' hn' hs => ?_) hcls
    obtain ⟨oL, _, _, hoL, _⟩ := id hn
    refine h _ ⟨I.ok, I.os, I.bare, ⟨fun b o e n hb hx => ?_, fun b o e n hb hx => ?_, I.base.free, fun b o e hx => ?_, I.base.tups, I.base.frzs, I.base.tbls⟩, ⟨_, hn', fun j y v' e1 e2 e3 => ?_⟩, fun y c e => ?_, I.free, I.freeC, fun p hp => ?_, tracked ⟨oL, hoL, I.free⟩ hs, by simpa using I.len⟩ ⟨_, hs, .inl rfl⟩
    · exact (hs.2 b (Nat.ne_of_lt (Nat.lt_of_lt_of_le (Heap.lt_size e) I.ok.above))).trans (I.base.keep b o e n hb hx)
    · obtain ⟨sl, e1⟩ := I.base.slot b o e n hb hx
      exact ⟨sl, (hs.2 b (Nat.ne_of_lt (Nat.lt_of_lt_of_le (Heap.lt_size e) I.ok.above))).trans e1⟩
    · obtain ⟨o', e1⟩ := I.base.there b o e hx
      exact ⟨o', (hs.2 b (Nat.ne_of_lt (Nat.lt_of_lt_of_le (Heap.lt_size e) I.ok.above))).trans e1⟩
    · by_cases hj : j = i
      · subst hj
        rw [hi] at e1; cases e1
        rw [List.getElem?_set_self hiσ] at e2
        cases e2
        exact ⟨u, r, .inl ⟨hk, by simp⟩⟩
      · rw [List.getElem?_set_ne (Ne.symm hj)] at e2
        obtain ⟨u', r', q⟩ := hl j y v' e1 e2 e3
        refine ⟨u', r', ?_⟩
        rcases q with ⟨k, e⟩ | ⟨k, c, e, z⟩
        · refine .inl ⟨k, ?_⟩
          have : y ≠ x := fun e => hj (nodup_ix hN e1 (e ▸ hi))
          simp [this, e]
        · exact .inr ⟨k, c, e, z.sameBut hs (cne y c e)⟩
    · obtain ⟨w', z⟩ := I.cell y c e
      exact ⟨w', z.sameBut hs (cne y c e)⟩
    · obtain ⟨e, n, ne, nf, d⟩ := I.pin p hp
      exact ⟨(hs.2 p.1 ne).trans e, n, ne, nf, d⟩
  · have hfn : X.fn x = true := by
      rcases hf with z | z
      · exact z
      · rw [z] at hk; cases hk
    obtain ⟨c, hc⟩ := I.ok.has x (.inl hk)
    obtain ⟨w', z⟩ := I.cell x c hc
    refine wpAny_storeName_cell I.ok.kind hk hc z (fun h' hc' hs => ?_)
    obtain ⟨oc, hoc, hocd⟩ := id z
    refine h { s with heap := h' } ⟨I.ok, I.os, I.bare, ⟨fun b o e n hb hx => ?_, fun b o e n hb hx => ?_, I.base.free, fun b o e hx => ?_, I.base.tups, I.base.frzs, I.base.tbls⟩, ⟨m, hn.sameBut hs (Ne.symm (cne x c hc)), fun j y v' e1 e2 e3 => ?_⟩, fun y c' e => ?_, I.free, I.freeC, fun p hp => ?_, tracked ⟨oc, hoc, I.freeC x c hc⟩ hs, by simpa using I.len⟩ ⟨c, hs, .inr hc⟩
    · exact (hs.2 b (Nat.ne_of_lt (Nat.lt_of_lt_of_le (Heap.lt_size e) (I.ok.cab x c hfn hc)))).trans (I.base.keep b o e n hb hx)
    · obtain ⟨sl, e1⟩ := I.base.slot b o e n hb hx
      exact ⟨sl, (hs.2 b (Nat.ne_of_lt (Nat.lt_of_lt_of_le (Heap.lt_size e) (I.ok.cab x c hfn hc)))).trans e1⟩
    · obtain ⟨o', e1⟩ := I.base.there b o e hx
      exact ⟨o', (hs.2 b (Nat.ne_of_lt (Nat.lt_of_lt_of_le (Heap.lt_size e) (I.ok.cab x c hfn hc)))).trans e1⟩
    · by_cases hj : j = i
      · subst hj
        rw [hi] at e1; cases e1
        rw [List.getElem?_set_self hiσ] at e2
        cases e2
        exact ⟨u, r, .inr ⟨.inl hk, c, hc, hc'⟩⟩
      · rw [List.getElem?_set_ne (Ne.symm hj)] at e2
        obtain ⟨u', r', q⟩ := hl j y v' e1 e2 e3
        refine ⟨u', r', ?_⟩
        rcases q with q | ⟨k, c', e, z'⟩
        · exact .inl q
        · refine .inr ⟨k, c', e, z'.sameBut hs ?_⟩
          rintro rfl
          exact hj (nodup_ix hN e1 (I.ok.inj _ _ _ e hc ▸ hi))
    · by_cases hcc : c' = c
      · subst hcc; exact ⟨_, hc'⟩
      · obtain ⟨w2, z2⟩ := I.cell y c' e
        exact ⟨w2, z2.sameBut hs hcc⟩
    · obtain ⟨e, n, ne, nf, d⟩ := I.pin p hp
      refine ⟨(hs.2 p.1 ?_).trans e, n, ne, nf, d⟩
      intro q
      rw [q, hoc] at e
      have q' : oc = p.2 := Option.some.inj e
      exact d w' (by rw [← q']; exact hocd)
theorem store_ok {M : Model} {A : Around} {E : Value → Shared → Prop} {i : Nat} {x : Str} {v : V} {u : Value} {Q : Unit → Shared → Prop} (I : Inv X pins σ H s) (hN : X.N.Nodup) (hi : X.N[i]? = some x) (hx : Loc X.env.scope x) (r : RelV v u)
    (h : ∀ s', Inv X pins (σ.set i (some v)) H s' → Q () s') (hf : X.fn x = true ∨ X.env.scope.names.lookup x = some .local := by first | exact .inl rfl | exact .inr rfl | assumption) : wpAny M A (storeName X.env x u) Q E s :=
  store_ok2 I hN hi hx r (fun s' I' _ => h s' I') hf
/-- behind a call or a block, the state as it is -/
theorem Inv.call' {s' : Shared} {ch : List Addr} (I : Inv X pins σ H s) (ho : s'.os = s.os) (u : Un (frs X.stack) ch H H' s.heap s'.heap) (hok : HOk X.prog X.w H' s'.heap) (hg : AllBare s'.gens)
    (hch : ∀ b ∈ ch, (b ∈ X.ex ∨ X.s₀.heap.objs.size ≤ b) ∧ b ≠ X.env.locals ∧ (∀ x c, X.env.cells.lookup x = some c → c ≠ b) ∧ ∀ p ∈ X.pn ++ pins, p.1 ≠ b) : Inv X pins σ H' s' := by
  obtain ⟨h', g', d', t', o'⟩ := s'
  have e : o' = s.os := ho
  subst e
  exact I.call (g' := g') (t' := t') (d' := d') u hok hg hch
end

/-! ### the judgements -/
/-- an exception: its class, its own dict's address (where it has one), the abstract heap behind it -/
abbrev XK := Value → Option Addr → Hp → Prop
abbrev St := List (Option V)
abbrev VK := V → Hp → Prop
/-- an expression's reading; a test's; an argument list's -/
abbrev TE := St → Hp → VK → Prop
abbrev TT := St → Hp → (Bool → Hp → Prop) → Prop
abbrev TA := St → Hp → (List V → Hp → Prop) → Prop
/-- what is wanted behind a statement -/
structure Ends where
  nx : St → Hp → Prop
  rt : VK
  bk : St → Hp → Prop := fun _ _ => False
  ct : St → Hp → Prop := fun _ _ => False
abbrev TS := Ends → St → Hp → Prop

def EP (X : Cx) (pins : List (Addr × Obj)) (σ : St) (Q : VK) (u : Value) (s' : Shared) : Prop := ∃ v H', Inv X pins σ H' s' ∧ RelV v u ∧ Q v H'
def TP (X : Cx) (pins : List (Addr × Obj)) (σ : St) (Q : Bool → Hp → Prop) (b : Bool) (s' : Shared) : Prop := ∃ H', Inv X pins σ H' s' ∧ Q b H'
def AP (X : Cx) (pins : List (Addr × Obj)) (σ : St) (Q : List V → Hp → Prop) (us : List Value) (s' : Shared) : Prop := ∃ vs H', Inv X pins σ H' s' ∧ Vals vs us ∧ Q vs H'
def SP (X : Cx) (pins : List (Addr × Obj)) (D : Ends) (f : Flow) (s' : Shared) : Prop :=
  match f with
  | .next => ∃ σ' H', Inv X pins σ' H' s' ∧ D.nx σ' H'
  | .brk => ∃ σ' H', Inv X pins σ' H' s' ∧ D.bk σ' H'
  | .cont => ∃ σ' H', Inv X pins σ' H' s' ∧ D.ct σ' H'
  | .ret u => ∃ v σ' H', Inv X pins σ' H' s' ∧ RelV v u ∧ D.rt v H'

def PE (X : Cx) (e : Expr) (t : TE) : Prop :=
  ∀ (pins : List (Addr × Obj)) (s : Shared) (σ : St) (H : Hp) (Q : VK), Inv X pins σ H s → t σ H Q → wpAny (model X.prog X.w) X.A (eval e X.env) (EP X pins σ Q) X.xe s
def PT (X : Cx) (e : Expr) (t : TT) : Prop :=
  ∀ (pins : List (Addr × Obj)) (s : Shared) (σ : St) (H : Hp) (Q : Bool → Hp → Prop), Inv X pins σ H s → t σ H Q → wpAny (model X.prog X.w) X.A (isTrue e X.env (eval e X.env)) (TP X pins σ Q) X.xe s
/-- a test whatever its 'whole' is (and, or) -/
def PW (X : Cx) (e : Expr) (t : TT) : Prop :=
  ∀ (whole : Sem Value) (pins : List (Addr × Obj)) (s : Shared) (σ : St) (H : Hp) (Q : Bool → Hp → Prop), Inv X pins σ H s → t σ H Q → wpAny (model X.prog X.w) X.A (isTrue e X.env whole) (TP X pins σ Q) X.xe s
theorem PW.pt {X : Cx} {e : Expr} {t : TT} (h : PW X e t) : PT X e t := h _
/-- an argument list (no star), from the left -/
def PA (X : Cx) (es : List Expr) (t : TA) : Prop :=
  ∀ (pos : Pos) (pins : List (Addr × Obj)) (s : Shared) (σ : St) (H : Hp) (Q : List V → Hp → Prop), Inv X pins σ H s → t σ H Q → wpAny (model X.prog X.w) X.A (spliced (backTo pos (starEach es X.env))) (AP X pins σ Q) X.xe s
def PS (X : Cx) (st : Stmt) (t : TS) : Prop :=
  ∀ (pins : List (Addr × Obj)) (s : Shared) (σ : St) (H : Hp) (D : Ends), Inv X pins σ H s → t D σ H → wpAny (model X.prog X.w) X.A (exec st X.env) (SP X pins D) X.xe s
def PSs (X : Cx) (st : List Stmt) (t : TS) : Prop :=
  ∀ (pins : List (Addr × Obj)) (s : Shared) (σ : St) (H : Hp) (D : Ends), Inv X pins σ H s → t D σ H → wpAny (model X.prog X.w) X.A (execs st X.env) (SP X pins D) X.xe s
/-- weaken the end -/
theorem thn {α : Type} {t : Sem α} {Q Q' : α → Shared → Prop} {M : Model} {A : Around} {E : Value → Shared → Prop} {s : Shared} (h : wpAny M A t Q E s) (hQ : ∀ a s, Q a s → Q' a s) : wpAny M A t Q' E s := wpAny_mono h hQ fun _ _ x => x
end L2

namespace L2
open PySem PySem.Spec PyProof.Rows
section
variable {X : Cx}

/-! ### names and constants -/
def tVar (i : Nat) : TE := fun σ H Q => ∃ v, σ[i]? = some (some v) ∧ Q v H
def tC (v : V) : TE := fun _ H Q => Q v H
theorem pe_var {i : Nat} {x : Str} {pos : Pos} (hN : X.N[i]? = some x) (hv : Vis X.env.scope x) (hd : (x == ("__debug__" : Str)) = false := by decide) (hcd : (x == ("__classdict__" : Str)) = false := by decide) : PE X (.Name x pos) (tVar i) := by
  intro pins s σ H Q I h
  obtain ⟨v, e, h⟩ := h
  obtain ⟨m, hn, hl⟩ := I.loc
  obtain ⟨u, r, l⟩ := hl i x v hN e hv
  have fin : EP X pins σ Q u s := ⟨v, H, I, r, h⟩
  rcases l with ⟨hk, hm⟩ | ⟨hk, c, hc, hcell⟩
  · exact wpAny_Name (wpAny_loadName_local I.ok.kind hk hn hm fin) hd
  · rcases hk with hk | hk
    · exact wpAny_Name (wpAny_loadName_cell I.ok.kind hk hc hcell fin) hd
    · exact wpAny_Name (wpAny_loadName_free I.ok.kind hk hc hcell fin hcd) hd
theorem pe_int {i j pos} : PE X (.Constant (.int i) j pos) (tC (.int i)) := fun _ _ _ H _ I h => wpAny_Constant_int ⟨.int i, H, I.tok _, ⟨_, rfl⟩, h⟩
theorem pe_bl {b j pos} : PE X (.Constant (.bool b) j pos) (tC (.bl b)) := fun _ _ _ H _ I h => Constant_bool ⟨.bl b, H, I, rfl, h⟩
theorem pe_non {j pos} : PE X (.Constant .none j pos) (tC .non) := fun _ _ _ H _ I h => Constant_none ⟨.non, H, I, rfl, h⟩
theorem pe_str {x j pos} : PE X (.Constant (.str x) j pos) (tC (.str x)) := fun _ _ _ H _ I h => Calls.Constant_str ⟨.str x, H, I.tok _, ⟨_, rfl⟩, h⟩

/-- a global name of the def -/
def Gl (X : Cx) (x : Str) : Prop := X.env.kindOf x = some .globalImplicit
theorem ld_glob {E : Value → Shared → Prop} {pins : List (Addr × Obj)} {s : Shared} {σ : St} {H : Hp} {x : Str} {u : Value} {pos : Pos} {Q : Value → Shared → Prop} (I : Inv X pins σ H s) (hg : Gl X x) (hm : X.mg x = some u) (h : Q u s)
    (hd : (x == ("__debug__" : Str)) = false := by decide) : wpAny (model X.prog X.w) X.A (eval (.Name x pos) X.env) Q E s :=
  Calls.Name_function_global I.ok.kind hg (Calls.loadGlobal_global (by rw [I.ok.glob]; exact I.mod.glob.keeps I.bk) hm h) hd
theorem ld_blt {E : Value → Shared → Prop} {pins : List (Addr × Obj)} {s : Shared} {σ : St} {H : Hp} {x : Str} {u : Value} {pos : Pos} {Q : Value → Shared → Prop} (I : Inv X pins σ H s) (hg : Gl X x) (hm : X.mg x = none) (hv : bootBuiltins x = some u) (h : Q u s)
    (hn : x ≠ "__name__" := by decide) (hd : (x == ("__debug__" : Str)) = false := by decide) : wpAny (model X.prog X.w) X.A (eval (.Name x pos) X.env) Q E s := by
  obtain ⟨mb, h1, h2⟩ := I.mod.blt
  exact Calls.Name_function_global I.ok.kind hg (Calls.loadGlobal_builtin (by rw [I.ok.glob]; exact I.mod.glob.keeps I.bk) hm (by rw [I.ok.blt]; exact h1.keeps I.bk) ((h2 x hn).trans hv) h) hd
/-- a module's constant, a class, a function, as a value -/
theorem pe_glob {x : Str} {v : V} {u : Value} {pos : Pos} (hg : Gl X x) (hm : X.mg x = some u) (r : RelV v u) (hd : (x == ("__debug__" : Str)) = false := by decide) : PE X (.Name x pos) (tC v) :=
  fun _ _ _ H _ I h => ld_glob I hg hm ⟨v, H, I, r, h⟩ hd
theorem pe_bltn {x : Str} {v : V} {u : Value} {pos : Pos} (hg : Gl X x) (hm : X.mg x = none) (hv : bootBuiltins x = some u) (r : RelV v u) (hn : x ≠ "__name__" := by decide) (hd : (x == ("__debug__" : Str)) = false := by decide) : PE X (.Name x pos) (tC v) :=
  fun _ _ _ H _ I h => ld_blt I hg hm hv ⟨v, H, I, r, h⟩ hn hd

/-! ### arithmetic -/
variable {a b : Expr} {ta tb : TE} {pos : Pos}
/-! ### comparisons -/
/-! ### and, or, not -/
variable {tA tB' : TT} {rest : List Expr}
def tAnd (t u : TT) : TT := fun σ H Q => t σ H fun c H1 => if c = true then u σ H1 Q else Q false H1
def tOr (t u : TT) : TT := fun σ H Q => t σ H fun c H1 => if c = true then Q true H1 else u σ H1 Q
def tNot (t : TT) : TT := fun σ H Q => t σ H fun c H1 => Q (!c) H1
theorem pw_and1 (ha : PT X a tA) : PW X (.BoolOp .And [a] pos) tA := by
  intro wh pins s σ H Q I h
  refine isTrue_and (thn (ha pins s σ H Q I h) fun c s1 e => ?_)
  cases c with
  | true => exact isTrue_and_nil e
  | false => exact e
theorem pw_or1 (ha : PT X a tA) : PW X (.BoolOp .Or [a] pos) tA := by
  intro wh pins s σ H Q I h
  refine isTrue_or (thn (ha pins s σ H Q I h) fun c s1 e => ?_)
  cases c with
  | false => exact isTrue_or_nil e
  | true => exact e
theorem pw_and (ha : PT X a tA) (hb : PW X (.BoolOp .And (b :: rest) pos) tB') : PW X (.BoolOp .And (a :: b :: rest) pos) (tAnd tA tB') := by
  intro wh pins s σ H Q I h
  refine isTrue_and (thn (ha pins s σ H _ I h) fun c s1 ⟨H1, I1, q1⟩ => ?_)
  cases c with
  | true => exact hb wh pins s1 σ H1 Q I1 q1
  | false => exact ⟨H1, I1, q1⟩
theorem pw_or (ha : PT X a tA) (hb : PW X (.BoolOp .Or (b :: rest) pos) tB') : PW X (.BoolOp .Or (a :: b :: rest) pos) (tOr tA tB') := by
  intro wh pins s σ H Q I h
  refine isTrue_or (thn (ha pins s σ H _ I h) fun c s1 ⟨H1, I1, q1⟩ => ?_)
  cases c with
  | true => exact ⟨H1, I1, q1⟩
  | false => exact hb wh pins s1 σ H1 Q I1 q1
theorem pt_not (ha : PT X a tA) : PT X (.UnaryOp .Not a pos) (tNot tA) := by
  intro pins s σ H Q I h
  exact isTrue_not (ha pins s σ H (fun c H1 => Q (!c) H1) I h)
/-- .. as values (bools) -/
def tAndV (ta tb : TE) : TE := fun σ H Q => ta σ H fun x H1 => ∃ c, x = .bl c ∧ if c = true then tb σ H1 Q else Q (.bl false) H1
def tOrV (ta tb : TE) : TE := fun σ H Q => ta σ H fun x H1 => ∃ c, x = .bl c ∧ if c = true then Q (.bl true) H1 else tb σ H1 Q
def tNotV (ta : TE) : TE := fun σ H Q => ta σ H fun x H1 => ∃ c, x = .bl c ∧ Q (.bl (!c)) H1
theorem pe_one {op} {t : TE} (h : PE X a t) : PE X (.BoolOp op [a] pos) t := fun pins s σ H Q I hw => BoolOp_one (h pins s σ H Q I hw)
theorem pe_and (ha : PE X a ta) (hb : PE X (.BoolOp .And (b :: rest) pos) tb) : PE X (.BoolOp .And (a :: b :: rest) pos) (tAndV ta tb) := by
  intro pins s σ H Q I h
  refine BoolOp_and (thn (ha pins s σ H _ I h) fun v s1 ⟨x, H1, I1, r1, q1⟩ => ?_)
  obtain ⟨c, rfl, q1⟩ := q1
  cases r1
  refine wpAny_truthy_bool ?_
  cases c with
  | true => exact hb pins s1 σ H1 Q I1 q1
  | false => exact ⟨.bl false, H1, I1, rfl, q1⟩
theorem pe_not (ha : PE X a ta) : PE X (.UnaryOp .Not a pos) (tNotV ta) := by
  intro pins s σ H Q I h
  refine UnaryOp_ (thn (ha pins s σ H _ I h) fun v s1 ⟨x, H1, I1, r1, q1⟩ => ?_)
  obtain ⟨c, rfl, q1⟩ := q1
  cases r1
  exact not_of (wpAny_truthy_bool ⟨.bl (!c), H1, I1, rfl, q1⟩)
/-- a if t else b -/
def tIf (t : TT) (ta tb : TE) : TE := fun σ H Q => t σ H fun c H1 => if c = true then ta σ H1 Q else tb σ H1 Q
theorem pe_ifExp {c : Expr} (hc : PT X c tA) (ha : PE X a ta) (hb : PE X b tb) : PE X (.IfExp c a b pos) (tIf tA ta tb) := by
  intro pins s σ H Q I h
  refine wpAny_IfExp (thn (hc pins s σ H _ I h) fun d s1 ⟨H1, I1, q1⟩ => ?_)
  cases d with
  | true => exact ha pins s1 σ H1 Q I1 q1
  | false => exact hb pins s1 σ H1 Q I1 q1
end
end L2

namespace L2
open PySem PySem.Spec PyProof.Rows

/-! ### a list, a tuple that is read: tracked, frozen, or an object of the module -/
def SqL (K : PySem.W.Frag) (H : Hp) (a : Addr) (xs : List V) : Prop :=
  Rd H a (.lst xs) ∨
    ∃ (o : Obj) (its : Array Value) (n : Nat), K.lookup a = some o ∧ o.cls = .type "list" ∧ o.dict = none ∧ o.data = .seq its n ∧ its.size ≤ sizeLine ∧ Vals xs its.toList
def SqT (K : PySem.W.Frag) (H : Hp) (a : Addr) (xs : List V) : Prop :=
  Rd H a (.tup xs) ∨
    ∃ (o : Obj) (its : Array Value) (n : Nat), K.lookup a = some o ∧ o.cls = .type "tuple" ∧ o.data = .seq its n ∧ its.size ≤ sizeLine ∧ Vals xs its.toList
def absV : Value → Option V
  | .none => some .non
  | .bool b => some (.bl b)
  | .int i _ => some (.int i)
  | .str x _ => some (.str x)
  | .bytes b _ => some (.byt b)
  | .float b _ => some (.flt b)
  | .ref a => some (.ref a)
  | .type n => some (.ty n)
  | _ => none
theorem RelV.abs {x : V} {u : Value} (r : RelV x u) : absV u = some x := by
  cases x with
  | non => cases r; rfl
  | bl _ => cases r; rfl
  | int _ => obtain ⟨t, rfl⟩ := r; rfl
  | str _ => obtain ⟨t, rfl⟩ := r; rfl
  | byt _ => obtain ⟨t, rfl⟩ := r; rfl
  | flt _ => obtain ⟨t, rfl⟩ := r; rfl
  | ref _ => cases r; rfl
  | ty _ => cases r; rfl
theorem RelV.inj {x y : V} {u : Value} (r : RelV x u) (q : RelV y u) : x = y := Option.some.inj (r.abs.symm.trans q.abs)
theorem Vals.inj : ∀ {xs ys : List V} {us : List Value}, Vals xs us → Vals ys us → xs = ys
  | _, _, _, .nil, .nil => rfl
  | _, _, _, .cons r t, .cons r' t' => by rw [r.inj r', Vals.inj t t']
section
variable {X : Cx} {pins : List (Addr × Obj)} {σ : St} {H : Hp} {s : Shared} {a : Addr} {xs ys : List V}
theorem SqL.of {K : PySem.W.Frag} (h : H a = some (.lst xs)) : SqL K H a xs := .inl (.inl h)
theorem SqT.of {K : PySem.W.Frag} (h : H a = some (.tup xs)) : SqT K H a xs := .inl (.inl h)
theorem Inv.list (I : Inv X pins σ H s) (h : SqL X.K H a xs) : ∃ its : List Value, Vals xs its ∧ PlainL s.heap a its.toArray ∧ xs.length ≤ sizeLine := by
  rcases h with h | ⟨o, its, n, hk, hc, hd, hs, hz, r⟩
  · obtain ⟨z, its, n, r, e⟩ := h.ok I.hok
    exact ⟨its, r, ⟨_, n, e, rfl, rfl, rfl⟩, z⟩
  · refine ⟨its.toList, r, ⟨o, n, I.kIn a o hk, hc, hd, by simpa using hs⟩, ?_⟩
    have e := r.length
    simp only [Array.length_toList] at e
    omega
theorem Inv.tuple (I : Inv X pins σ H s) (h : SqT X.K H a xs) : ∃ its : List Value, Vals xs its ∧ IsTup s.heap a its.toArray ∧ xs.length ≤ sizeLine := by
  rcases h with h | ⟨o, its, n, hk, hc, hs, hz, r⟩
  · obtain ⟨z, its, r, p⟩ := h.ok I.hok
    exact ⟨its, r, p, z⟩
  · refine ⟨its.toList, r, ⟨o, I.kIn a o hk, hc, n, by simpa using hs⟩, ?_⟩
    have e := r.length
    simp only [Array.length_toList] at e
    omega
theorem Inv.list_inj (I : Inv X pins σ H s) (h : SqL X.K H a xs) (h' : SqL X.K H a ys) : xs = ys := by
  obtain ⟨its, r, ⟨o, n, e, _, _, d⟩, _⟩ := I.list h
  obtain ⟨its', r', ⟨o', n', e', _, _, d'⟩, _⟩ := I.list h'
  rw [e] at e'; cases e'
  rw [d] at d'
  injection d' with d1 _
  have : its = its' := by simpa using congrArg Array.toList d1
  subst this
  exact r.inj r'
theorem Inv.tuple_inj (I : Inv X pins σ H s) (h : SqT X.K H a xs) (h' : SqT X.K H a ys) : xs = ys := by
  obtain ⟨its, r, ⟨o, e, _, n, d⟩, _⟩ := I.tuple h
  obtain ⟨its', r', ⟨o', e', _, n', d'⟩, _⟩ := I.tuple h'
  rw [e] at e'; cases e'
  rw [d] at d'
  injection d' with d1 _
  have : its = its' := by simpa using congrArg Array.toList d1
  subst this
  exact r.inj r'
end

/-! ### another wish about exceptions -/
abbrev Cx.wish (X : Cx) (E : Value → Shared → Prop) : Cx := { X with xe := E }
/-- no exception leaves -/
abbrev Cx.nox (X : Cx) : Cx := X.wish fun _ _ => False
theorem Cx.Ok.wish {X : Cx} (ok : X.Ok) (E : Value → Shared → Prop) : (X.wish E).Ok :=
  ⟨ok.mod, ok.kind, ok.glob, ok.blt, ok.above, ok.inj, ok.has, ok.cab, ok.hd, ok.frames, ok.stk, ok.exf, ok.bs, ok.bsz, ok.noex, ok.exfs, ok.funs, ok.frf⟩
theorem Cx.Ok.unwish {X : Cx} {E : Value → Shared → Prop} (ok : (X.wish E).Ok) : X.Ok :=
  ⟨ok.mod, ok.kind, ok.glob, ok.blt, ok.above, ok.inj, ok.has, ok.cab, ok.hd, ok.frames, ok.stk, ok.exf, ok.bs, ok.bsz, ok.noex, ok.exfs, ok.funs, ok.frf⟩
section
variable {X : Cx} {pins : List (Addr × Obj)} {σ : St} {H : Hp} {s : Shared} {E : Value → Shared → Prop}
theorem Inv.wish (I : Inv X pins σ H s) (E : Value → Shared → Prop) : Inv (X.wish E) pins σ H s := ⟨I.ok.wish E, I.os, I.bare, I.base, I.loc, I.cell, I.free, I.freeC, I.pin, I.hok, I.len⟩
theorem Inv.unwish (I : Inv (X.wish E) pins σ H s) : Inv X pins σ H s := ⟨I.ok.unwish, I.os, I.bare, I.base, I.loc, I.cell, I.free, I.freeC, I.pin, I.hok, I.len⟩
theorem SP.unwish {D : Ends} {f : Flow} {s' : Shared} (h : SP (X.wish E) pins D f s') : SP X pins D f s' := by
  cases f with
  | next => obtain ⟨σ', H', I, q⟩ := h; exact ⟨σ', H', I.unwish, q⟩
  | brk => obtain ⟨σ', H', I, q⟩ := h; exact ⟨σ', H', I.unwish, q⟩
  | cont => obtain ⟨σ', H', I, q⟩ := h; exact ⟨σ', H', I.unwish, q⟩
  | ret u => obtain ⟨v, σ', H', I, r, q⟩ := h; exact ⟨v, σ', H', I.unwish, r, q⟩
theorem PE.nox {e : Expr} {t : TE} (h : PE X.nox e t) : PE X e t := fun pins s σ H Q I hw =>
  wpAny_mono (h pins s σ H Q (I.wish _) hw) (fun _ _ ⟨v, H', I', r, q⟩ => ⟨v, H', I'.unwish, r, q⟩) fun _ _ z => False.elim z
theorem PT.nox {e : Expr} {t : TT} (h : PT X.nox e t) : PT X e t := fun pins s σ H Q I hw =>
  wpAny_mono (h pins s σ H Q (I.wish _) hw) (fun _ _ ⟨H', I', q⟩ => ⟨H', I'.unwish, q⟩) fun _ _ z => False.elim z
theorem PSs.nox {st : List Stmt} {t : TS} (h : PSs X.nox st t) : PSs X st t := fun pins s σ H D I hw =>
  wpAny_mono (h pins s σ H D (I.wish _) hw) (fun _ _ q => q.unwish) fun _ _ z => False.elim z
end

/-! ### blocks and small statements -/
section
variable {X : Cx} {st : Stmt} {rest : List Stmt} {t u : TS} {e : Expr} {te : TE} {pos : Pos}
def tNext : TS := fun D σ H => D.nx σ H
def tSeq (t u : TS) : TS := fun D σ H => t { D with nx := u D } σ H
theorem pss_nil : PSs X [] tNext := fun _ _ σ H _ I h => wpAny_execs_nil ⟨σ, H, I, h⟩
theorem pss_cons (h1 : PS X st t) (h2 : PSs X rest u) : PSs X (st :: rest) (tSeq t u) := by
  intro pins s σ H D I h
  refine wpAny_execs_cons (thn (h1 pins s σ H { D with nx := u D } I h) fun f s1 q => ?_)
  cases f with
  | next =>
    obtain ⟨σ', H', I', q⟩ := q
    exact h2 pins s1 σ' H' D I' q
  | ret v => exact q
  | brk => exact q
  | cont => exact q
theorem pss_one (h1 : PS X st t) : PSs X [st] t := by
  intro pins s σ H D I h
  refine wpAny_execs_cons (thn (h1 pins s σ H D I h) fun f s1 q => ?_)
  cases f with
  | next => exact wpAny_execs_nil q
  | ret v => exact q
  | brk => exact q
  | cont => exact q
/-- in a def's body nothing is shown -/
theorem Inv.quiet {pins : List (Addr × Obj)} {σ : St} {H : Hp} {s : Shared} (I : Inv X pins σ H s) : interactive X.env = false := by simp [interactive, I.ok.kind]
/-- an expression whose value is dropped -/
def tDrop (te : TE) : TS := fun D σ H => te σ H fun _ H1 => D.nx σ H1
theorem ps_expr (he : PE X e te) (hs : swapsWith e none pos.line X.env = pure false := by rfl) : PS X (.Expr e pos) (tDrop te) := by
  intro pins s σ H D I h
  exact wpAny_Expr_any (thn (he pins s σ H _ I h) fun v s1 ⟨x, H1, I1, r1, q1⟩ => ⟨σ, H1, I1, q1⟩) I.quiet hs
def tRet (te : TE) : TS := fun D σ H => te σ H D.rt
theorem ps_ret (he : PE X e te) : PS X (.Return (some e) pos) (tRet te) := by
  intro pins s σ H D I h
  exact wpAny_Return_some (thn (he pins s σ H _ I h) fun v s1 ⟨x, H1, I1, r1, q1⟩ => ⟨x, σ, H1, I1, r1, q1⟩)
def tRetN : TS := fun D _ H => D.rt .non H
def tIfS (c : TT) (t u : TS) : TS := fun D σ H => c σ H fun b H1 => if b = true then t D σ H1 else u D σ H1
theorem ps_if {c : Expr} {a b : List Stmt} {tc : TT} (hc : PT X c tc) (ha : PSs X a t) (hb : PSs X b u) : PS X (.If c a b pos) (tIfS tc t u) := by
  intro pins s σ H D I h
  refine wpAny_If (thn (hc pins s σ H _ I h) fun d s1 ⟨H1, I1, q1⟩ => ?_)
  cases d with
  | true => exact ha pins s1 σ H1 D I1 q1
  | false => exact hb pins s1 σ H1 D I1 q1
/-- code that the proof never comes to -/
def tNever : TS := fun _ _ _ => False
theorem ps_never : PS X st tNever := fun _ _ _ _ _ _ h => h.elim
end

/-! ### targets -/
abbrev TG := V → St → Hp → (St → Hp → Prop) → Prop
abbrev TGs := List V → St → Hp → (St → Hp → Prop) → Prop
def PG (X : Cx) (target : Expr) (t : TG) : Prop :=
  ∀ (pins : List (Addr × Obj)) (s : Shared) (σ : St) (H : Hp) (v : V) (u : Value) (Q : St → Hp → Prop), Inv X pins σ H s → RelV v u → t v σ H Q →
    wpAny (model X.prog X.w) X.A (assign target X.env u) (fun _ s' => ∃ σ' H', Inv X pins σ' H' s' ∧ Q σ' H') X.xe s
/-- several targets, one after another -/
def PGs (X : Cx) (ts : List Expr) (t : TGs) : Prop :=
  ∀ (pins : List (Addr × Obj)) (s : Shared) (σ : St) (H : Hp) (vs : List V) (us : List Value) (Q : St → Hp → Prop), Inv X pins σ H s → Vals vs us → t vs σ H Q →
    wpAny (model X.prog X.w) X.A (assignInOrder ((assignEach ts X.env).map (·.2)) us) (fun _ s' => ∃ σ' H', Inv X pins σ' H' s' ∧ Q σ' H') X.xe s
/-- o[i] = v, by values -/
abbrev TSet := V → V → V → Hp → (Hp → Prop) → Prop
def PSet (X : Cx) (t : TSet) : Prop :=
  ∀ (pins : List (Addr × Obj)) (s : Shared) (σ : St) (H : Hp) (o i v : V) (ov iv u : Value) (Q : Hp → Prop), Inv X pins σ H s → RelV o ov → RelV i iv → RelV v u → t o i v H Q →
    wpAny (model X.prog X.w) X.A (setItem ov iv u) (fun _ s' => ∃ H', Inv X pins σ H' s' ∧ Q H') X.xe s
section
variable {X : Cx} {pos : Pos}
def gName (i : Nat) : TG := fun v σ H Q => Q (σ.set i (some v)) H
theorem pg_name {i : Nat} {x : Str} (hN : X.N.Nodup) (hi : X.N[i]? = some x) (hx : Loc X.env.scope x) (hf : X.fn x = true ∨ X.env.scope.names.lookup x = some .local := by first | exact .inl rfl | exact .inr rfl | assumption) : PG X (.Name x pos) (gName i) := by
  intro pins s σ H v u Q I r h
  exact wpAny_assign_Name (store_ok I hN hi hx r (fun s' I' => ⟨_, H, I', h⟩) hf)
def gNil : TGs := fun vs σ H Q => vs = [] ∧ Q σ H
def gCons (t : TG) (u : TGs) : TGs := fun vs σ H Q => ∃ v r, vs = v :: r ∧ t v σ H fun σ' H' => u r σ' H' Q
theorem pgs_nil : PGs X [] gNil := by
  intro pins s σ H vs us Q I r h
  obtain ⟨e, h⟩ := h
  subst e
  cases r
  exact assignInOrder_nil ⟨σ, H, I, h⟩
theorem pgs_cons {e : Expr} {es : List Expr} {t : TG} {u : TGs} (h1 : PG X e t) (h2 : PGs X es u)
    (hs : (assignEach (e :: es) X.env).map (·.2) = assign e X.env :: (assignEach es X.env).map (·.2) := by rfl) : PGs X (e :: es) (gCons t u) := by
  intro pins s σ H vs us Q I r h
  obtain ⟨v, vr, e1, h⟩ := h
  subst e1
  cases r with
  | cons r rr =>
    rw [hs]
    refine assignInOrder_cons (thn (h1 pins s σ H _ _ _ I r h) fun _ s1 ⟨σ1, H1, I1, q1⟩ => ?_)
    exact h2 pins s1 σ1 H1 _ _ Q I1 rr q1
/-- (a, b, ..) = a tuple of that length -/
def gTup (K : PySem.W.Frag) (n : Nat) (t : TGs) : TG := fun v σ H Q => ∃ a xs, v = .ref a ∧ SqT K H a xs ∧ xs.length = n ∧ t xs σ H Q
theorem pg_tup {es : List Expr} {k : Nat} {t : TGs} {n : Nat} (hc : X.calm = true) (h : PGs X es t)
    (hn : (assignEach es X.env).length = n := by rfl) (hst : (assignEach es X.env).findIdx? (·.1) = none := by rfl) : PG X (.Tuple es k pos) (gTup X.K n t) := by
  intro pins s σ H v u Q I r hw
  obtain ⟨a, xs, e1, hq, hl, hw⟩ := hw
  subst e1
  cases r
  obtain ⟨its, rv, ht, hz⟩ := I.tuple hq
  refine assign_Tuple_tuple (I.ok.hd hc) ht (by simp [hn, ← hl, rv.length]) hst fun h' hx => ?_
  have I1 : Inv X pins σ H { s with heap := h' } := I.kept (t' := s.toks) fun b o e => hx b o (Nat.ne_of_lt (Heap.lt_size e)) e
  exact h pins _ σ H xs _ Q I1 (by simpa using rv) hw
/-- o[i] = .. -/
def gSub (to ti : TE) (t : TSet) : TG := fun v σ H Q => to σ H fun o H1 => ti σ H1 fun i H2 => t o i v H2 fun H3 => Q σ H3
theorem pg_sub {o i : Expr} {to ti : TE} {t : TSet} (ho : PE X o to) (hi : PE X i ti) (hs : PSet X t)
    (ha : ∀ v, assign (.Subscript o i pos) X.env v = (do
      let ov ← holding [v] (eval o X.env)
      let iv ← holding [v, ov] (eval i X.env)
      standAt pos
      holding [v, ov, iv] (setItem ov iv v)
      release [v, ov, iv] []) := by intro _; rfl) : PG X (.Subscript o i pos) (gSub to ti t) := by
  intro pins s σ H v u Q I r h
  rw [ha]
  refine wpAny_bind (wpAny_holding (thn (ho pins s σ H _ I h) fun ov s1 ⟨x, H1, I1, r1, q1⟩ => ?_))
  refine wpAny_bind (wpAny_holding (thn (hi pins s1 σ H1 _ I1 q1) fun iv s2 ⟨y, H2, I2, r2, q2⟩ => ?_))
  refine wpAny_bind (wpAny_standAt (wpAny_bind (wpAny_holding (thn (hs pins s2 σ H2 x y v ov iv u _ I2 r1 r2 r q2) fun _ s3 ⟨H3, I3, q3⟩ => ?_))))
  exact wpAny_release ⟨σ, H3, I3, q3⟩
/-- target = value -/
def tAsg (te : TE) (g : TG) : TS := fun D σ H => te σ H fun x H1 => g x σ H1 D.nx
theorem ps_asg {tg e : Expr} {te : TE} {g : TG} (he : PE X e te) (hg : PG X tg g) (hs : swapsWithSole [tg] e pos.line X.env = pure false := by rfl) (hw : swappedStores [tg] e X.env = pure none := by rfl)
    (h1 : (assignEach [tg] X.env).map (·.2) = [assign tg X.env] := by rfl) : PS X (.Assign [tg] e pos) (tAsg te g) := by
  intro pins s σ H D I h
  refine wpAny_Assign_stores (thn (he pins s σ H _ I h) fun v s1 ⟨x, H1, I1, r1, q1⟩ => ?_) hs hw
  rw [h1]
  exact thn (hg pins s1 σ H1 x v _ I1 r1 q1) fun _ s2 q => q
/-- name = value -/
theorem ps_set {i : Nat} {x : Str} {e : Expr} {te : TE} {pos' : Pos} (hN : X.N.Nodup) (hi : X.N[i]? = some x) (hx : Loc X.env.scope x) (he : PE X e te) (hs : swapsWith e (some (.Name x pos')) pos.line X.env = pure false := by rfl) (hf : X.fn x = true ∨ X.env.scope.names.lookup x = some .local := by first | exact .inl rfl | exact .inr rfl | assumption) :
    PS X (.Assign [.Name x pos'] e pos) (tAsg te (gName i)) := by
  intro pins s σ H D I h
  refine wpAny_Assign_Name (thn (he pins s σ H _ I h) fun v s1 ⟨y, H1, I1, r1, q1⟩ => ?_) hs
  exact store_ok I1 hN hi hx r1 (fun s2 I2 => ⟨_, H1, I2, q1⟩) hf
end

/-! ### while -/
section
variable {X : Cx} {pos : Pos}
/-- the invariant W with its measure -/
def tWhile (c : TT) (tb : TS) : TS := fun D σ H => ∃ W : Nat → St → Hp → Prop, (∃ m, W m σ H) ∧ ∀ m σ H, W m σ H →
  c σ H fun b H1 => if b = true then ∃ N : St → Hp → Prop, (∀ σ' H', N σ' H' → ∃ m', m' < m ∧ W m' σ' H') ∧ tb { D with nx := N, ct := N, bk := D.nx } σ H1 else D.nx σ H1
end

/-! ### what a loop or a comprehension walks -/
/-- at turn i: it yields x (the heap may grow), or it stops -/
structure It where
  go : Nat → Hp → Prop
  yld : Nat → Hp → V → Hp → Prop
  stop : Nat → Hp → Prop
/-- the iterator's own objects may turn: they are not the frame's, not pinned, younger than the entry (or a comprehension's own) -/
def FpOk (X : Cx) (pins : List (Addr × Obj)) (H : Hp) (b : Addr) : Prop :=
  H b = none ∧ b ≠ X.env.locals ∧ b ∉ X.fs ∧ (b ∈ X.ex ∨ X.s₀.heap.objs.size ≤ b) ∧ (∀ x c, X.env.cells.lookup x = some c → c ≠ b) ∧ ∀ p ∈ X.pn ++ pins, p.1 ≠ b
theorem Inv.fpOk {X : Cx} {pins : List (Addr × Obj)} {σ : St} {H H' : Hp} {s : Shared} {b : Addr} (I : Inv X pins σ H s) (hb : s.heap.objs.size ≤ b) (hn : H' b = none) : FpOk X pins H' b := by
  refine ⟨hn, Nat.ne_of_gt (Nat.lt_of_lt_of_le I.lt hb), I.nofs hb, .inr (Nat.le_trans I.sz hb), fun x c e z => ?_, fun p hp z => ?_⟩
  · obtain ⟨v, q⟩ := I.cell x c e
    exact absurd (Nat.lt_of_lt_of_le q.lt (by rw [z]; exact hb)) (Nat.lt_irrefl _)
  · exact absurd (Nat.lt_of_lt_of_le (Heap.lt_size (I.pin p hp).1) (by rw [z]; exact hb)) (Nat.lt_irrefl _)
structure Turn (P : Program) (w : World) (K : PySem.W.Frag) (tg : Expr) (J : It) (fp : List Addr) (it : Addr) (tn : Nat → Heap → Prop) : Prop where
  mem : it ∈ fp
  obj : ∀ i h, tn i h → ∀ b ∈ fp, ∃ o, h.get? b = some o ∧ ∀ v, o.data ≠ .cell v
  keep : ∀ i h h', tn i h → (∀ b ∈ fp, ∀ o, h.get? b = some o → h'.get? b = some o) → tn i h'
  item : ∀ (X : Cx), X.prog = P → X.w = w → X.K = K → X.calm = true → ∀ (i : Nat) (pins : List (Addr × Obj)) (s : Shared) (σ : St) (H : Hp) (E : Value → Shared → Prop), Inv X pins σ H s → (∀ b ∈ fp, FpOk X pins H b) → tn i s.heap → J.go i H →
    wpAny (model P w) X.A (pyNext (.ref it)) (fun r s1 => ∃ u, r = some u ∧
      wpAny (model P w) X.A (letOwnedTupleGo tg (.ref it) u) (fun _ s2 => ∃ x H', Inv X pins σ H' s2 ∧ RelV x u ∧ J.yld i H x H' ∧ tn (i + 1) s2.heap ∧ ∀ b ∈ fp, H' b = none) E s1) E s
  done : ∀ (X : Cx), X.prog = P → X.w = w → X.K = K → X.calm = true → ∀ (i : Nat) (pins : List (Addr × Obj)) (s : Shared) (σ : St) (H : Hp) (E : Value → Shared → Prop), Inv X pins σ H s → (∀ b ∈ fp, FpOk X pins H b) → tn i s.heap → J.stop i H →
    wpAny (model P w) X.A (pyNext (.ref it)) (fun r s1 => r = none ∧ Inv X pins σ H s1) E s
  self : ∀ (A : Around) (i : Nat) (s : Shared) (Q : Value → Shared → Prop) (E : Value → Shared → Prop), tn i s.heap → Q (.ref it) s → wpAny (model P w) A (pyIter (.ref it)) Q E s
abbrev TI := St → Hp → (It → Hp → Prop) → Prop
/-- an iterator has come -/
def PIE (X : Cx) (pins : List (Addr × Obj)) (σ : St) (tg : Expr) (R : It → Hp → Prop) (itv : Value) (s2 : Shared) : Prop :=
  ∃ (it : Addr) (fp : List Addr) (tn : Nat → Heap → Prop) (J : It) (H' : Hp), itv = .ref it ∧ Inv X pins σ H' s2 ∧ Turn X.prog X.w X.K tg J fp it tn ∧ tn 0 s2.heap ∧ (∀ b ∈ fp, FpOk X pins H' b) ∧ R J H'
def PI (X : Cx) (tg iter : Expr) (wi : TI) : Prop :=
  ∀ (pins : List (Addr × Obj)) (s : Shared) (σ : St) (H : Hp) (R : It → Hp → Prop), Inv X pins σ H s → wi σ H R →
    wpAny (model X.prog X.w) X.A (eval iter X.env) (fun v s1 => wpAny (model X.prog X.w) X.A (pyIter v) (PIE X pins σ tg R) X.xe s1) X.xe s

/-- the step ahead of the store is nothing for an iterator that keeps no tuple -/
theorem go_of {M : Model} {A : Around} {E : Value → Shared → Prop} {s : Shared} {tg : Expr} {it : Addr} {u : Value} {o : Obj} {n : String} {vs : Array Value} {Q : Unit → Shared → Prop} (ho : s.heap.get? it = some o) (hc : o.cls = .type n) (hd : o.data = .fields vs)
    (hn : ["enumerate", "zip", "dict_itemiterator", "dict_reverseitemiterator", "odict_iterator", "itertools.zip_longest", "itertools.pairwise"].contains n = false) (hQ : Q () s) : wpAny M A (letOwnedTupleGo tg (.ref it) u) Q E s := by
  unfold letOwnedTupleGo
  cases tg <;> first
    | exact wpAny_pure hQ
    | (cases u <;> first
        | exact wpAny_pure hQ
        | (refine wpAny_bind (wpAny_load ho ?_)
           rw [hc, hd]
           show wpAny M A (if (["enumerate", "zip", "dict_itemiterator", "dict_reverseitemiterator", "odict_iterator", "itertools.zip_longest", "itertools.pairwise"].contains n && vs[0]? == some (rawInt _)) = true then _ else _) Q E s
           rw [if_neg (by intro h; rw [hn, Bool.false_and] at h; cases h)]
           exact wpAny_pure hQ))

/-- the list at a, as it stands at each turn (a loop may append to it) -/
def Itl (K : PySem.W.Frag) (a : Addr) : It :=
  ⟨fun i H => ∃ xs x, SqL K H a xs ∧ xs[i]? = some x, fun i H x H' => H' = H ∧ ∀ xs, SqL K H a xs → xs[i]? = some x, fun i H => ∃ xs, SqL K H a xs ∧ xs.length ≤ i⟩
def Itt (K : PySem.W.Frag) (a : Addr) : It :=
  ⟨fun i H => ∃ xs x, SqT K H a xs ∧ xs[i]? = some x, fun i H x H' => H' = H ∧ ∀ xs, SqT K H a xs → xs[i]? = some x, fun i H => ∃ xs, SqT K H a xs ∧ xs.length ≤ i⟩
/-- lo, lo + 1, .. (n of them) -/
def Itr (lo : Int) (n : Nat) : It := ⟨fun i _ => i < n, fun i H x H' => H' = H ∧ x = .int (lo + i), fun i _ => n ≤ i⟩
theorem turn_list {P : Program} {w : World} {K : PySem.W.Frag} {tg : Expr} (a it : Addr) : Turn P w K tg (Itl K a) [it] it (fun i h => h.IsListIter it a i) where
  mem := by simp
  obj := fun i h st b hb => by
    have e : b = it := by simpa using hb
    subst e
    obtain ⟨o, e, c, d⟩ := st
    exact ⟨o, e, fun v z => by rw [d] at z; cases z⟩
  keep := fun i h h' st k => st.at fun o e => k it (by simp) o e
  item := by
    intro X hP hw hK hc i pins s σ H E I hf st hg
    subst hP hw hK
    obtain ⟨xs, x, hq, hx⟩ := hg
    obtain ⟨its, rv, p, hz⟩ := I.list hq
    obtain ⟨u, hu, ru⟩ := rv.get hx
    obtain ⟨f0, f1, f2, f3, f4, f5⟩ := hf it (by simp)
    refine wpAny_pyNext_list_item st p.isList (x := u) (by simpa using hu) fun h' st' sb => ?_
    have I1 : Inv X pins σ H { s with heap := h' } := I.turned (t' := s.toks) (fun b o hb e => (sb.2 b hb).trans e) f0 f1 f3 f4 f5
    obtain ⟨o, e, c, d⟩ := id st'
    exact ⟨u, rfl, go_of (s := { s with heap := h' }) e c d (by decide) ⟨x, H, I1, ru, ⟨rfl, fun ys hy => by rw [I.list_inj hy hq]; exact hx⟩, st', fun b hb => (hf b hb).1⟩⟩
  done := by
    intro X hP hw hK hc i pins s σ H E I hf st hg
    subst hP hw hK
    obtain ⟨xs, hq, hx⟩ := hg
    obtain ⟨its, rv, p, hz⟩ := I.list hq
    obtain ⟨f0, f1, f2, f3, f4, f5⟩ := hf it (by simp)
    have hl := rv.length
    exact wpAny_pyNext_list_end (I.ok.hd hc) st p.isList (by simp; omega) fun h' eb => ⟨rfl, I.turned (t' := s.toks) (fun b o hb e => eb b o hb e) f0 f1 f3 f4 f5⟩
  self := fun _ _ _ _ _ st h => wpAny_pyIter_listiter st h
theorem turn_tuple {P : Program} {w : World} {K : PySem.W.Frag} {tg : Expr} (a it : Addr) : Turn P w K tg (Itt K a) [it] it (fun i h => h.IsTupleIter it a i) where
  mem := by simp
  obj := fun i h st b hb => by
    have e : b = it := by simpa using hb
    subst e
    obtain ⟨o, e, c, d⟩ := st
    exact ⟨o, e, fun v z => by rw [d] at z; cases z⟩
  keep := fun i h h' st k => st.at fun o e => k it (by simp) o e
  item := by
    intro X hP hw hK hc i pins s σ H E I hf st hg
    subst hP hw hK
    obtain ⟨xs, x, hq, hx⟩ := hg
    obtain ⟨its, rv, p, hz⟩ := I.tuple hq
    obtain ⟨u, hu, ru⟩ := rv.get hx
    obtain ⟨f0, f1, f2, f3, f4, f5⟩ := hf it (by simp)
    refine wpAny_pyNext_tuple_item st (show s.heap.IsTuple a its.toArray from p) (x := u) (by simpa using hu) fun h' st' sb => ?_
    have I1 : Inv X pins σ H { s with heap := h' } := I.turned (t' := s.toks) (fun b o hb e => (sb.2 b hb).trans e) f0 f1 f3 f4 f5
    obtain ⟨o, e, c, d⟩ := id st'
    exact ⟨u, rfl, go_of (s := { s with heap := h' }) e c d (by decide) ⟨x, H, I1, ru, ⟨rfl, fun ys hy => by rw [I.tuple_inj hy hq]; exact hx⟩, st', fun b hb => (hf b hb).1⟩⟩
  done := by
    intro X hP hw hK hc i pins s σ H E I hf st hg
    subst hP hw hK
    obtain ⟨xs, hq, hx⟩ := hg
    obtain ⟨its, rv, p, hz⟩ := I.tuple hq
    obtain ⟨f0, f1, f2, f3, f4, f5⟩ := hf it (by simp)
    have hl := rv.length
    exact wpAny_pyNext_tuple_end (I.ok.hd hc) st (show s.heap.IsTuple a its.toArray from p) (by simp; omega) fun h' eb => ⟨rfl, I.turned (t' := s.toks) (fun b o hb e => eb b o hb e) f0 f1 f3 f4 f5⟩
  self := fun _ _ _ _ _ st h => wpAny_pyIter_tupleiter st h
theorem turn_range {P : Program} {w : World} {K : PySem.W.Frag} {tg : Expr} (it : Addr) (lo : Int) (n : Nat) : Turn P w K tg (Itr lo n) [it] it (fun i h => IsRangeIter h it (lo + (i : Nat) * 1) ((n : Int) - (i : Nat)) 1) where
  mem := by simp
  obj := fun i h st b hb => by
    have e : b = it := by simpa using hb
    subst e
    exact ⟨_, st, fun v z => by
      have z' : Data.fields _ = Data.cell v := z
      cases z'⟩
  keep := fun i h h' st k => k it (by simp) _ st
  item := by
    intro X hP hw hK hc i pins s σ H E I hf st hg
    subst hP hw hK
    obtain ⟨f0, f1, f2, f3, f4, f5⟩ := hf it (by simp)
    have W := Walks.range (prog := X.prog) (w := X.w) (I.ok.hd hc) it lo 1 n
    refine W.item i s _ _ hg st fun v h' tk hv st' kk => ?_
    obtain ⟨t, rfl⟩ := hv
    have I1 : Inv X pins σ H { s with heap := h', toks := tk } := I.turned (fun b o hb e => kk b o (by simpa using hb) e) f0 f1 f3 f4 f5
    refine ⟨_, rfl, go_of (s := { s with heap := h', toks := tk }) (n := "range_iterator") st' rfl rfl (by decide) ⟨.int (lo + i), H, I1, ⟨t, ?_⟩, ⟨rfl, rfl⟩, st', fun b hb => (hf b hb).1⟩⟩
    rw [Int.mul_one]
  done := by
    intro X hP hw hK hc i pins s σ H E I hf st hg
    subst hP hw hK
    obtain ⟨f0, f1, f2, f3, f4, f5⟩ := hf it (by simp)
    exact wpAny_pyNext_range_end (I.ok.hd hc) st (by have : n ≤ i := hg; omega) fun h' eb => ⟨rfl, I.turned (t' := s.toks) (fun b o hb e => eb b o hb e) f0 f1 f3 f4 f5⟩
  self := fun _ _ _ _ _ st h => wpAny_pyIter_rangeiter st h
end L2

namespace L2
open PySem PySem.Spec PyProof.Rows
section
variable {X : Cx} {tg : Expr}
def iList (K : PySem.W.Frag) (tl : TE) : TI := fun σ H R => tl σ H fun x H1 => ∃ a, x = .ref a ∧ (∃ xs, SqL K H1 a xs) ∧ R (Itl K a) H1
def iTup (K : PySem.W.Frag) (tl : TE) : TI := fun σ H R => tl σ H fun x H1 => ∃ a, x = .ref a ∧ (∃ xs, SqT K H1 a xs) ∧ R (Itt K a) H1
theorem pi_list {l : Expr} {tl : TE} (hl : PE X l tl) : PI X tg l (iList X.K tl) := by
  intro pins s σ H R I h
  refine thn (hl pins s σ H _ I h) fun v s1 ⟨x, H1, I1, r1, q1⟩ => ?_
  obtain ⟨a, e, ⟨xs, hq⟩, q⟩ := q1
  subst e
  cases r1
  obtain ⟨its, rv, p, hz⟩ := I1.list hq
  refine wpAny_pyIter_list p.isList ?_
  refine ⟨s1.heap.objs.size, [s1.heap.objs.size], _, _, H1, rfl, I1.kept (t' := s1.toks) fun b o e => Heap.get?_push_of_some _ e, turn_list a _, ⟨_, Heap.get?_push_size _ rfl, rfl, rfl⟩, fun b hb => ?_, q⟩
  have e : b = s1.heap.objs.size := by simpa using hb
  subst e
  exact I1.fpOk (Nat.le_refl _) (I1.hok.fresh (Nat.le_refl _))
theorem pi_tup {l : Expr} {tl : TE} (hl : PE X l tl) : PI X tg l (iTup X.K tl) := by
  intro pins s σ H R I h
  refine thn (hl pins s σ H _ I h) fun v s1 ⟨x, H1, I1, r1, q1⟩ => ?_
  obtain ⟨a, e, ⟨xs, hq⟩, q⟩ := q1
  subst e
  cases r1
  obtain ⟨its, rv, p, hz⟩ := I1.tuple hq
  refine wpAny_pyIter_tuple (show s1.heap.IsTuple a its.toArray from p) ?_
  refine ⟨s1.heap.objs.size, [s1.heap.objs.size], _, _, H1, rfl, I1.kept (t' := s1.toks) fun b o e => Heap.get?_push_of_some _ e, turn_tuple a _, ⟨_, Heap.get?_push_size _ rfl, rfl, rfl⟩, fun b hb => ?_, q⟩
  have e : b = s1.heap.objs.size := by simpa using hb
  subst e
  exact I1.fpOk (Nat.le_refl _) (I1.hok.fresh (Nat.le_refl _))
/-- a range object just made, walked -/
theorem range_it {pins : List (Addr × Obj)} {σ : St} {H : Hp} {s : Shared} {R : It → Hp → Prop} {E : Value → Shared → Prop} {lo hi : Int} {t u v : Tok} {tk : Nat} (I : Inv X pins σ H s) (h1 : -(2 ^ 62) ≤ lo) (h2 : lo < 2 ^ 62) (h3 : -(2 ^ 62) ≤ hi) (h4 : hi < 2 ^ 62)
    (q : R (Itr lo (hi - lo).toNat) H) : wpAny (model X.prog X.w) X.A (pyIter (.ref s.heap.objs.size)) (PIE X pins σ tg R) E { s with heap := s.heap.push { cls := .type "range", data := .fields #[.int lo t, .int hi u, .int 1 v] }, toks := tk } := by
  refine wpAny_pyIter_range (IsRange.new ..) (small_one h1 h2 h3 h4) ?_
  have I1 : Inv X pins σ H { s with heap := s.heap.push { cls := .type "range", data := .fields #[.int lo t, .int hi u, .int 1 v] }, toks := tk } := I.kept fun b o e => Heap.get?_push_of_some _ e
  refine ⟨(s.heap.push { cls := .type "range", data := .fields #[.int lo t, .int hi u, .int 1 v] }).objs.size, [(s.heap.push { cls := .type "range", data := .fields #[.int lo t, .int hi u, .int 1 v] }).objs.size], _, _, H, rfl,
    I1.kept (t' := tk) fun b o e => Heap.get?_push_of_some _ e, turn_range _ lo (hi - lo).toNat, ?_, fun b hb => ?_, q⟩
  · have e1 : lo + ((0 : Nat) : Int) * 1 = lo := by simp
    have e2 : (((hi - lo).toNat : Nat) : Int) - ((0 : Nat) : Int) = Builtin.Range.rangeSize lo hi 1 := by rw [rangeSize_one]; split <;> omega
    show IsRangeIter _ _ (lo + ((0 : Nat) : Int) * 1) ((((hi - lo).toNat : Nat) : Int) - ((0 : Nat) : Int)) 1
    rw [e1, e2]
    exact Heap.get?_push_size _ rfl
  · have e : b = (s.heap.push { cls := .type "range", data := .fields #[.int lo t, .int hi u, .int 1 v] }).objs.size := by simpa using hb
    subst e
    exact I1.fpOk (Nat.le_refl _) (I1.hok.fresh (Nat.le_refl _))
def iRng1 (ta : TA) : TI := fun σ H R => ta σ H fun vs H1 => ∃ j : Int, vs = [.int j] ∧ -(2 ^ 62) ≤ j ∧ j < 2 ^ 62 ∧ R (Itr 0 j.toNat) H1
def iRng2 (ta : TA) : TI := fun σ H R => ta σ H fun vs H1 => ∃ i j : Int, vs = [.int i, .int j] ∧ (-(2 ^ 62) ≤ i ∧ i < 2 ^ 62 ∧ -(2 ^ 62) ≤ j ∧ j < 2 ^ 62) ∧ R (Itr i (j - i).toNat) H1
theorem pi_range1 {a : Expr} {ta : TA} {p pos : Pos} (hg : Gl X "range") (hm : X.mg "range" = none) (ha : PA X [a] ta) (hs : starEach [a] X.env = [(false, eval a X.env)] := by rfl) : PI X tg (.Call (.Name "range" p) [a] [] pos) (iRng1 ta) := by
  intro pins s σ H R I h
  refine Call_ (ld_blt I hg hm boot_range (PyProof.Rows.callWith_type1 (thn (ha pos pins s σ H _ I h) fun us s1 ⟨vs, H1, I1, r1, q1⟩ => ?_) hs rfl))
  obtain ⟨j, e, q1, q2, q⟩ := q1
  subst e
  cases r1 with
  | cons r rr =>
    cases rr
    obtain ⟨t, rfl⟩ := r
    exact call_range_1 (range_it I1 (by omega) (by omega) q1 q2 (by simpa using q))
/-! ### for -/
/-- W: the invariant by the turn and a measure; N: what the body is to reach -/
def tFor (wi : TI) (g : TG) (tb : TS) : TS := fun D σ H => wi σ H fun J H1 => ∃ W : Nat → Nat → St → Hp → Prop, (∃ m, W 0 m σ H1) ∧ ∀ i m σ H, W i m σ H →
  (J.stop i H ∧ D.nx σ H) ∨ (J.go i H ∧ ∃ N : St → Hp → Prop, (∀ σ' H', N σ' H' → ∃ m', m' < m ∧ W (i + 1) m' σ' H') ∧ ∀ x H', J.yld i H x H' → g x σ H' fun σ2 H2 => tb { D with nx := N, ct := N, bk := D.nx } σ2 H2)
/-- the records at fp as they stand -/
def pinsAt (fp : List Addr) (h : Heap) : List (Addr × Obj) := fp.filterMap fun b => (h.get? b).map fun o => (b, o)
theorem mem_pinsAt {fp : List Addr} {h : Heap} {b : Addr} {o : Obj} (hb : b ∈ fp) (e : h.get? b = some o) : (b, o) ∈ pinsAt fp h := List.mem_filterMap.mpr ⟨b, hb, by rw [e]; rfl⟩
theorem of_pinsAt {fp : List Addr} {h : Heap} {p : Addr × Obj} (hp : p ∈ pinsAt fp h) : p.1 ∈ fp ∧ h.get? p.1 = some p.2 := by
  obtain ⟨b, hb, e⟩ := List.mem_filterMap.mp hp
  cases q : h.get? b with
  | none => rw [q] at e; cases e
  | some o =>
    rw [q] at e
    have e' : (b, o) = p := Option.some.inj e
    subst e'
    exact ⟨hb, q⟩
theorem Inv.pinned {pins : List (Addr × Obj)} {σ : St} {H : Hp} {s : Shared} {fp : List Addr} (I : Inv X pins σ H s) (hf : ∀ b ∈ fp, FpOk X pins H b) (ho : ∀ b ∈ fp, ∃ o, s.heap.get? b = some o ∧ ∀ v, o.data ≠ .cell v) : Inv X (pins ++ pinsAt fp s.heap) σ H s :=
  I.pins_of fun p hp => (List.mem_append.mp hp).elim (fun z => I.pin p (List.mem_append_right _ z)) fun z => by
    obtain ⟨hb, e⟩ := of_pinsAt z
    obtain ⟨f0, f1, f2, _⟩ := hf p.1 hb
    obtain ⟨o, e', d⟩ := ho p.1 hb
    rw [e] at e'; cases e'
    exact ⟨e, f0, f1, f2, d⟩
theorem Inv.unpinned {pins pl : List (Addr × Obj)} {σ : St} {H : Hp} {s : Shared} (I : Inv X (pins ++ pl) σ H s) : Inv X pins σ H s := I.pins_of fun p hp => I.pin p (List.mem_append_right _ (List.mem_append_left _ hp))
theorem ps_for {iter : Expr} {body : List Stmt} {wi : TI} {g : TG} {tb : TS} {pos : Pos} (hp : PassesOwn (model X.prog X.w) X.A X.env X.xe) (hc : X.calm = true) (hi : PI X tg iter wi) (hg : PG X tg g) (hb : PSs X body tb)
    (hs : ∀ x, foldedSetIterable iter X.env x = pure x := by intro _; rfl) : PS X (.For tg iter body [] pos) (tFor wi g tb) := by
  intro pins s σ H D I h
  refine wpAny_For (thn (hi pins s σ H _ I h) fun v s1 h1 => thn h1 fun itv s2 h2 => ?_) hs
  obtain ⟨it, fp, tn, J, H2, e, I2, T, st2, f2, W, ⟨m0, w0⟩, turn⟩ := h2
  subst e
  -- what stays true of the iterator's objects through the loop
  have stat : ∀ {H' : Hp}, (∀ b ∈ fp, H' b = none) → ∀ b ∈ fp, FpOk X pins H' b := fun hn b hb => ⟨hn b hb, (f2 b hb).2⟩
  refine codeAny_forLoop_any (fun n s' => ∃ i σ' H', Inv X pins σ' H' s' ∧ tn i s'.heap ∧ (∀ b ∈ fp, H' b = none) ∧ W i n σ' H') ?_ m0 ⟨0, σ, H2, I2, st2, fun b hb => (f2 b hb).1, w0⟩
  rintro n s3 ⟨i, σ3, H3, I3, st3, fr3, w3⟩
  rcases turn i n σ3 H3 w3 with ⟨stop, qn⟩ | ⟨go, N, hN, step⟩
  · refine wpAny_passesOwn hp (thn (T.done X rfl rfl rfl hc i pins s3 σ3 H3 X.xe I3 (stat fr3) st3 stop) fun r s4 ⟨hr, I4⟩ => ?_)
    subst hr
    exact wpAny_execs_nil ⟨σ3, H3, I4, qn⟩
  · refine wpAny_passesOwn hp (thn (T.item X rfl rfl rfl hc i pins s3 σ3 H3 X.xe I3 (stat fr3) st3 go) fun r s4 ⟨u, hr, h4⟩ => ?_)
    subst hr
    refine wpAny_passesOwn hp (thn h4 fun _ s5 ⟨x, H5, I5, r5, y5, st5, fr5⟩ => ?_)
    have I5' := I5.pinned (stat fr5) (T.obj _ _ st5)
    refine wpAny_passesOwn hp (thn (hg _ s5 σ3 H5 x u _ I5' r5 (step x H5 y5)) fun _ s6 ⟨σ6, H6, I6, q6⟩ => ?_)
    refine wpAny_passesOwn hp (thn (hb _ s6 σ6 H6 _ I6 q6) fun f s7 q7 => ?_)
    have again : ∀ {σ7 : St} {H7 : Hp}, Inv X (pins ++ pinsAt fp s5.heap) σ7 H7 s7 → N σ7 H7 → ∃ m, m < n ∧ ∃ i σ' H', Inv X pins σ' H' s7 ∧ tn i s7.heap ∧ (∀ b ∈ fp, H' b = none) ∧ W i m σ' H' := fun {σ7 H7} I7 n7 => by
      obtain ⟨m', hm, w7⟩ := hN σ7 H7 n7
      refine ⟨m', hm, i + 1, σ7, H7, I7.unpinned, T.keep _ _ _ st5 fun b hb o e => (I7.pin (b, o) (List.mem_append_right _ (List.mem_append_right _ (mem_pinsAt hb e)))).1, fun b hb => ?_, w7⟩
      obtain ⟨o, e, d⟩ := T.obj _ _ st5 b hb
      exact (I7.pin (b, o) (List.mem_append_right _ (List.mem_append_right _ (mem_pinsAt hb e)))).2.1
    cases f with
    | next => obtain ⟨σ7, H7, I7, n7⟩ := q7; exact again I7 n7
    | cont => obtain ⟨σ7, H7, I7, n7⟩ := q7; exact again I7 n7
    | brk => obtain ⟨σ7, H7, I7, q7⟩ := q7; exact ⟨σ7, H7, I7.unpinned, q7⟩
    | ret v => obtain ⟨x7, σ7, H7, I7, r7, q7⟩ := q7; exact ⟨x7, σ7, H7, I7.unpinned, r7, q7⟩
end

/-! ### the forms one uses -/
/-- over a list that the body leaves as it is -/
theorem for_list {K : PySem.W.Frag} {a : Addr} {xs : List V} {g : TG} {tb : TS} {D : Ends} {σ : St} {H : Hp} (Pv : Nat → St → Hp → Prop) (h0 : Pv 0 σ H) (hl : ∀ i σ H, i ≤ xs.length → Pv i σ H → SqL K H a xs)
    (hs : ∀ i x σ H, xs[i]? = some x → Pv i σ H → g x σ H fun σ2 H2 => tb { D with nx := Pv (i + 1), ct := Pv (i + 1), bk := D.nx } σ2 H2) (hd : ∀ σ H, Pv xs.length σ H → D.nx σ H) :
    ∃ W : Nat → Nat → St → Hp → Prop, (∃ m, W 0 m σ H) ∧ ∀ i m σ H, W i m σ H →
      ((Itl K a).stop i H ∧ D.nx σ H) ∨ ((Itl K a).go i H ∧ ∃ N : St → Hp → Prop, (∀ σ' H', N σ' H' → ∃ m', m' < m ∧ W (i + 1) m' σ' H') ∧ ∀ x H', (Itl K a).yld i H x H' → g x σ H' fun σ2 H2 => tb { D with nx := N, ct := N, bk := D.nx } σ2 H2) := by
  refine ⟨fun i m σ H => m = xs.length - i ∧ i ≤ xs.length ∧ Pv i σ H, ⟨xs.length, by simp, Nat.zero_le _, h0⟩, ?_⟩
  rintro i m σ H ⟨rfl, hi, p⟩
  have q := hl i σ H hi p
  by_cases hlt : i < xs.length
  · refine .inr ⟨⟨xs, xs[i], q, by simp [hlt]⟩, Pv (i + 1), fun σ' H' p' => ⟨xs.length - (i + 1), by omega, rfl, hlt, p'⟩, fun x H' y => ?_⟩
    obtain ⟨e, y⟩ := y
    subst e
    exact hs i x σ _ (y xs q) p
  · have e : i = xs.length := by omega
    subst e
    exact .inl ⟨⟨xs, q, Nat.le_refl _⟩, hd σ H p⟩
theorem for_tup {K : PySem.W.Frag} {a : Addr} {xs : List V} {g : TG} {tb : TS} {D : Ends} {σ : St} {H : Hp} (Pv : Nat → St → Hp → Prop) (h0 : Pv 0 σ H) (hl : ∀ i σ H, i ≤ xs.length → Pv i σ H → SqT K H a xs)
    (hs : ∀ i x σ H, xs[i]? = some x → Pv i σ H → g x σ H fun σ2 H2 => tb { D with nx := Pv (i + 1), ct := Pv (i + 1), bk := D.nx } σ2 H2) (hd : ∀ σ H, Pv xs.length σ H → D.nx σ H) :
    ∃ W : Nat → Nat → St → Hp → Prop, (∃ m, W 0 m σ H) ∧ ∀ i m σ H, W i m σ H →
      ((Itt K a).stop i H ∧ D.nx σ H) ∨ ((Itt K a).go i H ∧ ∃ N : St → Hp → Prop, (∀ σ' H', N σ' H' → ∃ m', m' < m ∧ W (i + 1) m' σ' H') ∧ ∀ x H', (Itt K a).yld i H x H' → g x σ H' fun σ2 H2 => tb { D with nx := N, ct := N, bk := D.nx } σ2 H2) := by
  refine ⟨fun i m σ H => m = xs.length - i ∧ i ≤ xs.length ∧ Pv i σ H, ⟨xs.length, by simp, Nat.zero_le _, h0⟩, ?_⟩
  rintro i m σ H ⟨rfl, hi, p⟩
  have q := hl i σ H hi p
  by_cases hlt : i < xs.length
  · refine .inr ⟨⟨xs, xs[i], q, by simp [hlt]⟩, Pv (i + 1), fun σ' H' p' => ⟨xs.length - (i + 1), by omega, rfl, hlt, p'⟩, fun x H' y => ?_⟩
    obtain ⟨e, y⟩ := y
    subst e
    exact hs i x σ _ (y xs q) p
  · have e : i = xs.length := by omega
    subst e
    exact .inl ⟨⟨xs, q, Nat.le_refl _⟩, hd σ H p⟩
/-- while, by a word and a measure of the state -/
theorem while_by {c : TT} {tb : TS} {D : Ends} {σ : St} {H : Hp} (Pv : St → Hp → Prop) (μ : St → Hp → Nat) (h0 : Pv σ H)
    (hs : ∀ σ H, Pv σ H → c σ H fun b H1 => if b = true then tb { D with nx := fun σ' H' => Pv σ' H' ∧ μ σ' H' < μ σ H, ct := fun σ' H' => Pv σ' H' ∧ μ σ' H' < μ σ H, bk := D.nx } σ H1 else D.nx σ H1)
    (mono : ∀ σ H Q Q', (∀ b H1, Q b H1 → Q' b H1) → c σ H Q → c σ H Q') : tWhile c tb D σ H := by
  refine ⟨fun m σ H => m = μ σ H ∧ Pv σ H, ⟨_, rfl, h0⟩, ?_⟩
  rintro m σ H ⟨rfl, p⟩
  refine mono σ H _ _ (fun b H1 q => ?_) (hs σ H p)
  cases b with
  | true => exact ⟨_, fun σ' H' ⟨p', l⟩ => ⟨_, l, rfl, p'⟩, q⟩
  | false => exact q
end L2

namespace L2
open PySem PySem.Spec PyProof.Rows

abbrev R2 := V → V → Hp → VK → Prop
/-- a two-place operation on values: f is binaryOp op, inplaceOp op or compareOp op -/
def OpR (X : Cx) (f : Value → Value → Sem Value) (r : R2) : Prop :=
  ∀ (pins : List (Addr × Obj)) (s : Shared) (σ : St) (H : Hp) (x y : V) (v u : Value) (Q : VK), Inv X pins σ H s → RelV x v → RelV y u → r x y H Q →
    wpAny (model X.prog X.w) X.A (f v u) (EP X pins σ Q) X.xe s
/-- a call of a value that is known (a builtin, a type) with values -/
def CallR (X : Cx) (f : Value) (r : List V → Hp → VK → Prop) : Prop :=
  ∀ (pins : List (Addr × Obj)) (s : Shared) (σ : St) (H : Hp) (xs : List V) (us : List Value) (Q : VK), Inv X pins σ H s → Vals xs us → r xs H Q →
    wpAny (model X.prog X.w) X.A (call f us) (EP X pins σ Q) X.xe s
/-- a value's truth -/
def TruR (X : Cx) (r : V → Hp → (Bool → Hp → Prop) → Prop) : Prop :=
  ∀ (pins : List (Addr × Obj)) (s : Shared) (σ : St) (H : Hp) (x : V) (v : Value) (Q : Bool → Hp → Prop), Inv X pins σ H s → RelV x v → r x H Q →
    wpAny (model X.prog X.w) X.A (truthy v) (TP X pins σ Q) X.xe s

def tOp (r : R2) (ta tb : TE) : TE := fun σ H Q => ta σ H fun x H1 => tb σ H1 fun y H2 => r x y H2 Q
def tUn (r : V → Hp → VK → Prop) (ta : TE) : TE := fun σ H Q => ta σ H fun x H1 => r x H1 Q
/-- ints in, under C, and a value out -/
def rI (C : Int → Int → Prop) (g : Int → Int → V) : R2 := fun x y H Q => ∃ i j, x = .int i ∧ y = .int j ∧ C i j ∧ Q (g i j) H
def rI0 (g : Int → Int → V) : R2 := fun x y H Q => ∃ i j, x = .int i ∧ y = .int j ∧ Q (g i j) H
def rU (g : Int → V) : V → Hp → VK → Prop := fun x H Q => ∃ i, x = .int i ∧ Q (g i) H

section
variable {X : Cx} {a b c : Expr} {ta tb tc : TE} {pos : Pos}

theorem binT (ha : PE X a ta) (hb : PE X b tb) {pins : List (Addr × Obj)} {s : Shared} {σ : St} {H : Hp} {R : V → V → Hp → Prop} (I : Inv X pins σ H s)
    (h : ta σ H fun x H1 => tb σ H1 fun y H2 => R x y H2) {Q : Value → Shared → Prop} {f : Value → Value → Sem Value}
    (hf : ∀ v u s2 x y H2, Inv X pins σ H2 s2 → RelV x v → RelV y u → R x y H2 → wpAny (model X.prog X.w) X.A (f v u) Q X.xe s2) :
    wpAny (model X.prog X.w) X.A (eval a X.env) (fun v s₁ => wpAny (model X.prog X.w) X.A (eval b X.env) (fun u s₂ => wpAny (model X.prog X.w) X.A (f v u) Q X.xe s₂) X.xe s₁) X.xe s := by
  refine thn (ha pins s σ H _ I h) fun v s1 ⟨x, H1, I1, r1, q1⟩ => ?_
  refine thn (hb pins s1 σ H1 _ I1 q1) fun u s2 ⟨y, H2, I2, r2, q2⟩ => ?_
  exact hf v u s2 x y H2 I2 r1 r2 q2

theorem pe_op {op : Operator} {r : R2} (ho : OpR X (binaryOp op) r) (ha : PE X a ta) (hb : PE X b tb) : PE X (.BinOp a op b pos) (tOp r ta tb) := by
  intro pins s σ H Q I h
  exact wpAny_BinOp (binT ha hb I h fun v u s2 x y H2 I2 rx ry q => ho pins s2 σ H2 x y v u Q I2 rx ry q)
/-! ### ints -/
theorem opI {f : Value → Value → Sem Value} {C : Int → Int → Prop} {g : Int → Int → Int}
    (rule : ∀ (i j : Int) (t u : Tok) (s : Shared) (Q : Value → Shared → Prop) (E : Value → Shared → Prop), C i j → Q (.int (g i j) s.toks) { s with toks := s.toks + 1 } → wpAny (model X.prog X.w) X.A (f (.int i t) (.int j u)) Q E s) :
    OpR X f (rI C fun i j => .int (g i j)) := by
  intro pins s σ H x y v u Q I rx ry h
  obtain ⟨i, j, rfl, rfl, hc, q⟩ := h
  obtain ⟨t, rfl⟩ := rx
  obtain ⟨t', rfl⟩ := ry
  exact rule i j t t' s _ _ hc ⟨.int (g i j), H, I.tok _, ⟨_, rfl⟩, q⟩
theorem opI0 {f : Value → Value → Sem Value} {g : Int → Int → Int}
    (rule : ∀ (i j : Int) (t u : Tok) (s : Shared) (Q : Value → Shared → Prop) (E : Value → Shared → Prop), Q (.int (g i j) s.toks) { s with toks := s.toks + 1 } → wpAny (model X.prog X.w) X.A (f (.int i t) (.int j u)) Q E s) :
    OpR X f (rI0 fun i j => .int (g i j)) := by
  intro pins s σ H x y v u Q I rx ry h
  obtain ⟨i, j, rfl, rfl, q⟩ := h
  obtain ⟨t, rfl⟩ := rx
  obtain ⟨t', rfl⟩ := ry
  exact rule i j t t' s _ _ ⟨.int (g i j), H, I.tok _, ⟨_, rfl⟩, q⟩
theorem opB0 {f : Value → Value → Sem Value} {g : Int → Int → Bool}
    (rule : ∀ (i j : Int) (t u : Tok) (s : Shared) (Q : Value → Shared → Prop) (E : Value → Shared → Prop), Q (.bool (g i j)) s → wpAny (model X.prog X.w) X.A (f (.int i t) (.int j u)) Q E s) :
    OpR X f (rI0 fun i j => .bl (g i j)) := by
  intro pins s σ H x y v u Q I rx ry h
  obtain ⟨i, j, rfl, rfl, q⟩ := h
  obtain ⟨t, rfl⟩ := rx
  obtain ⟨t', rfl⟩ := ry
  exact rule i j t t' s _ _ ⟨.bl (g i j), H, I, rfl, q⟩

def CDiv (i j : Int) : Prop := 0 < j ∧ j < 1073741824
def CPow (i j : Int) : Prop := 0 ≤ j ∧ j ≤ 1000000 ∧ i.natAbs < 2 ^ 64
def CMul (i j : Int) : Prop := (-(2 ^ 64) < i ∧ i < 2 ^ 64) ∨ (-(2 ^ 64) < j ∧ j < 2 ^ 64)
theorem CMul.ok {i j : Int} (h : CMul i j) : IntMulOk i j := by
  rcases h with ⟨h1, h2⟩ | ⟨h1, h2⟩
  · exact .of_left (intBits_le_64 h1 h2)
  · exact .of_right (intBits_le_64 h1 h2)
theorem two_pow_nn (k : Nat) : (0 : Int) ≤ 2 ^ k := by
  rw [two_pow_cast]
  exact Int.natCast_nonneg _

theorem op_add : OpR X (binaryOp .Add) (rI0 fun i j => .int (i + j)) := opI0 fun _ _ _ _ _ _ _ q => add_int q
theorem op_sub : OpR X (binaryOp .Sub) (rI0 fun i j => .int (i - j)) := opI0 fun _ _ _ _ _ _ _ q => sub_int q
theorem op_mul : OpR X (binaryOp .Mult) (rI CMul fun i j => .int (i * j)) := opI fun _ _ _ _ _ _ _ hc q => mul_int q hc.ok
/-- // by a positive divisor -/
theorem op_fdiv : OpR X (binaryOp .FloorDiv) (rI CDiv fun i j => .int (i / j)) := opI fun i j _ _ _ _ _ hc q => by
  have h1 : (0 : Int) < j := hc.1
  have h2 : j < 1073741824 := hc.2
  exact floordiv_int (by omega) (by rw [Int.fdiv_eq_ediv_of_nonneg i (by omega)]; exact q) (.inl (PyProof.noPylong_small (by omega)))
/-- % by a positive divisor of any size -/
theorem op_mod : OpR X (binaryOp .Mod) (rI (fun _ j => 0 < j) fun i j => .int (i % j)) := opI fun i j _ _ _ _ _ hc q => by
  have h1 : (0 : Int) < j := hc
  exact mod_int' (by omega) (by rw [Int.fmod_eq_emod_of_nonneg i (by omega)]; exact q)
theorem op_shl : OpR X (binaryOp .LShift) (rI CPow fun i j => .int (i * 2 ^ j.toNat)) := opI fun _ _ _ _ _ _ _ hc q => lshift_int_small hc.1 hc.2.1 hc.2.2 q
theorem op_shr : OpR X (binaryOp .RShift) (rI (fun _ j => 0 ≤ j) fun i j => .int (i / 2 ^ j.toNat)) := opI fun i j _ _ _ _ _ hc q =>
  rshift_int hc (by rw [Int.fdiv_eq_ediv_of_nonneg i (two_pow_nn _)]; exact q)
/-! ### bools among ints: n += (a < b) -/
end

/-! ### comparisons -/
/-- the scalars that == tells apart as data does -/
def scal : V → V → Bool
  | .non, .non => true | .non, .int _ => true | .int _, .non => true | .non, .bl _ => true | .bl _, .non => true | .non, .str _ => true | .str _, .non => true
  | .int _, .int _ => true | .bl _, .bl _ => true | .str _, .str _ => true | .byt _, .byt _ => true
  | .int _, .str _ => true | .str _, .int _ => true | .bl _, .str _ => true | .str _, .bl _ => true
  | _, _ => false
def rEq : R2 := fun x y H Q => scal x y = true ∧ Q (.bl (decide (x = y))) H
def rNe : R2 := fun x y H Q => scal x y = true ∧ Q (.bl (!decide (x = y))) H

theorem dec_int {i j : Int} : decide (V.int i = V.int j) = (i == j) := by
  rw [Bool.eq_iff_iff]
  simp
theorem dec_bl {i j : Bool} : decide (V.bl i = V.bl j) = (i == j) := by
  rw [Bool.eq_iff_iff]
  simp
theorem dec_str {i j : Str} : decide (V.str i = V.str j) = (i == j) := by
  rw [Bool.eq_iff_iff]
  simp
theorem dec_byt {i j : Array UInt8} : decide (V.byt i = V.byt j) = (i.toList == j.toList) := by
  rw [Bool.eq_iff_iff]
  cases i
  cases j
  simp

section
variable {X : Cx} {a b c : Expr} {ta tb tc : TE} {pos : Pos}
theorem fin_bl {pins : List (Addr × Obj)} {σ : St} {H : Hp} {s : Shared} {Q : VK} {k k' : Bool} (I : Inv X pins σ H s) (q : Q (.bl k) H) (e : k = k') : EP X pins σ Q (.bool k') s := by
  subst e
  exact ⟨.bl k, H, I, rfl, q⟩
theorem op_eq : OpR X (compareOp .Eq) rEq := by
  intro pins s σ H x y v u Q I rx ry h
  obtain ⟨hs, q⟩ := h
  cases x with
  | non =>
    cases rx
    cases y with
    | non => cases ry; exact PySem.EqNone.eq_none_none (fin_bl I q (by simp))
    | bl j => cases ry; exact PySem.EqNone.eq_none_bool (fin_bl I q (by simp))
    | int j => obtain ⟨t', rfl⟩ := ry; exact PySem.EqNone.eq_none_int (fin_bl I q (by simp))
    | str j => obtain ⟨t', rfl⟩ := ry; exact PySem.EqNone.eq_none_str (fin_bl I q (by simp))
    | _ => exact absurd (show false = true from hs) Bool.false_ne_true
  | bl i =>
    cases rx
    cases y with
    | non => cases ry; exact PySem.EqNone.eq_bool_none (fin_bl I q (by simp))
    | bl j => cases ry; exact eq_bool (fin_bl I q dec_bl)
    | str j => obtain ⟨t', rfl⟩ := ry; exact PySem.EqMixed.eq_bool_str (fin_bl I q (by simp))
    | _ => exact absurd (show false = true from hs) Bool.false_ne_true
  | int i =>
    obtain ⟨t, rfl⟩ := rx
    cases y with
    | non => cases ry; exact PySem.EqNone.eq_int_none (fin_bl I q (by simp))
    | int j => obtain ⟨t', rfl⟩ := ry; exact eq_int (fin_bl I q dec_int)
    | str j => obtain ⟨t', rfl⟩ := ry; exact PySem.EqMixed.eq_int_str (fin_bl I q (by simp))
    | _ => exact absurd (show false = true from hs) Bool.false_ne_true
  | str i =>
    obtain ⟨t, rfl⟩ := rx
    cases y with
    | non => cases ry; exact PySem.EqNone.eq_str_none (fin_bl I q (by simp))
    | bl j => cases ry; exact PySem.EqMixed.eq_str_bool (fin_bl I q (by simp))
    | int j => obtain ⟨t', rfl⟩ := ry; exact PySem.EqMixed.eq_str_int (fin_bl I q (by simp))
    | str j => obtain ⟨t', rfl⟩ := ry; exact eq_str (fin_bl I q dec_str)
    | _ => exact absurd (show false = true from hs) Bool.false_ne_true
  | byt i =>
    obtain ⟨t, rfl⟩ := rx
    cases y with
    | byt j => obtain ⟨t', rfl⟩ := ry; exact PySem.W.eq_bytes (fin_bl I q dec_byt)
    | _ => exact absurd (show false = true from hs) Bool.false_ne_true
  | _ => cases y <;> exact absurd (show false = true from hs) Bool.false_ne_true
theorem op_ne : OpR X (compareOp .NotEq) rNe := by
  intro pins s σ H x y v u Q I rx ry h
  obtain ⟨hs, q⟩ := h
  cases x with
  | non =>
    cases rx
    cases y with
    | non => cases ry; exact PySem.EqNone.ne_none_none (fin_bl I q (by simp))
    | bl j => cases ry; exact PySem.EqNone.ne_none_bool (fin_bl I q (by simp))
    | int j => obtain ⟨t', rfl⟩ := ry; exact PySem.EqNone.ne_none_int (fin_bl I q (by simp))
    | str j => obtain ⟨t', rfl⟩ := ry; exact PySem.EqNone.ne_none_str (fin_bl I q (by simp))
    | _ => exact absurd (show false = true from hs) Bool.false_ne_true
  | bl i =>
    cases rx
    cases y with
    | non => cases ry; exact PySem.EqNone.ne_bool_none (fin_bl I q (by simp))
    | bl j => cases ry; exact ne_bool (fin_bl I q (congrArg not dec_bl))
    | str j => obtain ⟨t', rfl⟩ := ry; exact PySem.EqMixed.ne_bool_str (fin_bl I q (by simp))
    | _ => exact absurd (show false = true from hs) Bool.false_ne_true
  | int i =>
    obtain ⟨t, rfl⟩ := rx
    cases y with
    | non => cases ry; exact PySem.EqNone.ne_int_none (fin_bl I q (by simp))
    | int j => obtain ⟨t', rfl⟩ := ry; exact ne_int (fin_bl I q (congrArg not dec_int))
    | str j => obtain ⟨t', rfl⟩ := ry; exact PySem.EqMixed.ne_int_str (fin_bl I q (by simp))
    | _ => exact absurd (show false = true from hs) Bool.false_ne_true
  | str i =>
    obtain ⟨t, rfl⟩ := rx
    cases y with
    | non => cases ry; exact PySem.EqNone.ne_str_none (fin_bl I q (by simp))
    | bl j => cases ry; exact PySem.EqMixed.ne_str_bool (fin_bl I q (by simp))
    | int j => obtain ⟨t', rfl⟩ := ry; exact PySem.EqMixed.ne_str_int (fin_bl I q (by simp))
    | str j => obtain ⟨t', rfl⟩ := ry; exact ne_str (fin_bl I q (congrArg not dec_str))
    | _ => exact absurd (show false = true from hs) Bool.false_ne_true
  | byt i =>
    obtain ⟨t, rfl⟩ := rx
    cases y with
    | byt j => obtain ⟨t', rfl⟩ := ry; exact PySem.W.ne_bytes (fin_bl I q (congrArg not dec_byt))
    | _ => exact absurd (show false = true from hs) Bool.false_ne_true
  | _ => cases y <;> exact absurd (show false = true from hs) Bool.false_ne_true

theorem op_lt : OpR X (compareOp .Lt) (rI0 fun i j => .bl (decide (i < j))) := opB0 fun _ _ _ _ _ _ _ q => lt_int q
theorem op_le : OpR X (compareOp .LtE) (rI0 fun i j => .bl (decide (i ≤ j))) := opB0 fun _ _ _ _ _ _ _ q => le_int q
theorem op_gt : OpR X (compareOp .Gt) (rI0 fun i j => .bl (decide (j < i))) := opB0 fun _ _ _ _ _ _ _ q => gt_int q
theorem op_ge : OpR X (compareOp .GtE) (rI0 fun i j => .bl (decide (j ≤ i))) := opB0 fun _ _ _ _ _ _ _ q => ge_int q
theorem op_notN : OpR X (compareOp .IsNot) (fun x y H Q => y = .non ∧ Q (.bl (!decide (x = .non))) H) := by
  intro pins s σ H x y v u Q I rx ry h
  obtain ⟨rfl, q⟩ := h
  cases ry
  refine isnot_none_gen (fin_bl I q ?_)
  cases x <;> first
    | (cases rx; rfl)
    | (obtain ⟨t, rfl⟩ := rx; rfl)

/-- two rules for one operation: by cases -/
theorem OpR.or {f : Value → Value → Sem Value} {r r' : R2} (h : OpR X f r) (h' : OpR X f r') : OpR X f (fun x y H Q => r x y H Q ∨ r' x y H Q) := by
  intro pins s σ H x y v u Q I rx ry q
  rcases q with q | q
  · exact h pins s σ H x y v u Q I rx ry q
  · exact h' pins s σ H x y v u Q I rx ry q

theorem nomark (b : Expr) {op : CmpOp} (h : op ≠ .In := by decide) (h2 : op ≠ .NotIn := by decide) : behindInMarks op b = false := by
  have e1 : (op == CmpOp.In) = false := by cases op <;> first | rfl | exact absurd rfl h
  have e2 : (op == CmpOp.NotIn) = false := by cases op <;> first | rfl | exact absurd rfl h2
  cases b <;> simp [behindInMarks, e1, e2]
/-- a comparison as a value; hm: nomark b, or (for in, not in) by with_unfolding_all rfl -/
theorem pe_cmpR {op : CmpOp} {r : R2} (ho : OpR X (compareOp op) r) (ha : PE X a ta) (hb : PE X b tb) (hm : behindInMarks op b = false) : PE X (.Compare a [op] [b] pos) (tOp r ta tb) := by
  intro pins s σ H Q I h
  exact wpAny_Compare1 (binT ha hb I h fun v u s2 x y H2 I2 rx ry q => ho pins s2 σ H2 x y v u Q I2 rx ry q) hm
/-- a reading of a value as a test -/
def tTest (t : TE) : TT := fun σ H Q => t σ H fun x H' => ∃ k, x = .bl k ∧ Q k H'
theorem pt_cmpR {op : CmpOp} {r : R2} (ho : OpR X (compareOp op) r) (ha : PE X a ta) (hb : PE X b tb) (hm : behindInMarks op b = false) : PT X (.Compare a [op] [b] pos) (tTest (tOp r ta tb)) := by
  intro pins s σ H Q I h
  refine wpAny_isTrue_Compare1 (thn (ha pins s σ H _ I h) fun v s1 ⟨x, H1, I1, r1, q1⟩ => thn (hb pins s1 σ H1 _ I1 q1) fun u s2 ⟨y, H2, I2, r2, q2⟩ =>
    thn (ho pins s2 σ H2 x y v u _ I2 r1 r2 q2) fun c s3 ⟨z, H3, I3, r3, k, e, q3⟩ => ?_) hm
  subst e
  cases r3
  exact wpAny_truthy_bool ⟨H3, I3, q3⟩
/-- a op1 b op2 c -/
def tChain (r r' : R2) (ta tb tc : TE) : TE := fun σ H Q => ta σ H fun x H1 => tb σ H1 fun y H2 => r x y H2 fun z H3 => ∃ k, z = .bl k ∧
  (if k = true then tc σ H3 fun w' H4 => r' y w' H4 Q else Q (.bl false) H3)
theorem pe_chain {op op' : CmpOp} {r r' : R2} (ho : OpR X (compareOp op) r) (ho' : OpR X (compareOp op') r') (ha : PE X a ta) (hb : PE X b tb) (hc : PE X c tc)
    (hm : lastMarks [op, op'] [b, c] = false := by with_unfolding_all rfl) : PE X (.Compare a [op, op'] [b, c] pos) (tChain r r' ta tb tc) := by
  intro pins s σ H Q I h
  refine Compare_chain (thn (ha pins s σ H _ I h) fun v s1 ⟨x, H1, I1, r1, q1⟩ => chain_link (thn (hb pins s1 σ H1 _ I1 q1) fun u s2 ⟨y, H2, I2, r2, q2⟩ =>
    thn (ho pins s2 σ H2 x y v u _ I2 r1 r2 q2) fun d s3 ⟨z, H3, I3, r3, k, e, q3⟩ => ?_)) hm
  subst e
  cases r3
  refine wpAny_truthy_bool ?_
  cases k with
  | false => exact ite_ff ⟨.bl false, H3, I3, rfl, q3⟩
  | true => exact ite_tt (chain_last (thn (hc pins s3 σ H3 _ I3 q3) fun w' s4 ⟨z', H4, I4, r4, q4⟩ => ho' pins s4 σ H4 y z' u w' Q I4 r2 r4 q4))
theorem pt_chain {op op' : CmpOp} {r r' : R2} (ho : OpR X (compareOp op) r) (ho' : OpR X (compareOp op') r') (ha : PE X a ta) (hb : PE X b tb) (hc : PE X c tc)
    (hm : lastMarks [op, op'] [b, c] = false := by with_unfolding_all rfl) : PT X (.Compare a [op, op'] [b, c] pos) (tTest (tChain r r' ta tb tc)) := by
  intro pins s σ H Q I h
  refine isTrue_chain (thn (ha pins s σ H _ I h) fun v s1 ⟨x, H1, I1, r1, q1⟩ => test_link (thn (hb pins s1 σ H1 _ I1 q1) fun u s2 ⟨y, H2, I2, r2, q2⟩ =>
    thn (ho pins s2 σ H2 x y v u _ I2 r1 r2 q2) fun d s3 ⟨z, H3, I3, r3, k, e, q3⟩ => ?_)) hm
  subst e
  cases r3
  refine wpAny_truthy_bool ?_
  cases k with
  | false =>
    obtain ⟨k', e', q'⟩ := q3
    cases e'
    exact ite_ff ⟨H3, I3, q'⟩
  | true =>
    refine ite_tt (test_last (thn (hc pins s3 σ H3 _ I3 q3) fun w' s4 ⟨z', H4, I4, r4, q4⟩ => thn (ho' pins s4 σ H4 y z' u w' _ I4 r2 r4 q4) fun d' s5 ⟨z2, H5, I5, r5, k2, e2, q5⟩ => ?_))
    subst e2
    cases r5
    exact wpAny_truthy_bool ⟨H5, I5, q5⟩

/-! ### truth -/
/-- a value's truth by the abstract heap -/
def TruV (K : PySem.W.Frag) (x : V) (H : Hp) (k : Bool) : Prop :=
  match x with
  | .non => k = false
  | .bl b => k = b
  | .int i => k = (i != 0)
  | .str y => y.length ≤ sizeLine ∧ k = ((y.length : Int) != 0)
  | .byt y => y.size ≤ sizeLine ∧ k = ((y.size : Int) != 0)
  | .ref p => (∃ xs, SqL K H p xs ∧ k = !xs.isEmpty) ∨ (∃ xs, SqT K H p xs ∧ k = !xs.isEmpty) ∨ ∃ kvs, H p = some (.dK kvs) ∧ k = !kvs.isEmpty
  | _ => False
theorem isEmpty_kv {κ : Type} {kvs : List (κ × V)} {vs : List (κ × Value)} (r : KV kvs vs) : (!vs.isEmpty) = !kvs.isEmpty := by
  cases r <;> rfl
theorem isEmpty_of {xs : List V} {its : List Value} (r : Vals xs its) : (!its.toArray.isEmpty) = !xs.isEmpty := by
  cases r <;> simp
theorem line63 : (sizeLine : Nat) < 2 ^ 63 := by rw [sizeLine_eq]; decide
theorem tru_ok : TruR X (fun x H Q => ∃ k, TruV X.K x H k ∧ Q k H) := by
  intro pins s σ H x v Q I rx h
  obtain ⟨k, e, q⟩ := h
  have hl := line63
  have hs : sizeLine = 16777216 := sizeLine_eq
  cases x with
  | non =>
    cases rx
    have e' : k = false := e
    subst e'
    exact truthy_none ⟨H, I, q⟩
  | bl b =>
    cases rx
    have e' : k = b := e
    subst e'
    exact wpAny_truthy_bool ⟨H, I, q⟩
  | int i =>
    obtain ⟨t, rfl⟩ := rx
    have e' : k = (i != 0) := e
    subst e'
    exact PySem.P.truthy_int ⟨H, I, q⟩
  | str y =>
    obtain ⟨t, rfl⟩ := rx
    obtain ⟨hy, e'⟩ : y.length ≤ sizeLine ∧ k = ((y.length : Int) != 0) := e
    subst e'
    exact PySem.P.truthy_str (by omega) ⟨H, I.tok _, q⟩
  | byt y =>
    obtain ⟨t, rfl⟩ := rx
    obtain ⟨hy, e'⟩ : y.size ≤ sizeLine ∧ k = ((y.size : Int) != 0) := e
    subst e'
    exact PySem.W.truthy_bytes (by omega) ⟨H, I.tok _, q⟩
  | ref p =>
    cases rx
    have e' : (∃ xs, SqL X.K H p xs ∧ k = !xs.isEmpty) ∨ (∃ xs, SqT X.K H p xs ∧ k = !xs.isEmpty) ∨ ∃ kvs, H p = some (.dK kvs) ∧ k = !kvs.isEmpty := e
    rcases e' with ⟨xs, hx, e'⟩ | ⟨xs, hx, e'⟩ | ⟨kvs, hx, e'⟩
    · subst e'
      obtain ⟨its, r, pl, hz⟩ := I.list hx
      have hlen := r.length
      exact wpAny_truthy_list pl.isList (by simp only [List.size_toArray]; omega) ⟨H, I.tok _, by rw [isEmpty_of r]; exact q⟩
    · subst e'
      obtain ⟨its, r, pl, hz⟩ := I.tuple hx
      have hlen := r.length
      exact truthy_tuple pl (by simp only [List.size_toArray]; omega) ⟨H, I.tok _, by rw [isEmpty_of r]; exact q⟩
    · subst e'
      obtain ⟨hz, hS, vs, r, m⟩ : kvs.length ≤ sizeLine ∧ (p == sysModules) = false ∧ ∃ vs, KV kvs vs ∧ s.heap.DictOf (mixKind X.prog X.w) p vs := I.hok p _ hx
      have hlen : kvs.length = vs.length := Paired.length r
      exact wpAny_truthy_dict hS m (by omega) ⟨H, I.tok _, by rw [isEmpty_kv r]; exact q⟩
  | _ => exact (show False from e).elim
/-! ### strs and bytes -/
/-! ### scalar builtins, by CallR -/
theorem vals1 {x : V} {us : List Value} (r : Vals [x] us) : ∃ u, us = [u] ∧ RelV x u := by
  cases r with
  | cons r1 r2 => cases r2; exact ⟨_, rfl, r1⟩
theorem vals2 {x y : V} {us : List Value} (r : Vals [x, y] us) : ∃ u w', us = [u, w'] ∧ RelV x u ∧ RelV y w' := by
  cases r with
  | cons r1 r2 =>
    cases r2 with
    | cons r3 r4 => cases r4; exact ⟨_, _, rfl, r1, r3⟩
theorem call_max2 (hc : X.calm = true) : CallR X (.builtin "max") (fun xs H Q => ∃ i j, xs = [.int i, .int j] ∧ Q (.int (if j > i then j else i)) H) := by
  intro pins s σ H xs us Q I r h
  obtain ⟨i, j, rfl, q⟩ := h
  obtain ⟨u, w', rfl, ⟨t, rfl⟩, ⟨t', rfl⟩⟩ := vals2 r
  refine max_two_ints (I.ok.hd hc) fun h' tk k => ⟨_, H, I.kept k, ?_, q⟩
  by_cases hj : j > i
  · rw [if_pos hj, if_pos hj]; exact ⟨_, rfl⟩
  · rw [if_neg hj, if_neg hj]; exact ⟨_, rfl⟩
theorem call_min2 (hc : X.calm = true) : CallR X (.builtin "min") (fun xs H Q => ∃ i j, xs = [.int i, .int j] ∧ Q (.int (if j < i then j else i)) H) := by
  intro pins s σ H xs us Q I r h
  obtain ⟨i, j, rfl, q⟩ := h
  obtain ⟨u, w', rfl, ⟨t, rfl⟩, ⟨t', rfl⟩⟩ := vals2 r
  refine min_two_ints (I.ok.hd hc) fun h' tk k => ⟨_, H, I.kept k, ?_, q⟩
  by_cases hj : j < i
  · rw [if_pos hj, if_pos hj]; exact ⟨_, rfl⟩
  · rw [if_neg hj, if_neg hj]; exact ⟨_, rfl⟩
end
end L2

namespace L2
open PySem PySem.Spec PyProof.Rows

/-! ### an instance, its attributes a map -/
structure ObjM (h : Heap) (x dx C : Addr) (mA : Str → Option Value) : Prop where
  obj : h.get? x = some (PySem.W.instObj C dx)
  ns : h.Ns1 dx mA
  ne : dx ≠ x

theorem lookIn_ns {h : Heap} {dx : Addr} {mA : Str → Option Value} (n : h.Ns1 dx mA) : ∃ od, h.get? dx = some od ∧ ∀ name, PySem.W.lookIn name od = some (mA name) := by
  obtain ⟨o, es, ep, ho, hd, hk, _, hm⟩ := n
  refine ⟨o, ho, fun name => ?_⟩
  have e := hm name
  unfold nsFind findBy at e
  rw [← Array.find?_toList] at e
  unfold PySem.W.lookIn
  rw [hd]
  dsimp only
  split
  · rename_i y q
    rw [q] at e
    exact congrArg some e
  · rename_i q
    rw [q] at e
    have a : es.toList.any (·.refKey) = false := by
      rw [List.any_eq_false]
      intro y hy
      obtain ⟨z, t, hkey⟩ := hk y (Array.mem_toList_iff.mp hy)
      simp [DictEntry.refKey, hkey]
    have a' : ¬ es.toList.any (·.refKey) = true := by rw [a]; exact Bool.false_ne_true
    rw [if_neg a']
    exact congrArg some e

theorem ObjM.look {h : Heap} {x dx C : Addr} {mA : Str → Option Value} (I : ObjM h x dx C mA) : ∃ od, PySem.W.InstAt h x (PySem.W.instObj C dx) C (some od) ∧ ∀ name, PySem.W.lookIn name od = some (mA name) :=
  let ⟨od, ho, hl⟩ := lookIn_ns I.ns
  ⟨od, ⟨I.obj, rfl, rfl, ho⟩, hl⟩

section
variable {prog : Program} {w : World} {A : Around} {E : Value → Shared → Prop} {s : Shared} {K : PySem.W.Frag} {x dx C f : Addr} {mA : Str → Option Value} {name : Str} {v : Value}

theorem get_map {expr : Bool} {Q : Value → Shared → Prop} (X : K.In s.heap) (I : ObjM s.heap x dx C mA) (hg : PySem.W.plainGet K C name = true) (hh : PySem.W.hasDictIn K C = true)
    (ha : PySem.W.findIn K (.ref C) name = some none) (hv : mA name = some v) (hv' : PySem.W.handedIn v = true) (h : Q v { s with toks := s.toks + 1 }) :
    wpAny (model prog w) A (getAttr (.ref x) name expr) Q E s := by
  obtain ⟨od, J, hl⟩ := I.look
  exact PySem.W.get_value X J (PySem.W.plainGet_of hg).1 (PySem.W.findObj_own hh ha rfl (by rw [hl, hv])) hv' h

theorem set_map {ns : List Str} {Q : Unit → Shared → Prop} (X : K.In s.heap) (I : ObjM s.heap x dx C mA)
    (hs : PySem.W.findIn K (.ref C) "__setattr__" = some (some (.builtin "object.__setattr__"))) (hp : PySem.W.plainOver K C = true) (ht : PySem.W.takerIn K C name = some none) (hh : PySem.W.hasDictIn K C = true)
    (hw : PySem.Within mA ns) (hsz : ns.length ≤ sizeLine)
    (h : ∀ h', ObjM h' x dx C (fun y => if y = name then some v else mA y) → Heap.SameBut dx s.heap h' → Q () { s with heap := h', toks := s.toks + 2 }) :
    wpAny (model prog w) A (setAttr (.ref x) name v) Q E s := by
  obtain ⟨od, J, hl⟩ := I.look
  refine PySem.W.set_plain X J hs (PySem.W.osa_open (s := { s with toks := s.toks + 1 }) (r := none) X J hp ht fun b => ?_)
  obtain ⟨cd, hc, hd'⟩ := PySem.W.any_some hh
  have hx : s.heap.get? x = some ⟨.ref C, some dx, .plain, #[]⟩ := I.obj
  refine wpAny_bind (wpAny_pure (wpAny_bind (wpAny_bind (wpAny_loadPart hx (wpAny_bind (PySem.W.Looks.here (s := { s with toks := s.toks + 1 }) (PySem.W.looks_clsIn X hc) ?_))))))
  rw [hd']
  refine wpAny_pure (a := some dx) (wpAny_bind (wpAny_pure (wpAny_bind ?_)))
  refine wpAny_nsSet1 (s := { s with toks := s.toks + 1 }) I.ns fun h' hn2 hs2 => ?_
  obtain ⟨oD, esD, epD, hoD, hdD, hcD⟩ := hn2.count (PySem.Within.cons name v hw)
  refine wpAny_bind (wpAny_lookBehind hoD (by rw [hdD]; exact pastItsLine_dict (Nat.le_trans hcD (by rw [List.length_cons]; omega))) ?_)
  exact wpAny_pure (h _ ⟨(hs2.2 _ (Ne.symm I.ne)).trans I.obj, hn2, I.ne⟩ hs2)

/-- C(..): the dict at the heap's end, the instance behind it; then its __init__ -/
theorem make_map {R : Result → Shared → Prop} {vs : List Value} {kw : List (Str × Value)} (X : K.In s.heap) (hm : PySem.W.makesIn K C = true)
    (hi : PySem.W.findIn K (.ref C) "__init__" = some (some (.ref f))) (hf : PySem.W.typeIn K (.ref f) = some (.type "function"))
    (h : codeAny (model prog w) (A.under (.builtin "type.__call__" ⟨.ref C :: vs, kw⟩)) (.call (.ref f) ⟨.ref (s.heap.objs.size + 1) :: vs, kw⟩) (PySem.W.InitBack (s.heap.objs.size + 1) R)
      { s with heap := (s.heap.push PySem.W.emptyDict).push (PySem.W.instObj C s.heap.objs.size) }) :
    codeAny (model prog w) A (.call (.ref C) ⟨vs, kw⟩) R s := by
  obtain ⟨hh, g, d, t, os⟩ := s
  exact PySem.W.make_core (PySem.W.makes_of X hm) (PySem.W.looks_findIn X hi) (fun self => PySem.W.bind_fn X self hf) (.inl rfl) h
end

/-! ### the attributes as a list of pairs -/
def putF (f : Str) (v : V) : List (Str × V) → List (Str × V)
  | [] => [(f, v)]
  | (g, x) :: r => if g = f then (g, v) :: r else (g, x) :: putF f v r
theorem lookup_putF (f g : Str) (v : V) : ∀ fs : List (Str × V), (putF f v fs).lookup g = if g = f then some v else fs.lookup g
  | [] => by
    show List.lookup g [(f, v)] = _
    by_cases h : g = f
    · have hb : (g == f) = true := beq_iff_eq.mpr h
      simp only [List.lookup, hb, if_pos h]
    · have hb : (g == f) = false := beq_eq_false_iff_ne.mpr h
      simp only [List.lookup, hb, if_neg h]
  | (k, x) :: r => by
    have ih := lookup_putF f g v r
    rw [show putF f v ((k, x) :: r) = (if k = f then (k, v) :: r else (k, x) :: putF f v r) from rfl]
    by_cases hk : k = f
    · rw [if_pos hk]
      by_cases h : g = k
      · have hb : (g == k) = true := beq_iff_eq.mpr h
        simp only [List.lookup, hb, if_pos (h.trans hk)]
      · have hb : (g == k) = false := beq_eq_false_iff_ne.mpr h
        simp only [List.lookup, hb, if_neg (fun e : g = f => h (e.trans hk.symm))]
    · rw [if_neg hk]
      by_cases h : g = k
      · have hb : (g == k) = true := beq_iff_eq.mpr h
        simp only [List.lookup, hb, if_neg (fun e : g = f => hk (h.symm.trans e))]
      · have hb : (g == k) = false := beq_eq_false_iff_ne.mpr h
        simp only [List.lookup, hb]
        exact ih
theorem keys_putF (f : Str) (v : V) : ∀ fs : List (Str × V), f ∈ (putF f v fs).map (·.1) ∧ ∀ g, g ∈ fs.map (·.1) → g ∈ (putF f v fs).map (·.1)
  | [] => ⟨by simp [putF], fun g h => by simp at h⟩
  | (k, x) :: r => by
    obtain ⟨i1, i2⟩ := keys_putF f v r
    rw [show putF f v ((k, x) :: r) = (if k = f then (k, v) :: r else (k, x) :: putF f v r) from rfl]
    by_cases hk : k = f
    · rw [if_pos hk]
      subst hk
      exact ⟨by simp, fun g h => by simpa using h⟩
    · rw [if_neg hk]
      refine ⟨?_, fun g h => ?_⟩
      · rw [List.map_cons]
        exact List.mem_cons_of_mem _ i1
      · rw [List.map_cons] at h ⊢
        rcases List.mem_cons.mp h with e | e
        · exact List.mem_cons.mpr (.inl e)
        · exact List.mem_cons_of_mem _ (i2 g e)
theorem length_putF (f : Str) (v : V) : ∀ fs : List (Str × V), (putF f v fs).length ≤ fs.length + 1
  | [] => by simp [putF]
  | (k, x) :: r => by
    have ih := length_putF f v r
    rw [show putF f v ((k, x) :: r) = (if k = f then (k, v) :: r else (k, x) :: putF f v r) from rfl]
    by_cases hk : k = f
    · rw [if_pos hk, List.length_cons, List.length_cons]; omega
    · rw [if_neg hk, List.length_cons, List.length_cons]; omega

theorem RelO.some_of {v : V} {o : Option Value} (r : RelO (some v) o) : ∃ u, o = some u ∧ RelV v u := by
  cases o with
  | none => exact (show False from r).elim
  | some u => exact ⟨u, rfl, r⟩
theorem handed_of {v : V} {u : Value} (r : RelV v u) : PySem.W.handedIn u = true := by
  cases v with
  | non => cases (show u = Value.none from r); rfl
  | bl b => cases (show u = Value.bool b from r); rfl
  | int i => obtain ⟨t, e⟩ := (show ∃ t, u = Value.int i t from r); cases e; rfl
  | str x => obtain ⟨t, e⟩ := (show ∃ t, u = Value.str x t from r); cases e; rfl
  | byt b => obtain ⟨t, e⟩ := (show ∃ t, u = Value.bytes b t from r); cases e; rfl
  | flt b => obtain ⟨t, e⟩ := (show ∃ t, u = Value.float b t from r); cases e; rfl
  | ref a => cases (show u = Value.ref a from r); rfl
  | ty n => cases (show u = Value.type n from r); rfl

section
variable {P : Program} {w : World} {H H' : Hp} {h h' : Heap} {a C dx : Addr} {fs fs' : List (Str × V)}
theorem ins_get (hok : HOk P w H h) (e : H a = some (.ins C dx fs)) : ∃ mA, ObjM h a dx C mA ∧ (∀ f, RelO (fs.lookup f) (mA f)) ∧ PySem.Within mA (fs.map (·.1)) ∧ fs.length ≤ 1000 ∧ H dx = some (.own a) := by
  obtain ⟨d, z, ne, ob, mA, n, r, q⟩ := (show ObjOk P w H h a (.ins C dx fs) from hok a _ e)
  exact ⟨mA, ⟨ob, n, ne⟩, r, q, z, d⟩
end

/-! ### what of the text a class must have -/
structure Cls (K : PySem.W.Frag) (C : Addr) : Prop where
  pg : PySem.W.plainGet K C Str.empty = true
  hd : PySem.W.hasDictIn K C = true
  po : PySem.W.plainOver K C = true
  sa : PySem.W.findIn K (.ref C) "__setattr__" = some (some (.builtin "object.__setattr__"))
theorem Cls.get {K : PySem.W.Frag} {C : Addr} (c : Cls K C) (f : Str) : PySem.W.plainGet K C f = true := c.pg
/-- no class of it has the name -/
def NoAttr (K : PySem.W.Frag) (C : Addr) (f : Str) : Prop := PySem.W.findIn K (.ref C) f = some none
theorem NoAttr.taker {K : PySem.W.Frag} {C : Addr} {f : Str} (n : NoAttr K C f) : PySem.W.takerIn K C f = some none := by
  unfold PySem.W.takerIn
  rw [show PySem.W.findIn K (.ref C) f = some none from n]
  rfl
/-- a constant of the class -/
structure Con (K : PySem.W.Frag) (C : Addr) (f : Str) (v : V) (u : Value) : Prop where
  at_ : PySem.W.findIn K (.ref C) f = some (some u)
  rel : RelV v u
  get : PySem.W.specialIn K u "__get__" = some none
  cp : PySem.W.copiedNames.contains f = false
/-- a method: a plain def of the class or of one above it -/
structure Meth (K : PySem.W.Frag) (C : Addr) (m : Str) (f : Addr) : Prop where
  at_ : PySem.W.findIn K (.ref C) m = some (some (.ref f))
  fn : PySem.W.isFn K (.ref f) = true
  kp : PySem.W.keepIn K (.ref f) = true

section
variable {X : Cx} {pins : List (Addr × Obj)} {σ : St} {H : Hp} {s : Shared} {a C dx : Addr} {fs : List (Str × V)} {f : Str} {v : V} {A : Around} {E : Value → Shared → Prop}

theorem getattr_ok {b : Bool} {Q : Value → Shared → Prop} (I : Inv X pins σ H s) (e : H a = some (.ins C dx fs)) (c : Cls X.K C) (n : NoAttr X.K C f) (l : fs.lookup f = some v)
    (h : ∀ u s', Inv X pins σ H s' → RelV v u → Q u s') : wpAny (model X.prog X.w) A (getAttr (.ref a) f b) Q E s := by
  obtain ⟨mA, O, r, _, _, _⟩ := ins_get I.hok e
  obtain ⟨u, hu, ru⟩ := RelO.some_of (v := v) (o := mA f) (by rw [← l]; exact r f)
  exact get_map I.kIn O (c.get f) c.hd n hu (handed_of ru) (h u _ (I.tok _) ru)

theorem setattr_ok {y : V} {u : Value} {Q : Unit → Shared → Prop} (I : Inv X pins σ H s) (e : H a = some (.ins C dx fs)) (c : Cls X.K C) (n : NoAttr X.K C f) (hl : fs.length < 1000) (ry : RelV y u)
    (h : ∀ s', Inv X pins σ (upd H a (.ins C dx (putF f y fs))) s' → Q () s') : wpAny (model X.prog X.w) A (setAttr (.ref a) f u) Q E s := by
  obtain ⟨mA, O, r, wi, _, ho⟩ := ins_get I.hok e
  have hz : (fs.map (·.1)).length ≤ sizeLine := by rw [List.length_map, sizeLine_eq]; omega
  refine set_map I.kIn O c.sa c.po n.taker c.hd wi hz fun h' O' sb => h _ ?_
  have hd : ∃ o, h'.get? dx = some o := let ⟨o, _, _, e', _⟩ := O'.ns; ⟨o, e'⟩
  refine I.write (x := a) (e := dx) (by rw [e]; exact True.intro) (.inr ho) (fun b q hb z => (sb.2 b hb).trans z) hd ?_
  refine ⟨by rw [upd_ne O.ne]; exact ho, ?_, O.ne, O'.obj, _, O'.ns, fun g => ?_, fun g hg => ?_⟩
  · have := length_putF f y fs; omega
  · show RelO ((putF f y fs).lookup g) (if g = f then some u else mA g)
    rw [lookup_putF]
    by_cases q : g = f
    · rw [if_pos q, if_pos q]; exact ry
    · rw [if_neg q, if_neg q]; exact r g
  · by_cases q : g = f
    · rw [q]; exact (keys_putF f y fs).1
    · refine (keys_putF f y fs).2 g (wi g fun z => hg ?_)
      show (if g = f then some u else mA g) = none
      rw [if_neg q]; exact z

/-- a new instance, tracked, without attributes -/
theorem Inv.made (I : Inv X pins σ H s) : Inv X pins σ (upd (upd H s.heap.objs.size (.own (s.heap.objs.size + 1))) (s.heap.objs.size + 1) (.ins C s.heap.objs.size []))
    { s with heap := (s.heap.push PySem.W.emptyDict).push (PySem.W.instObj C s.heap.objs.size) } := by
  have e1 : (s.heap.push PySem.W.emptyDict).get? s.heap.objs.size = some PySem.W.emptyDict := Heap.get?_push_size s.heap rfl
  have e2 : ((s.heap.push PySem.W.emptyDict).push (PySem.W.instObj C s.heap.objs.size)).get? (s.heap.objs.size + 1) = some (PySem.W.instObj C s.heap.objs.size) := by
    have := Heap.get?_push_size (s.heap.push PySem.W.emptyDict) (o := PySem.W.instObj C s.heap.objs.size) rfl
    rwa [Heap.size_push] at this
  have e3 : (s.heap.push PySem.W.emptyDict).Ns s.heap.objs.size (fun _ => none) := ⟨PySem.W.emptyDict, #[], _, e1, rfl, (fun e he => absurd he (by simp)), fun _ => rfl⟩
  have I1 := I.laid (a := s.heap.objs.size) (o := .own (s.heap.objs.size + 1)) (h' := s.heap.push PySem.W.emptyDict) (t' := s.toks) (fun b u q => Heap.get?_push_of_some _ q) (Nat.le_refl _) ⟨_, e1⟩
  refine I1.laid (a := s.heap.objs.size + 1) (o := .ins C s.heap.objs.size []) (t' := s.toks) (fun b u q => Heap.get?_push_of_some _ q) (Nat.le_of_eq (Heap.size_push _ _)) ?_
  have ne : s.heap.objs.size ≠ s.heap.objs.size + 1 := Nat.ne_of_lt (Nat.lt_succ_self _)
  refine ⟨by rw [upd_ne ne, upd_same], Nat.zero_le _, ne, e2, fun _ => none, (Heap.Ns1.of_empty e3).at fun o q => Heap.get?_push_of_some _ q, fun _ => True.intro, fun y hy => absurd rfl hy⟩

/-- e.f where nothing but the object is asked: through attributeBase (super) and the last hold -/
theorem attr_of {prog : Program} {w : World} {env : Env} {e : Expr} {f : Str} {pos : Pos} {s : Shared} {Q : Value → Shared → Prop} (hb : attributeBase e f env (eval e env) = eval e env)
    (h : wpAny (model prog w) A (eval e env) (fun o s₁ => wpAny (model prog w) A (getAttr o f true) Q E s₁) E s) : wpAny (model prog w) A (eval (.Attribute e f pos) env) Q E s :=
  Attribute_any_ h (by rw [arm_eval_Attribute, hb])
end

/-! ### readings and rules -/
/-- e.f, an attribute of the instance -/
def tFld (K : PySem.W.Frag) (ta : TE) (f : Str) : TE := fun σ H Q => ta σ H fun x H1 => ∃ a C dx fs v, x = .ref a ∧ H1 a = some (.ins C dx fs) ∧ Cls K C ∧ NoAttr K C f ∧ fs.lookup f = some v ∧ Q v H1
/-- e.f = value -/
def sFld (K : PySem.W.Frag) (ta tv : TE) (f : Str) : TS := fun D σ H => tv σ H fun y H1 => ta σ H1 fun x H2 => ∃ a C dx fs, x = .ref a ∧ H2 a = some (.ins C dx fs) ∧ Cls K C ∧ NoAttr K C f ∧ fs.length < 1000 ∧
  D.nx σ (upd H2 a (.ins C dx (putF f y fs)))
section
variable {X : Cx} {o e value : Expr} {f : Str} {pos pos' tpos : Pos} {ta tv : TE}
theorem pe_fld (he : PE X e ta) (hb : attributeBase e f X.env (eval e X.env) = eval e X.env) : PE X (.Attribute e f pos) (tFld X.K ta f) := by
  intro pins s σ H Q I h
  refine attr_of hb (thn (he pins s σ H _ I h) fun u s1 ⟨x, H1, I1, rx, a, C, dx, fs, v, ex, ea, c, n, l, q⟩ => ?_)
  subst ex
  obtain rfl : u = Value.ref a := rx
  exact getattr_ok I1 ea c n l fun u' s2 I2 ru => ⟨v, H1, I2, ru, q⟩
theorem ps_fld (ha : PE X o ta) (hv : PE X value tv) (hs : swapsWith value (some (.Attribute o f pos')) pos.line X.env = pure false) : PS X (.Assign [.Attribute o f pos'] value pos) (sFld X.K ta tv f) := by
  intro pins s σ H D I h
  refine plainObj_wpAny_Assign_Attribute (thn (hv pins s σ H _ I h) fun u s1 ⟨y, H1, I1, ry, q⟩ => thn (ha pins s1 σ H1 _ I1 q) fun ov s2 ⟨x, H2, I2, rx, a, C, dx, fs, ex, ea, c, n, l, q2⟩ => ?_) hs
  subst ex
  obtain rfl : ov = Value.ref a := rx
  exact setattr_ok I2 ea c n l ry fun s3 I3 => ⟨σ, _, I3, q2⟩
end

/-! ### isinstance -/
section
variable {X : Cx} {pins : List (Addr × Obj)} {σ : St} {H : Hp} {s : Shared} {A : Around} {E : Value → Shared → Prop} {Q : Value → Shared → Prop} {c : Value} {b : Bool}
/-- the type of a value, as the fragment's deciders take it; for an instance its class -/
inductive TyOf (K : PySem.W.Frag) (H : Hp) : V → Value → Prop where
  | non : TyOf K H .non (.type "NoneType")
  | bl (x : Bool) : TyOf K H (.bl x) (.type "bool")
  | int (i : Int) : TyOf K H (.int i) (.type "int")
  | str (x : Str) : TyOf K H (.str x) (.type "str")
  | flt (x : UInt64) : TyOf K H (.flt x) (.type "float")
  | lst {a : Addr} {xs : List V} (e : H a = some (.lst xs)) : TyOf K H (.ref a) (.type "list")
  | frz {a : Addr} {o : Obj} {xs : List V} (e : H a = some (.frz o (.lst xs))) : TyOf K H (.ref a) (.type "list")
  | tup {a : Addr} {xs : List V} (e : H a = some (.tup xs)) : TyOf K H (.ref a) (.type "tuple")
  | dK {a : Addr} {kvs : List (Key × V)} (e : H a = some (.dK kvs)) : TyOf K H (.ref a) (.type "dict")
  | dT {a : Addr} {kvs : List (List Key × V)} (e : H a = some (.dT kvs)) : TyOf K H (.ref a) (.type "dict")
  | ins {a C dx : Addr} {fs : List (Str × V)} (e : H a = some (.ins C dx fs)) (cl : Cls K C) (ha : PySem.W.findIn K (.ref C) "__class__" = some (some (.builtin "object.__class__")))
      (hn : PySem.W.specialIn K (.builtin "object.__class__") "__get__" = some (some (.builtin "getset_descriptor.__get__"))) (htk : PySem.W.takesIn K (.builtin "object.__class__") = some true)
      (hm : PySem.W.mroIn K C (.type "object") = some true) : TyOf K H (.ref a) (.ref C)
/-- isinstance(x, c) for one class c, a built-in or an own one: kitOne's answer -/
theorem isinst_ok {x : V} {u t : Value} (I : Inv X pins σ H s) (rx : RelV x u) (ty : TyOf X.K H x t) (e : PySem.W.kitOne X.K t c = some b) (h : ∀ tk, Q (.bool b) { s with toks := tk }) :
    wpAny (model X.prog X.w) A (call (.builtin "isinstance") [u, c]) Q E s := by
  cases ty with
  | non => cases (show u = Value.none from rx); exact PySem.W.kia_one PySem.W.kitx_none I.kIn True.intro e (fun z => nomatch z) h
  | bl y => cases (show u = Value.bool y from rx); exact PySem.W.kia_one PySem.W.kitx_bool I.kIn True.intro e (fun z => nomatch z) h
  | int i => obtain ⟨t, q⟩ := (show ∃ t, u = Value.int i t from rx); cases q; exact PySem.W.kia_one PySem.W.kitx_int I.kIn True.intro e (fun z => nomatch z) h
  | str y => obtain ⟨t, q⟩ := (show ∃ t, u = Value.str y t from rx); cases q; exact PySem.W.kia_one PySem.W.kitx_str I.kIn True.intro e (fun z => nomatch z) h
  | flt y => obtain ⟨t, q⟩ := (show ∃ t, u = Value.float y t from rx); cases q; exact PySem.W.kia_one PySem.W.kitx_float I.kIn True.intro e (fun z => nomatch z) h
  | @lst a xs ea =>
    cases (show u = Value.ref a from rx)
    obtain ⟨_, _, n, _, h1⟩ := (show ObjOk X.prog X.w H s.heap a (.lst xs) from I.hok a _ ea)
    exact PySem.W.kia_one PySem.W.kitx_list I.kIn ⟨_, h1, rfl⟩ e (fun z => nomatch z) h
  | @frz a ob xs ea =>
    cases (show u = Value.ref a from rx)
    obtain ⟨_, _, _, n, _, h1⟩ := (show ObjOk X.prog X.w H s.heap a (.frz ob (.lst xs)) from I.hok a _ ea)
    exact PySem.W.kia_one PySem.W.kitx_list I.kIn ⟨_, h1, rfl⟩ e (fun z => nomatch z) h
  | @tup a xs ea =>
    cases (show u = Value.ref a from rx)
    obtain ⟨_, _, _, p⟩ := (show ObjOk X.prog X.w H s.heap a (.tup xs) from I.hok a _ ea)
    obtain ⟨o, h1, h2, _⟩ := p
    exact PySem.W.kia_one PySem.W.kitx_tuple I.kIn ⟨o, h1, h2⟩ e (fun z => nomatch z) h
  | @dK a kvs ea =>
    cases (show u = Value.ref a from rx)
    obtain ⟨_, _, vs, _, p⟩ := (show ObjOk X.prog X.w H s.heap a (.dK kvs) from I.hok a _ ea)
    obtain ⟨o, es, ep, h1, h2, _⟩ := p
    exact PySem.W.kia_one PySem.W.kitx_dict I.kIn ⟨o, h1, h2.1⟩ e (fun z => nomatch z) h
  | @dT a kvs ea =>
    cases (show u = Value.ref a from rx)
    obtain ⟨_, _, xs, _, o, es, ep, h1, h2, _⟩ := (show ObjOk X.prog X.w H s.heap a (.dT kvs) from I.hok a _ ea)
    exact PySem.W.kia_one PySem.W.kitx_dict I.kIn ⟨o, h1, h2.1⟩ e (fun z => nomatch z) h
  | @ins a C dx fs ea cl ha hn htk hm =>
    cases (show u = Value.ref a from rx)
    obtain ⟨mA, O, _⟩ := ins_get I.hok ea
    obtain ⟨od, J, _⟩ := O.look
    exact PySem.W.kia_one (PySem.W.kitx_own (cl.get _) cl.hd ha hn htk hm) I.kIn J e (fun z => nomatch z) h
end
end L2

namespace L2
open PySem PySem.Spec PyProof.Rows

/-! ### room -/
structure Room (k : Nat) (A : Around) : Prop where
  hd : A.handled = none
  dp : A.depth + 3 * k + 5 < recursionLimit
  un : A.units + 16 * k + 200 < cLine
theorem Room.mono {j k : Nat} {A : Around} (r : Room k A) (h : j ≤ k) : Room j A := ⟨r.hd, by have := r.dp; omega, by have := r.un; omega⟩
theorem Room.deeper {k : Nat} {A : Around} (r : Room (k + 1) A) (env : Env) : Room k (A.deeper env) :=
  ⟨r.hd, by have := r.dp; show A.depth + 1 + 3 * k + 5 < _; omega, by have := r.un; show A.units + 3 + 16 * k + 200 < _; omega⟩
theorem Room.in1 {k : Nat} {A : Around} (r : Room (k + 1) A) : Room k A.in1 :=
  ⟨r.hd, by have := r.dp; show A.depth + 3 * k + 5 < _; omega, by have := r.un; show A.units + 1 + 16 * k + 200 < _; omega⟩
theorem make_depth {A : Around} {C : Addr} {us : List Value} {kw : List (Str × Value)} : (A.under (.builtin "type.__call__" ⟨.ref C :: us, kw⟩)).depth = A.depth + 1 := by
  first | rfl | simp [Around.under, Code.weight, Code.isCreation, Code.isGuard, Code.isCaller, Code.frames, Code.isFrame, guardIds]
theorem make_units {A : Around} {C : Addr} {us : List Value} {kw : List (Str × Value)} : (A.under (.builtin "type.__call__" ⟨.ref C :: us, kw⟩)).units = A.units + 1 := by
  first | rfl | simp [Around.under, Code.cUnits, Code.frames, Code.isFrame]
theorem Room.make {k : Nat} {A : Around} (r : Room (k + 1) A) (C : Addr) (us : List Value) (kw : List (Str × Value)) : Room k (A.under (.builtin "type.__call__" ⟨.ref C :: us, kw⟩)) :=
  ⟨r.hd, by have := r.dp; rw [make_depth]; omega, by have := r.un; rw [make_units]; omega⟩
theorem Room.depth {k : Nat} {A : Around} (r : Room k A) : A.depth < recursionLimit := by have := r.dp; omega
theorem Room.units {k : Nat} {A : Around} (r : Room k A) : A.units + 64 < cLine := by have := r.un; omega
/-! ### argument lists and displays -/
def tNil : TA := fun _ H Q => Q [] H
def tCons (ta : TE) (tr : TA) : TA := fun σ H Q => ta σ H fun x H1 => tr σ H1 fun xs H2 => Q (x :: xs) H2
section
variable {X : Cx} {e : Expr} {es : List Expr} {te : TE} {t : TA} {pos : Pos}
theorem pa_nil : PA X [] tNil := fun _ _ _ _ H Q I h => Calls.spliced_nil ⟨[], H, I, .nil, h⟩
theorem pa_cons (ha : PE X e te) (hr : PA X es t) (hs : starEach (e :: es) X.env = (false, eval e X.env) :: starEach es X.env := by rfl) : PA X (e :: es) (tCons te t) := by
  intro pos pins s σ H Q I h
  rw [hs]
  show wpAny _ _ (spliced ((false, eval e X.env) :: backTo pos (starEach es X.env))) _ _ s
  refine Calls.spliced_cons (thn (ha pins s σ H _ I h) fun u s1 ⟨x, H1, I1, r1, q1⟩ => ?_)
  exact thn (hr pos pins s1 σ H1 _ I1 q1) fun us s2 ⟨xs, H2, I2, r2, q2⟩ => ⟨x :: xs, H2, I2, .cons r1 r2, q2⟩

/-- a tuple, a list of written items -/
def tTup (t : TA) : TE := fun σ H Q => t σ H fun xs H1 => xs.length ≤ sizeLine ∧ ∀ p, H1 p = none → Q (.ref p) (upd H1 p (.tup xs))
def tLst (t : TA) : TE := fun σ H Q => t σ H fun xs H1 => xs.length ≤ sizeLine ∧ ∀ p, H1 p = none → Q (.ref p) (upd H1 p (.lst xs))
theorem pe_tup {x1} (h : PA X es t) : PE X (.Tuple es x1 pos) (tTup t) := by
  intro pins s σ H Q I hq
  refine wpAny_Tuple_spliced (thn (h pos pins s σ H _ I hq) fun us s1 ⟨xs, H1, I1, r, z, q⟩ => ⟨by rw [← r.length]; exact z, ?_⟩)
  have hf : H1 s1.heap.objs.size = none := I1.hok.fresh (Nat.le_refl _)
  refine ⟨.ref s1.heap.objs.size, upd H1 s1.heap.objs.size (.tup xs), I1.laid (t' := s1.toks) (fun b u e => Heap.get?_push_of_some _ e) (Nat.le_refl _) ?_, rfl, q _ hf⟩
  exact ⟨z, us, r, ⟨_, Heap.get?_push_size _ rfl, rfl, _, rfl⟩⟩
theorem pe_lst (h : PA X es t) : PE X (.List es pos) (tLst t) := by
  intro pins s σ H Q I hq
  refine wpAny_List_spliced (thn (h pos pins s σ H _ I hq) fun us s1 ⟨xs, H1, I1, r, z, q⟩ => ⟨by rw [← r.length]; exact z, ?_⟩)
  have hf : H1 s1.heap.objs.size = none := I1.hok.fresh (Nat.le_refl _)
  refine ⟨.ref s1.heap.objs.size, upd H1 s1.heap.objs.size (.lst xs), I1.laid (t' := s1.toks) (fun b u e => Heap.get?_push_of_some _ e) (Nat.le_refl _) ?_, rfl, q _ hf⟩
  exact ⟨z, us, 0, r, Heap.get?_push_size _ rfl⟩
end

/-! ### what a def promises -/
/-- a def's promise: the bound arguments in the parameters' order, the heap, the wanted end, the wanted exception -/
abbrev Sp := List V → Hp → VK → XK → Prop
/-- how an exception lies behind a call (file 08 gives it): the callers' frames, abstract heap and state ahead of the call, the wish, the exception, the state -/
abbrev CXT := List Env → Hp → Shared → XK → Value → Shared → Prop

/-- the state at a call -/
structure Env0 (P : Program) (w : World) (K : PySem.W.Frag) (mg : Str → Option Value) (base : Heap) (A : Around) (outer : List Env) (s : Shared) (H : Hp) : Prop where
  frames : A.frames = some outer
  mod : Mod K mg base
  bs : ∀ b o, base.get? b = some o → s.heap.get? b = some o ∧ H b = none
  bsz : base.objs.size ≤ s.heap.objs.size
  funs : s.heap.FunFrames base outer
  frf : ∀ b ∈ frs outer, H b = none
  hok : HOk P w H s.heap
  bare : AllBare s.gens
/-- a call's end -/
def CE (outer : List Env) (P : Program) (w : World) (H : Hp) (s : Shared) (Q : VK) (u : Value) (s' : Shared) : Prop :=
  ∃ v H', s'.os = s.os ∧ AllBare s'.gens ∧ Un (frs outer) [] H H' s.heap s'.heap ∧ HOk P w H' s'.heap ∧ RelV v u ∧ Q v H'
def CR (CX : CXT) (outer : List Env) (P : Program) (w : World) (H : Hp) (s : Shared) (Q : VK) (E : XK) (r : Result) (s' : Shared) : Prop :=
  match r with
  | .ok (.ret u) => CE outer P w H s Q u s'
  | .ok _ => False
  | .error e => CX outer H s E e s'
structure FnOk (P : Program) (w : World) (K : PySem.W.Frag) (mg : Str → Option Value) (base : Heap) (CX : CXT) (k : Nat) (f : Addr) (fd : FuncData) (ps : List Str) (sp : Sp) : Prop where
  len : ∀ vs H Q E, sp vs H Q E → vs.length = ps.length
  run : ∀ (A : Around) (outer : List Env) (s : Shared) (H : Hp) (args : Args) (us : List Value) (vs : List V) (Q : VK) (E : XK), Room k A → Env0 P w K mg base A outer s H → BindsTo s fd args (ps.zip us) → Vals vs us → sp vs H Q E →
    codeAny (model P w) A (.call (.ref f) args) (CR CX outer P w H s Q E) s
theorem FnOk.mono {P : Program} {w : World} {K : PySem.W.Frag} {mg : Str → Option Value} {base : Heap} {CX : CXT} {j k : Nat} {f : Addr} {fd : FuncData} {ps : List Str} {sp : Sp} (F : FnOk P w K mg base CX j f fd ps sp) (h : j ≤ k) :
    FnOk P w K mg base CX k f fd ps sp := ⟨F.len, fun A outer s H args us vs Q E hr => F.run A outer s H args us vs Q E (hr.mono h)⟩
/-- a weaker promise -/
theorem FnOk.imp {P : Program} {w : World} {K : PySem.W.Frag} {mg : Str → Option Value} {base : Heap} {CX : CXT} {k : Nat} {f : Addr} {fd : FuncData} {ps : List Str} {sp sp' : Sp} (F : FnOk P w K mg base CX k f fd ps sp)
    (h : ∀ vs H Q E, sp' vs H Q E → sp vs H Q E) : FnOk P w K mg base CX k f fd ps sp' :=
  ⟨fun vs H Q E q => F.len vs H Q E (h _ _ _ _ q), fun A outer s H args us vs Q E hr he hb hv hs => F.run A outer s H args us vs Q E hr he hb hv (h _ _ _ _ hs)⟩

theorem Env0.make {P : Program} {w : World} {K : PySem.W.Frag} {mg : Str → Option Value} {base : Heap} {A : Around} {outer : List Env} {s : Shared} {H : Hp} (e : Env0 P w K mg base A outer s H) (C : Addr) (us : List Value) (kw : List (Str × Value)) :
    Env0 P w K mg base (A.under (.builtin "type.__call__" ⟨.ref C :: us, kw⟩)) outer s H := ⟨by first | exact e.frames | (simpa [Around.under, Code.envs, Code.isFrame, pushEnvs] using e.frames), e.mod, e.bs, e.bsz, e.funs, e.frf, e.hok, e.bare⟩
theorem Env0.in1 {P : Program} {w : World} {K : PySem.W.Frag} {mg : Str → Option Value} {base : Heap} {A : Around} {outer : List Env} {s : Shared} {H : Hp} (e : Env0 P w K mg base A outer s H) :
    Env0 P w K mg base A.in1 outer s H := ⟨e.frames, e.mod, e.bs, e.bsz, e.funs, e.frf, e.hok, e.bare⟩

section
variable {X : Cx} {pins : List (Addr × Obj)} {σ : St} {H : Hp} {s s' : Shared}
/-- from a body: what a callee wants -/
theorem Inv.env0 (I : Inv X pins σ H s) : Env0 X.prog X.w X.K X.mg X.base X.A X.stack s H :=
  ⟨I.ok.frames, I.ok.mod, I.bs, Nat.le_trans I.ok.bsz I.sz, I.stack, I.stkFree, I.hok, I.bare⟩
/-- behind a call -/
theorem Inv.after {Q : VK} {u : Value} (I : Inv X pins σ H s) (h : CE X.stack X.prog X.w H s Q u s') : EP X pins σ Q u s' := by
  obtain ⟨v, H', os, bare, un, hok, r, q⟩ := h
  obtain ⟨hh, g, d, t, os'⟩ := s'
  obtain rfl : os' = s.os := os
  exact ⟨v, H', I.call (h' := hh) (g' := g) (d' := d) (t' := t) (ch := []) un hok bare (fun b z => absurd z (by simp)), r, q⟩
end

/-! ### calls -/
/-- f(..): the written arguments, then the defaults dvs; E: what is wanted of an exception -/
def tCall (sp : Sp) (dvs : List V) (E : XK) (t : TA) : TE := fun σ H Q => t σ H fun vs H1 => sp (vs ++ dvs) H1 Q E
/-- o.m(..) of an instance of the class at C -/
def tMeth (C : Addr) (m : Str) (sp : Sp) (dvs : List V) (E : XK) (ta : TE) (t : TA) : TE := fun σ H Q => ta σ H fun x H1 => ∃ a dx fs, x = .ref a ∧ H1 a = some (.ins C dx fs) ∧ fs.lookup m = none ∧
  t σ H1 fun vs H2 => sp (x :: (vs ++ dvs)) H2 Q E
/-- C(..): a new instance and its dict, then __init__ -/
def tMake (C : Addr) (sp : Sp) (dvs : List V) (E : XK) (t : TA) : TE := fun σ H Q => t σ H fun vs H1 => ∀ x dx, H1 x = none → H1 dx = none → dx ≠ x →
  sp (.ref x :: (vs ++ dvs)) (upd (upd H1 dx (.own x)) x (.ins C dx [])) (fun v H2 => v = .non ∧ Q (.ref x) H2) E

/-- how the parameters are bound: us the positional arguments, kw the keywords' values by name, ds the defaults that fill up -/
def Binds (K : PySem.W.Frag) (fd : FuncData) (ps : List Str) (ds : List Value) : Prop :=
  ∀ (s : Shared) (us : List Value), K.In s.heap → (us ++ ds).length = ps.length → BindsTo s fd ⟨us, []⟩ (ps.zip (us ++ ds))
/-- every parameter is given -/
theorem Binds.all {K : PySem.W.Frag} {fd : FuncData} {ps : List Str} (h : ∀ us : List Value, us.length = ps.length → bindArgs fd ⟨us, []⟩ = pure (ps.zip us)) : Binds K fd ps [] := fun s us _ hl => by
  rw [List.append_nil] at hl ⊢
  exact .of_eq (h us hl)

/-- an exception of a callee reaches what this body wants of exceptions -/
def Passes (CX : CXT) (X : Cx) (E : XK) : Prop := ∀ (pins : List (Addr × Obj)) (σ : St) (H : Hp) (s : Shared) (e : Value) (s' : Shared), Inv X pins σ H s → CX X.stack H s E e s' → X.xe e s'

section
variable {X : Cx} {CX : CXT} {k : Nat} {f C : Addr} {fd : FuncData} {ps : List Str} {sp : Sp} {dvs : List V} {ds : List Value} {E : XK} {x m : Str} {p pos apos : Pos} {e o : Expr} {es : List Expr} {ta : TE} {t : TA}

/-- the callee runs -/
theorem run_fn {pins : List (Addr × Obj)} {σ : St} {H : Hp} {s : Shared} {Q : VK} {us : List Value} {vs : List V} (F : FnOk X.prog X.w X.K X.mg X.base CX k f fd ps sp) (hr : Room k X.A) (hb : Binds X.K fd ps ds) (hd : Vals dvs ds) (hx : Passes CX X E)
    (I : Inv X pins σ H s) (r : Vals vs us) (h : sp (vs ++ dvs) H Q E) : wpAny (model X.prog X.w) X.A (call (.ref f) us) (EP X pins σ Q) X.xe s := by
  have r2 : Vals (vs ++ dvs) (us ++ ds) := r.append hd
  have hl : (us ++ ds).length = ps.length := by rw [← r2.length]; exact F.len _ _ _ _ h
  refine wpAny_call (codeAny_mono (F.run X.A X.stack s H ⟨us, []⟩ (us ++ ds) (vs ++ dvs) Q E hr I.env0 (hb s us I.kIn hl) r2 h) fun r s' hq => ?_)
  cases r with
  | error e => exact hx pins σ H s e s' I hq
  | ok fl =>
    cases fl with
    | ret u => exact I.after hq
    | next => exact False.elim hq
    | brk => exact False.elim hq
    | cont => exact False.elim hq

theorem pe_call (F : FnOk X.prog X.w X.K X.mg X.base CX k f fd ps sp) (hr : Room k X.A) (hg : Gl X x) (hm : X.mg x = some (.ref f)) (hk : PySem.W.keepIn X.K (.ref f) = true) (hb : Binds X.K fd ps ds) (hd : Vals dvs ds) (hx : Passes CX X E)
    (ha : PA X (e :: es) t) (hdb : (x == ("__debug__" : Str)) = false := by decide) (he : starEach (e :: es) X.env = (false, eval e X.env) :: starEach es X.env := by rfl) (hpl : (backTo pos (starEach es X.env)).any (·.1) = false := by rfl) :
    PE X (.Call (.Name x p) (e :: es) [] pos) (tCall sp dvs E t) := by
  intro pins s σ H Q I h
  refine wpAny_Call_Name_kw (ld_glob I hg hm ?_ hdb)
  refine PySem.W.callWith_K (h₀ := X.base) I.ok.mod.kin hk (thn (ha pos pins s σ H _ I h) fun us s1 ⟨vs, H1, I1, r, q⟩ => ⟨I1.kIn, ?_⟩) he hpl
  exact run_fn F hr hb hd hx I1 r q
/-- what a class must have to be made -/
structure Mk (K : PySem.W.Frag) (C f : Addr) : Prop where
  makes : PySem.W.makesIn K C = true
  init : PySem.W.findIn K (.ref C) "__init__" = some (some (.ref f))
  fn : PySem.W.isFn K (.ref f) = true
  kp : PySem.W.keepIn K (.ref C) = true

theorem run_make {pins : List (Addr × Obj)} {σ : St} {H : Hp} {s : Shared} {Q : VK} {us : List Value} {vs : List V} (M : Mk X.K C f) (F : FnOk X.prog X.w X.K X.mg X.base CX k f fd ps sp) (hr : Room (k + 1) X.A) (hb : Binds X.K fd ps ds) (hd : Vals dvs ds)
    (hx : Passes CX X E) (I : Inv X pins σ H s) (r : Vals vs us)
    (h : ∀ x dx, H x = none → H dx = none → dx ≠ x → sp (.ref x :: (vs ++ dvs)) (upd (upd H dx (.own x)) x (.ins C dx [])) (fun v H2 => v = .non ∧ Q (.ref x) H2) E) :
    wpAny (model X.prog X.w) X.A (call (.ref C) us) (EP X pins σ Q) X.xe s := by
  have hq := h (s.heap.objs.size + 1) s.heap.objs.size (I.hok.fresh (Nat.le_succ _)) (I.hok.fresh (Nat.le_refl _)) (Nat.ne_of_lt (Nat.lt_succ_self _))
  have I2 := Inv.made (C := C) I
  have r2 : Vals (V.ref (s.heap.objs.size + 1) :: (vs ++ dvs)) (Value.ref (s.heap.objs.size + 1) :: (us ++ ds)) := .cons rfl (r.append hd)
  have hl : (Value.ref (s.heap.objs.size + 1) :: us ++ ds).length = ps.length := by
    have e := r2.length
    rw [F.len _ _ _ _ hq] at e
    exact e.symm
  refine wpAny_call (make_map (f := f) I.kIn M.makes M.init (beq_iff_eq.mp M.fn) (codeAny_mono (F.run _ X.stack _ _ ⟨Value.ref (s.heap.objs.size + 1) :: us, []⟩ (Value.ref (s.heap.objs.size + 1) :: (us ++ ds)) _ _ E (hr.make C us [])
    (I2.env0.make C us []) (hb _ (Value.ref (s.heap.objs.size + 1) :: us) I2.kIn hl) r2 hq) fun r s' hq' => ?_))
  cases r with
  | error e => exact hx pins σ _ _ e s' I2 hq'
  | ok fl =>
    cases fl with
    | ret u =>
      obtain ⟨v, H', I3, rv, ev, q3⟩ := I2.after hq'
      subst ev
      exact ⟨rv, ⟨V.ref (s.heap.objs.size + 1), H', I3, rfl, q3⟩⟩
    | next => exact False.elim hq'
    | brk => exact False.elim hq'
    | cont => exact False.elim hq'
theorem pe_make (M : Mk X.K C f) (F : FnOk X.prog X.w X.K X.mg X.base CX k f fd ps sp) (hr : Room (k + 1) X.A) (hg : Gl X x) (hm : X.mg x = some (.ref C)) (hb : Binds X.K fd ps ds) (hd : Vals dvs ds) (hx : Passes CX X E)
    (ha : PA X (e :: es) t) (hdb : (x == ("__debug__" : Str)) = false := by decide) (he : starEach (e :: es) X.env = (false, eval e X.env) :: starEach es X.env := by rfl) (hpl : (backTo pos (starEach es X.env)).any (·.1) = false := by rfl) :
    PE X (.Call (.Name x p) (e :: es) [] pos) (tMake C sp dvs E t) := by
  intro pins s σ H Q I h
  refine wpAny_Call_Name_kw (ld_glob I hg hm ?_ hdb)
  refine PySem.W.callWith_K (h₀ := X.base) I.ok.mod.kin M.kp (thn (ha pos pins s σ H _ I h) fun us s1 ⟨vs, H1, I1, r, q⟩ => ⟨I1.kIn, ?_⟩) he hpl
  exact run_make M F hr hb hd hx I1 r q
end

/-! ### keywords -/
section
variable {X : Cx} {CX : CXT} {k : Nat} {f C : Addr} {fd : FuncData} {ps ks : List Str} {sp : Sp} {E : XK} {x m : Str} {p pos apos kpos : Pos} {e o : Expr} {es : List Expr} {kws : List Keyword} {te ta : TE} {t tk : TA} {nm : Option Str}
/-- how a call with keywords binds: g puts the positional values us and the keywords' values ws (names ks) in the parameters' order, defaults among them -/
structure KBinds (K : PySem.W.Frag) (fd : FuncData) (ps ks : List Str) (g : List Value → List Value → List Value) (gV : List V → List V → List V) : Prop where
  to : ∀ (s : Shared) (us ws : List Value), K.In s.heap → (g us ws).length = ps.length → BindsTo s fd ⟨us, ks.zip ws⟩ (ps.zip (g us ws))
  rel : ∀ {vs : List V} {us : List Value} {zs : List V} {ws : List Value}, Vals vs us → Vals zs ws → Vals (gV vs zs) (g us ws)
variable {g : List Value → List Value → List Value} {gV : List V → List V → List V}
end

/-! ### a def's body keeps its promise -/
/-- names: the parameters first -/
structure FnScope (N P : List Str) (sc : Scope) : Prop where
  kind : sc.kind = .function
  co : sc.isCoroutine = false
  gen : sc.isGenerator = false
  nd : N.Nodup
  pre : N.take P.length = P
  par : ∀ x ∈ P, sc.names.lookup x = some .local ∨ sc.names.lookup x = some .cell
  nofree : ∀ y ∈ sc.names, y.2 ≠ .free

theorem bindL_out {kindOf : Str → Option NameKind} {x : Str} : ∀ {binds : List (Str × Value)} {m : Str → Option Value}, (∀ v, (x, v) ∉ binds) → bindL kindOf binds m x = m x
  | [], _, _ => rfl
  | (n, v) :: r, m, h => by
    unfold bindL
    rw [bindL_out fun w hw => h w (List.mem_cons_of_mem _ hw)]
    split
    · have : x ≠ n := by rintro rfl; exact h v List.mem_cons_self
      simp [this]
    · rfl
theorem bindC_out {kindOf : Str → Option NameKind} {x : Str} : ∀ {binds : List (Str × Value)} {m : Str → Option Value}, (∀ v, (x, v) ∉ binds) → bindC kindOf binds m x = m x
  | [], _, _ => rfl
  | (n, v) :: r, m, h => by
    unfold bindC
    rw [bindC_out fun w hw => h w (List.mem_cons_of_mem _ hw)]
    split
    · rfl
    · have : x ≠ n := by rintro rfl; exact h v List.mem_cons_self
      simp [this]
theorem bindL_get {kindOf : Str → Option NameKind} {x : Str} {v : Value} : ∀ {P : List Str} {vs : List Value} {i : Nat} {m : Str → Option Value}, P.Nodup → P[i]? = some x → vs[i]? = some v → kindOf x = some .local →
    bindL kindOf (P.zip vs) m x = some v
  | [], _, _, _, _, h, _, _ => by simp at h
  | _ :: _, [], _, _, _, _, h, _ => by simp at h
  | p :: P, w :: vs, 0, m, nd, h1, h2, hk => by
    simp at h1 h2; subst h1; subst h2
    show bindL kindOf ((p, w) :: P.zip vs) m p = _
    unfold bindL
    rw [bindL_out fun v hv => (List.nodup_cons.mp nd).1 (List.of_mem_zip hv).1, if_pos hk]
    simp
  | p :: P, w :: vs, i + 1, m, nd, h1, h2, hk => by
    show bindL kindOf ((p, w) :: P.zip vs) m x = _
    unfold bindL
    exact bindL_get (i := i) (List.nodup_cons.mp nd).2 (by simpa using h1) (by simpa using h2) hk
theorem bindC_get {kindOf : Str → Option NameKind} {x : Str} {v : Value} : ∀ {P : List Str} {vs : List Value} {i : Nat} {m : Str → Option Value}, P.Nodup → P[i]? = some x → vs[i]? = some v → kindOf x ≠ some .local →
    bindC kindOf (P.zip vs) m x = some v
  | [], _, _, _, _, h, _, _ => by simp at h
  | _ :: _, [], _, _, _, _, h, _ => by simp at h
  | p :: P, w :: vs, 0, m, nd, h1, h2, hk => by
    simp at h1 h2; subst h1; subst h2
    show bindC kindOf ((p, w) :: P.zip vs) m p = _
    unfold bindC
    rw [bindC_out fun v hv => (List.nodup_cons.mp nd).1 (List.of_mem_zip hv).1, if_neg hk]
    simp
  | p :: P, w :: vs, i + 1, m, nd, h1, h2, hk => by
    show bindC kindOf ((p, w) :: P.zip vs) m x = _
    unfold bindC
    exact bindC_get (i := i) (List.nodup_cons.mp nd).2 (by simpa using h1) (by simpa using h2) hk

/-- the names' values at the entry -/
def start (N : List Str) (vs : List V) : St := vs.map some ++ List.replicate (N.length - vs.length) none

/-- the context of a def's body, at its entry; an exception leaves the frame, then lies as CX says -/
def cxOf (CX : CXT) (P : Program) (w : World) (K : PySem.W.Frag) (mg : Str → Option Value) (base : Heap) (N : List Str) (qual : Str) (scope : Scope) (f : Addr) (cd : Value) (A : Around) (outer : List Env) (s : Shared) (H : Hp) (E : XK) : Cx where
  prog := P
  w := w
  K := K
  mg := mg
  base := base
  A := A.deeper (envOfC qual scope s.heap.objs.size f cd)
  N := N
  s₀ := s
  H₀ := H
  env := envOfC qual scope s.heap.objs.size f cd
  outer := outer
  stack := envOfC qual scope s.heap.objs.size f cd :: outer
  ex := []
  calm := true
  fn := fun _ => true
  pn := []
  xe := fun e s' => wpAny (model P w) (A.deeper (envOfC qual scope s.heap.objs.size f cd)) (leaving (envOfC qual scope s.heap.objs.size f cd) e) (fun _ s'' => CX outer H s E e s'') (fun e' s'' => CX outer H s E e' s'') s'

theorem cell_has {sc : Scope} {n : Nat} {x : Str} (h : sc.names.lookup x = some .cell) : ∃ c, (cellsFrom n sc.names []).lookup x = some c := by
  have q := PySem.W.cellsFrom_some sc.names n [] (.inl h)
  exact Option.isSome_iff_exists.mp q

theorem inv_start {CX : CXT} {P : Program} {w : World} {K : PySem.W.Frag} {mg : Str → Option Value} {base : Heap} {N ps : List Str} {qual : Str} {scope : Scope} {f : Addr} {cd : Value} {A : Around} {outer : List Env} {s s1 : Shared} {H : Hp} {E : XK} {us : List Value} {vs : List V}
    (S : FnScope N ps scope) (hd : A.handled = none) (e0 : Env0 P w K mg base A outer s H) (hl : vs.length = ps.length) (r : Vals vs us)
    (x : InCallC s s.heap.objs.size (bindL (envOfC qual scope s.heap.objs.size f cd).kindOf (ps.zip us) fun _ => none) (cellsFrom (s.heap.objs.size + 1) scope.names []) (bindC (envOfC qual scope s.heap.objs.size f cd).kindOf (ps.zip us) fun _ => none) s1) :
    Inv (cxOf CX P w K mg base N qual scope f cd A outer s H E) [] (start N vs) H s1 := by
  have hpl : ps.length ≤ N.length := by have := congrArg List.length S.pre; rw [List.length_take] at this; omega
  obtain ⟨h1, tk, rfl, hk⟩ := x.done
  have noA : ∀ b : Addr, b ∉ (cxOf CX P w K mg base N qual scope f cd A outer s H E).ex := fun b z => absurd (show b ∈ ([] : List Addr) from z) (by simp)
  refine ⟨⟨e0.mod, S.kind, rfl, rfl, Nat.le_refl _, fun y z c h1 h2 => ?_, fun y hy => ?_, fun y c _ h => ?_, fun _ => hd, Around.frames_deeper e0.frames, .inr ⟨rfl, rfl⟩, fun b z => absurd z (noA b), e0.bs, e0.bsz, fun b _ _ => noA b, fun b z => absurd z (noA b), e0.funs, e0.frf⟩,
    rfl, e0.bare, Un.kept hk, ⟨_, x.toInCall.ns, fun i y v h1 h2 h3 => ?_⟩, fun y c h => ⟨_, x.cell y c h⟩, e0.hok.fresh (Nat.le_refl _), fun y c h => ?_, fun p hp => absurd (show p ∈ ([] : List (Addr × Obj)) from hp) (by simp), e0.hok.kept hk, ?_⟩
  · exact name_of_addr x.apart (PySem.mem_of_lookup h1) (PySem.mem_of_lookup h2)
  · have hy : scope.names.lookup y = some .cell ∨ scope.names.lookup y = some .free := hy
    rcases hy with hy | hy
    · exact cell_has hy
    · exact absurd rfl (S.nofree _ (PySem.mem_of_lookup hy))
  · exact Nat.le_of_lt (x.above y c (PySem.mem_of_lookup h))
  · have hi : i < vs.length := by
      unfold start at h2
      by_cases hi : i < vs.length
      · exact hi
      · rw [List.getElem?_append_right (by simpa using hi)] at h2
        rw [List.getElem?_replicate] at h2
        split at h2 <;> cases h2
    have ha : vs[i]? = some v := by
      unfold start at h2
      rw [List.getElem?_append_left (by simpa using hi), List.getElem?_map] at h2
      cases e : vs[i]? with
      | none => rw [e] at h2; cases h2
      | some a => rw [e] at h2; cases h2; rfl
    obtain ⟨u, hu, rv⟩ := r.get ha
    have hp : ps[i]? = some y := by
      rw [← S.pre, List.getElem?_take_of_lt (by omega)]; exact h1
    have ndP : ps.Nodup := by rw [← S.pre]; exact S.nd.sublist (List.take_sublist _ _)
    refine ⟨u, rv, ?_⟩
    rcases S.par y (List.mem_of_getElem? hp) with k | k
    · exact .inl ⟨k, bindL_get ndP hp hu k⟩
    · obtain ⟨c, e⟩ := cell_has (n := s.heap.objs.size + 1) k
      refine .inr ⟨.inl k, c, e, ?_⟩
      have q := x.cell y c e
      rw [bindC_get ndP hp hu (by show scope.names.lookup y ≠ _; rw [k]; decide)] at q
      exact q
  · exact e0.hok.fresh (Nat.le_of_lt (x.above y c (PySem.mem_of_lookup h)))
  · unfold start
    show _ = N.length
    rw [List.length_append, List.length_map, List.length_replicate]
    omega

/-- THE RULE: a def (or a method) of the text, by its body. The body's reading t is chosen for each entry; it is run at the parameters' values -/
theorem fn_of {CX : CXT} {P : Program} {w : World} {K : PySem.W.Frag} {mg : Str → Option Value} {base : Heap} {k : Nat} {f : Addr} {name qual : Str} {params : Arguments} {body : List Stmt} {scope : Scope} {dV kV doc pm cdv ct oc : Value} {an od : Option Addr}
    {osl : Array (Option Value)} {N ps : List Str} {sp : Sp} (lk : K.lookup f = some ⟨oc, od, .func (PySem.W.fnOf name qual params body scope dV kV doc pm an cdv ct), osl⟩) (hcd : PySem.W.codeIn K cdv qual = true) (S : FnScope N ps scope)
    (len : ∀ vs H Q E, sp vs H Q E → vs.length = ps.length)
    (hbody : ∀ (A : Around) (outer : List Env) (s : Shared) (H : Hp) (vs : List V) (Q : VK) (E : XK), Room k (A.deeper (envOfC qual scope s.heap.objs.size f cdv)) → sp vs H Q E →
      ∃ t, PSs (cxOf CX P w K mg base N qual scope f cdv A outer s H E) body t ∧ t { nx := fun _ H' => Q .non H', rt := Q } (start N vs) H) :
    FnOk P w K mg base CX (k + 1) f (PySem.W.fnOf name qual params body scope dV kV doc pm an cdv ct) ps sp := by
  refine ⟨len, fun A outer s H args us vs Q E hr e0 hb r hsp => ?_⟩
  have hl := len _ _ _ _ hsp
  have KX : K.In s.heap := e0.mod.kin.keeps fun b o e => (e0.bs b o e).1
  have lim : s.heap.NoLimit := e0.mod.nolimit.keeps fun b o e => (e0.bs b o e).1
  have hkind : ∀ y ∈ ps.zip us, scope.names.lookup y.1 = some .local ∨ (scope.names.lookup y.1 = some .cell ∧ ((cellsFrom (s.heap.objs.size + 1) scope.names []).lookup y.1).isSome = true) := fun ⟨n, v⟩ hy => by
    rcases S.par n (List.of_mem_zip hy).1 with q | q
    · exact .inl q
    · exact .inr ⟨q, PySem.W.cellsFrom_some _ _ _ (.inl q)⟩
  refine codeAny_call_function hr.depth (KX _ _ lk) rfl S.co S.gen rfl (PySem.W.codeRec_of KX hcd) (hb _ _ _ _ ?_)
  refine wpAny_newFunctionEnv_cells S.kind hkind fun env he s1 x => ?_
  subst he
  refine ⟨lim.keeps x.toInCall.keep, codeAny_func ?_⟩
  obtain ⟨t, ht, hq⟩ := hbody A outer s H vs Q E (hr.deeper _) hsp
  have I : Inv (cxOf CX P w K mg base N qual scope f cdv A outer s H E) [] (start N vs) H s1 := inv_start S hr.hd e0 hl r x
  refine wpAny_mono (ht [] s1 (start N vs) H _ I hq) (fun fl s' hs => ?_) fun e s' hs => hs
  have fin : ∀ {σ' : St} {H' : Hp} {v : V} {u : Value}, Inv (cxOf CX P w K mg base N qual scope f cdv A outer s H E) [] σ' H' s' → RelV v u → Q v H' → CE outer P w H s Q u s' :=
    fun {σ' H' v u} J rv q => ⟨v, H', J.os, J.bare, J.base, J.hok, rv, q⟩
  cases fl with
  | ret u =>
    obtain ⟨v, σ', H', J, rv, q⟩ := hs
    exact fin J rv q
  | next =>
    obtain ⟨σ', H', J, q⟩ := hs
    exact fin (v := V.non) (u := Value.none) J rfl q
  | brk =>
    obtain ⟨_, _, _, q⟩ := hs
    exact False.elim q
  | cont =>
    obtain ⟨_, _, _, q⟩ := hs
    exact False.elim q
end L2

namespace L2
open PySem PySem.Spec PyProof.Rows
section
variable {X : Cx} {x : Str} {p pos : Pos} {e : Expr} {es : List Expr} {t : TA} {id T : String} {r : List V → Hp → VK → Prop}

def tCB (r : List V → Hp → VK → Prop) (t : TA) : TE := fun σ H Q => t σ H fun vs H1 => r vs H1 Q
/-- f(e, ..), f a built-in function -/
theorem pe_callB (hc : CallR X (.builtin id) r) (hg : Gl X x) (hm : X.mg x = none) (hv : bootBuiltins x = some (.builtin id)) (ha : PA X (e :: es) t) (hn : x ≠ "__name__" := by decide) (hdb : (x == ("__debug__" : Str)) = false := by decide)
    (he : starEach (e :: es) X.env = (false, eval e X.env) :: starEach es X.env := by rfl) (hpl : (backTo pos (starEach es X.env)).any (·.1) = false := by rfl) : PE X (.Call (.Name x p) (e :: es) [] pos) (tCB r t) := by
  intro pins s σ H Q I h
  refine wpAny_Call_Name_kw (ld_blt I hg hm hv ?_ hn hdb)
  exact PyProof.Rows.callWith_builtin1 (thn (ha pos pins s σ H _ I h) fun us s1 ⟨vs, H1, I1, r1, q1⟩ => hc pins s1 σ H1 vs us Q I1 r1 q1) he hpl
/-- T(e, ..), T a built-in type -/
theorem pe_callTy (hc : CallR X (.type T) r) (hg : Gl X x) (hm : X.mg x = none) (hv : bootBuiltins x = some (.type T)) (ha : PA X (e :: es) t) (hn : x ≠ "__name__" := by decide) (hdb : (x == ("__debug__" : Str)) = false := by decide)
    (he : starEach (e :: es) X.env = (false, eval e X.env) :: starEach es X.env := by rfl) (hpl : (backTo pos (starEach es X.env)).any (·.1) = false := by rfl) : PE X (.Call (.Name x p) (e :: es) [] pos) (tCB r t) := by
  intro pins s σ H Q I h
  refine wpAny_Call_Name_kw (ld_blt I hg hm hv ?_ hn hdb)
  exact PyProof.Rows.callWith_type1 (thn (ha pos pins s σ H _ I h) fun us s1 ⟨vs, H1, I1, r1, q1⟩ => hc pins s1 σ H1 vs us Q I1 r1 q1) he hpl
end
end L2

namespace HT
open PySem PyProof.Rows

section
open PySem.SeqAt
open PySem.AutoSeq1 (wpAny_loadPart')
open PySem.MeetsSeq PySem.MeetsSeq2 PySem.MeetsSeq3

end

section
variable {prog : Program} {w : World} {A : Around} {E : Value → Shared → Prop} {s : Shared}

/-! ### t[a:b], not the whole -/
/-- a slice's bound as a place among n (d where it is left out) -/
def sIx (n d : Nat) : Option Int → Nat
  | none => d
  | some v => if v < 0 then (v + (n : Int)).toNat else min v.toNat n
theorem sIx_nat (n d k : Nat) : sIx n d (some (k : Int)) = min k n := by
  show (if (k : Int) < 0 then ((k : Int) + (n : Int)).toNat else min (k : Int).toNat n) = min k n
  rw [if_neg (by omega), Int.toNat_natCast]
end
end HT

namespace L2
open PySem PySem.Spec PyProof.Rows

/-! ### the parts of a slice -/
abbrev TO := St → Hp → (Option Int → Hp → Prop) → Prop
/-- a slice's part (left out, or an int) -/
def PO (X : Cx) (e : Option Expr) (t : TO) : Prop :=
  ∀ (pins : List (Addr × Obj)) (s : Shared) (σ : St) (H : Hp) (Q : Option Int → Hp → Prop), Inv X pins σ H s → t σ H Q →
    wpAny (model X.prog X.w) X.A (evalPart e X.env) (fun u s' => ∃ o H', Inv X pins σ H' s' ∧ IsPart u o ∧ Q o H') X.xe s
def tNoPart : TO := fun _ H Q => Q none H
def tPart (t : TE) : TO := fun σ H Q => t σ H fun x H1 => ∃ i, x = .int i ∧ Q (some i) H1

theorem intsAre_of {ns : List Int} : ∀ {us : List Value}, Vals (ns.map V.int) us → IntsAre us ns := by
  induction ns with
  | nil => intro us r; rw [List.map_nil] at r; cases r; exact .nil
  | cons n ns ih =>
    intro us r
    rw [List.map_cons] at r
    cases r with
    | cons r1 r2 =>
      obtain ⟨t, e⟩ := r1
      subst e
      exact .cons n t (ih r2)

section
variable {X : Cx} {e : Expr} {te : TE} {lo hi : Option Expr} {tl th : TO} {pos p2 : Pos}

theorem po_none : PO X none tNoPart := by
  intro pins s σ H Q I h
  rw [evalPart_none]
  exact wpAny_pure ⟨none, H, I, .none, h⟩
theorem po_some (h : PE X e te) : PO X (some e) (tPart te) := by
  intro pins s σ H Q I hw
  rw [evalPart_some]
  refine thn (h pins s σ H _ I hw) fun u s1 ⟨x, H1, I1, r1, q1⟩ => ?_
  obtain ⟨i, rfl, q⟩ := q1
  obtain ⟨t, rfl⟩ := r1
  exact ⟨some i, H1, I1, .int i t, q⟩

/-- what a slice of a value is, by values: the slice object stands at sl -/
def SlR (X : Cx) (r : V → Option Int → Option Int → Hp → VK → Prop) : Prop :=
  ∀ (pins : List (Addr × Obj)) (s : Shared) (σ : St) (H : Hp) (x : V) (v vl vu : Value) (lo hi : Option Int) (sl : Addr) (Q : VK), Inv X pins σ H s → RelV x v → s.heap.IsSliceOf sl vl vu .none → IsPart vl lo → IsPart vu hi → r x lo hi H Q →
    ∃ T id, typeLookup (.type T) "__getitem__" = pure (some (.builtin id)) ∧ s.TypeIs v T ∧ wpAny (model X.prog X.w) X.A (getItem v (.ref sl)) (EP X pins σ Q) X.xe s
theorem SlR.or {r r' : V → Option Int → Option Int → Hp → VK → Prop} (h : SlR X r) (h' : SlR X r') : SlR X (fun x lo hi H Q => r x lo hi H Q ∨ r' x lo hi H Q) := by
  intro pins s σ H x v vl vu lo hi sl Q I rx hs pl pu q
  rcases q with q | q
  · exact h pins s σ H x v vl vu lo hi sl Q I rx hs pl pu q
  · exact h' pins s σ H x v vl vu lo hi sl Q I rx hs pl pu q
def tSl (r : V → Option Int → Option Int → Hp → VK → Prop) (te : TE) (tl th : TO) : TE := fun σ H Q => te σ H fun x H1 => tl σ H1 fun l H2 => th σ H2 fun u H3 => r x l u H3 Q
/-- a[lo:hi], any a -/
theorem pe_slice {r : V → Option Int → Option Int → Hp → VK → Prop} (hr : SlR X r) (he : PE X e te) (hl : PO X lo tl) (hu : PO X hi th) : PE X (.Subscript e (.Slice lo hi none p2) pos) (tSl r te tl th) := by
  intro pins s σ H Q I h
  refine Subscript_ (thn (he pins s σ H _ I h) fun v s1 ⟨x, H1, I1, r1, q1⟩ => ?_)
  refine wpAny_Slice (thn (hl pins s1 σ H1 _ I1 q1) fun vl s2 ⟨l, H2, I2, pl, q2⟩ => thn (hu pins s2 σ H2 _ I2 q2) fun vu s3 ⟨u, H3, I3, pu, q3⟩ => ?_)
  rw [evalPart_none]
  refine wpAny_pure ?_
  have I4 : Inv X pins σ H3 { s3 with heap := s3.heap.push { cls := .type "slice", data := .fields #[vl, vu, .none] } } := I3.kept (t' := s3.toks) fun b ob q => Heap.get?_push_of_some _ q
  obtain ⟨T, id, hT, ht, hg⟩ := hr pins { s3 with heap := s3.heap.push { cls := .type "slice", data := .fields #[vl, vu, .none] } } σ H3 x v vl vu l u s3.heap.objs.size Q I4 r1 (Heap.IsSliceOf.new ..) pl pu q3
  show wpAny (model X.prog X.w) X.A (subscriptTail e (.Slice lo hi none p2) v (.ref s3.heap.objs.size)) (EP X pins σ Q) X.xe { s3 with heap := s3.heap.push { cls := .type "slice", data := .fields #[vl, vu, .none] } }
  exact tail_any (ops := [.ref s3.heap.objs.size, v]) ht hT hg (by with_unfolding_all rfl)

/-- the items of xs[lo:hi] -/
def cutV (xs : List V) (lo hi : Option Int) : List V := (xs.drop (HT.sIx xs.length 0 lo)).take (HT.sIx xs.length xs.length hi - HT.sIx xs.length 0 lo)
theorem cutV_length (xs : List V) (lo hi : Option Int) : (cutV xs lo hi).length ≤ xs.length := by
  unfold cutV
  rw [List.length_take, List.length_drop]
  omega
/-! ### t < u, t + u -/
end
end L2

namespace L2
open PySem PySem.Spec PyProof.Rows

/-! ### places -/
/-- the place that an index of any sign means -/
def ixN (n : Nat) (i : Int) : Option Nat := if 0 ≤ i then (if i < n then some i.toNat else none) else if -(n : Int) ≤ i then some (i + n).toNat else none
def atI {α : Type} (xs : List α) (i : Int) : Option α := (ixN xs.length i).bind fun j => xs[j]?
theorem ixN_seq {n : Nat} {i : Int} {j : Nat} (h : ixN n i = some j) : seqIndex? i n = some j ∧ j < n ∧ -(n : Int) ≤ i ∧ i < n := by
  unfold ixN at h
  by_cases h0 : 0 ≤ i
  · rw [if_pos h0] at h
    by_cases h1 : i < n
    · rw [if_pos h1] at h
      have e : i.toNat = j := Option.some.inj h
      exact ⟨by rw [seqIndex_of h0 h1, e], by omega, by omega, h1⟩
    · rw [if_neg h1] at h; cases h
  · rw [if_neg h0] at h
    by_cases h1 : -(n : Int) ≤ i
    · rw [if_pos h1] at h
      have e : (i + n).toNat = j := Option.some.inj h
      exact ⟨by rw [seqIndex_neg (by omega) h1, e], by omega, h1, by omega⟩
    · rw [if_neg h1] at h; cases h
theorem atI_get {α : Type} {xs : List α} {i : Int} {v : α} (h : atI xs i = some v) : ∃ j, seqIndex? i xs.length = some j ∧ xs[j]? = some v ∧ j < xs.length ∧ -(xs.length : Int) ≤ i ∧ i < xs.length := by
  unfold atI at h
  cases e : ixN xs.length i with
  | none => rw [e] at h; cases h
  | some j =>
    rw [e] at h
    obtain ⟨h1, h2, h3, h4⟩ := ixN_seq e
    exact ⟨j, h1, h, h2, h3, h4⟩
theorem atI_nat {α : Type} {xs : List α} {j : Nat} {v : α} (h : xs[j]? = some v) : atI xs (j : Int) = some v := by
  have hj : j < xs.length := (List.getElem?_eq_some_iff.mp h).1
  have e : ixN xs.length (j : Int) = some j := by
    unfold ixN
    rw [if_pos (by omega), if_pos (by omega)]; simp
  unfold atI; rw [e]; exact h
/-! ### what may be subscripted -/
/-- what stands as an index of a plain subscript -/
def PlainIx (b : Expr) : Prop := ∀ o i, subscripted b false o i = operate [o, i] (getItem o i)
/-- a subscript by values -/
def IxR (X : Cx) (r : R2) : Prop :=
  ∀ (value slice : Expr) (pins : List (Addr × Obj)) (s : Shared) (σ : St) (H : Hp) (x y : V) (v u : Value) (Q : VK), Inv X pins σ H s → RelV x v → RelV y u → r x y H Q →
    subscripted slice false v u = operate [v, u] (getItem v u) → wpAny (model X.prog X.w) X.A (subscriptTail value slice v u) (EP X pins σ Q) X.xe s
/-- a call of a builtin's method by values: the receiver, the arguments -/
def MtR (X : Cx) (id : String) (r : V → List V → Hp → VK → Prop) : Prop :=
  ∀ (pins : List (Addr × Obj)) (s : Shared) (σ : St) (H : Hp) (x : V) (xs : List V) (v : Value) (us : List Value) (Q : VK), Inv X pins σ H s → RelV x v → Vals xs us → r x xs H Q →
    wpAny (model X.prog X.w) X.A (call (.builtin id) (v :: us)) (EP X pins σ Q) X.xe s
section
variable {X : Cx} {a b : Expr} {ta tb : TE} {pos : Pos}
theorem IxR.or {r r' : R2} (h : IxR X r) (h' : IxR X r') : IxR X (fun x y H Q => r x y H Q ∨ r' x y H Q) := by
  intro value slice pins s σ H x y v u Q I rx ry q hs
  rcases q with q | q
  · exact h value slice pins s σ H x y v u Q I rx ry q hs
  · exact h' value slice pins s σ H x y v u Q I rx ry q hs
theorem MtR.or {id : String} {r r' : V → List V → Hp → VK → Prop} (h : MtR X id r) (h' : MtR X id r') : MtR X id (fun x xs H Q => r x xs H Q ∨ r' x xs H Q) := by
  intro pins s σ H x xs v us Q I rx rs q
  rcases q with q | q
  · exact h pins s σ H x xs v us Q I rx rs q
  · exact h' pins s σ H x xs v us Q I rx rs q
/-- a[b] -/
theorem pe_ix {r : R2} (hr : IxR X r) (ha : PE X a ta) (hb : PE X b tb) (hs : PlainIx b) : PE X (.Subscript a b pos) (tOp r ta tb) := by
  intro pins s σ H Q I h
  exact Subscript_ (binT ha hb I h fun v u s2 x y H2 I2 rx ry q => hr a b pins s2 σ H2 x y v u Q I2 rx ry q (hs _ _))

def rIxL (K : PySem.W.Frag) : R2 := fun x y H Q => ∃ p xs i v, x = .ref p ∧ y = .int i ∧ SqL K H p xs ∧ atI xs i = some v ∧ Q v H
def rIxT (K : PySem.W.Frag) : R2 := fun x y H Q => ∃ p xs i v, x = .ref p ∧ y = .int i ∧ SqT K H p xs ∧ atI xs i = some v ∧ Q v H
theorem ix_list : IxR X (rIxL X.K) := by
  intro value slice pins s σ H x y v u Q I rx ry h hs
  obtain ⟨p, xs, i, z, rfl, rfl, hq, he, q⟩ := h
  cases rx
  obtain ⟨t, rfl⟩ := ry
  obtain ⟨its, r, pl, hz⟩ := I.list hq
  obtain ⟨j, h1, h2, h3, h4, h5⟩ := atI_get he
  obtain ⟨w, ew, rw'⟩ := r.get h2
  have hl := r.length
  have hn := line63
  have fin : EP X pins σ Q w s := ⟨z, H, I, rw', q⟩
  by_cases h0 : 0 ≤ i
  · have hj : i.toNat = j := by
      rw [seqIndex_of h0 h5] at h1
      exact Option.some.inj h1
    exact item_listR pl.isList h0 (by omega) (by rw [hj]; simpa using ew) fin hs
  · have hj : (i + (its.toArray.size : Int)).toNat = j := by
      rw [seqIndex_neg (by omega) h4] at h1
      rw [List.size_toArray, ← hl]
      exact Option.some.inj h1
    exact subscriptTail_builtinR (x := w) pl.isList.typeIs slot_list_getitem.lookup
      (wpAny_getItem_list_neg (Q := fun r s' => r = w ∧ EP X pins σ Q r s') pl.isList (by omega) (by rw [List.size_toArray] <;> omega) (by omega) (by rw [hj]; simpa using ew) ⟨rfl, fin⟩) hs
theorem ix_tup : IxR X (rIxT X.K) := by
  intro value slice pins s σ H x y v u Q I rx ry h hs
  obtain ⟨p, xs, i, z, rfl, rfl, hq, he, q⟩ := h
  cases rx
  obtain ⟨t, rfl⟩ := ry
  obtain ⟨its, r, pl, hz⟩ := I.tuple hq
  obtain ⟨j, h1, h2, h3, h4, h5⟩ := atI_get he
  obtain ⟨w, ew, rw'⟩ := r.get h2
  have hl := r.length
  have hn := line63
  have fin : EP X pins σ Q w s := ⟨z, H, I, rw', q⟩
  exact subscriptTail_builtinR (x := w) pl.typeIs slot_tuple_getitem.lookup
    (getItem_tuple (j := j) (Q := fun r s' => r = w ∧ EP X pins σ Q r s') pl (by omega) (by omega) (by rw [List.size_toArray, ← hl]; exact h1) (by simpa using ew) ⟨rfl, fin⟩) hs
/-! ### xs[i] = v, any sign -/
/-- the list's object behind a store -/
theorem mapSeq_set (its : List Value) (n j : Nat) (u : Value) : Obj.mapSeq (·.setIfInBounds j u) { cls := .type "list", data := .seq its.toArray n } = { cls := .type "list", data := .seq (its.set j u).toArray n } := by
  simp [Obj.mapSeq]
theorem Inv.lst {pins : List (Addr × Obj)} {σ : St} {H : Hp} {s : Shared} {p : Addr} {xs : List V} (I : Inv X pins σ H s) (h : H p = some (.lst xs)) :
    ∃ (its : List Value) (n : Nat), Vals xs its ∧ s.heap.get? p = some { cls := .type "list", data := .seq its.toArray n } ∧ xs.length ≤ sizeLine := by
  obtain ⟨z, its, n, r, e⟩ := I.hok p _ h
  exact ⟨its, n, r, e, z⟩
/-- the list at p is written by an update of its object -/
theorem Inv.lstUpd {pins : List (Addr × Obj)} {σ : St} {H : Hp} {s : Shared} {p : Addr} {xs ys : List V} {its its' : List Value} {n n' : Nat} {f : Obj → Obj} (I : Inv X pins σ H s) (h : H p = some (.lst xs))
    (ho : s.heap.get? p = some { cls := .type "list", data := .seq its.toArray n }) (hf : f { cls := .type "list", data := .seq its.toArray n } = { cls := .type "list", data := .seq its'.toArray n' }) (r : Vals ys its') (hz : ys.length ≤ sizeLine) (t : Nat) :
    Inv X pins σ (upd H p (.lst ys)) { s with heap := s.heap.update p f, toks := t } := by
  have e : (s.heap.update p f).get? p = some { cls := .type "list", data := .seq its'.toArray n' } := by
    rw [Heap.get?_update_self f ho (by rw [hf] <;> rfl), hf]
  refine I.write (x := p) (e := p) (by rw [h]; trivial) (.inl rfl) (fun b u hb q => (Heap.get?_update_other _ _ (Ne.symm hb)).trans q) ⟨_, e⟩ ?_
  exact ⟨hz, its', n', r, e⟩
def rSetL : V → V → V → Hp → (Hp → Prop) → Prop := fun o i v H Q => ∃ p xs k j, o = .ref p ∧ i = .int k ∧ H p = some (.lst xs) ∧ ixN xs.length k = some j ∧ Q (upd H p (.lst (xs.set j v)))
theorem set_list : PSet X rSetL := by
  intro pins s σ H o i v ov iv u Q I ro ri rv h
  obtain ⟨p, xs, k, j, rfl, rfl, hp, hj, q⟩ := h
  cases ro
  obtain ⟨t, rfl⟩ := ri
  obtain ⟨its, n, r, ho, hz⟩ := I.lst hp
  obtain ⟨h1, h2, h3, h4⟩ := ixN_seq hj
  have hl := r.length
  have hn := line63
  have I' : Inv X pins σ (upd H p (.lst (xs.set j v))) { s with heap := s.heap.update p (Obj.mapSeq (·.setIfInBounds j u)) } :=
    I.lstUpd hp ho (mapSeq_set its n j u) (r.set rv j) (by rw [List.length_set]; exact hz) s.toks
  by_cases h0 : 0 ≤ k
  · have hk : k.toNat = j := by
      rw [seqIndex_of h0 h4] at h1
      exact Option.some.inj h1
    exact PySem.W.ki_setAt ho h0 (by omega) (by rw [List.size_toArray, ← hl]; exact h4) (by rw [hk]; exact ⟨_, I', q⟩)
  · have hk : (k + (its.toArray.size : Int)).toNat = j := by
      rw [seqIndex_neg (by omega) h3] at h1
      rw [List.size_toArray, ← hl]
      exact Option.some.inj h1
    exact PySem.W.ki_setBack ho (by omega) (by rw [List.size_toArray, ← hl]; exact h3) (by omega) (by rw [hk]; exact ⟨_, I', q⟩)

/-! ### slices -/
theorem slice_bounds (lo hi : Option Int) (n : Nat) : (sliceBounds lo hi none n).1 = ((HT.sIx n 0 lo : Nat) : Int) ∧ (sliceBounds lo hi none n).2.1 = ((HT.sIx n n hi : Nat) : Int) ∧ (sliceBounds lo hi none n).2.2 = 1 := by
  refine ⟨?_, ?_, rfl⟩
  · cases lo with
    | none => simp [sliceBounds, HT.sIx]
    | some i =>
      simp only [sliceBounds, HT.sIx, Option.getD_none, show (1 : Int) > 0 by decide, if_true]
      by_cases h : i < 0
      · simp only [h, if_true] <;> omega
      · simp only [h, if_false] <;> omega
  · cases hi with
    | none => simp [sliceBounds, HT.sIx]
    | some i =>
      simp only [sliceBounds, HT.sIx, Option.getD_none, show (1 : Int) > 0 by decide, if_true]
      by_cases h : i < 0
      · simp only [h, if_true] <;> omega
      · simp only [h, if_false] <;> omega
theorem slicePick_cut (its : List Value) (lo hi : Option Int) : slicePick its.toArray lo hi none = ((its.drop (HT.sIx its.length 0 lo)).take (HT.sIx its.length its.length hi - HT.sIx its.length 0 lo)).toArray := by
  obtain ⟨h1, h2, h3⟩ := slice_bounds lo hi its.toArray.size
  unfold slicePick
  rw [h1, h2, h3]
  simp only [sliceRange_one, pick_run, List.size_toArray] <;> rfl
/-- xs[lo:hi] of a list: a new list -/
def rSlL (K : PySem.W.Frag) : V → Option Int → Option Int → Hp → VK → Prop := fun x lo hi H Q => ∃ a xs, x = .ref a ∧ SqL K H a xs ∧ ∀ p, H p = none → Q (.ref p) (upd H p (.lst (cutV xs lo hi)))
theorem sl_list : SlR X (rSlL X.K) := by
  intro pins s σ H x v vl vu lo hi sl Q I rx hs pl pu h
  obtain ⟨a, xs, rfl, hx, q⟩ := h
  cases rx
  obtain ⟨its, r, ht, hz⟩ := I.list hx
  have hlen := r.length
  refine ⟨"list", _, slot_list_getitem.lookup, ht.isList.typeIs, ?_⟩
  refine wpAny_getItem_list_slice ht.isList hs pl pu .none (by simp) ?_ (by rw [List.size_toArray] <;> omega)
  rw [slicePick_cut, ← hlen]
  refine ⟨.ref s.heap.objs.size, _, I.laid (t' := s.toks) (o := .lst (cutV xs lo hi)) (fun b ob q => Heap.get?_push_of_some _ q) (Nat.le_refl _) ?_, rfl, q _ (I.hok.fresh (Nat.le_refl _))⟩
  exact ⟨Nat.le_trans (cutV_length xs lo hi) hz, _, 0, (r.drop (HT.sIx xs.length 0 lo)).take (HT.sIx xs.length xs.length hi - HT.sIx xs.length 0 lo), Heap.get?_push_size _ rfl⟩

/-! ### in, not in: flat items -/
def flatV : V → Bool
  | .non => true
  | .bl _ => true
  | .int _ => true
  | .str _ => true
  | _ => false
/-- == of flat values -/
def eqV : V → V → Bool
  | .non, .non => true
  | .bl a, .bl b => a == b
  | .bl a, .int b => (if a then 1 else 0) == b
  | .int a, .bl b => a == (if b then 1 else 0)
  | .int a, .int b => a == b
  | .str a, .str b => a == b
  | _, _ => false
theorem eqAt_V {A : Around} {s : Shared} {y x : V} {u v : Value} (ry : RelV y u) (rx : RelV x v) (fy : flatV y = true) (fx : flatV x = true) : SeqAt.EqAt A s u v (eqV y x) := by
  cases y with
  | non =>
    cases ry
    cases x with
    | non => cases rx; exact SeqAt.EqAt.same _
    | bl b => cases rx; exact SeqAt.EqAt.none_bool b
    | int b => obtain ⟨t, rfl⟩ := rx; exact SeqAt.EqAt.none_int b t
    | str b => obtain ⟨t, rfl⟩ := rx; exact SeqAt.EqAt.none_str b t
    | _ => exact absurd (show false = true from fx) Bool.false_ne_true
  | bl a =>
    cases ry
    cases x with
    | non => cases rx; exact SeqAt.EqAt.bool_none a
    | bl b => cases rx; exact SeqAt.EqAt.bool_bool a b
    | int b => obtain ⟨t, rfl⟩ := rx; exact SeqAt.EqAt.bool_int a b t
    | str b => obtain ⟨t, rfl⟩ := rx; exact SeqAt.EqAt.bool_str a b t
    | _ => exact absurd (show false = true from fx) Bool.false_ne_true
  | int a =>
    obtain ⟨t', rfl⟩ := ry
    cases x with
    | non => cases rx; exact SeqAt.EqAt.int_none a t'
    | bl b => cases rx; exact SeqAt.EqAt.int_bool a t' b
    | int b => obtain ⟨t, rfl⟩ := rx; exact SeqAt.EqAt.int_int a t' b t
    | str b => obtain ⟨t, rfl⟩ := rx; exact SeqAt.EqAt.int_str a t' b t
    | _ => exact absurd (show false = true from fx) Bool.false_ne_true
  | str a =>
    obtain ⟨t', rfl⟩ := ry
    cases x with
    | non => cases rx; exact SeqAt.EqAt.str_none a t'
    | bl b => cases rx; exact SeqAt.EqAt.str_bool a t' b
    | int b => obtain ⟨t, rfl⟩ := rx; exact SeqAt.EqAt.str_int a t' b t
    | str b => obtain ⟨t, rfl⟩ := rx; exact SeqAt.EqAt.str_str a t' b t
    | _ => exact absurd (show false = true from fx) Bool.false_ne_true
  | _ => exact absurd (show false = true from fy) Bool.false_ne_true
/-- the items' answers, read off the values (a value's own answer does not lean on its token) -/
def eqU (x : V) (u : Value) : Bool := match u with
  | .none => eqV .non x
  | .bool b => eqV (.bl b) x
  | .int i _ => eqV (.int i) x
  | .str z _ => eqV (.str z) x
  | _ => false
theorem eqU_of {x y : V} {u : Value} (r : RelV y u) (f : flatV y = true) : eqU x u = eqV y x := by
  cases y with
  | non => cases r; rfl
  | bl b => cases r; rfl
  | int i => obtain ⟨t, rfl⟩ := r; rfl
  | str z => obtain ⟨t, rfl⟩ := r; rfl
  | _ => exact absurd (show false = true from f) Bool.false_ne_true
theorem any_eqU {x : V} : ∀ {xs : List V} {us : List Value}, Vals xs us → xs.all flatV = true → us.any (eqU x) = xs.any fun y => eqV y x
  | _, _, .nil, _ => rfl
  | y :: xs, u :: us, .cons r t, f => by
    rw [List.all_cons, Bool.and_eq_true] at f
    rw [List.any_cons, List.any_cons, eqU_of r f.1, any_eqU t f.2]
theorem mem_eqAt {A : Around} {s : Shared} {x : V} {v : Value} (rx : RelV x v) (fx : flatV x = true) : ∀ {xs : List V} {us : List Value}, Vals xs us → xs.all flatV = true → ∀ u ∈ us, SeqAt.EqAt A s u v (eqU x u)
  | _, _, .nil, _ => fun u hu => by cases hu
  | y :: xs, u :: us, .cons r t, f => fun u' hu => by
    rw [List.all_cons, Bool.and_eq_true] at f
    rcases List.mem_cons.mp hu with rfl | hu
    · rw [eqU_of r f.1]; exact eqAt_V r rx f.1 fx
    · exact mem_eqAt rx fx t f.2 u' hu
def inV (x : V) (xs : List V) : Bool := xs.any fun y => eqV y x
/-- x in a list or tuple of flat items -/
def rIn (K : PySem.W.Frag) (neg : Bool) : R2 := fun x y H Q => ∃ p xs, y = .ref p ∧ (SqL K H p xs ∨ SqT K H p xs) ∧ flatV x = true ∧ xs.all flatV = true ∧ Q (.bl (if neg then !inV x xs else inV x xs)) H
theorem op_in_seq : OpR X (compareOp .In) (rIn X.K false) := by
  intro pins s σ H x y v u Q I rx ry h
  obtain ⟨p, xs, rfl, hq, fx, fs, q⟩ := h
  cases ry
  rcases hq with hq | hq
  · obtain ⟨its, r, pl, hz⟩ := I.list hq
    refine SeqAt.in_listAt (eqU x) pl.isList (fun w hw => mem_eqAt rx fx r fs w (by simpa using hw)) ⟨.bl _, H, I, rfl, ?_⟩
    rw [show its.toArray.any (eqU x) = its.any (eqU x) by simp, any_eqU r fs]
    exact q
  · obtain ⟨its, r, pl, hz⟩ := I.tuple hq
    refine SeqAt.in_tupleAt (eqU x) pl (fun w hw => mem_eqAt rx fx r fs w (by simpa using hw)) ⟨.bl _, H, I, rfl, ?_⟩
    rw [show its.toArray.any (eqU x) = its.any (eqU x) by simp, any_eqU r fs]
    exact q
theorem op_notIn_seq : OpR X (compareOp .NotIn) (rIn X.K true) := by
  intro pins s σ H x y v u Q I rx ry h
  obtain ⟨p, xs, rfl, hq, fx, fs, q⟩ := h
  cases ry
  rcases hq with hq | hq
  · obtain ⟨its, r, pl, hz⟩ := I.list hq
    refine SeqAt.notIn_listAt (eqU x) pl.isList (fun w hw => mem_eqAt rx fx r fs w (by simpa using hw)) ⟨.bl _, H, I, rfl, ?_⟩
    rw [show its.toArray.any (eqU x) = its.any (eqU x) by simp, any_eqU r fs]
    exact q
  · obtain ⟨its, r, pl, hz⟩ := I.tuple hq
    refine SeqAt.notIn_tupleAt (eqU x) pl (fun w hw => mem_eqAt rx fx r fs w (by simpa using hw)) ⟨.bl _, H, I, rfl, ?_⟩
    rw [show its.toArray.any (eqU x) = its.any (eqU x) by simp, any_eqU r fs]
    exact q
/-! ### len, list(x), tuple(x) of any list or tuple that is read -/
theorem call_len_seq : CallR X (.builtin "len") (fun xs H Q => ∃ p ys, xs = [.ref p] ∧ (SqL X.K H p ys ∨ SqT X.K H p ys) ∧ Q (.int ys.length) H) := by
  intro pins s σ H xs us Q I r h
  obtain ⟨p, ys, rfl, hq, q⟩ := h
  obtain ⟨u, rfl, rx⟩ := vals1 r
  cases rx
  have hn := line63
  rcases hq with hq | hq
  · obtain ⟨its, r', pl, hz⟩ := I.list hq
    have hlen := r'.length
    exact Calls.call_len_list pl.isList (by simp only [List.size_toArray] <;> omega) ⟨.int ys.length, H, I.tok _, ⟨s.toks + 1, by rw [List.size_toArray, hlen]⟩, q⟩
  · obtain ⟨its, r', pl, hz⟩ := I.tuple hq
    have hlen := r'.length
    exact len_tuple pl (by simp only [List.size_toArray] <;> omega) ⟨.int ys.length, H, I.tok _, ⟨s.toks + 1, by rw [List.size_toArray, hlen]⟩, q⟩
theorem call_len_str : CallR X (.builtin "len") (fun xs H Q => ∃ z, xs = [.str z] ∧ z.length ≤ sizeLine ∧ Q (.int z.length) H) := by
  intro pins s σ H xs us Q I r h
  obtain ⟨z, rfl, hz, q⟩ := h
  obtain ⟨u, rfl, t, rfl⟩ := vals1 r
  have hn := line63
  exact len_str (by omega) ⟨.int z.length, H, I.tok _, ⟨_, rfl⟩, q⟩
theorem CallR.or {f : Value} {r r' : List V → Hp → VK → Prop} (h : CallR X f r) (h' : CallR X f r') : CallR X f (fun xs H Q => r xs H Q ∨ r' xs H Q) := by
  intro pins s σ H xs us Q I rs q
  rcases q with q | q
  · exact h pins s σ H xs us Q I rs q
  · exact h' pins s σ H xs us Q I rs q
theorem call_list_of : CallR X (.type "list") (fun xs H Q => ∃ p ys, xs = [.ref p] ∧ (SqL X.K H p ys ∨ SqT X.K H p ys) ∧ ∀ l, H l = none → Q (.ref l) (upd H l (.lst ys))) := by
  intro pins s σ H xs us Q I r h
  obtain ⟨p, ys, rfl, hq, q⟩ := h
  obtain ⟨u, rfl, rx⟩ := vals1 r
  cases rx
  have fin : ∀ (its : List Value), Vals ys its → ys.length ≤ sizeLine → ∀ (h' : Heap) (c' : Nat), (∀ b o', s.heap.get? b = some o' → h'.get? b = some o') →
      h'.get? s.heap.objs.size = some { cls := .type "list", dict := none, data := .seq its.toArray c', slots := #[] } → EP X pins σ Q (.ref s.heap.objs.size) { s with heap := h' } := fun its r' hz h' c' kp e =>
    ⟨.ref s.heap.objs.size, _, I.laid (t' := s.toks) kp (Nat.le_refl _) (show ObjOk X.prog X.w _ h' _ (.lst ys) from ⟨hz, its, c', r', e⟩), rfl, q _ (I.hok.fresh (Nat.le_refl _))⟩
  rcases hq with hq | hq
  · obtain ⟨its, r', pl, hz⟩ := I.list hq
    have hlen := r'.length
    obtain ⟨o, ho, hc, n, hd⟩ := pl.isList
    exact call_list_seq p (.inl rfl) ho hc hd (fun h' c' kp e => fin its r' hz h' c' kp e) (by simp only [List.size_toArray] <;> omega)
  · obtain ⟨its, r', pl, hz⟩ := I.tuple hq
    have hlen := r'.length
    obtain ⟨o, ho, hc, n, hd⟩ := pl
    exact call_list_seq p (.inr rfl) ho hc hd (fun h' c' kp e => fin its r' hz h' c' kp e) (by simp only [List.size_toArray] <;> omega)
/-! ### the call of a builtin's method: o.m(..) -/
/-- the value is of that builtin type -/
def tyV (K : PySem.W.Frag) (T : String) (x : V) (H : Hp) : Prop := match x with
  | .str _ => T = "str"
  | .int _ => T = "int"
  | .ref p => (T = "list" ∧ ∃ xs, SqL K H p xs) ∨ (T = "tuple" ∧ ∃ o, K.lookup p = some o ∧ o.cls = .type "tuple" ∧ o.dict = none) ∨
      (T = "dict" ∧ ((∃ kvs, H p = some (.dK kvs)) ∨ ∃ kvs, H p = some (.dT kvs))) ∨ (T = "set" ∧ ∃ S n, H p = some (.set S n))
  | _ => False
theorem tyV_is {pins : List (Addr × Obj)} {σ : St} {H : Hp} {s : Shared} {T : String} {x : V} {v : Value} (I : Inv X pins σ H s) (r : RelV x v) (ty : tyV X.K T x H) :
    s.TypeIs v T ∧ ∀ a, v = .ref a → ∃ ob, s.heap.get? a = some ob ∧ ob.dict = none := by
  cases x with
  | str z =>
    obtain ⟨t, rfl⟩ := r
    cases (show T = "str" from ty)
    exact ⟨typeIs_str s z t, fun _ e => nomatch e⟩
  | int i =>
    obtain ⟨t, rfl⟩ := r
    cases (show T = "int" from ty)
    exact ⟨typeIs_int s i t, fun _ e => nomatch e⟩
  | ref p =>
    cases r
    rcases ty with ⟨rfl, xs, hq⟩ | ⟨rfl, o, hk, hc, hd⟩ | ⟨rfl, hk⟩ | ⟨rfl, S, n, hk⟩
    · obtain ⟨its, _, pl, _⟩ := I.list hq
      refine ⟨pl.isList.typeIs, fun a e => ?_⟩
      cases e
      obtain ⟨o, n, e, c, hd, _⟩ := pl
      exact ⟨o, e, hd⟩
    · refine ⟨⟨o, I.kIn p o hk, hc⟩, fun a e => ?_⟩
      cases e
      exact ⟨o, I.kIn _ o hk, hd⟩
    · have z : ∃ o, s.heap.get? p = some o ∧ o.ExactDict := by
        rcases hk with ⟨kvs, hk⟩ | ⟨kvs, hk⟩
        · obtain ⟨_, _, _, _, o, _, _, e, ex, _⟩ := I.hok p _ hk
          exact ⟨o, e, ex⟩
        · obtain ⟨_, _, _, _, o, _, _, e, ex, _⟩ := I.hok p _ hk
          exact ⟨o, e, ex⟩
      obtain ⟨o, e, ex⟩ := z
      refine ⟨⟨o, e, ex.1⟩, fun a e2 => ?_⟩
      cases e2
      exact ⟨o, e, ex.2.1⟩
    · obtain ⟨o, _, _, _, e, ex, _⟩ := I.hok p _ hk
      refine ⟨⟨o, e, ex.1⟩, fun a e2 => ?_⟩
      cases e2
      exact ⟨o, e, ex.2.1⟩
  | _ => exact False.elim ty
def tBM0 (K : PySem.W.Frag) (T : String) (r : V → List V → Hp → VK → Prop) (to : TE) : TE := fun σ H Q => to σ H fun x H1 => tyV K T x H1 ∧ r x [] H1 Q
def tBM (K : PySem.W.Frag) (T : String) (r : V → List V → Hp → VK → Prop) (to : TE) (t : TA) : TE := fun σ H Q => to σ H fun x H1 => tyV K T x H1 ∧ t σ H1 fun xs H2 => r x xs H2 Q
variable {o e : Expr} {es : List Expr} {to : TE} {t : TA} {name : Str} {apos cpos : Pos} {T id : String} {r : V → List V → Hp → VK → Prop}
/- xs.append(e), list.index on a module's tuple .. are MtR facts of 06m -/
end
end L2

namespace L2
open PySem PySem.Spec PyProof.Rows

def MtM (X : Cx) (id : String) (r : V → List V → Hp → VK → Prop) : Prop :=
  ∀ (pins : List (Addr × Obj)) (s : Shared) (σ : St) (H : Hp) (x : V) (xs : List V) (v : Value) (us : List Value) (Q : VK), Inv X pins σ H s → RelV x v → Vals xs us → r x xs H Q →
    wpAny (model X.prog X.w) X.A (call (.builtin id) (v :: us)) (EP X pins σ Q) X.xe s

/-! ### lists of values -/
theorem Vals.one : ∀ {x : V} {us : List Value}, Vals [x] us → ∃ u, us = [u] ∧ RelV x u
  | _, _, .cons r .nil => ⟨_, rfl, r⟩
theorem Vals.two : ∀ {x y : V} {us : List Value}, Vals [x, y] us → ∃ u v, us = [u, v] ∧ RelV x u ∧ RelV y v
  | _, _, _, .cons r (.cons q .nil) => ⟨_, _, rfl, r, q⟩
theorem Vals.zero : ∀ {us : List Value}, Vals [] us → us = []
  | _, .nil => rfl
section
variable {X : Cx} {pins : List (Addr × Obj)} {σ : St} {H : Hp} {s : Shared} {l b : Addr} {xs ys zs : List V}

/-! ### the two steps: a tracked list is rewritten, a new list is laid -/
theorem Inv.lset {its its' : List Value} {n : Nat} {f : Array Value → Array Value} {t' : Nat} (I : Inv X pins σ H s) (hH : H l = some (.lst xs))
    (e : s.heap.get? l = some { cls := .type "list", data := .seq its.toArray n }) (hf : f its.toArray = its'.toArray) (hv : Vals ys its') (hz : ys.length ≤ sizeLine) :
    Inv X pins σ (upd H l (.lst ys)) { s with heap := s.heap.update l (Obj.mapSeq f), toks := t' } := by
  have q := PySem.IsL.update e f
  rw [hf] at q
  refine I.write (x := l) (e := l) (by rw [hH]; exact trivial) (.inl rfl) (fun b' u hb hu => (Heap.get?_update_other s.heap (Obj.mapSeq f) (Ne.symm hb)).trans hu) ⟨_, q⟩ ?_
  exact ⟨hz, its', _, hv, q⟩
theorem Inv.lnew {its : List Value} {t' : Nat} (I : Inv X pins σ H s) (hv : Vals ys its) (hz : ys.length ≤ sizeLine) :
    Inv X pins σ (upd H s.heap.objs.size (.lst ys)) { s with heap := s.heap.push { cls := .type "list", data := .seq its.toArray }, toks := t' } :=
  I.laid (fun _ _ q => Heap.get?_push_of_some _ q) (Nat.le_refl _) ⟨hz, its, 0, hv, Heap.get?_push_size _ rfl⟩
theorem Inv.fresh (I : Inv X pins σ H s) : H s.heap.objs.size = none := I.hok.fresh (Nat.le_refl _)
theorem Inv.lstM (I : Inv X pins σ H s) (hH : H l = some (.lst xs)) : xs.length ≤ sizeLine ∧ ∃ (its : List Value) (n : Nat), Vals xs its ∧ xs.length = its.length ∧ s.heap.get? l = some { cls := .type "list", data := .seq its.toArray n } := by
  obtain ⟨z, its, n, r, e⟩ := I.hok l _ hH
  exact ⟨z, its, n, r, r.length, e⟩

end

section
variable {X : Cx}

/-! ### methods -/
def rAppend : V → List V → Hp → VK → Prop := fun x vs H Q => ∃ l xs y, x = .ref l ∧ vs = [y] ∧ H l = some (.lst xs) ∧ xs.length < sizeLine ∧ Q .non (upd H l (.lst (xs ++ [y])))
theorem mt_append : MtM X "list.append" rAppend := by
  intro pins s σ H x vs v us Q I rx rv h
  obtain ⟨l, xs, y, rfl, rfl, hH, hz, q⟩ := h
  cases rx
  obtain ⟨u, rfl, ru⟩ := rv.one
  obtain ⟨z, its, n, r, hl, e⟩ := I.lstM hH
  refine call_meets F.slot_list_append ⟨_, e, rfl⟩ F.entry_list_append (F.args_list_append_2 _ _) (PySem.list_append l its.toArray n u (by rw [List.size_toArray]; omega)) ⟨e, ?_⟩
  refine ⟨.non, _, I.lset (its' := its ++ [u]) hH e (by simp) (r.append (.cons ru .nil)) ?_, rfl, q⟩
  rw [List.length_append, List.length_singleton]
  omega

/-! ### list + list, list += list, list * int -/
def rCat : R2 := fun x y H Q => ∃ l b xs zs, x = .ref l ∧ y = .ref b ∧ H l = some (.lst xs) ∧ H b = some (.lst zs) ∧ xs.length + zs.length ≤ sizeLine ∧ ∀ p, H p = none → Q (.ref p) (upd H p (.lst (xs ++ zs)))
theorem op_cat : OpR X (binaryOp .Add) rCat := by
  intro pins s σ H x y v u Q I rx ry h
  obtain ⟨l, b, xs, zs, rfl, rfl, hH, hB, hz, q⟩ := h
  cases rx
  cases ry
  obtain ⟨z, its, n, r, hl, e⟩ := I.lstM hH
  obtain ⟨z2, its2, n2, r2, hl2, e2⟩ := I.lstM hB
  refine PySem.P.add_list e e2 ?_ (by rw [List.size_toArray, List.size_toArray]; omega)
  have ea : its.toArray ++ its2.toArray = (its ++ its2).toArray := by simp
  rw [ea]
  exact ⟨.ref _, _, I.lnew (t' := s.toks) (r.append r2) (by rw [List.length_append]; omega), rfl, q _ I.fresh⟩
/-! ### del xs[i] -/
end

/-! ### xs[a:b] = ys -/
section
variable {prog : Program} {w : World} {A : Around} {E : Value → Shared → Prop} {s : Shared}
end

section
variable {X : Cx}
end
end L2

namespace Att
open PySem PySem.W PySem.Calls PyProof.Rows

/-! ### the script -/
theorem ints_of_wellAll {P : Params} {h : Heap} : ∀ (ns : List Int) (vs : List Value), WellAll P h vs (ns.map WData.int) → IntsAre vs ns := by
  intro ns
  induction ns with
  | nil =>
    intro vs w
    rw [List.map_nil] at w
    cases w
    exact .nil
  | cons n ns ih =>
    intro vs w
    rw [List.map_cons] at w
    cases w with
    | cons a b =>
      cases a
      exact .cons _ _ (ih _ b)

theorem script_of {l : OpenLaw} {n : Nat} (hn : l.most = some n) {P : Params} {h : Heap} {args : List WData} {vals : List Value}
    (hpre : l.row.toRowW.claim.pre args = true) (hwl : WellAll P h vals args) :
    ∃ a vs ns, vals = [Value.ref a] ∧ args = [WData.list (ns.map WData.int)] ∧ h.get? a = some { cls := .type "list", data := .seq vs.toArray } ∧ IntsAre vs ns ∧ ns.length ≤ n := by
  have hsh : WShape.hasAll [] args [.list .int] = true := (pre_splitW hpre).1
  have hc : l.pre.holds [] { args := args } = true := (pre_splitW hpre).2
  obtain ⟨d, r, rfl, h1, h2⟩ := hasAllW_cons hsh
  obtain rfl := hasAllW_nil h2
  obtain ⟨xs, rfl, h3⟩ := hasW_list h1
  obtain ⟨ns, rfl⟩ := items_int h3
  have hlen : ns.length ≤ n := by
    unfold OpenLaw.pre at hc
    have h4 : (WTm.not (.lt (.lit (.int (n : Int))) (.len (.arg 0)))).holds [] { args := [.list (ns.map .int)] } = true := by
      have h4 := (holds_andW hc).1
      rw [hn] at h4
      exact h4
    have h5 := condW_of h4 (w_not (w_lt w_lit (w_len_list (w_arg rfl))))
    rw [List.length_map] at h5
    refine Nat.le_of_not_lt fun q => ?_
    have q' : (n : Int) < ((ns.length : Nat) : Int) := by omega
    first
      | (rw [decide_eq_true q'] at h5; exact absurd h5 (by decide))
      | (simp at h5; omega)
  cases hwl with
  | cons w1 w2 =>
    cases w2
    cases w1 with
    | list ho hall => exact ⟨_, _, ns, rfl, rfl, ho, ints_of_wellAll ns _ hall, hlen⟩

theorem post_true (l : OpenLaw) (args : List WData) : l.row.toRowW.claim.post args (.bool true) args = true :=
  postW_of (r := l.row.toRowW) (X := (true == true))
    (show WShape.has [] (.bool true) .bool = true by first | rfl | decide | simp [WShape.has, WShape.arms, WShape.armsAll])
    (show (WTm.eq .res (.lit (.bool true))).value [] { args := args, res := some (.bool true), after := args } = some (.bool (true == true)) from w_eq_bool (w_res rfl) w_lit) rfl

/-! ### the attachment: holds_open's last premise (the goal 'hc' behind k_head) from a wpAny of the law's body -/
/-- the same from a codeAny of the CALL (for a layer whose function contracts speak of calls) -/
theorem attach_call {l : OpenLaw} {n : Nat} {q : Program} {loose : List Str} {XP : (Str → Option Value) → Heap → Prop} {YP : World → Heap → Prop} {d : DefRec}
    (hn : l.most = some n) (hdf : d.params.defaults = [])
    (call : ∀ (w : World) (s₀ s₁ : Shared) (mg mb : Str → Option Value) (fa : Addr) (o : Obj) (pm cd doc : Value) (a : Addr) (vs : List Value) (ns : List Int),
      Ground q loose [] XP w s₀ mg mb s₁.heap → YP w s₁.heap →
      s₁.heap.get? fa = some o → o.data = .func (docDef d.name d.params d.body d.scope pm cd doc) → s₁.heap.CodeRec cd d.name → mg d.name = some (.ref fa) →
      s₁.heap.get? a = some { cls := .type "list", data := .seq vs.toArray } → IntsAre vs ns → ns.length ≤ n → s₁.gens = #[] →
      codeAny (model l.prog w) callerA (.call (.ref fa) ⟨[.ref a], []⟩) (fun r s' => r = .ok (.ret (.bool true)) ∧ OldK s₁.heap s'.heap ∧ s'.os = s₁.os ∧ AllBare s'.gens) s₁) :
    WalkO q loose XP YP l.row.toRowW d [] (fun f vs => PySem.call f vs) := by
  intro w s₀ s₁ mg mb G Y fa o pm cd doc dV kV ho hd hcd hD hmg hg args vals as hpre hlay hrd hwl hlo
  obtain rfl : dV = .none := Dflts.none hD hdf
  obtain rfl : kV = .none := Dflts.noKw hD
  obtain ⟨a, vs, ns, rfl, rfl, hobj, hints, hlen⟩ := script_of hn hpre hwl
  refine enter_call (codeAny_mono (call w s₀ s₁ mg mb fa o pm cd doc a vs ns G Y ho (fd_plain hd) hcd hmg hobj hints hlen hg) fun r s' hq => ?_)
  obtain ⟨rfl, h2, h3, h4⟩ := hq
  exact ⟨.inl ⟨.bool true, .bool true, [], rfl, fun _ => rfl, .bool true, post_true l _, fun _ => ⟨List.Pairwise.nil, fun _ hm => (nomatch hm)⟩⟩, h2, h3, h4⟩

/-! ### rules over ANY heap (no ledger) from facts about the written part K: the library's own take a ledger (News) for what they write -/
section
variable {prog : Program} {w : World} {A : Around} {E : Value → Shared → Prop} {s : Shared} {K : Frag}

/-! the whole heap as the ledger: makes every rule that writes through a ledger a rule over any heap -/
def ledger (h : Heap) (L d : Addr) : List (Addr × Obj) := (List.range h.objs.size).filterMap fun a => if a = L ∨ a = d then none else (h.get? a).map fun o => (a, o)
end
end Att

namespace L2
open PySem PySem.Spec PyProof.Rows

theorem vals_ints : ∀ {vs : List Value} {ns : List Int}, IntsAre vs ns → Vals (ns.map V.int) vs
  | _, _, .nil => .nil
  | _, _, .cons n t h => .cons ⟨t, rfl⟩ (vals_ints h)

/-- nothing is tracked but the script, known to the object (or it is an object of the module) -/
def Only (H : Hp) : Prop := ∀ b, H b = none ∨ ∃ o xs, H b = some (.frz o (.lst xs))

/-- THE HEAD: the law's promise, at the heap behind the top. F, the promise of the law's def, may use that base is part of the heap (so K.In base, base.Ns mainGlobals mg stand in Mod) -/
theorem law_call {P : Program} {w : World} {K : PySem.W.Frag} {mg mb : Str → Option Value} {CX : CXT} {k : Nat} {fa a : Addr} {fd : FuncData} {x : Str} {sp : Sp} {s₁ : Shared} {vs : List Value} {ns : List Int}
    (KX : K.In s₁.heap) (hns : s₁.heap.Ns mainGlobals mg) (hb : s₁.heap.Ns builtinsNs mb) (hbb : ∀ x : Str, x ≠ "__name__" → mb x = bootBuiltins x) (hlim : s₁.heap.NoLimit) (hg : s₁.gens = #[])
    (ha : s₁.heap.get? a = some { cls := .type "list", data := .seq vs.toArray }) (hi : IntsAre vs ns) (hl : ns.length ≤ sizeLine) (hr : Room k callerA)
    (F : ∀ base : Heap, K.In base → base.Ns mainGlobals mg → FnOk P w K mg base CX k fa fd [x] sp) (hbind : ∀ (s : Shared) (u : Value), BindsTo s fd ⟨[u], []⟩ [(x, u)])
    (hsp : ∀ H : Hp, Only H → SqL K H a (ns.map V.int) → sp [.ref a] H (fun v _ => v = .bl true) fun _ _ _ => False)
    (hCX : ∀ H e s', CX [] H s₁ (fun _ _ _ => False) e s' → False) :
    codeAny (model P w) callerA (.call (.ref fa) ⟨[.ref a], []⟩) (fun r s' => r = .ok (.ret (.bool true)) ∧ OldK s₁.heap s'.heap ∧ s'.os = s₁.os ∧ AllBare s'.gens) s₁ := by
  have rv := vals_ints hi
  have lenV := hi.length
  -- from an abstract heap in which nothing but the script may be tracked
  have core : ∀ H : Hp, Only H → SqL K H a (ns.map V.int) → HOk P w H s₁.heap → (∀ b, H b ≠ none → b = a) → (H a ≠ none → K.lookup a = none) →
      codeAny (model P w) callerA (.call (.ref fa) ⟨[.ref a], []⟩) (fun r s' => r = .ok (.ret (.bool true)) ∧ OldK s₁.heap s'.heap ∧ s'.os = s₁.os ∧ AllBare s'.gens) s₁ := by
    intro H hO hS hok hA hK
    have base_of : ∀ {b : Addr} {o : Obj}, s₁.heap.get? b = some o → H b = none → (hidT s₁.heap H).get? b = some o := fun e n => hidT_get e n
    have noA : ∀ {b : Addr} {o : Obj} {es : Array DictEntry} {ep : Nat}, s₁.heap.get? b = some o → o.data = .dict es ep → H b = none := fun {b o es ep} e d => by
      cases q : H b with
      | none => rfl
      | some u =>
        have e' : b = a := hA b (by rw [q]; simp)
        subst e'
        rw [ha] at e; cases e
        have d' : Data.seq vs.toArray _ = Data.dict es ep := d
        cases d'
    have nsK : ∀ {b : Addr} {m : Str → Option Value}, s₁.heap.Ns b m → (hidT s₁.heap H).Ns b m := fun {b m} ⟨o, es, ep, e, d, r⟩ => ⟨o, es, ep, base_of e (noA e d), d, r⟩
    have hKb : K.In (hidT s₁.heap H) := fun b o e => base_of (KX b o e) (by
      cases q : H b with
      | none => rfl
      | some u =>
        have e' : b = a := hA b (by rw [q]; simp)
        subst e'
        rw [hK (by rw [q]; simp)] at e; cases e)
    have hM : Mod K mg (hidT s₁.heap H) := ⟨hKb, nsK hns, ⟨mb, nsK hb, hbb⟩, let ⟨mc, h1, h2⟩ := hlim; ⟨mc, nsK h1, h2⟩⟩
    have e0 : Env0 P w K mg (hidT s₁.heap H) callerA [] s₁ H := ⟨rfl, hM, fun b o e => of_hidT e, Nat.le_of_eq (hidT_size _ _), trivial, fun b hb => absurd (show b ∈ ([] : List Addr) from hb) (by simp), hok, .of_eq hg⟩
    refine codeAny_mono ((F _ hKb (nsK hns)).run callerA [] s₁ H ⟨[.ref a], []⟩ [.ref a] [.ref a] _ _ hr e0 (hbind s₁ (.ref a)) (.cons rfl .nil) (hsp H hO hS)) fun r s' h => ?_
    cases r with
    | error e => exact (hCX H e s' h).elim
    | ok fl =>
      cases fl with
      | next => exact False.elim h
      | brk => exact False.elim h
      | cont => exact False.elim h
      | ret u =>
        obtain ⟨v, H', os, bare, un, hok', r', q⟩ := h
        have q' : v = .bl true := q
        subst q'
        obtain rfl : u = Value.bool true := r'
        refine ⟨rfl, OldK.of_keep fun b o e => ?_, os, bare⟩
        cases q : H b with
        | none => exact un.keep b o e q (by intro z; exact absurd (show b ∈ ([] : List Addr) from z) (by simp)) (by simp)
        | some u =>
          rcases hO b with z | ⟨ob, xs, z⟩
          · rw [q] at z; cases z
          · have z2 := un.frzs b ob _ z
            obtain ⟨e1, _⟩ := hok b _ z
            obtain ⟨e2, _⟩ := hok' b _ z2
            rw [e] at e1; cases e1
            exact e2
  cases hk : K.lookup a with
  | some o =>
    -- the script is one of the module's own objects
    have e := KX a o hk
    rw [ha] at e
    cases e
    refine core (fun _ => none) (fun _ => .inl rfl) (.inr ⟨_, vs.toArray, _, hk, rfl, rfl, rfl, by rw [List.size_toArray, lenV]; exact hl, by simpa using rv⟩) (fun b u z => by have z' : (none : Option HO) = some u := z; cases z') (fun b z => absurd rfl z) fun z => absurd rfl z
  | none =>
    refine core (fun b => if b = a then some (.frz { cls := .type "list", data := .seq vs.toArray } (.lst (ns.map V.int))) else none) (fun b => ?_) (.inl (.inr ⟨{ cls := .type "list", data := .seq vs.toArray }, if_pos rfl⟩)) (fun b u z => ?_) (fun b z => ?_) fun _ => hk
    · by_cases hb : b = a
      · exact .inr ⟨_, _, if_pos hb⟩
      · exact .inl (if_neg hb)
    · by_cases hb : b = a
      · have z' := (if_pos hb).symm.trans z
        cases z'
        subst hb
        exact ⟨ha, by rw [List.length_map]; exact hl, vs, _, rv, ha⟩
      · have z' := (if_neg hb).symm.trans z
        cases z'
    · by_cases hb : b = a
      · exact hb
      · exact absurd (if_neg hb) z
end L2

namespace L2
open PySem PySem.Spec PyProof.Rows

abbrev KOf {K : PySem.W.Frag} {h : Heap} (_ : K.In h) : PySem.W.Frag := K

/-- the goal that k_head leaves (case hc), from the law's promise. F gives the function object fd (K's own) once, then the promise over every base -/
theorem walk_of {l : PySem.W.OpenLaw} {n k : Nat} {q : Program} {loose : List Str} {XP : (Str → Option Value) → Heap → Prop} {YP : World → Heap → Prop} {d : DefRec} {K : Params → PySem.W.Frag} {CX : World → CXT} {sp : World → Sp} {x : Str}
    (hn : l.most = some n) (hn2 : n ≤ sizeLine) (hdf : d.params.defaults = []) (hr : Room k callerA)
    (hY : ∀ (w : World) (h : Heap), YP w h → (K w.params).In h)
    (F : ∀ (w : World) (mg : Str → Option Value) (fa : Addr) (h : Heap), (K w.params).In h → h.Ns mainGlobals mg → mg d.name = some (.ref fa) →
      ∃ fd : FuncData, (∀ (s : Shared) (u : Value), BindsTo s fd ⟨[u], []⟩ [(x, u)]) ∧
        ∀ base : Heap, (K w.params).In base → base.Ns mainGlobals mg → FnOk l.prog w (K w.params) mg base (CX w) k fa fd [x] (sp w))
    (hsp : ∀ (w : World) (H : Hp) (a : Addr) (ns : List Int), ns.length ≤ n → Only H → SqL (K w.params) H a (ns.map V.int) → sp w [.ref a] H (fun v _ => v = .bl true) fun _ _ _ => False)
    (hCX : ∀ (w : World) (H : Hp) (s : Shared) (e : Value) (s' : Shared), CX w [] H s (fun _ _ _ => False) e s' → False) :
    PySem.W.WalkO q loose XP YP l.row.toRowW d [] (fun f vs => PySem.call f vs) := by
  refine Att.attach_call hn hdf fun w s₀ s₁ mg mb fa o pm cd doc a vs ns G Y ho hd hcd hmg hobj hints hlen hg => ?_
  have KX := hY w _ Y
  obtain ⟨fd, hb, hF⟩ := F w mg fa _ KX G.T.g hmg
  exact law_call KX G.T.g G.T.b G.T.builtins G.T.nolimit hg hobj hints (Nat.le_trans hlen hn2) hr hF hb (fun H hO hS => hsp w H a ns hlen hO hS) fun H e s' => hCX w H s₁ e s'
/-- the same where the promise hangs on the written part alone: (sp := My.sp_law), no hole under a binder -/
theorem walk_ofK {l : PySem.W.OpenLaw} {n k : Nat} {q : Program} {loose : List Str} {XP : (Str → Option Value) → Heap → Prop} {YP : World → Heap → Prop} {d : DefRec} {K : Params → PySem.W.Frag} {CX : CXT} {sp : PySem.W.Frag → Sp} {x : Str}
    (hn : l.most = some n) (hn2 : n ≤ sizeLine) (hdf : d.params.defaults = []) (hr : Room k callerA)
    (hY : ∀ (w : World) (h : Heap), YP w h → (K w.params).In h)
    (F : ∀ (w : World) (mg : Str → Option Value) (fa : Addr) (h : Heap), (K w.params).In h → h.Ns mainGlobals mg → mg d.name = some (.ref fa) →
      ∃ fd : FuncData, (∀ (s : Shared) (u : Value), BindsTo s fd ⟨[u], []⟩ [(x, u)]) ∧
        ∀ base : Heap, (K w.params).In base → base.Ns mainGlobals mg → FnOk l.prog w (K w.params) mg base CX k fa fd [x] (sp (K w.params)))
    (hsp : ∀ (K : PySem.W.Frag) (H : Hp) (a : Addr) (ns : List Int), ns.length ≤ n → Only H → SqL K H a (ns.map V.int) → sp K [.ref a] H (fun v _ => v = .bl true) fun _ _ _ => False)
    (hCX : ∀ (H : Hp) (s : Shared) (e : Value) (s' : Shared), CX [] H s (fun _ _ _ => False) e s' → False) :
    PySem.W.WalkO q loose XP YP l.row.toRowW d [] (fun f vs => PySem.call f vs) :=
  walk_of (K := K) (CX := fun _ => CX) (sp := fun w => sp (K w.params)) hn hn2 hdf hr hY F (fun w H a ns h1 h2 h3 => hsp (K w.params) H a ns h1 h2 h3) fun _ H s e s' => hCX H s e s'
end L2

/-! SHORT WORDS over the layer: a def of the text, its body, what a loop and a test want. -/
namespace L2
open PySem PySem.Spec PyProof.Rows

/-! ### the text by places -/
/-- the j-th statement of a class's body -/
def inClass (s : Stmt) (j : Nat) : Stmt := match s with
  | .ClassDef _ _ _ body _ _ _ _ _ _ _ => body.getD j (.Pass ⟨0, 0, 0, 0⟩)
  | _ => .Pass ⟨0, 0, 0, 0⟩
def defArgs (s : Stmt) : Arguments := match s with
  | .FunctionDef _ a _ _ _ _ _ _ _ _ => a
  | _ => { posonlyargs := [], args := [], vararg := none, kwonlyargs := [], kw_defaults := [], kwarg := none, defaults := [] }
def defBody (s : Stmt) : List Stmt := match s with
  | .FunctionDef _ _ b _ _ _ _ _ _ _ => b
  | _ => []
def defScope (s : Stmt) : Scope := match s with
  | .FunctionDef _ _ _ _ _ _ sc _ _ _ => sc
  | _ => { kind := .function, names := [], isGenerator := false, isCoroutine := false }

/-! ### no exception leaves a def -/
abbrev CX0 : CXT := fun _ _ _ _ _ _ => False
abbrev E0 : XK := fun _ _ _ => False
theorem pass0 {X : Cx} : Passes CX0 X E0 := fun _ _ _ _ _ _ _ h => h.elim

/-! ### a def (or method) of the text as it stands behind the top -/
structure Fun (K : PySem.W.Frag) (x qual : Str) (st : Stmt) (f : Addr) (fd : FuncData) : Prop where
  ex : ∃ (oc : Value) (od : Option Addr) (kV doc pm : Value) (an : Option Addr) (cdv ct : Value) (osl : Array (Option Value)),
    fd = PySem.W.fnOf x qual (defArgs st) (defBody st) (defScope st) .none kV doc pm an cdv ct ∧ K.lookup f = some ⟨oc, od, .func fd, osl⟩ ∧ PySem.W.codeIn K cdv qual = true
  kp : PySem.W.keepIn K (.ref f) = true
section
variable {P : Program} {w : World} {K : PySem.W.Frag} {mg : Str → Option Value} {base : Heap}
/-- THE RULE for a def: its body as a term of rules, and the reading of that term -/
theorem Fun.ok {x qual : Str} {st : Stmt} {f : Addr} {fd : FuncData} {N ps : List Str} {k : Nat} {sp : Sp} (F : Fun K x qual st f fd) (S : FnScope N ps (defScope st)) (len : ∀ vs H Q E, sp vs H Q E → vs.length = ps.length)
    (hbody : ∀ (cdv : Value) (A : Around) (outer : List Env) (s : Shared) (H : Hp) (vs : List V) (Q : VK) (E : XK), Room k (A.deeper (envOfC qual (defScope st) s.heap.objs.size f cdv)) → sp vs H Q E →
      ∃ t, PSs (cxOf CX0 P w K mg base N qual (defScope st) f cdv A outer s H E).nox (defBody st) t ∧ t { nx := fun _ H' => Q .non H', rt := Q } (start N vs) H) : FnOk P w K mg base CX0 (k + 1) f fd ps sp := by
  obtain ⟨oc, od, kV, doc, pm, an, cdv, ct, osl, rfl, lk, hcd⟩ := F.ex
  refine fn_of lk hcd S len fun A outer s H vs Q E hr hsp => ?_
  obtain ⟨t, h, q⟩ := hbody cdv A outer s H vs Q E hr hsp
  exact ⟨t, h.nox, q⟩
/-- how its arguments bind (no defaults): h is «fun _ _ _ _ _ _ us hl => match us, hl with | [_, _], _ => rfl», one _ a parameter -/
theorem Fun.binds {x qual : Str} {st : Stmt} {f : Addr} {fd : FuncData} {ps : List Str} (F : Fun K x qual st f fd)
    (h : ∀ (kV doc pm : Value) (an : Option Addr) (cdv ct : Value) (us : List Value), us.length = ps.length → bindArgs (PySem.W.fnOf x qual (defArgs st) (defBody st) (defScope st) .none kV doc pm an cdv ct) ⟨us, []⟩ = pure (ps.zip us)) : Binds K fd ps [] := by
  obtain ⟨oc, od, kV, doc, pm, an, cdv, ct, osl, rfl, lk, hcd⟩ := F.ex
  exact .all (h kV doc pm an cdv ct)
theorem fun_mk {x qual : Str} {st : Stmt} {f : Addr} {oc : Value} {od an : Option Addr} {osl : Array (Option Value)} {kV doc pm cdv ct : Value} (l : K.lookup f = some ⟨oc, od, .func (PySem.W.fnOf x qual (defArgs st) (defBody st) (defScope st) .none kV doc pm an cdv ct), osl⟩)
    (c : PySem.W.codeIn K cdv qual = true) (k : PySem.W.keepIn K (.ref f) = true) : Fun K x qual st f (PySem.W.fnOf x qual (defArgs st) (defBody st) (defScope st) .none kV doc pm an cdv ct) := ⟨⟨oc, od, kV, doc, pm, an, cdv, ct, osl, rfl, l, c⟩, k⟩
end
/-! ### expressions in short: the name that stands in the i-th slot -/
section
variable {X : Cx}
theorem pv (i : Nat) {x : Str} {pos : Pos} (hN : X.N[i]? = some x := by rfl) (hv : Vis X.env.scope x := by first | exact Or.inl rfl | exact Or.inr (Or.inl rfl) | exact Or.inr (Or.inr rfl)) (hd : (x == ("__debug__" : Str)) = false := by decide)
    (hcd : (x == ("__classdict__" : Str)) = false := by decide) : PE X (.Name x pos) (tVar i) := pe_var hN hv hd hcd
end

/-! ### tests -/
theorem iteT {A B : Prop} (h : A) : if true = true then A else B := by
  rw [if_pos rfl]
  exact h
theorem ite2 {c A B : Prop} [Decidable c] (h1 : c → A) (h2 : ¬ c → B) : if c then A else B := by
  by_cases h : c
  · rw [if_pos h]
    exact h1 h
  · rw [if_neg h]
    exact h2 h
/-! ### heaps -/
/-- all that was tracked is as it was -/
def Same (H H' : Hp) : Prop := ∀ b o, H b = some o → H' b = some o
theorem Same.refl (H : Hp) : Same H H := fun _ _ h => h
theorem Same.trans {H H1 H2 : Hp} (a : Same H H1) (b : Same H1 H2) : Same H H2 := fun c o h => b c o (a c o h)
theorem Same.free {H H' : Hp} (e : Same H H') {l : Addr} (h : H' l = Option.none) : H l = Option.none := by
  cases q : H l with
  | none => rfl
  | some o =>
    rw [e l o q] at h
    cases h
theorem Same.seq {K : PySem.W.Frag} {H H' : Hp} {a : Addr} {xs : List V} (e : Same H H') (h : SqL K H a xs) : SqL K H' a xs := by
  rcases h with (h | ⟨o, h⟩) | h
  · exact .inl (.inl (e _ _ h))
  · exact .inl (.inr ⟨o, e _ _ h⟩)
  · exact .inr h

end L2
namespace L2
open PySem PySem.Spec PyProof.Rows

/-! ### lists of pairs as tables -/
section
variable {κ : Type} [DecidableEq κ]
def valV (kvs : List (κ × V)) (k : κ) : Option V := (kvs.find? fun kv => decide (kv.1 = k)).map (·.2)
/-- in its place, or at the end -/
def putK (kvs : List (κ × V)) (k : κ) (v : V) : List (κ × V) :=
  if (kvs.any fun kv => decide (kv.1 = k)) = true then kvs.map (fun kv => if kv.1 = k then (kv.1, v) else kv) else kvs ++ [(k, v)]
def dropK (kvs : List (κ × V)) (k : κ) : List (κ × V) := kvs.filter fun kv => decide (kv.1 ≠ k)

theorem valV_pos {p : κ × V} {r : List (κ × V)} {k : κ} (e : p.1 = k) : valV (p :: r) k = some p.2 := by simp [valV, List.find?_cons, e]
theorem valV_neg {p : κ × V} {r : List (κ × V)} {k : κ} (e : ¬ p.1 = k) : valV (p :: r) k = valV r k := by simp [valV, List.find?_cons, e]
theorem valV_any (k : κ) : ∀ kvs : List (κ × V), (kvs.any fun kv => decide (kv.1 = k)) = (valV kvs k).isSome
  | [] => rfl
  | p :: r => by
    rw [List.any_cons]
    by_cases e : p.1 = k
    · simp only [valV_pos e, decide_eq_true e, Bool.true_or, Option.isSome_some]
    · rw [valV_neg e, decide_eq_false e, Bool.false_or]; exact valV_any k r
theorem valV_map (k j : κ) (y : V) : ∀ kvs : List (κ × V), valV (kvs.map fun kv => if kv.1 = k then (kv.1, y) else kv) j = (valV kvs j).map fun x => if j = k then y else x
  | [] => rfl
  | p :: r => by
    have ih := valV_map k j y r
    rw [List.map_cons]
    by_cases h : p.1 = k
    · rw [if_pos h]
      by_cases e : p.1 = j
      · rw [valV_pos (p := (p.1, y)) e, valV_pos e, Option.map_some, if_pos (e.symm.trans h)]
      · rw [valV_neg (p := (p.1, y)) e, valV_neg e, ih]
    · rw [if_neg h]
      by_cases e : p.1 = j
      · rw [valV_pos (p := p) e, valV_pos e, Option.map_some, if_neg (fun z => h (e.trans z))]
      · rw [valV_neg (p := p) e, valV_neg e, ih]
theorem valV_snoc (k j : κ) (y : V) : ∀ kvs : List (κ × V), valV kvs k = none → valV (kvs ++ [(k, y)]) j = if j = k then some y else valV kvs j
  | [], _ => by
    by_cases e : k = j
    · rw [if_pos e.symm]; exact valV_pos (p := (k, y)) e
    · rw [if_neg (fun z => e z.symm)]; exact valV_neg (p := (k, y)) e
  | p :: r, hn => by
    rw [List.cons_append]
    have hk : ¬ p.1 = k := fun z => by rw [valV_pos z] at hn; cases hn
    rw [valV_neg hk] at hn
    have ih := valV_snoc k j y r hn
    by_cases e : p.1 = j
    · rw [valV_pos e, valV_pos e, if_neg (fun z => hk (e.trans z))]
    · rw [valV_neg e, valV_neg e, ih]
theorem valV_put (kvs : List (κ × V)) (k j : κ) (y : V) : valV (putK kvs k y) j = if j = k then some y else valV kvs j := by
  unfold putK
  by_cases a : (kvs.any fun kv => decide (kv.1 = k)) = true
  · rw [if_pos a, valV_map]
    rw [valV_any] at a
    by_cases e : j = k
    · obtain ⟨x, hx⟩ := Option.isSome_iff_exists.mp a
      rw [if_pos e, e, hx, Option.map_some, if_pos rfl]
    · rw [if_neg e]
      cases valV kvs j with
      | none => rfl
      | some x => rw [Option.map_some, if_neg e]
  · rw [if_neg a]
    refine valV_snoc k j y kvs ?_
    rw [valV_any] at a
    cases q : valV kvs k with
    | none => rfl
    | some x => rw [q] at a; exact (a rfl).elim
theorem length_putK (kvs : List (κ × V)) (k : κ) (v : V) : (putK kvs k v).length ≤ kvs.length + 1 := by
  unfold putK
  split
  · rw [List.length_map]; omega
  · rw [List.length_append, List.length_cons, List.length_nil]; omega
theorem RelO.isSome_eq {o : Option V} {u : Option Value} (r : RelO o u) : o.isSome = u.isSome := by
  cases o with
  | none => cases u with
    | none => rfl
    | some _ => exact (show False from r).elim
  | some _ => cases u with
    | none => exact (show False from r).elim
    | some _ => rfl
theorem RelO.getD {o : Option V} {u : Option Value} {d : V} {d' : Value} (r : RelO o u) (rd : RelV d d') : RelV (o.getD d) (u.getD d') := by
  cases o with
  | none => cases u with
    | none => exact rd
    | some _ => exact (show False from r).elim
  | some _ => cases u with
    | none => exact (show False from r).elim
    | some _ => exact r

/-- raw tables of the same keys -/
theorem KV.val {kvs : List (κ × V)} {vs : List (κ × Value)} (r : KV kvs vs) (k : κ) : RelO (valV kvs k) (valueAt vs k) := by
  unfold KV at r
  induction r with
  | nil => exact True.intro
  | @cons p q ps qs h t ih =>
    obtain ⟨h1, h2⟩ := h
    by_cases e : p.1 = k
    · have e' : q.1 = k := h1.symm.trans e
      have b : valueAt (q :: qs) k = some q.2 := by simp [valueAt, List.find?_cons, e']
      rw [valV_pos e, b]; exact h2
    · have e' : ¬ q.1 = k := fun z => e (h1.trans z)
      have b : valueAt (q :: qs) k = valueAt qs k := by simp [valueAt, List.find?_cons, e']
      rw [valV_neg e, b]; exact ih
theorem KV.any {kvs : List (κ × V)} {vs : List (κ × Value)} (r : KV kvs vs) (k : κ) : (kvs.any fun kv => decide (kv.1 = k)) = vs.any fun kv => decide (kv.1 = k) := by
  unfold KV at r
  induction r with
  | nil => rfl
  | cons h t ih => rw [List.any_cons, List.any_cons, ih, h.1]
theorem KV.repl {kvs : List (κ × V)} {vs : List (κ × Value)} (r : KV kvs vs) (k : κ) {y : V} {u : Value} (ry : RelV y u) :
    KV (kvs.map fun kv => if kv.1 = k then (kv.1, y) else kv) (vs.map fun kv => if kv.1 = k then (kv.1, u) else kv) := by
  unfold KV at r ⊢
  induction r with
  | nil => exact .nil
  | @cons p q ps qs h t ih =>
    rw [List.map_cons, List.map_cons]
    refine .cons ?_ ih
    obtain ⟨h1, h2⟩ := h
    by_cases e : p.1 = k
    · rw [if_pos e, if_pos (h1.symm.trans e)]; exact ⟨h1, ry⟩
    · rw [if_neg e, if_neg (fun z => e (h1.trans z))]; exact ⟨h1, h2⟩
theorem KV.put {kvs : List (κ × V)} {vs : List (κ × Value)} (r : KV kvs vs) (k : κ) {y : V} {u : Value} (ry : RelV y u) : KV (putK kvs k y) (stored vs k u) := by
  unfold putK stored
  rw [r.any k]
  by_cases e : (vs.any fun kv => decide (kv.1 = k)) = true
  · rw [if_pos e, if_pos e]; exact r.repl k ry
  · rw [if_neg e, if_neg e]; exact Paired.snoc r ⟨rfl, ry⟩
theorem KV.drop {kvs : List (κ × V)} {vs : List (κ × Value)} (r : KV kvs vs) (k : κ) : KV (dropK kvs k) (without vs k) := by
  unfold KV at r ⊢
  unfold dropK without
  induction r with
  | nil => exact .nil
  | @cons p q ps qs h t ih =>
    obtain ⟨h1, h2⟩ := h
    rw [List.filter_cons, List.filter_cons]
    by_cases e : p.1 = k
    · have a : ¬ decide (p.1 ≠ k) = true := by simp [e]
      have b : ¬ decide (q.1 ≠ k) = true := by simp [h1.symm.trans e]
      rw [if_neg a, if_neg b]; exact ih
    · have e' : ¬ q.1 = k := fun z => e (h1.trans z)
      have a : decide (p.1 ≠ k) = true := by simp [e]
      have b : decide (q.1 ≠ k) = true := by simp [e']
      rw [if_pos a, if_pos b]; exact .cons ⟨h1, h2⟩ ih
theorem KV.keys {kvs : List (κ × V)} {vs : List (κ × Value)} (r : KV kvs vs) : kvs.map (·.1) = vs.map (·.1) := by
  unfold KV at r
  induction r with
  | nil => rfl
  | cons h t ih => rw [List.map_cons, List.map_cons, ih, h.1]
theorem KV.length {kvs : List (κ × V)} {vs : List (κ × Value)} (r : KV kvs vs) : kvs.length = vs.length := Paired.length r
end


/-! ### a tracked dict, its keys ints and texts or tuples of these -/
theorem kV_is {P : Program} {w : World} {k : Key} {u : Value} (r : RelV (kV k) u) : (mixKind P w).is k u = true := by
  cases k with
  | inl i => obtain ⟨t, e⟩ := (show ∃ t, u = Value.int i t from r); subst e; exact mixKind_int P w i t
  | inr x => obtain ⟨t, e⟩ := (show ∃ t, u = Value.str x t from r); subst e; exact mixKind_str P w x t
theorem items_are {P : Program} {w : World} : ∀ {ks : List Key} {us : List Value}, Vals (ks.map kV) us → ItemsAre (mixKind P w) ks us
  | [], _, r => by rw [List.map_nil] at r; cases r; exact .nil
  | k :: ks, _, r => by
    rw [List.map_cons] at r
    cases r with
    | cons h t => exact .cons (kV_is h) (items_are t)

/-- raw entries of a dict with tuple keys -/
abbrev KT (H : Hp) : List (List Key × V) → List (List Key × Addr × Value) → Prop := Paired fun p q => p.1 = q.1 ∧ H q.2.1 = some (.tup (p.1.map kV)) ∧ RelV p.2 q.2.2
theorem KT.val {H : Hp} {kvs : List (List Key × V)} {xs : List (List Key × Addr × Value)} (r : KT H kvs xs) (k : List Key) : RelO (valV kvs k) ((atKey xs k).map (·.2)) := by
  induction r with
  | nil => exact True.intro
  | @cons p q ps qs h t ih =>
    obtain ⟨h1, _, h2⟩ := h
    by_cases e : p.1 = k
    · have e' : q.1 = k := h1.symm.trans e
      have b : atKey (q :: qs) k = some q.2 := by simp [atKey, List.find?_cons, e']
      rw [valV_pos e, b]; exact h2
    · have e' : ¬ q.1 = k := fun z => e (h1.trans z)
      have b : atKey (q :: qs) k = atKey qs k := by simp [atKey, List.find?_cons, e']
      rw [valV_neg e, b]; exact ih
theorem KT.repl {H : Hp} {kvs : List (List Key × V)} {xs : List (List Key × Addr × Value)} (r : KT H kvs xs) (k : List Key) {y : V} {u : Value} (ry : RelV y u) :
    KT H (kvs.map fun kv => if kv.1 = k then (kv.1, y) else kv) (xs.map (putAt k u)) := by
  induction r with
  | nil => exact .nil
  | @cons p q ps qs h t ih =>
    rw [List.map_cons, List.map_cons]
    refine .cons ?_ ih
    obtain ⟨h1, h2, h3⟩ := h
    unfold putAt
    by_cases e : p.1 = k
    · rw [if_pos e, if_pos (h1.symm.trans e)]; exact ⟨h1, h2, ry⟩
    · rw [if_neg e, if_neg (fun z => e (h1.trans z))]; exact ⟨h1, h2, h3⟩
theorem KT.put {H : Hp} {kvs : List (List Key × V)} {xs : List (List Key × Addr × Value)} (r : KT H kvs xs) (k : List Key) {b : Addr} {y : V} {u : Value} (hb : H b = some (.tup (k.map kV))) (ry : RelV y u) :
    KT H (putK kvs k y) (storedH xs k b u) := by
  have e : (kvs.any fun kv => decide (kv.1 = k)) = (atKey xs k).isSome := by
    rw [valV_any, (r.val k).isSome_eq, Option.isSome_map]
  unfold putK storedH
  rw [e]
  by_cases q : (atKey xs k).isSome = true
  · rw [if_pos q, if_pos q]; exact r.repl k ry
  · rw [if_neg q, if_neg q]; exact Paired.snoc r ⟨rfl, hb, ry⟩
theorem KT.keeps {H H' : Hp} {kvs : List (List Key × V)} {xs : List (List Key × Addr × Value)} (r : KT H kvs xs) (ht : ∀ b ys, H b = some (.tup ys) → H' b = some (.tup ys)) : KT H' kvs xs :=
  Paired.mapP r fun _ _ z => ⟨z.1, ht _ _ z.2.1, z.2.2⟩

section
variable {P : Program} {w : World} {H : Hp} {h : Heap} {a : Addr}
theorem rd_of {u : HO} (ok : HOk P w H h) (e : Rd H a u) : ObjOk P w H h a u := e.ok ok
theorem dk_rd {kvs : List (Key × V)} (ok : HOk P w H h) (e : Rd H a (.dK kvs)) : kvs.length ≤ sizeLine ∧ (a == sysModules) = false ∧ ∃ vs, KV kvs vs ∧ h.DictOf (mixKind P w) a vs :=
  show ObjOk P w H h a (.dK kvs) from rd_of ok e
theorem dk_of {kvs : List (Key × V)} (ok : HOk P w H h) (e : H a = some (.dK kvs)) : kvs.length ≤ sizeLine ∧ (a == sysModules) = false ∧ ∃ vs, KV kvs vs ∧ h.DictOf (mixKind P w) a vs := dk_rd ok (.inl e)
/-- a tracked tuple of ints and texts is a key -/
theorem key_of {ks : List Key} (ok : HOk P w H h) (e : H a = some (.tup (ks.map kV))) : (tupleKind (mixKind P w)).is h ks a := by
  obtain ⟨_, its, r, o, h1, h2, n, h3⟩ := (show ObjOk P w H h a (.tup (ks.map kV)) from ok a _ e)
  exact ⟨o, its.toArray, n, h1, h2, h3, by simpa using items_are r⟩
theorem dt_rd {kvs : List (List Key × V)} (ok : HOk P w H h) (e : Rd H a (.dT kvs)) : kvs.length ≤ sizeLine ∧ (a == sysModules) = false ∧
    ∃ xs, KT H kvs xs ∧ h.DictOfH (tupleKind (mixKind P w)) a xs := by
  obtain ⟨z, y, xs, r, o, es, ep, h1, h2, h3, h4, h5⟩ := (show ObjOk P w H h a (.dT kvs) from rd_of ok e)
  refine ⟨z, y, xs, r, o, es, ep, h1, h2, h3, h4, fun x hx => ?_, h5⟩
  have all : ∀ {l : List (List Key × V)} {m : List (List Key × Addr × Value)}, KT H l m → ∀ x ∈ m, (tupleKind (mixKind P w)).is h x.1 x.2.1 := by
    intro l m q
    induction q with
    | nil => intro x hx; exact nomatch hx
    | @cons p q ps qs hq t ih =>
      intro x hx
      rcases List.mem_cons.mp hx with e | hx
      · subst e
        exact key_of ok (by rw [← hq.1]; exact hq.2.1)
      · exact ih x hx
  exact all r x hx
theorem dt_of {kvs : List (List Key × V)} (ok : HOk P w H h) (e : H a = some (.dT kvs)) : kvs.length ≤ sizeLine ∧ (a == sysModules) = false ∧
    ∃ xs, KT H kvs xs ∧ h.DictOfH (tupleKind (mixKind P w)) a xs := dt_rd ok (.inl e)
end

/-- what the dict at a holds at the key y -/
def DGet (H : Hp) (a : Addr) (y : V) (r : Option V) : Prop :=
  (∃ kvs k, Rd H a (.dK kvs) ∧ y = kV k ∧ r = valV kvs k) ∨ ∃ kvs k b, Rd H a (.dT kvs) ∧ y = .ref b ∧ H b = some (.tup (k.map kV)) ∧ r = valV kvs k
/-- the heap behind a[y] = v -/
def DPut (H : Hp) (a : Addr) (y v : V) (H' : Hp) : Prop :=
  (∃ kvs k, H a = some (.dK kvs) ∧ y = kV k ∧ kvs.length < sizeLine ∧ H' = upd H a (.dK (putK kvs k v))) ∨
  ∃ kvs k b, H a = some (.dT kvs) ∧ y = .ref b ∧ H b = some (.tup (k.map kV)) ∧ kvs.length < sizeLine ∧ H' = upd H a (.dT (putK kvs k v))
theorem DGet.k {H : Hp} {a : Addr} {kvs : List (Key × V)} {k : Key} (e : H a = some (.dK kvs)) : DGet H a (kV k) (valV kvs k) := .inl ⟨kvs, k, .inl e, rfl, rfl⟩
theorem DGet.t {H : Hp} {a b : Addr} {kvs : List (List Key × V)} {k : List Key} (e : H a = some (.dT kvs)) (eb : H b = some (.tup (k.map kV))) : DGet H a (.ref b) (valV kvs k) := .inr ⟨kvs, k, b, .inl e, rfl, eb, rfl⟩
theorem DPut.k {H : Hp} {a : Addr} {kvs : List (Key × V)} {k : Key} {v : V} (e : H a = some (.dK kvs)) (hl : kvs.length < sizeLine) : DPut H a (kV k) v (upd H a (.dK (putK kvs k v))) := .inl ⟨kvs, k, e, rfl, hl, rfl⟩
theorem DPut.t {H : Hp} {a b : Addr} {kvs : List (List Key × V)} {k : List Key} {v : V} (e : H a = some (.dT kvs)) (eb : H b = some (.tup (k.map kV))) (hl : kvs.length < sizeLine) :
    DPut H a (.ref b) v (upd H a (.dT (putK kvs k v))) := .inr ⟨kvs, k, b, e, rfl, eb, hl, rfl⟩


section
variable {X : Cx} {pins : List (Addr × Obj)} {σ : St} {H : Hp} {s : Shared} {a : Addr} {y v : V} {u r : Value} {o : Option V} {A : Around} {E : Value → Shared → Prop}

theorem Inv.big (I : Inv X pins σ H s) : sysModules < s.heap.objs.size := by
  have h : mainGlobals < s.heap.objs.size := (I.mod.glob.keeps I.bk).lt
  exact Nat.lt_trans (by decide) h

/-- d[y], there -/
theorem d_getItem {Q : Value → Shared → Prop} (hu : A.units + 1 < cLine) (I : Inv X pins σ H s) (g : DGet H a y (some v)) (ry : RelV y u) (h : ∀ w' s', Inv X pins σ H s' → RelV v w' → Q w' s') :
    wpAny (model X.prog X.w) A (getItem (.ref a) u) Q E s := by
  rcases g with ⟨kvs, k, e, ey, l⟩ | ⟨kvs, k, b, e, ey, eb, l⟩
  · subst ey
    obtain ⟨z, hd, vs, rel, dd⟩ := dk_rd I.hok e
    obtain ⟨w', hw, rw'⟩ := RelO.some_of (v := v) (o := valueAt vs k) (by rw [l]; exact rel.val k)
    exact wpAny_getItem_of (kV_is ry) dd.mapOf hw (h w' _ (I.tok _) rw')
  · subst ey
    cases (show u = Value.ref b from ry)
    obtain ⟨z, hd, xs, rel, dd⟩ := dt_rd I.hok e
    obtain ⟨w', hw, rw'⟩ := RelO.some_of (v := v) (o := (atKey xs k).map (·.2)) (by rw [l]; exact rel.val k)
    obtain ⟨p, hp, hp2⟩ := Option.map_eq_some_iff.mp hw
    refine wpAny_getItem_heap (tupleKind_room_in1 hu) (key_of I.hok eb) dd hp ?_
    rw [hp2]
    exact h w' _ (I.tok _) rw'
/-- y in d -/
theorem d_in {Q : Value → Shared → Prop} (hu : A.units + 1 < cLine) (I : Inv X pins σ H s) (g : DGet H a y o) (ry : RelV y u) (h : ∀ s', Inv X pins σ H s' → Q (.bool o.isSome) s') :
    wpAny (model X.prog X.w) A (compareOp .In u (.ref a)) Q E s := by
  rcases g with ⟨kvs, k, e, ey, l⟩ | ⟨kvs, k, b, e, ey, eb, l⟩
  · subst ey
    obtain ⟨z, hd, vs, rel, dd⟩ := dk_rd I.hok e
    refine wpAny_in_of (kV_is ry) hd dd.mapOf ?_
    rw [← (rel.val k).isSome_eq, ← l]
    exact h _ (I.tok _)
  · subst ey
    cases (show u = Value.ref b from ry)
    obtain ⟨z, hd, xs, rel, dd⟩ := dt_rd I.hok e
    refine wpAny_in_heap (tupleKind_room_in1 hu) (key_of I.hok eb) hd dd ?_
    have q := (rel.val k).isSome_eq
    rw [Option.isSome_map] at q
    rw [← q, ← l]
    exact h _ (I.tok _)
theorem d_notIn {Q : Value → Shared → Prop} (hu : A.units + 1 < cLine) (I : Inv X pins σ H s) (g : DGet H a y o) (ry : RelV y u) (h : ∀ s', Inv X pins σ H s' → Q (.bool (!o.isSome)) s') :
    wpAny (model X.prog X.w) A (compareOp .NotIn u (.ref a)) Q E s := by
  rcases g with ⟨kvs, k, e, ey, l⟩ | ⟨kvs, k, b, e, ey, eb, l⟩
  · subst ey
    obtain ⟨z, hd, vs, rel, dd⟩ := dk_rd I.hok e
    refine wpAny_notIn_of (kV_is ry) hd dd.mapOf ?_
    rw [← (rel.val k).isSome_eq, ← l]
    exact h _ (I.tok _)
  · subst ey
    cases (show u = Value.ref b from ry)
    obtain ⟨z, hd, xs, rel, dd⟩ := dt_rd I.hok e
    refine wpAny_notIn_heap (tupleKind_room_in1 hu) (key_of I.hok eb) hd dd ?_
    have q := (rel.val k).isSome_eq
    rw [Option.isSome_map] at q
    rw [← q, ← l]
    exact h _ (I.tok _)
/-- a dict's object is replaced -/
theorem d_write {h' : Heap} {t' : Nat} {ob : HO} (I : Inv X pins σ H s) (mu : Mut (H a)) (hs : Heap.SameBut a s.heap h') (he : ∃ q, h'.get? a = some q) (new : ObjOk X.prog X.w (upd H a ob) h' a ob) :
    Inv X pins σ (upd H a ob) { s with heap := h', toks := t' } :=
  I.write (x := a) (e := a) mu (.inl rfl) (fun b q hb z => (hs.2 b hb).trans z) he new
theorem dk_new {P : Program} {w : World} {H' : Hp} {h' : Heap} {kvs : List (Key × V)} {vs : List (Key × Value)} (z : kvs.length ≤ sizeLine) (hd : (a == sysModules) = false) (rel : KV kvs vs) (dd : h'.DictOf (mixKind P w) a vs) :
    ObjOk P w H' h' a (.dK kvs) := ⟨z, hd, vs, rel, dd⟩
/-- d[y] = v -/
theorem d_setItem {H' : Hp} {Q : Unit → Shared → Prop} (hu : A.units + 1 < cLine) (I : Inv X pins σ H s) (g : DPut H a y v H') (ry : RelV y u) (rv : RelV v r) (h : ∀ s', Inv X pins σ H' s' → Q () s') :
    wpAny (model X.prog X.w) A (setItem (.ref a) u r) Q E s := by
  rcases g with ⟨kvs, k, e, ey, l, eH⟩ | ⟨kvs, k, b, e, ey, eb, l, eH⟩
  · subst ey eH
    obtain ⟨z, hd, vs, rel, dd⟩ := dk_of I.hok e
    have hz : vs.length ≤ sizeLine := by rw [← rel.length]; exact z
    have hl : (putK kvs k v).length ≤ sizeLine := by have := length_putK kvs k v; omega
    refine wpAny_setItem_pairs (hsz := hz) (kV_is ry) dd fun h' dd' hs => h _ ?_
    have he : ∃ q, h'.get? a = some q := let ⟨q, _, _, hq, _⟩ := dd'; ⟨q, hq⟩
    exact d_write I (by rw [e]; exact True.intro) hs he (dk_new hl hd (rel.put k rv) dd')
  · subst ey eH
    cases (show u = Value.ref b from ry)
    obtain ⟨z, hd, xs, rel, dd⟩ := dt_of I.hok e
    have hz : xs.length ≤ sizeLine := by rw [← Paired.length rel]; exact z
    have hl : (putK kvs k v).length ≤ sizeLine := by have := length_putK kvs k v; omega
    refine wpAny_setItem_heap (hsz := hz) (tupleKind_room_in1 hu) (key_of I.hok eb) dd fun h' dd' hs => h _ ?_
    obtain ⟨q, es, ep, hq, h2, h3, h4, _, h5⟩ := dd'
    refine d_write I (by rw [e]; exact True.intro) hs ⟨q, hq⟩ ⟨hl, hd, _, (rel.put k eb rv).keeps fun c ys ec => ?_, q, es, ep, hq, h2, h3, h4, h5⟩
    rw [upd_ne (ne_of ec e (fun z => nomatch z))]
    exact ec
end

section
variable {X : Cx} {pins : List (Addr × Obj)} {σ : St} {H : Hp} {s : Shared} {a : Addr} {kvs : List (Key × V)} {k : Key} {u : Value} {A : Around} {E : Value → Shared → Prop}
/-- len(d) -/
theorem d_len {Q : Value → Shared → Prop} (I : Inv X pins σ H s) (e : Rd H a (.dK kvs)) (h : ∀ t s', Inv X pins σ H s' → Q (.int kvs.length t) s') : wpAny (model X.prog X.w) A (call (.builtin "len") [.ref a]) Q E s := by
  obtain ⟨z, hd, vs, rel, dd⟩ := dk_rd I.hok e
  refine call_len_dict hd dd (by rw [← rel.length]; rw [sizeLine_eq] at z; omega) ?_
  rw [← rel.length]
  exact h _ _ (I.tok _)
end


/-! ### readings and rules -/
theorem dict_typeIs {X : Cx} {pins : List (Addr × Obj)} {σ : St} {H : Hp} {s : Shared} {a : Addr} {y : V} {o : Option V} (I : Inv X pins σ H s) (g : DGet H a y o) : s.TypeIs (.ref a) "dict" := by
  rcases g with ⟨kvs, k, e, _, _⟩ | ⟨kvs, k, b, e, _, _, _⟩
  · obtain ⟨_, _, vs, _, dd⟩ := dk_rd I.hok e
    exact dd.typeIs
  · obtain ⟨_, _, xs, _, dd⟩ := dt_rd I.hok e
    exact dd.typeIs
/-- d[y] -/
def tDGet (td ty : TE) : TE := fun σ H Q => td σ H fun x H1 => ty σ H1 fun y H2 => ∃ a v, x = .ref a ∧ DGet H2 a y (some v) ∧ Q v H2
/-- d[y] = v -/
def sDPut (td ty tv : TE) : TS := fun D σ H => tv σ H fun v H1 => td σ H1 fun x H2 => ty σ H2 fun y H3 => ∃ a H4, x = .ref a ∧ DPut H3 a y v H4 ∧ D.nx σ H4
section
variable {X : Cx} {o i e value : Expr} {pos pos' tpos : Pos} {td ty tv : TE}
theorem ps_dput (hu : X.A.units + 1 < cLine) (ho : PE X o td) (hi : PE X i ty) (hv : PE X value tv) (hs : swapsWith value (some (.Subscript o i pos')) pos.line X.env = pure false) :
    PS X (.Assign [.Subscript o i pos'] value pos) (sDPut td ty tv) := by
  intro pins s σ H D I h
  refine wpAny_Assign_Subscript (thn (hv pins s σ H _ I h) fun r s1 ⟨v, H1, I1, rv, q1⟩ => thn (ho pins s1 σ H1 _ I1 q1) fun u s2 ⟨x, H2, I2, rx, q2⟩ => thn (hi pins s2 σ H2 _ I2 q2) fun iv s3 ⟨y, H3, I3, ry, a, H4, ex, g, q3⟩ => ?_) hs
  subst ex
  obtain rfl : u = Value.ref a := rx
  exact d_setItem hu I3 g ry rv fun s4 I4 => ⟨σ, H4, I4, q3⟩
end


/-! ### displays -/
theorem dt_empty {P : Program} {w : World} {H : Hp} (h : Heap) (hb : sysModules < h.objs.size) : ObjOk P w H (h.push { cls := .type "dict", data := .dict #[] }) h.objs.size (.dT []) :=
  ⟨Nat.zero_le _, beq_eq_false_iff_ne.mpr (Ne.symm (Nat.ne_of_lt hb)), [], .nil, _, #[], 0, Heap.get?_push_size _ rfl, ⟨rfl, rfl, rfl⟩, rfl, rfl, List.nodup_nil⟩
def tDNewT : TE := fun _ H Q => ∀ p, H p = none → Q (.ref p) (upd H p (.dT []))
section
variable {X : Cx} {pos : Pos}
theorem pe_dnewT : PE X (.Dict [] [] pos) tDNewT := fun pins s σ H Q I h =>
  wpAny_Dict_empty ⟨.ref s.heap.objs.size, _, I.laid (a := s.heap.objs.size) (o := .dT []) (t' := s.toks) (fun _ _ q => Heap.get?_push_of_some _ q) (Nat.le_refl _) (dt_empty s.heap I.big), rfl, h _ (I.hok.fresh (Nat.le_refl _))⟩
end

/-- the pairs of a display, from the left -/
def tPairs : List (TE × TE) → St → Hp → (List (V × V) → Hp → Prop) → Prop
  | [], _, H, Q => Q [] H
  | (tk, tv) :: r, σ, H, Q => tk σ H fun x H1 => tv σ H1 fun y H2 => tPairs r σ H2 fun ps H3 => Q ((x, y) :: ps) H3
def mergeK (kvs more : List (Key × V)) : List (Key × V) := more.foldl (fun acc kv => putK acc kv.1 kv.2) kvs
/-- {k: v, ..} with keys ints and texts; the new dict stands empty while the pairs are made -/
def tDisp (trs : List (TE × TE)) : TE := fun σ H Q => ∀ p, H p = none → tPairs trs σ (upd H p (.dK [])) fun ps H2 => H2 p = some (.dK []) ∧ ∃ kvs : List (Key × V), ps = kvs.map (fun kv => (kV kv.1, kv.2)) ∧ kvs.length ≤ 15 ∧ Q (.ref p) (upd H2 p (.dK (mergeK [] kvs)))
/-! ### methods -/
/-- a method call o.m(e) of a built-in, with one argument: what must be seen of the text -/
structure M1 (X : Cx) (o : Expr) (m : Str) (apos : Pos) (e : Expr) (cpos : Pos) : Prop where
  base : attributeBase o m X.env (eval o X.env) = eval o X.env
  few : ((backTo cpos (starEach [e] X.env)).all (fun x => !x.1) && (backToKw cpos (keywordEach [] X.env)).all (fun x => x.1.isSome)
    && decide (([e] : List Expr).length + ([] : List Keyword).length + (if ([] : List Keyword).isEmpty then 0 else 1) < 30)) = true
  line : (apos.endLine == cpos.line) = true
  trees : backTo cpos (starEach [e] X.env) = [(false, eval e X.env)]
structure M2 (X : Cx) (o : Expr) (m : Str) (apos : Pos) (e f : Expr) (cpos : Pos) : Prop where
  base : attributeBase o m X.env (eval o X.env) = eval o X.env
  few : ((backTo cpos (starEach [e, f] X.env)).all (fun x => !x.1) && (backToKw cpos (keywordEach [] X.env)).all (fun x => x.1.isSome)
    && decide (([e, f] : List Expr).length + ([] : List Keyword).length + (if ([] : List Keyword).isEmpty then 0 else 1) < 30)) = true
  line : (apos.endLine == cpos.line) = true
  trees : backTo cpos (starEach [e, f] X.env) = [(false, eval e X.env), (false, eval f X.env)]

/-- a is a dict, whatever its keys -/
def IsD (H : Hp) (a : Addr) : Prop := (∃ kvs, Rd H a (.dK kvs)) ∨ ∃ kvs, Rd H a (.dT kvs)
theorem isD_at {X : Cx} {pins : List (Addr × Obj)} {σ : St} {H : Hp} {s : Shared} {a : Addr} (I : Inv X pins σ H s) (d : IsD H a) :
    s.TypeIs (.ref a) "dict" ∧ (∀ b, Value.ref a = .ref b → ∃ ob, s.heap.get? b = some ob ∧ ob.dict = none) ∧ (a == sysModules) = false := by
  rcases d with ⟨kvs, e⟩ | ⟨kvs, e⟩
  · obtain ⟨_, hd, vs, _, dd⟩ := dk_rd I.hok e
    refine ⟨dd.typeIs, fun b q => ?_, hd⟩
    cases q
    obtain ⟨ob, _, _, h1, h2, _⟩ := dd
    exact ⟨ob, h1, h2.2.1⟩
  · obtain ⟨_, hd, xs, _, dd⟩ := dt_rd I.hok e
    refine ⟨dd.typeIs, fun b q => ?_, hd⟩
    cases q
    obtain ⟨ob, _, _, h1, h2, _⟩ := dd
    exact ⟨ob, h1, h2.2.1⟩

section
variable {X : Cx} {pins : List (Addr × Obj)} {σ : St} {H : Hp} {s : Shared} {a : Addr} {y d : V} {u r : Value} {o : Option V} {A : Around} {E : Value → Shared → Prop}
/-- d.get(y, x) -/
theorem d_get2 {Q : Value → Shared → Prop} (hu : A.units + 1 < cLine) (I : Inv X pins σ H s) (g : DGet H a y o) (ry : RelV y u) (rd : RelV d r) (h : ∀ w' s', Inv X pins σ H s' → RelV (o.getD d) w' → Q w' s') :
    wpAny (model X.prog X.w) A (call (.builtin "dict.get") [.ref a, u, r]) Q E s := by
  rcases g with ⟨kvs, k, e, ey, l⟩ | ⟨kvs, k, b, e, ey, eb, l⟩
  · subst ey
    obtain ⟨z, hd, vs, rel, dd⟩ := dk_rd I.hok e
    refine call_meetsIn PySem.F.slot_dict_get dd.typeIs PySem.F.entry_dict_get (PySem.F.args_dict_get_3 _ _ _) (meets_dict_get_default (mixKind X.prog X.w) a (kV_is ry) hd r) ⟨_, dd.mapOf, h _ _ (I.tok _) ?_⟩
    rw [l]
    exact (rel.val k).getD rd
  · subst ey
    cases (show u = Value.ref b from ry)
    obtain ⟨z, hd, xs, rel, dd⟩ := dt_rd I.hok e
    refine call_meetsIn PySem.F.slot_dict_get dd.typeIs PySem.F.entry_dict_get (PySem.F.args_dict_get_3 _ _ _) (meetsH_dict_get_default (tupleKind (mixKind X.prog X.w)) a b hd r) ⟨tupleKind_room_in1 hu, k, xs, key_of I.hok eb, dd, h _ _ (I.tok _) ?_⟩
    rw [l]
    exact (rel.val k).getD rd
end

def tDGet2 (td ty tx : TE) : TE := fun σ H Q => td σ H fun x H1 => ∃ a, x = .ref a ∧ IsD H1 a ∧ ty σ H1 fun y H2 => tx σ H2 fun z H3 => ∃ o, DGet H3 a y o ∧ Q (o.getD z) H3
section
variable {X : Cx} {o e f : Expr} {apos cpos : Pos} {td ty tx : TE}
theorem pe_dget2 (hu : X.A.units + 1 < cLine) (ho : PE X o td) (he : PE X e ty) (hf : PE X f tx) (m : M2 X o "get" apos e f cpos) : PE X (.Call (.Attribute o "get" apos) [e, f] [] cpos) (tDGet2 td ty tx) := by
  intro pins s σ H Q I h
  refine wpAny_Call_method m.base m.few m.line PySem.F.plainAttrs_dict PySem.F.slot_dict_get PySem.F.type_dict_get (thn (ho pins s σ H _ I h) fun u s1 ⟨x, H1, I1, rx, a, ex, d, q1⟩ => ?_)
  subst ex
  obtain rfl : u = Value.ref a := rx
  obtain ⟨t1, t2, _⟩ := isD_at I1 d
  refine ⟨t1, t2, ?_⟩
  rw [m.trees]
  refine Calls.callWith_builtin rfl (Calls.evalArgs_plain (Calls.spliced_cons (thn (he pins s1 σ H1 _ I1 q1) fun iv s2 ⟨y, H2, I2, ry, q2⟩ =>
    Calls.spliced_cons (thn (hf pins s2 σ H2 _ I2 q2) fun fv s3 ⟨z, H3, I3, rz, ov, g, q3⟩ => Calls.spliced_nil ?_))))
  exact d_get2 hu I3 g ry rz fun w' s4 I4 rw' => ⟨_, H3, I4, rw', q3⟩
end

/-! ### dict(d): a copy -/
section
variable {X : Cx} {pins : List (Addr × Obj)} {σ : St} {H : Hp} {s : Shared} {a : Addr} {kvs : List (Key × V)} {A : Around} {E : Value → Shared → Prop}
end


section
variable {X : Cx} {pins : List (Addr × Obj)} {σ : St} {H : Hp} {s : Shared} {a : Addr} {y : V} {u : Value} {A : Around} {E : Value → Shared → Prop}
end
end L2

namespace L2
open PySem PySem.Spec PyProof.Rows
/-! ### a dict's pairs: keys that differ -/
section
variable {κ : Type} [DecidableEq κ]
theorem valV_not {kvs : List (κ × V)} {k : κ} (h : valV kvs k = none) : ¬ k ∈ kvs.map (·.1) := by
  intro m
  obtain ⟨p, hp, e⟩ := List.mem_map.mp m
  have q : (kvs.any fun kv => decide (kv.1 = k)) = true := List.any_eq_true.mpr ⟨p, hp, decide_eq_true e⟩
  rw [valV_any, h] at q
  exact absurd q (by simp)
end
end L2
/-! A list comprehension in the hand layer: one clause, any target, any tests. -/
namespace L2
open PySem PySem.Spec PyProof.Rows

section
variable {prog : Program} {w : World} {A : Around} {R : Result → Shared → Prop} {s : Shared}
abbrev testsOf (ifs : List Expr) (env : Env) : Sem Bool :=
  forIn ifs true fun c r => if r = true then do let ok ← isTrue c env (eval c env); pure (ForInStep.yield ok) else pure (ForInStep.yield r)

theorem compLoop_gen {elt target iter : Expr} {ifs : List Expr} {scope : Scope} {pos : Pos} {it acc : Value} {env : Env} {nE : Value → Shared → Prop} (hE : nE = notedBy (model prog w) A env fun e s' => R (.error e) s') (I : Nat → Shared → Prop)
    (turn : ∀ n s, I n s → wpAny (model prog w) A (pyNext it) (fun r s1 => match r with
      | none => R (.ok .next) s1
      | some v => wpAny (model prog w) A (letOwnedTupleGo target it v) (fun _ s1b => wpAny (model prog w) A (assign target env v) (fun _ s2 =>
          wpAny (model prog w) A (testsOf ifs env) (fun ok s3 =>
            if ok = true then wpAny (model prog w) A (eval elt env) (fun x s4 =>
              wpAny (model prog w) A (call (.builtin "list.append") [acc, x]) (fun _ s5 => ∃ m, m < n ∧ I m s5) nE s4) nE s3
            else ∃ m, m < n ∧ I m s3) nE s2) nE s1b) nE s1) nE s)
    (n : Nat) (h : I n s) :
    codeAny (model prog w) A (.compLoop (.ListComp elt [⟨target, iter, ifs, 0⟩] scope pos) 0 it acc env) R s := by
  subst hE
  refine codeAny_loop rfl I (fun n s hI => ?_) n h
  show wpAny _ A ((compTurn (.ListComp elt [⟨target, iter, ifs, 0⟩] scope pos) 0 it acc env).onRaise (fun x => do noteFrame x env; theTreesLotGoes x)) _ _ s
  refine wpAny_noted ?_
  rw [compTurn_list]
  refine wpAny_bind (wpAny_standAt (wpAny_bind (wpAny_mono (turn n s hI) (fun r s1 h1 => ?_) fun _ _ h' => h')))
  cases r with
  | none => exact wpAny_pure h1
  | some v =>
    refine wpAny_bind (wpAny_mono h1 (fun _ s1b h1b => ?_) fun _ _ h' => h')
    refine wpAny_bind (wpAny_mono h1b (fun _ s2 h2 => wpAny_bind (wpAny_mono h2 (fun ok s3 h3 => ?_) fun _ _ h' => h')) fun _ _ h' => h')
    cases ok with
    | false => exact wpAny_pure ⟨rfl, h3⟩
    | true =>
      exact wpAny_bind (wpAny_bind (wpAny_mono h3 (fun x s4 h4 => wpAny_bind (wpAny_mono h4 (fun _ s5 h5 => wpAny_pure (wpAny_pure ⟨rfl, h5⟩)) fun _ _ h' => h')) fun _ _ h' => h'))
end

/-! ### the block's cells -/
def clOf (cells : List (Str × Addr)) : List (Str × NameKind) → List (Str × Addr) → List (Str × Addr)
  | [], acc => acc
  | (n, k) :: r, acc => clOf cells r (if k == NameKind.free then (n, (cells.lookup n).getD 0) :: acc else acc)

theorem closure_forIn (env : Env) : ∀ (names : List (Str × NameKind)) (acc : List (Str × Addr)), (∀ y ∈ names, y.2 = .free → ∃ c, env.cells.lookup y.1 = some c) →
    (forIn names acc fun x (r : List (Str × Addr)) => match x with
      | (name, kind) => if (kind == NameKind.free) = true then (do let a ← cellOf env name; pure (ForInStep.yield ((name, a) :: r))) else pure (ForInStep.yield r) : Sem (List (Str × Addr))) = pure (clOf env.cells names acc)
  | [], acc, _ => by simp [clOf]
  | (n, k) :: r, acc, h => by
    have ih := fun acc => closure_forIn env r acc fun y hy => h y (List.mem_cons_of_mem _ hy)
    rw [List.forIn_cons]
    unfold clOf
    by_cases hk : k = .free
    · subst hk
      obtain ⟨c, e⟩ := h (n, .free) List.mem_cons_self rfl
      simp only [beq_self_eq_true, if_true, cellOf, e, Option.getD_some, pure_bind]
      exact ih _
    · have hb : (k == NameKind.free) = false := by simpa using hk
      simp only [hb, Bool.false_eq_true, if_false, pure_bind]
      exact ih _

theorem closureFor_eq {scope : Scope} {env : Env} (h : ∀ y ∈ scope.names, y.2 = .free → ∃ c, env.cells.lookup y.1 = some c) : closureFor scope env = pure (clOf env.cells scope.names []) := by
  have e := closure_forIn env scope.names [] h
  unfold closureFor
  first
    | (rw [e]; rfl)
    | (simp only [bind_pure]; exact e)
    | (show (_ >>= _) = _; rw [e]; rfl)

theorem clOf_lookup {cells : List (Str × Addr)} {x : Str} {c : Addr} : ∀ (names : List (Str × NameKind)) (acc : List (Str × Addr)), (∀ y ∈ names, y.2 = .free → ∃ c, cells.lookup y.1 = some c) →
    (∀ d, acc.lookup x = some d → cells.lookup x = some d) → (clOf cells names acc).lookup x = some c → cells.lookup x = some c
  | [], acc, _, ha, e => ha c e
  | (n, k) :: r, acc, h, ha, e => by
    unfold clOf at e
    refine clOf_lookup r _ (fun y hy => h y (List.mem_cons_of_mem _ hy)) (fun d hd => ?_) e
    by_cases hk : k = .free
    · subst hk
      obtain ⟨c', e'⟩ := h (n, .free) List.mem_cons_self rfl
      have e2 : cells.lookup n = some c' := e'
      rw [if_pos (beq_self_eq_true _), e2] at hd
      cases hx : x == n with
      | true =>
        have : x = n := eq_of_beq hx
        subst this
        simp only [List.lookup_cons, hx, Option.getD_some] at hd
        rw [e2]
        exact hd
      | false =>
        simp only [List.lookup_cons, hx] at hd
        exact ha d hd
    · have hb : ¬ (k == NameKind.free) = true := by simpa using hk
      rw [if_neg hb] at hd
      exact ha d hd

theorem clOf_keeps {cells : List (Str × Addr)} {x : Str} : ∀ (names : List (Str × NameKind)) (acc : List (Str × Addr)), (acc.lookup x).isSome = true → ((clOf cells names acc).lookup x).isSome = true
  | [], _, h => h
  | (n, k) :: r, acc, h => by
    unfold clOf
    refine clOf_keeps r _ ?_
    by_cases hk : (k == NameKind.free) = true
    · rw [if_pos hk]
      cases hx : x == n with
      | true => simp only [List.lookup_cons, hx, Option.isSome_some]
      | false => simp only [List.lookup_cons, hx]; exact h
    · rw [if_neg hk]; exact h

theorem clOf_has {cells : List (Str × Addr)} {x : Str} : ∀ (names : List (Str × NameKind)) (acc : List (Str × Addr)), (x, NameKind.free) ∈ names → ((clOf cells names acc).lookup x).isSome = true
  | (n, k) :: r, acc, h => by
    unfold clOf
    rcases List.mem_cons.mp h with e | h
    · cases e
      refine clOf_keeps r _ ?_
      rw [if_pos (beq_self_eq_true _)]
      simp only [List.lookup_cons, beq_self_eq_true, Option.isSome_some]
    · exact clOf_has r _ h

theorem relab_lookup {env : Env} (x : Str) : ∀ names : List (Str × NameKind),
    (names.map fun (n, k) => if (k == NameKind.free && env.scope.kind == .function && env.kindOf n == some .cell) then (n, NameKind.cell) else (n, k)).lookup x =
      (names.lookup x).map fun k => if (k == NameKind.free && env.scope.kind == .function && env.kindOf x == some .cell) then NameKind.cell else k
  | [] => rfl
  | (n, k) :: r => by
    have ih := relab_lookup (env := env) x r
    rw [List.map_cons]
    cases hx : x == n with
    | true =>
      have : x = n := eq_of_beq hx
      subst this
      show List.lookup x ((if (k == NameKind.free && env.scope.kind == .function && env.kindOf x == some .cell) = true then (x, NameKind.cell) else (x, k)) :: _) = _
      by_cases hc : (k == NameKind.free && env.scope.kind == .function && env.kindOf x == some .cell) = true
      · rw [if_pos hc]; simp only [List.lookup_cons, hx, Option.map_some]; rw [if_pos hc]
      · rw [if_neg hc]; simp only [List.lookup_cons, hx, Option.map_some]; rw [if_neg hc]
    | false =>
      show List.lookup x ((if (k == NameKind.free && env.scope.kind == .function && env.kindOf n == some .cell) = true then (n, NameKind.cell) else (n, k)) :: _) = _
      by_cases hc : (k == NameKind.free && env.scope.kind == .function && env.kindOf n == some .cell) = true
      · rw [if_pos hc]; simp only [List.lookup_cons, hx]; exact ih
      · rw [if_neg hc]; simp only [List.lookup_cons, hx]; exact ih

/-- what is asked of the block's names: own are the clause's, caps are captured -/
structure CScope (own caps : List Str) (scope osc : Scope) : Prop where
  kind : scope.kind = .function
  nocell : ∀ y ∈ scope.names, y.2 ≠ .cell
  loc : ∀ y ∈ scope.names, y.2 = .local → scope.names.lookup y.1 = some .local
  fr : ∀ y ∈ scope.names, y.2 = .free → osc.names.lookup y.1 = some .cell ∨ osc.names.lookup y.1 = some .free
  cap : ∀ x ∈ caps, scope.names.lookup x = some .free
  nd : (own ++ caps).Nodup

/-- the block's context -/
def cxC (X : Cx) (scope : Scope) (N' : List Str) (C : Addr) (fp : List Addr) (s : Shared) (H : Hp) : Cx where
  prog := X.prog
  w := X.w
  K := X.K
  mg := X.mg
  base := X.base
  A := X.A
  N := N'
  s₀ := s
  H₀ := H
  env := compEnvC scope (clOf X.env.cells scope.names []) C X.env
  outer := X.stack
  stack := X.stack
  ex := fp
  fn := fun _ => false
  calm := X.calm
  pn := X.pn
  xe := fun _ _ => False

/-- the block's slots: own ones unset, captured ones as they stand -/
def cSt (n : Nat) (js : List Nat) (σ : St) : St := List.replicate n none ++ js.map fun j => (σ[j]?).join

/-- the tests of a clause -/
def PF (X : Cx) (ifs : List Expr) (t : TT) : Prop :=
  ∀ (pins : List (Addr × Obj)) (s : Shared) (σ : St) (H : Hp) (Q : Bool → Hp → Prop), Inv X pins σ H s → t σ H Q → wpAny (model X.prog X.w) X.A (testsOf ifs X.env) (TP X pins σ Q) X.xe s
def tYes : TT := fun _ H Q => Q true H
theorem pf_nil {X : Cx} : PF X [] tYes := fun pins s σ H Q I h => by
  show wpAny _ _ (forIn [] true _) _ _ s
  rw [List.forIn_nil]
  exact wpAny_pure ⟨H, I, h⟩
theorem pf_one {X : Cx} {c : Expr} {tc : TT} (hc : PT X c tc) : PF X [c] tc := fun pins s σ H Q I h => by
  show wpAny _ _ (forIn [c] true _) _ _ s
  rw [List.forIn_cons]
  simp only [List.forIn_nil, if_true]
  refine wpAny_bind (wpAny_bind (thn (hc pins s σ H Q I h) fun b s1 q => wpAny_pure ?_))
  exact wpAny_pure q

/-- W: the invariant by the turn, a measure, what was gathered; D: where it is gathered -/
def tComp (n : Nat) (js : List Nat) (wi : TI) (g : TG) (tc : TT) (te : TE) : TE := fun σ H Q => wi σ H fun J H1 => ∀ D, H1 D = none → ∃ W : Nat → Nat → List V → Hp → Prop, (∃ m, W 0 m [] (upd H1 D (.lst []))) ∧ ∀ i m acc H, W i m acc H →
  H D = some (.lst acc) ∧ ((J.stop i H ∧ Q (.ref D) H) ∨ (J.go i H ∧ acc.length < sizeLine ∧ ∃ Nx : List V → Hp → Prop, (∀ acc' H', Nx acc' H' → ∃ m', m' < m ∧ W (i + 1) m' acc' H') ∧
    ∀ x H', J.yld i H x H' → g x (cSt n js σ) H' fun σ2 H2 => σ2.drop n = (cSt n js σ).drop n ∧ tc σ2 H2 fun b H3 => if b = true then te σ2 H3 fun v H4 => H4 D = some (.lst acc) ∧ Nx (acc ++ [v]) (upd H4 D (.lst (acc ++ [v]))) else H3 D = some (.lst acc) ∧ Nx acc H3))

section
variable {X : Cx} {pins : List (Addr × Obj)} {σ : St} {H : Hp} {s : Shared}

abbrev capN (X : Cx) (js : List Nat) : List Str := js.map fun j => (X.N[j]?).getD Str.empty
theorem js_ok {X : Cx} {js : List Nat} (h : (js.all fun j => decide (j < X.N.length)) = true) : ∀ j ∈ js, ∃ x, X.N[j]? = some x := fun j hj => by
  have := of_decide_eq_true (List.all_eq_true.mp h j hj)
  exact ⟨X.N[j], List.getElem?_eq_getElem this⟩

/-- the block begins: its frame is laid at C -/
theorem Inv.block {scope : Scope} {own : List Str} {js : List Nat} {fp : List Addr} {h' : Heap} {t' : Nat} {m : Str → Option Value} (I : Inv X pins σ H s) (S : CScope own (capN X js) scope X.env.scope) (hj : ∀ j ∈ js, ∃ x, X.N[j]? = some x)
    (hf : ∀ b ∈ fp, FpOk X pins H b) (hfo : ∀ b ∈ fp, ∃ o, s.heap.get? b = some o) (hn : h'.Ns s.heap.objs.size m) (hk : ∀ b o, s.heap.get? b = some o → h'.get? b = some o) :
    Inv (cxC X scope (own ++ capN X js) s.heap.objs.size fp s H) pins (cSt own.length js σ) H { s with heap := h', toks := t' } := by
  have hfr : ∀ y ∈ scope.names, y.2 = .free → ∃ c, X.env.cells.lookup y.1 = some c := fun y hy e => I.ok.has y.1 (S.fr y hy e)
  have hcl : ∀ x c, (clOf X.env.cells scope.names []).lookup x = some c → X.env.cells.lookup x = some c := fun x c e => clOf_lookup scope.names [] hfr (fun d z => nomatch z) e
  have hlt : ∀ b o, s.heap.get? b = some o → b ≠ s.heap.objs.size := fun b o e => Nat.ne_of_lt (Heap.lt_size e)
  have nstk : ∀ b, b ≠ X.env.locals → b ∉ X.fs → b ∉ frs X.stack := fun b h1 h2 hb => (List.mem_cons.mp (I.stkSub b hb)).elim h1 h2
  have hrl : ∀ x, (relabel scope X.env).names.lookup x = (scope.names.lookup x).map fun k => if (k == NameKind.free && X.env.scope.kind == .function && X.env.kindOf x == some .cell) then NameKind.cell else k := fun x => relab_lookup x scope.names
  refine ⟨⟨I.ok.mod, S.kind, I.ok.glob, I.ok.blt, Nat.le_refl _, fun x y c h1 h2 => I.ok.inj x y c (hcl x c h1) (hcl y c h2), fun x hx => ?_, (fun x c z => nomatch z), I.ok.hd, I.ok.frames, .inl rfl, fun b hb => ?_, I.bs, Nat.le_trans I.ok.bsz I.sz, fun b o e hb => ?_, fun b hb => ?_, I.stack, I.stkFree⟩,
    rfl, I.bare, Un.kept hk, ⟨m, hn, fun i x v h1 h2 h3 => ?_⟩, fun x c e => ?_, I.hok.fresh (Nat.le_refl _), fun x c e => I.freeC x c (hcl x c e), fun p hp => ?_, I.hok.kept hk, ?_⟩
  · have hx' : (relabel scope X.env).names.lookup x = some .cell ∨ (relabel scope X.env).names.lookup x = some .free := hx
    rw [hrl] at hx'
    cases e : scope.names.lookup x with
    | none => rw [e] at hx'; rcases hx' with z | z <;> cases z
    | some k =>
      have hm : (x, k) ∈ scope.names := PySem.mem_of_lookup e
      have hkf : k = .free := by
        rw [e] at hx'
        cases k with
        | free => rfl
        | cell => exact absurd rfl (S.nocell _ hm)
        | _ => exfalso; revert hx'; simp
      subst hkf
      exact Option.isSome_iff_exists.mp (clOf_has scope.names [] hm)
  · obtain ⟨o, e⟩ := hfo b hb
    obtain ⟨_, _, _, _, f4, _⟩ := hf b hb
    exact ⟨hlt b o e, fun x c z => f4 x c (hcl x c z)⟩
  · obtain ⟨_, _, _, f3, _⟩ := hf b hb
    rcases f3 with z | z
    · exact I.ok.noex b o e z
    · exact absurd (Nat.lt_of_lt_of_le (Heap.lt_size (I.ok.bs b o e).1) z) (Nat.lt_irrefl _)
  · obtain ⟨_, f1, f2, _⟩ := hf b hb
    exact nstk b f1 f2
  · -- a captured name
    have h1' : (own ++ capN X js)[i]? = some x := h1
    have hi : own.length ≤ i := by
      rcases Nat.lt_or_ge i own.length with z | z
      · exfalso
        unfold cSt at h2
        rw [List.getElem?_append_left (by simpa using z), List.getElem?_replicate] at h2
        split at h2 <;> cases h2
      · exact z
    rw [List.getElem?_append_right hi] at h1'
    unfold cSt at h2
    rw [List.getElem?_append_right (by simpa using hi), List.length_replicate, List.getElem?_map] at h2
    unfold capN at h1'
    rw [List.getElem?_map] at h1'
    cases ej : js[i - own.length]? with
    | none => rw [ej] at h2; cases h2
    | some j =>
      rw [ej] at h1' h2
      obtain ⟨y, ey⟩ := hj j (List.mem_of_getElem? ej)
      have exy : y = x := by
        have z : some ((X.N[j]?).getD Str.empty) = some x := h1'
        rw [ey] at z
        exact Option.some.inj z
      subst exy
      have es : σ[j]? = some (some v) := by
        have z : some ((σ[j]?).join) = some (some v) := h2
        cases q : σ[j]? with
        | none => rw [q] at z; cases z
        | some o => rw [q] at z; cases o with
          | none => cases z
          | some v' => cases z; rfl
      have hcap : y ∈ capN X js := List.mem_map.mpr ⟨j, List.mem_of_getElem? ej, by rw [ey]; rfl⟩
      have hfree : scope.names.lookup y = some .free := S.cap y hcap
      have hm : (y, NameKind.free) ∈ scope.names := PySem.mem_of_lookup hfree
      have ho := S.fr _ hm rfl
      obtain ⟨m0, hn0, hl0⟩ := I.loc
      obtain ⟨u, r, l⟩ := hl0 j y v ey es (ho.elim (fun z => .inr (.inl z)) fun z => .inr (.inr z))
      refine ⟨u, r, .inr ⟨?_, ?_⟩⟩
      · show (relabel scope X.env).names.lookup y = _ ∨ (relabel scope X.env).names.lookup y = _
        rw [hrl, hfree, Option.map_some]
        by_cases hcc : (NameKind.free == NameKind.free && X.env.scope.kind == .function && X.env.kindOf y == some .cell) = true
        · rw [if_pos hcc]; exact .inl rfl
        · rw [if_neg hcc]; exact .inr rfl
      · rcases l with ⟨k, _⟩ | ⟨_, c, e, z⟩
        · have k' : X.env.scope.names.lookup y = some .local := k
          rcases ho with z | z <;> (rw [k'] at z; cases z)
        · obtain ⟨c', e'⟩ := Option.isSome_iff_exists.mp (clOf_has (cells := X.env.cells) scope.names [] hm)
          have := hcl y c' e'
          rw [e] at this
          cases this
          refine ⟨c, e', ?_⟩
          obtain ⟨oc, ho', hd⟩ := z
          exact ⟨oc, hk c oc ho', hd⟩
  · obtain ⟨v, o, ho, hd⟩ := I.cell x c (hcl x c e)
    exact ⟨v, o, hk c o ho, hd⟩
  · obtain ⟨e, n, ne, nf, d⟩ := I.pin p hp
    exact ⟨hk _ _ e, n, hlt _ _ e, nstk p.1 ne nf, d⟩
  · unfold cSt
    show _ = (own ++ capN X js).length
    simp

/-- the block is left: its frame's object may have changed -/
theorem Inv.unblock {scope : Scope} {N' : List Str} {fp : List Addr} {σb : St} {H' : Hp} {s' : Shared} {h' : Heap} (I : Inv X pins σ H s) (hf : ∀ b ∈ fp, FpOk X pins H b)
    (B : Inv (cxC X scope N' s.heap.objs.size fp s H) pins σb H' s') (hs : Heap.SameBut s.heap.objs.size s'.heap h') : Inv X pins σ H' { s' with heap := h' } := by
  have hlt : ∀ b o, s.heap.get? b = some o → b ≠ s.heap.objs.size := fun b o e => Nat.ne_of_lt (Heap.lt_size e)
  have hu : Un (frs X.stack) fp H H' s.heap s'.heap := B.base
  have hfree : H' s.heap.objs.size = none := B.free
  refine I.call' (s' := { s' with heap := h' }) (ch := fp) B.os ⟨fun b o e n hb hx => ?_, fun b o e n hb hx => ?_, hu.free, fun b o e hx => ?_, hu.tups, hu.frzs, hu.tbls⟩ (fun b u e => ?_) B.bare fun b hb => ?_
  · exact (hs.2 b (hlt b o e)).trans (hu.keep b o e n hb hx)
  · obtain ⟨sl, z⟩ := hu.slot b o e n hb hx
    exact ⟨sl, (hs.2 b (hlt b o e)).trans z⟩
  · obtain ⟨o', z⟩ := hu.there b o e hx
    exact ⟨o', (hs.2 b (hlt b o e)).trans z⟩
  · refine (B.hok b u e).stay (fun c v hc q => (hs.2 c ?_).trans q) (fun _ q => q) fun _ _ q => q
    rintro rfl
    rcases hc with z | z
    · rw [← z, hfree] at e; cases e
    · rw [hfree] at z; cases z
  · obtain ⟨_, f1, f2, f3, f4, f5⟩ := hf b hb
    exact ⟨f3, f1, f4, f5⟩
end

section
variable {X : Cx} {elt tg iter : Expr} {ifs : List Expr} {scope : Scope} {pos : Pos} {own : List Str} {js : List Nat} {wi : TI} {g : TG} {tc : TT} {te : TE}

theorem comp_core (hc : X.calm = true) (S : CScope own (capN X js) scope X.env.scope) (hj : ∀ j ∈ js, ∃ x, X.N[j]? = some x) (hi : PI X tg iter wi)
    (hg : ∀ C fp s H, PG (cxC X scope (own ++ capN X js) C fp s H) tg g) (ht : ∀ C fp s H, PF (cxC X scope (own ++ capN X js) C fp s H) ifs tc) (he : ∀ C fp s H, PE (cxC X scope (own ++ capN X js) C fp s H) elt te)
    {pins : List (Addr × Obj)} {σ : St} {H : Hp} {s : Shared} {Q : VK} (I : Inv X pins σ H s) (h : tComp own.length js wi g tc te σ H Q) {RR : Value → Addr → Result → Shared → Prop}
    (hRR : ∀ D C s' m H', s'.heap.Ns C m → H' C = none → C ≠ X.env.locals → C ∉ X.fs → (∀ x c, X.env.cells.lookup x = some c → c ≠ C) → X.s₀.heap.objs.size ≤ C → (∀ p ∈ X.pn ++ pins, p.1 ≠ C) → (∀ h', Heap.SameBut C s'.heap h' → Inv X pins σ H' { s' with heap := h' }) → Q (.ref D) H' → RR (.ref D) C (.ok .next) s') :
    wpAny (model X.prog X.w) X.A (eval iter X.env) (fun x s1 => wpAny (model X.prog X.w) X.A (pyIter x) (fun it s2 => wpAny (model X.prog X.w) X.A (newList []) (fun acc s3 =>
      wpAny (model X.prog X.w) X.A (newFunctionEnv scope X.env.globals (clOf X.env.cells scope.names []) [] X.env.qual none .none (some X.env)) (fun cenv s4 =>
        codeAny (model X.prog X.w) X.A (.compStart (.ListComp elt [⟨tg, iter, ifs, 0⟩] scope pos) 0 it acc { cenv with scope := relabel scope X.env }) (RR acc cenv.locals) s4) X.xe s3) X.xe s2) X.xe s1) X.xe s := by
  refine thn (hi pins s σ H _ I h) fun v s1 h1 => thn h1 fun itv s2 h2 => ?_
  obtain ⟨it, fp, tn, J, H2, e, I2, T, st2, f2, hq⟩ := h2
  subst e
  refine wpAny_newList ?_ (by simp)
  have I3 := I2.lnew (t' := s2.toks) (ys := []) (its := []) .nil (by simp)
  have hDn : H2 s2.heap.objs.size = none := I2.fresh
  generalize hD : s2.heap.objs.size = D at I3 hDn ⊢
  generalize hH3 : upd H2 D (.lst []) = H3 at I3
  generalize hs3 : ({ s2 with heap := s2.heap.push { cls := .type "list", data := .seq ([] : List Value).toArray }, toks := s2.toks } : Shared) = s3 at I3
  have k3 : ∀ b o, s2.heap.get? b = some o → s3.heap.get? b = some o := fun b o e => by rw [← hs3]; exact Heap.get?_push_of_some _ e
  have st3 : tn 0 s3.heap := T.keep _ _ _ st2 fun b _ o e => k3 b o e
  have fo2 : ∀ b ∈ fp, ∃ o, s2.heap.get? b = some o := fun b hb => (T.obj _ _ st2 b hb).imp fun _ z => z.1
  have neD : ∀ b ∈ fp, b ≠ D := fun b hb => by
    obtain ⟨o, e⟩ := fo2 b hb
    rw [← hD]
    exact Nat.ne_of_lt (Heap.lt_size e)
  have f3 : ∀ b ∈ fp, FpOk X pins H3 b := fun b hb => by
    obtain ⟨a0, a1⟩ := f2 b hb
    exact ⟨by rw [← hH3, upd_ne (neD b hb)]; exact a0, a1⟩
  have fo3 : ∀ b ∈ fp, ∃ o, s3.heap.get? b = some o := fun b hb => (fo2 b hb).imp fun o e => k3 b o e
  obtain ⟨W, ⟨m0, w0⟩, turn⟩ := hq D hDn
  rw [hH3] at w0
  refine wpAny_newFunctionEnv S.nocell (by intro y hy; simp at hy) (fun h4 hns4 hsb4 => ?_) S.kind
  have k4 : ∀ b o, s3.heap.get? b = some o → h4.get? b = some o := fun b o e => hsb4.extBut b o (Nat.ne_of_lt (Heap.lt_size e)) (Heap.get?_push_of_some _ e)
  have B4 := I3.block (t' := s3.toks + ([] : List (Str × Value)).length) S hj f3 fo3 hns4 k4
  have st4 : tn 0 h4 := T.keep _ _ _ st3 fun b _ o e => k4 b o e
  have f4 : ∀ b ∈ fp, FpOk (cxC X scope (own ++ capN X js) s3.heap.objs.size fp s3 H3) pins H3 b := fun b hb => by
    obtain ⟨a0, a1, a2, a3, a4, a5⟩ := f3 b hb
    obtain ⟨o, e⟩ := fo3 b hb
    exact ⟨a0, (B4.ok.exf b hb).1, B4.ok.exfs b hb, .inl hb, (B4.ok.exf b hb).2, a5⟩
  have nL : s3.heap.objs.size ≠ X.env.locals := Nat.ne_of_gt I3.lt
  have nF : s3.heap.objs.size ∉ X.fs := I3.nofs (Nat.le_refl _)
  have nC : ∀ x c, X.env.cells.lookup x = some c → c ≠ s3.heap.objs.size := fun x c e => by
    obtain ⟨_, o, ho, _⟩ := I3.cell x c e
    exact Nat.ne_of_lt (Heap.lt_size ho)
  -- the loop
  have loop : ∀ s5 : Shared, s5 = { s3 with heap := h4, toks := s3.toks + ([] : List (Str × Value)).length } →
      codeAny (model X.prog X.w) X.A (.compLoop (.ListComp elt [⟨tg, iter, ifs, 0⟩] scope pos) 0 (.ref it) (.ref D) (compEnvC scope (clOf X.env.cells scope.names []) s3.heap.objs.size X.env)) (RR (.ref D) s3.heap.objs.size) s5 := by
    rintro s5 rfl
    have stat : ∀ {H' : Hp}, (∀ b ∈ fp, H' b = none) → ∀ b ∈ fp, FpOk (cxC X scope (own ++ capN X js) s3.heap.objs.size fp s3 H3) pins H' b := fun hn b hb => ⟨hn b hb, (f4 b hb).2⟩
    refine compLoop_gen rfl (fun n s' => ∃ i acc H', Inv (cxC X scope (own ++ capN X js) s3.heap.objs.size fp s3 H3) pins (cSt own.length js σ) H' s' ∧ tn i s'.heap ∧ (∀ b ∈ fp, H' b = none) ∧ W i n acc H') ?_ m0
      ⟨0, [], H3, B4, st4, fun b hb => (f3 b hb).1, w0⟩
    rintro n s6 ⟨i, acc, H6, B6, st6, fr6, w6⟩
    obtain ⟨hacc, way⟩ := turn i n acc H6 w6
    rcases way with ⟨stop, q⟩ | ⟨go, hz, Nx, hN, step⟩
    · refine thn (T.done (cxC X scope (own ++ capN X js) s3.heap.objs.size fp s3 H3) rfl rfl rfl hc i pins s6 _ H6 _ B6 (stat fr6) st6 stop) fun r s7 ⟨hr, B7⟩ => ?_
      subst hr
      obtain ⟨m, hm, _⟩ := B7.loc
      exact hRR D _ s7 m H6 hm B7.free nL nF nC I3.sz (fun p hp => Nat.ne_of_lt (Heap.lt_size (I3.pin p hp).1)) (fun h' hs => I3.unblock f3 B7 hs) q
    · refine thn (T.item (cxC X scope (own ++ capN X js) s3.heap.objs.size fp s3 H3) rfl rfl rfl hc i pins s6 _ H6 _ B6 (stat fr6) st6 go) fun r s7 ⟨u, hr, h7⟩ => ?_
      subst hr
      refine thn h7 fun _ s8 ⟨x, H8, B8, r8, y8, st8, fr8⟩ => ?_
      have B8' := B8.pinned (stat fr8) (T.obj _ _ st8)
      have away : ∀ {s9 : Shared} {σ9 : St} {H9 : Hp} {acc' : List V}, Inv (cxC X scope (own ++ capN X js) s3.heap.objs.size fp s3 H3) (pins ++ pinsAt fp s8.heap) σ9 H9 s9 → σ9.drop own.length = (cSt own.length js σ).drop own.length → Nx acc' H9 →
          ∃ m', m' < n ∧ ∃ i acc H', Inv (cxC X scope (own ++ capN X js) s3.heap.objs.size fp s3 H3) pins (cSt own.length js σ) H' s9 ∧ tn i s9.heap ∧ (∀ b ∈ fp, H' b = none) ∧ W i m' acc H' := fun {s9 σ9 H9 acc'} B9 hd nx => by
        obtain ⟨m', hm, w9⟩ := hN acc' H9 nx
        refine ⟨m', hm, i + 1, acc', H9, B9.unpinned.weak ?_ ?_, T.keep _ _ _ st8 fun b hb o e => (B9.pin (b, o) (List.mem_append_right _ (List.mem_append_right _ (mem_pinsAt hb e)))).1, fun b hb => ?_, w9⟩
        · rw [B9.len, B6.len]
        · intro k v hv
          unfold cSt at hv
          have hk : own.length ≤ k := by
            rcases Nat.lt_or_ge k own.length with z | z
            · exfalso
              rw [List.getElem?_append_left (by simpa using z), List.getElem?_replicate] at hv
              split at hv <;> cases hv
            · exact z
          have e1 : σ9[k]? = (σ9.drop own.length)[k - own.length]? := by rw [List.getElem?_drop]; congr 1; omega
          rw [e1, hd, List.getElem?_drop]
          have e2 : own.length + (k - own.length) = k := by omega
          rw [e2]
          exact hv
        · obtain ⟨o, e, d⟩ := T.obj _ _ st8 b hb
          exact (B9.pin (b, o) (List.mem_append_right _ (List.mem_append_right _ (mem_pinsAt hb e)))).2.1
      refine wpAny_mono (hg _ _ _ _ _ s8 _ H8 x u _ B8' r8 (step x H8 y8)) (fun _ s9 ⟨σ9, H9, B9, hd9, q9⟩ => ?_) fun _ _ f => f.elim
      refine wpAny_mono (ht _ _ _ _ _ s9 σ9 H9 _ B9 q9) (fun b s10 ⟨H10, B10, q10⟩ => ?_) fun _ _ f => f.elim
      cases b with
      | false =>
        rw [if_neg Bool.false_ne_true] at q10 ⊢
        exact away B10 hd9 q10.2
      | true =>
        rw [if_pos rfl] at q10 ⊢
        refine wpAny_mono (he _ _ _ _ _ s10 σ9 H10 _ B10 q10) (fun y s11 ⟨z, H11, B11, r11, q11⟩ => ?_) fun _ _ f => f.elim
        obtain ⟨hl11, nx⟩ := q11
        refine wpAny_mono (mt_append (X := cxC X scope (own ++ capN X js) s3.heap.objs.size fp s3 H3) _ s11 σ9 H11 (.ref D) [z] (.ref D) [y] (fun _ H12 => Nx (acc ++ [z]) H12) B11 rfl (.cons r11 .nil) ⟨D, acc, z, rfl, rfl, hl11, hz, nx⟩) (fun _ s12 ⟨_, H12, B12, _, q12⟩ => ?_) fun _ _ f => f.elim
        exact away B12 hd9 q12
  exact codeAny_compStart_list (loop _ rfl) (T.self X.A 0 _ _ _ st4 (loop _ rfl))

/-- a list comprehension -/
theorem pe_comp (own caps : List Str) (js : List Nat) (hc : X.calm = true) {osc : Scope} (S : CScope own caps scope osc) (hi : PI X tg iter wi)
    (hg : ∀ C fp s H, PG (cxC X scope (own ++ caps) C fp s H) tg g) (ht : ∀ C fp s H, PF (cxC X scope (own ++ caps) C fp s H) ifs tc) (he : ∀ C fp s H, PE (cxC X scope (own ++ caps) C fp s H) elt te)
    (ho : X.env.scope = osc := by rfl) (hcp : capN X js = caps := by rfl) (hj : (js.all fun j => decide (j < X.N.length)) = true := by rfl)
    (hs : ∀ x, foldedSetIterable iter X.env x = pure x := by intro _; rfl) : PE X (.ListComp elt [⟨tg, iter, ifs, 0⟩] scope pos) (tComp own.length js wi g tc te) := by
  subst ho
  subst hcp
  intro pins s σ H Q I h
  have hfr : ∀ y ∈ scope.names, y.2 = .free → ∃ c, X.env.cells.lookup y.1 = some c := fun y hy e => I.ok.has y.1 (S.fr y hy e)
  rw [eval_ListComp]
  refine wpAny_comprehension_free (use := none) rfl hs (closureFor_eq hfr) S.kind S.loc ?_
  refine comp_core hc S (js_ok hj) hi hg ht he I h (RR := fun acc C => compPost (model X.prog X.w) X.A X.xe none (EP X pins σ Q) acc C) ?_
  intro D C s' m H' hn hf h1 h2 h3 h4 h5 hI hq
  exact ⟨m, hn, fun h' hs' => ⟨.ref D, H', hI h' hs', rfl, hq⟩⟩

/-- x = [ .. for .. ], where the store goes ahead of the block's end -/
theorem ps_setC {i : Nat} {x : Str} {pos' spos : Pos} (own caps : List Str) (js : List Nat) (hc : X.calm = true) (hN : X.N.Nodup) (hxi : X.N[i]? = some x) (hx : Loc X.env.scope x)
    {osc : Scope} (S : CScope own caps scope osc) (hi : PI X tg iter wi)
    (hg : ∀ C fp s H, PG (cxC X scope (own ++ caps) C fp s H) tg g) (ht : ∀ C fp s H, PF (cxC X scope (own ++ caps) C fp s H) ifs tc) (he : ∀ C fp s H, PE (cxC X scope (own ++ caps) C fp s H) elt te)
    (hsw : swapsWith (.ListComp elt [⟨tg, iter, ifs, 0⟩] scope pos) (some (.Name x pos')) spos.line X.env = pure true)
    (ho : X.env.scope = osc := by rfl) (hcp : capN X js = caps := by rfl) (hj : (js.all fun j => decide (j < X.N.length)) = true := by rfl)
    (hf : X.fn x = true ∨ X.env.scope.names.lookup x = some .local := by first | exact .inl rfl | exact .inr rfl | assumption)
    (hs : ∀ x, foldedSetIterable iter X.env x = pure x := by intro _; rfl) : PS X (.Assign [.Name x pos'] (.ListComp elt [⟨tg, iter, ifs, 0⟩] scope pos) spos) (tAsg (tComp own.length js wi g tc te) (gName i)) := by
  subst ho
  subst hcp
  intro pins s σ H D0 I h
  have hfr : ∀ y ∈ scope.names, y.2 = .free → ∃ c, X.env.cells.lookup y.1 = some c := fun y hy e => I.ok.has y.1 (S.fr y hy e)
  have h' : tComp own.length js wi g tc te σ H (fun v H1 => D0.nx (σ.set i (some v)) H1) := h
  rw [exec_Assign_Name_used _ _ _ _ hsw]
  refine wpAny_bind (wpAny_standAt (wpAny_bind ?_))
  unfold evalThenUse
  refine wpAny_bind ?_
  refine wpAny_comprehension_free (use := some _) (Q := fun _ s' => wpAny _ _ (pure PUnit.unit) (fun _ s'' => wpAny _ _ (pure Flow.next) (SP X pins D0) X.xe s'') X.xe s') rfl hs (closureFor_eq hfr) S.kind S.loc ?_
  refine comp_core hc S (js_ok hj) hi hg ht he I h' (RR := fun acc C => compPost (model X.prog X.w) X.A X.xe (some _) _ acc C) ?_
  intro D C s' m H' hn hfree h1 h2 h3 h4 h5 hI hq
  have I' : Inv X pins σ H' s' := hI s'.heap (.refl ..)
  obtain ⟨o, es, ep, ho, hod, r⟩ := id hn
  show wpAny _ _ (assign (.Name x pos') X.env (.ref D)) _ _ s'
  refine wpAny_assign_Name (store_ok2 I' hN hxi hx (v := .ref D) rfl (fun s2 I2 ⟨a, hsa, ha⟩ => ?_) hf)
  have hCa : C ≠ a := by
    rcases ha with z | z
    · rw [z]; exact h1
    · exact (h3 x a z).symm
  refine ⟨m, hn.sameBut hsa hCa, fun h'' hs'' => wpAny_pure (wpAny_pure ?_)⟩
  refine ⟨_, H', ?_, hq⟩
  -- what is left: the block's frame changes once more
  exact I2.turned (t' := s2.toks) (it := C) (fun b o hb e => (hs''.2 b hb).trans e) hfree (Ne.symm h1 |>.symm) (.inr h4) h3 h5
end
end L2
/-! Data and its equality, any and all, isinstance, slices of tuples, own defs in short. -/
namespace L2
open PySem PySem.Spec PyProof.Rows

/-! ### data -/
mutual
inductive Has (K : PySem.W.Frag) (H : Hp) : V → PyData → Prop
  | non : Has K H .non .none
  | bl (b : Bool) : Has K H (.bl b) (.bool b)
  | int (i : Int) : Has K H (.int i) (.int i)
  | str (x : Str) : Has K H (.str x) (.str x)
  | lst {a : Addr} {xs : List V} {ds : List PyData} : SqL K H a xs → HasAll K H xs ds → Has K H (.ref a) (.list ds)
  | tup {a : Addr} {xs : List V} {ds : List PyData} : SqT K H a xs → HasAll K H xs ds → Has K H (.ref a) (.tuple ds)
inductive HasAll (K : PySem.W.Frag) (H : Hp) : List V → List PyData → Prop
  | nil : HasAll K H [] []
  | cons {x : V} {xs : List V} {d : PyData} {ds : List PyData} : Has K H x d → HasAll K H xs ds → HasAll K H (x :: xs) (d :: ds)
end

section
variable {X : Cx} {pins : List (Addr × Obj)} {σ : St} {H : Hp} {s : Shared}
mutual
theorem Has.reads (I : Inv X pins σ H s) : ∀ {x : V} {d : PyData} {u : Value}, Has X.K H x d → RelV x u → ∃ as, Reads s.heap u d as
  | _, _, _, .non, r => by cases r; exact ⟨_, .none⟩
  | _, _, _, .bl b, r => by cases r; exact ⟨_, .bool b⟩
  | _, _, _, .int i, r => by obtain ⟨t, rfl⟩ := r; exact ⟨_, .int i t⟩
  | _, _, _, .str x, r => by obtain ⟨t, rfl⟩ := r; exact ⟨_, .str x t⟩
  | _, _, _, .lst h hs, r => by
    cases r
    obtain ⟨its, rv, ⟨o, n, ho, hc, hd, hs'⟩, hz⟩ := I.list h
    obtain ⟨as, ra⟩ := HasAll.reads I hs rv
    exact ⟨_, .list ho hc hs' ra⟩
  | _, _, _, .tup h hs, r => by
    cases r
    obtain ⟨its, rv, ⟨o, ho, hc, n, hs'⟩, hz⟩ := I.tuple h
    obtain ⟨as, ra⟩ := HasAll.reads I hs rv
    exact ⟨_, .tuple ho hc hs' ra⟩
theorem HasAll.reads (I : Inv X pins σ H s) : ∀ {xs : List V} {ds : List PyData} {us : List Value}, HasAll X.K H xs ds → Vals xs us → ∃ as, ReadsAll s.heap us ds as
  | _, _, _, .nil, r => by cases r; exact ⟨_, .nil⟩
  | _, _, _, .cons h hs, .cons r rs => by
    obtain ⟨as, ra⟩ := Has.reads I h r
    obtain ⟨bs, rb⟩ := HasAll.reads I hs rs
    exact ⟨_, .cons ra rb⟩
end
end

def rEqD (K : PySem.W.Frag) : R2 := fun x y H Q => ∃ d e, Has K H x d ∧ Has K H y e ∧ SeqAt.shaped d = true ∧ SeqAt.shaped e = true ∧ Q (.bl (PyData.eqv d e)) H
section
variable {X : Cx}
theorem op_eqD (hu : X.A.units + 64 < cLine) : OpR X (compareOp .Eq) (rEqD X.K) := by
  intro pins s σ H x y v u Q I rx ry h
  obtain ⟨d, e, hd, he, sd, se, q⟩ := h
  obtain ⟨as, ra⟩ := hd.reads I rx
  obtain ⟨bs, rb⟩ := he.reads I ry
  exact SeqAt.compareEq_reads ra rb (SeqAt.canLay_of_shaped sd) (SeqAt.canLay_of_shaped se) (SeqAt.room_of_shaped sd hu) ⟨.bl _, H, I, rfl, q⟩
/-! ### any, all of a list of truths -/
/-! ### isinstance -/
def clsV : V → Value
  | .ty n => .type n
  | .ref a => .ref a
  | _ => .none
theorem call_isinst : CallR X (.builtin "isinstance") (fun xs H Q => ∃ x c t b, xs = [x, c] ∧ (∃ n, c = .ty n) ∧ TyOf X.K H x t ∧ PySem.W.kitOne X.K t (clsV c) = some b ∧ Q (.bl b) H) := by
  intro pins s σ H xs us Q I r h
  obtain ⟨x, c, t, b, rfl, ⟨n, rfl⟩, ty, e, q⟩ := h
  obtain ⟨u, w', rfl, rx, rc⟩ := vals2 r
  cases rc
  exact isinst_ok I rx ty e fun tk => ⟨.bl b, H, I.tok _, rfl, q⟩
end
end L2

/-! ### a def of the text, and its promise, in short -/
namespace L2
open PySem PySem.Spec PyProof.Rows
/-- the def x stands at the top as st -/
def Def (K : PySem.W.Frag) (mg : Str → Option Value) (x : Str) (st : Stmt) : Prop := ∃ f fd, mg x = some (.ref f) ∧ Fun K x x st f fd
/-- the def x keeps the promise sp -/
def Own (P : Program) (w : World) (K : PySem.W.Frag) (mg : Str → Option Value) (base : Heap) (k : Nat) (x : Str) (ps : List Str) (sp : Sp) : Prop :=
  ∃ f fd, mg x = some (.ref f) ∧ PySem.W.keepIn K (.ref f) = true ∧ Binds K fd ps [] ∧ FnOk P w K mg base CX0 k f fd ps sp
theorem Def.own {P : Program} {w : World} {K : PySem.W.Frag} {mg : Str → Option Value} {base : Heap} {x : Str} {st : Stmt} {N ps : List Str} {k : Nat} {sp : Sp} (D : Def K mg x st) (S : FnScope N ps (defScope st))
    (hb : ∀ (kV doc pm : Value) (an : Option Addr) (cdv ct : Value) (us : List Value), us.length = ps.length → bindArgs (PySem.W.fnOf x x (defArgs st) (defBody st) (defScope st) .none kV doc pm an cdv ct) ⟨us, []⟩ = pure (ps.zip us))
    (len : ∀ vs H Q E, sp vs H Q E → vs.length = ps.length)
    (hbody : ∀ (f : Addr) (cdv : Value) (A : Around) (outer : List Env) (s : Shared) (H : Hp) (vs : List V) (Q : VK) (E : XK), Room k (A.deeper (envOfC x (defScope st) s.heap.objs.size f cdv)) → sp vs H Q E →
      ∃ t, PSs (cxOf CX0 P w K mg base N x (defScope st) f cdv A outer s H E).nox (defBody st) t ∧ t { nx := fun _ H' => Q .non H', rt := Q } (start N vs) H) : Own P w K mg base (k + 1) x ps sp := by
  obtain ⟨f, fd, hm, F⟩ := D
  exact ⟨f, fd, hm, F.kp, F.binds hb, F.ok S len (hbody f)⟩
theorem def_mk {K : PySem.W.Frag} {h : Heap} {mg : Str → Option Value} (X : K.In h) (G : h.Ns mainGlobals mg) {x : Str} {st : Stmt} {f : Addr} {oc : Value} {od an : Option Addr} {osl : Array (Option Value)} {kV doc pm cdv ct : Value}
    (a : PySem.W.nsIn K mainGlobals x = some (some (.ref f)))
    (l : K.lookup f = some ⟨oc, od, .func (PySem.W.fnOf x x (defArgs st) (defBody st) (defScope st) .none kV doc pm an cdv ct), osl⟩) (c : PySem.W.codeIn K cdv x = true) (k : PySem.W.keepIn K (.ref f) = true) : Def K mg x st :=
  ⟨f, _, PySem.W.mg_of X G a, fun_mk l c k⟩
section
variable {X : Cx} {j k : Nat} {x : Str} {ps : List Str} {sp : Sp} {p pos : Pos} {e : Expr} {es : List Expr} {t : TA}
theorem pe_fn (F : Own X.prog X.w X.K X.mg X.base j x ps sp) (hr : Room k X.A) (ha : PA X (e :: es) t) (hk : j ≤ k := by decide) (hg : Gl X x := by rfl)
    (hdb : (x == ("__debug__" : Str)) = false := by decide) (he : starEach (e :: es) X.env = (false, eval e X.env) :: starEach es X.env := by rfl) (hpl : (backTo pos (starEach es X.env)).any (·.1) = false := by rfl) :
    PE X (.Call (.Name x p) (e :: es) [] pos) (tCall sp [] E0 t) := by
  obtain ⟨f, fd, hm, kp, hb, F⟩ := F
  exact pe_call F (hr.mono hk) hg hm kp hb .nil pass0 ha hdb he hpl
end
/-- the names of built-ins that no def of the text takes -/
def Blt (mg : Str → Option Value) : Prop := ∀ x : Str, x ∈ (["len", "any", "all", "max", "min", "isinstance", "list", "tuple", "int", "bool", "str", "dict", "range"] : List Str) → mg x = none
theorem blt_mk {K : PySem.W.Frag} {h : Heap} {mg : Str → Option Value} (X : K.In h) (G : h.Ns mainGlobals mg) (z0 : PySem.W.nsIn K mainGlobals "len" = some none) (z1 : PySem.W.nsIn K mainGlobals "any" = some none) (z2 : PySem.W.nsIn K mainGlobals "all" = some none) (z3 : PySem.W.nsIn K mainGlobals "max" = some none) (z4 : PySem.W.nsIn K mainGlobals "min" = some none) (z5 : PySem.W.nsIn K mainGlobals "isinstance" = some none) (z6 : PySem.W.nsIn K mainGlobals "list" = some none) (z7 : PySem.W.nsIn K mainGlobals "tuple" = some none) (z8 : PySem.W.nsIn K mainGlobals "int" = some none) (z9 : PySem.W.nsIn K mainGlobals "bool" = some none) (z10 : PySem.W.nsIn K mainGlobals "str" = some none) (z11 : PySem.W.nsIn K mainGlobals "dict" = some none) (z12 : PySem.W.nsIn K mainGlobals "range" = some none) : Blt mg := by
  intro x hx
  simp only [List.mem_cons, List.not_mem_nil, or_false] at hx
  rcases hx with rfl | rfl | rfl | rfl | rfl | rfl | rfl | rfl | rfl | rfl | rfl | rfl | rfl
  · exact PySem.W.mg_none_of X G z0
  · exact PySem.W.mg_none_of X G z1
  · exact PySem.W.mg_none_of X G z2
  · exact PySem.W.mg_none_of X G z3
  · exact PySem.W.mg_none_of X G z4
  · exact PySem.W.mg_none_of X G z5
  · exact PySem.W.mg_none_of X G z6
  · exact PySem.W.mg_none_of X G z7
  · exact PySem.W.mg_none_of X G z8
  · exact PySem.W.mg_none_of X G z9
  · exact PySem.W.mg_none_of X G z10
  · exact PySem.W.mg_none_of X G z11
  · exact PySem.W.mg_none_of X G z12
theorem bt_len : bootBuiltins "len" = some (.builtin "len") := by decide +kernel
theorem bt_max : bootBuiltins "max" = some (.builtin "max") := by decide +kernel
theorem bt_min : bootBuiltins "min" = some (.builtin "min") := by decide +kernel
theorem bt_isinstance : bootBuiltins "isinstance" = some (.builtin "isinstance") := by decide +kernel
theorem bt_list : bootBuiltins "list" = some (.type "list") := by decide +kernel
theorem bt_int : bootBuiltins "int" = some (.type "int") := by decide +kernel
theorem bt_bool : bootBuiltins "bool" = some (.type "bool") := by decide +kernel
end L2

namespace HT
open PySem PySem.Spec PyProof.Rows
section
variable {prog : Program} {w : World} {A : Around} {E : Value → Shared → Prop} {s : Shared}
end
end HT

namespace L2
open PySem PySem.Spec PyProof.Rows
section
variable {X : Cx}
end
end L2
/-! The rules that read through the fragment, with the fragment named: so that a block's terms do not hang on the block's context. -/
namespace L2
open PySem PySem.Spec PyProof.Rows
section
variable {X : Cx} (K : PySem.W.Frag)
theorem ix_listK (h : X.K = K := by rfl) : IxR X (rIxL K) := by subst h; exact ix_list
theorem ix_tupK (h : X.K = K := by rfl) : IxR X (rIxT K) := by subst h; exact ix_tup
theorem sl_listK (h : X.K = K := by rfl) : SlR X (rSlL K) := by subst h; exact sl_list
def rLen (K : PySem.W.Frag) : List V → Hp → VK → Prop := fun xs H Q => ∃ p ys, xs = [.ref p] ∧ (SqL K H p ys ∨ SqT K H p ys) ∧ Q (.int ys.length) H
theorem call_lenK (h : X.K = K := by rfl) : CallR X (.builtin "len") (rLen K) := by subst h; exact call_len_seq
def rListOf (K : PySem.W.Frag) : List V → Hp → VK → Prop := fun xs H Q => ∃ p ys, xs = [.ref p] ∧ (SqL K H p ys ∨ SqT K H p ys) ∧ ∀ l, H l = none → Q (.ref l) (upd H l (.lst ys))
def rTupOf (K : PySem.W.Frag) : List V → Hp → VK → Prop := fun xs H Q => ∃ p ys, xs = [.ref p] ∧ ((SqL K H p ys ∧ ∀ l, H l = none → Q (.ref l) (upd H l (.tup ys))) ∨ (SqT K H p ys ∧ Q (.ref p) H))
def rAny (K : PySem.W.Frag) : List V → Hp → VK → Prop := fun xs H Q => ∃ (p : Addr) (bs : List Bool), xs = [.ref p] ∧ SqL K H p (bs.map V.bl) ∧ Q (.bl (bs.any id)) H
def rAll (K : PySem.W.Frag) : List V → Hp → VK → Prop := fun xs H Q => ∃ (p : Addr) (bs : List Bool), xs = [.ref p] ∧ SqL K H p (bs.map V.bl) ∧ Q (.bl (bs.all id)) H
def rIsI (K : PySem.W.Frag) : List V → Hp → VK → Prop := fun xs H Q => ∃ x c t b, xs = [x, c] ∧ (∃ n, c = .ty n) ∧ TyOf K H x t ∧ PySem.W.kitOne K t (clsV c) = some b ∧ Q (.bl b) H
theorem pi_listK {tg l : Expr} {tl : TE} (hl : PE X l tl) (h : X.K = K := by rfl) : PI X tg l (iList K tl) := by subst h; exact pi_list hl
theorem pi_tupK {tg l : Expr} {tl : TE} (hl : PE X l tl) (h : X.K = K := by rfl) : PI X tg l (iTup K tl) := by subst h; exact pi_tup hl
def tTru (K : PySem.W.Frag) (ta : TE) : TT := fun σ H Q => ta σ H fun x H' => ∃ k, TruV K x H' k ∧ Q k H'
theorem pg_tupK {es : List Expr} {k : Nat} {t : TGs} {n : Nat} {pos : Pos} (hc : X.calm = true) (hg : PGs X es t)
    (hn : (assignEach es X.env).length = n := by rfl) (hst : (assignEach es X.env).findIdx? (·.1) = none := by rfl) (h : X.K = K := by rfl) : PG X (.Tuple es k pos) (gTup K n t) := by
  subst h; exact pg_tup hc hg hn hst
theorem pe_fldK {e : Expr} {ta : TE} {f : Str} {pos : Pos} (he : PE X e ta) (hb : attributeBase e f X.env (eval e X.env) = eval e X.env := by rfl) (h : X.K = K := by rfl) : PE X (.Attribute e f pos) (tFld K ta f) := by subst h; exact pe_fld he hb
end
end L2
/-! The forms of a comprehension that one uses. -/
namespace L2
open PySem PySem.Spec PyProof.Rows

/-- what tComp asks of an iterator -/
def CompW (n : Nat) (js : List Nat) (g : TG) (tc : TT) (te : TE) (σ : St) (Q : VK) (J : It) (H1 : Hp) : Prop :=
  ∀ D, H1 D = none → ∃ W : Nat → Nat → List V → Hp → Prop, (∃ m, W 0 m [] (upd H1 D (.lst []))) ∧ ∀ i m acc H, W i m acc H →
    H D = some (.lst acc) ∧ ((J.stop i H ∧ Q (.ref D) H) ∨ (J.go i H ∧ acc.length < sizeLine ∧ ∃ Nx : List V → Hp → Prop, (∀ acc' H', Nx acc' H' → ∃ m', m' < m ∧ W (i + 1) m' acc' H') ∧
      ∀ x H', J.yld i H x H' → g x (cSt n js σ) H' fun σ2 H2 => σ2.drop n = (cSt n js σ).drop n ∧ tc σ2 H2 fun b H3 => if b = true then te σ2 H3 fun v H4 => H4 D = some (.lst acc) ∧ Nx (acc ++ [v]) (upd H4 D (.lst (acc ++ [v]))) else H3 D = some (.lst acc) ∧ Nx acc H3))
section
variable {n : Nat} {js : List Nat} {g : TG} {tc : TT} {te : TE} {σ : St} {Q : VK} {H1 : Hp}
/-- over a list that stays -/
theorem comp_list {K : PySem.W.Frag} {a : Addr} {xs : List V} (hz : xs.length ≤ sizeLine) (Pv : Addr → Nat → List V → Hp → Prop) (h0 : ∀ D, H1 D = none → Pv D 0 [] (upd H1 D (.lst [])))
    (hl : ∀ D i acc H, H1 D = none → i ≤ xs.length → Pv D i acc H → H D = some (.lst acc) ∧ SqL K H a xs ∧ acc.length ≤ i)
    (hs : ∀ D i x acc H, H1 D = none → xs[i]? = some x → Pv D i acc H → g x (cSt n js σ) H fun σ2 H2 => σ2.drop n = (cSt n js σ).drop n ∧ tc σ2 H2 fun b H3 => if b = true then te σ2 H3 fun v H4 => H4 D = some (.lst acc) ∧ Pv D (i + 1) (acc ++ [v]) (upd H4 D (.lst (acc ++ [v]))) else H3 D = some (.lst acc) ∧ Pv D (i + 1) acc H3)
    (hd : ∀ D acc H, H1 D = none → Pv D xs.length acc H → Q (.ref D) H) : CompW n js g tc te σ Q (Itl K a) H1 := by
  intro D hD
  refine ⟨fun i m acc H => m = xs.length - i ∧ i ≤ xs.length ∧ Pv D i acc H, ⟨xs.length, by simp, Nat.zero_le _, h0 D hD⟩, ?_⟩
  rintro i m acc H ⟨rfl, hi, p⟩
  obtain ⟨e1, q, e3⟩ := hl D i acc H hD hi p
  refine ⟨e1, ?_⟩
  by_cases hlt : i < xs.length
  · refine .inr ⟨⟨xs, xs[i], q, by simp [hlt]⟩, by omega, Pv D (i + 1), fun acc' H' p' => ⟨xs.length - (i + 1), by omega, rfl, hlt, p'⟩, fun x H' y => ?_⟩
    obtain ⟨e, y⟩ := y
    subst e
    exact hs D i x acc _ hD (y xs q) p
  · have e : i = xs.length := by omega
    subst e
    exact .inl ⟨⟨xs, q, Nat.le_refl _⟩, hd D acc H hD p⟩
/-- over a range -/
theorem comp_range {lo : Int} {m : Nat} (hz : m ≤ sizeLine) (Pv : Addr → Nat → List V → Hp → Prop) (h0 : ∀ D, H1 D = none → Pv D 0 [] (upd H1 D (.lst [])))
    (hl : ∀ D i acc H, H1 D = none → i ≤ m → Pv D i acc H → H D = some (.lst acc) ∧ acc.length ≤ i)
    (hs : ∀ D i acc H, H1 D = none → i < m → Pv D i acc H → g (.int (lo + i)) (cSt n js σ) H fun σ2 H2 => σ2.drop n = (cSt n js σ).drop n ∧ tc σ2 H2 fun b H3 => if b = true then te σ2 H3 fun v H4 => H4 D = some (.lst acc) ∧ Pv D (i + 1) (acc ++ [v]) (upd H4 D (.lst (acc ++ [v]))) else H3 D = some (.lst acc) ∧ Pv D (i + 1) acc H3)
    (hd : ∀ D acc H, H1 D = none → Pv D m acc H → Q (.ref D) H) : CompW n js g tc te σ Q (Itr lo m) H1 := by
  intro D hD
  refine ⟨fun i k acc H => k = m - i ∧ i ≤ m ∧ Pv D i acc H, ⟨m, by simp, Nat.zero_le _, h0 D hD⟩, ?_⟩
  rintro i k acc H ⟨rfl, hi, p⟩
  obtain ⟨e1, e3⟩ := hl D i acc H hD hi p
  refine ⟨e1, ?_⟩
  by_cases hlt : i < m
  · refine .inr ⟨hlt, by omega, Pv D (i + 1), fun acc' H' p' => ⟨m - (i + 1), by omega, rfl, hlt, p'⟩, fun x H' y => ?_⟩
    obtain ⟨e, y⟩ := y
    subst e y
    exact hs D i acc _ hD hlt p
  · have e : i = m := by omega
    subst e
    exact .inl ⟨Nat.le_refl _, hd D acc H hD p⟩

theorem Same.upd_new {H : Hp} {a : Addr} {o : HO} (h : H a = none) : Same H (upd H a o) := fun b u e => by
  rw [upd_ne (ne_of_none e h)]
  exact e
theorem Same.upd {H0 H : Hp} {a : Addr} {o : HO} (e : Same H0 H) (h : H0 a = none) : Same H0 (upd H a o) := fun b u q => by
  rw [upd_ne (ne_of_none q h)]
  exact e b u q
end

/-! ### readings in short, for simp -/
theorem cxOf_K {CX : CXT} {P : Program} {w : World} {K : PySem.W.Frag} {mg : Str → Option Value} {base : Heap} {N : List Str} {qual : Str} {scope : Scope} {f : Addr} {cd : Value} {A : Around} {outer : List Env} {s : Shared} {H : Hp} {E : XK} :
    (cxOf CX P w K mg base N qual scope f cd A outer s H E).K = K := rfl
theorem cxC_K {X : Cx} {scope : Scope} {N' : List Str} {C : Addr} {fp : List Addr} {s : Shared} {H : Hp} : (cxC X scope N' C fp s H).K = X.K := rfl
section
variable {H : Hp} {Q : VK} {i j : Int} {b c : Bool} {x y : Str}
theorem rEq_ii : rEq (.int i) (.int j) H Q = Q (.bl (decide (i = j))) H := by simp [rEq, scal]
theorem rNe_ii : rNe (.int i) (.int j) H Q = Q (.bl (!decide (i = j))) H := by simp [rNe, scal]
theorem rEq_bb : rEq (.bl b) (.bl c) H Q = Q (.bl (decide (b = c))) H := by simp [rEq, scal]
theorem rNe_bb : rNe (.bl b) (.bl c) H Q = Q (.bl (!decide (b = c))) H := by simp [rNe, scal]
theorem atI_in {α : Type} {xs : List α} {k : Int} (h0 : 0 ≤ k) (h1 : k < xs.length) : ∃ v, v ∈ xs ∧ atI xs k = some v := by
  obtain ⟨n, rfl⟩ := Int.eq_ofNat_of_zero_le h0
  have hn : n < xs.length := by omega
  exact ⟨xs[n], List.getElem_mem hn, atI_nat (List.getElem?_eq_getElem hn)⟩
end
theorem truV_bl {K : PySem.W.Frag} {H : Hp} {b k : Bool} : TruV K (.bl b) H k = (k = b) := rfl
theorem clsV_ty {n : String} : clsV (.ty n) = .type n := rfl
/-- what tFor asks of an iterator -/
def ForW (g : TG) (tb : TS) (D : Ends) (σ : St) (J : It) (H1 : Hp) : Prop := ∃ W : Nat → Nat → St → Hp → Prop, (∃ m, W 0 m σ H1) ∧ ∀ i m σ H, W i m σ H →
  (J.stop i H ∧ D.nx σ H) ∨ (J.go i H ∧ ∃ N : St → Hp → Prop, (∀ σ' H', N σ' H' → ∃ m', m' < m ∧ W (i + 1) m' σ' H') ∧ ∀ x H', J.yld i H x H' → g x σ H' fun σ2 H2 => tb { D with nx := N, ct := N, bk := D.nx } σ2 H2)
theorem tFor_eq {wi : TI} {g : TG} {tb : TS} {D : Ends} {σ : St} {H : Hp} : tFor wi g tb D σ H = wi σ H fun J H1 => ForW g tb D σ J H1 := rfl
theorem tComp_eq {n : Nat} {js : List Nat} {wi : TI} {g : TG} {tc : TT} {te : TE} {σ : St} {H : Hp} {Q : VK} : tComp n js wi g tc te σ H Q = wi σ H fun J H1 => CompW n js g tc te σ Q J H1 := rfl
/-- what was just made -/
theorem new_same {H H' : Hp} {p : Addr} {o : HO} (h : upd H p o = H') (hp : H p = none) : Same H H' ∧ H' p = some o := by
  subst h
  exact ⟨Same.upd_new hp, upd_same⟩
end L2
/-! Lists of tuples of ints on the abstract heap. -/
namespace L2
open PySem PySem.Spec PyProof.Rows
def TupI (H : Hp) (x : V) (d : List Int) : Prop := ∃ t, x = .ref t ∧ H t = some (.tup (d.map V.int))
abbrev DeedsX (H : Hp) (xs : List V) (ds : List (List Int)) : Prop := Paired (TupI H) xs ds
def DeedsAt (H : Hp) (a : Addr) (ds : List (List Int)) : Prop := ∃ xs, H a = some (.lst xs) ∧ DeedsX H xs ds
def dD (d : List Int) : PyData := .tuple (d.map PyData.int)
section
variable {H H' : Hp} {x : V} {d : List Int} {xs ys : List V} {ds es : List (List Int)} {a : Addr} {o : HO}
theorem TupI.same (e : Same H H') (h : TupI H x d) : TupI H' x d := let ⟨t, p, q⟩ := h; ⟨t, p, e _ _ q⟩
theorem TupI.upd (h : TupI H x d) (ha : ∀ zs, H a ≠ some (.tup zs)) : TupI (upd H a o) x d := by
  obtain ⟨t, p, q⟩ := h
  refine ⟨t, p, ?_⟩
  rw [upd_ne]
  · exact q
  · rintro rfl; exact ha _ q
theorem DeedsX.same (e : Same H H') (h : DeedsX H xs ds) : DeedsX H' xs ds := Paired.mapP h fun _ _ z => z.same e
theorem DeedsX.upd (h : DeedsX H xs ds) (ha : ∀ zs, H a ≠ some (.tup zs)) : DeedsX (upd H a o) xs ds := Paired.mapP h fun _ _ z => z.upd ha
theorem DeedsX.len (h : DeedsX H xs ds) : xs.length = ds.length := Paired.length h
theorem paired_append {α β : Type} {F : α → β → Prop} : ∀ {l1 m1 : List α} {l2 m2 : List β}, Paired F l1 l2 → Paired F m1 m2 → Paired F (l1 ++ m1) (l2 ++ m2)
  | _, _, _, _, .nil, s => s
  | _, _, _, _, .cons r t, s => .cons r (paired_append t s)
theorem paired_get {α β : Type} {F : α → β → Prop} : ∀ {l1 : List α} {l2 : List β} {i : Nat} {x : α}, Paired F l1 l2 → l1[i]? = some x → ∃ y, l2[i]? = some y ∧ F x y
  | _, _, _, _, .nil, e => by simp at e
  | _, _, 0, _, .cons r _, e => by simp at e; subst e; exact ⟨_, rfl, r⟩
  | _, _, i + 1, x, .cons _ t, e => by
    obtain ⟨u, h1, h2⟩ := paired_get (i := i) (x := x) t (by simpa using e)
    exact ⟨u, by simpa using h1, h2⟩
theorem DeedsAt.same (e : Same H H') (h : DeedsAt H a ds) : DeedsAt H' a ds := let ⟨xs, p, q⟩ := h; ⟨xs, e _ _ p, q.same e⟩
theorem hasAll_ints {K : PySem.W.Frag} : ∀ d : List Int, HasAll K H (d.map V.int) (d.map PyData.int)
  | [] => .nil
  | i :: d => .cons (.int i) (hasAll_ints d)
theorem TupI.has {K : PySem.W.Frag} (h : TupI H x d) : Has K H x (dD d) := by
  obtain ⟨t, rfl, e⟩ := h
  exact .tup (SqT.of e) (hasAll_ints d)
theorem DeedsX.has {K : PySem.W.Frag} : ∀ {xs : List V} {ds : List (List Int)}, DeedsX H xs ds → HasAll K H xs (ds.map dD)
  | _, _, .nil => .nil
  | _, _, .cons r t => .cons r.has (DeedsX.has t)
theorem DeedsAt.has {K : PySem.W.Frag} (h : DeedsAt H a ds) : Has K H (.ref a) (.list (ds.map dD)) := let ⟨_, p, q⟩ := h; .lst (SqL.of p) q.has
/-! equality of such data -/
/-! cuts -/
theorem cutV_map (d : List Int) (lo hi : Option Int) : ∃ e : List Int, cutV (d.map V.int) lo hi = e.map V.int := by
  unfold cutV
  exact ⟨(d.drop (HT.sIx (d.map V.int).length 0 lo)).take (HT.sIx (d.map V.int).length (d.map V.int).length hi - HT.sIx (d.map V.int).length 0 lo), by rw [List.map_take, List.map_drop]⟩
end
end L2
/-! Own classes in short; dicts with written keys; is with a truth. -/
namespace L2
open PySem PySem.Spec PyProof.Rows
/-- the method m of the class at C stands as st -/
def DefM (K : PySem.W.Frag) (C : Addr) (m qual : Str) (st : Stmt) : Prop := ∃ f fd, Meth K C m f ∧ Fun K m qual st f fd
/-- the class's __init__ stands as st, and the class can be made -/
def DefI (K : PySem.W.Frag) (C : Addr) (qual : Str) (st : Stmt) : Prop := ∃ f fd, Mk K C f ∧ Fun K "__init__" qual st f fd
def OwnM (P : Program) (w : World) (K : PySem.W.Frag) (mg : Str → Option Value) (base : Heap) (k : Nat) (C : Addr) (m : Str) (ps : List Str) (sp : Sp) : Prop :=
  ∃ f fd, Meth K C m f ∧ Binds K fd ps [] ∧ FnOk P w K mg base CX0 k f fd ps sp
def OwnI (P : Program) (w : World) (K : PySem.W.Frag) (mg : Str → Option Value) (base : Heap) (k : Nat) (C : Addr) (ps : List Str) (sp : Sp) : Prop :=
  ∃ f fd, Mk K C f ∧ Binds K fd ps [] ∧ FnOk P w K mg base CX0 k f fd ps sp
/-- the class x stands at C; none of it or above it has the names -/
structure ClsD (K : PySem.W.Frag) (mg : Str → Option Value) (x : Str) (C : Addr) (attrs : List Str) : Prop where
  mgC : mg x = some (.ref C)
  cl : Cls K C
  no : ∀ f ∈ attrs, NoAttr K C f
section
variable {P : Program} {w : World} {K : PySem.W.Frag} {mg : Str → Option Value} {base : Heap} {C : Addr} {m qual : Str} {st : Stmt} {N ps : List Str} {k : Nat} {sp : Sp}
theorem DefM.own (D : DefM K C m qual st) (S : FnScope N ps (defScope st))
    (hb : ∀ (kV doc pm : Value) (an : Option Addr) (cdv ct : Value) (us : List Value), us.length = ps.length → bindArgs (PySem.W.fnOf m qual (defArgs st) (defBody st) (defScope st) .none kV doc pm an cdv ct) ⟨us, []⟩ = pure (ps.zip us))
    (len : ∀ vs H Q E, sp vs H Q E → vs.length = ps.length)
    (hbody : ∀ (f : Addr) (cdv : Value) (A : Around) (outer : List Env) (s : Shared) (H : Hp) (vs : List V) (Q : VK) (E : XK), Room k (A.deeper (envOfC qual (defScope st) s.heap.objs.size f cdv)) → sp vs H Q E →
      ∃ t, PSs (cxOf CX0 P w K mg base N qual (defScope st) f cdv A outer s H E).nox (defBody st) t ∧ t { nx := fun _ H' => Q .non H', rt := Q } (start N vs) H) : OwnM P w K mg base (k + 1) C m ps sp := by
  obtain ⟨f, fd, hm, F⟩ := D
  exact ⟨f, fd, hm, F.binds hb, F.ok S len (hbody f)⟩
theorem DefI.own (D : DefI K C qual st) (S : FnScope N ps (defScope st))
    (hb : ∀ (kV doc pm : Value) (an : Option Addr) (cdv ct : Value) (us : List Value), us.length = ps.length → bindArgs (PySem.W.fnOf "__init__" qual (defArgs st) (defBody st) (defScope st) .none kV doc pm an cdv ct) ⟨us, []⟩ = pure (ps.zip us))
    (len : ∀ vs H Q E, sp vs H Q E → vs.length = ps.length)
    (hbody : ∀ (f : Addr) (cdv : Value) (A : Around) (outer : List Env) (s : Shared) (H : Hp) (vs : List V) (Q : VK) (E : XK), Room k (A.deeper (envOfC qual (defScope st) s.heap.objs.size f cdv)) → sp vs H Q E →
      ∃ t, PSs (cxOf CX0 P w K mg base N qual (defScope st) f cdv A outer s H E).nox (defBody st) t ∧ t { nx := fun _ H' => Q .non H', rt := Q } (start N vs) H) : OwnI P w K mg base (k + 1) C ps sp := by
  obtain ⟨f, fd, hm, F⟩ := D
  exact ⟨f, fd, hm, F.binds hb, F.ok S len (hbody f)⟩
theorem defI_mk {f : Addr} {oc : Value} {od an : Option Addr} {osl : Array (Option Value)} {kV doc pm cdv ct : Value} (a : PySem.W.findIn K (.ref C) "__init__" = some (some (.ref f))) (i : PySem.W.isFn K (.ref f) = true)
    (l : K.lookup f = some ⟨oc, od, .func (PySem.W.fnOf "__init__" qual (defArgs st) (defBody st) (defScope st) .none kV doc pm an cdv ct), osl⟩) (c : PySem.W.codeIn K cdv qual = true) (k : PySem.W.keepIn K (.ref f) = true)
    (mk : PySem.W.makesIn K C = true) (kc : PySem.W.keepIn K (.ref C) = true) : DefI K C qual st :=
  ⟨f, _, ⟨mk, a, i, kc⟩, fun_mk l c k⟩
end
section
variable {X : Cx} {j k : Nat} {C : Addr} {x m : Str} {ps : List Str} {sp : Sp} {p pos apos : Pos} {o e : Expr} {es : List Expr} {ta : TE} {t : TA}
theorem pe_mak (M : OwnI X.prog X.w X.K X.mg X.base j C ps sp) (hr : Room k X.A) (hm : X.mg x = some (.ref C)) (ha : PA X (e :: es) t) (hk : j + 1 ≤ k := by decide) (hg : Gl X x := by rfl)
    (hdb : (x == ("__debug__" : Str)) = false := by decide) (he : starEach (e :: es) X.env = (false, eval e X.env) :: starEach es X.env := by rfl) (hpl : (backTo pos (starEach es X.env)).any (·.1) = false := by rfl) :
    PE X (.Call (.Name x p) (e :: es) [] pos) (tMake C sp [] E0 t) := by
  obtain ⟨f, fd, hk', hb, F⟩ := M
  exact pe_make hk' F (hr.mono hk) hg hm hb .nil pass0 ha hdb he hpl
/-- x is True, x is False, of a truth -/
def rIsB : R2 := fun x y H Q => ∃ a b, x = .bl a ∧ y = .bl b ∧ Q (.bl (decide (a = b))) H
def rIsntB : R2 := fun x y H Q => ∃ a b, x = .bl a ∧ y = .bl b ∧ Q (.bl (!decide (a = b))) H
end
/-- a name of the top that holds a known value -/
theorem pe_glb {X : Cx} {x : Str} {v : V} {pos : Pos} (h : ∃ u, X.mg x = some u ∧ RelV v u) (hg : Gl X x := by rfl) (hd : (x == ("__debug__" : Str)) = false := by decide) : PE X (.Name x pos) (tC v) := by
  obtain ⟨u, hm, r⟩ := h
  exact pe_glob hg hm r hd
/-! dicts with written text keys -/
theorem DGet.s {H : Hp} {a : Addr} {kvs : List (Key × V)} {x : Str} {v : V} (e : H a = some (.dK kvs)) (h : valV kvs (Sum.inr x : Key) = some v) : DGet H a (.str x) (some v) := by
  have := DGet.k (k := Sum.inr x) e
  rw [h] at this
  exact this
theorem DPut.s {H : Hp} {a : Addr} {kvs : List (Key × V)} {x : Str} {v : V} {kvs' : List (Key × V)} (e : H a = some (.dK kvs)) (hl : kvs.length < sizeLine) (h : putK kvs (Sum.inr x : Key) v = kvs') : DPut H a (.str x) v (upd H a (.dK kvs')) := by
  subst h
  exact DPut.k (k := Sum.inr x) e hl
def tDGs (td : TE) (x : Str) : TE := fun σ H Q => td σ H fun d H1 => ∃ a kvs v, d = .ref a ∧ H1 a = some (.dK kvs) ∧ valV kvs (Sum.inr x : Key) = some v ∧ Q v H1
def sDPs (td tv : TE) (x : Str) : TS := fun D σ H => tv σ H fun v H1 => td σ H1 fun d H2 => ∃ a kvs, d = .ref a ∧ H2 a = some (.dK kvs) ∧ kvs.length < sizeLine ∧ D.nx σ (upd H2 a (.dK (putK kvs (Sum.inr x : Key) v)))
section
variable {X : Cx} {o value : Expr} {td tv : TE} {x : Str} {j : Nat} {pos pos' cpos : Pos}
end
theorem glb_mk {K : PySem.W.Frag} {h : Heap} {mg : Str → Option Value} (X : K.In h) (G : h.Ns mainGlobals mg) {x : Str} {i : Int} {t : Tok} (a : PySem.W.nsIn K mainGlobals x = some (some (.int i t))) : ∃ u, mg x = some u ∧ RelV (.int i) u :=
  ⟨_, PySem.W.mg_of X G a, t, rfl⟩
end L2
namespace K04
/-! The mathematics of a list's fairness: over flags, true where a deed has no delay. -/
def Run (c : List Bool) (k : Nat) : Prop := ∃ i, i + k ≤ c.length ∧ ∀ j, j < k → c[i + j]? = some true
def Tail (c : List Bool) (k : Nat) : Prop := k ≤ c.length ∧ ∀ j, j < k → c[c.length - k + j]? = some true

theorem Run.zero (c : List Bool) : Run c 0 := ⟨0, by omega, fun j h => by omega⟩
theorem Tail.zero (c : List Bool) : Tail c 0 := ⟨by omega, fun j h => by omega⟩

theorem Run.snoc {c : List Bool} {e : Bool} {k : Nat} : Run (c ++ [e]) k ↔ Run c k ∨ Tail (c ++ [e]) k := by
  constructor
  · rintro ⟨i, h1, h2⟩
    simp at h1
    by_cases h : i + k = c.length + 1
    · refine .inr ⟨by simp; omega, fun j hj => ?_⟩
      have e2 : (c ++ [e]).length - k + j = i + j := by simp; omega
      rw [e2]; exact h2 j hj
    · refine .inl ⟨i, by omega, fun j hj => ?_⟩
      have := h2 j hj
      rw [List.getElem?_append_left (by omega)] at this
      exact this
  · rintro (⟨i, h1, h2⟩ | ⟨h1, h2⟩)
    · exact ⟨i, by simp; omega, fun j hj => by rw [List.getElem?_append_left (by omega)]; exact h2 j hj⟩
    · exact ⟨(c ++ [e]).length - k, by omega, h2⟩

/-- of k places one after another, round and round, none has a delay -/
def Ring (b : List Bool) (k : Nat) : Prop := ∃ st, st < b.length ∧ ∀ j, j < k → b[(st + j) % b.length]? = some true

theorem Ring.lt {b : List Bool} {k : Nat} (hf : false ∈ b) (h : Ring b k) : k < b.length := by
  obtain ⟨st, hs, h⟩ := h
  rcases Nat.lt_or_ge k b.length with z | z
  · exact z
  · exfalso
    obtain ⟨i, hi, e⟩ := List.mem_iff_getElem.mp hf
    have q := h ((i + b.length - st) % b.length) (Nat.lt_of_lt_of_le (Nat.mod_lt _ (by omega)) z)
    have e2 : (st + (i + b.length - st) % b.length) % b.length = i := by
      rw [Nat.add_mod_mod]
      have : st + (i + b.length - st) = i + b.length := by omega
      rw [this, Nat.add_mod_right, Nat.mod_eq_of_lt hi]
    rw [e2, List.getElem?_eq_getElem hi, e] at q
    cases q

end K04
/-! Letters, pairs under way, a road, over the abstract heap. -/
namespace L2
open PySem PySem.Spec PyProof.Rows
def optV : Option Int → V
  | some n => .int n
  | none => .non
/-- all but the places of S stays -/
def Keep (S : List Addr) (H H' : Hp) : Prop := ∀ b o, H b = some o → b ∉ S → H' b = some o
section
variable {S T : List Addr} {H H1 H2 : Hp} {a b : Addr} {o : HO}
theorem Keep.refl : Keep S H H := fun _ _ h _ => h
theorem Keep.trans (k : Keep S H H1) (j : Keep S H1 H2) : Keep S H H2 := fun b o h n => j b o (k b o h n) n
theorem Same.keep (s : Same H H1) : Keep S H H1 := fun b o h _ => s b o h
theorem Keep.same (k : Keep S H H1) (s : Same H1 H2) : Keep S H H2 := fun b o h n => s b o (k b o h n)
theorem Keep.mono (k : Keep S H H1) (h : ∀ b ∈ S, b ∈ T) : Keep T H H1 := fun b o e n => k b o e fun z => n (h b z)
theorem Keep.upd (k : Keep S H H1) (h : a ∈ S ∨ H a = none) : Keep S H (upd H1 a o) := fun b u e n => by
  rw [upd_ne]
  · exact k b u e n
  · rintro rfl
    rcases h with z | z
    · exact n z
    · rw [z] at e; cases e
theorem Keep.free (k : Keep S H H1) (h : H1 b = none) (hb : b ∉ S) : H b = none := by
  cases e : H b with
  | none => rfl
  | some o => rw [k b o e hb] at h; cases h
end
/-- a letter and what it says -/
inductive LetV (H : Hp) : V → PyData → Prop
  | str {t : Str} (ok : PyData.strOk t = true) : LetV H (.str t) (.str t)
  | int (n : Int) : LetV H (.int n) (.int n)
  | lst {p : Addr} {n : Int} : H p = some (.lst [.int n]) → LetV H (.ref p) (.list [.int n])
  | tup {p : Addr} {t : Str} {n : Int} (ok : PyData.strOk t = true) : H p = some (.tup [.str t, .int n]) → LetV H (.ref p) (.tuple [.str t, .int n])
theorem strOk_of (x : String) : PyData.strOk (Str.ofString x) = true := by
  rw [Str.ofString_eq_toList]
  unfold PyData.strOk
  rw [Array.all_eq_true_iff_forall_mem]
  intro c hc
  rw [List.mem_toArray, List.mem_map] at hc
  obtain ⟨a, _, rfl⟩ := hc
  refine decide_eq_true ?_
  rcases a.valid with h | h
  · exact Nat.lt_of_lt_of_le h (by decide)
  · exact h.2
/-- no letter lies here -/
def Soft (H : Hp) (b : Addr) : Prop := (∀ xs, H b ≠ some (.tup xs)) ∧ ∀ n, H b ≠ some (.lst [.int n])
section
variable {S : List Addr} {H H' : Hp} {x : V} {d : PyData} {b : Addr}
theorem LetV.keep (k : Keep S H H') (hs : ∀ b ∈ S, Soft H b) : LetV H x d → LetV H' x d
  | .str ok => .str ok
  | .int n => .int n
  | .lst h => .lst (k _ _ h fun z => (hs _ z).2 _ h)
  | .tup ok h => .tup ok (k _ _ h fun z => (hs _ z).1 _ h)
theorem LetV.same (s : Same H H') (h : LetV H x d) : LetV H' x d := h.keep (S := []) s.keep (fun _ z => nomatch z)
theorem LetV.has {K : PySem.W.Frag} : LetV H x d → Has K H x d
  | .str _ => .str _
  | .int n => .int n
  | .lst h => .lst (SqL.of h) (.cons (.int _) .nil)
  | .tup _ h => .tup (SqT.of h) (.cons (.str _) (.cons (.int _) .nil))
theorem LetV.refl : LetV H x d → PyData.eqv d d = true
  | .str t => by simp [PyData.eqv]
  | .int n => by simp [PyData.eqv]
  | .lst h => by simp [PyData.eqv, PyData.eqvAll]
  | .tup _ h => by simp [PyData.eqv, PyData.eqvAll]
theorem LetV.lay : LetV H x d → PyData.canLay0 d = true
  | .str ok => by simp [PyData.canLay0, ok]
  | .int n => by simp [PyData.canLay0]
  | .lst h => by simp [PyData.canLay0, PyData.canLayAll0]
  | .tup ok h => by simp [PyData.canLay0, PyData.canLayAll0, ok]
theorem LetV.depth : LetV H x d → d.depth ≤ 3
  | .str t => by simp [PyData.depth]
  | .int n => by simp [PyData.depth]
  | .lst h => by simp [PyData.depth, PyData.depthAll]
  | .tup _ h => by simp [PyData.depth, PyData.depthAll]
end
def LetsX (H : Hp) (zs : List V) (qs : List PyData) : Prop := Paired (LetV H) zs qs
section
variable {S : List Addr} {H H' : Hp}
theorem LetsX.keep (k : Keep S H H') (hs : ∀ b ∈ S, Soft H b) {zs : List V} {qs : List PyData} (h : LetsX H zs qs) : LetsX H' zs qs := Paired.mapP h fun _ _ z => z.keep k hs
theorem LetsX.same (s : Same H H') {zs : List V} {qs : List PyData} (h : LetsX H zs qs) : LetsX H' zs qs := Paired.mapP h fun _ _ z => z.same s
theorem LetsX.has {K : PySem.W.Frag} : ∀ {zs : List V} {qs : List PyData}, LetsX H zs qs → HasAll K H zs qs
  | _, _, .nil => .nil
  | _, _, .cons r t => .cons r.has (LetsX.has t)
theorem LetsX.refl : ∀ {zs : List V} {qs : List PyData}, LetsX H zs qs → PyData.eqvAll qs qs = true
  | _, _, .nil => by simp [PyData.eqvAll]
  | _, _, .cons r t => by rw [PyData.eqvAll, r.refl, LetsX.refl t]; rfl
theorem LetsX.lay : ∀ {zs : List V} {qs : List PyData}, LetsX H zs qs → PyData.canLayAll0 qs = true
  | _, _, .nil => by simp [PyData.canLayAll0]
  | _, _, .cons r t => by rw [PyData.canLayAll0, r.lay, LetsX.lay t]; rfl
theorem LetsX.depth : ∀ {zs : List V} {qs : List PyData}, LetsX H zs qs → PyData.depthAll qs ≤ 3
  | _, _, .nil => by simp [PyData.depthAll]
  | _, _, .cons r t => by
    have h1 := r.depth
    have h2 := LetsX.depth t
    rw [PyData.depthAll]
    omega
theorem LetsX.shaped {zs : List V} {qs : List PyData} (h : LetsX H zs qs) : SeqAt.shaped (.list qs) = true := by
  have := h.depth
  unfold SeqAt.shaped
  rw [PyData.canLay0, h.lay, PyData.depth, decide_eq_true (by omega)]; rfl
end
/-- a pair of a turn and a letter -/
def PairV (H : Hp) (x : V) (p : Int × PyData) : Prop := ∃ t y, x = .ref t ∧ H t = some (.tup [.int p.1, y]) ∧ LetV H y p.2
def PairsX (H : Hp) (xs : List V) (us : List (Int × PyData)) : Prop := Paired (PairV H) xs us
section
variable {S : List Addr} {H H' : Hp} {xs : List V} {us : List (Int × PyData)} {b : Addr}
theorem PairV.keep (k : Keep S H H') (hs : ∀ b ∈ S, Soft H b) {x : V} {p : Int × PyData} (h : PairV H x p) : PairV H' x p := by
  obtain ⟨t, y, e, h1, h2⟩ := h
  exact ⟨t, y, e, k _ _ h1 fun z => (hs _ z).1 _ h1, h2.keep k hs⟩
theorem PairsX.keep (k : Keep S H H') (hs : ∀ b ∈ S, Soft H b) (h : PairsX H xs us) : PairsX H' xs us := Paired.mapP h fun _ _ z => z.keep k hs
theorem PairsX.same (s : Same H H') (h : PairsX H xs us) : PairsX H' xs us := h.keep (S := []) s.keep (fun _ z => nomatch z)
theorem PairsX.len (h : PairsX H xs us) : xs.length = us.length := Paired.length h
theorem deeds_keep {a : Addr} {ds : List (List Int)} (k : Keep S H H') (hs : ∀ b ∈ S, Soft H b) (ha : a ∉ S) (h : DeedsAt H a ds) : DeedsAt H' a ds := by
  obtain ⟨xs, e, d⟩ := h
  exact ⟨xs, k _ _ e ha, Paired.mapP d fun _ _ ⟨t, p, q⟩ => ⟨t, p, k _ _ q fun z => (hs _ z).1 _ q⟩⟩
theorem Soft.keep {T : List Addr} (k : Keep T H H') (hb : b ∉ T) (hn : H b ≠ none) (h : Soft H b) : Soft H' b := by
  cases e : H b with
  | none => exact absurd e hn
  | some o =>
    have := k b o e hb
    refine ⟨fun xs q => h.1 xs ?_, fun n q => h.2 n ?_⟩
    · rw [this] at q; rw [e]; exact q
    · rw [this] at q; rw [e]; exact q
end
/-- the delays of what is sent in turn z -/
def del (ds : List (List Int)) (z : Int) : List Int := if ds = [] then [1] else ds.getD (z.toNat % ds.length) []
/-! ### a road -/
def rf (l : Addr) (ls la : Option Int) (u : Addr) : List (Str × V) := [("deeds", .ref l), ("last_sent", optV ls), ("last_asked", optV la), ("underway", .ref u)]
section
variable {l u : Addr} {ls la : Option Int}
end
structure RoadAt (C : Addr) (H : Hp) (x dx l u : Addr) (ds : List (List Int)) (ls la : Option Int) (us : List (Int × PyData)) : Prop where
  ins : H x = some (.ins C dx (rf l ls la u))
  deeds : DeedsAt H l ds
  und : ∃ xs, H u = some (.lst xs) ∧ PairsX H xs us
  ne : l ≠ u
section
variable {S : List Addr} {C : Addr} {H H' : Hp} {x dx l u : Addr} {ds : List (List Int)} {ls la : Option Int} {us : List (Int × PyData)}
theorem RoadAt.keep (k : Keep S H H') (hs : ∀ b ∈ S, Soft H b) (hx : x ∉ S) (hl : l ∉ S) (hu : u ∉ S) (R : RoadAt C H x dx l u ds ls la us) : RoadAt C H' x dx l u ds ls la us := by
  obtain ⟨xs, e, p⟩ := R.und
  exact ⟨k _ _ R.ins hx, deeds_keep k hs hl R.deeds, ⟨xs, k _ _ e hu, p.keep k hs⟩, R.ne⟩
theorem RoadAt.same (s : Same H H') (R : RoadAt C H x dx l u ds ls la us) : RoadAt C H' x dx l u ds ls la us := R.keep (S := []) s.keep (fun _ z => nomatch z) (fun z => nomatch z) (fun z => nomatch z) (fun z => nomatch z)
end
/-! ### what isinstance tells of a letter -/
end L2
namespace L2
open PySem PySem.Spec PyProof.Rows
theorem Same.seqT {K : PySem.W.Frag} {H H' : Hp} {a : Addr} {xs : List V} (e : Same H H') (h : SqT K H a xs) : SqT K H' a xs := by
  rcases h with h | h
  · rcases h with h | ⟨o, h⟩
    · exact .inl (.inl (e _ _ h))
    · exact .inl (.inr ⟨o, e _ _ h⟩)
  · exact .inr h
theorem SqT.keep {K : PySem.W.Frag} {S : List Addr} {H H' : Hp} {a : Addr} {xs : List V} (k : Keep S H H') (hs : ∀ b ∈ S, ∃ ys, H b = some (.lst ys)) (h : SqT K H a xs) : SqT K H' a xs := by
  rcases h with h | h
  · rcases h with h | ⟨o, h⟩
    · exact .inl (.inl (k _ _ h fun z => by obtain ⟨ys, e⟩ := hs _ z; rw [h] at e; cases e))
    · exact .inl (.inr ⟨o, k _ _ h fun z => by obtain ⟨ys, e⟩ := hs _ z; rw [h] at e; cases e⟩)
  · exact .inr h
end L2
/-! Data that cannot change: numbers, texts, tuples of such. -/
namespace L2
open PySem PySem.Spec PyProof.Rows
mutual
inductive Im (H : Hp) : V → PyData → Prop
  | non : Im H .non .none
  | bl (b : Bool) : Im H (.bl b) (.bool b)
  | int (n : Int) : Im H (.int n) (.int n)
  | str {t : Str} (ok : PyData.strOk t = true) : Im H (.str t) (.str t)
  | tup {p : Addr} {xs : List V} {ds : List PyData} : H p = some (.tup xs) → Ims H xs ds → xs.length ≤ 1000 → Im H (.ref p) (.tuple ds)
inductive Ims (H : Hp) : List V → List PyData → Prop
  | nil : Ims H [] []
  | cons {x : V} {xs : List V} {d : PyData} {ds : List PyData} : Im H x d → Ims H xs ds → Ims H (x :: xs) (d :: ds)
end
/-- no tuple lies here -/
def NoT (H : Hp) (b : Addr) : Prop := ∀ xs, H b ≠ some (.tup xs)
section
variable {S : List Addr} {H H' : Hp} {b : Addr}
theorem NoT.of_lst {xs : List V} (h : H b = some (.lst xs)) : NoT H b := fun xs e => by rw [h] at e; cases e
mutual
theorem Im.keep (k : Keep S H H') (hs : ∀ b ∈ S, NoT H b) : ∀ {x : V} {d : PyData}, Im H x d → Im H' x d
  | _, _, .non => .non
  | _, _, .bl b => .bl b
  | _, _, .int n => .int n
  | _, _, .str ok => .str ok
  | _, _, .tup h hx hl => .tup (k _ _ h fun z => hs _ z _ h) (Ims.keep k hs hx) hl
theorem Ims.keep (k : Keep S H H') (hs : ∀ b ∈ S, NoT H b) : ∀ {xs : List V} {ds : List PyData}, Ims H xs ds → Ims H' xs ds
  | _, _, .nil => .nil
  | _, _, .cons r t => .cons (Im.keep k hs r) (Ims.keep k hs t)
end
theorem Im.same (s : Same H H') {x : V} {d : PyData} (h : Im H x d) : Im H' x d := h.keep (S := []) s.keep (fun _ z => nomatch z)
theorem Ims.same (s : Same H H') {xs : List V} {ds : List PyData} (h : Ims H xs ds) : Ims H' xs ds := h.keep (S := []) s.keep (fun _ z => nomatch z)
mutual
theorem Im.has {K : PySem.W.Frag} : ∀ {x : V} {d : PyData}, Im H x d → Has K H x d
  | _, _, .non => .non
  | _, _, .bl b => .bl b
  | _, _, .int n => .int n
  | _, _, .str _ => .str _
  | _, _, .tup h hx _ => .tup (SqT.of h) (Ims.has hx)
theorem Ims.has {K : PySem.W.Frag} : ∀ {xs : List V} {ds : List PyData}, Ims H xs ds → HasAll K H xs ds
  | _, _, .nil => .nil
  | _, _, .cons r t => .cons (Im.has r) (Ims.has t)
end
mutual
theorem Im.refl : ∀ {x : V} {d : PyData}, Im H x d → PyData.eqv d d = true
  | _, _, .non => by simp [PyData.eqv]
  | _, _, .bl b => by simp [PyData.eqv]
  | _, _, .int n => by simp [PyData.eqv]
  | _, _, .str _ => by simp [PyData.eqv]
  | _, _, .tup _ hx _ => by rw [PyData.eqv]; exact Ims.refl hx
theorem Ims.refl : ∀ {xs : List V} {ds : List PyData}, Ims H xs ds → PyData.eqvAll ds ds = true
  | _, _, .nil => by simp [PyData.eqvAll]
  | _, _, .cons r t => by rw [PyData.eqvAll, Im.refl r, Ims.refl t]; rfl
end
mutual
theorem Im.lay : ∀ {x : V} {d : PyData}, Im H x d → PyData.canLay0 d = true
  | _, _, .non => by simp [PyData.canLay0]
  | _, _, .bl b => by simp [PyData.canLay0]
  | _, _, .int n => by simp [PyData.canLay0]
  | _, _, .str ok => by simp [PyData.canLay0, ok]
  | _, _, .tup _ hx _ => by rw [PyData.canLay0]; exact Ims.lay hx
theorem Ims.lay : ∀ {xs : List V} {ds : List PyData}, Ims H xs ds → PyData.canLayAll0 ds = true
  | _, _, .nil => by simp [PyData.canLayAll0]
  | _, _, .cons r t => by rw [PyData.canLayAll0, Im.lay r, Ims.lay t]; rfl
end
theorem Ims.len : ∀ {xs : List V} {ds : List PyData}, Ims H xs ds → xs.length = ds.length
  | _, _, .nil => rfl
  | _, _, .cons _ t => by rw [List.length_cons, List.length_cons, Ims.len t]
theorem Ims.get : ∀ {xs : List V} {ds : List PyData} {i : Nat} {x : V}, Ims H xs ds → xs[i]? = some x → ∃ d, ds[i]? = some d ∧ Im H x d
  | _, _, _, _, .nil, e => by simp at e
  | _, _, 0, _, .cons r _, e => by simp at e; subst e; exact ⟨_, rfl, r⟩
  | _, _, i + 1, x, .cons _ t, e => by
    obtain ⟨u, h1, h2⟩ := Ims.get (i := i) (x := x) t (by simpa using e)
    exact ⟨u, by simpa using h1, h2⟩
theorem Ims.take : ∀ {xs : List V} {ds : List PyData} (n : Nat), Ims H xs ds → Ims H (xs.take n) (ds.take n)
  | _, _, 0, _ => by simp only [List.take_zero]; exact .nil
  | _, _, _ + 1, .nil => .nil
  | _, _, n + 1, .cons r t => .cons r (Ims.take n t)
theorem Ims.drop : ∀ {xs : List V} {ds : List PyData} (n : Nat), Ims H xs ds → Ims H (xs.drop n) (ds.drop n)
  | _, _, 0, r => r
  | _, _, _ + 1, .nil => .nil
  | _, _, n + 1, .cons _ t => Ims.drop n t
theorem Ims.one {x : V} {d : PyData} (h : Im H x d) : Ims H [x] [d] := .cons h .nil
theorem shaped_of {d : PyData} (h : PyData.canLay0 d = true) (hd : d.depth ≤ 64) : SeqAt.shaped d = true := by
  unfold SeqAt.shaped
  rw [h, decide_eq_true hd]; rfl
theorem depthAll_le {n : Nat} : ∀ {ds : List PyData}, (∀ d ∈ ds, d.depth ≤ n) → PyData.depthAll ds ≤ n
  | [], _ => Nat.zero_le _
  | d :: ds, h => by
    rw [PyData.depthAll]
    exact Nat.max_le.mpr ⟨h d (.head _), depthAll_le fun e he => h e (.tail _ he)⟩
end
/-! ### sum of a list of numbers -/
section
variable {X : Cx}
end
section
variable {X : Cx} {j k : Nat} {C : Addr} {x m : Str} {ps : List Str} {sp : Sp} {p pos apos : Pos} {o : Expr} {ta : TE}
end
/-! ### numbered parcels -/
/-- a pair of a number and a parcel -/
def pd (p : Int × PyData) : PyData := .tuple [.int p.1, p.2]
section
variable {S : List Addr} {H H' : Hp}
theorem Ims.pair {v : V} {p : Int × PyData} (h : Im H v (pd p)) : ∃ t y, v = .ref t ∧ H t = some (.tup [.int p.1, y]) ∧ Im H y p.2 := by
  unfold pd at h
  cases h with
  | @tup t xs ds e hx hl =>
    cases hx with
    | cons r1 hx =>
      cases r1
      cases hx with
      | cons r2 hx =>
        cases hx
        exact ⟨t, _, rfl, e, r2⟩
theorem Im.pair {t : Addr} {y : V} {n : Int} {d : PyData} (e : H t = some (.tup [.int n, y])) (h : Im H y d) : Im H (.ref t) (pd (n, d)) := .tup e (.cons (.int n) (.cons h .nil)) (by simp)
end
/-- what the taker does with a pair -/
def tk (s : Int × List PyData) (p : Int × PyData) : Int × List PyData := if p.1 = s.1 then (s.1 + 1, s.2 ++ [p.2]) else s
end L2
/-! Readings that may be weakened: what while_by asks of a test. -/
namespace L2
open PySem PySem.Spec PyProof.Rows
/-! ### a list and another one, both only read -/
section
variable {X : Cx}
end
end L2
/-! Readings by what stands at an address itself: they run by simp alone. -/
namespace L2
open PySem PySem.Spec PyProof.Rows
section
variable {X : Cx}
theorem OpR.weak {f : Value → Value → Sem Value} {r r' : R2} (h : OpR X f r) (w : ∀ x y H Q, r' x y H Q → r x y H Q) : OpR X f r' :=
  fun pins s σ H x y v u Q I rx ry q => h pins s σ H x y v u Q I rx ry (w _ _ _ _ q)
theorem IxR.weak {r r' : R2} (h : IxR X r) (w : ∀ x y H Q, r' x y H Q → r x y H Q) : IxR X r' :=
  fun value slice pins s σ H x y v u Q I rx ry q hs => h value slice pins s σ H x y v u Q I rx ry (w _ _ _ _ q) hs
theorem CallR.weak {f : Value} {r r' : List V → Hp → VK → Prop} (h : CallR X f r) (w : ∀ xs H Q, r' xs H Q → r xs H Q) : CallR X f r' :=
  fun pins s σ H xs us Q I rs q => h pins s σ H xs us Q I rs (w _ _ _ q)
theorem SlR.weak {r r' : V → Option Int → Option Int → Hp → VK → Prop} (h : SlR X r) (w : ∀ x l u H Q, r' x l u H Q → r x l u H Q) : SlR X r' :=
  fun pins s σ H x v vl vu lo hi sl Q I rx hs pl pu q => h pins s σ H x v vl vu lo hi sl Q I rx hs pl pu (w _ _ _ _ _ q)

/-! ### a subscript -/
def getO : HO → V → Option V
  | .lst xs, .int i => atI xs i
  | .tup xs, .int i => atI xs i
  | .dK kvs, .int i => valV kvs (Sum.inl i)
  | .dK kvs, .str x => valV kvs (Sum.inr x)
  | _, _ => none
theorem getO_l {xs : List V} {i : Int} : getO (.lst xs) (.int i) = atI xs i := rfl
theorem getO_t {xs : List V} {i : Int} : getO (.tup xs) (.int i) = atI xs i := rfl
def rGet : R2 := fun x y H Q => ∃ p o v, x = .ref p ∧ H p = some o ∧ getO o y = some v ∧ Q v H
theorem ix_dict (hu : X.A.units + 1 < cLine) : IxR X (fun x y H Q => ∃ a v, x = .ref a ∧ DGet H a y (some v) ∧ Q v H) := by
  intro value slice pins s σ H x y v u Q I rx ry h hs
  obtain ⟨a, z, rfl, g, q⟩ := h
  cases rx
  exact tail_any (dict_typeIs I g) PySem.F.slot_dict_getitem.lookup (d_getItem hu I g ry fun w' s3 I3 rw' => ⟨z, H, I3, rw', q⟩) hs
theorem ix_get (hu : X.A.units + 1 < cLine) : IxR X rGet := by
  intro value slice pins s σ H x y v u Q I rx ry h hs
  obtain ⟨p, o, z, rfl, e, g, q⟩ := h
  cases o with
  | lst xs => cases y <;> first | exact ix_list value slice pins s σ H _ _ v u Q I rx ry ⟨p, xs, _, z, rfl, rfl, SqL.of e, g, q⟩ hs | cases g
  | tup xs => cases y <;> first | exact ix_tup value slice pins s σ H _ _ v u Q I rx ry ⟨p, xs, _, z, rfl, rfl, SqT.of e, g, q⟩ hs | cases g
  | dK kvs =>
    cases y with
    | int i => exact ix_dict hu value slice pins s σ H _ _ v u Q I rx ry ⟨p, z, rfl, .inl ⟨kvs, Sum.inl i, .inl e, rfl, g.symm⟩, q⟩ hs
    | str x => exact ix_dict hu value slice pins s σ H _ _ v u Q I rx ry ⟨p, z, rfl, .inl ⟨kvs, Sum.inr x, .inl e, rfl, g.symm⟩, q⟩ hs
    | _ => cases g
  | _ => cases y <;> cases g

/-! ### len -/
def lenO : HO → Option Nat
  | .lst xs => some xs.length
  | .tup xs => some xs.length
  | .dK kvs => some kvs.length
  | _ => none
def lenX (H : Hp) : V → Option Nat
  | .ref p => (H p).bind lenO
  | .str z => if z.length ≤ sizeLine then some z.length else none
  | _ => none
theorem lenX_r {H : Hp} {p : Addr} : lenX H (.ref p) = (H p).bind lenO := rfl
theorem lenX_s {H : Hp} {z : Str} (h : z.length ≤ 100000) : lenX H (.str z) = some z.length := by
  show (if _ then _ else _) = _
  rw [if_pos (by rw [sizeLine_eq]; omega)]
theorem lenO_l {xs : List V} : lenO (.lst xs) = some xs.length := rfl
def rLenX : List V → Hp → VK → Prop := fun xs H Q => ∃ x n, xs = [x] ∧ lenX H x = some n ∧ Q (.int n) H
theorem call_lenX : CallR X (.builtin "len") rLenX := by
  intro pins s σ H xs us Q I r h
  obtain ⟨x, n, rfl, g, q⟩ := h
  cases x with
  | ref p =>
    cases e : H p with
    | none => rw [lenX_r, e] at g; cases g
    | some o =>
      rw [lenX_r, e] at g
      cases o with
      | lst xs => cases g; exact call_len_seq pins s σ H _ us Q I r ⟨p, xs, rfl, .inl (SqL.of e), q⟩
      | tup xs => cases g; exact call_len_seq pins s σ H _ us Q I r ⟨p, xs, rfl, .inr (SqT.of e), q⟩
      | dK kvs =>
        cases g
        obtain ⟨u, rfl, rx⟩ := vals1 r
        cases rx
        exact d_len I (.inl e) fun t s' I' => ⟨.int _, H, I', ⟨t, rfl⟩, q⟩
      | _ => cases g
  | str z =>
    have g' : (if z.length ≤ sizeLine then some z.length else none) = some n := g
    split at g'
    · cases g'
      rename_i hz
      exact call_len_str pins s σ H _ us Q I r ⟨z, rfl, hz, q⟩
    · cases g'
  | _ => cases g

/-! ### truth -/
def truO : HO → Option Bool
  | .lst xs => some (!xs.isEmpty)
  | .tup xs => some (!xs.isEmpty)
  | .dK kvs => some (!kvs.isEmpty)
  | _ => none
def truX (H : Hp) : V → Option Bool
  | .non => some false
  | .bl b => some b
  | .int i => some (i != 0)
  | .ref p => (H p).bind truO
  | _ => none
theorem truX_b {H : Hp} {b : Bool} : truX H (.bl b) = some b := rfl
theorem truX_r {H : Hp} {p : Addr} : truX H (.ref p) = (H p).bind truO := rfl
def tTruX (ta : TE) : TT := fun σ H Q => ta σ H fun x H' => ∃ k, truX H' x = some k ∧ Q k H'
theorem tru_x : TruR X (fun x H Q => ∃ k, truX H x = some k ∧ Q k H) := by
  intro pins s σ H x v Q I rx h
  obtain ⟨k, g, q⟩ := h
  refine tru_ok pins s σ H x v Q I rx ⟨k, ?_, q⟩
  cases x with
  | non => cases g; rfl
  | bl b => cases g; rfl
  | int i => cases g; rfl
  | ref p =>
    cases e : H p with
    | none => rw [truX_r, e] at g; cases g
    | some o =>
      rw [truX_r, e] at g
      cases o with
      | lst xs => cases g; exact .inl ⟨xs, SqL.of e, rfl⟩
      | tup xs => cases g; exact .inr (.inl ⟨xs, SqT.of e, rfl⟩)
      | dK kvs => cases g; exact .inr (.inr ⟨kvs, e, rfl⟩)
      | _ => cases g
  | _ => cases g
theorem pt_truX {a : Expr} {ta : TE} (ha : PE X a ta) (he : ∀ whole, isTrue a X.env whole = (do let v ← whole; standAt a.pos; holding [v] (truthy v)) := by intro _; rfl) : PT X a (tTruX ta) := by
  intro pins s σ H Q I h
  exact isTrue_plain (thn (ha pins s σ H _ I h) fun v s1 ⟨x, H1, I1, r1, q1⟩ => tru_x pins s1 σ H1 x v Q I1 r1 q1) (he _)

/-! ### in, not in -/
def inO : HO → V → Option Bool
  | .lst xs, x => if flatV x = true ∧ xs.all flatV = true then some (inV x xs) else none
  | .tup xs, x => if flatV x = true ∧ xs.all flatV = true then some (inV x xs) else none
  | .dK kvs, .int i => some (valV kvs (Sum.inl i)).isSome
  | .dK kvs, .str z => some (valV kvs (Sum.inr z)).isSome
  | _, _ => none
def rInX : R2 := fun x y H Q => ∃ p o b, y = .ref p ∧ H p = some o ∧ inO o x = some b ∧ Q (.bl b) H
def rNotInX : R2 := fun x y H Q => ∃ p o b, y = .ref p ∧ H p = some o ∧ inO o x = some b ∧ Q (.bl (!b)) H
theorem op_inX (hu : X.A.units + 1 < cLine) : OpR X (compareOp .In) rInX := by
  intro pins s σ H x y v u Q I rx ry h
  obtain ⟨p, o, b, rfl, e, g, q⟩ := h
  cases o with
  | lst xs =>
    have g' : (if flatV x = true ∧ xs.all flatV = true then some (inV x xs) else none) = some b := g
    split at g'
    · rename_i hz
      cases g'
      exact op_in_seq pins s σ H _ _ v u Q I rx ry ⟨p, xs, rfl, .inl (SqL.of e), hz.1, hz.2, q⟩
    · cases g'
  | tup xs =>
    have g' : (if flatV x = true ∧ xs.all flatV = true then some (inV x xs) else none) = some b := g
    split at g'
    · rename_i hz
      cases g'
      exact op_in_seq pins s σ H _ _ v u Q I rx ry ⟨p, xs, rfl, .inr (SqT.of e), hz.1, hz.2, q⟩
    · cases g'
  | dK kvs =>
    cases ry
    cases x with
    | int i => cases g; exact d_in hu I (.inl ⟨kvs, Sum.inl i, .inl e, rfl, rfl⟩) rx fun s' I' => ⟨.bl _, H, I', rfl, q⟩
    | str z => cases g; exact d_in hu I (.inl ⟨kvs, Sum.inr z, .inl e, rfl, rfl⟩) rx fun s' I' => ⟨.bl _, H, I', rfl, q⟩
    | _ => cases g
  | _ => cases x <;> cases g
theorem op_notinX (hu : X.A.units + 1 < cLine) : OpR X (compareOp .NotIn) rNotInX := by
  intro pins s σ H x y v u Q I rx ry h
  obtain ⟨p, o, b, rfl, e, g, q⟩ := h
  cases o with
  | lst xs =>
    have g' : (if flatV x = true ∧ xs.all flatV = true then some (inV x xs) else none) = some b := g
    split at g'
    · rename_i hz
      cases g'
      exact op_notIn_seq pins s σ H _ _ v u Q I rx ry ⟨p, xs, rfl, .inl (SqL.of e), hz.1, hz.2, q⟩
    · cases g'
  | tup xs =>
    have g' : (if flatV x = true ∧ xs.all flatV = true then some (inV x xs) else none) = some b := g
    split at g'
    · rename_i hz
      cases g'
      exact op_notIn_seq pins s σ H _ _ v u Q I rx ry ⟨p, xs, rfl, .inr (SqT.of e), hz.1, hz.2, q⟩
    · cases g'
  | dK kvs =>
    cases ry
    cases x with
    | int i => cases g; exact d_notIn hu I (.inl ⟨kvs, Sum.inl i, .inl e, rfl, rfl⟩) rx fun s' I' => ⟨.bl _, H, I', rfl, q⟩
    | str z => cases g; exact d_notIn hu I (.inl ⟨kvs, Sum.inr z, .inl e, rfl, rfl⟩) rx fun s' I' => ⟨.bl _, H, I', rfl, q⟩
    | _ => cases g
  | _ => cases x <;> cases g

/-! ### o[i] = v -/
def setO : HO → V → V → Option HO
  | .lst xs, .int k, v => (ixN xs.length k).map fun j => .lst (xs.set j v)
  | .dK kvs, .int i, v => if kvs.length < sizeLine then some (.dK (putK kvs (Sum.inl i) v)) else none
  | .dK kvs, .str z, v => if kvs.length < sizeLine then some (.dK (putK kvs (Sum.inr z) v)) else none
  | _, _, _ => none
theorem setO_l {xs : List V} {k : Int} {v : V} : setO (.lst xs) (.int k) v = (ixN xs.length k).map fun j => .lst (xs.set j v) := rfl
def rSetX : V → V → V → Hp → (Hp → Prop) → Prop := fun o i v H Q => ∃ p ob ob', o = .ref p ∧ H p = some ob ∧ setO ob i v = some ob' ∧ Q (upd H p ob')
theorem set_x (hu : X.A.units + 1 < cLine) : PSet X rSetX := by
  intro pins s σ H o i v ov iv u Q I ro ri rv h
  obtain ⟨p, ob, ob', rfl, e, g, q⟩ := h
  cases ob with
  | lst xs =>
    cases i with
    | int k =>
      cases z : ixN xs.length k with
      | none => rw [setO_l, z] at g; cases g
      | some j =>
        rw [setO_l, z] at g
        cases g
        exact set_list pins s σ H _ _ v ov iv u Q I ro ri rv ⟨p, xs, k, j, rfl, rfl, e, z, q⟩
    | _ => cases g
  | dK kvs =>
    cases ro
    cases i with
    | int k =>
      have g' : (if kvs.length < sizeLine then some (HO.dK (putK kvs (Sum.inl k) v)) else none) = some ob' := g
      split at g'
      · rename_i hz
        cases g'
        exact d_setItem hu I (.inl ⟨kvs, Sum.inl k, e, rfl, hz, rfl⟩) ri rv fun s' I' => ⟨_, I', q⟩
      · cases g'
    | str k =>
      have g' : (if kvs.length < sizeLine then some (HO.dK (putK kvs (Sum.inr k) v)) else none) = some ob' := g
      split at g'
      · rename_i hz
        cases g'
        exact d_setItem hu I (.inl ⟨kvs, Sum.inr k, e, rfl, hz, rfl⟩) ri rv fun s' I' => ⟨_, I', q⟩
      · cases g'
    | _ => cases g
  | _ => cases i <;> cases g

/-! ### slices, list(x), tuple(x) -/
def rSlX : V → Option Int → Option Int → Hp → VK → Prop := fun x lo hi H Q => ∃ a xs, x = .ref a ∧ H a = some (.lst xs) ∧ ∀ p, H p = none → Q (.ref p) (upd H p (.lst (cutV xs lo hi)))
theorem sl_X : SlR X rSlX := sl_list.weak fun _ _ _ _ _ ⟨a, xs, e, h, q⟩ => ⟨a, xs, e, SqL.of h, q⟩
def seqO : HO → Option (List V)
  | .lst xs => some xs
  | .tup xs => some xs
  | _ => none
theorem seqO_l {xs : List V} : seqO (.lst xs) = some xs := rfl
theorem seqO_t {xs : List V} : seqO (.tup xs) = some xs := rfl
theorem seqO_of {K : PySem.W.Frag} {H : Hp} {p : Addr} {o : HO} {ys : List V} (h : H p = some o) (g : seqO o = some ys) : SqL K H p ys ∨ SqT K H p ys := by
  cases o with
  | lst xs => cases g; exact .inl (SqL.of h)
  | tup xs => cases g; exact .inr (SqT.of h)
  | _ => cases g
def rListX : List V → Hp → VK → Prop := fun xs H Q => ∃ p o ys, xs = [.ref p] ∧ H p = some o ∧ seqO o = some ys ∧ ∀ l, H l = none → Q (.ref l) (upd H l (.lst ys))
theorem call_listX : CallR X (.type "list") rListX := call_list_of.weak fun _ _ _ ⟨p, o, ys, e, h, g, q⟩ => ⟨p, ys, e, seqO_of h g, q⟩
/-! ### targets and loops -/
/-! ### equality of scalars, of data -/
/-- data that may be compared -/
def Dt (H : Hp) (v : V) (d : PyData) : Prop := (∀ K : PySem.W.Frag, Has K H v d) ∧ PyData.canLay0 d = true ∧ PyData.eqv d d = true
def Dts (H : Hp) (xs : List V) (ds : List PyData) : Prop := (∀ K : PySem.W.Frag, HasAll K H xs ds) ∧ PyData.canLayAll0 ds = true ∧ PyData.eqvAll ds ds = true
theorem Im.dt {H : Hp} {v : V} {d : PyData} (h : Im H v d) : Dt H v d := ⟨fun _ => h.has, h.lay, h.refl⟩
theorem Ims.dts {H : Hp} {v : List V} {d : List PyData} (h : Ims H v d) : Dts H v d := ⟨fun _ => h.has, h.lay, h.refl⟩
theorem Dt.has {K : PySem.W.Frag} {H : Hp} {v : V} {d : PyData} (h : Dt H v d) : Has K H v d := h.1 K
theorem Dt.lay {H : Hp} {v : V} {d : PyData} (h : Dt H v d) : PyData.canLay0 d = true := h.2.1
theorem Dt.ls {H : Hp} {l : Addr} {xs : List V} {ds : List PyData} (e : H l = some (.lst xs)) (m : Dts H xs ds) : Dt H (.ref l) (.list ds) := ⟨fun K => .lst (SqL.of e) (m.1 K), by rw [PyData.canLay0]; exact m.2.1, by rw [PyData.eqv]; exact m.2.2⟩
theorem Dt.tp {H : Hp} {l : Addr} {xs : List V} {ds : List PyData} (e : H l = some (.tup xs)) (m : Dts H xs ds) : Dt H (.ref l) (.tuple ds) := ⟨fun K => .tup (SqT.of e) (m.1 K), by rw [PyData.canLay0]; exact m.2.1, by rw [PyData.eqv]; exact m.2.2⟩
theorem Dt.l {H : Hp} {l : Addr} {xs : List V} {ds : List PyData} (e : H l = some (.lst xs)) (m : Ims H xs ds) : Dt H (.ref l) (.list ds) := .ls e m.dts
theorem Dts.nil {H : Hp} : Dts H [] [] := ⟨fun _ => .nil, by simp [PyData.canLayAll0], by simp [PyData.eqvAll]⟩
theorem Dts.cons {H : Hp} {x : V} {xs : List V} {d : PyData} {ds : List PyData} (h : Dt H x d) (t : Dts H xs ds) : Dts H (x :: xs) (d :: ds) :=
  ⟨fun K => .cons (h.1 K) (t.1 K), by rw [PyData.canLayAll0, h.2.1, t.2.1]; rfl, by rw [PyData.eqvAll, h.2.2, t.2.2]; rfl⟩
def rEqX : R2 := fun x y H Q => ∃ d e, Dt H x d ∧ Dt H y e ∧ d.depth ≤ 60 ∧ e.depth ≤ 60 ∧ Q (.bl (PyData.eqv d e)) H
theorem op_eqX (hu : X.A.units + 64 < cLine) : OpR X (compareOp .Eq) rEqX := (op_eqD hu).weak fun _ _ _ _ ⟨d, e, h1, h2, d1, d2, q⟩ => ⟨d, e, h1.has, h2.has, shaped_of h1.lay (by omega), shaped_of h2.lay (by omega), q⟩
/-! ### methods of a list -/
def tBL (r : V → List V → Hp → VK → Prop) (to : TE) (t : TA) : TE := fun σ H Q => to σ H fun x H1 => ∃ p xs, x = .ref p ∧ H1 p = some (.lst xs) ∧ t σ H1 fun xs H2 => r x xs H2 Q
theorem PE.weak {e : Expr} {t t' : TE} (h : PE X e t) (w : ∀ σ H Q, t' σ H Q → t σ H Q) : PE X e t' := fun pins s σ H Q I q => h pins s σ H Q I (w _ _ _ q)
theorem pe_lm {o e : Expr} {es : List Expr} {to : TE} {t : TA} {name : Str} {apos cpos : Pos} {id : String} {r : V → List V → Hp → VK → Prop}
    (slot : Slot "list" name id) (hty : typeOf (.builtin id) = pure (.type "method_descriptor")) (hm : MtR X id r) (ho : PE X o to) (ha : PA X (e :: es) t)
    (hbase : attributeBase o name X.env (eval o X.env) = eval o X.env := by rfl)
    (hfew : ((backTo cpos (starEach (e :: es) X.env)).all (fun x => !x.1) && (backToKw cpos (keywordEach [] X.env)).all (fun x => x.1.isSome)
      && decide ((e :: es).length + ([] : List Keyword).length + (if ([] : List Keyword).isEmpty then 0 else 1) < 30)) = true := by rfl)
    (hline : (apos.endLine == cpos.line) = true := by rfl) (hs : starEach (e :: es) X.env = (false, eval e X.env) :: starEach es X.env := by rfl) (hplain : (backTo cpos (starEach es X.env)).any (·.1) = false := by rfl) :
    PE X (.Call (.Attribute o name apos) (e :: es) [] cpos) (tBL r to t) := by
  intro pins s σ H Q I h
  refine wpAny_Call_method_late hbase hfew hline rfl (thn (ho pins s σ H _ I h) fun v s1 ⟨x, H1, I1, r1, p, xs, ex, ep, q1⟩ => ?_)
  subst ex
  obtain ⟨h1, h2⟩ := tyV_is I1 r1 (show tyV X.K "list" (.ref p) H1 from .inl ⟨rfl, xs, SqL.of ep⟩)
  refine ⟨"list", id, PySem.F.plainAttrs_list, slot, hty, h1, h2, ?_⟩
  have hA := ha cpos pins s1 σ H1 _ I1 q1
  rw [hs] at hA ⊢
  refine Calls.callWith_builtin (by show (false || (backTo cpos (starEach es X.env)).any (·.1)) = false; rw [hplain] <;> rfl) (Calls.evalArgs_plain ?_)
  exact thn hA fun us s2 ⟨vs, H2, I2, r2, q2⟩ => hm pins s2 σ H2 _ vs v us Q I2 r1 r2 q2
theorem make_same {H H' : Hp} {x dx : Addr} {o1 o2 : HO} (hx : H x = none) (hdx : H dx = none) (k : Keep [x] (upd (upd H dx o1) x o2) H') : Same H H' := fun b o e => by
  have n1 : b ≠ x := ne_of_none e hx
  have n2 : b ≠ dx := ne_of_none e hdx
  exact k b o (by rw [upd_ne n1, upd_ne n2]; exact e) (by simp; exact n1)
/-! ### a body in parts -/
theorem use1 {t1 R : TS} {D : Ends} {σ : St} {H : Hp} (Pm : St → Hp → Prop) (key : ∀ σ' H', Pm σ' H' → R D σ' H') (go : ∀ R' : TS, (∀ σ' H', Pm σ' H' → R' D σ' H') → tSeq t1 R' D σ H) : tSeq t1 R D σ H := go R key
theorem use2 {t1 t2 R : TS} {D : Ends} {σ : St} {H : Hp} (Pm : St → Hp → Prop) (key : ∀ σ' H', Pm σ' H' → R D σ' H') (go : ∀ R' : TS, (∀ σ' H', Pm σ' H' → R' D σ' H') → tSeq t1 (tSeq t2 R') D σ H) : tSeq t1 (tSeq t2 R) D σ H := go R key
theorem use3 {t1 t2 t3 R : TS} {D : Ends} {σ : St} {H : Hp} (Pm : St → Hp → Prop) (key : ∀ σ' H', Pm σ' H' → R D σ' H') (go : ∀ R' : TS, (∀ σ' H', Pm σ' H' → R' D σ' H') → tSeq t1 (tSeq t2 (tSeq t3 R')) D σ H) : tSeq t1 (tSeq t2 (tSeq t3 R)) D σ H := go R key
theorem ims_ints {H : Hp} : ∀ ns : List Int, Ims H (ns.map V.int) (ns.map PyData.int)
  | [] => .nil
  | n :: ns => .cons (.int n) (ims_ints ns)
theorem SqL.keepX {K : PySem.W.Frag} {S : List Addr} {H H' : Hp} {a : Addr} {xs : List V} (k : Keep S H H') (hs : ∀ b ∈ S, (∃ C dx fs, H b = some (.ins C dx fs)) ∨ (∃ kvs, H b = some (.dK kvs)) ∨ H b = none) (h : SqL K H a xs) : SqL K H' a xs := by
  have no : ∀ o, H a = some o → (∀ C dx fs, o ≠ .ins C dx fs) → (∀ kvs, o ≠ .dK kvs) → a ∉ S := fun o e n1 n2 z => by
    rcases hs a z with ⟨C, dx, fs, e'⟩ | ⟨kvs, e'⟩ | e'
    · rw [e] at e'; exact n1 _ _ _ (Option.some.inj e')
    · rw [e] at e'; exact n2 _ (Option.some.inj e')
    · rw [e] at e'; cases e'
  rcases h with (h | ⟨o, h⟩) | h
  · exact .inl (.inl (k _ _ h (no _ h (fun _ _ _ z => nomatch z) (fun _ z => nomatch z))))
  · exact .inl (.inr ⟨o, k _ _ h (no _ h (fun _ _ _ z => nomatch z) (fun _ z => nomatch z))⟩)
  · exact .inr h
/-! ### the first branch of an if in parts -/
theorem useI3 {t1 t2 t3 R R2 u : TS} {c : TT} {D : Ends} {σ : St} {H : Hp} (Pm : St → Hp → Prop) (key : ∀ σ' H', Pm σ' H' → R { D with nx := R2 D } σ' H') (go : ∀ R' : TS, (∀ σ' H', Pm σ' H' → R' { D with nx := R2 D } σ' H') → tSeq (tIfS c (tSeq t1 (tSeq t2 (tSeq t3 R'))) u) R2 D σ H) : tSeq (tIfS c (tSeq t1 (tSeq t2 (tSeq t3 R))) u) R2 D σ H := go R key
/-! ### small facts for simp -/
theorem atI_0 {α : Type} {a : α} {l : List α} : atI (a :: l) 0 = some a := by simp [atI, ixN]
theorem atI_1 {α : Type} {a b : α} {l : List α} : atI (a :: b :: l) 1 = some b := by
  simp only [atI, ixN, List.length_cons]
  rw [if_pos (by decide), if_pos (by omega)]
  rfl
theorem atI_2 {α : Type} {a b c : α} {l : List α} : atI (a :: b :: c :: l) 2 = some c := by
  simp only [atI, ixN, List.length_cons]
  rw [if_pos (by decide), if_pos (by omega)]
  rfl
theorem atI_3 {α : Type} {a b c d : α} {l : List α} : atI (a :: b :: c :: d :: l) 3 = some d := by
  simp only [atI, ixN, List.length_cons]
  rw [if_pos (by decide), if_pos (by omega)]
  rfl
theorem eqX_same {H : Hp} {x y : V} {d : PyData} {Q : VK} (h1 : Dt H x d) (h2 : Dt H y d) (hd : d.depth ≤ 60) (q : Q (.bl true) H) : rEqX x y H Q :=
  ⟨d, d, h1, h2, hd, hd, by rw [h1.2.2]; exact q⟩
/-! ### isinstance with a built-in class -/
def tyO : HO → Option String
  | .lst _ => some "list"
  | .tup _ => some "tuple"
  | .dK _ => some "dict"
  | _ => none
def tyX (H : Hp) : V → Option String
  | .non => some "NoneType"
  | .bl _ => some "bool"
  | .int _ => some "int"
  | .str _ => some "str"
  | .ref p => (H p).bind tyO
  | _ => none
theorem tyX_i {H : Hp} {i : Int} : tyX H (.int i) = some "int" := rfl
theorem tyX_r {H : Hp} {p : Addr} : tyX H (.ref p) = (H p).bind tyO := rfl
def kT : String → String → Option Bool
  | "int", "int" => some true
  | "int", "bool" => some false
  | _, _ => none
theorem kT_inin : kT "int" "int" = some true := rfl
theorem kT_inbo : kT "int" "bool" = some false := rfl
theorem kT_kit (K : PySem.W.Frag) {a b : String} {r : Bool} (h : kT a b = some r) : PySem.W.kitOne K (.type a) (.type b) = some r := by
  unfold kT at h
  split at h <;> first | (cases h; first | rfl | (with_unfolding_all rfl)) | cases h
def rIsIX : List V → Hp → VK → Prop := fun xs H Q => ∃ x n t r, xs = [x, .ty n] ∧ tyX H x = some t ∧ kT t n = some r ∧ Q (.bl r) H
theorem tyX_of {K : PySem.W.Frag} {H : Hp} {x : V} {t : String} (h : tyX H x = some t) : TyOf K H x (.type t) := by
  cases x with
  | non => cases h; exact .non
  | bl b => cases h; exact .bl b
  | int i => cases h; exact .int i
  | str z => cases h; exact .str z
  | ref p =>
    cases e : H p with
    | none => rw [tyX_r, e] at h; cases h
    | some o =>
      rw [tyX_r, e] at h
      cases o with
      | lst xs => cases h; exact .lst e
      | tup xs => cases h; exact .tup e
      | dK kvs => cases h; exact .dK e
      | _ => cases h
  | _ => cases h
theorem call_isiX : CallR X (.builtin "isinstance") rIsIX := call_isinst.weak fun _ _ _ ⟨x, n, t, r, e, h, k, q⟩ => ⟨x, .ty n, .type t, r, e, ⟨n, rfl⟩, tyX_of h, kT_kit _ k, q⟩
theorem inO_t' {xs : List V} {x : V} : inO (.tup xs) x = if flatV x = true ∧ xs.all flatV = true then some (inV x xs) else none := rfl
end
end L2
/-! Loops over texts and over a dict's keys; texts compared. -/
namespace L2
open PySem PySem.Spec PyProof.Rows
section
variable {X : Cx}
/-! ### loops and comprehensions over what stands fast -/
/-! ### texts -/
theorem rEq_ss {a b : Str} {H : Hp} {Q : VK} : rEq (.str a) (.str b) H Q = Q (.bl (decide (a = b))) H := by simp [rEq, scal]
/-! ### list(d) -/
/-! ### a, b = a list -/
theorem draw_list {prog : Program} {w : World} {A : Around} {E : Value → Shared → Prop} {it l : Addr} {items : Array Value} (hne : l ≠ it) : ∀ (n i : Nat) (s : Shared) (Q : List Value → Shared → Prop), s.heap.IsListIter it l i → s.heap.IsList l items → i + n ≤ items.size →
    (∀ h', h'.IsListIter it l (i + n) → Heap.SameBut it s.heap h' → Q ((items.toList.drop i).take n) { s with heap := h' }) → wpAny (model prog w) A (draw (.ref it) n) Q E s
  | 0, i, s, Q, hit, _, _, hQ => by
    show wpAny _ _ (pure []) Q E s
    exact wpAny_pure (by simpa using hQ s.heap hit (Heap.SameBut.refl ..))
  | n + 1, i, s, Q, hit, ht, hle, hQ => by
    have hlt : i < items.size := by omega
    show wpAny _ _ (pyNext (.ref it) >>= _) Q E s
    refine wpAny_bind (wpAny_pyNext_list_item hit ht (x := items[i]) (by simp [hlt]) fun h₁ hit₁ hs₁ => ?_)
    have ht1 : h₁.IsList l items := by
      obtain ⟨o, ho, r⟩ := ht
      exact ⟨o, hs₁.extBut _ _ hne ho, r⟩
    refine wpAny_bind (wpAny_holding (draw_list hne n (i + 1) _ _ hit₁ ht1 (by omega) fun h₂ hit₂ hs₂ => wpAny_pure ?_))
    have hd : items.toList.drop i = items[i] :: items.toList.drop (i + 1) := by simp [List.drop_eq_getElem_cons, hlt]
    have := hQ h₂ (by rw [show i + (n + 1) = i + 1 + n by omega]; exact hit₂) (hs₁.trans hs₂)
    rw [hd, List.take_succ_cons] at this
    exact this
theorem unpackItems_list {prog : Program} {w : World} {A : Around} {E : Value → Shared → Prop} {s : Shared} {t : Addr} {items : Array Value} {Q : List Value → Shared → Prop} (hh : A.handled = none) (ht : s.heap.IsList t items)
    (hQ : ∀ h', Heap.ExtBut s.heap.objs.size s.heap h' → Q items.toList { s with heap := h' }) : wpAny (model prog w) A (unpackItems (.ref t) items.size none) Q E s := by
  have hlt : t ≠ s.heap.objs.size := by obtain ⟨o, ho, _⟩ := ht; exact Nat.ne_of_lt (Heap.lt_size ho)
  unfold unpackItems
  refine wpAny_bind ?_
  · unfold notIterableAtAll
    refine wpAny_bind (wpAny_specialOf ht.typeIs PySem.F.slot_list_iter.lookup ?_)
    refine wpAny_pure ?_
    simp only [Bool.false_eq_true, if_false]
    refine wpAny_bind (wpAny_holding (wpAny_pyIter_list ht ?_))
    have ht0 : ∀ o', (s.heap.push o').IsList t items := fun o' => by
      obtain ⟨o, ho, r⟩ := ht
      exact ⟨o, Heap.get?_push_of_some _ ho, r⟩
    refine wpAny_bind (wpAny_holding (draw_list hlt items.size 0 _ _ ⟨_, Heap.get?_push_size _ rfl, rfl, rfl⟩ (ht0 _) (by omega) fun h₁ hit₁ hs₁ => ?_))
    have hall : List.take items.size (List.drop 0 items.toList) = items.toList := by
      rw [List.drop_zero]; exact List.take_of_length_le (by simp)
    rw [hall]
    rw [if_neg (by simp)]
    have ht₁ : h₁.IsList t items := by
      obtain ⟨o, ho, r⟩ := ht0 _
      exact ⟨o, hs₁.extBut _ _ hlt ho, r⟩
    refine wpAny_bind (wpAny_holding (wpAny_pyNext_list_end hh hit₁ ht₁ (by simp) fun h₂ he₂ => ?_))
    simp only [Option.isSome_none, Bool.false_eq_true, if_false]
    refine wpAny_pure (hQ h₂ fun b o hb e => he₂ b o hb (hs₁.extBut b o hb (Heap.get?_push_of_some _ e)))
theorem assign_Tuple_list {prog : Program} {w : World} {A : Around} {E : Value → Shared → Prop} {s : Shared} {env : Env} {elts : List Expr} {x1} {pos : Pos} {t : Addr} {items : Array Value} {Q : Unit → Shared → Prop} (hh : A.handled = none) (ht : s.heap.IsList t items)
    (hn : (assignEach elts env).length = items.size) (hstar : (assignEach elts env).findIdx? (·.1) = none)
    (h : ∀ h', Heap.ExtBut s.heap.objs.size s.heap h' → wpAny (model prog w) A (assignInOrder ((assignEach elts env).map (·.2)) items.toList) Q E { s with heap := h' }) :
    wpAny (model prog w) A (assign (.Tuple elts x1 pos) env (.ref t)) Q E s := by
  rw [assign_Tuple]
  refine wpAny_bind (wpAny_standAt ?_)
  unfold unpack
  rw [hn, hstar]
  exact wpAny_bind (wpAny_holding (unpackItems_list hh ht h))
/-- a, b, .. = a tuple or a list of that length -/
def gSeqX (n : Nat) (t : TGs) : TG := fun v σ H Q => ∃ a o xs, v = .ref a ∧ H a = some o ∧ seqO o = some xs ∧ xs.length = n ∧ t xs σ H Q
theorem pg_seqX {es : List Expr} {k : Nat} {t : TGs} {n : Nat} {pos : Pos} (hc : X.calm = true) (hg : PGs X es t)
    (hn : (assignEach es X.env).length = n := by rfl) (hst : (assignEach es X.env).findIdx? (·.1) = none := by rfl) : PG X (.Tuple es k pos) (gSeqX n t) := by
  intro pins s σ H v u Q I rv q
  obtain ⟨a, o, xs, e, hx, g, hl, q⟩ := q
  cases o with
  | tup ys => cases g; exact pg_tupK (K := X.K) (k := k) (pos := pos) hc hg hn hst rfl pins s σ H v u Q I rv ⟨a, _, e, SqT.of hx, hl, q⟩
  | lst ys =>
    cases g
    subst e
    cases rv
    obtain ⟨its, r, ht, hz⟩ := I.list (SqL.of (K := X.K) hx)
    refine assign_Tuple_list (I.ok.hd hc) ht.isList (by simp [hn, ← hl, r.length]) hst fun h' hx' => ?_
    have I1 : Inv X pins σ H { s with heap := h' } := I.kept (t' := s.toks) fun b o e => hx' b o (Nat.ne_of_lt (Heap.lt_size e)) e
    exact hg pins _ σ H _ _ Q I1 (by simpa using r) q
  | _ => cases g
end
end L2
/-! A dict's keys as a view; sorted. -/
namespace L2
open PySem PySem.Spec PyProof.Rows
section
variable {X : Cx}
/-! ### range objects, list(range(..)) -/
end
end L2
/-! for i, x in enumerate(a list). -/
namespace L2
open PySem PySem.Spec PyProof.Rows
section
variable {X : Cx}
end
end L2
namespace L2
open PySem
/-- not a starred one -/
def noStar : Expr → Bool
  | .Starred .. => false
  | _ => true
theorem star_cons {e : Expr} {es : List Expr} {env : Env} (h : noStar e = true) : starEach (e :: es) env = (false, eval e env) :: starEach es env := by
  cases e <;> first | rfl | cases h
section
variable {X : Cx} {e : Expr} {es : List Expr} {te : TE} {t : TA}
/-- pa_cons, quick in long lists -/
theorem pa_cX (ha : PE X e te) (hr : PA X es t) (h : noStar e = true := by rfl) : PA X (e :: es) (tCons te t) := pa_cons ha hr (star_cons h)
end
/-! PSs, PS closed to the elaborator: it can't evaluate the program's text inside them -/
structure WSs (X : Cx) (sts : List Stmt) (t : TS) : Prop where
  h : PSs X sts t
structure WS (X : Cx) (st : Stmt) (t : TS) : Prop where
  h : PS X st t
section
variable {X : Cx} {st : Stmt} {rest : List Stmt} {t u : TS}
end
end L2
/-! Slices and multiples of texts. -/
namespace L2
open PySem PySem.Spec PyProof.Rows
section
variable {X : Cx}
def rMulS : R2 := fun x y H Q => ∃ z n, x = .str z ∧ y = .int n ∧ MulOk z n ∧ Q (.str (Txt.mul z n)) H
theorem op_mulS : OpR X (binaryOp .Mult) rMulS := by
  intro pins s σ H x y v u Q I rx ry h
  obtain ⟨z, n, rfl, rfl, ok, q⟩ := h
  obtain ⟨t, rfl⟩ := rx
  obtain ⟨t', rfl⟩ := ry
  exact SB.mul ok fun t' k => ⟨.str _, H, I.tok _, ⟨_, rfl⟩, q⟩
end
mutual
theorem Has.same {K : PySem.W.Frag} {H H' : Hp} (s : Same H H') : ∀ {x : V} {d : PyData}, Has K H x d → Has K H' x d
  | _, _, .non => .non
  | _, _, .bl b => .bl b
  | _, _, .int i => .int i
  | _, _, .str x => .str x
  | _, _, .lst h hs => .lst (s.seq h) (HasAll.same s hs)
  | _, _, .tup h hs => .tup (s.seqT h) (HasAll.same s hs)
theorem HasAll.same {K : PySem.W.Frag} {H H' : Hp} (s : Same H H') : ∀ {xs : List V} {ds : List PyData}, HasAll K H xs ds → HasAll K H' xs ds
  | _, _, .nil => .nil
  | _, _, .cons h hs => .cons (Has.same s h) (HasAll.same s hs)
end
theorem Dt.same {H H' : Hp} {x : V} {d : PyData} (h : Dt H x d) (s : Same H H') : Dt H' x d := ⟨fun K => (h.1 K).same s, h.2⟩
theorem Dts.same {H H' : Hp} {x : List V} {d : List PyData} (h : Dts H x d) (s : Same H H') : Dts H' x d := ⟨fun K => (h.1 K).same s, h.2⟩
end L2
/-! Loops over a dict: its keys, its values, its items. While it is walked, the dict is held as it is. -/
namespace L2
open PySem PySem.Spec PyProof.Rows
section
variable {X : Cx} {pins : List (Addr × Obj)} {σ : St} {H : Hp} {s : Shared} {d : Addr} {kvs : List (Key × V)}
theorem Inv.frz (I : Inv X pins σ H s) (e : H d = some (.dK kvs)) : ∃ o, s.heap.get? d = some o ∧ Inv X pins σ (upd H d (.frz o (.dK kvs))) s := by
  obtain ⟨hz, hS, vs, rel, o, es, ep, ho, r⟩ := I.hok d _ e
  refine ⟨o, ho, I.un (t' := s.toks) (h' := s.heap) ⟨fun b o q _ _ _ => q, fun b o q _ _ _ => ⟨o.slots, q⟩, fun b o _ n _ => ?_, fun b o q _ => ⟨o, q⟩, fun b xs q => ?_, fun b o u q => ?_, fun b ps q => ?_⟩ fun b u q => ?_⟩
  · rw [upd_ne (Ne.symm (ne_of_none e n))]; exact n
  · rw [upd_ne (ne_of q e (by intro z; cases z))]; exact q
  · rw [upd_ne (ne_of q e (by intro z; cases z))]; exact q
  · exact ⟨#[], by rw [upd_ne (ne_of q e (by intro z; cases z)), q]; simp⟩
  · by_cases hb : b = d
    · subst hb
      rw [upd_same] at q
      cases q
      exact ⟨ho, hz, hS, vs, rel, o, es, ep, ho, r⟩
    · rw [upd_ne hb] at q
      exact (I.hok b u q).stay (fun _ _ _ r => r) (fun c r => by rw [upd_ne (ne_of r e (by intro z; cases z))]; exact r) fun c xs r => by rw [upd_ne (ne_of r e (by intro z; cases z))]; exact r
theorem KV.at {vs : List (Key × Value)} (r : KV kvs vs) {i : Nat} {p : Key × V} (h : kvs[i]? = some p) : ∃ u, vs[i]? = some (p.1, u) ∧ RelV p.2 u := by
  obtain ⟨q, hq, h1, h2⟩ := paired_get r h
  exact ⟨q.2, by rw [hq, h1], h2⟩
end
section
variable {P : Program} {w : World} {K : PySem.W.Frag} {tg : Expr} {d it : Addr} {o : Obj} {kvs : List (Key × V)}
end
section
variable {X : Cx}
/-! ### behind the loop -/
def Unf (H H' H'' : Hp) : Prop := H'' = H' ∨ ∃ d o kvs, H' d = some (.frz o (.dK kvs)) ∧ (∀ o u, H d ≠ some (.frz o u)) ∧ H'' = upd H' d (.dK kvs)
theorem Unf.of {H H' : Hp} {d : Addr} {o : Obj} {kvs kvs0 : List (Key × V)} (e : H' d = some (.frz o (.dK kvs))) (e0 : H d = some (.dK kvs0)) : Unf H H' (upd H' d (.dK kvs)) := .inr ⟨d, o, kvs, e, (fun o u z => by rw [e0] at z; cases z), rfl⟩
end
/-! ### a dict and an empty one -/
end L2
/-! d.get, d.pop by the dict's content; data in a list of data. -/
namespace L2
open PySem PySem.Spec PyProof.Rows
section
variable {X : Cx} {o e f : Expr} {td ty tx : TE} {apos cpos : Pos}
/-! ### data in a list of data -/
theorem has_reads_at {pins : List (Addr × Obj)} {σ : St} {H : Hp} {s : Shared} (I : Inv X pins σ H s) : ∀ {xs : List V} {ds : List PyData} {us : List Value}, Dts H xs ds → Vals xs us → ∀ (j : Nat) u, us[j]? = some u → ∃ d as, ds[j]? = some d ∧ Reads s.heap u d as ∧ PyData.canLay0 d = true
  | [], _, _, hD, r, j, u, e => by cases r; simp at e
  | x :: xs, [], _, hD, r, j, u, e => by
    have := hD.1 X.K
    cases this
  | x :: xs, d :: ds, _, hD, .cons rx rt, j, u, e => by
    have h1 : Has X.K H x d := by
      have := hD.1 X.K
      cases this with | cons a b => exact a
    have l1 : PyData.canLay0 d = true := by have := hD.2.1; rw [PyData.canLayAll0, Bool.and_eq_true] at this; exact this.1
    cases j with
    | zero =>
      simp at e
      subst e
      obtain ⟨as, ra⟩ := h1.reads I rx
      exact ⟨d, as, rfl, ra, l1⟩
    | succ j =>
      have hD' : Dts H xs ds := ⟨fun K => by have := hD.1 K; cases this with | cons a b => exact b, by have := hD.2.1; rw [PyData.canLayAll0, Bool.and_eq_true] at this; exact this.2, by have := hD.2.2; rw [PyData.eqvAll, Bool.and_eq_true] at this; exact this.2⟩
      exact has_reads_at I hD' rt j u (by simpa using e)
theorem hasAll_len {K : PySem.W.Frag} {H : Hp} : ∀ {xs : List V} {ds : List PyData}, HasAll K H xs ds → ds.length = xs.length
  | _, _, .nil => rfl
  | _, _, .cons _ t => by rw [List.length_cons, List.length_cons, hasAll_len t]
end
end L2
set_option maxHeartbeats 4000000
/-! max(l, key=f) where f tells a number of each item. -/
namespace L2
open PySem PySem.Spec PyProof.Rows PySem.W
section
variable {X : Cx} {pins : List (Addr × Obj)} {σ : St} {H : Hp} {k : Nat} {f l it S : Addr} {ps : List Addr} {ns : List Int} {Q : VK}
/-- what is asked of the loop's end -/
def MkR (X : Cx) (pins : List (Addr × Obj)) (σ : St) (Q : VK) (r : Result) (s' : Shared) : Prop := match r with | .ok (.ret v) => EP X pins σ Q v s' | .ok _ => False | .error e => X.xe e s'
end
section
variable {X : Cx} {k : Nat}
end
end L2
/-! set(list of ints), len of it. -/
namespace L2
open PySem PySem.Spec PyProof.Rows
theorem bt_set : bootBuiltins "set" = some (.type "set") := by decide +kernel
def SetO (a : Addr) (n : Nat) : HO := .ext fun h => ∃ o es ep t, h.get? a = some o ∧ o.ExactSet ∧ o.data = .set es ep t ∧ t.fits es.size = true ∧ es.size = n
theorem setO_ok {P : Program} {w : World} {H : Hp} {h : Heap} {a : Addr} {n : Nat} {o : Obj} {es : Array (Int × Value)} {ep : Nat} {t : SetTable} (e : h.get? a = some o) (x : o.ExactSet) (d : o.data = .set es ep t) (f : t.fits es.size = true) (z : es.size = n) : ObjOk P w H h a (SetO a n) :=
  ⟨⟨o, es, ep, t, e, x, d, f, z⟩, ⟨o, e⟩, fun h1 h2 ⟨o, es, ep, t, e, x, d, f, z⟩ k => ⟨o, es, ep, t, k o e, x, d, f, z⟩⟩
def fm (ns : List Int) : List Int := ns.foldl step_dedup []
theorem fm_met (ns : List Int) : firstMet (fun i => ns.getD i 0) ns.length = fm ns := by
  unfold firstMet fm
  congr 1
  apply List.ext_getElem
  · simp
  · intro i h1 h2
    simp [List.getElem?_eq_getElem h2]
def rSet : List V → Hp → VK → Prop := fun xs H Q => ∃ (p : Addr) (ns : List Int), xs = [.ref p] ∧ H p = some (.lst (ns.map V.int)) ∧ ns.length ≤ 1000 ∧ ∀ l, H l = none → Q (.ref l) (upd H l (SetO l (fm ns).length))
section
variable {X : Cx}
theorem call_setX (hc : X.calm = true) : CallR X (.type "set") rSet := by
  intro pins s σ H xs us Q I r h
  obtain ⟨p, ns, rfl, hp, hl, q⟩ := h
  obtain ⟨u, rfl, rx⟩ := vals1 r
  cases rx
  obtain ⟨its, rv, pl, hz⟩ := I.list (SqL.of hp)
  have hi := intsAre_of rv
  have hlen : its.length = ns.length := hi.length
  refine PySem.call_set_list (items := its.toArray) (ns := ns) (I.ok.hd hc) pl.isList (by simpa using hi) (by rw [List.size_toArray]; unfold scanBound; omega) fun h' tk hS hk => ?_
  rw [show its.toArray.size = ns.length by rw [List.size_toArray, hlen], fm_met] at hS
  obtain ⟨o, es, ep, t, ho, hex, hd, hel, hmem, hlt, hf, hn⟩ := hS
  exact ⟨.ref s.heap.objs.size, _, I.laid (t' := tk) (fun b u e => hk b u (Heap.lt_size e) e) (Nat.le_refl _) (setO_ok ho hex hd hf hn), rfl, q _ (I.hok.fresh (Nat.le_refl _))⟩
def rLenS : List V → Hp → VK → Prop := fun xs H Q => ∃ (p : Addr) (n : Nat), xs = [.ref p] ∧ H p = some (SetO p n) ∧ n ≤ 100000 ∧ Q (.int n) H
theorem call_lenS : CallR X (.builtin "len") rLenS := by
  intro pins s σ H xs us Q I r h
  obtain ⟨p, n, rfl, hp, hl, q⟩ := h
  obtain ⟨u, rfl, rx⟩ := vals1 r
  cases rx
  obtain ⟨⟨o, es, ep, t, e, x, d, f, z⟩, _⟩ := I.hok p _ hp
  subst z
  exact call_len_set e x d f (by omega) ⟨.int es.size, H, I.tok _, ⟨_, rfl⟩, q⟩
end
end L2
/-! for x, y in zip(a list, a tuple), as long as the list ends first. -/
namespace L2
open PySem PySem.Spec PyProof.Rows
section
variable {prog : Program} {w : World} {A : Around} {E : Value → Shared → Prop} {s : Shared}
theorem nextT_item {j tp : Addr} {n : Nat} {its : Array Value} {u : Value} {R : Value → Shared → Prop} (hj : s.heap.IsTupleIter j tp n) (hp : s.heap.IsTuple tp its) (hu : its[n]? = some u)
    (hR : ∀ hp', hp'.IsTupleIter j tp (n + 1) → Heap.SameBut j s.heap hp' → R u { s with heap := hp' }) : wpAny (model prog w) A (Builtin.SmallTypes.nextOf (.ref j)) R E s := by
  obtain ⟨oj, goj, coj, doj⟩ := id hj
  obtain ⟨op, gop, _, np, dop⟩ := hp
  unfold Builtin.SmallTypes.nextOf
  refine wpAny_bind (wpAny_callSpecial?_slot (name := Str.ofString "__next__") hj.typeIs F.slot_tuple_iterator_next (wpAny_call_entry F.slot_tuple_iterator_next hj.typeIs F.entry_tuple_iterator_next ?_ (F.args_tuple_iterator_next_1 _)))
  change wpAny _ _ (field (.ref j) 0 >>= _) _ _ s
  refine wpAny_bind (wpAny_field goj doj (x := .ref tp) rfl ?_)
  change wpAny _ _ (if (Value.ref tp == Value.none) = true then _ else _) _ _ s
  rw [if_neg (show ¬ ((Value.ref tp == Value.none) = true) from Bool.false_ne_true)]
  change wpAny _ _ (field (.ref j) 1 >>= _) _ _ s
  refine wpAny_bind (wpAny_field goj doj (x := .int n 0) rfl ?_)
  change wpAny _ _ (seqItems? (.ref tp) >>= _) _ _ s
  refine wpAny_bind (wpAny_seqItems gop dop ?_)
  simp only [Int.toNat_natCast, hu]
  refine wpAny_bind (wpAny_setField goj doj (by simp) (wpAny_pure ⟨u, rfl, wpAny_pure (hR _ ?_ (Heap.SameBut.update ..))⟩))
  exact ⟨_, Heap.get?_update_self _ goj (Obj.isFreed_of_fields (Obj.data_mapFields doj _)), (Obj.cls_mapFields ..).trans coj, by rw [Obj.data_mapFields doj]; simp [rawInt]⟩
/-- the pair of the next things -/
theorem zipT_item {z ti to j1 j2 l1 l2 : Addr} {n1 n2 : Nat} {xs ys : Array Value} {x y a b : Value} {R : Value → Shared → Prop} (D : ZipApart z ti to j1 j2 l1 l2)
    (gz : IsZip s.heap z ti to .none) (gti : IsPair s.heap ti (.ref j1) (.ref j2)) (gto : IsPair s.heap to a b)
    (g1 : s.heap.IsListIter j1 l1 n1) (g2 : s.heap.IsTupleIter j2 l2 n2) (gl1 : s.heap.IsList l1 xs) (gl2 : s.heap.IsTuple l2 ys) (hx : xs[n1]? = some x) (hy : ys[n2]? = some y)
    (hR : ∀ hp, IsZip hp z ti to (rawInt s.heap.objs.size) → IsPair hp to x y → hp.IsListIter j1 l1 (n1 + 1) → hp.IsTupleIter j2 l2 (n2 + 1) → IsPair hp s.heap.objs.size x y → hp.objs.size = s.heap.objs.size + 1 →
      (∀ c o, c ≠ z → c ≠ to → c ≠ j1 → c ≠ j2 → s.heap.get? c = some o → hp.get? c = some o) → R (.ref s.heap.objs.size) { s with heap := hp }) :
    wpAny (model prog w) A (Builtin.«zip.__next__» ⟨[.ref z], []⟩) (fun fin s' => ∃ v, fin = .done (.ret v) ∧ R v s') E s := by
  change wpAny _ _ (field (.ref z) 2 >>= _) _ _ _
  refine wpAny_bind (wpAny_field gz rfl (x := .bool false) rfl ?_)
  change wpAny _ _ (field (.ref z) 3 >>= _) _ _ _
  refine wpAny_bind (wpAny_field gz rfl (x := .ref ti) rfl ?_)
  refine wpAny_bind (wpAny_seqItems gti rfl ?_)
  change wpAny _ _ (Builtin.SmallTypes.ownedTupleIsFree (.ref z) >>= _) _ _ _
  refine wpAny_bind ?_
  unfold Builtin.SmallTypes.ownedTupleIsFree
  refine wpAny_bind (wpAny_field gz rfl (x := .none) rfl (wpAny_pure ?_))
  simp only [if_true]
  refine wpAny_bind (wpAny_rule ?_)
  refine wpAny_bind (wpAny_field gz rfl (x := .ref to) rfl ?_)
  refine wpAny_bind (wpAny_setField_rec gz (by simp) fun k1 gz1 m1 => ?_)
  replace gz1 : IsZip k1 z ti to .ellipsis := gz1
  refine wpAny_bind ?_
  simp only [List.zipIdx_cons, List.zipIdx_nil, List.forIn_cons, List.forIn_nil]
  refine wpAny_bind (wpAny_bind (wpAny_onRaise ?_))
  change wpAny _ _ (Builtin.SmallTypes.nextOf (.ref j1) >>= _) _ _ _
  refine wpAny_bind (wpAny_nextOf_list_item (g1.extBut m1.extBut D.i1z) (gl1.extBut m1.extBut D.l1z) hx fun k2 g1b m2 => wpAny_pure ?_)
  have gto2 : IsPair k2 to a b := m2.extBut _ _ D.TOi1 (m1.extBut _ _ D.TOz gto)
  refine wpAny_bind (wpAny_seqItems gto2 rfl ?_)
  refine wpAny_bind (wpAny_updateSeq_pair gto2 fun k3 gto3 m3 => ?_)
  replace gto3 : IsPair k3 to x b := gto3
  refine wpAny_bind (wpAny_letGo (wpAny_pure ?_))
  refine wpAny_bind (wpAny_bind (wpAny_onRaise ?_))
  change wpAny _ _ (Builtin.SmallTypes.nextOf (.ref j2) >>= _) _ _ _
  refine wpAny_bind (nextT_item (((g2.extBut m1.extBut D.i2z).extBut m2.extBut D.i12.symm).extBut m3.extBut D.TOi2.symm) (((gl2.extBut m1.extBut D.l2z).extBut m2.extBut D.l2i1).extBut m3.extBut D.l2TO) hy fun k4 g2b m4 => wpAny_pure ?_)
  have gto4 : IsPair k4 to x b := m4.extBut _ _ D.TOi2 gto3
  refine wpAny_bind (wpAny_seqItems gto4 rfl ?_)
  refine wpAny_bind (wpAny_updateSeq_pair gto4 fun k5 gto5 m5 => ?_)
  replace gto5 : IsPair k5 to x y := gto5
  refine wpAny_bind (wpAny_letGo (wpAny_pure (wpAny_pure ?_)))
  refine wpAny_bind (wpAny_seqItems gto5 rfl ?_)
  refine wpAny_bind (wpAny_newTuple ?_)
  have esz : k5.objs.size = s.heap.objs.size := by rw [m5.1, m4.1, m3.1, m2.1, m1.1]
  have gz5 : IsZip k5 z ti to .ellipsis := m5.extBut _ _ D.TOz.symm (m4.extBut _ _ D.i2z.symm (m3.extBut _ _ D.TOz.symm (m2.extBut _ _ D.i1z.symm gz1)))
  have kp5 : ∀ c o, c ≠ z → c ≠ to → c ≠ j1 → c ≠ j2 → s.heap.get? c = some o → k5.get? c = some o := fun c o c1 c2 c3 c4 e => m5.extBut _ _ c2 (m4.extBut _ _ c4 (m3.extBut _ _ c2 (m2.extBut _ _ c3 (m1.extBut _ _ c1 e))))
  have g1c : k5.IsListIter j1 l1 (n1 + 1) := ((g1b.extBut m3.extBut D.TOi1.symm).extBut m4.extBut D.i12).extBut m5.extBut D.TOi1.symm
  have g2c : k5.IsTupleIter j2 l2 (n2 + 1) := g2b.extBut m5.extBut D.TOi2.symm
  have ltz : z < k5.objs.size := Heap.lt_size gz5
  change wpAny _ _ (Builtin.SmallTypes.ownedTupleHandOut (.ref z) (.ref k5.objs.size) >>= _) _ _ _
  refine wpAny_bind ?_
  unfold Builtin.SmallTypes.ownedTupleHandOut
  have gz6 : IsZip (k5.push { cls := .type "tuple", data := .seq #[x, y] }) z ti to .ellipsis := Heap.get?_push_of_some _ gz5
  refine wpAny_bind (wpAny_setField_rec gz6 (by simp) fun k7 gz7 m7 => ?_)
  replace gz7 : IsZip k7 z ti to (rawInt k5.objs.size) := gz7
  refine wpAny_setField_rec gz7 (by simp) fun k8 gz8 m8 => ?_
  replace gz8 : IsZip k8 z ti to (rawInt k5.objs.size) := gz8
  have upw : ∀ c o, c ≠ z → k5.get? c = some o → k8.get? c = some o := fun c o c1 e => m8.extBut _ _ c1 (m7.extBut _ _ c1 (Heap.get?_push_of_some _ e))
  have gt8 : IsPair k8 k5.objs.size x y := m8.extBut _ _ (Nat.ne_of_gt ltz) (m7.extBut _ _ (Nat.ne_of_gt ltz) (Heap.get?_push_size _ rfl))
  have es8 : k8.objs.size = k5.objs.size + 1 := by rw [m8.1, m7.1, Heap.size_push]
  rw [esz] at gz8 gt8 es8
  refine wpAny_pure ⟨_, rfl, ?_⟩
  change R (.ref k5.objs.size) _
  rw [esz]
  exact hR k8 gz8 (upw _ _ D.TOz gto5) (g1c.at fun o e => upw _ o D.i1z e) (g2c.at fun o e => upw _ o D.i2z e) gt8 es8 fun c o c1 c2 c3 c4 e => upw c o c1 (kp5 c o c1 c2 c3 c4 e)
/-- the list has ended -/
theorem zipT_end {z ti to j1 j2 l1 l2 : Addr} {n1 : Nat} {xs : Array Value} {R : Fin → Shared → Prop} (hh : A.handled = none) (D : ZipApart z ti to j1 j2 l1 l2)
    (gz : IsZip s.heap z ti to .none) (gti : IsPair s.heap ti (.ref j1) (.ref j2)) (g1 : s.heap.IsListIter j1 l1 n1) (gl1 : s.heap.IsList l1 xs) (hend : xs[n1]? = none)
    (hE : ∀ hp e, (∀ c o, c ≠ z → c ≠ to → c ≠ j1 → c ≠ j2 → s.heap.get? c = some o → hp.get? c = some o) → (∃ o, hp.get? e = some o ∧ o.cls = .type "StopIteration") → E (.ref e) { s with heap := hp }) :
    wpAny (model prog w) A (Builtin.«zip.__next__» ⟨[.ref z], []⟩) R E s := by
  change wpAny _ _ (field (.ref z) 2 >>= _) _ _ _
  refine wpAny_bind (wpAny_field gz rfl (x := .bool false) rfl ?_)
  change wpAny _ _ (field (.ref z) 3 >>= _) _ _ _
  refine wpAny_bind (wpAny_field gz rfl (x := .ref ti) rfl ?_)
  refine wpAny_bind (wpAny_seqItems gti rfl ?_)
  change wpAny _ _ (Builtin.SmallTypes.ownedTupleIsFree (.ref z) >>= _) _ _ _
  refine wpAny_bind ?_
  unfold Builtin.SmallTypes.ownedTupleIsFree
  refine wpAny_bind (wpAny_field gz rfl (x := .none) rfl (wpAny_pure ?_))
  simp only [if_true]
  refine wpAny_bind (wpAny_rule ?_)
  refine wpAny_bind (wpAny_field gz rfl (x := .ref to) rfl ?_)
  refine wpAny_bind (wpAny_setField_rec gz (by simp) fun k1 gz1 m1 => ?_)
  replace gz1 : IsZip k1 z ti to .ellipsis := gz1
  refine wpAny_bind ?_
  simp only [List.zipIdx_cons, List.zipIdx_nil, List.forIn_cons, List.forIn_nil]
  refine wpAny_bind (wpAny_bind (wpAny_onRaise ?_))
  change wpAny _ _ (Builtin.SmallTypes.nextOf (.ref j1) >>= _) _ _ _
  refine wpAny_bind (wpAny_nextOf_list_end hh (g1.extBut m1.extBut D.i1z) (gl1.extBut m1.extBut D.l1z) hend fun k2 e m2 ⟨oe, goe, ce⟩ => ?_)
  have gz2 : IsZip k2 z ti to .ellipsis := m2 _ _ D.i1z.symm gz1
  have nez : e ≠ z := fun q => by subst q; rw [gz2] at goe; cases goe; simp at ce
  exact wpAny_setField_rec gz2 (by simp) fun k3 _ m3 => hE k3 e (fun c o c1 _ c3 _ q => m3.extBut _ _ c1 (m2 _ _ c3 (m1.extBut _ _ c1 q))) ⟨oe, m3.extBut _ _ nez goe, ce⟩
theorem pyNext_zipT {z ti to j1 j2 l1 l2 : Addr} {n1 n2 : Nat} {xs ys : Array Value} {x y a b : Value} {R : Option Value → Shared → Prop} (D : ZipApart z ti to j1 j2 l1 l2)
    (gz : IsZip s.heap z ti to .none) (gti : IsPair s.heap ti (.ref j1) (.ref j2)) (gto : IsPair s.heap to a b)
    (g1 : s.heap.IsListIter j1 l1 n1) (g2 : s.heap.IsTupleIter j2 l2 n2) (gl1 : s.heap.IsList l1 xs) (gl2 : s.heap.IsTuple l2 ys) (hx : xs[n1]? = some x) (hy : ys[n2]? = some y)
    (hR : ∀ hp, IsZip hp z ti to (rawInt s.heap.objs.size) → IsPair hp to x y → hp.IsListIter j1 l1 (n1 + 1) → hp.IsTupleIter j2 l2 (n2 + 1) → IsPair hp s.heap.objs.size x y → hp.objs.size = s.heap.objs.size + 1 →
      (∀ c o, c ≠ z → c ≠ to → c ≠ j1 → c ≠ j2 → s.heap.get? c = some o → hp.get? c = some o) → R (some (.ref s.heap.objs.size)) { s with heap := hp }) : wpAny (model prog w) A (pyNext (.ref z)) R E s := by
  have ht : s.TypeIs (.ref z) "zip" := ⟨_, gz, rfl⟩
  unfold pyNext
  exact wpAny_bind (wpAny_attempt (wpAny_callSpecial?_slot (name := Str.ofString "__next__") ht F.slot_zip_next (wpAny_call_entry F.slot_zip_next ht F.entry_zip_next (zipT_item D gz gti gto g1 g2 gl1 gl2 hx hy fun hp a1 a2 a3 a4 a5 a6 a7 => wpAny_pure (hR hp a1 a2 a3 a4 a5 a6 a7)) (F.args_zip_next_1 _))))
theorem pyNext_zipE {z ti to j1 j2 l1 l2 : Addr} {n1 : Nat} {xs : Array Value} {R : Option Value → Shared → Prop} (hh : A.handled = none) (D : ZipApart z ti to j1 j2 l1 l2)
    (gz : IsZip s.heap z ti to .none) (gti : IsPair s.heap ti (.ref j1) (.ref j2)) (g1 : s.heap.IsListIter j1 l1 n1) (gl1 : s.heap.IsList l1 xs) (hend : xs[n1]? = none)
    (hR : ∀ hp, (∀ c o, c ≠ z → c ≠ to → c ≠ j1 → c ≠ j2 → s.heap.get? c = some o → hp.get? c = some o) → R none { s with heap := hp }) : wpAny (model prog w) A (pyNext (.ref z)) R E s := by
  have ht : s.TypeIs (.ref z) "zip" := ⟨_, gz, rfl⟩
  unfold pyNext
  refine wpAny_bind (wpAny_attempt (wpAny_callSpecial?_slot (name := Str.ofString "__next__") ht F.slot_zip_next (wpAny_call_entry F.slot_zip_next ht F.entry_zip_next (zipT_end hh D gz gti g1 gl1 hend fun hp e hk ⟨o, ho, hc⟩ => ?_) (F.args_zip_next_1 _))))
  refine wpAny_bind (wpAny_isInstance (T := "StopIteration") (b := true) ⟨o, ho, hc⟩ isSubtype_stop ?_)
  exact wpAny_pure (hR _ hk)
abbrev zh1 (h : Heap) (a : Addr) : Heap := h.push { cls := .type "list_iterator", data := .fields #[.ref a, .int 0 0] }
abbrev zh2 (h : Heap) (a b : Addr) : Heap := (zh1 h a).push { cls := .type "tuple_iterator", data := .fields #[.ref b, .int 0 0] }
abbrev zh3 (h : Heap) (a b : Addr) : Heap := (zh2 h a b).push { cls := .type "tuple", data := .seq #[.ref h.objs.size, .ref (zh1 h a).objs.size] }
abbrev zh4 (h : Heap) (a b : Addr) : Heap := (zh3 h a b).push { cls := .type "tuple", data := .seq #[.none, .none] }
abbrev zh5 (h : Heap) (a b : Addr) : Heap := (zh4 h a b).push { cls := .type "zip", data := .fields #[.none, .bool false, .bool false, .ref (zh2 h a b).objs.size, .ref (zh3 h a b).objs.size] }
theorem meets_zipT (a b : Addr) (xs ys : Array Value) : Meets (Builtin.«zip.__new__» ⟨[.type "zip", .ref a, .ref b], []⟩) (fun _ R s => s.heap.IsList a xs ∧ s.heap.IsTuple b ys ∧ R (.ok (.ret (.ref (zh4 s.heap a b).objs.size))) { s with heap := zh5 s.heap a b }) :=
  .of_wp fun prog w A R s h => by
    obtain ⟨hp, gs, dr, tk, os⟩ := s
    obtain ⟨ha, hb, h⟩ := h
    have hsub := sub_zip
    have hA : Heap.IsList (Shared.heap ⟨hp, gs, dr, tk, os⟩) a xs := ha
    have hB : Heap.IsTuple (Shared.heap ⟨hp.push { cls := .type "list_iterator", data := .fields #[.ref a, .int 0 0] }, gs, dr, tk, os⟩) b ys := Heap.IsTuple.push hb _
    wp_walk using wpAny_pyIter_list hA, wpAny_pyIter_tuple hB
    exact ⟨_, rfl, h⟩
theorem call_zipT {a b : Addr} {xs ys : Array Value} {R : Value → Shared → Prop} (ha : s.heap.IsList a xs) (hb : s.heap.IsTuple b ys)
    (h : ∀ hp, IsZip hp (s.heap.objs.size + 4) (s.heap.objs.size + 2) (s.heap.objs.size + 3) .none → IsPair hp (s.heap.objs.size + 2) (.ref s.heap.objs.size) (.ref (s.heap.objs.size + 1)) → IsPair hp (s.heap.objs.size + 3) .none .none → hp.IsListIter s.heap.objs.size a 0 → hp.IsTupleIter (s.heap.objs.size + 1) b 0 →
      (∀ c o, s.heap.get? c = some o → hp.get? c = some o) → R (.ref (s.heap.objs.size + 4)) { s with heap := hp }) : wpAny (model prog w) A (call (.type "zip") [.ref a, .ref b]) R E s := by
  refine callType_new F.called_zip (by decide) (F.typeCall_zip_2 _ _) (F.newCall_zip_2 _ _) (fun obj => F.args_object_init_3 obj _ _) F.entry_zip_new (meets_zipT a b xs ys) ⟨ha, hb, ?_⟩
  have z1 : (zh1 s.heap a).objs.size = s.heap.objs.size + 1 := Heap.size_push ..
  have z2 : (zh2 s.heap a b).objs.size = s.heap.objs.size + 2 := by rw [Heap.size_push, z1]
  have z3 : (zh3 s.heap a b).objs.size = s.heap.objs.size + 3 := by rw [Heap.size_push, z2]
  have z4 : (zh4 s.heap a b).objs.size = s.heap.objs.size + 4 := by rw [Heap.size_push, z3]
  have q5 : (zh5 s.heap a b).get? (zh4 s.heap a b).objs.size = some _ := Heap.get?_push_size _ rfl
  have q4 : (zh5 s.heap a b).get? (zh3 s.heap a b).objs.size = some _ := Heap.get?_push_of_some _ (Heap.get?_push_size _ rfl)
  have q3 : (zh5 s.heap a b).get? (zh2 s.heap a b).objs.size = some _ := Heap.get?_push_of_some _ (Heap.get?_push_of_some _ (Heap.get?_push_size _ rfl))
  have q2 : (zh5 s.heap a b).get? (zh1 s.heap a).objs.size = some _ := Heap.get?_push_of_some _ (Heap.get?_push_of_some _ (Heap.get?_push_of_some _ (Heap.get?_push_size _ rfl)))
  have q1 : (zh5 s.heap a b).get? s.heap.objs.size = some _ := Heap.get?_push_of_some _ (Heap.get?_push_of_some _ (Heap.get?_push_of_some _ (Heap.get?_push_of_some _ (Heap.get?_push_size _ rfl))))
  change _ ∧ _
  rw [z2, z3, z4] at q5
  rw [z1, z2] at q3
  rw [z3] at q4
  rw [z1] at q2
  rw [z4]
  exact ⟨⟨_, q5, rfl⟩, h _ q5 q3 q4 ⟨_, q1, rfl, rfl⟩ ⟨_, q2, rfl, rfl⟩ fun c o q => Heap.get?_push_of_some _ (Heap.get?_push_of_some _ (Heap.get?_push_of_some _ (Heap.get?_push_of_some _ (Heap.get?_push_of_some _ q))))⟩
end
/-- pairs of the things of the list at a and of the tuple at b -/
def Itz (K : PySem.W.Frag) (a b : Addr) : It :=
  ⟨fun i H => ∃ xs ys x y, SqL K H a xs ∧ SqT K H b ys ∧ xs[i]? = some x ∧ ys[i]? = some y, fun i H v H' => ∃ p, v = .ref p ∧ H p = none ∧ ∀ xs ys, SqL K H a xs → SqT K H b ys → ∃ x y, xs[i]? = some x ∧ ys[i]? = some y ∧ H' = upd H p (.tup [x, y]), fun i H => ∃ xs, SqL K H a xs ∧ xs.length ≤ i⟩
theorem turn_zip {P : Program} {w : World} {K : PySem.W.Frag} {elts : List Expr} {x1} {tpos : Pos} (a b z ti to j1 j2 : Addr) (D : ZipApart z ti to j1 j2 a b) :
    Turn P w K (.Tuple elts x1 tpos) (Itz K a b) [z, ti, to, j1, j2] z (fun i h => IsZip h z ti to .none ∧ IsPair h ti (.ref j1) (.ref j2) ∧ (∃ u v, IsPair h to u v) ∧ h.IsListIter j1 a i ∧ h.IsTupleIter j2 b i) where
  mem := by simp
  obj := fun i h st c hc => by
    obtain ⟨gz, gti, ⟨u, v, gto⟩, ⟨o1, e1, _, d1⟩, o2, e2, _, d2⟩ := st
    simp only [List.mem_cons, List.not_mem_nil, or_false] at hc
    rcases hc with rfl | rfl | rfl | rfl | rfl
    · exact ⟨_, gz, fun v q => by cases q⟩
    · exact ⟨_, gti, fun v q => by cases q⟩
    · exact ⟨_, gto, fun v q => by cases q⟩
    · exact ⟨o1, e1, fun v q => by rw [d1] at q; cases q⟩
    · exact ⟨o2, e2, fun v q => by rw [d2] at q; cases q⟩
  keep := fun i h h' st k => by
    obtain ⟨gz, gti, ⟨u, v, gto⟩, g1, g2⟩ := st
    exact ⟨k z (by simp) _ gz, k ti (by simp) _ gti, ⟨u, v, k to (by simp) _ gto⟩, g1.at fun o q => k j1 (by simp) o q, g2.at fun o q => k j2 (by simp) o q⟩
  item := by
    intro X hP hw hK hc i pins s σ H E I hf st hg
    subst hP hw hK
    obtain ⟨gz, gti, ⟨u, v, gto⟩, g1, g2⟩ := st
    obtain ⟨xs, ys, x, y, hqa, hqb, hx, hy⟩ := hg
    obtain ⟨ia, ra, pa, _⟩ := I.list hqa
    obtain ⟨ib, rb, pb, _⟩ := I.tuple hqb
    obtain ⟨ux, hux, rux⟩ := ra.get hx
    obtain ⟨uy, huy, ruy⟩ := rb.get hy
    refine pyNext_zipT D gz gti gto g1 g2 pa.isList (show s.heap.IsTuple b ib.toArray from pb) (x := ux) (y := uy) (by simpa using hux) (by simpa using huy) fun hp gz' gto' g1' g2' gt esz hk => ?_
    have hH : H s.heap.objs.size = none := I.hok.fresh (Nat.le_refl _)
    have ne : ∀ c o, s.heap.get? c = some o → c ≠ s.heap.objs.size := fun c o q => Nat.ne_of_lt (Heap.lt_size q)
    have nx : ∀ c, c ∉ [z, ti, to, j1, j2] → c ≠ z ∧ c ≠ to ∧ c ≠ j1 ∧ c ≠ j2 := fun c hc => by
      simp only [List.mem_cons, List.not_mem_nil, or_false, not_or] at hc
      exact ⟨hc.1, hc.2.2.1, hc.2.2.2.1, hc.2.2.2.2⟩
    have kx : ∀ c o, c ∉ [z, ti, to, j1, j2] → s.heap.get? c = some o → hp.get? c = some o := fun c o hc q => hk c o (nx c hc).1 (nx c hc).2.1 (nx c hc).2.2.1 (nx c hc).2.2.2 q
    have I1 : Inv X pins σ (upd H s.heap.objs.size (.tup [x, y])) { s with heap := hp, gens := s.gens, drawn := s.drawn, toks := s.toks } := I.call (ch := [z, ti, to, j1, j2]) (h' := hp) (g' := s.gens) (d' := s.drawn) (t' := s.toks)
      ⟨fun c o q n hc hc2 => kx c o hc2 q, fun c o q n hc hc2 => ⟨o.slots, kx c o hc2 q⟩, fun c o q n hc2 => by rw [upd_ne (ne c o q)]; exact n, fun c o q hc2 => ⟨o, kx c o hc2 q⟩,
        fun c ys q => by rw [upd_ne (ne_of_none q hH)]; exact q, fun c o ys q => by rw [upd_ne (ne_of_none q hH)]; exact q, fun c ps q => ⟨#[], by rw [upd_ne (ne_of_none q hH), q]; simp⟩⟩
      (fun c o q => by
        by_cases hcs : c = s.heap.objs.size
        · subst hcs
          rw [upd_same] at q
          cases q
          exact ⟨by rw [sizeLine_eq]; show 2 ≤ 16777216; decide, [ux, uy], .cons rux (.cons ruy .nil), ⟨_, gt, rfl, 0, rfl⟩⟩
        · rw [upd_ne hcs] at q
          refine (I.hok c o q).stay (fun d v hd r => ?_) (fun d r => by rw [upd_ne (ne_of_none r hH)]; exact r) fun d ys r => by rw [upd_ne (ne_of_none r hH)]; exact r
          have hdn : H d ≠ none := by
            rcases hd with rfl | hd
            · rw [q]; exact fun z => nomatch z
            · rw [hd]; exact fun z => nomatch z
          exact kx d v (fun z => hdn (hf d z).1) r) I.bare
      (fun c hc => by
        have F : FpOk X pins H c := hf c hc
        exact ⟨F.2.2.2.1, F.2.1, F.2.2.2.2.1, F.2.2.2.2.2⟩)
    refine ⟨_, rfl, wpAny_letOwnedTupleGo_zip (s := { s with heap := hp }) gz' fun h2 e2 sb => ?_⟩
    have isSome : ∀ c ∈ [z, ti, to, j1, j2], ∃ o, s.heap.get? c = some o := fun c hc => by
      simp only [List.mem_cons, List.not_mem_nil, or_false] at hc
      rcases hc with rfl | rfl | rfl | rfl | rfl
      · exact ⟨_, gz⟩
      · exact ⟨_, gti⟩
      · exact ⟨_, gto⟩
      · obtain ⟨o, e, _⟩ := g1; exact ⟨o, e⟩
      · obtain ⟨o, e, _⟩ := g2; exact ⟨o, e⟩
    have nep : ∀ c ∈ [z, ti, to, j1, j2], upd H s.heap.objs.size (.tup [x, y]) c = none := fun c hc => by
      obtain ⟨o, q⟩ := isSome c hc
      rw [upd_ne (ne _ _ q)]
      exact (hf c hc).1
    have fz := hf z (by simp)
    have I2 : Inv X pins σ (upd H s.heap.objs.size (.tup [x, y])) { s with heap := h2, toks := s.toks } := I1.turned (t' := s.toks) (fun c o hc q => (sb.2 c hc).trans q) (nep z (by simp)) fz.2.1 fz.2.2.2.1 fz.2.2.2.2.1 fz.2.2.2.2.2
    refine ⟨.ref s.heap.objs.size, _, I2, rfl, ⟨_, rfl, hH, fun xs' ys' h1 h2 => ⟨x, y, by rw [I.list_inj h1 hqa]; exact hx, by rw [I.tuple_inj h2 hqb]; exact hy, rfl⟩⟩, ⟨e2, sb.extBut _ _ D.TIz (hk _ _ D.TIz D.TITO D.TIi1 D.TIi2 gti), ⟨_, _, sb.extBut _ _ D.TOz gto'⟩, g1'.extBut sb.extBut D.i1z, g2'.extBut sb.extBut D.i2z⟩, nep⟩
  done := by
    intro X hP hw hK hc i pins s σ H E I hf st hg
    subst hP hw hK
    obtain ⟨gz, gti, ⟨u, v, gto⟩, g1, g2⟩ := st
    obtain ⟨xs, hq, hx⟩ := hg
    obtain ⟨its, rv, p, hz⟩ := I.list hq
    have hl := rv.length
    refine pyNext_zipE (I.ok.hd hc) D gz gti g1 p.isList (by simp; omega) fun hp hk => ⟨rfl, ?_⟩
    have kx : ∀ c o, c ∉ [z, ti, to, j1, j2] → s.heap.get? c = some o → hp.get? c = some o := fun c o hc q => by
      simp only [List.mem_cons, List.not_mem_nil, or_false, not_or] at hc
      exact hk c o hc.1 hc.2.2.1 hc.2.2.2.1 hc.2.2.2.2 q
    exact I.call (ch := [z, ti, to, j1, j2]) (h' := hp) (g' := s.gens) (d' := s.drawn) (t' := s.toks)
      ⟨fun c o q n hc hc2 => kx c o hc2 q, fun c o q n hc hc2 => ⟨o.slots, kx c o hc2 q⟩, fun c o q n hc2 => n, fun c o q hc2 => ⟨o, kx c o hc2 q⟩, fun c ys q => q, fun c o ys q => q, fun c ps q => ⟨#[], by rw [q]; simp⟩⟩
      (fun c o q => (I.hok c o q).stay (fun d v hd r => kx d v (fun z => by
          have hdn : H d ≠ none := by
            rcases hd with rfl | hd
            · rw [q]; exact fun z => nomatch z
            · rw [hd]; exact fun z => nomatch z
          exact hdn (hf d z).1) r) (fun d r => r) fun d ys r => r) I.bare
      (fun c hc => by
        have F : FpOk X pins H c := hf c hc
        exact ⟨F.2.2.2.1, F.2.1, F.2.2.2.2.1, F.2.2.2.2.2⟩)
  self := fun _ _ _ _ _ st h => wpAny_pyIter_zip st.1 h
section
variable {X : Cx}
def iZip (K : PySem.W.Frag) (ta : TA) : TI := fun σ H R => ta σ H fun vs H1 => ∃ a b, vs = [.ref a, .ref b] ∧ (∃ xs, SqL K H1 a xs) ∧ (∃ ys, SqT K H1 b ys) ∧ R (Itz K a b) H1
theorem bt_zip : bootBuiltins "zip" = some (.type "zip") := by decide +kernel
theorem pi_zip (K : PySem.W.Frag) {elts : List Expr} {x1} {tpos : Pos} {l m : Expr} {ta : TA} {p pos : Pos} (hg : Gl X "zip") (hm : X.mg "zip" = none) (ha : PA X [l, m] ta) (he : starEach [l, m] X.env = (false, eval l X.env) :: starEach [m] X.env := by rfl) (hpl : (backTo pos (starEach [m] X.env)).any (·.1) = false := by rfl) (hK : X.K = K := by rfl) :
    PI X (.Tuple elts x1 tpos) (.Call (.Name "zip" p) [l, m] [] pos) (iZip K ta) := by
  subst hK
  intro pins s σ H R I h
  refine Call_ (ld_blt I hg hm bt_zip (PyProof.Rows.callWith_type1 (thn (ha pos pins s σ H _ I h) fun us s1 ⟨vs, H1, I1, r1, q1⟩ => ?_) he hpl))
  obtain ⟨a, b, e, ⟨xs, hqa⟩, ⟨ys, hqb⟩, q⟩ := q1
  subst e
  obtain ⟨u, v, rfl, ru, rv⟩ := vals2 r1
  cases ru
  cases rv
  obtain ⟨ia, ra, pa, _⟩ := I1.list hqa
  obtain ⟨ib, rb, pb, _⟩ := I1.tuple hqb
  have pb' : s1.heap.IsTuple b ib.toArray := pb
  have la : a < s1.heap.objs.size := by obtain ⟨_, e, _⟩ := pa.isList; exact Heap.lt_size e
  have lb : b < s1.heap.objs.size := by obtain ⟨_, e, _⟩ := pb'; exact Heap.lt_size e
  refine call_zipT pa.isList pb' fun h' hz hti hto h1 h2 hk => ?_
  refine wpAny_pyIter_zip (s := { s1 with heap := h' }) hz ?_
  refine ⟨s1.heap.objs.size + 4, [s1.heap.objs.size + 4, s1.heap.objs.size + 2, s1.heap.objs.size + 3, s1.heap.objs.size, s1.heap.objs.size + 1], _, _, H1, rfl, I1.kept (t' := s1.toks) hk, turn_zip a b _ _ _ _ _ (zipApart_new la lb), ⟨hz, hti, ⟨_, _, hto⟩, h1, h2⟩, fun c hc => ?_, q⟩
  have hc' : s1.heap.objs.size ≤ c := by
    simp only [List.mem_cons, List.not_mem_nil, or_false] at hc
    rcases hc with rfl | rfl | rfl | rfl | rfl <;> omega
  exact I1.fpOk hc' (I1.hok.fresh hc')
end
theorem for_zip {K : PySem.W.Frag} {a b : Addr} {xs ys : List V} {g : TG} {tb : TS} {D : Ends} {σ : St} {H : Hp} (hn : xs.length ≤ ys.length) (Pv : Nat → St → Hp → Prop) (h0 : Pv 0 σ H) (hl : ∀ i σ H, i ≤ xs.length → Pv i σ H → SqL K H a xs ∧ SqT K H b ys)
    (hs : ∀ i x y p σ H, xs[i]? = some x → ys[i]? = some y → H p = none → Pv i σ H → g (.ref p) σ (upd H p (.tup [x, y])) fun σ2 H2 => tb { D with nx := Pv (i + 1), ct := Pv (i + 1), bk := D.nx } σ2 H2) (hd : ∀ σ H, Pv xs.length σ H → D.nx σ H) : ForW g tb D σ (Itz K a b) H := by
  refine ⟨fun i m σ H => m = xs.length - i ∧ i ≤ xs.length ∧ Pv i σ H, ⟨xs.length, by simp, Nat.zero_le _, h0⟩, ?_⟩
  rintro i m σ H ⟨rfl, hi, p⟩
  obtain ⟨qa, qb⟩ := hl i σ H hi p
  by_cases hlt : i < xs.length
  · refine .inr ⟨⟨xs, ys, xs[i], ys[i], qa, qb, by simp [hlt], by simp⟩, Pv (i + 1), fun σ' H' p' => ⟨xs.length - (i + 1), by omega, rfl, hlt, p'⟩, fun x H' y => ?_⟩
    obtain ⟨pp, rfl, hp, y⟩ := y
    obtain ⟨z1, z2, hz1, hz2, rfl⟩ := y xs ys qa qb
    exact hs i z1 z2 pp σ H hz1 hz2 hp p
  · have e : i = xs.length := by omega
    subst e
    exact .inl ⟨⟨xs, qa, Nat.le_refl _⟩, hd σ H p⟩
end L2
/-! The table of a set: where a search goes, and that it finds what lies there. -/
namespace L2.Tb
open PySem PySem.SetTable
abbrev Pr := SetTable.Probe
def adv (m : Nat) (p : Pr) : Pr := if p.more > 0 then { p with j := p.j + 1, more := p.more - 1 } else { p with j := (leap m p.i p.perturb).1, more := runEnd m (leap m p.i p.perturb).1 - (leap m p.i p.perturb).1, i := (leap m p.i p.perturb).1, perturb := (leap m p.i p.perturb).2 }
theorem adv_eq (t : SetTable) (p : Pr) : t.advance p = adv t.mask p := by
  unfold SetTable.advance adv
  split <;> rfl
def itr (m : Nat) : Nat → Pr → Pr
  | 0, p => p
  | k + 1, p => itr m k (adv m p)
theorem itr_add (m : Nat) : ∀ (a b : Nat) (p : Pr), itr m (a + b) p = itr m b (itr m a p)
  | 0, b, p => by rw [Nat.zero_add]; rfl
  | a + 1, b, p => by
    rw [show a + 1 + b = (a + b) + 1 by omega]
    exact itr_add m a b (adv m p)
def rs (m i q : Nat) : Pr := { j := i, more := runEnd m i - i, i := i, perturb := q, dummy := none }
/-- a state that a search may be in -/
structure Ok (m : Nat) (p : Pr) : Prop where
  more : p.more ≤ 9
  jm : p.j + p.more ≤ m
  i : p.i ≤ m
  q : p.perturb < 2 ^ 64
  d : p.dummy = none
theorem run_le {m i : Nat} : runEnd m i - i ≤ 9 := by
  unfold runEnd
  split <;> omega
theorem run_in {m i : Nat} (h : i ≤ m) : i + (runEnd m i - i) ≤ m := by
  unfold runEnd
  split <;> omega
theorem leap_le {m i q : Nat} : (leap m i q).1 ≤ m := Nat.le_of_lt_succ (Nat.mod_lt _ (Nat.succ_pos _))
theorem rs_ok {m i q : Nat} (hi : i ≤ m) (hq : q < 2 ^ 64) : Ok m (rs m i q) := ⟨run_le, run_in hi, hi, hq, rfl⟩
theorem adv_ok {m : Nat} {p : Pr} (h : Ok m p) : Ok m (adv m p) := by
  unfold adv
  by_cases hm : p.more > 0
  · rw [if_pos hm]
    have h1 := h.more
    have h2 := h.jm
    exact ⟨by dsimp only; omega, by dsimp only; omega, h.i, h.q, h.d⟩
  · rw [if_neg hm]
    have := h.q
    exact ⟨run_le, run_in leap_le, leap_le, by dsimp only [leap]; omega, h.d⟩
theorem itr_ok {m : Nat} : ∀ (k : Nat) {p : Pr}, Ok m p → Ok m (itr m k p)
  | 0, _, h => h
  | k + 1, _, h => itr_ok k (adv_ok h)
theorem start_ok {m : Nat} {h : Int} : Ok m (rs m (bits h % (m + 1)) (bits h)) := rs_ok (Nat.le_of_lt_succ (Nat.mod_lt _ (Nat.succ_pos _))) (by
  unfold bits
  have h1 := Int.emod_nonneg h (show (2 ^ 64 : Int) ≠ 0 by decide)
  have h2 := Int.emod_lt_of_pos h (show (0 : Int) < 2 ^ 64 by decide)
  omega)
theorem itr_more {m : Nat} : ∀ (n : Nat) (p : Pr), p.more = n → p.dummy = none → itr m (n + 1) p = rs m (leap m p.i p.perturb).1 (leap m p.i p.perturb).2
  | 0, p, h, d => by
    change adv m p = _
    unfold adv
    rw [if_neg (by omega), d]
    rfl
  | n + 1, p, h, d => by
    change itr m (n + 1) (adv m p) = _
    have e : adv m p = { p with j := p.j + 1, more := p.more - 1 } := by unfold adv; rw [if_pos (by omega)]
    rw [e]
    exact itr_more n _ (by dsimp only; omega) d
/-- n leaps -/
def lpn (m : Nat) : Nat → Nat × Nat → Nat × Nat
  | 0, x => x
  | n + 1, x => lpn m n (leap m x.1 x.2)
theorem lpn_add (m : Nat) : ∀ (a b : Nat) (x : Nat × Nat), lpn m (a + b) x = lpn m b (lpn m a x)
  | 0, b, x => by rw [Nat.zero_add]; rfl
  | a + 1, b, x => by
    rw [show a + 1 + b = (a + b) + 1 by omega]
    exact lpn_add m a b _
theorem reach {m : Nat} : ∀ (n i q : Nat), ∃ k, k ≤ 10 * n ∧ itr m k (rs m i q) = rs m (lpn m n (i, q)).1 (lpn m n (i, q)).2
  | 0, i, q => ⟨0, by omega, rfl⟩
  | n + 1, i, q => by
    obtain ⟨k, hk, e⟩ := reach n (leap m i q).1 (leap m i q).2
    have h9 : runEnd m i - i ≤ 9 := run_le
    refine ⟨(runEnd m i - i + 1) + k, by omega, ?_⟩
    rw [itr_add, itr_more (runEnd m i - i) (rs m i q) rfl rfl]
    exact e
def gg (m i : Nat) : Nat := (i * 5 + 1) % (m + 1)
def itg (m : Nat) : Nat → Nat → Nat
  | 0, i => i
  | n + 1, i => itg m n (gg m i)
theorem itg_add (m : Nat) : ∀ (a b i : Nat), itg m (a + b) i = itg m b (itg m a i)
  | 0, b, i => by rw [Nat.zero_add]; rfl
  | a + 1, b, i => by
    rw [show a + 1 + b = (a + b) + 1 by omega]
    exact itg_add m a b _
theorem lpn_zero (m : Nat) : ∀ (n i : Nat), lpn m n (i, 0) = (itg m n i, 0)
  | 0, i => rfl
  | n + 1, i => by
    have e : leap m i 0 = (gg m i, 0) := by simp [leap, gg]
    change lpn m n (leap m i 0) = _
    rw [e]
    exact lpn_zero m n _
theorem lpn_q (m : Nat) : ∀ (n : Nat) (x : Nat × Nat), (lpn m n x).2 = x.2 / 32 ^ n
  | 0, x => by simp [lpn]
  | n + 1, x => by
    change (lpn m n (leap m x.1 x.2)).2 = _
    rw [lpn_q m n]
    unfold leap
    rw [Nat.div_div_eq_div_mul, Nat.pow_succ, Nat.mul_comm]
theorem lpn_le {m : Nat} : ∀ (n : Nat) {x : Nat × Nat}, x.1 ≤ m → (lpn m n x).1 ≤ m
  | 0, _, h => h
  | n + 1, _, _ => lpn_le n leap_le
def inv7 : List Nat := [0, 1, 6, 7, 4, 5, 2, 3]
def inv31 : List Nat := [0, 1, 6, 15, 28, 13, 2, 27, 24, 25, 30, 7, 20, 5, 26, 19, 16, 17, 22, 31, 12, 29, 18, 11, 8, 9, 14, 23, 4, 21, 10, 3]
def inv127 : List Nat := [0, 1, 70, 111, 28, 109, 2, 123, 120, 25, 126, 71, 20, 5, 58, 83, 112, 49, 54, 31, 12, 29, 114, 43, 104, 73, 110, 119, 4, 53, 42, 3, 96, 97, 38, 79, 124, 77, 98, 91, 88, 121, 94, 39, 116, 101, 26, 51, 80, 17, 22, 127, 108, 125, 82, 11, 72, 41, 78, 87, 100, 21, 10, 99, 64, 65, 6, 47, 92, 45, 66, 59, 56, 89, 62, 7, 84, 69, 122, 19, 48, 113, 118, 95, 76, 93, 50, 107, 40, 9, 46, 55, 68, 117, 106, 67, 32, 33, 102, 15, 60, 13, 34, 27, 24, 57, 30, 103, 52, 37, 90, 115, 16, 81, 86, 63, 44, 61, 18, 75, 8, 105, 14, 23, 36, 85, 74, 35]
theorem all7 : ∀ x < 8, itg 7 (inv7.getD x 0) 0 = x ∧ inv7.getD x 0 < 8 := by decide +kernel
theorem all31 : ∀ x < 32, itg 31 (inv31.getD x 0) 0 = x ∧ inv31.getD x 0 < 32 := by decide +kernel
theorem all127 : ∀ x < 128, itg 127 (inv127.getD x 0) 0 = x ∧ inv127.getD x 0 < 128 := by decide +kernel
def Mk (m : Nat) : Prop := m = 7 ∨ m = 31 ∨ m = 127
theorem from0 {m : Nat} (hm : Mk m) {x : Nat} (hx : x ≤ m) : ∃ t, t ≤ m ∧ itg m t 0 = x := by
  rcases hm with rfl | rfl | rfl
  · have := all7 x (by omega)
    exact ⟨_, by omega, this.1⟩
  · have := all31 x (by omega)
    exact ⟨_, by omega, this.1⟩
  · have := all127 x (by omega)
    exact ⟨_, by omega, this.1⟩
theorem round {m : Nat} (hm : Mk m) : itg m (m + 1) 0 = 0 := by
  rcases hm with rfl | rfl | rfl <;> decide +kernel
theorem gcover {m : Nat} (hm : Mk m) {i x : Nat} (hi : i ≤ m) (hx : x ≤ m) : ∃ t, t ≤ m ∧ itg m t i = x := by
  obtain ⟨s, hs, es⟩ := from0 hm hi
  obtain ⟨u, hu, eu⟩ := from0 hm hx
  by_cases h : s ≤ u
  · refine ⟨u - s, by omega, ?_⟩
    rw [← es, ← itg_add, show s + (u - s) = u by omega]
    exact eu
  · refine ⟨(m + 1 - s) + u, by omega, ?_⟩
    rw [← es, ← itg_add, show s + (m + 1 - s + u) = (m + 1) + u by omega, itg_add, round hm]
    exact eu
/-- from any state each place is met in time -/
theorem cover {m : Nat} (hm : Mk m) {p : Pr} (ok : Ok m p) {x : Nat} (hx : x ≤ m) : ∃ k, k < 10 * turns m ∧ (itr m k p).j = x := by
  have e1 := itr_more (m := m) p.more p rfl ok.d
  obtain ⟨k1, h1, e2⟩ := reach (m := m) 12 (leap m p.i p.perturb).1 (leap m p.i p.perturb).2
  have hq : (lpn m 12 (leap m p.i p.perturb)).2 = 0 := by
    rw [lpn_q]
    unfold leap
    have := ok.q
    dsimp only
    rw [Nat.div_div_eq_div_mul]
    exact Nat.div_eq_of_lt (Nat.lt_trans this (by decide))
  have hi : (lpn m 12 (leap m p.i p.perturb)).1 ≤ m := lpn_le 12 leap_le
  obtain ⟨t, ht, et⟩ := gcover hm hi hx
  obtain ⟨k2, h2, e3⟩ := reach (m := m) t (lpn m 12 (leap m p.i p.perturb)).1 0
  have h9 := ok.more
  refine ⟨(p.more + 1) + k1 + k2, by unfold turns; omega, ?_⟩
  rw [itr_add, itr_add, e1, e2]
  change (itr m k2 (rs m (lpn m 12 (leap m p.i p.perturb)).1 (lpn m 12 (leap m p.i p.perturb)).2)).j = x
  rw [hq, e3, lpn_zero]
  exact et
/-! ### places in order -/
theorem below_go {xs : Array Nat} {j : Nat} (hs : xs.toList.Pairwise (· < ·)) : ∀ (f lo hi : Nat), hi - lo ≤ f → lo ≤ hi → hi ≤ xs.size → (∀ i, i < lo → ∀ y, xs[i]? = some y → y < j) → (∀ i, hi ≤ i → ∀ y, xs[i]? = some y → j ≤ y) →
    (below.go xs j f lo hi) ≤ xs.size ∧ (∀ i, i < below.go xs j f lo hi → ∀ y, xs[i]? = some y → y < j) ∧ ∀ i, below.go xs j f lo hi ≤ i → ∀ y, xs[i]? = some y → j ≤ y
  | 0, lo, hi, hf, h1, h2, ha, hb => by
    have e : lo = hi := by omega
    subst e
    exact ⟨h2, ha, hb⟩
  | f + 1, lo, hi, hf, h1, h2, ha, hb => by
    unfold below.go
    by_cases hlt : lo < hi
    · rw [if_pos hlt]
      have hmid : (lo + hi) / 2 < xs.size := by omega
      have eg : xs.getD ((lo + hi) / 2) j = xs[(lo + hi) / 2] := by simp [Array.getD, hmid]
      have hp : ∀ a b : Nat, a < b → ∀ y z, xs[a]? = some y → xs[b]? = some z → y < z := fun a b hab y z hy hz => by
        obtain ⟨ha', rfl⟩ := Array.getElem?_eq_some_iff.mp hy
        obtain ⟨hb', rfl⟩ := Array.getElem?_eq_some_iff.mp hz
        have := List.pairwise_iff_getElem.mp hs a b (by simpa using ha') (by simpa using hb') hab
        simpa using this
      dsimp only
      rw [eg]
      by_cases hc : xs[(lo + hi) / 2] < j
      · rw [if_pos hc]
        refine below_go hs f _ hi (by omega) (by omega) h2 (fun i hi' y hy => ?_) hb
        by_cases e : i = (lo + hi) / 2
        · subst e
          rw [Array.getElem?_eq_getElem hmid] at hy
          cases hy
          exact hc
        · have := hp i ((lo + hi) / 2) (by omega) y _ hy (Array.getElem?_eq_getElem hmid)
          omega
      · rw [if_neg hc]
        refine below_go hs f lo _ (by omega) (by omega) (by omega) ha (fun i hi' y hy => ?_)
        by_cases e : i = (lo + hi) / 2
        · subst e
          rw [Array.getElem?_eq_getElem hmid] at hy
          cases hy
          omega
        · have := hp ((lo + hi) / 2) i (by omega) _ y (Array.getElem?_eq_getElem hmid) hy
          omega
    · rw [if_neg hlt]
      have e : lo = hi := by omega
      subst e
      exact ⟨h2, ha, hb⟩
theorem below_spec {xs : Array Nat} {j : Nat} (hs : xs.toList.Pairwise (· < ·)) : below xs j ≤ xs.size ∧ (∀ i, i < below xs j → ∀ y, xs[i]? = some y → y < j) ∧ ∀ i, below xs j ≤ i → ∀ y, xs[i]? = some y → j ≤ y :=
  below_go hs xs.size 0 xs.size (by omega) (by omega) (Nat.le_refl _) (fun i hi => absurd hi (by omega)) fun i hi y hy => by
    have := (Array.getElem?_eq_some_iff.mp hy).1
    omega
theorem below_at {xs : Array Nat} {i j : Nat} (hs : xs.toList.Pairwise (· < ·)) (h : xs[i]? = some j) : below xs j = i := by
  obtain ⟨h1, h2, h3⟩ := below_spec (j := j) hs
  have hi := (Array.getElem?_eq_some_iff.mp h).1
  by_cases hlt : i < below xs j
  · have := h2 i hlt j h
    omega
  · by_cases hgt : below xs j < i
    · have hb : below xs j < xs.size := by omega
      have hy := Array.getElem?_eq_getElem hb
      have a := h3 _ (Nat.le_refl _) _ hy
      have hp := List.pairwise_iff_getElem.mp hs (below xs j) i (by simpa using hb) (by simpa using hi) hgt
      have e : xs[i] = j := by rw [Array.getElem?_eq_getElem hi] at h; exact Option.some.inj h
      have hp' : xs[below xs j] < xs[i] := by simpa using hp
      omega
    · omega
theorem insertAt_list {α : Type} (xs : Array α) {p : Nat} (h : p ≤ xs.size) (x : α) : (insertAt xs p x).toList = xs.toList.take p ++ x :: xs.toList.drop p := by
  unfold insertAt
  simp
  rw [List.take_of_length_le (by simp)]
/-- a list of places is met with no place twice: one is free -/
theorem len_sub : ∀ (l S : List Nat), l.Nodup → (∀ x ∈ l, x ∈ S) → l.length ≤ S.length
  | [], _, _, _ => Nat.zero_le _
  | x :: l, S, hn, hs => by
    rw [List.nodup_cons] at hn
    have hx := hs x (.head _)
    have := len_sub l (S.erase x) hn.2 fun y hy => (List.mem_erase_of_ne (fun e => hn.1 (by rw [← e]; exact hy))).mpr (hs y (.tail _ hy))
    rw [List.length_erase_of_mem hx] at this
    have hp : 0 < S.length := List.length_pos_of_mem hx
    rw [List.length_cons]
    omega
theorem free_ex {m : Nat} {S : List Nat} (h : S.length ≤ m) : ∃ x, x ≤ m ∧ x ∉ S := by
  refine Classical.byContradiction fun hn => ?_
  have := len_sub (List.range (m + 1)) S List.nodup_range fun x hx => Classical.byContradiction fun hx' => hn ⟨x, by have := List.mem_range.mp hx; omega, hx'⟩
  rw [List.length_range] at this
  omega
/-! ### the table -/
def pth (m : Nat) (h : Int) (k : Nat) : Pr := itr m k (rs m (bits h % (m + 1)) (bits h))
/-- the place j is met by a search for h, behind places that are taken -/
def Rch (m : Nat) (S : List Nat) (h : Int) (j : Nat) : Prop := ∃ k, (pth m h k).j = j ∧ ∀ k', k' < k → (pth m h k').j ∈ S
theorem Rch.mono {m : Nat} {S S' : List Nat} {h : Int} {j : Nat} (r : Rch m S h j) (hs : ∀ x ∈ S, x ∈ S') : Rch m S' h j := by
  obtain ⟨k, e, g⟩ := r
  exact ⟨k, e, fun k' hk => hs _ (g k' hk)⟩
variable {α : Type}
abbrev En (α : Type) := Nat × Int × α
structure Tab (t : SetTable) (T : List (En α)) : Prop where
  place : t.place.toList = T.map (·.1)
  dum : t.dummies = #[]
  mask : Mk t.mask
  srt : (T.map (·.1)).Pairwise (· < ·)
  le : ∀ e ∈ T, e.1 ≤ t.mask
  small : T.length ≤ t.mask
  rch : ∀ e ∈ T, Rch t.mask (T.map (·.1)) e.2.1 e.1
variable {t : SetTable} {T : List (En α)}
theorem Tab.srt' (h : Tab t T) : t.place.toList.Pairwise (· < ·) := by rw [h.place]; exact h.srt
theorem Tab.placeAt (h : Tab t T) (i : Nat) : t.place[i]? = (T[i]?).map (·.1) := by
  rw [← Array.getElem?_toList, h.place, List.getElem?_map]
theorem Tab.live (h : Tab t T) {i j : Nat} {e : Int × α} (hi : T[i]? = some (j, e)) : t.slot j = .live i := by
  have hp : t.place[i]? = some j := by rw [h.placeAt, hi]; rfl
  unfold SetTable.slot
  rw [below_at h.srt' hp]
  simp [hp]
theorem Tab.empty (h : Tab t T) {j : Nat} (hj : j ∉ T.map (·.1)) : t.slot j = .empty := by
  unfold SetTable.slot
  have hn : ¬ (t.place[below t.place j]? == some j) = true := fun z => by
    have z := eq_of_beq z
    rw [h.placeAt] at z
    obtain ⟨e, he, ej⟩ := Option.map_eq_some_iff.mp z
    exact hj (List.mem_map.mpr ⟨e, List.mem_of_getElem? he, ej⟩)
  dsimp only
  rw [if_neg hn, h.dum]
  rfl
theorem Tab.at (h : Tab t T) {j : Nat} (hj : j ∈ T.map (·.1)) : ∃ (i : Nat) (e : Int × α), T[i]? = some (j, e) := by
  obtain ⟨e, he, rfl⟩ := List.mem_map.mp hj
  obtain ⟨i, hi, rfl⟩ := List.getElem_of_mem he
  exact ⟨i, T[i].2, List.getElem?_eq_getElem hi⟩
/-- what a probe meets -/
theorem go_spec (h : Tab t T) {hashAt : Nat → Int} (hh : ∀ (i j : Nat) (e : Int × α), T[i]? = some (j, e) → hashAt i = e.1) (x : Int) : ∀ (f : Nat) (p : Pr), p.dummy = none → (∃ k, k < f ∧ (itr t.mask k p).j ∉ T.map (·.1)) →
    ∃ k, (∀ k', k' < k → (itr t.mask k' p).j ∈ T.map (·.1) ∧ ∀ (i : Nat) (e : Int × α), T[i]? = some ((itr t.mask k' p).j, e) → e.1 ≠ x) ∧
      (((itr t.mask k p).j ∉ T.map (·.1) ∧ probe.go t hashAt x f p = some (.empty (itr t.mask k p).j none)) ∨
        ∃ (i : Nat) (e : Int × α), T[i]? = some ((itr t.mask k p).j, e) ∧ e.1 = x ∧ probe.go t hashAt x f p = some (.candidate (itr t.mask k p).j i (itr t.mask (k + 1) p)))
  | 0, p, _, ⟨k, hk, _⟩ => absurd hk (by omega)
  | f + 1, p, d, ⟨k, hk, hf⟩ => by
    by_cases hj : p.j ∈ T.map (·.1)
    · obtain ⟨i, e, hi⟩ := h.at hj
      have hl := h.live hi
      have hd : (adv t.mask p).dummy = none := by
        unfold adv
        split <;> exact d
      by_cases hx : e.1 = x
      · refine ⟨0, fun k' hk' => absurd hk' (by omega), .inr ⟨i, e, hi, hx, ?_⟩⟩
        unfold probe.go
        rw [hl]
        dsimp only
        rw [hh i _ _ hi, hx, if_pos (by simp), adv_eq]
        rfl
      · have hk0 : k ≠ 0 := fun z => by subst z; exact hf hj
        obtain ⟨k2, g1, g2⟩ := go_spec h hh x f (adv t.mask p) hd ⟨k - 1, by omega, by
          have : itr t.mask k p = itr t.mask (k - 1) (adv t.mask p) := by
            rw [show k = (k - 1) + 1 by omega]
            rfl
          rw [← this]
          exact hf⟩
        have eg : probe.go t hashAt x (f + 1) p = probe.go t hashAt x f (adv t.mask p) := by
          conv => lhs; unfold probe.go
          rw [hl]
          dsimp only
          rw [hh i _ _ hi, if_neg (by simpa using hx), adv_eq]
        refine ⟨k2 + 1, fun k' hk' => ?_, ?_⟩
        · cases k' with
          | zero => exact ⟨hj, fun i' e' hi' => by
              have : i' = i := by
                have q1 : t.place[i']? = some p.j := by rw [h.placeAt, hi']; rfl
                have q2 : t.place[i]? = some p.j := by rw [h.placeAt, hi]; rfl
                rw [← below_at h.srt' q1, below_at h.srt' q2]
              subst this
              rw [hi] at hi'
              cases hi'
              exact hx⟩
          | succ k'' => exact g1 k'' (by omega)
        · rw [eg]
          exact g2
    · refine ⟨0, fun k' hk' => absurd hk' (by omega), .inl ⟨hj, ?_⟩⟩
      have hl := h.empty hj
      unfold probe.go
      rw [hl]
      dsimp only
      rw [d]
      rfl
theorem least {P : Nat → Prop} : ∀ n, (∃ k, k < n ∧ P k) → ∃ k, k < n ∧ P k ∧ ∀ k', k' < k → ¬ P k'
  | 0, ⟨k, hk, _⟩ => absurd hk (by omega)
  | n + 1, ⟨k, hk, hp⟩ => by
    by_cases h : ∃ k, k < n ∧ P k
    · obtain ⟨a, ha, b⟩ := least n h
      exact ⟨a, by omega, b⟩
    · refine ⟨k, hk, hp, fun k' hk' hp' => h ⟨k', by omega, hp'⟩⟩
/-- the first free place of a search -/
theorem Tab.first (h : Tab t T) (x : Int) : ∃ k, k < 10 * turns t.mask ∧ (pth t.mask x k).j ∉ T.map (·.1) ∧ ∀ k', k' < k → (pth t.mask x k').j ∈ T.map (·.1) := by
  obtain ⟨y, hy, hf⟩ := free_ex (S := T.map (·.1)) (m := t.mask) (by rw [List.length_map]; exact h.small)
  obtain ⟨k, hk, e⟩ := cover h.mask (start_ok (h := x)) hy
  obtain ⟨k, hk, hp, hm⟩ := least (P := fun k => (pth t.mask x k).j ∉ T.map (·.1)) _ ⟨k, hk, by unfold pth; rw [e]; exact hf⟩
  exact ⟨k, hk, hp, fun k' hk' => Classical.byContradiction fun z => hm k' hk' z⟩
theorem pth_ok {m : Nat} {x : Int} (k : Nat) : Ok m (pth m x k) := itr_ok k start_ok
/-- what is stored lies ahead of the first free place -/
theorem Tab.ahead (h : Tab t T) {x : Int} {k : Nat} (hk : (pth t.mask x k).j ∉ T.map (·.1)) {e : En α} (he : e ∈ T) (hx : e.2.1 = x) : ∃ k', k' < k ∧ (pth t.mask x k').j = e.1 := by
  obtain ⟨k', e1, g⟩ := h.rch e he
  rw [hx] at e1 g
  refine ⟨k', ?_, e1⟩
  by_cases hlt : k' < k
  · exact hlt
  · exfalso
    by_cases e2 : k = k'
    · subst e2
      exact hk (by rw [e1]; exact List.mem_map.mpr ⟨e, he, rfl⟩)
    · exact hk (g k (by omega))
theorem Tab.congr {t' : SetTable} (h : Tab t T) (h1 : t'.mask = t.mask) (h2 : t'.place = t.place) (h3 : t'.dummies = t.dummies) : Tab t' T :=
  ⟨by rw [h2]; exact h.place, by rw [h3]; exact h.dum, by rw [h1]; exact h.mask, h.srt, by rw [h1]; exact h.le, by rw [h1]; exact h.small, by rw [h1]; exact h.rch⟩
/-- a new thing in a free place -/
theorem Tab.put (h : Tab t T) {j : Nat} {x : Int} {v : α} (hj : j ∉ T.map (·.1)) (hm : j ≤ t.mask) (hr : Rch t.mask (T.map (·.1)) x j) (hl : T.length + 1 ≤ t.mask) :
    (t.put j).2 ≤ T.length ∧ Tab (t.put j).1 (T.take (t.put j).2 ++ (j, x, v) :: T.drop (t.put j).2) ∧ (t.put j).1.mask = t.mask ∧ (t.put j).1.fill = T.length + 1 := by
  obtain ⟨b1, b2, b3⟩ := below_spec (j := j) h.srt'
  have hsz : t.place.size = T.length := by rw [← Array.length_toList, h.place, List.length_map]
  have e2 : (t.put j).2 = below t.place j := rfl
  have hd : has t.dummies j = false := by rw [h.dum]; rfl
  have e1 : (t.put j).1 = { t with place := insertAt t.place (below t.place j) j } := by
    unfold SetTable.put
    dsimp only
    rw [hd]
    simp
  rw [e1, e2]
  rw [hsz] at b1
  have hmem : ∀ e, e ∈ T.take (below t.place j) ++ (j, x, v) :: T.drop (below t.place j) ↔ e = (j, x, v) ∨ e ∈ T := fun e => by
    rw [List.mem_append, List.mem_cons]
    constructor
    · rintro (q | q | q)
      · exact .inr (List.mem_of_mem_take q)
      · exact .inl q
      · exact .inr (List.mem_of_mem_drop q)
    · rintro (q | q)
      · exact .inr (.inl q)
      · have : e ∈ T.take (below t.place j) ++ T.drop (below t.place j) := by rw [List.take_append_drop]; exact q
        rcases List.mem_append.mp this with z | z
        · exact .inl z
        · exact .inr (.inr z)
  have hsub : ∀ y ∈ T.map (·.1), y ∈ (T.take (below t.place j) ++ (j, x, v) :: T.drop (below t.place j)).map (·.1) := fun y hy => by
    obtain ⟨e, he, rfl⟩ := List.mem_map.mp hy
    exact List.mem_map.mpr ⟨e, (hmem e).mpr (.inr he), rfl⟩
  refine ⟨b1, ⟨?_, h.dum, h.mask, ?_, ?_, ?_, ?_⟩, rfl, ?_⟩
  · dsimp only
    rw [insertAt_list _ (by rw [hsz]; exact b1), h.place]
    simp
  · rw [List.map_append, List.map_cons, List.pairwise_append, List.pairwise_cons]
    refine ⟨?_, ⟨?_, ?_⟩, ?_⟩
    · rw [List.map_take]
      exact h.srt.sublist (List.take_sublist _ _)
    · intro y hy
      obtain ⟨e, he, rfl⟩ := List.mem_map.mp hy
      obtain ⟨i, hi, rfl⟩ := List.getElem_of_mem he
      have hi' : below t.place j + i < T.length := by rw [List.length_drop] at hi; omega
      have := b3 (below t.place j + i) (by omega) (T[below t.place j + i]'hi').1 (by rw [h.placeAt, List.getElem?_eq_getElem hi']; rfl)
      have ne : (T[below t.place j + i]'hi').1 ≠ j := fun z => hj (List.mem_map.mpr ⟨_, List.getElem_mem hi', z⟩)
      rw [List.getElem_drop]
      dsimp only
      omega
    · rw [List.map_drop]
      exact h.srt.sublist (List.drop_sublist _ _)
    · intro y hy z hz
      have hlt : y < j := by
        obtain ⟨e, he, rfl⟩ := List.mem_map.mp hy
        obtain ⟨i, hi, rfl⟩ := List.getElem_of_mem he
        rw [List.length_take] at hi
        rw [List.getElem_take]
        exact b2 i (by omega) _ (by rw [h.placeAt, List.getElem?_eq_getElem (by omega)]; rfl)
      rcases List.mem_cons.mp hz with rfl | hz
      · exact hlt
      · obtain ⟨e, he, rfl⟩ := List.mem_map.mp hz
        obtain ⟨i, hi, rfl⟩ := List.getElem_of_mem he
        have hi' : below t.place j + i < T.length := by rw [List.length_drop] at hi; omega
        have := b3 (below t.place j + i) (by omega) (T[below t.place j + i]'hi').1 (by rw [h.placeAt, List.getElem?_eq_getElem hi']; rfl)
        rw [List.getElem_drop]
        omega
  · intro e he
    rcases (hmem e).mp he with rfl | he
    · exact hm
    · exact h.le e he
  · rw [List.length_append, List.length_cons, List.length_take, List.length_drop]
    dsimp only
    omega
  · intro e he
    rcases (hmem e).mp he with rfl | he
    · exact hr.mono hsub
    · exact (h.rch e he).mono hsub
  · unfold SetTable.fill
    dsimp only
    rw [h.dum, ← Array.length_toList, insertAt_list _ (by rw [hsz]; exact b1), List.length_append, List.length_cons, List.length_take, List.length_drop, Array.length_toList, hsz]
    simp
    omega
/-! ### a table laid anew -/
theorem itr_run {m : Nat} : ∀ (k : Nat) (p : Pr), k ≤ p.more → (itr m k p).j = p.j + k
  | 0, p, _ => rfl
  | k + 1, p, h => by
    have e : adv m p = { p with j := p.j + 1, more := p.more - 1 } := by unfold adv; rw [if_pos (by omega)]
    change (itr m k (adv m p)).j = _
    rw [e, itr_run k _ (by dsimp only; omega)]
    dsimp only
    omega
theorem free_spec {m : Nat} {owner : Array (Option Nat)} (hsz : owner.size = m + 1) : ∀ (f i q : Nat), i ≤ m → (∃ n, n < f ∧ owner[(lpn m n (i, q)).1]? = some none) →
    ∃ j k, layClean.free m owner f i q = some j ∧ (itr m k (rs m i q)).j = j ∧ owner[j]? = some none ∧ j ≤ m ∧ ∀ k', k' < k → owner[(itr m k' (rs m i q)).j]? ≠ some none
  | 0, _, _, _, ⟨n, hn, _⟩ => absurd hn (by omega)
  | f + 1, i, q, hi, ⟨n, hn, he⟩ => by
    have gd : ∀ k, (owner.getD (i + k) (some 0)).isNone = true ↔ owner[i + k]? = some none := fun k => by
      rw [Array.getD_eq_getD_getElem?]
      cases hc : owner[i + k]? with
      | none => simp
      | some o => cases o <;> simp
    have hre : i ≤ runEnd m i := by unfold runEnd; split <;> omega
    have hrm : runEnd m i ≤ m := by unfold runEnd; split <;> omega
    cases hf : (List.range (runEnd m i + 1 - i)).find? (fun k => (owner.getD (i + k) (some 0)).isNone) with
    | some k =>
      obtain ⟨h1, h2, h3⟩ := List.find?_range_eq_some.mp hf
      have hk : k < runEnd m i + 1 - i := by simpa using h2
      refine ⟨i + k, k, ?_, ?_, (gd k).mp h1, by omega, fun k' hk' z => ?_⟩
      · unfold layClean.free
        rw [hf]
      · rw [itr_run k _ (by change k ≤ runEnd m i - i; omega)]
        rfl
      · rw [itr_run k' _ (by change k' ≤ runEnd m i - i; omega)] at z
        have := h3 k' hk'
        rw [(gd k').mpr z] at this
        cases this
    | none =>
      have hno := List.find?_range_eq_none.mp hf
      have hn0 : n ≠ 0 := fun z => by
        subst z
        have := hno 0 (by omega)
        rw [(gd 0).mpr he] at this
        cases this
      obtain ⟨j, k, e1, e2, e3, e4, e5⟩ := free_spec hsz f (leap m i q).1 (leap m i q).2 leap_le ⟨n - 1, by omega, by
        have : lpn m n (i, q) = lpn m (n - 1) (leap m i q) := by
          rw [show n = (n - 1) + 1 by omega]
          rfl
        rw [← this]
        exact he⟩
      have hfull := itr_more (m := m) (runEnd m i - i) (rs m i q) rfl rfl
      refine ⟨j, (runEnd m i - i + 1) + k, ?_, ?_, e3, e4, fun k' hk' z => ?_⟩
      · unfold layClean.free
        rw [hf]
        exact e1
      · rw [itr_add, hfull]
        exact e2
      · by_cases hc : k' ≤ runEnd m i - i
        · rw [itr_run k' _ hc] at z
          have := hno k' (by omega)
          rw [(gd k').mpr z] at this
          cases this
        · have : k' = (runEnd m i - i + 1) + (k' - (runEnd m i - i + 1)) := by omega
          rw [this, itr_add, hfull] at z
          exact e5 _ (by omega) z
structure Lay (m : Nat) (owner : Array (Option Nat)) (U : List (Nat × Int)) : Prop where
  sz : owner.size = m + 1
  at' : ∀ (a s : Nat) (h : Int), U[a]? = some (s, h) → owner[s]? = some (some a)
  emp : ∀ j, j ≤ m → j ∉ U.map (·.1) → owner[j]? = some none
  nd : (U.map (·.1)).Nodup
  le : ∀ e ∈ U, e.1 ≤ m
  rch : ∀ e ∈ U, Rch m (U.map (·.1)) e.2 e.1
theorem Lay.nil (m : Nat) : Lay m (Array.replicate (m + 1) none) [] :=
  ⟨Array.size_replicate, (fun a s h e => by simp at e), (fun j hj _ => by rw [Array.getElem?_replicate, if_pos (by omega)]), List.Pairwise.nil, (fun e z => nomatch z), (fun e z => nomatch z)⟩
theorem Lay.step {m : Nat} (hm : Mk m) {owner : Array (Option Nat)} {U : List (Nat × Int)} (L : Lay m owner U) (hl : U.length ≤ m) (x : Int) :
    ∃ j, layClean.free m owner (turns m) (bits x % (m + 1)) (bits x) = some j ∧ Lay m (owner.setIfInBounds j (some U.length)) (U ++ [(j, x)]) := by
  obtain ⟨y, hy, hyf⟩ := free_ex (S := U.map (·.1)) (m := m) (by rw [List.length_map]; exact hl)
  have so := start_ok (m := m) (h := x)
  have hq : (lpn m 13 (bits x % (m + 1), bits x)).2 = 0 := by
    rw [lpn_q]
    exact Nat.div_eq_of_lt (Nat.lt_trans so.q (by decide))
  obtain ⟨t, ht, et⟩ := gcover hm (lpn_le 13 (x := (bits x % (m + 1), bits x)) so.i) hy
  have hlp : (lpn m (13 + t) (bits x % (m + 1), bits x)).1 = y := by
    rw [lpn_add, show lpn m 13 (bits x % (m + 1), bits x) = ((lpn m 13 (bits x % (m + 1), bits x)).1, 0) from Prod.ext rfl hq, lpn_zero]
    exact et
  obtain ⟨j, k, e1, e2, e3, e4, e5⟩ := free_spec L.sz (turns m) (bits x % (m + 1)) (bits x) so.i ⟨13 + t, by unfold turns; omega, by rw [hlp]; exact L.emp y hy hyf⟩
  have hj : j ∉ U.map (·.1) := fun z => by
    obtain ⟨⟨s', h⟩, he, rfl⟩ := List.mem_map.mp z
    obtain ⟨a, ha, e⟩ := List.getElem_of_mem he
    have := L.at' a s' h (by rw [List.getElem?_eq_getElem ha, e])
    dsimp only at e3
    rw [this] at e3
    cases e3
  have hsub : ∀ z ∈ U.map (·.1), z ∈ (U ++ [(j, x)]).map (·.1) := fun z hz => by rw [List.map_append]; exact List.mem_append_left _ hz
  refine ⟨j, e1, by simp [L.sz], fun a s h he => ?_, fun z hz hn => ?_, ?_, fun e he => ?_, fun e he => ?_⟩
  · by_cases ha : a < U.length
    · rw [List.getElem?_append_left ha] at he
      have hs : s ≠ j := fun q => hj (by rw [← q]; exact List.mem_map.mpr ⟨_, List.mem_of_getElem? he, rfl⟩)
      rw [Array.getElem?_setIfInBounds_ne (Ne.symm hs)]
      exact L.at' a s h he
    · rw [List.getElem?_append_right (by omega)] at he
      have ea : a = U.length := by
        have := (List.getElem?_eq_some_iff.mp he).1
        simp at this
        omega
      subst ea
      simp at he
      obtain ⟨rfl, rfl⟩ := he
      have : j < owner.size := by rw [L.sz]; omega
      rw [Array.getElem?_setIfInBounds_self_of_lt this]
  · rw [List.map_append, List.mem_append] at hn
    have hz' : z ≠ j := fun q => hn (.inr (by simp [q]))
    rw [Array.getElem?_setIfInBounds_ne (Ne.symm hz')]
    exact L.emp z hz fun q => hn (.inl q)
  · rw [List.map_append, List.nodup_append]
    refine ⟨L.nd, by simp, fun a ha b hb => ?_⟩
    simp at hb
    subst hb
    exact fun q => hj (q ▸ ha)
  · rcases List.mem_append.mp he with he | he
    · exact L.le e he
    · simp at he
      subst he
      exact e4
  · rcases List.mem_append.mp he with he | he
    · exact (L.rch e he).mono hsub
    · simp at he
      subst he
      refine Rch.mono ⟨k, e2, fun k' hk' => ?_⟩ hsub
      refine Classical.byContradiction fun z => e5 k' hk' (L.emp _ ?_ z)
      have := (itr_ok k' so).jm
      change (itr m k' (rs m (bits x % (m + 1)) (bits x))).j ≤ m
      omega
theorem lay_fold {m : Nat} (hm : Mk m) : ∀ (l : List Int) (owner : Array (Option Nat)) (U : List (Nat × Int)), Lay m owner U → U.length + l.length ≤ m + 1 →
    ∃ owner' U', (l.foldl (fun acc h => do
      let (owner, k) ← acc
      let j ← layClean.free m owner (turns m) (bits h % (m + 1)) (bits h)
      pure (owner.setIfInBounds j (some k), k + 1)) (some (owner, U.length))) = some (owner', U'.length) ∧ Lay m owner' U' ∧ U'.map (·.2) = U.map (·.2) ++ l
  | [], owner, U, L, _ => ⟨owner, U, rfl, L, by simp⟩
  | x :: l, owner, U, L, hl => by
    rw [List.length_cons] at hl
    obtain ⟨j, e, L'⟩ := L.step hm (by omega) x
    have hlen : (U ++ [(j, x)]).length = U.length + 1 := by simp
    obtain ⟨o', U', e', L'', em⟩ := lay_fold hm l _ _ L' (by rw [hlen]; omega)
    refine ⟨o', U', ?_, L'', by rw [em]; simp⟩
    rw [List.foldl_cons]
    rw [hlen] at e'
    rw [← e']
    congr 1
    simp only [bind, Option.bind, e, pure]
theorem filt_srt {f : Nat → Option Nat} : ∀ n, (((List.range n).filterMap fun j => (f j).map (j, ·)).map (·.1)).Pairwise (· < ·) ∧ ∀ y ∈ ((List.range n).filterMap fun j => (f j).map (j, ·)).map (·.1), y < n
  | 0 => by simp
  | n + 1 => by
    obtain ⟨h1, h2⟩ := filt_srt (f := f) n
    rw [List.range_succ, List.filterMap_append, List.map_append]
    cases hf : f n with
    | none =>
      simp only [List.filterMap_cons, hf, Option.map_none, List.filterMap_nil, List.map_nil, List.append_nil]
      exact ⟨h1, fun y hy => by have := h2 y hy; omega⟩
    | some a =>
      simp only [List.filterMap_cons, hf, Option.map_some, List.filterMap_nil, List.map_cons, List.map_nil]
      refine ⟨List.pairwise_append.mpr ⟨h1, by simp, fun y hy z hz => ?_⟩, fun y hy => ?_⟩
      · simp at hz
        subst hz
        exact h2 y hy
      · rcases List.mem_append.mp hy with hy | hy
        · have := h2 y hy
          omega
        · simp at hy
          omega
theorem filt_mem {f : Nat → Option Nat} {n j a : Nat} : (j, a) ∈ ((List.range n).filterMap fun j => (f j).map (j, ·)) ↔ j < n ∧ f j = some a := by
  rw [List.mem_filterMap]
  constructor
  · rintro ⟨y, hy, e⟩
    obtain ⟨b, hb, e⟩ := Option.map_eq_some_iff.mp e
    cases e
    exact ⟨List.mem_range.mp hy, hb⟩
  · rintro ⟨h1, h2⟩
    exact ⟨j, List.mem_range.mpr h1, by rw [h2]; rfl⟩
theorem pick_eq (es : List (Int × α)) : ∀ (l : List (Nat × Nat)) (ha : ∀ q ∈ l, q.2 < es.length), l.filterMap ((fun x => es.toArray[x]?) ∘ fun x : Nat × Nat => x.2) = l.pmap (fun q h => es[q.2]'h) ha
  | [], _ => rfl
  | q :: r, ha => by
    have hq := ha q (.head _)
    have e : ((fun x => es.toArray[x]?) ∘ fun x : Nat × Nat => x.2) q = some (es[q.2]'hq) := by simp [hq]
    rw [List.filterMap_cons, List.pmap_cons, e]
    dsimp only
    rw [pick_eq es r fun z hz => ha z (.tail _ hz)]
/-- the whole laid anew: the same things -/
theorem laid_tab {m finger moves : Nat} {led plain : Bool} (hm : Mk m) (es : List (Int × α)) (hl : es.length ≤ m) :
    ∃ t' order T', laid m finger moves led plain (es.map (·.1)).toArray = some (t', order) ∧ Tab t' T' ∧ t'.mask = m ∧ (order.filterMap (es.toArray[·]?)).toList = T'.map (·.2) ∧ T'.length = es.length ∧ ∀ e, e ∈ T'.map (·.2) ↔ e ∈ es := by
  obtain ⟨owner, U, e1, L, em⟩ := lay_fold hm (es.map (·.1)) _ [] (Lay.nil m) (by simp; omega)
  have hUl : U.length = es.length := by
    have := congrArg List.length em
    simpa using this
  have eU : ∀ (a : Nat), (U[a]?).map (·.2) = (es[a]?).map (·.1) := fun a => by
    rw [← List.getElem?_map, ← List.getElem?_map, em]
    rfl
  let live := (List.range (m + 1)).filterMap fun j => (owner.getD j none).map (j, ·)
  have hmem : ∀ j a, (j, a) ∈ live ↔ ∃ h, U[a]? = some (j, h) := fun j a => by
    rw [show ((j, a) ∈ live) = ((j, a) ∈ ((List.range (m + 1)).filterMap fun j => (owner.getD j none).map (j, ·))) from rfl, filt_mem, Array.getD_eq_getD_getElem?]
    constructor
    · rintro ⟨h1, h2⟩
      by_cases hj : j ∈ U.map (·.1)
      · obtain ⟨⟨s, h⟩, he, rfl⟩ := List.mem_map.mp hj
        obtain ⟨b, hb, e⟩ := List.getElem_of_mem he
        have hb' : U[b]? = some (s, h) := by rw [List.getElem?_eq_getElem hb, e]
        have := L.at' b s h hb'
        dsimp only at h2
        rw [this] at h2
        have e3 : b = a := by simpa using h2
        subst e3
        exact ⟨h, hb'⟩
      · rw [L.emp j (by omega) hj] at h2
        cases h2
    · rintro ⟨h, e⟩
      have := L.le _ (List.mem_of_getElem? e)
      dsimp only at this
      exact ⟨by omega, by rw [L.at' a j h e]; rfl⟩
  have hsrt := (filt_srt (f := fun j => owner.getD j none) (m + 1)).1
  have ha : ∀ q ∈ live, q.2 < es.length := fun q hq => by
    obtain ⟨h, e⟩ := (hmem q.1 q.2).mp hq
    have := (List.getElem?_eq_some_iff.mp e).1
    omega
  have hnd : (live.map (·.1)).Nodup := hsrt.imp fun h => Nat.ne_of_lt h
  have hset : ∀ y, y ∈ live.map (·.1) ↔ y ∈ U.map (·.1) := fun y => by
    constructor
    · intro hy
      obtain ⟨⟨j, a⟩, hq, rfl⟩ := List.mem_map.mp hy
      obtain ⟨h, e⟩ := (hmem j a).mp hq
      exact List.mem_map.mpr ⟨_, List.mem_of_getElem? e, rfl⟩
    · intro hy
      obtain ⟨⟨s, h⟩, he, rfl⟩ := List.mem_map.mp hy
      obtain ⟨b, hb, e⟩ := List.getElem_of_mem he
      exact List.mem_map.mpr ⟨(s, b), (hmem s b).mpr ⟨h, by rw [List.getElem?_eq_getElem hb, e]⟩, rfl⟩
  have hlen : live.length = es.length := by
    have h1 := len_sub _ _ hnd fun y hy => (hset y).mp hy
    have h2 := len_sub _ _ L.nd fun y hy => (hset y).mpr hy
    rw [List.length_map, List.length_map] at h1 h2
    omega
  let T' : List (En α) := live.pmap (fun q h => (q.1, es[q.2]'h)) ha
  have hT1 : T'.map (·.1) = live.map (·.1) := by
    rw [show T' = live.pmap (fun q h => (q.1, es[q.2]'h)) ha from rfl, List.map_pmap]
    exact List.pmap_eq_map ..
  have hT2 : ∀ e ∈ T', ∃ a, U[a]? = some (e.1, e.2.1) ∧ es[a]? = some e.2 := fun e he => by
    obtain ⟨⟨j, a⟩, hq, rfl⟩ := List.mem_pmap.mp he
    obtain ⟨h, e⟩ := (hmem j a).mp hq
    have := eU a
    rw [e, List.getElem?_eq_getElem (ha _ hq)] at this
    have e2 : h = (es[a]'(ha _ hq)).1 := by simpa using this
    refine ⟨a, by rw [e, e2], List.getElem?_eq_getElem (ha _ hq)⟩
  refine ⟨{ mask := m, place := (live.map (·.1)).toArray, dummies := #[], finger := finger, led := led, moves := moves, plain := plain }, (live.map (·.2)).toArray, T', ?_, ⟨?_, rfl, hm, by rw [hT1]; exact hsrt, ?_, ?_, ?_⟩, rfl, ?_, ?_, ?_⟩
  · have el : layClean m (es.map (·.1)).toArray = some owner := by
      unfold layClean
      rw [← Array.foldl_toList]
      have := congrArg (Option.map (·.1)) e1
      exact this
    unfold laid
    rw [el]
    rfl
  · exact hT1.symm
  · intro e he
    obtain ⟨a, h1, _⟩ := hT2 e he
    exact L.le _ (List.mem_of_getElem? h1)
  · rw [show T'.length = live.length from List.length_pmap ..]
    change live.length ≤ m
    omega
  · intro e he
    obtain ⟨a, h1, _⟩ := hT2 e he
    refine (L.rch _ (List.mem_of_getElem? h1)).mono fun y hy => ?_
    rw [hT1]
    exact (hset y).mpr hy
  · rw [Array.toList_filterMap]
    change (live.map (·.2)).filterMap (es.toArray[·]?) = T'.map (·.2)
    rw [show T' = live.pmap (fun q h => (q.1, es[q.2]'h)) ha from rfl, List.map_pmap, List.filterMap_map]
    exact pick_eq es live ha
  · rw [show T'.length = live.length from List.length_pmap ..]
    exact hlen
  · intro e
    constructor
    · intro he
      obtain ⟨e', he', rfl⟩ := List.mem_map.mp he
      obtain ⟨a, _, h2⟩ := hT2 e' he'
      exact List.mem_of_getElem? h2
    · intro he
      obtain ⟨a, ha', e1⟩ := List.getElem_of_mem he
      have hb : a < U.length := by omega
      have hq : ((U[a]'hb).1, a) ∈ live := (hmem _ _).mpr ⟨(U[a]'hb).2, List.getElem?_eq_getElem hb⟩
      refine List.mem_map.mpr ⟨((U[a]'hb).1, es[a]), List.mem_pmap.mpr ⟨_, hq, rfl⟩, e1⟩
end L2.Tb
/-! set(list of tuples of ints), len of it. -/
namespace L2
open PySem PySem.Spec PyProof.Rows Tb
section
variable {prog : Program} {w : World} {A : Around} {E : Value → Shared → Prop} {s : Shared}
/-- at a lies the tuple of the ints ks -/
abbrev ITp (prog : Program) (w : World) (h : Heap) (ks : List Int) (a : Addr) : Prop := IsTupleKey (intKind prog w) h ks a
theorem ints_shape : ∀ {ks : List Int} {vs : List Value}, ItemsAre (intKind prog w) ks vs → ∀ v ∈ vs, ∃ n t, v = .int n t
  | _, _, .nil, v, hv => nomatch hv
  | _, _, .cons h t, v, hv => by
    rcases List.mem_cons.mp hv with rfl | hv
    · obtain ⟨t, e⟩ := Value.isInt_shape h
      exact ⟨_, t, e⟩
    · exact ints_shape t v hv
theorem wp_class {ks : List Int} {a : Addr} {Q : Bool → Shared → Prop} (hk : ITp prog w s.heap ks a) (h : Q false s) : wpAny (model prog w) A (ofAClassStatement 8 (.ref a)) Q E s := by
  have hT := hk.typeIs
  obtain ⟨o, items, n, ho, _, hd, hi⟩ := hk
  unfold ofAClassStatement
  refine wpAny_bind (wpAny_typeOf hT ?_)
  dsimp only
  rw [if_pos (by decide)]
  refine wpAny_bind (wpAny_pure ?_)
  simp only [Bool.not_true, Bool.false_eq_true, if_false]
  refine wpAny_bind (wpAny_seqItems ho hd ?_)
  dsimp only
  refine wpAny_bind ?_
  rw [← Array.forIn_toList]
  refine wpAny_forIn_list _ (fun rest r s' => r.1 = none ∧ s' = s ∧ ∀ v ∈ rest, ∃ n t, v = Value.int n t) _ ?_ ?_ _ _ ⟨rfl, rfl, ints_shape hi⟩
  · rintro v rest r s' ⟨hr, rfl, hall⟩
    obtain ⟨n, t, rfl⟩ := hall v (.head _)
    refine wpAny_bind (wpAny_pure ?_)
    simp only [Bool.false_eq_true, if_false]
    exact wpAny_pure ⟨rfl, rfl, fun u hu' => hall u (.tail _ hu')⟩
  · rintro ⟨r1, r2⟩ s' ⟨hr, rfl, _⟩
    simp only at hr
    subst hr
    exact wpAny_pure h
theorem wp_byval {ks : List Int} {a : Addr} {Q : Bool → Shared → Prop} (hk : ITp prog w s.heap ks a) (h : Q true s) : wpAny (model prog w) A (hashByValue 8 (.ref a)) Q E s := by
  have hT := hk.typeIs
  obtain ⟨o, items, n, ho, _, hd, hi⟩ := hk
  unfold hashByValue
  refine wpAny_bind (wpAny_specialOf hT F.slot_tuple_hash.lookup ?_)
  dsimp only
  refine wpAny_bind (wpAny_seqItems ho hd ?_)
  refine wpAny_bind ?_
  simp only [Option.getD_some]
  rw [← Array.forIn_toList]
  refine wpAny_forIn_list _ (fun rest r s' => r.1 = none ∧ s' = s ∧ ∀ v ∈ rest, ∃ n t, v = Value.int n t) _ ?_ ?_ _ _ ⟨rfl, rfl, ints_shape hi⟩
  · rintro v rest r s' ⟨hr, rfl, hall⟩
    obtain ⟨n, t, rfl⟩ := hall v (.head _)
    have e : hashByValue 7 (.int n t) = pure true := by unfold hashByValue; rfl
    rw [e]
    refine wpAny_bind (wpAny_pure ?_)
    simp only [Bool.not_true, Bool.false_eq_true, if_false]
    exact wpAny_pure ⟨rfl, rfl, fun u hu' => hall u (.tail _ hu')⟩
  · rintro ⟨r1, r2⟩ s' ⟨hr, rfl, _⟩
    simp only at hr
    subst hr
    exact wpAny_pure h
theorem wp_seen {ks : List Int} {a : Addr} {Q : Bool → Shared → Prop} (hk : ITp prog w s.heap ks a) (l : List Value) (hl : ∀ y ∈ l, ∃ ks' b, y = .ref b ∧ ITp prog w s.heap ks' b) (h : Q false s) : wpAny (model prog w) A (searchCouldBeSeen (.ref a) l) Q E s := by
  unfold searchCouldBeSeen
  refine wpAny_bind ?_
  refine wpAny_forIn_list _ (fun rest r s' => r.1 = none ∧ s' = s ∧ ∀ y ∈ rest, ∃ ks' b, y = .ref b ∧ ITp prog w s.heap ks' b) _ ?_ ?_ _ _ ⟨rfl, rfl, hl⟩
  · rintro v rest r s' ⟨hr, rfl, hall⟩
    obtain ⟨ks', b, rfl, hb⟩ := hall v (.head _)
    dsimp only
    by_cases e : (a == b || carriedByValue (.ref a) && carriedByValue (.ref b)) = true
    · rw [if_pos e]
      exact wpAny_pure ⟨rfl, rfl, fun u hu' => hall u (.tail _ hu')⟩
    · rw [if_neg e]
      refine wpAny_bind (wpAny_eqIsQuiet_tuple hk ?_)
      simp only [Bool.not_true, Bool.false_eq_true, if_false]
      refine wpAny_bind (wpAny_eqIsQuiet_tuple hb ?_)
      simp only [Bool.not_true, Bool.false_eq_true, if_false]
      refine wpAny_bind (wp_class hk ?_)
      simp only [Bool.false_eq_true, if_false]
      refine wpAny_bind (wp_class hb ?_)
      simp only [Bool.false_eq_true, if_false]
      exact wpAny_pure ⟨rfl, rfl, fun u hu' => hall u (.tail _ hu')⟩
  · rintro ⟨r1, r2⟩ s' ⟨hr, rfl, _⟩
    simp only at hr
    subst hr
    exact wpAny_pure h
/-- what lies in the set: place, hash, ints, address -/
abbrev Ts := List (En (List Int × Addr))
def esOf (T : Ts) : Array (Int × Value) := (T.map fun e => (e.2.1, Value.ref e.2.2.2)).toArray
structure Els (prog : Program) (w : World) (h : Heap) (T : Ts) : Prop where
  hash : ∀ e ∈ T, e.2.1 = tupleKeyHash (intKind prog w) e.2.2.1
  is : ∀ e ∈ T, ITp prog w h e.2.2.1 e.2.2.2
  nd : (T.map (·.2.2.1)).Nodup
theorem esOf_at {T : Ts} (i : Nat) : (esOf T)[i]? = (T[i]?).map fun e => (e.2.1, Value.ref e.2.2.2) := by
  unfold esOf
  rw [List.getElem?_toArray, List.getElem?_map]
theorem esOf_size {T : Ts} : (esOf T).size = T.length := by
  unfold esOf
  simp
theorem tab_fits {t : SetTable} {T : Ts} (h : Tab t T) : t.fits (esOf T).size = true := by
  have hp : t.place.size = T.length := by rw [← Array.length_toList, h.place, List.length_map]
  unfold SetTable.fits SetTable.fill
  rw [esOf_size, hp, h.dum]
  have := h.small
  simp
  exact this
theorem tab_way {t : SetTable} {T : Ts} (h : Tab t T) : t.gaveWay = false := by
  unfold SetTable.gaveWay
  rcases h.mask with e | e | e <;> rw [e] <;> rfl
/-- the search for ks from the place c of its way -/
theorem search_wp {a b : Addr} {o : Obj} {ep : Nat} {t : SetTable} {T : Ts} {ks : List Int} {ke : Nat} {Q : SetFound → Shared → Prop} (hu : A.units < cLine) (ho : s.heap.get? a = some o) (hd : o.data = .set (esOf T) ep t) (tab : Tab t T) (el : Els prog w s.heap T) (hk : ITp prog w s.heap ks b)
    (h1 : (pth t.mask (tupleKeyHash (intKind prog w) ks) ke).j ∉ T.map (·.1)) (h2 : ∀ k', k' < ke → (pth t.mask (tupleKeyHash (intKind prog w) ks) k').j ∈ T.map (·.1))
    (q1 : (∃ e ∈ T, e.2.2.1 = ks) → Q (.there none) s) (q2 : (∀ e ∈ T, e.2.2.1 ≠ ks) → Q (.free (pth t.mask (tupleKeyHash (intKind prog w) ks) ke).j false) s) :
    ∀ (f c : Nat) (st : Option Pr), ke - c < f → c ≤ ke → st.getD (t.probeStart (tupleKeyHash (intKind prog w) ks)) = pth t.mask (tupleKeyHash (intKind prog w) ks) c → (∀ e ∈ T, ∀ k', k' < c → (pth t.mask (tupleKeyHash (intKind prog w) ks) k').j = e.1 → e.2.2.1 ≠ ks) →
      wpAny (model prog w) A (setSearchFrom a (.ref b) (tupleKeyHash (intKind prog w) ks) true f st) Q E s := by
  have hfit := tab_fits tab
  generalize hx : tupleKeyHash (intKind prog w) ks = x at *
  have pa : ∀ c k, itr t.mask k (pth t.mask x c) = pth t.mask x (c + k) := fun c k => (itr_add t.mask c k _).symm
  intro f
  induction f with
  | zero => intro c st hf; exact absurd hf (by omega)
  | succ f ih =>
    intro c st hf hc hst inv
    unfold setSearchFrom
    refine wpAny_bind (wpAny_setState_of ho hd hfit ?_)
    dsimp only
    rw [tab_way tab]
    simp only [Bool.false_eq_true, if_false]
    rw [hst]
    obtain ⟨k, g1, g2⟩ := go_spec tab (hashAt := fun i => (((esOf T)[i]?).map (·.1)).getD 0) (fun i j e hi => by rw [esOf_at, hi]; rfl) x (10 * SetTable.turns t.mask) (pth t.mask x c) (pth_ok c).d (by
      obtain ⟨y, hy, hyf⟩ := free_ex (S := T.map (·.1)) (m := t.mask) (by rw [List.length_map]; exact tab.small)
      obtain ⟨k, hk', e⟩ := cover tab.mask (pth_ok (x := x) c) hy
      exact ⟨k, hk', by rw [e]; exact hyf⟩)
    have hle : c + k ≤ ke := Nat.le_of_not_lt fun hlt => by
      have := (g1 (ke - c) (by omega)).1
      rw [pa, show c + (ke - c) = ke by omega] at this
      exact h1 this
    rcases g2 with ⟨hf2, eg⟩ | ⟨i, e, hi, he, eg⟩
    · rw [pa] at hf2 eg
      have hke : c + k = ke := by
        by_cases z : c + k = ke
        · exact z
        · exact absurd (h2 (c + k) (by omega)) hf2
      have eg' : t.probe (fun i => (((esOf T)[i]?).map (·.1)).getD 0) x (pth t.mask x c) = some (.empty (pth t.mask x (c + k)).j none) := eg
      change wpAny _ _ (match t.probe (fun i => (((esOf T)[i]?).map (·.1)).getD 0) x (pth t.mask x c) with | some met => _ | _ => _) Q E s
      rw [eg']
      dsimp only
      rw [hke]
      refine wpAny_pure (q2 fun e he hks => ?_)
      obtain ⟨k0, hk0, e0⟩ := tab.ahead h1 he (by rw [el.hash e he, hks, hx])
      by_cases hc0 : k0 < c
      · exact inv e he k0 hc0 e0 hks
      · obtain ⟨i, hi, rfl⟩ := List.getElem_of_mem he
        refine (g1 (k0 - c) (by omega)).2 i (T[i]).2 ?_ (by rw [el.hash _ he, hks, hx])
        rw [pa, show c + (k0 - c) = k0 by omega, e0, List.getElem?_eq_getElem hi]
    · rw [pa] at hi eg
      rw [pa] at eg
      have he' : ((pth t.mask x (c + k)).j, e) ∈ T := List.mem_of_getElem? hi
      have hin : (pth t.mask x (c + k)).j ∈ T.map (·.1) := List.mem_map.mpr ⟨_, he', rfl⟩
      have hlt : c + k < ke := by
        by_cases z : c + k = ke
        · rw [z] at hin
          exact absurd hin h1
        · omega
      have eg' : t.probe (fun i => (((esOf T)[i]?).map (·.1)).getD 0) x (pth t.mask x c) = some (.candidate (pth t.mask x (c + k)).j i (pth t.mask x (c + (k + 1)))) := eg
      change wpAny _ _ (match t.probe (fun i => (((esOf T)[i]?).map (·.1)).getD 0) x (pth t.mask x c) with | some met => _ | _ => _) Q E s
      rw [eg']
      dsimp only
      have hey : (esOf T)[i]? = some (e.1, Value.ref e.2.2) := by rw [esOf_at, hi]; rfl
      have iy := el.is _ he'
      dsimp only at iy
      have rest : wpAny (model prog w) A (do
          let some (_, y) := (esOf T)[i]? | unsupported "internal:set-entry"
          let equal ← holding [y] (eqBool y (.ref b))
          let (es', _, t') ← setState a
          if true && equal then return .there none
          let some same := t'.sameMemory t.moves t.mask | unsupported "set.changed-during-lookup:is-the-new-block-at-the-old-address"
          let still ← match (if same then t'.slot (pth t.mask x (c + k)).j else .empty) with
            | .live i' => match es'[i']? with
              | some (_, y') => do pure (if ← isSame y' y then some i' else none)
              | none => pure none
            | _ => pure none
          match still with
          | none => rule "set.search.anew"; setSearchFrom a (.ref b) x true f none
          | some i' => if equal then return .there (some i') else setSearchFrom a (.ref b) x true f (some (pth t.mask x (c + (k + 1))))) Q E s := by
        rw [hey]
        dsimp only
        refine wpAny_bind (wpAny_holding (wpAny_eqBool_tuple hu iy hk ?_))
        refine wpAny_bind (wpAny_setState_of ho hd hfit ?_)
        dsimp only
        by_cases hks : e.2.1 = ks
        · rw [decide_eq_true hks]
          simp only [Bool.and_self, if_true]
          exact wpAny_pure (q1 ⟨_, he', hks⟩)
        · rw [decide_eq_false hks]
          simp only [Bool.and_false, Bool.false_eq_true, if_false]
          have em : t.sameMemory t.moves t.mask = some true := by unfold SetTable.sameMemory; simp
          rw [em]
          dsimp only
          simp only [if_true]
          rw [tab.live hi]
          dsimp only
          rw [hey]
          dsimp only
          refine wpAny_bind (wpAny_isSame_ref_self ?_)
          simp only [if_true]
          refine wpAny_bind (wpAny_pure ?_)
          dsimp only
          refine ih (c + (k + 1)) _ (by omega) (by omega) rfl fun e2 he2 k' hk' ej => ?_
          by_cases c1 : k' < c
          · exact inv e2 he2 k' c1 ej
          · by_cases c2 : k' = c + k
            · subst c2
              obtain ⟨i2, hi2, rfl⟩ := List.getElem_of_mem he2
              have l1 := tab.live hi
              have l2 := tab.live (i := i2) (j := (T[i2]).1) (e := (T[i2]).2) (List.getElem?_eq_getElem hi2)
              rw [← ej, l1] at l2
              cases l2
              rw [List.getElem?_eq_getElem hi2] at hi
              rw [Option.some.inj hi]
              exact hks
            · obtain ⟨i2, hi2, rfl⟩ := List.getElem_of_mem he2
              intro z
              refine (g1 (k' - c) (by omega)).2 i2 (T[i2]).2 ?_ (by rw [el.hash _ he2, z, hx])
              rw [pa, show c + (k' - c) = k' by omega, ej, List.getElem?_eq_getElem hi2]
      by_cases hled : t.led = true
      · rw [hled]
        simp only [Bool.not_true, Bool.false_eq_true, if_false]
        exact rest
      · have hled' : t.led = false := by simpa using hled
        rw [hled']
        simp only [Bool.not_false, if_true]
        refine wpAny_bind (wp_seen hk _ (fun y hy => ?_) ?_)
        · obtain ⟨q, hq, rfl⟩ := List.mem_map.mp hy
          have hq' : q ∈ (esOf T).toList := by
            rw [Array.mem_toList_iff] at hq
            exact Array.mem_toList_iff.mpr (Array.mem_filter.mp hq).1
          obtain ⟨e2, he2, rfl⟩ := List.mem_map.mp (show q ∈ T.map (fun e => (e.2.1, Value.ref e.2.2.2)) from hq')
          exact ⟨_, _, rfl, el.is e2 he2⟩
        · simp only [Bool.false_eq_true, if_false]
          exact rest
end
section
open Classical
theorem len_subB {β : Type} : ∀ (l S : List β), l.Nodup → (∀ x ∈ l, x ∈ S) → l.length ≤ S.length
  | [], _, _, _ => Nat.zero_le _
  | x :: l, S, hn, hs => by
    rw [List.nodup_cons] at hn
    have hx := hs x (.head _)
    have := len_subB l (S.erase x) hn.2 fun y hy => (List.mem_erase_of_ne (fun e => hn.1 (by rw [← e]; exact hy))).mpr (hs y (.tail _ hy))
    rw [List.length_erase_of_mem hx] at this
    have hp : 0 < S.length := List.length_pos_of_mem hx
    rw [List.length_cons]
    omega
theorem nodup_of {β : Type} : ∀ (r l : List β), l.Nodup → (∀ x ∈ l, x ∈ r) → r.length ≤ l.length → r.Nodup
  | [], _, _, _, _ => List.nodup_nil
  | x :: r, l, hn, hs, hl => by
    rw [List.length_cons] at hl
    by_cases hx : x ∈ r
    · exfalso
      have := len_subB l r hn fun y hy => by
        rcases List.mem_cons.mp (hs y hy) with rfl | h
        · exact hx
        · exact h
      omega
    · rw [List.nodup_cons]
      refine ⟨hx, nodup_of r (l.erase x) (hn.erase x) (fun y hy => ?_) ?_⟩
      · have := (List.Nodup.mem_erase_iff hn).mp hy
        rcases List.mem_cons.mp (hs y this.2) with e | h
        · exact absurd e this.1
        · exact h
      · by_cases hxl : x ∈ l
        · rw [List.length_erase_of_mem hxl]
          omega
        · rw [List.erase_of_not_mem hxl]
          omega
end
section
variable {prog : Program} {w : World} {A : Around} {E : Value → Shared → Prop} {s : Shared}
/-- at a lies the set of the tuples kl -/
def SetT (prog : Program) (w : World) (h : Heap) (a : Addr) (kl : List (List Int)) : Prop :=
  ∃ o ep t T, h.get? a = some o ∧ o.ExactSet ∧ o.data = .set (esOf T) ep t ∧ Tab t T ∧ T.length * 5 < t.mask * 3 ∧ Els prog w h T ∧ (∀ k, k ∈ T.map (·.2.2.1) ↔ k ∈ kl) ∧ T.length = kl.length
def ddk (kl : List (List Int)) (k : List Int) : List (List Int) := if k ∈ kl then kl else kl ++ [k]
theorem ITp.other {h h' : Heap} {ks : List Int} {a b : Addr} {o : Obj} {es : Array (Int × Value)} {ep : Nat} {t : SetTable} (k : ITp prog w h ks b) (ho : h.get? a = some o) (hd : o.data = .set es ep t) (sb : Heap.SameBut a h h') : ITp prog w h' ks b := by
  obtain ⟨o', items, n, ho', hc, hd', hi⟩ := k
  have ne : b ≠ a := by
    rintro rfl
    rw [ho] at ho'
    cases ho'
    rw [hd] at hd'
    cases hd'
  exact ⟨o', items, n, (sb.2 b ne).trans ho', hc, hd', hi⟩
theorem Els.other {h h' : Heap} {T : Ts} {a : Addr} {o : Obj} {es : Array (Int × Value)} {ep : Nat} {t : SetTable} (el : Els prog w h T) (ho : h.get? a = some o) (hd : o.data = .set es ep t) (sb : Heap.SameBut a h h') : Els prog w h' T :=
  ⟨el.hash, fun e he => (el.is e he).other ho hd sb, el.nd⟩
theorem put_at {h : Heap} {a : Addr} {o : Obj} {es : Array (Int × Value)} {ep : Nat} {t : SetTable} (ho : h.get? a = some o) (hd : o.data = .set es ep t) (es' : Array (Int × Value)) (t' : SetTable) :
    (h.update a (Obj.putSet es' t')).get? a = some { o with data := .set es' (ep + 1) t' } := by
  have := Heap.get?_update_self (Obj.putSet es' t') ho (by rw [putSet_of es' t' hd]; rfl)
  rw [putSet_of es' t' hd] at this
  exact this
theorem esOf_insert {T : Ts} {p : Nat} (hp : p ≤ T.length) (e : En (List Int × Addr)) : SetTable.insertAt (esOf T) p (e.2.1, Value.ref e.2.2.2) = esOf (T.take p ++ e :: T.drop p) := by
  apply Array.ext'
  rw [insertAt_list _ (by rw [esOf_size]; exact hp)]
  unfold esOf
  simp [List.map_take, List.map_drop]
theorem relay_wp {a : Addr} {o : Obj} {ep m wanted : Nat} {t : SetTable} {T : Ts} {Q : Unit → Shared → Prop} (ho : s.heap.get? a = some o) (hd : o.data = .set (esOf T) ep t) (hfit : t.fits (esOf T).size = true) (hm : Tb.Mk m) (hw : SetTable.sizeAbove wanted = m + 1) (hl : T.length ≤ m)
    (q : ∀ t' T', Tab t' T' → t'.mask = m → T'.length = T.length → (∀ e, e ∈ T'.map (·.2) ↔ e ∈ T.map (·.2)) → Q () { s with heap := s.heap.update a (Obj.putSet (esOf T') t') }) : wpAny (model prog w) A (setRelay a wanted) Q E s := by
  obtain ⟨t', order, T', e1, tab, em, eo, el, hmem⟩ := laid_tab (finger := t.finger) (moves := t.movedTo m) (led := t.led) (plain := t.plain) hm (T.map (·.2)) (by rw [List.length_map]; exact hl)
  have hes : (esOf T).map (·.1) = ((T.map (·.2)).map (·.1)).toArray := by
    apply Array.ext'
    unfold esOf
    simp
  have hrel : t.relaid ((esOf T).map (·.1)) wanted = some (t', order) := by
    unfold SetTable.relaid
    rw [hw, hes]
    exact e1
  have hes' : order.filterMap ((esOf T)[·]?) = esOf T' := by
    apply Array.ext'
    rw [Array.toList_filterMap]
    have e2 : (fun x : Nat => (esOf T)[x]?) = fun x : Nat => ((T.map (·.2)).toArray[x]?).map fun q : Int × List Int × Addr => (q.1, Value.ref q.2.2) := by
      funext x
      rw [esOf_at, List.getElem?_toArray, List.getElem?_map, Option.map_map]
      rfl
    rw [e2, ← List.map_filterMap, ← Array.toList_filterMap, eo, List.map_map]
    rfl
  have hsz : (esOf T').size = (esOf T).size := by
    rw [esOf_size, esOf_size, el, List.length_map]
  unfold setRelay
  refine wpAny_bind (wpAny_setState_of ho hd hfit ?_)
  dsimp only
  rw [hw, hrel, if_neg (by rw [sizeLine_eq]; rcases hm with e | e | e <;> rw [e] <;> decide)]
  change wpAny _ _ ((if (order.filterMap ((esOf T)[·]?)).size != (esOf T).size then _ else pure (order.filterMap ((esOf T)[·]?), t')) >>= _) Q E s
  rw [hes', hsz]
  simp only [bne_self_eq_false, Bool.false_eq_true, if_false]
  refine wpAny_bind (wpAny_pure ?_)
  dsimp only
  refine wpAny_storeSet_of ho hd (q t' T' tab em (by rw [el, List.length_map]) hmem) ?_
  rw [esOf_size, el, List.length_map, sizeLine_eq]
  rcases hm with e | e | e <;> omega
theorem add_wp {a b : Addr} {kl : List (List Int)} {ks : List Int} {Q : Bool → Shared → Prop} (hu : A.units < cLine) (S : SetT prog w s.heap a kl) (hk : ITp prog w s.heap ks b) (hl : kl.length ≤ 60)
    (hQ : ∀ r h', Heap.SameBut a s.heap h' → SetT prog w h' a (ddk kl ks) → Q r { s with heap := h' }) : wpAny (model prog w) A (setAddHashed a (.ref b) (tupleKeyHash (intKind prog w) ks)) Q E s := by
  obtain ⟨o, ep, t, T, ho, hex, hd, tab, hroom, el, hmem, hlen⟩ := id S
  have hfit := tab_fits tab
  obtain ⟨ke, hke, h1, h2⟩ := tab.first (tupleKeyHash (intKind prog w) ks)
  have hT : (∃ e ∈ T, e.2.2.1 = ks) ↔ ks ∈ kl := by
    rw [← hmem ks, List.mem_map]
  have hmk : t.mask ≤ 127 := by rcases tab.mask with e | e | e <;> omega
  unfold setAddHashed setAddHashedIn
  refine wpAny_holding (wpAny_bind (wpAny_setState_of ho hd hfit ?_))
  dsimp only
  have hbs : byScan (.ref b) (esOf T) = false := rfl
  rw [hbs]
  simp only [Bool.false_eq_true, if_false]
  refine wpAny_bind ?_
  unfold setSearch
  refine search_wp hu ho hd tab el hk h1 h2 (fun hin => ?_) (fun hno => ?_) 100000 0 none (by unfold SetTable.turns at hke; omega) (Nat.zero_le _) rfl (fun e he k' hk' => absurd hk' (by omega))
  · dsimp only
    refine wpAny_pure ?_
    have e : s = { s with heap := s.heap } := by cases s; rfl
    rw [e]
    refine hQ _ _ (Heap.SameBut.refl a s.heap) ?_
    unfold ddk
    rw [if_pos (hT.mp hin)]
    exact S
  · dsimp only
    have hnk : ks ∉ kl := fun z => by
      obtain ⟨e, he, ek⟩ := hT.mpr z
      exact hno e he ek
    refine wpAny_bind (wpAny_setState_of ho hd hfit ?_)
    dsimp only
    have hjm : (pth t.mask (tupleKeyHash (intKind prog w) ks) ke).j ≤ t.mask := by
      have := (pth_ok (m := t.mask) (x := tupleKeyHash (intKind prog w) ks) ke).jm
      omega
    obtain ⟨p1, tab1, em, ef⟩ := tab.put (v := (ks, b)) h1 hjm ⟨ke, rfl, h2⟩ (by rcases tab.mask with e | e | e <;> omega)
    generalize hj : (pth t.mask (tupleKeyHash (intKind prog w) ks) ke).j = j at *
    generalize ht1 : (t.put j).1 = t1 at *
    generalize hp1 : (t.put j).2 = p at *
    have hmem1 : ∀ e, e ∈ T.take p ++ (j, tupleKeyHash (intKind prog w) ks, ks, b) :: T.drop p ↔ e = (j, tupleKeyHash (intKind prog w) ks, ks, b) ∨ e ∈ T := fun e => by
      rw [List.mem_append, List.mem_cons]
      constructor
      · rintro (q | q | q)
        · exact .inr (List.mem_of_mem_take q)
        · exact .inl q
        · exact .inr (List.mem_of_mem_drop q)
      · rintro (q | q)
        · exact .inr (.inl q)
        · have : e ∈ T.take p ++ T.drop p := by rw [List.take_append_drop]; exact q
          rcases List.mem_append.mp this with z | z
          · exact .inl z
          · exact .inr (.inr z)
    have hlen1 : (T.take p ++ (j, tupleKeyHash (intKind prog w) ks, ks, b) :: T.drop p).length = T.length + 1 := by
      rw [List.length_append, List.length_cons, List.length_take, List.length_drop]
      omega
    have el1 : Els prog w s.heap (T.take p ++ (j, tupleKeyHash (intKind prog w) ks, ks, b) :: T.drop p) := by
      refine ⟨fun e he => ?_, fun e he => ?_, ?_⟩
      · rcases (hmem1 e).mp he with rfl | he
        · rfl
        · exact el.hash e he
      · rcases (hmem1 e).mp he with rfl | he
        · exact hk
        · exact el.is e he
      · refine nodup_of _ (ks :: T.map (·.2.2.1)) (List.nodup_cons.mpr ⟨fun z => ?_, el.nd⟩) (fun k hk' => ?_) ?_
        · obtain ⟨e, he, ek⟩ := List.mem_map.mp z
          exact hno e he ek
        · rcases List.mem_cons.mp hk' with rfl | hk'
          · exact List.mem_map.mpr ⟨_, (hmem1 _).mpr (.inl rfl), rfl⟩
          · obtain ⟨e, he, rfl⟩ := List.mem_map.mp hk'
            exact List.mem_map.mpr ⟨e, (hmem1 e).mpr (.inr he), rfl⟩
        · rw [List.length_map, hlen1, List.length_cons, List.length_map]
          omega
    have hkm : ∀ k, k ∈ (T.take p ++ (j, tupleKeyHash (intKind prog w) ks, ks, b) :: T.drop p).map (·.2.2.1) ↔ k ∈ ddk kl ks := fun k => by
      unfold ddk
      rw [if_neg hnk, List.mem_append, List.mem_singleton, ← hmem k, List.mem_map, List.mem_map]
      constructor
      · rintro ⟨e, he, rfl⟩
        rcases (hmem1 e).mp he with rfl | he
        · exact .inr rfl
        · exact .inl ⟨e, he, rfl⟩
      · rintro (⟨e, he, rfl⟩ | rfl)
        · exact ⟨e, (hmem1 e).mpr (.inr he), rfl⟩
        · exact ⟨_, (hmem1 _).mpr (.inl rfl), rfl⟩
    have hdl : (ddk kl ks).length = T.length + 1 := by
      unfold ddk
      rw [if_neg hnk, List.length_append, hlen]
      rfl
    have hins := esOf_insert p1 (j, tupleKeyHash (intKind prog w) ks, ks, b)
    dsimp only at hins
    generalize hT1 : T.take p ++ (j, tupleKeyHash (intKind prog w) ks, ks, b) :: T.drop p = T1 at *
    have hes : (esOf T).size + 1 = T1.length := by rw [esOf_size, hlen1]
    -- what follows, whatever the mark of the table
    have tail : ∀ t2 : SetTable, t2.mask = t.mask → t2.place = t1.place → t2.dummies = t1.dummies → wpAny (model prog w) A (do
        storeSet a (SetTable.insertAt (esOf T) p (tupleKeyHash (intKind prog w) ks, Value.ref b)) t2
        if !false && t2.tooFull then setRelay a (SetTable.grown ((esOf T).size + 1))
        return true) Q E s := fun t2 m2 pl2 du2 => by
      have tab2 : Tab t2 T1 := tab1.congr (m2.trans em.symm) pl2 du2
      have ef2 : t2.fill = T.length + 1 := by
        rw [← ef]
        unfold SetTable.fill
        rw [pl2, du2]
      rw [hins]
      have hsz : (esOf T1).size ≤ sizeLine := by rw [esOf_size, sizeLine_eq]; omega
      refine wpAny_bind (wpAny_storeSet_of ho hd ?_ hsz)
      have ho2 := put_at ho hd (esOf T1) t2
      have sb := Heap.SameBut.update s.heap a (Obj.putSet (esOf T1) t2)
      have el2 := el1.other ho hd sb
      by_cases hfull : t2.tooFull = true
      · rw [hfull]
        simp only [Bool.not_false, Bool.and_self, if_true]
        have hf5 : t.mask * 3 ≤ (T.length + 1) * 5 := by
          unfold SetTable.tooFull at hfull
          rw [ef2, m2] at hfull
          simpa using hfull
        have hcase : (t.mask = 7 ∧ T.length = 4) ∨ (t.mask = 31 ∧ T.length = 18) := by
          rcases tab.mask with e | e | e
          · rw [e] at hf5 hroom
            exact .inl ⟨e, by omega⟩
          · rw [e] at hf5 hroom
            exact .inr ⟨e, by omega⟩
          · rw [e] at hf5 hroom
            omega
        have go : ∀ m, Tb.Mk m → SetTable.sizeAbove (SetTable.grown ((esOf T).size + 1)) = m + 1 → T1.length ≤ m → T1.length * 5 < m * 3 → wpAny (model prog w) A (setRelay a (SetTable.grown ((esOf T).size + 1)) >>= fun _ => pure true) Q E { s with heap := s.heap.update a (Obj.putSet (esOf T1) t2) } := fun m hm hw hlm hrm => by
          refine wpAny_bind (relay_wp (s := { s with heap := s.heap.update a (Obj.putSet (esOf T1) t2) }) ho2 rfl (tab_fits tab2) hm hw hlm fun t' T' tab' em' el' hmem' => ?_)
          refine wpAny_pure ?_
          have sb' := Heap.SameBut.update (s.heap.update a (Obj.putSet (esOf T1) t2)) a (Obj.putSet (esOf T') t')
          have ho3 := put_at ho2 rfl (esOf T') t'
          have back : ∀ e ∈ T', ∃ e0 ∈ T1, e0.2 = e.2 := fun e he => by
            obtain ⟨e0, h0, e0e⟩ := List.mem_map.mp ((hmem' e.2).mp (List.mem_map.mpr ⟨e, he, rfl⟩))
            exact ⟨e0, h0, e0e⟩
          have el3 : Els prog w (s.heap.update a (Obj.putSet (esOf T1) t2)) T' := by
            refine ⟨fun e he => ?_, fun e he => ?_, ?_⟩
            · obtain ⟨e0, h0, e0e⟩ := back e he
              rw [← e0e]
              exact el2.hash e0 h0
            · obtain ⟨e0, h0, e0e⟩ := back e he
              rw [← e0e]
              exact el2.is e0 h0
            · refine nodup_of _ (T1.map (·.2.2.1)) el2.nd (fun k hk' => ?_) (by rw [List.length_map, List.length_map, el']; exact Nat.le_refl _)
              obtain ⟨e0, h0, rfl⟩ := List.mem_map.mp hk'
              obtain ⟨e, he, ee⟩ := List.mem_map.mp ((hmem' e0.2).mpr (List.mem_map.mpr ⟨e0, h0, rfl⟩))
              exact List.mem_map.mpr ⟨e, he, by rw [ee]⟩
          refine hQ true _ (sb.trans sb') ⟨_, _, t', T', ho3, hex, rfl, tab', by rw [em', el']; exact hrm, el3.other ho2 rfl sb', fun k => ?_, by rw [el', hlen1, hdl]⟩
          rw [← hkm k, List.mem_map, List.mem_map]
          constructor
          · rintro ⟨e, he, rfl⟩
            obtain ⟨e0, h0, e0e⟩ := back e he
            exact ⟨e0, h0, by rw [e0e]⟩
          · rintro ⟨e0, h0, rfl⟩
            obtain ⟨e, he, ee⟩ := List.mem_map.mp ((hmem' e0.2).mpr (List.mem_map.mpr ⟨e0, h0, rfl⟩))
            exact ⟨e, he, by rw [ee]⟩
        rcases hcase with ⟨e1, e2⟩ | ⟨e1, e2⟩
        · exact go 31 (.inr (.inl rfl)) (by rw [hes, hlen1, e2]; rfl) (by omega) (by omega)
        · exact go 127 (.inr (.inr rfl)) (by rw [hes, hlen1, e2]; rfl) (by omega) (by omega)
      · have hfull' : t2.tooFull = false := by simpa using hfull
        rw [hfull']
        simp only [Bool.and_false, Bool.false_eq_true, if_false]
        refine wpAny_bind (wpAny_pure (wpAny_pure ?_))
        have hf5 : (T.length + 1) * 5 < t.mask * 3 := by
          unfold SetTable.tooFull at hfull'
          rw [ef2, m2] at hfull'
          simpa using hfull'
        exact hQ true _ sb ⟨_, _, t2, T1, ho2, hex, rfl, tab2, by rw [m2, hlen1]; exact hf5, el2, hkm, by rw [hlen1, hdl]⟩
    by_cases hpl : t1.plain = true
    · rw [hpl]
      simp only [if_true]
      refine wpAny_bind (wp_byval hk ?_)
      simp only [if_true]
      exact tail t1 em rfl rfl
    · have hpl' : t1.plain = false := by simpa using hpl
      rw [hpl']
      simp only [Bool.false_eq_true, if_false]
      refine wpAny_bind (wpAny_pure ?_)
      simp only [if_true]
      exact tail t1 em rfl rfl
end
end L2
/-! set(list of tuples of ints): the loop, the call, the rules. -/
namespace L2
open PySem PySem.Spec PyProof.Rows Tb
section
variable {prog : Program} {w : World} {A : Around} {E : Value → Shared → Prop} {s : Shared}
theorem ITp.at' {h h' : Heap} {ks : List Int} {b : Addr} (k : ITp prog w h ks b) (e : ∀ o, h.get? b = some o → h'.get? b = some o) : ITp prog w h' ks b := by
  obtain ⟨o', items, n, ho', r⟩ := k
  exact ⟨o', items, n, e o' ho', r⟩
theorem ITp.ne {h : Heap} {ks : List Int} {b a : Addr} {o : Obj} {vs : Array Value} (k : ITp prog w h ks b) (ho : h.get? a = some o) (hd : o.data = .fields vs) : b ≠ a := by
  rintro rfl
  obtain ⟨o', items, n, ho', _, hd', _⟩ := k
  rw [ho] at ho'
  cases ho'
  rw [hd] at hd'
  cases hd'
theorem SetT.at' {h h' : Heap} {a : Addr} {kl : List (List Int)} (S : SetT prog w h a kl) (e : ∀ b o, (b = a ∨ ∃ ks, ITp prog w h ks b) → h.get? b = some o → h'.get? b = some o) : SetT prog w h' a kl := by
  obtain ⟨o, ep, t, T, ho, hex, hd, tab, hroom, el, r⟩ := S
  exact ⟨o, ep, t, T, e a o (.inl rfl) ho, hex, hd, tab, hroom, ⟨el.hash, fun q hq => (el.is q hq).at' fun o' => e _ o' (.inr ⟨_, el.is q hq⟩), el.nd⟩, r⟩
theorem upd_loop {R : Result → Shared → Prop} {S I l : Addr} {items : Array Value} {keys : List (List Int)} (hh : A.in1.handled = none) (hu : A.in1.units < cLine) (hlI : l ≠ I) (hSI : S ≠ I) (hSl : S ≠ l) :
    ∀ (r j : Nat) (s : Shared) (kl : List (List Int)), items.size - j = r → j ≤ items.size → s.heap.IsListIter I l j → s.heap.IsList l items → SetT prog w s.heap S kl →
      (∀ i, j ≤ i → ∀ v, items[i]? = some v → ∃ b, v = .ref b ∧ ITp prog w s.heap (keys.getD i []) b) → kl.length + (items.size - j) ≤ 60 → keys.length = items.size →
      (∀ h' tk, (∀ b o, b ≠ S → b ≠ I → s.heap.get? b = some o → h'.get? b = some o) → SetT prog w h' S ((keys.drop j).foldl ddk kl) → R (.ok (.ret .none)) { s with heap := h', toks := tk }) →
      codeAny (model prog w) A (.builtin "set.update.loop" ⟨[.ref S, .ref I], []⟩) R s := by
  have W := Walks.list (prog := prog) (w := w) (A := A.in1) hh I l hlI items
  intro r
  induction r with
  | zero =>
    intro j s kl e1 hj hi hl hS hk hn hkl hR
    have ej : j = items.size := by omega
    refine codeAny_builtin PyProof.Rows.F.entry_set_update_loop ?_
    rw [Around.under_plainId PyProof.Rows.F.plain_set_update_loop _]
    change wpAny _ A.in1 (pyNext (.ref I) >>= _) _ _ s
    refine wpAny_bind (W.done _ _ _ ⟨by rw [← ej]; exact hi, hl⟩ fun h' tk' hk' => ?_)
    change wpAny _ A.in1 (ret Value.none) _ _ _
    refine wpAny_pure (hR h' tk' (fun b o _ hb e => hk' b o (by simpa using hb) e) ?_)
    rw [List.drop_of_length_le (by omega)]
    refine hS.at' fun b o hb e => hk' b o ?_ e
    rcases hb with rfl | ⟨ks, hb⟩
    · simpa using hSI
    · obtain ⟨oi, goi, _, doi⟩ := hi
      simpa using hb.ne goi doi
  | succ r ih =>
    intro j s kl e1 hj hi hl hS hk hn hkl hR
    have hlt : j < items.size := by omega
    refine codeAny_builtin PyProof.Rows.F.entry_set_update_loop ?_
    rw [Around.under_plainId PyProof.Rows.F.plain_set_update_loop _]
    change wpAny _ A.in1 (pyNext (.ref I) >>= _) _ _ s
    refine wpAny_bind (W.item j _ _ _ hlt ⟨hi, hl⟩ fun v h' tk' hP hst' hk' => ?_)
    obtain ⟨b, rfl, hb⟩ := hk j (Nat.le_refl _) v hP
    obtain ⟨oi, goi, _, doi⟩ := hi
    have keepI : ∀ c o, (c = S ∨ ∃ ks, ITp prog w s.heap ks c) → s.heap.get? c = some o → h'.get? c = some o := fun c o hc e => hk' c o (by
      rcases hc with rfl | ⟨ks, hc⟩
      · simpa using hSI
      · simpa using hc.ne goi doi) e
    have hS' := hS.at' keepI
    have hb' : ITp prog w h' (keys.getD j []) b := hb.at' fun o => keepI b o (.inr ⟨_, hb⟩)
    change wpAny _ A.in1 (holding [Value.ref b] (setAdd S (.ref b)) >>= _) _ _ _
    refine wpAny_bind (wpAny_holding ?_)
    unfold setAdd
    refine wpAny_holding ?_
    refine wpAny_bind (wpAny_pyHash_tuple hu (s := { s with heap := h', toks := tk' }) hb' ?_)
    refine add_wp (s := { s with heap := h', toks := tk' + ((keys.getD j []).length + 1) }) hu hS' hb' (by omega) fun rr h2 sb hS2 => ?_
    have hklen : (ddk kl (keys.getD j [])).length ≤ kl.length + 1 := by
      unfold ddk
      split
      · omega
      · rw [List.length_append]; simp
    have hIobj := hst'.1
    obtain ⟨oi', goi', coi', doi'⟩ := id hIobj
    refine wpAny_pure ⟨plainId_quiet PyProof.Rows.F.plain_set_update_loop _, ih (j + 1) _ (ddk kl (keys.getD j [])) (by omega) hlt ⟨oi', (sb.2 I (Ne.symm hSI)).trans goi', coi', doi'⟩ (hst'.2.at fun o e => (sb.2 l (Ne.symm hSl)).trans e) hS2 (fun i hji v hv => ?_) (by omega) hkl fun h3 tk3 hk3 hS3 => ?_⟩
    · obtain ⟨b2, rfl, hb2⟩ := hk i (by omega) v hv
      refine ⟨b2, rfl, ?_⟩
      have h2' : ITp prog w h' (keys.getD i []) b2 := hb2.at' fun o => keepI b2 o (.inr ⟨_, hb2⟩)
      obtain ⟨oS, epS, tS, TS', goS, _, dS, _⟩ := hS'
      exact h2'.other goS dS sb
    · refine hR h3 tk3 (fun c o c1 c2 e => hk3 c o c1 c2 ((sb.2 c c1).trans (hk' c o (by simpa using c2) e))) ?_
      have ed : keys.drop j = keys.getD j [] :: keys.drop (j + 1) := by
        rw [List.drop_eq_getElem_cons (by omega)]
        congr 1
        rw [List.getD_eq_getElem?_getD, List.getElem?_eq_getElem (by omega)]
        rfl
      rw [ed, List.foldl_cons]
      exact hS3
theorem fresh_set (h : Heap) (a : Addr) (led : Bool) (hg : h.get? a = some { cls := .type "set", dict := none, data := .set #[] 0 (.fresh 0 0 led) }) : SetT prog w h a [] :=
  ⟨_, 0, .fresh 0 0 led, [], hg, ⟨rfl, rfl, rfl⟩, rfl, ⟨rfl, rfl, .inl rfl, List.Pairwise.nil, (fun e z => nomatch z), (Nat.zero_le _), (fun e z => nomatch z)⟩, (show 0 * 5 < 7 * 3 by decide), ⟨(fun e z => nomatch z), (fun e z => nomatch z), List.nodup_nil⟩, (fun k => Iff.rfl), rfl⟩
set_option maxHeartbeats 4000000 in
theorem call_setTL {l : Addr} {items : Array Value} {keys : List (List Int)} {Q : Value → Shared → Prop} (hh : A.handled = none) (hu : A.units + 20 < cLine) (hl : s.heap.IsList l items) (hk : ∀ (i : Nat) v, items[i]? = some v → ∃ b, v = .ref b ∧ ITp prog w s.heap (keys.getD i []) b) (hn : items.size ≤ 60) (hkl : keys.length = items.size)
    (h : ∀ h' tk, SetT prog w h' s.heap.objs.size (keys.foldl ddk []) → (∀ b o, b < s.heap.objs.size → s.heap.get? b = some o → h'.get? b = some o) → Q (.ref s.heap.objs.size) { s with heap := h', toks := tk }) :
    wpAny (model prog w) A (call (.type "set") [.ref l]) Q E s := by
  obtain ⟨cc, tl, hmro⟩ := F.called_set.mro
  have hmade := F.called_set.made
  have hsub := F.called_set.sub
  refine wpAny_call (codeAny_of_tree ?_)
  change wpAny _ _ (callAny (.type "set") _) _ _ _
  refine wpAny_pure ⟨Code.quiet_builtin _ (by decide +kernel), codeAny_builtin F.entry_type_call ?_⟩
  rw [Around.under_plain (weight_type_call_type "set" [.ref l] []) rfl]
  have g1 := F.called_set.notType
  have g2 := F.called_set.canCreate
  have g3 := F.typeCall_set_1 (.ref l)
  repeat (any_goals first | assumption | wp_step)
  refine codeAny_mono (code_set_new_1 (.ref l) (E := E) (Q₁ := fun obj s1 => ∃ led : Bool, obj = .ref s.heap.objs.size ∧ s1 = { s with heap := s.heap.push { cls := .type "set", dict := none, data := .set #[] 0 (.fresh 0 0 led) } }) fun led => ⟨led, rfl, rfl⟩) fun r s1 hr => ?_
  cases r with
  | error e => exact hr
  | ok fl =>
    cases fl with
    | ret obj =>
      obtain ⟨led, rfl, rfl⟩ := hr
      have gS : (s.heap.push { cls := .type "set", dict := none, data := .set #[] 0 (.fresh 0 0 led) }).get? s.heap.objs.size = some { cls := .type "set", dict := none, data := .set #[] 0 (.fresh 0 0 led) } := Heap.get?_push_size _ rfl
      have tS : Shared.TypeIs { s with heap := s.heap.push { cls := .type "set", dict := none, data := .set #[] 0 (.fresh 0 0 led) } } (.ref s.heap.objs.size) "set" := ⟨_, gS, rfl⟩
      have li := F.called_set.init.lookup
      have bi := F.called_set.init.bind (.ref s.heap.objs.size)
      repeat (any_goals first | assumption | wp_step)
      refine codeAny_mono (codeAny_call_builtin (R := wants (fun r s2 => r = .none ∧ ∃ h' tk, s2 = { s with heap := h', toks := tk } ∧ SetT prog w h' s.heap.objs.size (keys.foldl ddk []) ∧ (∀ b o, b < s.heap.objs.size → s.heap.get? b = some o → h'.get? b = some o)) E) F.called_set.init.plain F.entry_set_init (check_set_init_1 tS ?_)) fun r2 s2 hr2 => ?_
      · obtain ⟨ol, gol, col, nl, dol⟩ := hl
        obtain ⟨oc, od, oda, osl⟩ := ol
        simp only at col dol
        subst col
        subst dol
        have gol' : (s.heap.push { cls := .type "set", dict := none, data := .set #[] 0 (.fresh 0 0 led) }).get? l = some { cls := .type "list", dict := od, data := .seq items nl, slots := osl } := Heap.get?_push_of_some _ gol
        have q1 := F.sub_list_set
        have q2 := F.sub_list_frozenset
        have q3 : (Value.type "list" == Value.type "dict") = false := by decide
        have hl1 : (s.heap.push { cls := .type "set", dict := none, data := .set #[] 0 (.fresh 0 0 led) }).IsList l items := ⟨_, gol', rfl, nl, rfl⟩
        unfold Builtin.«set.__init__» noKeywords Builtin.Frozenset.updateFrom
        generalize hPI : pyIter = PI
        wp_walk
        subst hPI
        refine wpAny_pyIter_list hl1 ?_
        refine wpAny_bind (wpAny_runValue ?_)
        have hlS : l < s.heap.objs.size := Heap.lt_size gol
        have hh3 : A.in1.in1.in1.in1.handled = none := by simp [hh]
        have esz : (s.heap.push { cls := .type "set", dict := none, data := .set #[] 0 (.fresh 0 0 led) }).objs.size = s.heap.objs.size + 1 := Heap.size_push ..
        have up : ∀ b o, s.heap.get? b = some o → ((s.heap.push { cls := .type "set", dict := none, data := .set #[] 0 (.fresh 0 0 led) }).push { cls := .type "list_iterator", data := .fields #[.ref l, .int 0 0] }).get? b = some o := fun b o e => Heap.get?_push_of_some _ (Heap.get?_push_of_some _ e)
        refine upd_loop (keys := keys) (items := items) (l := l) (by simp [hh]) ?hun (by rw [esz]; exact Nat.ne_of_lt (Nat.lt_succ_of_lt hlS)) (by rw [esz]; exact Nat.ne_of_lt (Nat.lt_succ_self _)) (Nat.ne_of_gt hlS) items.size 0 _ [] (by omega) (Nat.zero_le _) ⟨_, Heap.get?_push_size _ rfl, rfl, rfl⟩ (hl1.push _) (fresh_set _ _ led (Heap.get?_push_of_some _ gS)) (fun i _ v hv => ?_) (by simp; omega) hkl fun h' tk hk' hS' => ?_
        case hun => simp only [Around.in1_units]; omega
        · obtain ⟨b, rfl, hb⟩ := hk i v hv
          exact ⟨b, rfl, hb.at' fun o => up b o⟩
        · change wpAny _ _ _ _ _ _
          refine wpAny_pure ?_
          change wpAny _ _ (ret Value.none) _ _ _
          refine wpAny_pure ⟨rfl, h', tk, rfl, hS', fun b o hb e => ?_⟩
          exact hk' b o (Nat.ne_of_lt hb) (by rw [esz]; exact Nat.ne_of_lt (Nat.lt_succ_of_lt hb)) (up b o e)
      · cases r2 with
        | error e => exact hr2
        | ok fl2 =>
          cases fl2 with
          | ret r =>
            obtain ⟨rfl, h', tk, rfl, hS', hk'⟩ := hr2
            repeat (any_goals first | assumption | wp_step)
            exact h _ _ hS' hk'
          | _ => exact hr2.elim
    | _ => exact hr.elim
end
section
variable {X : Cx}
/-- the tuples of ints at the addresses -/
abbrev TpI (H : Hp) (v : V) (k : List Int) : Prop := ∃ p, v = .ref p ∧ H p = some (.tup (k.map V.int))
def rSetTI : List V → Hp → VK → Prop := fun xs H Q => ∃ (p : Addr) (vs : List V) (ks : List (List Int)), xs = [.ref p] ∧ H p = some (.lst vs) ∧ Paired (TpI H) vs ks ∧ ks.length ≤ 60 ∧ ∀ l, H l = none → Q (.ref l) (upd H l (SetO l (ks.foldl ddk []).length))
theorem it_of {P : Program} {w : World} {H : Hp} {h : Heap} {a : Addr} {ks : List Int} (ok : HOk P w H h) (e : H a = some (.tup (ks.map V.int))) : ITp P w h ks a := by
  obtain ⟨_, its, r, o, h1, h2, n, h3⟩ := (show ObjOk P w H h a (.tup (ks.map V.int)) from ok a _ e)
  refine ⟨o, its.toArray, n, h1, h2, h3, ?_⟩
  have go : ∀ {ks : List Int} {us : List Value}, Vals (ks.map V.int) us → ItemsAre (intKind P w) ks us := by
    intro ks
    induction ks with
    | nil => intro us r; cases r; exact .nil
    | cons k ks ih =>
      intro us r
      rw [List.map_cons] at r
      cases r with
      | cons h t =>
        obtain ⟨t', rfl⟩ := h
        exact .cons (intKind_is _ _ _ _) (ih t)
  simpa using go r
theorem call_setTI (hc : X.calm = true) (hu : X.A.units + 64 < cLine) : CallR X (.type "set") rSetTI := by
  intro pins s σ H xs us Q I r h
  obtain ⟨p, vs, ks, rfl, hp, hv, hl, q⟩ := h
  obtain ⟨u, rfl, rx⟩ := vals1 r
  cases rx
  obtain ⟨its, rv, pl, hz⟩ := I.list (SqL.of hp)
  have hlen : its.length = ks.length := rv.length.symm.trans hv.length
  refine call_setTL (items := its.toArray) (keys := ks) (I.ok.hd hc) (by omega) pl.isList (fun i v hi => ?_) (by simp; omega) (by simp; omega) fun h' tk hS hk => ?_
  · have hi' : its[i]? = some v := by simpa using hi
    have hlt : i < vs.length := by
      have := (List.getElem?_eq_some_iff.mp hi').1
      have := rv.length
      omega
    obtain ⟨v2, hv2, rel⟩ := rv.get (List.getElem?_eq_getElem hlt)
    rw [hi'] at hv2
    cases hv2
    obtain ⟨k, hk, b, eb, hb⟩ := paired_get hv (List.getElem?_eq_getElem hlt)
    rw [eb] at rel
    cases rel
    refine ⟨b, rfl, ?_⟩
    rw [List.getD_eq_getElem?_getD, hk]
    exact it_of I.hok hb
  · obtain ⟨o, ep, t, T, ho, hex, hd, tab, _, _, _, hT⟩ := hS
    exact ⟨.ref s.heap.objs.size, _, I.laid (t' := tk) (fun b u e => hk b u (Heap.lt_size e) e) (Nat.le_refl _) (setO_ok ho hex hd (tab_fits tab) (by rw [esOf_size]; exact hT)), rfl, q _ (I.hok.fresh (Nat.le_refl _))⟩
end
end L2
/-! list(d.values()) of a dict whose keys are tuples. -/
namespace L2
open PySem PySem.Spec PyProof.Rows
section
variable {prog : Program} {w : World} {A : Around} {E : Value → Shared → Prop} {s : Shared}
/-- at d lies a dict of the entries es -/
def RawD (h : Heap) (d : Addr) (es : Array DictEntry) (ep : Nat) : Prop := ∃ o, h.get? d = some o ∧ o.ExactDict ∧ o.data = .dict es ep
theorem RawD.typeIs {d : Addr} {es : Array DictEntry} {ep : Nat} (x : RawD s.heap d es ep) : s.TypeIs (.ref d) "dict" := let ⟨o, ho, hc, _⟩ := x; ⟨o, ho, hc.1⟩
theorem RawD.at' {h h' : Heap} {d : Addr} {es : Array DictEntry} {ep : Nat} (x : RawD h d es ep) (e : ∀ o, h.get? d = some o → h'.get? d = some o) : RawD h' d es ep := let ⟨o, ho, r⟩ := x; ⟨o, e o ho, r⟩
theorem vals_new (d : Addr) (es : Array DictEntry) (ep : Nat) (hd : (d == sysModules) = false) :
    MeetsIn prog w (Builtin.«dict.values» ⟨[.ref d], []⟩) (fun _ R s => RawD s.heap d es ep ∧ R (.ok (.ret (.ref s.heap.objs.size))) { s with heap := s.heap.push { cls := .type "dict_values", data := .fields #[.ref d] } }) :=
  .of_wp fun A R s ⟨hm, h⟩ => by
    refine wpAny_bind ?_
    unfold Builtin.Dict.noArgs
    refine wpAny_bind (wpAny_notOrdered_dict hm.typeIs ?_)
    change wpAny _ _ (pure d) _ _ s
    refine wpAny_pure ?_
    change wpAny _ _ (Builtin.Dict.showsAll d >>= _) _ _ s
    unfold Builtin.Dict.showsAll
    rw [if_neg (by rw [hd]; exact Bool.false_ne_true)]
    refine wpAny_bind (wpAny_pure ?_)
    exact wpAny_bind (wpAny_newObj_type (wpAny_pure ⟨_, rfl, h⟩))
theorem vals_iter {v d : Addr} {es : Array DictEntry} {ep : Nat} {Q : Value → Shared → Prop} (hv : s.heap.IsValuesView v d) (hm : RawD s.heap d es ep)
    (hQ : Q (.ref s.heap.objs.size) { s with heap := s.heap.push { cls := .type "dict_valueiterator", data := .fields #[.ref d, .int 0 0, .int es.size 0, .int ep 0] } }) : wpAny (model prog w) A (pyIter (.ref v)) Q E s := by
  obtain ⟨ov, gov, cov, dov⟩ := id hv
  obtain ⟨o, go, _, dat⟩ := id hm
  refine wpAny_pyIter_slot hv.typeIs F.slot_dict_values_iter (wpAny_call_entry F.slot_dict_values_iter hv.typeIs F.entry_dict_values_iter ?_ (F.args_dict_values_iter_1 _))
  unfold Builtin.«dict_values.__iter__»
  refine wpAny_bind (wpAny_pure ?_)
  refine wpAny_bind ?_
  unfold Builtin.Dict_items.dictOf
  refine wpAny_bind (wpAny_field gov dov (x := .ref d) rfl (wpAny_pure ?_))
  refine wpAny_bind ?_
  unfold Builtin.Dict_items.newIterator
  refine wpAny_bind (wpAny_dictEntries go dat ?_)
  refine wpAny_bind (wpAny_dictEpoch go dat ?_)
  have own : Builtin.Dict_items.ownsTuple "dict_valueiterator" = false := by decide
  simp only [own, Bool.false_eq_true, if_false]
  refine wpAny_newObj_type (wpAny_pure ⟨_, rfl, "dict_valueiterator", _, ⟨_, Heap.get?_push_size _ rfl, rfl⟩, F.slot_dict_valueiterator_next.lookup, ?_⟩)
  simpa [rawInt] using hQ
theorem vals_item {it d : Addr} {i ep : Nat} {es : Array DictEntry} {e : DictEntry} {Q : Option Value → Shared → Prop} (hit : s.heap.IsValIter it d i es.size ep) (hm : RawD s.heap d es ep) (hx : es[i]? = some e)
    (hQ : ∀ h', h'.IsValIter it d (i + 1) es.size ep → Heap.SameBut it s.heap h' → Q (some e.val) { s with heap := h' }) : wpAny (model prog w) A (pyNext (.ref it)) Q E s := by
  obtain ⟨o, ho, hc, hd⟩ := id hit
  obtain ⟨od, god, _, dd⟩ := id hm
  unfold pyNext
  refine wpAny_bind (wpAny_attempt (wpAny_callSpecial?_slot (name := Str.ofString "__next__") hit.typeIs F.slot_dict_valueiterator_next (wpAny_call_entry F.slot_dict_valueiterator_next hit.typeIs F.entry_dict_valueiterator_next ?_ (F.args_dict_valueiterator_next_1 _))))
  refine wpAny_bind (wpAny_pure ?_)
  refine wpAny_bind ?_
  refine wpAny_bind ?_
  first | (refine wpAny_bind (wpAny_typeNameOfWhole_valiter hit.typeIs (wpAny_pure ?_))) | (refine wpAny_bind (wpAny_typeNameOf_valiter hit.typeIs (wpAny_pure ?_)))
  refine wpAny_bind (wpAny_fieldsOf ho hd ?_)
  have own : Builtin.Dict_items.ownsTuple "dict_valueiterator" = false := by decide
  simp only [own, Bool.false_eq_true, if_false]
  change wpAny _ _ (if (Value.ref d == Value.none) = true then _ else _) _ _ s
  rw [if_neg (show ¬ ((Value.ref d == Value.none) = true) from Bool.false_ne_true)]
  refine wpAny_bind (wpAny_pure ?_)
  refine wpAny_bind (wpAny_dictEntries god dd ?_)
  rw [if_neg (by simp)]
  refine wpAny_bind (wpAny_pure ?_)
  refine wpAny_bind (wpAny_dictEpoch god dd ?_)
  rw [if_neg (by simp)]
  refine wpAny_pure ?_
  have hlt : i < es.size := (Array.getElem?_eq_some_iff.mp hx).1
  have hval : es[i].val = e.val := by rw [(Array.getElem?_eq_some_iff.mp hx).2]
  simp only [show ¬ ((i : Int) < 0) from by omega, if_false, Int.toNat_natCast, Array.getElem?_eq_getElem hlt]
  refine wpAny_bind ?_
  first | (refine wpAny_bind (wpAny_typeNameOfWhole_valiter hit.typeIs (wpAny_pure ?_))) | (refine wpAny_bind (wpAny_typeNameOf_valiter hit.typeIs (wpAny_pure ?_)))
  refine wpAny_bind (wpAny_isOneOf_valiter hit.typeIs ?_)
  change wpAny _ _ (setField (.ref it) 1 (rawInt ((i : Int) + 1)) >>= _) _ _ s
  refine wpAny_bind (wpAny_setField ho hd (by simp) ?_)
  have hit2 : (s.heap.update it (Obj.mapFields (·.setIfInBounds 1 (rawInt ((i : Int) + 1))))).IsValIter it d (i + 1) es.size ep := ⟨_, Heap.get?_update_self _ ho (Obj.isFreed_of_fields (Obj.data_mapFields hd _)), (Obj.cls_mapFields ..).trans hc, by rw [Obj.data_mapFields hd]; simp [rawInt]⟩
  refine wpAny_bind (wpAny_holding ?_)
  refine wpAny_bind (wpAny_isOneOf_valiter (s := { s with heap := s.heap.update it (Obj.mapFields (·.setIfInBounds 1 (rawInt ((i : Int) + 1)))) }) hit2.typeIs ?_)
  refine wpAny_bind (wpAny_isOneOf_valiter (s := { s with heap := s.heap.update it (Obj.mapFields (·.setIfInBounds 1 (rawInt ((i : Int) + 1)))) }) hit2.typeIs ?_)
  change wpAny _ _ (pure es[i].val) _ _ _
  exact wpAny_pure (wpAny_pure ⟨_, rfl, wpAny_pure (by rw [hval]; exact hQ _ hit2 (Heap.SameBut.update ..))⟩)
theorem vals_end {it d : Addr} {ep : Nat} {es : Array DictEntry} {Q : Option Value → Shared → Prop} (hh : A.handled = none) (hit : s.heap.IsValIter it d es.size es.size ep) (hm : RawD s.heap d es ep)
    (hQ : ∀ h', Heap.ExtBut it s.heap h' → Q none { s with heap := h' }) : wpAny (model prog w) A (pyNext (.ref it)) Q E s := by
  obtain ⟨o, ho, hc, hd⟩ := id hit
  obtain ⟨od, god, _, dd⟩ := id hm
  unfold pyNext
  refine wpAny_bind (wpAny_attempt (wpAny_callSpecial?_slot (name := Str.ofString "__next__") hit.typeIs F.slot_dict_valueiterator_next (wpAny_call_entry F.slot_dict_valueiterator_next hit.typeIs F.entry_dict_valueiterator_next ?_ (F.args_dict_valueiterator_next_1 _))))
  refine wpAny_bind (wpAny_pure ?_)
  refine wpAny_bind ?_
  refine wpAny_bind ?_
  first | (refine wpAny_bind (wpAny_typeNameOfWhole_valiter hit.typeIs (wpAny_pure ?_))) | (refine wpAny_bind (wpAny_typeNameOf_valiter hit.typeIs (wpAny_pure ?_)))
  refine wpAny_bind (wpAny_fieldsOf ho hd ?_)
  have own : Builtin.Dict_items.ownsTuple "dict_valueiterator" = false := by decide
  simp only [own, Bool.false_eq_true, if_false]
  change wpAny _ _ (if (Value.ref d == Value.none) = true then _ else _) _ _ s
  rw [if_neg (show ¬ ((Value.ref d == Value.none) = true) from Bool.false_ne_true)]
  refine wpAny_bind (wpAny_pure ?_)
  refine wpAny_bind (wpAny_dictEntries god dd ?_)
  rw [if_neg (by simp)]
  refine wpAny_bind (wpAny_pure ?_)
  refine wpAny_bind (wpAny_dictEpoch god dd ?_)
  rw [if_neg (by simp)]
  refine wpAny_pure ?_
  simp only [show ¬ ((es.size : Int) < 0) from by omega, if_false, Int.toNat_natCast, Array.getElem?_eq_none (Nat.le_refl es.size)]
  refine wpAny_bind ?_
  first | (refine wpAny_bind (wpAny_typeNameOfWhole_valiter hit.typeIs (wpAny_pure ?_))) | (refine wpAny_bind (wpAny_typeNameOf_valiter hit.typeIs (wpAny_pure ?_)))
  change wpAny _ _ (setField (.ref it) 0 .none >>= _) _ _ s
  refine wpAny_bind (wpAny_setField ho hd (by simp) ?_)
  change wpAny _ _ (newExc (.type "StopIteration") [] >>= _) _ _ _
  refine wpAny_bind ?_
  simp only [newExc, newTuple]
  refine wpAny_bind (wpAny_newObj_type ?_ (by size_fits))
  refine wpAny_bind (m := firstArgMember _ _) (wpAny_of_eq (a := Value.none) (by first | rfl | (simp only [firstArgMember]; rfl)) ?_)
  refine wpAny_newObj_type ?_ (by size_fits)
  simp only [raiseNew]
  refine wpAny_bind (wpAny_handled ?_)
  rw [show A.in1.handled = none from hh]
  refine wpAny_bind (wpAny_pure (wpAny_throw ?_))
  refine wpAny_bind (wpAny_isInstance (T := "StopIteration") (b := true) ⟨_, Heap.get?_push_size _ rfl, rfl⟩ isSubtype_stop ?_)
  exact wpAny_pure (hQ _ (((Heap.SameBut.update ..).extBut.push _).push _))
theorem walks_vals (hh : A.handled = none) (I d : Addr) (hne : d ≠ I) (es : Array DictEntry) (ep : Nat) : Walks prog w A I [I, d] [I] es.size (fun i v => ∃ e, es[i]? = some e ∧ v = e.val) (fun i h => h.IsValIter I d i es.size ep ∧ RawD h d es ep) where
  sub := fun b hb => by simp at hb; simp [hb]
  frame := fun _ _ _ st hk => ⟨(let ⟨o, ho, r⟩ := st.1; ⟨o, hk I (by simp) o ho, r⟩), st.2.at' fun o e => hk d (by simp) o e⟩
  item := fun i s Q E hi st hQ => by
    have hx : es[i]? = some es[i] := Array.getElem?_eq_getElem hi
    refine vals_item st.1 st.2 hx fun h' hit' sb => ?_
    exact hQ _ h' s.toks ⟨_, hx, rfl⟩ ⟨hit', st.2.at' fun o e => sb.extBut _ _ hne e⟩ fun b o hb e => sb.extBut b o (fun q => hb (by simp [q])) e
  done := fun s Q E st hQ => vals_end hh st.1 st.2 fun h' eb => hQ h' s.toks fun b o hb e => eb b o (fun q => hb (by simp [q])) e
  self := fun _ _ _ _ st hQ => wpAny_pyIter_valiter st.1 hQ
theorem src_vals {r d : Addr} {es : Array DictEntry} {ep : Nat} : PySem.W.KdlSrc prog w "dict_values" r d es.size (fun i v => ∃ e, es[i]? = some e ∧ v = e.val) (fun h => h.IsValuesView r d ∧ RawD h d es ep) where
  type := fun _ hm => hm.1.typeIs
  there := fun _ hm => ⟨(let ⟨_, ho, _⟩ := hm.1; Heap.lt_size ho), (let ⟨_, ho, _⟩ := hm.2; Heap.lt_size ho)⟩
  keep := fun _ _ hm hk => ⟨(let ⟨o, ho, x⟩ := hm.1; ⟨o, hk r (.inl rfl) o ho, x⟩), hm.2.at' fun o e => hk d (.inr rfl) o e⟩
  notList := by decide
  notTuple := by decide
  hint := fun _ _ _ _ hm hq => PySem.W.kdl_hint_values hm.1.typeIs hq
  iter := fun _ _ hh hm => ⟨_, _, (fun _ _ hq => vals_iter hm.1 hm.2 hq), walks_vals hh _ d (Nat.ne_of_lt (let ⟨_, ho, _⟩ := hm.2; Heap.lt_size ho)) es ep, ⟨⟨_, Heap.get?_push_size _ rfl, rfl, rfl⟩, hm.2.at' fun o e => Heap.get?_push_of_some _ e⟩⟩
end
/-- a view of the values of the dict at d -/
def VwO (v d : Addr) : HO := .ext fun h => h.IsValuesView v d
section
variable {X : Cx}
def tVals (td : TE) : TE := fun σ H Q => td σ H fun x H1 => ∃ d kvs, x = .ref d ∧ H1 d = some (.dT kvs) ∧ ∀ v, H1 v = none → Q (.ref v) (upd H1 v (VwO v d))
theorem kt_vals {P : Program} {w : World} {H : Hp} : ∀ {l : List (List Key × V)} {m : List (List Key × Addr × Value)}, KT H l m → Vals (l.map (·.2)) (m.map ((fun x : DictEntry => x.val) ∘ entryOfKey (tupleKind (mixKind P w))))
  | _, _, .nil => .nil
  | _, _, .cons q t => .cons q.2.2 (kt_vals t)
theorem raw_of {P : Program} {w : World} {H : Hp} {h : Heap} {d : Addr} {kvs : List (List Key × V)} (ok : HOk P w H h) (e : H d = some (.dT kvs)) : (d == sysModules) = false ∧ kvs.length ≤ sizeLine ∧ ∃ es ep, RawD h d es ep ∧ Vals (kvs.map (·.2)) (es.toList.map (·.val)) := by
  obtain ⟨hz, hS, xs, rel, o, es, ep, h1, h2, h3, h4, h5⟩ := (show ObjOk P w H h d (.dT kvs) from ok d _ e)
  refine ⟨hS, hz, es, ep, ⟨o, h1, h2, h3⟩, ?_⟩
  rw [h4, List.map_map]
  exact kt_vals rel
theorem pe_vals {o : Expr} {td : TE} {apos cpos : Pos} (hl : PE X o td) (hbase : attributeBase o "values" X.env (eval o X.env) = eval o X.env := by rfl) (hline : (apos.endLine == cpos.line) = true := by rfl) : PE X (.Call (.Attribute o "values" apos) [] [] cpos) (tVals td) := by
  intro pins s σ H Q I h
  refine wpAny_Call_method0_late hbase hline (thn (hl pins s σ H _ I h) fun v s1 ⟨x, H1, I1, r1, q1⟩ => ?_)
  obtain ⟨d, kvs, rfl, hd, q⟩ := q1
  cases r1
  obtain ⟨h1, h2, _⟩ := isD_at I1 (.inr ⟨kvs, .inl hd⟩)
  obtain ⟨hS, hz, es, ep, hm, rel⟩ := raw_of I1.hok hd
  refine ⟨"dict", _, PySem.F.plainAttrs_dict, PySem.F.slot_dict_values, PySem.F.type_dict_values, h1, h2, Calls.callWith_builtin rfl (PySem.evalArgs_none ?_)⟩
  refine call_meetsIn PySem.F.slot_dict_values hm.typeIs PySem.F.entry_dict_values (PySem.F.args_dict_values_1 _) (vals_new d es ep hS) ⟨hm, ?_⟩
  refine ⟨.ref s1.heap.objs.size, _, I1.laid (o := VwO s1.heap.objs.size d) (t' := s1.toks) (fun b o e => Heap.get?_push_of_some _ e) (Nat.le_refl _) ⟨⟨_, Heap.get?_push_size _ rfl, rfl, rfl⟩, ⟨_, Heap.get?_push_size _ rfl⟩, fun h1 h2 ⟨o, ho, r⟩ k => ⟨o, k o ho, r⟩⟩, rfl, q _ (I1.hok.fresh (Nat.le_refl _))⟩
def rListV : List V → Hp → VK → Prop := fun xs H Q => ∃ v d kvs, xs = [.ref v] ∧ H v = some (VwO v d) ∧ H d = some (.dT kvs) ∧ ∀ l, H l = none → Q (.ref l) (upd H l (.lst (kvs.map (·.2))))
theorem call_listV (hc : X.calm = true) : CallR X (.type "list") rListV := by
  intro pins s σ H xs us Q I r h
  obtain ⟨v, d, kvs, rfl, ev, ed, q⟩ := h
  obtain ⟨u, rfl, rx⟩ := vals1 r
  cases rx
  obtain ⟨hS, hz, es, ep, hm, rel⟩ := raw_of I.hok ed
  have hv : s.heap.IsValuesView v d := (show ObjOk X.prog X.w H s.heap v (VwO v d) from I.hok v _ ev).1
  have hl : es.size = kvs.length := by
    have := rel.length
    simpa using this.symm
  refine PySem.W.kdl_call src_vals (I.ok.hd hc) ⟨hv, hm⟩ (by rw [hl]; exact hz) fun h' tk acc' c' hk hD hacc => ?_
  have hn := I.hok.fresh (Nat.le_refl s.heap.objs.size)
  refine ⟨.ref s.heap.objs.size, _, I.laid (o := .lst (kvs.map (·.2))) hk (Nat.le_refl _) ?_, rfl, q _ hn⟩
  refine ⟨by rw [List.length_map]; exact hz, acc'.toList, c', ?_, by rw [Array.toArray_toList]; exact hD⟩
  have e : acc'.toList = es.toList.map (·.val) := by
    apply List.ext_getElem?
    intro j
    rw [List.getElem?_map, Array.getElem?_toList, Array.getElem?_toList]
    cases hj : acc'[j]? with
    | none =>
      have : acc'.size ≤ j := by simpa using hj
      rw [hacc.1] at this
      rw [Array.getElem?_eq_none this]
      rfl
    | some v =>
      obtain ⟨e, he, rfl⟩ := hacc.2 j v hj
      rw [he]
      rfl
  rw [e]
  exact rel
end
end L2
set_option maxHeartbeats 4000000
/-! max(list of ints, default=d). -/
namespace L2
open PySem PySem.Spec PyProof.Rows PySem.W
section
variable {X : Cx} {pins : List (Addr × Obj)} {σ : St} {H : Hp} {l it S : Addr} {ns : List Int} {Q : VK}
def Top (ns : List Int) (j : Nat) (nb : Int) : Prop := nb ∈ ns.take j ∧ ∀ m ∈ ns.take j, m ≤ nb
theorem list_ints {s : Shared} (I : Inv X pins σ H s) (hl : H l = some (.lst (ns.map V.int))) : ∃ its : List Value, s.heap.IsList l its.toArray ∧ its.length = ns.length ∧ ∀ (i : Nat) n, ns[i]? = some n → ∃ t, its[i]? = some (.int n t) := by
  obtain ⟨its, rv, pl, _⟩ := I.list (SqL.of (K := X.K) hl)
  refine ⟨its, pl.isList, by have := rv.length; simpa using this.symm, fun i n hi => ?_⟩
  obtain ⟨u, hu, t, e⟩ := rv.get (show (ns.map V.int)[i]? = some (.int n) by rw [List.getElem?_map, hi]; rfl)
  exact ⟨t, by rw [hu, e]⟩
theorem maxd_loop {d : Value} (hc : X.calm = true) (hh : X.A.in1.handled = none) (ne : it ≠ S) (hl : H l = some (.lst (ns.map V.int))) (hne : ns ≠ []) (q : ∀ n, Top ns ns.length n → Q (.int n) H) :
    ∀ (r j : Nat) (s : Shared) (nb : Int) (tb : Tok) (c : Nat), ns.length - j = r → 0 < j → j ≤ ns.length → Inv X pins σ H s → s.heap.IsListIter it l j → s.heap.get? S = some (seqObj "list" #[.int nb tb, .int nb tb] c) → FpOk X pins H it → FpOk X pins H S → Top ns j nb →
      codeAny (model X.prog X.w) X.A (.builtin "max.loop" ⟨[.ref it, .none, .ref S], [(Str.ofString "default", d)]⟩) (MkR X pins σ Q) s := by
  have hli : ∀ {s : Shared}, FpOk X pins H it → l ≠ it := fun f => ne_of_none hl f.1
  intro r
  induction r with
  | zero =>
    intro j s nb tb c e1 hj0 hj I hi hS fi fS top
    have ej : j = ns.length := by omega
    obtain ⟨its, hls, hlen, hat⟩ := list_ints I hl
    have W := Walks.list (prog := X.prog) (w := X.w) (A := X.A.in1) hh it l (hli (s := s) fi) its.toArray
    have hsz : its.toArray.size = ns.length := by simp [hlen]
    refine codeAny_builtin PySem.F.entry_max_loop ?_
    rw [Around.under_plainId PySem.F.plain_max_loop _]
    change wpAny _ X.A.in1 (seqItems? (.ref S) >>= _) _ _ _
    refine wpAny_bind (wpAny_seqItems hS rfl ?_)
    change wpAny _ X.A.in1 (tryCatch (pyNext (.ref it)) _ >>= _) _ _ _
    refine wpAny_bind (wpAny_tryCatch (W.done _ _ _ ⟨by rw [hsz, ← ej]; exact hi, hls⟩ fun h' tk' hk' => ?_))
    have I1 : Inv X pins σ H { s with heap := h', toks := tk' } := I.turned (fun b o hb e => hk' b o (by simpa using hb) e) fi.1 fi.2.1 fi.2.2.2.1 fi.2.2.2.2.1 fi.2.2.2.2.2
    have hS1 := hk' S _ (by simpa using Ne.symm ne) hS
    have s1 := Heap.SameBut.update h' S (Obj.mapSeq fun _ => (#[] : Array Value))
    change wpAny _ X.A.in1 (updateSeq S (fun _ => #[]) >>= _) _ _ _
    refine wpAny_bind ?_
    refine wpAny_updateSeq hS1 rfl (wpAny_bind (wpAny_letGo (wpAny_pure ?_)))
    have I2 : Inv X pins σ H { s with heap := h'.update S (Obj.mapSeq fun _ => (#[] : Array Value)), toks := tk' } := I1.turned (t' := tk') (fun b o hb e => (s1.2 b hb).trans e) fS.1 fS.2.1 fS.2.2.2.1 fS.2.2.2.2.1 fS.2.2.2.2.2
    exact ⟨.int nb, H, I2, ⟨tb, rfl⟩, q nb (by rw [← ej]; exact top)⟩
  | succ r ih =>
    intro j s nb tb c e1 hj0 hj I hi hS fi fS top
    have hlt : j < ns.length := by omega
    obtain ⟨its, hls, hlen, hat⟩ := list_ints I hl
    have W := Walks.list (prog := X.prog) (w := X.w) (A := X.A.in1) hh it l (hli (s := s) fi) its.toArray
    have hsz : its.toArray.size = ns.length := by simp [hlen]
    refine codeAny_builtin PySem.F.entry_max_loop ?_
    rw [Around.under_plainId PySem.F.plain_max_loop _]
    change wpAny _ X.A.in1 (seqItems? (.ref S) >>= _) _ _ _
    refine wpAny_bind (wpAny_seqItems hS rfl ?_)
    change wpAny _ X.A.in1 (tryCatch (pyNext (.ref it)) _ >>= _) _ _ _
    refine wpAny_bind (wpAny_tryCatch (W.item j _ _ _ (by rw [hsz]; exact hlt) ⟨hi, hls⟩ fun v h' tk' hP hst' hk' => ?_))
    obtain ⟨n1, hn1⟩ : ∃ n1, ns[j]? = some n1 := ⟨_, List.getElem?_eq_getElem hlt⟩
    obtain ⟨t1, ht1⟩ := hat j n1 hn1
    have hv : its[j]? = some v := by simpa using hP
    rw [ht1] at hv
    cases hv
    have I1 : Inv X pins σ H { s with heap := h', toks := tk' } := I.turned (fun b o hb e => hk' b o (by simpa using hb) e) fi.1 fi.2.1 fi.2.2.2.1 fi.2.2.2.2.1 fi.2.2.2.2.2
    have hS1 := hk' S _ (by simpa using Ne.symm ne) hS
    refine wpAny_bind (wpAny_pure ?_)
    change wpAny _ X.A.in1 (tryCatch (holding [Value.int n1 t1, .int n1 t1] (richCompare .Gt (.int n1 t1) (.int nb tb) >>= _)) _ >>= _) _ _ _
    refine wpAny_bind (wpAny_tryCatch (wpAny_holding (wpAny_bind (CmpOf.ints_gt (prog := X.prog) (w := X.w) (A := X.A.in1) (P := fun i v => ∃ t, v = .int (if i = 0 then n1 else nb) t) (fun i => if i = 0 then n1 else nb) (fun i v h => h) 0 1 _ _ _ _ _ ⟨t1, rfl⟩ ⟨tb, rfl⟩ ?_))))
    refine wpAny_bind (wpAny_holding (wpAny_truthy_bool ?_))
    refine wpAny_bind (wpAny_letGo (wpAny_pure ?_))
    have htk : ns.take (j + 1) = ns.take j ++ [n1] := by rw [List.take_add_one, hn1]; rfl
    by_cases hgt : n1 > nb
    · have s1 := Heap.SameBut.update h' S (Obj.mapSeq fun _ => #[Value.int n1 t1, .int n1 t1])
      obtain ⟨c2, hc2⟩ : ∃ c2, (h'.update S (Obj.mapSeq fun _ => #[Value.int n1 t1, .int n1 t1])).get? S = some (seqObj "list" #[Value.int n1 t1, .int n1 t1] c2) := ⟨_, get?_update_seq hS1 fun _ => #[Value.int n1 t1, .int n1 t1]⟩
      have hd : decide ((if (0 : Nat) = 0 then n1 else nb) > if (1 : Nat) = 0 then n1 else nb) = true := by simpa using hgt
      rw [if_pos hd]
      refine wpAny_bind ?_
      refine wpAny_updateSeq hS1 rfl (wpAny_bind (wpAny_letGo ?_))
      have I3 : Inv X pins σ H { s with heap := h'.update S (Obj.mapSeq fun _ => #[Value.int n1 t1, .int n1 t1]), toks := tk' } := I1.turned (t' := tk') (fun b o hb e => (s1.2 b hb).trans e) fS.1 fS.2.1 fS.2.2.2.1 fS.2.2.2.2.1 fS.2.2.2.2.2
      obtain ⟨oi, goi, hoc, hod⟩ := id hst'.1
      refine wpAny_pure ⟨plainId_quiet PySem.F.plain_max_loop _, ih (j + 1) _ n1 t1 c2 (by omega) (by omega) hlt I3 ⟨oi, (s1.2 it ne).trans goi, hoc, hod⟩ hc2 fi fS ?_⟩
      unfold Top
      rw [htk]
      refine ⟨by simp, fun m hm => ?_⟩
      rcases List.mem_append.mp hm with hm | hm
      · have := top.2 m hm
        omega
      · simp at hm
        omega
    · have hd : ¬ decide ((if (0 : Nat) = 0 then n1 else nb) > if (1 : Nat) = 0 then n1 else nb) = true := by simpa using hgt
      rw [if_neg hd]
      refine wpAny_bind (wpAny_letGo ?_)
      refine wpAny_pure ⟨plainId_quiet PySem.F.plain_max_loop _, ih (j + 1) _ nb tb c (by omega) (by omega) hlt I1 hst'.1 hS1 fi fS ?_⟩
      unfold Top
      rw [htk]
      refine ⟨List.mem_append_left _ top.1, fun m hm => ?_⟩
      rcases List.mem_append.mp hm with hm | hm
      · exact top.2 m hm
      · simp at hm
        omega
theorem args_max_default (a v : Value) : argsOk "max" ⟨[a], [(Str.ofString "default", v)]⟩ := by unfold argsOk; kernel_rfl
theorem call_maxD {s : Shared} {d : Int} {td : Tok} (hc : X.calm = true) (hh : X.A.in1.handled = none) (I : Inv X pins σ H s) (hl : H l = some (.lst (ns.map V.int))) (q0 : ns = [] → Q (.int d) H) (q : ns ≠ [] → ∀ n, Top ns ns.length n → Q (.int n) H) :
    wpAny (model X.prog X.w) X.A (call (.builtin "max") [.ref l] [(Str.ofString "default", .int d td)]) (EP X pins σ Q) X.xe s := by
  obtain ⟨its0, hls0, hlen0, hat0⟩ := list_ints I hl
  refine kmk_tree PySem.F.kind_max PySem.F.plain_max PySem.F.entry_max (args_max_default _ _) ?_
  change wpAny _ X.A.in1 (Builtin.Builtins.bindParams "max" ["key", "default"] 0 ⟨[], [(Str.ofString "default", .int d td)]⟩ >>= _) _ _ s
  refine wpAny_bind (wpAny_of_eq (a := [none, some (Value.int d td)]) rfl ?_)
  refine wpAny_bind (wpAny_pure ?_)
  refine wpAny_bind (wpAny_pyIter_list hls0 ?_)
  refine wpAny_bind (wpAny_newList ?_ (Nat.zero_le _))
  have gi : ((s.heap.push { cls := .type "list_iterator", data := .fields #[.ref l, .int 0 0] }).push (seqObj "list" #[] 0)).get? s.heap.objs.size = some { cls := .type "list_iterator", data := .fields #[.ref l, .int 0 0] } := Heap.get?_push_of_some _ (Heap.get?_push_size _ rfl)
  have gS : ((s.heap.push { cls := .type "list_iterator", data := .fields #[.ref l, .int 0 0] }).push (seqObj "list" #[] 0)).get? (s.heap.push { cls := .type "list_iterator", data := .fields #[.ref l, .int 0 0] }).objs.size = some (seqObj "list" #[] 0) := Heap.get?_push_size _ rfl
  have I1 : Inv X pins σ H { s with heap := (s.heap.push { cls := .type "list_iterator", data := .fields #[.ref l, .int 0 0] }).push (seqObj "list" #[] 0) } := I.kept (t' := s.toks) fun b o e => Heap.get?_push_of_some _ (Heap.get?_push_of_some _ e)
  have hsS : (s.heap.push { cls := .type "list_iterator", data := .fields #[.ref l, .int 0 0] }).objs.size = s.heap.objs.size + 1 := size_push' ..
  have fi : FpOk X pins H s.heap.objs.size := I.fpOk (Nat.le_refl _) (I.hok.fresh (Nat.le_refl _))
  have hge : s.heap.objs.size ≤ (s.heap.push { cls := .type "list_iterator", data := .fields #[.ref l, .int 0 0] }).objs.size := by rw [hsS]; exact Nat.le_succ _
  have fS : FpOk X pins H (s.heap.push { cls := .type "list_iterator", data := .fields #[.ref l, .int 0 0] }).objs.size := I.fpOk hge (I.hok.fresh hge)
  have ne : s.heap.objs.size ≠ (s.heap.push { cls := .type "list_iterator", data := .fields #[.ref l, .int 0 0] }).objs.size := by rw [hsS]; exact Nat.ne_of_lt (Nat.lt_succ_self _)
  generalize (s.heap.push { cls := .type "list_iterator", data := .fields #[.ref l, .int 0 0] }).objs.size = S at gS fS ne ⊢
  generalize s.heap.objs.size = it at gi fi ne ⊢
  change wpAny _ X.A.in1 _ _ _ { s with heap := (s.heap.push { cls := .type "list_iterator", data := .fields #[.ref l, .int 0 0] }).push (seqObj "list" #[] 0) }
  generalize (s.heap.push { cls := .type "list_iterator", data := .fields #[.ref l, .int 0 0] }).push (seqObj "list" #[] 0) = h1 at gi gS I1 ⊢
  refine wpAny_pure ⟨plainId_quiet PySem.F.plain_max_loop _, ?_⟩
  change codeAny (model X.prog X.w) X.A (.builtin "max.loop" ⟨[.ref it, .none, .ref S], [(Str.ofString "default", .int d td)]⟩) (MkR X pins σ Q) { s with heap := h1 }
  have hli : l ≠ it := ne_of_none hl fi.1
  obtain ⟨its, hls, hlen, hat⟩ := list_ints I1 hl
  have W := Walks.list (prog := X.prog) (w := X.w) (A := X.A.in1) hh it l hli its.toArray
  have hsz : its.toArray.size = ns.length := by simp [hlen]
  have hi0 : h1.IsListIter it l 0 := ⟨_, gi, rfl, rfl⟩
  refine codeAny_builtin PySem.F.entry_max_loop ?_
  rw [Around.under_plainId PySem.F.plain_max_loop _]
  change wpAny _ X.A.in1 (seqItems? (.ref S) >>= _) _ _ _
  refine wpAny_bind (wpAny_seqItems gS rfl ?_)
  change wpAny _ X.A.in1 (tryCatch (pyNext (.ref it)) _ >>= _) _ _ _
  by_cases hns : ns = []
  · have hz0 : its.toArray.size = 0 := by rw [hsz, hns]; rfl
    refine wpAny_bind (wpAny_tryCatch (W.done _ _ _ ⟨by rw [hz0]; exact hi0, hls⟩ fun h' tk' hk' => ?_))
    have I2 : Inv X pins σ H { s with heap := h', toks := tk' } := I1.turned (fun b o hb e => hk' b o (by simpa using hb) e) fi.1 fi.2.1 fi.2.2.2.1 fi.2.2.2.2.1 fi.2.2.2.2.2
    refine wpAny_bind (wpAny_rule (wpAny_pure ?_))
    exact ⟨.int d, H, I2, ⟨td, rfl⟩, q0 hns⟩
  · have hpos : 0 < ns.length := Nat.pos_of_ne_zero fun z => hns (List.eq_nil_of_length_eq_zero z)
    refine wpAny_bind (wpAny_tryCatch (W.item 0 _ _ _ (by rw [hsz]; exact hpos) ⟨hi0, hls⟩ fun v h' tk' hP hst' hk' => ?_))
    obtain ⟨n1, hn1⟩ : ∃ n1, ns[0]? = some n1 := ⟨_, List.getElem?_eq_getElem hpos⟩
    obtain ⟨t1, ht1⟩ := hat 0 n1 hn1
    have hv : its[0]? = some v := by simpa using hP
    rw [ht1] at hv
    cases hv
    have I2 : Inv X pins σ H { s with heap := h', toks := tk' } := I1.turned (fun b o hb e => hk' b o (by simpa using hb) e) fi.1 fi.2.1 fi.2.2.2.1 fi.2.2.2.2.1 fi.2.2.2.2.2
    have hS1 := hk' S _ (by simpa using Ne.symm ne) gS
    refine wpAny_bind (wpAny_pure ?_)
    have s1 := Heap.SameBut.update h' S (Obj.mapSeq fun _ => #[Value.int n1 t1, .int n1 t1])
    obtain ⟨c2, hc2⟩ : ∃ c2, (h'.update S (Obj.mapSeq fun _ => #[Value.int n1 t1, .int n1 t1])).get? S = some (seqObj "list" #[Value.int n1 t1, .int n1 t1] c2) := ⟨_, get?_update_seq hS1 fun _ => #[Value.int n1 t1, .int n1 t1]⟩
    change wpAny _ X.A.in1 (updateSeq S (fun _ => #[Value.int n1 t1, .int n1 t1]) >>= _) _ _ _
    refine wpAny_bind ?_
    refine wpAny_updateSeq hS1 rfl ?_
    have I3 : Inv X pins σ H { s with heap := h'.update S (Obj.mapSeq fun _ => #[Value.int n1 t1, .int n1 t1]), toks := tk' } := I2.turned (t' := tk') (fun b o hb e => (s1.2 b hb).trans e) fS.1 fS.2.1 fS.2.2.2.1 fS.2.2.2.2.1 fS.2.2.2.2.2
    obtain ⟨oi, goi, hoc, hod⟩ := id hst'.1
    have htk : ns.take 1 = [n1] := by rw [List.take_add_one, hn1]; rfl
    refine wpAny_pure ⟨plainId_quiet PySem.F.plain_max_loop _, maxd_loop hc hh ne hl hns (q hns) _ 1 _ n1 t1 c2 rfl (by omega) hpos I3 ⟨oi, (s1.2 it ne).trans goi, hoc, hod⟩ hc2 fi fS ?_⟩
    unfold Top
    rw [htk]
    exact ⟨by simp, fun m hm => by simp at hm; omega⟩
end
def tMaxD (te td : TE) : TE := fun σ H Q => te σ H fun x H1 => td σ H1 fun y H2 => ∃ (l : Addr) (ns : List Int) (d : Int), x = .ref l ∧ y = .int d ∧ H2 l = some (.lst (ns.map V.int)) ∧ (ns = [] → Q (.int d) H2) ∧ (ns ≠ [] → ∀ n, n ∈ ns → (∀ m ∈ ns, m ≤ n) → Q (.int n) H2)
section
variable {X : Cx} {k : Nat}
theorem pe_maxd {kp p pos : Pos} {e d : Expr} {te td : TE} (he : PE X e te) (hd : PE X d td) (hr : Room (k + 1) X.A) (hc : X.calm = true) (hg : Gl X "max") (hm : X.mg "max" = none)
    (h1 : backTo pos (starEach [e] X.env) = (false, eval e X.env) :: backTo pos (starEach [] X.env) := by rfl) (h2 : (backTo pos (starEach [e] X.env)).any (·.1) = false := by rfl) :
    PE X (.Call (.Name "max" p) [e] [⟨some "default", d, kp⟩] pos) (tMaxD te td) := by
  intro pins s σ H Q I h
  refine wpAny_Call_Name_kw (ld_blt I hg hm (u := .builtin "max") bt_max ?_)
  refine PyProof.Rows.callWith_kw ?_ h1 h2
  rw [h1]
  refine Calls.spliced_cons (thn (he pins s σ H _ I h) fun u s1 ⟨x, H1, I1, rx, q1⟩ => Calls.spliced_nil ?_)
  refine kws_cons (thn (hd pins s1 σ H1 _ I1 q1) fun u2 s2 ⟨y, H2, I2, ry, q2⟩ => ?_)
  refine kws_nil ?_
  obtain ⟨l, ns, dv, ex, ey, hl, q0, q⟩ := q2
  subst ex ey
  obtain rfl : u = Value.ref l := rx
  obtain ⟨t, rfl⟩ := ry
  exact call_maxD hc hr.hd I2 hl q0 fun hns n top => q hns n (by have := top.1; rw [List.take_length] at this; exact this) fun m hm => top.2 m (by rw [List.take_length]; exact hm)
end
end L2
/-! x not in a list, by data. -/
namespace L2
open PySem PySem.Spec PyProof.Rows
variable {X : Cx}
def rNotInD : R2 := fun x y H Q => ∃ p xs ds d, y = .ref p ∧ H p = some (.lst xs) ∧ Dts H xs ds ∧ Dt H x d ∧ d.depth ≤ 60 ∧ (∀ e ∈ ds, e.depth ≤ 60) ∧ Q (.bl (!ds.any fun e => PyData.eqv e d)) H
open Classical in
theorem op_notinD (hu : X.A.units + 64 < cLine) : OpR X (compareOp .NotIn) rNotInD := by
  intro pins s σ H x y v u Q I rx ry h
  obtain ⟨p, xs, ds, d, rfl, hp, hD, hd, dd, de, q⟩ := h
  cases ry
  obtain ⟨its, rv, pl, hz⟩ := I.list (SqL.of (K := X.K) hp)
  obtain ⟨as, ra⟩ := (hd.has (K := X.K)).reads I rx
  have hlen : its.length = xs.length := rv.length.symm
  have hdl : ds.length = xs.length := by
    exact hasAll_len (hD.1 X.K)
  let e : Value → Bool := fun y => decide (∃ (j : Nat) (g : PyData), its[j]? = some y ∧ ds[j]? = some g ∧ PyData.eqv g d = true)
  have key : ∀ (j : Nat) y, its[j]? = some y → ∃ g, ds[j]? = some g ∧ e y = PyData.eqv g d ∧ SeqAt.EqAt X.A.in1 s y v (PyData.eqv g d) := fun j y hy => by
    obtain ⟨g, bs, hg, rb, lb⟩ := has_reads_at I hD rv j y hy
    refine ⟨g, hg, ?_, ?_⟩
    · cases hq : PyData.eqv g d with
      | true => exact decide_eq_true ⟨j, g, hy, hg, hq⟩
      | false =>
        refine decide_eq_false ?_
        rintro ⟨j', g', hy', hg', hq'⟩
        obtain ⟨g2, bs2, hg2, rb2, _⟩ := has_reads_at I hD rv j' y hy'
        rw [hg'] at hg2
        cases hg2
        have := (rb.unique _ _ rb2).1
        subst this
        rw [hq] at hq'
        cases hq'
    · have hgd := de g (List.mem_of_getElem? hg)
      exact SeqAt.eqAt_reads g d X.A.in1 s y v bs as rb ra lb hd.lay (by show X.A.units + 1 + min g.depth d.depth < cLine; omega)
  refine SeqAt.notIn_listAt e pl.isList (fun y hy => ?_) ?_
  · obtain ⟨j, hj, e1⟩ := List.mem_iff_getElem.mp (by simpa using hy : y ∈ its)
    obtain ⟨g, hg, he, hE⟩ := key j y (by rw [List.getElem?_eq_getElem hj, e1])
    rw [he]
    exact hE
  · refine ⟨.bl (!ds.any fun e => PyData.eqv e d), H, I, ?_, q⟩
    show Value.bool _ = Value.bool _
    congr 1
    congr 1
    rw [Bool.eq_iff_iff]
    simp only [List.any_toArray, List.any_eq_true]
    constructor
    · rintro ⟨y, hy, ey⟩
      obtain ⟨j, hj, e1⟩ := List.mem_iff_getElem.mp hy
      obtain ⟨g, hg, he, _⟩ := key j y (by rw [List.getElem?_eq_getElem hj, e1])
      exact ⟨g, List.mem_of_getElem? hg, by rw [← he]; exact ey⟩
    · rintro ⟨g, hg, eg⟩
      obtain ⟨j, hj, e1⟩ := List.mem_iff_getElem.mp hg
      have hj2 : j < its.length := by omega
      obtain ⟨g2, hg2, he, _⟩ := key j its[j] (List.getElem?_eq_getElem hj2)
      rw [List.getElem?_eq_getElem hj, e1] at hg2
      cases hg2
      exact ⟨its[j], List.getElem_mem hj2, by rw [he]; exact eg⟩
end L2
namespace K73
open PySem L2
def top (i : Nat) : Stmt := PySem.Challenge.pw_roadnet_k73_reckoned_ahead.main.body.getD i (.Pass ⟨0, 0, 0, 0⟩)
section
variable {P : Program} {w : World} {K : PySem.W.Frag} {mg : Str → Option Value} {base : Heap} {C : Addr}
abbrev at_Measures : List Str := ["hands", "lag", "miss", "raise_each", "count", "room", "places", "window", "wait", "keep"]
def fs_Measures (a0 a1 a2 a3 a4 a5 a6 a7 a8 a9 : V) : List (Str × V) := [("hands", a0), ("lag", a1), ("miss", a2), ("raise_each", a3), ("count", a4), ("room", a5), ("places", a6), ("window", a7), ("wait", a8), ("keep", a9)]
section
variable {a0 a1 a2 a3 a4 a5 a6 a7 a8 a9 : V}
theorem fs_Measures_hands : (fs_Measures a0 a1 a2 a3 a4 a5 a6 a7 a8 a9).lookup ("hands" : Str) = some a0 := rfl
theorem fs_Measures_lag : (fs_Measures a0 a1 a2 a3 a4 a5 a6 a7 a8 a9).lookup ("lag" : Str) = some a1 := rfl
theorem fs_Measures_miss : (fs_Measures a0 a1 a2 a3 a4 a5 a6 a7 a8 a9).lookup ("miss" : Str) = some a2 := rfl
theorem fs_Measures_raise_each : (fs_Measures a0 a1 a2 a3 a4 a5 a6 a7 a8 a9).lookup ("raise_each" : Str) = some a3 := rfl
theorem fs_Measures_count : (fs_Measures a0 a1 a2 a3 a4 a5 a6 a7 a8 a9).lookup ("count" : Str) = some a4 := rfl
theorem fs_Measures_room : (fs_Measures a0 a1 a2 a3 a4 a5 a6 a7 a8 a9).lookup ("room" : Str) = some a5 := rfl
theorem fs_Measures_places : (fs_Measures a0 a1 a2 a3 a4 a5 a6 a7 a8 a9).lookup ("places" : Str) = some a6 := rfl
theorem fs_Measures_window : (fs_Measures a0 a1 a2 a3 a4 a5 a6 a7 a8 a9).lookup ("window" : Str) = some a7 := rfl
theorem fs_Measures_wait : (fs_Measures a0 a1 a2 a3 a4 a5 a6 a7 a8 a9).lookup ("wait" : Str) = some a8 := rfl
theorem fq_Measures_0 {v : V} : putF "hands" v ([] : List (Str × V)) = ([("hands", v)] : List (Str × V)) := by with_unfolding_all rfl
theorem fq_Measures_1 {v : V} : putF "lag" v ([("hands", a0)] : List (Str × V)) = ([("hands", a0), ("lag", v)] : List (Str × V)) := by with_unfolding_all rfl
theorem fq_Measures_2 {v : V} : putF "miss" v ([("hands", a0), ("lag", a1)] : List (Str × V)) = ([("hands", a0), ("lag", a1), ("miss", v)] : List (Str × V)) := by with_unfolding_all rfl
theorem fq_Measures_3 {v : V} : putF "raise_each" v ([("hands", a0), ("lag", a1), ("miss", a2)] : List (Str × V)) = ([("hands", a0), ("lag", a1), ("miss", a2), ("raise_each", v)] : List (Str × V)) := by with_unfolding_all rfl
theorem fq_Measures_4 {v : V} : putF "count" v ([("hands", a0), ("lag", a1), ("miss", a2), ("raise_each", a3)] : List (Str × V)) = ([("hands", a0), ("lag", a1), ("miss", a2), ("raise_each", a3), ("count", v)] : List (Str × V)) := by with_unfolding_all rfl
theorem fq_Measures_5 {v : V} : putF "room" v ([("hands", a0), ("lag", a1), ("miss", a2), ("raise_each", a3), ("count", a4)] : List (Str × V)) = ([("hands", a0), ("lag", a1), ("miss", a2), ("raise_each", a3), ("count", a4), ("room", v)] : List (Str × V)) := by with_unfolding_all rfl
theorem fq_Measures_6 {v : V} : putF "places" v ([("hands", a0), ("lag", a1), ("miss", a2), ("raise_each", a3), ("count", a4), ("room", a5)] : List (Str × V)) = ([("hands", a0), ("lag", a1), ("miss", a2), ("raise_each", a3), ("count", a4), ("room", a5), ("places", v)] : List (Str × V)) := by with_unfolding_all rfl
theorem fq_Measures_7 {v : V} : putF "window" v ([("hands", a0), ("lag", a1), ("miss", a2), ("raise_each", a3), ("count", a4), ("room", a5), ("places", a6)] : List (Str × V)) = ([("hands", a0), ("lag", a1), ("miss", a2), ("raise_each", a3), ("count", a4), ("room", a5), ("places", a6), ("window", v)] : List (Str × V)) := by with_unfolding_all rfl
theorem fq_Measures_8 {v : V} : putF "wait" v ([("hands", a0), ("lag", a1), ("miss", a2), ("raise_each", a3), ("count", a4), ("room", a5), ("places", a6), ("window", a7)] : List (Str × V)) = ([("hands", a0), ("lag", a1), ("miss", a2), ("raise_each", a3), ("count", a4), ("room", a5), ("places", a6), ("window", a7), ("wait", v)] : List (Str × V)) := by with_unfolding_all rfl
theorem fq_Measures_9 {v : V} : putF "keep" v ([("hands", a0), ("lag", a1), ("miss", a2), ("raise_each", a3), ("count", a4), ("room", a5), ("places", a6), ("window", a7), ("wait", a8)] : List (Str × V)) = fs_Measures a0 a1 a2 a3 a4 a5 a6 a7 a8 v := by with_unfolding_all rfl
end
abbrev s_is_whole : Stmt := top 4
theorem sc_is_whole : FnScope ["thing"] ["thing"] (defScope s_is_whole) := ⟨rfl, rfl, rfl, by decide +kernel, rfl, by decide +kernel, by decide +kernel⟩
abbrev s_is_within : Stmt := top 5
theorem sc_is_within : FnScope ["thing", "least", "most"] ["thing", "least", "most"] (defScope s_is_within) := ⟨rfl, rfl, rfl, by decide +kernel, rfl, by decide +kernel, by decide +kernel⟩
abbrev s_refuse_bad_measures : Stmt := top 18
theorem sc_refuse_bad_measures : FnScope ["numbers", "number", "bound", "name", "least", "most"] ["numbers"] (defScope s_refuse_bad_measures) := ⟨rfl, rfl, rfl, by decide +kernel, rfl, by decide +kernel, by decide +kernel⟩
abbrev s_Measures___init__ : Stmt := inClass (top 19) 0
theorem sc_Measures___init__ : FnScope ["self", "hands", "lag", "miss", "raise_each", "count", "room", "places", "window", "wait", "keep"] ["self", "hands", "lag", "miss", "raise_each", "count", "room", "places", "window", "wait", "keep"] (defScope s_Measures___init__) := ⟨rfl, rfl, rfl, by decide +kernel, rfl, by decide +kernel, by decide +kernel⟩
abbrev s_rounded_up : Stmt := top 8
theorem sc_rounded_up : FnScope ["number", "by"] ["number", "by"] (defScope s_rounded_up) := ⟨rfl, rfl, rfl, by decide +kernel, rfl, by decide +kernel, by decide +kernel⟩
abbrev s_letter_turns : Stmt := top 9
theorem sc_letter_turns : FnScope ["measures", "fair"] ["measures", "fair"] (defScope s_letter_turns) := ⟨rfl, rfl, rfl, by decide +kernel, rfl, by decide +kernel, by decide +kernel⟩
abbrev s_settled_turn : Stmt := top 10
theorem sc_settled_turn : FnScope ["measures", "fair", "last", "first"] ["measures", "fair", "last"] (defScope s_settled_turn) := ⟨rfl, rfl, rfl, by decide +kernel, rfl, by decide +kernel, by decide +kernel⟩
abbrev s_crossing_turns : Stmt := top 11
theorem sc_crossing_turns : FnScope ["measures", "fair", "keys", "rounds"] ["measures", "fair", "keys"] (defScope s_crossing_turns) := ⟨rfl, rfl, rfl, by decide +kernel, rfl, by decide +kernel, by decide +kernel⟩
abbrev s_ways_hold : Stmt := top 14
theorem sc_ways_hold : FnScope ["measures", "fair", "turns"] ["measures", "fair"] (defScope s_ways_hold) := ⟨rfl, rfl, rfl, by decide +kernel, rfl, by decide +kernel, by decide +kernel⟩
def sp_whole : Sp := fun vs H Q _ => ∃ i : Int, vs = [.int i] ∧ Q (.bl true) H
theorem own_whole (D : Def K mg "is_whole" s_is_whole) (hb : Blt mg) : Own P w K mg base 1 "is_whole" ["thing"] sp_whole := by
  refine D.own sc_is_whole (fun _ _ _ _ _ _ us hl => match us, hl with | [_], _ => rfl) (fun vs H Q E h => ?_) (fun f cdv A outer s H vs Q E hr h => ?_)
  · obtain ⟨i, rfl, _⟩ := h
    rfl
  · obtain ⟨i, rfl, q⟩ := h
    refine ⟨_, (@pss_one _ _ _ (@ps_ret _ _ _ _ (@pe_and _ _ _ _ _ _ _ (@pe_callB _ _ _ _ _ _ _ _ _ call_isiX rfl (hb _ (by decide)) bt_isinstance (@pa_cX _ _ _ _ _ (@pv _ 0 _ _ (by rfl) (by first | exact Or.inl rfl | exact Or.inr (Or.inl rfl) | exact Or.inr (Or.inr rfl)) (by decide) (by decide)) (@pa_cX _ _ _ _ _ (@pe_bltn _ _ (.ty "int") _ _ rfl (hb _ (by decide)) bt_int rfl (by decide) (by decide)) (@pa_nil _) (by rfl)) (by rfl)) (by decide) (by decide) (by rfl) (by rfl)) (@pe_one _ _ _ _ _ (@pe_not _ _ _ _ (@pe_callB _ _ _ _ _ _ _ _ _ call_isiX rfl (hb _ (by decide)) bt_isinstance (@pa_cX _ _ _ _ _ (@pv _ 0 _ _ (by rfl) (by first | exact Or.inl rfl | exact Or.inr (Or.inl rfl) | exact Or.inr (Or.inr rfl)) (by decide) (by decide)) (@pa_cX _ _ _ _ _ (@pe_bltn _ _ (.ty "bool") _ _ rfl (hb _ (by decide)) bt_bool rfl (by decide) (by decide)) (@pa_nil _) (by rfl)) (by rfl)) (by decide) (by decide) (by rfl) (by rfl))))))), ?_⟩
    simp (maxSteps := 1000000) only [rIsIX, tyX_i, V.ty.injEq, kT_inin, kT_inbo, Nat.reduceSub, Nat.reduceAdd, V.ty.injEq, Bool.not_false, List.cons.injEq, exists_and_left, if_true, tVar, tC, tRet, tAndV, tNotV, tCons, tNil, tCB, L2.start, List.map_cons, List.map_nil, List.length_cons, List.length_nil, List.replicate, List.getElem?_cons_zero, Option.some.injEq, exists_eq_left', V.bl.injEq, and_true, and_assoc, List.append_nil]
    exact q
def sp_within : Sp := fun vs H Q _ => ∃ i a b : Int, vs = [.int i, .int a, .int b] ∧ a ≤ i ∧ i ≤ b ∧ Q (.bl true) H
theorem own_within (D : Def K mg "is_within" s_is_within) (F_is_whole : Own P w K mg base 1 "is_whole" ["thing"] sp_whole) : Own P w K mg base 2 "is_within" ["thing", "least", "most"] sp_within := by
  refine D.own sc_is_within (fun _ _ _ _ _ _ us hl => match us, hl with | [_, _, _], _ => rfl) (fun vs H Q E h => ?_) (fun f cdv A outer s H vs Q E hr h => ?_)
  · obtain ⟨i, a, b, rfl, _⟩ := h
    rfl
  · obtain ⟨i, a, b, rfl, h1, h2, q⟩ := h
    refine ⟨_, (@pss_one _ _ _ (@ps_ret _ _ _ _ (@pe_and _ _ _ _ _ _ _ (@pe_fn _ _ _ _ _ _ _ _ _ _ _ F_is_whole hr (@pa_cX _ _ _ _ _ (@pv _ 0 _ _ (by rfl) (by first | exact Or.inl rfl | exact Or.inr (Or.inl rfl) | exact Or.inr (Or.inr rfl)) (by decide) (by decide)) (@pa_nil _) (by rfl)) (by decide) (by rfl) (by decide) (by rfl) (by rfl)) (@pe_one _ _ _ _ _ (@pe_chain _ _ _ _ _ _ _ _ _ _ _ _ op_le op_le (@pv _ 1 _ _ (by rfl) (by first | exact Or.inl rfl | exact Or.inr (Or.inl rfl) | exact Or.inr (Or.inr rfl)) (by decide) (by decide)) (@pv _ 0 _ _ (by rfl) (by first | exact Or.inl rfl | exact Or.inr (Or.inl rfl) | exact Or.inr (Or.inr rfl)) (by decide) (by decide)) (@pv _ 2 _ _ (by rfl) (by first | exact Or.inl rfl | exact Or.inr (Or.inl rfl) | exact Or.inr (Or.inr rfl)) (by decide) (by decide)) (by with_unfolding_all rfl)))))), ?_⟩
    simp (maxSteps := 1000000) only [Nat.reduceSub, Nat.reduceAdd, List.cons.injEq, exists_and_left, if_true, tVar, rI0, tRet, tAndV, tCall, tCons, tNil, tChain, L2.start, List.map_cons, List.map_nil, List.length_cons, List.length_nil, List.replicate, List.getElem?_cons_zero, List.getElem?_cons_succ, Option.some.injEq, exists_eq_left', V.int.injEq, V.bl.injEq, and_true, List.append_nil, sp_whole]
    rw [decide_eq_true h1, decide_eq_true h2]
    exact iteT q
/-- the bounds, as they lie in the program -/
def bds : List (String × Int × Int) := [("hands", 2, 12), ("lag", 1, 32), ("miss", 1, 400), ("raise", 1, 1000), ("count", 0, 60), ("room", 1, 16), ("places", 1, 16), ("window", 1, 60), ("wait", 1, 10000), ("keep", 0, 10000)]
structure BdAt (K : PySem.W.Frag) (mg : Str → Option Value) (a : Addr) (bs : List Addr) : Prop where
  g : ∃ u, mg "BOUNDS" = some u ∧ RelV (.ref a) u
  t : ∀ H, SqT K H a (bs.map V.ref)
  e : ∀ (i : Nat) b (q : String × Int × Int), bs[i]? = some b → bds[i]? = some q → ∀ H, SqT K H b [.str (Str.ofString q.1), .int q.2.1, .int q.2.2]
  l : bs.length = 10
def inB (ns : List Int) : Prop := ns.length = 10 ∧ ∀ (i : Nat) n (q : String × Int × Int), ns[i]? = some n → bds[i]? = some q → q.2.1 ≤ n ∧ n ≤ q.2.2
def sp_rbm : Sp := fun vs H Q _ => ∃ (p : Addr) (ns : List Int), vs = [.ref p] ∧ H p = some (.lst (ns.map V.int)) ∧ inB ns ∧ ∀ H', Same H H' → Q .non H'
theorem own_rbm {a : Addr} {bs : List Addr} (D : Def K mg "refuse_bad_measures" s_refuse_bad_measures) (hb : Blt mg) (hzip : mg "zip" = none) (B : BdAt K mg a bs) (F_is_within : Own P w K mg base 2 "is_within" ["thing", "least", "most"] sp_within) : Own P w K mg base 3 "refuse_bad_measures" ["numbers"] sp_rbm := by
  have g_BOUNDS := B.g
  refine D.own sc_refuse_bad_measures (fun _ _ _ _ _ _ us hl => match us, hl with | [_], _ => rfl) (fun vs H Q E h => ?_) (fun f cdv A outer s H vs Q E hr h => ?_)
  · obtain ⟨p, ns, rfl, _⟩ := h
    rfl
  · obtain ⟨p, ns, rfl, ep, hi, q⟩ := h
    have hu := hr.units
    have hu1 : (A.deeper (PyProof.Rows.envOfC "refuse_bad_measures" (defScope s_refuse_bad_measures) s.heap.objs.size f cdv)).units + 1 < cLine := by omega
    refine ⟨_, (@pss_one _ _ _ (@ps_for _ _ _ _ _ _ _ _ PassesOwn.never rfl (@pi_zip _ K _ _ _ _ _ _ _ _ rfl hzip (@pa_cX _ _ _ _ _ (@pv _ 0 _ _ (by rfl) (by first | exact Or.inl rfl | exact Or.inr (Or.inl rfl) | exact Or.inr (Or.inr rfl)) (by decide) (by decide)) (@pa_cX _ _ _ _ _ (@pe_glb _ _ _ _ g_BOUNDS (by rfl) (by decide)) (@pa_nil _) (by rfl)) (by rfl)) (by rfl) (by rfl) (by rfl)) (@pg_seqX _ _ _ _ 2 _ rfl (@pgs_cons _ _ _ _ _ (@pg_name _ _ 1 _ sc_refuse_bad_measures.nd rfl (by first | exact Or.inl rfl | exact Or.inr rfl) (by first | exact .inl rfl | exact .inr rfl | assumption)) (@pgs_cons _ _ _ _ _ (@pg_name _ _ 2 _ sc_refuse_bad_measures.nd rfl (by first | exact Or.inl rfl | exact Or.inr rfl) (by first | exact .inl rfl | exact .inr rfl | assumption)) (@pgs_nil _) (by rfl)) (by rfl)) (by rfl) (by rfl)) (@pss_cons _ _ _ _ _ (@ps_set _ _ 3 _ _ _ _ sc_refuse_bad_measures.nd rfl (by first | exact Or.inl rfl | exact Or.inr rfl) (@pe_ix _ _ _ _ _ _ _ (ix_tupK K) (@pv _ 2 _ _ (by rfl) (by first | exact Or.inl rfl | exact Or.inr (Or.inl rfl) | exact Or.inr (Or.inr rfl)) (by decide) (by decide)) (@pe_int _ _ _ _) (fun _ _ => rfl)) (by rfl) (by first | exact .inl rfl | exact .inr rfl | assumption)) (@pss_cons _ _ _ _ _ (@ps_set _ _ 4 _ _ _ _ sc_refuse_bad_measures.nd rfl (by first | exact Or.inl rfl | exact Or.inr rfl) (@pe_ix _ _ _ _ _ _ _ (ix_tupK K) (@pv _ 2 _ _ (by rfl) (by first | exact Or.inl rfl | exact Or.inr (Or.inl rfl) | exact Or.inr (Or.inr rfl)) (by decide) (by decide)) (@pe_int _ _ _ _) (fun _ _ => rfl)) (by rfl) (by first | exact .inl rfl | exact .inr rfl | assumption)) (@pss_cons _ _ _ _ _ (@ps_set _ _ 5 _ _ _ _ sc_refuse_bad_measures.nd rfl (by first | exact Or.inl rfl | exact Or.inr rfl) (@pe_ix _ _ _ _ _ _ _ (ix_tupK K) (@pv _ 2 _ _ (by rfl) (by first | exact Or.inl rfl | exact Or.inr (Or.inl rfl) | exact Or.inr (Or.inr rfl)) (by decide) (by decide)) (@pe_int _ _ _ _) (fun _ _ => rfl)) (by rfl) (by first | exact .inl rfl | exact .inr rfl | assumption)) (@pss_one _ _ _ (@ps_if _ _ _ _ _ _ _ _ (@pt_not _ _ _ _ (@pt_truX _ _ _ (@pe_fn _ _ _ _ _ _ _ _ _ _ _ F_is_within hr (@pa_cX _ _ _ _ _ (@pv _ 1 _ _ (by rfl) (by first | exact Or.inl rfl | exact Or.inr (Or.inl rfl) | exact Or.inr (Or.inr rfl)) (by decide) (by decide)) (@pa_cX _ _ _ _ _ (@pv _ 4 _ _ (by rfl) (by first | exact Or.inl rfl | exact Or.inr (Or.inl rfl) | exact Or.inr (Or.inr rfl)) (by decide) (by decide)) (@pa_cX _ _ _ _ _ (@pv _ 5 _ _ (by rfl) (by first | exact Or.inl rfl | exact Or.inr (Or.inl rfl) | exact Or.inr (Or.inr rfl)) (by decide) (by decide)) (@pa_nil _) (by rfl)) (by rfl)) (by rfl)) (by decide) (by rfl) (by decide) (by rfl) (by rfl)) (by intro _; rfl))) (@pss_one _ _ _ (@ps_never _ _)) (@pss_nil _)))))) (by intro _; rfl))), ?_⟩
    simp (maxSteps := 1000000) only [tFor_eq, Nat.reduceSub, Nat.reduceAdd, List.cons.injEq, exists_and_left, tVar, tC, tCons, tNil, L2.start, List.map_cons, List.map_nil, List.length_cons, List.length_nil, List.replicate, List.cons_append, List.nil_append, List.getElem?_cons_zero, Option.some.injEq, exists_eq_left', V.ref.injEq, and_true, and_assoc, iZip]
    refine ⟨⟨_, SqL.of ep⟩, ⟨_, B.t H⟩, for_zip (xs := ns.map V.int) (ys := bs.map V.ref) (by rw [List.length_map, List.length_map, hi.1, B.l]; exact Nat.le_refl _) (fun i σ H' => Same H H' ∧ ∃ v1 v2 v3 v4 v5, σ = [some (.ref p), v1, v2, v3, v4, v5]) ⟨.refl _, _, _, _, _, _, rfl⟩ ?_ ?_ ?_⟩
    · rintro i σ H' _ ⟨s', _⟩
      exact ⟨SqL.of (s' _ _ ep), B.t H'⟩
    · rintro i x y pp σ H' hx hy np ⟨s', v1, v2, v3, v4, v5, rfl⟩
      rw [List.getElem?_map] at hx hy
      obtain ⟨n, hn, rfl⟩ := Option.map_eq_some_iff.mp hx
      obtain ⟨b, hb', rfl⟩ := Option.map_eq_some_iff.mp hy
      have hi10 : i < bds.length := by
        have := (List.getElem?_eq_some_iff.mp hn).1
        have h10 : bds.length = 10 := rfl
        rw [hi.1] at this
        omega
      have hq : bds[i]? = some bds[i] := List.getElem?_eq_getElem hi10
      have hin := hi.2 i n _ hn hq
      have hbt := B.e i b _ hb' hq
      have epp : upd H' pp (.tup [.int n, .ref b]) pp = some (.tup [.int n, .ref b]) := upd_same
      have s2 : Same H (upd H' pp (.tup [.int n, .ref b])) := s'.upd (s'.free np)
      generalize upd H' pp (.tup [.int n, .ref b]) = H2 at epp s2 ⊢
      simp (maxSteps := 1000000) only [gSeqX, tTruX, seqO_t, gCons, gNil, Nat.reduceAdd, tNever, exists_eq', rIxT, List.cons.injEq, tSeq, exists_and_left, tIfS, tNot, tOp, tVar, tC, tAsg, gName, tNext, tCall, tCons, tNil, List.length_cons, List.length_nil, List.getElem?_cons_zero, List.getElem?_cons_succ, List.set_cons_zero, List.set_cons_succ, Option.some.injEq, exists_eq_left', V.int.injEq, V.ref.injEq, and_true, true_and, and_assoc, List.append_nil, epp]
      exact ⟨_, hbt H2, _, rfl, _, hbt H2, _, rfl, _, hbt H2, _, rfl, n, _, _, rfl, hin.1, hin.2, true, rfl, by simpa using s2⟩
    · rintro σ H' ⟨s', _⟩
      exact q _ s'
structure Ms where
  hands : Int
  lag : Int
  miss : Int
  each : Int
  count : Int
  room : Int
  places : Int
  window : Int
  wait : Int
  keep : Int
def Ms.l (m : Ms) : List Int := [m.hands, m.lag, m.miss, m.each, m.count, m.room, m.places, m.window, m.wait, m.keep]
abbrev fsM (m : Ms) : List (Str × V) := fs_Measures (.int m.hands) (.int m.lag) (.int m.miss) (.int m.each) (.int m.count) (.int m.room) (.int m.places) (.int m.window) (.int m.wait) (.int m.keep)
def sp_minit (C : Addr) : Sp := fun vs H Q _ => ∃ (x dx : Addr) (m : Ms), vs = [.ref x, .int m.hands, .int m.lag, .int m.miss, .int m.each, .int m.count, .int m.room, .int m.places, .int m.window, .int m.wait, .int m.keep] ∧ H x = some (.ins C dx []) ∧ inB m.l ∧ ∀ H', H' x = some (.ins C dx (fsM m)) → Keep [x] H H' → Q .non H'
theorem cons_of {α : Type} {us : List α} {n : Nat} (h : us.length = n + 1) : ∃ a r, us = a :: r ∧ r.length = n := by
  cases us with
  | nil => cases h
  | cons a r => exact ⟨a, r, rfl, Nat.succ.inj h⟩
abbrev mσ (x : Addr) (a0 a1 a2 a3 a4 a5 a6 a7 a8 a9 : Int) : St := [some (.ref x), some (.int a0), some (.int a1), some (.int a2), some (.int a3), some (.int a4), some (.int a5), some (.int a6), some (.int a7), some (.int a8), some (.int a9)]
set_option maxHeartbeats 8000000 in
theorem own_minit (D : DefI K C "Measures.__init__" s_Measures___init__) (T_Measures : ClsD K mg "Measures" C at_Measures) (F_refuse_bad_measures : Own P w K mg base 3 "refuse_bad_measures" ["numbers"] sp_rbm) : OwnI P w K mg base 4 C ["self", "hands", "lag", "miss", "raise_each", "count", "room", "places", "window", "wait", "keep"] (sp_minit C) := by
  refine D.own sc_Measures___init__ (fun _ _ _ _ _ _ us hl => by
    obtain ⟨b0, u0, rfl, h0⟩ := cons_of hl
    obtain ⟨b1, u1, rfl, h1⟩ := cons_of h0
    obtain ⟨b2, u2, rfl, h2⟩ := cons_of h1
    obtain ⟨b3, u3, rfl, h3⟩ := cons_of h2
    obtain ⟨b4, u4, rfl, h4⟩ := cons_of h3
    obtain ⟨b5, u5, rfl, h5⟩ := cons_of h4
    obtain ⟨b6, u6, rfl, h6⟩ := cons_of h5
    obtain ⟨b7, u7, rfl, h7⟩ := cons_of h6
    obtain ⟨b8, u8, rfl, h8⟩ := cons_of h7
    obtain ⟨b9, u9, rfl, h9⟩ := cons_of h8
    obtain ⟨b10, u10, rfl, h10⟩ := cons_of h9
    obtain rfl := List.length_eq_zero_iff.mp h10
    rfl) (fun vs H Q E h => ?_) (fun f cdv A outer s H vs Q E hr h => ?_)
  · obtain ⟨x, dx, m, rfl, _⟩ := h
    rfl
  · obtain ⟨x, dx, m, rfl, e, hi, q⟩ := h
    refine ⟨_, (@pss_cons _ _ _ _ _ (@ps_expr _ _ _ _ (@pe_fn _ _ _ _ _ _ _ _ _ _ _ F_refuse_bad_measures hr (@pa_cX _ _ _ _ _ (@pe_lst _ _ _ _ (@pa_cX _ _ _ _ _ (@pv _ 1 _ _ (by rfl) (by first | exact Or.inl rfl | exact Or.inr (Or.inl rfl) | exact Or.inr (Or.inr rfl)) (by decide) (by decide)) (@pa_cX _ _ _ _ _ (@pv _ 2 _ _ (by rfl) (by first | exact Or.inl rfl | exact Or.inr (Or.inl rfl) | exact Or.inr (Or.inr rfl)) (by decide) (by decide)) (@pa_cX _ _ _ _ _ (@pv _ 3 _ _ (by rfl) (by first | exact Or.inl rfl | exact Or.inr (Or.inl rfl) | exact Or.inr (Or.inr rfl)) (by decide) (by decide)) (@pa_cX _ _ _ _ _ (@pv _ 4 _ _ (by rfl) (by first | exact Or.inl rfl | exact Or.inr (Or.inl rfl) | exact Or.inr (Or.inr rfl)) (by decide) (by decide)) (@pa_cX _ _ _ _ _ (@pv _ 5 _ _ (by rfl) (by first | exact Or.inl rfl | exact Or.inr (Or.inl rfl) | exact Or.inr (Or.inr rfl)) (by decide) (by decide)) (@pa_cX _ _ _ _ _ (@pv _ 6 _ _ (by rfl) (by first | exact Or.inl rfl | exact Or.inr (Or.inl rfl) | exact Or.inr (Or.inr rfl)) (by decide) (by decide)) (@pa_cX _ _ _ _ _ (@pv _ 7 _ _ (by rfl) (by first | exact Or.inl rfl | exact Or.inr (Or.inl rfl) | exact Or.inr (Or.inr rfl)) (by decide) (by decide)) (@pa_cX _ _ _ _ _ (@pv _ 8 _ _ (by rfl) (by first | exact Or.inl rfl | exact Or.inr (Or.inl rfl) | exact Or.inr (Or.inr rfl)) (by decide) (by decide)) (@pa_cX _ _ _ _ _ (@pv _ 9 _ _ (by rfl) (by first | exact Or.inl rfl | exact Or.inr (Or.inl rfl) | exact Or.inr (Or.inr rfl)) (by decide) (by decide)) (@pa_cX _ _ _ _ _ (@pv _ 10 _ _ (by rfl) (by first | exact Or.inl rfl | exact Or.inr (Or.inl rfl) | exact Or.inr (Or.inr rfl)) (by decide) (by decide)) (@pa_nil _) (by rfl)) (by rfl)) (by rfl)) (by rfl)) (by rfl)) (by rfl)) (by rfl)) (by rfl)) (by rfl)) (by rfl))) (@pa_nil _) (by rfl)) (by decide) (by rfl) (by decide) (by rfl) (by rfl)) (by rfl)) (@pss_cons _ _ _ _ _ (@ps_fld _ _ _ _ _ _ _ _ (@pv _ 0 _ _ (by rfl) (by first | exact Or.inl rfl | exact Or.inr (Or.inl rfl) | exact Or.inr (Or.inr rfl)) (by decide) (by decide)) (@pv _ 1 _ _ (by rfl) (by first | exact Or.inl rfl | exact Or.inr (Or.inl rfl) | exact Or.inr (Or.inr rfl)) (by decide) (by decide)) rfl) (@pss_cons _ _ _ _ _ (@ps_fld _ _ _ _ _ _ _ _ (@pv _ 0 _ _ (by rfl) (by first | exact Or.inl rfl | exact Or.inr (Or.inl rfl) | exact Or.inr (Or.inr rfl)) (by decide) (by decide)) (@pv _ 2 _ _ (by rfl) (by first | exact Or.inl rfl | exact Or.inr (Or.inl rfl) | exact Or.inr (Or.inr rfl)) (by decide) (by decide)) rfl) (@pss_cons _ _ _ _ _ (@ps_fld _ _ _ _ _ _ _ _ (@pv _ 0 _ _ (by rfl) (by first | exact Or.inl rfl | exact Or.inr (Or.inl rfl) | exact Or.inr (Or.inr rfl)) (by decide) (by decide)) (@pv _ 3 _ _ (by rfl) (by first | exact Or.inl rfl | exact Or.inr (Or.inl rfl) | exact Or.inr (Or.inr rfl)) (by decide) (by decide)) rfl) (@pss_cons _ _ _ _ _ (@ps_fld _ _ _ _ _ _ _ _ (@pv _ 0 _ _ (by rfl) (by first | exact Or.inl rfl | exact Or.inr (Or.inl rfl) | exact Or.inr (Or.inr rfl)) (by decide) (by decide)) (@pv _ 4 _ _ (by rfl) (by first | exact Or.inl rfl | exact Or.inr (Or.inl rfl) | exact Or.inr (Or.inr rfl)) (by decide) (by decide)) rfl) (@pss_cons _ _ _ _ _ (@ps_fld _ _ _ _ _ _ _ _ (@pv _ 0 _ _ (by rfl) (by first | exact Or.inl rfl | exact Or.inr (Or.inl rfl) | exact Or.inr (Or.inr rfl)) (by decide) (by decide)) (@pv _ 5 _ _ (by rfl) (by first | exact Or.inl rfl | exact Or.inr (Or.inl rfl) | exact Or.inr (Or.inr rfl)) (by decide) (by decide)) rfl) (@pss_cons _ _ _ _ _ (@ps_fld _ _ _ _ _ _ _ _ (@pv _ 0 _ _ (by rfl) (by first | exact Or.inl rfl | exact Or.inr (Or.inl rfl) | exact Or.inr (Or.inr rfl)) (by decide) (by decide)) (@pv _ 6 _ _ (by rfl) (by first | exact Or.inl rfl | exact Or.inr (Or.inl rfl) | exact Or.inr (Or.inr rfl)) (by decide) (by decide)) rfl) (@pss_cons _ _ _ _ _ (@ps_fld _ _ _ _ _ _ _ _ (@pv _ 0 _ _ (by rfl) (by first | exact Or.inl rfl | exact Or.inr (Or.inl rfl) | exact Or.inr (Or.inr rfl)) (by decide) (by decide)) (@pv _ 7 _ _ (by rfl) (by first | exact Or.inl rfl | exact Or.inr (Or.inl rfl) | exact Or.inr (Or.inr rfl)) (by decide) (by decide)) rfl) (@pss_cons _ _ _ _ _ (@ps_fld _ _ _ _ _ _ _ _ (@pv _ 0 _ _ (by rfl) (by first | exact Or.inl rfl | exact Or.inr (Or.inl rfl) | exact Or.inr (Or.inr rfl)) (by decide) (by decide)) (@pv _ 8 _ _ (by rfl) (by first | exact Or.inl rfl | exact Or.inr (Or.inl rfl) | exact Or.inr (Or.inr rfl)) (by decide) (by decide)) rfl) (@pss_cons _ _ _ _ _ (@ps_fld _ _ _ _ _ _ _ _ (@pv _ 0 _ _ (by rfl) (by first | exact Or.inl rfl | exact Or.inr (Or.inl rfl) | exact Or.inr (Or.inr rfl)) (by decide) (by decide)) (@pv _ 9 _ _ (by rfl) (by first | exact Or.inl rfl | exact Or.inr (Or.inl rfl) | exact Or.inr (Or.inr rfl)) (by decide) (by decide)) rfl) (@pss_one _ _ _ (@ps_fld _ _ _ _ _ _ _ _ (@pv _ 0 _ _ (by rfl) (by first | exact Or.inl rfl | exact Or.inr (Or.inl rfl) | exact Or.inr (Or.inr rfl)) (by decide) (by decide)) (@pv _ 10 _ _ (by rfl) (by first | exact Or.inl rfl | exact Or.inr (Or.inl rfl) | exact Or.inr (Or.inr rfl)) (by decide) (by decide)) rfl)))))))))))), ?_⟩
    obtain ⟨a0, a1, a2, a3, a4, a5, a6, a7, a8, a9⟩ := m
    dsimp only at hi q ⊢
    refine use1 (fun σ H' => σ = mσ x a0 a1 a2 a3 a4 a5 a6 a7 a8 a9 ∧ Same H H') ?_ (fun X hX => ?_)
    rotate_left
    · simp (maxSteps := 1000000) only [Nat.reduceSub, Nat.reduceAdd, tSeq, tVar, tCall, tCons, tNil, tDrop, tLst, L2.start, List.map_cons, List.map_nil, List.length_cons, List.length_nil, List.replicate, List.getElem?_cons_zero, List.getElem?_cons_succ, Option.some.injEq, exists_eq_left', List.append_nil]
      refine ⟨by rw [sizeLine_eq]; decide, ?_⟩
      intro p1 n1
      generalize z1 : upd H p1 _ = H1
      obtain ⟨s1, e1⟩ := new_same z1 n1
      exact ⟨p1, [a0, a1, a2, a3, a4, a5, a6, a7, a8, a9], rfl, e1, hi, fun H2 s2 => hX _ _ ⟨rfl, s1.trans s2⟩⟩
    rintro σ H1 ⟨rfl, s1⟩
    have e1 := s1 _ _ e
    have k1 : Keep [x] H H1 := s1.keep
    clear s1 e
    refine use3 (fun σ H' => σ = mσ x a0 a1 a2 a3 a4 a5 a6 a7 a8 a9 ∧ H' x = some (.ins C dx [(Str.ofString "hands", V.int a0), (Str.ofString "lag", V.int a1), (Str.ofString "miss", V.int a2)]) ∧ Keep [x] H H') ?_ (fun X hX => ?_)
    rotate_left
    · simp (maxSteps := 1000000) only [upd_same, upd_upd, Nat.reduceLT, HO.ins.injEq, Nat.reduceAdd, sFld, cxOf_K, tSeq, exists_and_left, tVar, List.length_cons, List.length_nil, List.getElem?_cons_zero, List.getElem?_cons_succ, Option.some.injEq, exists_eq_left', V.ref.injEq, true_and, and_assoc, e1, T_Measures.cl, T_Measures.no "hands" (by decide), T_Measures.no "lag" (by decide), T_Measures.no "miss" (by decide), fq_Measures_0, fq_Measures_1, fq_Measures_2, upd_same, upd_upd]
      exact hX _ _ ⟨rfl, upd_same, k1.upd (.inl (.head _))⟩
    clear e1 k1
    rintro σ H1 ⟨rfl, e1, k1⟩
    refine use3 (fun σ H' => σ = mσ x a0 a1 a2 a3 a4 a5 a6 a7 a8 a9 ∧ H' x = some (.ins C dx [(Str.ofString "hands", V.int a0), (Str.ofString "lag", V.int a1), (Str.ofString "miss", V.int a2), (Str.ofString "raise_each", V.int a3), (Str.ofString "count", V.int a4), (Str.ofString "room", V.int a5)]) ∧ Keep [x] H H') ?_ (fun X hX => ?_)
    rotate_left
    · simp (maxSteps := 1000000) only [upd_same, upd_upd, Nat.reduceLT, HO.ins.injEq, Nat.reduceAdd, sFld, cxOf_K, tSeq, exists_and_left, tVar, List.length_cons, List.length_nil, List.getElem?_cons_zero, List.getElem?_cons_succ, Option.some.injEq, exists_eq_left', V.ref.injEq, true_and, and_assoc, e1, T_Measures.cl, T_Measures.no "raise_each" (by decide), T_Measures.no "count" (by decide), T_Measures.no "room" (by decide), fq_Measures_3, fq_Measures_4, fq_Measures_5, upd_same, upd_upd]
      exact hX _ _ ⟨rfl, upd_same, k1.upd (.inl (.head _))⟩
    clear e1 k1
    rintro σ H1 ⟨rfl, e1, k1⟩
    simp (maxSteps := 1000000) only [upd_same, upd_upd, Nat.reduceLT, HO.ins.injEq, Nat.reduceAdd, sFld, cxOf_K, tSeq, exists_and_left, tVar, List.length_cons, List.length_nil, List.getElem?_cons_zero, List.getElem?_cons_succ, Option.some.injEq, exists_eq_left', V.ref.injEq, true_and, and_assoc, e1, T_Measures.cl, T_Measures.no "places" (by decide), T_Measures.no "window" (by decide), T_Measures.no "wait" (by decide), T_Measures.no "keep" (by decide), fq_Measures_6, fq_Measures_7, fq_Measures_8, fq_Measures_9, upd_same, upd_upd]
    exact q _ upd_same (k1.upd (.inl (.head _)))
/-! ### what is reckoned -/
structure Bd (m : Ms) : Prop where
  h : 2 ≤ m.hands ∧ m.hands ≤ 12
  l : 1 ≤ m.lag ∧ m.lag ≤ 32
  r : 1 ≤ m.room ∧ m.room ≤ 16
  p : 1 ≤ m.places ∧ m.places ≤ 16
theorem Bd.of {m : Ms} (h : inB m.l) : Bd m :=
  ⟨h.2 0 _ _ rfl rfl, h.2 1 _ _ rfl rfl, h.2 5 _ _ rfl rfl, h.2 6 _ _ rfl rfl⟩
def stl (m : Ms) (fair last : Int) : Int := last + m.lag + m.miss + fair + 2 * m.each + (2 * m.hands + 2) * (fair + m.lag)
def rup (n b : Int) : Int := (n + b - 1) / b
def mx1 (k : Int) : Int := if 1 > k then 1 else k
def crs (m : Ms) (fair keys : Int) : Int := (m.hands - 1) * (rup (m.places * mx1 keys) m.room + 1) * 2 * (fair + m.lag)
def sp_rup : Sp := fun vs H Q _ => ∃ n b : Int, vs = [.int n, .int b] ∧ 1 ≤ b ∧ b ≤ 1000 ∧ Q (.int (rup n b)) H
theorem own_rup (D : Def K mg "rounded_up" s_rounded_up) : Own P w K mg base 1 "rounded_up" ["number", "by"] sp_rup := by
  refine D.own sc_rounded_up (fun _ _ _ _ _ _ us hl => match us, hl with | [_, _], _ => rfl) (fun vs H Q E h => ?_) (fun f cdv A outer s H vs Q E hr h => ?_)
  · obtain ⟨n, b, rfl, _⟩ := h
    rfl
  · obtain ⟨n, b, rfl, h1, h2, q⟩ := h
    refine ⟨_, (@pss_one _ _ _ (@ps_ret _ _ _ _ (@pe_op _ _ _ _ _ _ _ _ op_fdiv (@pe_op _ _ _ _ _ _ _ _ op_sub (@pe_op _ _ _ _ _ _ _ _ op_add (@pv _ 0 _ _ (by rfl) (by first | exact Or.inl rfl | exact Or.inr (Or.inl rfl) | exact Or.inr (Or.inr rfl)) (by decide) (by decide)) (@pv _ 1 _ _ (by rfl) (by first | exact Or.inl rfl | exact Or.inr (Or.inl rfl) | exact Or.inr (Or.inr rfl)) (by decide) (by decide))) (@pe_int _ _ _ _)) (@pv _ 1 _ _ (by rfl) (by first | exact Or.inl rfl | exact Or.inr (Or.inl rfl) | exact Or.inr (Or.inr rfl)) (by decide) (by decide))))), ?_⟩
    simp (maxSteps := 1000000) only [Nat.reduceSub, Nat.reduceAdd, exists_and_left, tOp, tVar, tC, rI, rI0, tRet, L2.start, List.map_cons, List.map_nil, List.length_cons, List.length_nil, List.replicate, List.getElem?_cons_zero, List.getElem?_cons_succ, Option.some.injEq, exists_eq_left', V.int.injEq, List.append_nil]
    exact ⟨⟨by omega, by omega⟩, q⟩
def sp_let (C : Addr) : Sp := fun vs H Q _ => ∃ (x dx : Addr) (m : Ms) (fair : Int), vs = [.ref x, .int fair] ∧ H x = some (.ins C dx (fsM m)) ∧ Q (.int (fair + m.lag)) H
theorem own_let (D : Def K mg "letter_turns" s_letter_turns) (T_Measures : ClsD K mg "Measures" C at_Measures) : Own P w K mg base 1 "letter_turns" ["measures", "fair"] (sp_let C) := by
  refine D.own sc_letter_turns (fun _ _ _ _ _ _ us hl => match us, hl with | [_, _], _ => rfl) (fun vs H Q E h => ?_) (fun f cdv A outer s H vs Q E hr h => ?_)
  · obtain ⟨x, dx, m, fair, rfl, _⟩ := h
    rfl
  · obtain ⟨x, dx, m, fair, rfl, ex, q⟩ := h
    refine ⟨_, (@pss_one _ _ _ (@ps_ret _ _ _ _ (@pe_op _ _ _ _ _ _ _ _ op_add (@pv _ 1 _ _ (by rfl) (by first | exact Or.inl rfl | exact Or.inr (Or.inl rfl) | exact Or.inr (Or.inr rfl)) (by decide) (by decide)) (@pe_fldK _ K _ _ _ _ (@pv _ 0 _ _ (by rfl) (by first | exact Or.inl rfl | exact Or.inr (Or.inl rfl) | exact Or.inr (Or.inr rfl)) (by decide) (by decide)) (by rfl) (by rfl))))), ?_⟩
    simp (maxSteps := 1000000) only [Nat.reduceSub, HO.ins.injEq, Nat.reduceAdd, tFld, exists_and_left, tOp, tVar, rI0, tRet, L2.start, List.map_cons, List.map_nil, List.length_cons, List.length_nil, List.replicate, List.getElem?_cons_zero, List.getElem?_cons_succ, Option.some.injEq, exists_eq_left', V.int.injEq, V.ref.injEq, true_and, and_assoc, List.append_nil, ex, T_Measures.cl, T_Measures.no "lag" (by decide), fs_Measures_lag]
    exact q
def sp_stl (C : Addr) : Sp := fun vs H Q _ => ∃ (x dx : Addr) (m : Ms) (fair last : Int), vs = [.ref x, .int fair, .int last] ∧ H x = some (.ins C dx (fsM m)) ∧ Bd m ∧ Q (.int (stl m fair last)) H
theorem own_stl (D : Def K mg "settled_turn" s_settled_turn) (T_Measures : ClsD K mg "Measures" C at_Measures) (F_letter_turns : Own P w K mg base 1 "letter_turns" ["measures", "fair"] (sp_let C)) : Own P w K mg base 2 "settled_turn" ["measures", "fair", "last"] (sp_stl C) := by
  refine D.own sc_settled_turn (fun _ _ _ _ _ _ us hl => match us, hl with | [_, _, _], _ => rfl) (fun vs H Q E h => ?_) (fun f cdv A outer s H vs Q E hr h => ?_)
  · obtain ⟨x, dx, m, fair, last, rfl, _⟩ := h
    rfl
  · obtain ⟨x, dx, m, fair, last, rfl, ex, B, q⟩ := h
    refine ⟨_, (@pss_cons _ _ _ _ _ (@ps_set _ _ 3 _ _ _ _ sc_settled_turn.nd rfl (by first | exact Or.inl rfl | exact Or.inr rfl) (@pe_op _ _ _ _ _ _ _ _ op_add (@pe_op _ _ _ _ _ _ _ _ op_add (@pe_op _ _ _ _ _ _ _ _ op_add (@pe_op _ _ _ _ _ _ _ _ op_add (@pv _ 2 _ _ (by rfl) (by first | exact Or.inl rfl | exact Or.inr (Or.inl rfl) | exact Or.inr (Or.inr rfl)) (by decide) (by decide)) (@pe_fldK _ K _ _ _ _ (@pv _ 0 _ _ (by rfl) (by first | exact Or.inl rfl | exact Or.inr (Or.inl rfl) | exact Or.inr (Or.inr rfl)) (by decide) (by decide)) (by rfl) (by rfl))) (@pe_fldK _ K _ _ _ _ (@pv _ 0 _ _ (by rfl) (by first | exact Or.inl rfl | exact Or.inr (Or.inl rfl) | exact Or.inr (Or.inr rfl)) (by decide) (by decide)) (by rfl) (by rfl))) (@pv _ 1 _ _ (by rfl) (by first | exact Or.inl rfl | exact Or.inr (Or.inl rfl) | exact Or.inr (Or.inr rfl)) (by decide) (by decide))) (@pe_op _ _ _ _ _ _ _ _ op_mul (@pe_int _ _ _ _) (@pe_fldK _ K _ _ _ _ (@pv _ 0 _ _ (by rfl) (by first | exact Or.inl rfl | exact Or.inr (Or.inl rfl) | exact Or.inr (Or.inr rfl)) (by decide) (by decide)) (by rfl) (by rfl)))) (by rfl) (by first | exact .inl rfl | exact .inr rfl | assumption)) (@pss_one _ _ _ (@ps_ret _ _ _ _ (@pe_op _ _ _ _ _ _ _ _ op_add (@pv _ 3 _ _ (by rfl) (by first | exact Or.inl rfl | exact Or.inr (Or.inl rfl) | exact Or.inr (Or.inr rfl)) (by decide) (by decide)) (@pe_op _ _ _ _ _ _ _ _ op_mul (@pe_op _ _ _ _ _ _ _ _ op_add (@pe_op _ _ _ _ _ _ _ _ op_mul (@pe_int _ _ _ _) (@pe_fldK _ K _ _ _ _ (@pv _ 0 _ _ (by rfl) (by first | exact Or.inl rfl | exact Or.inr (Or.inl rfl) | exact Or.inr (Or.inr rfl)) (by decide) (by decide)) (by rfl) (by rfl))) (@pe_int _ _ _ _)) (@pe_fn _ _ _ _ _ _ _ _ _ _ _ F_letter_turns hr (@pa_cX _ _ _ _ _ (@pv _ 0 _ _ (by rfl) (by first | exact Or.inl rfl | exact Or.inr (Or.inl rfl) | exact Or.inr (Or.inr rfl)) (by decide) (by decide)) (@pa_cX _ _ _ _ _ (@pv _ 1 _ _ (by rfl) (by first | exact Or.inl rfl | exact Or.inr (Or.inl rfl) | exact Or.inr (Or.inr rfl)) (by decide) (by decide)) (@pa_nil _) (by rfl)) (by rfl)) (by decide) (by rfl) (by decide) (by rfl) (by rfl))))))), ?_⟩
    simp (maxSteps := 1000000) only [Nat.reduceSub, HO.ins.injEq, Nat.reduceAdd, tFld, tSeq, exists_and_left, tOp, tVar, tC, rI, rI0, tRet, tAsg, gName, tCall, tCons, tNil, L2.start, List.map_cons, List.map_nil, List.length_cons, List.length_nil, List.replicate, List.cons_append, List.nil_append, List.getElem?_cons_zero, List.getElem?_cons_succ, List.set_cons_zero, List.set_cons_succ, Option.some.injEq, exists_eq_left', V.int.injEq, V.ref.injEq, true_and, and_assoc, List.append_nil, ex, T_Measures.cl, T_Measures.no "hands" (by decide), T_Measures.no "lag" (by decide), T_Measures.no "miss" (by decide), T_Measures.no "raise_each" (by decide), fs_Measures_hands, fs_Measures_lag, fs_Measures_miss, fs_Measures_raise_each]
    have := B.h
    refine ⟨.inl ⟨by decide, by decide⟩, .inl ⟨by decide, by decide⟩, x, dx, m, fair, rfl, ex, _, rfl, .inl ⟨by omega, by omega⟩, q⟩
def sp_crs (C : Addr) : Sp := fun vs H Q _ => ∃ (x dx : Addr) (m : Ms) (fair keys : Int), vs = [.ref x, .int fair, .int keys] ∧ H x = some (.ins C dx (fsM m)) ∧ Bd m ∧ 0 ≤ fair ∧ fair ≤ 100 ∧ Q (.int (crs m fair keys)) H
theorem own_crs (D : Def K mg "crossing_turns" s_crossing_turns) (hb : Blt mg) (T_Measures : ClsD K mg "Measures" C at_Measures) (F_letter_turns : Own P w K mg base 1 "letter_turns" ["measures", "fair"] (sp_let C)) (F_rounded_up : Own P w K mg base 1 "rounded_up" ["number", "by"] sp_rup) : Own P w K mg base 2 "crossing_turns" ["measures", "fair", "keys"] (sp_crs C) := by
  refine D.own sc_crossing_turns (fun _ _ _ _ _ _ us hl => match us, hl with | [_, _, _], _ => rfl) (fun vs H Q E h => ?_) (fun f cdv A outer s H vs Q E hr h => ?_)
  · obtain ⟨x, dx, m, fair, keys, rfl, _⟩ := h
    rfl
  · obtain ⟨x, dx, m, fair, keys, rfl, ex, B, hf0, hf1, q⟩ := h
    refine ⟨_, (@pss_cons _ _ _ _ _ (@ps_set _ _ 3 _ _ _ _ sc_crossing_turns.nd rfl (by first | exact Or.inl rfl | exact Or.inr rfl) (@pe_fn _ _ _ _ _ _ _ _ _ _ _ F_rounded_up hr (@pa_cX _ _ _ _ _ (@pe_op _ _ _ _ _ _ _ _ op_mul (@pe_fldK _ K _ _ _ _ (@pv _ 0 _ _ (by rfl) (by first | exact Or.inl rfl | exact Or.inr (Or.inl rfl) | exact Or.inr (Or.inr rfl)) (by decide) (by decide)) (by rfl) (by rfl)) (@pe_callB _ _ _ _ _ _ _ _ _ (call_max2 rfl) rfl (hb _ (by decide)) bt_max (@pa_cX _ _ _ _ _ (@pv _ 2 _ _ (by rfl) (by first | exact Or.inl rfl | exact Or.inr (Or.inl rfl) | exact Or.inr (Or.inr rfl)) (by decide) (by decide)) (@pa_cX _ _ _ _ _ (@pe_int _ _ _ _) (@pa_nil _) (by rfl)) (by rfl)) (by decide) (by decide) (by rfl) (by rfl))) (@pa_cX _ _ _ _ _ (@pe_fldK _ K _ _ _ _ (@pv _ 0 _ _ (by rfl) (by first | exact Or.inl rfl | exact Or.inr (Or.inl rfl) | exact Or.inr (Or.inr rfl)) (by decide) (by decide)) (by rfl) (by rfl)) (@pa_nil _) (by rfl)) (by rfl)) (by decide) (by rfl) (by decide) (by rfl) (by rfl)) (by rfl) (by first | exact .inl rfl | exact .inr rfl | assumption)) (@pss_one _ _ _ (@ps_ret _ _ _ _ (@pe_op _ _ _ _ _ _ _ _ op_mul (@pe_op _ _ _ _ _ _ _ _ op_mul (@pe_op _ _ _ _ _ _ _ _ op_mul (@pe_op _ _ _ _ _ _ _ _ op_sub (@pe_fldK _ K _ _ _ _ (@pv _ 0 _ _ (by rfl) (by first | exact Or.inl rfl | exact Or.inr (Or.inl rfl) | exact Or.inr (Or.inr rfl)) (by decide) (by decide)) (by rfl) (by rfl)) (@pe_int _ _ _ _)) (@pe_op _ _ _ _ _ _ _ _ op_add (@pv _ 3 _ _ (by rfl) (by first | exact Or.inl rfl | exact Or.inr (Or.inl rfl) | exact Or.inr (Or.inr rfl)) (by decide) (by decide)) (@pe_int _ _ _ _))) (@pe_int _ _ _ _)) (@pe_fn _ _ _ _ _ _ _ _ _ _ _ F_letter_turns hr (@pa_cX _ _ _ _ _ (@pv _ 0 _ _ (by rfl) (by first | exact Or.inl rfl | exact Or.inr (Or.inl rfl) | exact Or.inr (Or.inr rfl)) (by decide) (by decide)) (@pa_cX _ _ _ _ _ (@pv _ 1 _ _ (by rfl) (by first | exact Or.inl rfl | exact Or.inr (Or.inl rfl) | exact Or.inr (Or.inr rfl)) (by decide) (by decide)) (@pa_nil _) (by rfl)) (by rfl)) (by decide) (by rfl) (by decide) (by rfl) (by rfl)))))), ?_⟩
    simp (maxSteps := 1000000) only [Nat.reduceSub, HO.ins.injEq, Nat.reduceAdd, tFld, List.cons.injEq, tSeq, exists_and_left, tOp, tVar, tC, rI, rI0, tRet, tAsg, gName, tCall, tCons, tNil, tCB, L2.start, List.map_cons, List.map_nil, List.length_cons, List.length_nil, List.replicate, List.cons_append, List.nil_append, List.getElem?_cons_zero, List.getElem?_cons_succ, List.set_cons_zero, List.set_cons_succ, Option.some.injEq, exists_eq_left', V.int.injEq, V.ref.injEq, and_true, true_and, and_assoc, List.append_nil, ex, T_Measures.cl, T_Measures.no "room" (by decide), T_Measures.no "places" (by decide), fs_Measures_room, fs_Measures_places]
    have h1 := B.h
    have h2 := B.p
    have h3 := B.r
    have h4 := B.l
    refine ⟨.inl ⟨by omega, by omega⟩, _, _, rfl, h3.1, by omega, ?_⟩
    simp (maxSteps := 1000000) only [HO.ins.injEq, exists_and_left, Option.some.injEq, exists_eq_left', V.int.injEq, true_and, and_assoc, ex, T_Measures.cl, T_Measures.no "hands" (by decide), fs_Measures_hands]
    exact ⟨.inl ⟨by omega, by omega⟩, .inr ⟨by decide, by decide⟩, x, dx, m, fair, rfl, ex, _, rfl, .inr ⟨by omega, by omega⟩, q⟩
def wh (m : Ms) (fair : Int) : Bool := if m.miss < fair + m.lag ∨ m.each < (m.hands + 1) * (fair + m.lag) then false else decide (m.hands ≤ m.count)
def sp_wh (C : Addr) : Sp := fun vs H Q _ => ∃ (x dx : Addr) (m : Ms) (fair : Int), vs = [.ref x, .int fair] ∧ H x = some (.ins C dx (fsM m)) ∧ Bd m ∧ Q (.bl (wh m fair)) H
theorem own_wh (D : Def K mg "ways_hold" s_ways_hold) (T_Measures : ClsD K mg "Measures" C at_Measures) (F_letter_turns : Own P w K mg base 1 "letter_turns" ["measures", "fair"] (sp_let C)) : Own P w K mg base 2 "ways_hold" ["measures", "fair"] (sp_wh C) := by
  refine D.own sc_ways_hold (fun _ _ _ _ _ _ us hl => match us, hl with | [_, _], _ => rfl) (fun vs H Q E h => ?_) (fun f cdv A outer s H vs Q E hr h => ?_)
  · obtain ⟨x, dx, m, fair, rfl, _⟩ := h
    rfl
  · obtain ⟨x, dx, m, fair, rfl, ex, B, q⟩ := h
    refine ⟨_, (@pss_cons _ _ _ _ _ (@ps_set _ _ 2 _ _ _ _ sc_ways_hold.nd rfl (by first | exact Or.inl rfl | exact Or.inr rfl) (@pe_fn _ _ _ _ _ _ _ _ _ _ _ F_letter_turns hr (@pa_cX _ _ _ _ _ (@pv _ 0 _ _ (by rfl) (by first | exact Or.inl rfl | exact Or.inr (Or.inl rfl) | exact Or.inr (Or.inr rfl)) (by decide) (by decide)) (@pa_cX _ _ _ _ _ (@pv _ 1 _ _ (by rfl) (by first | exact Or.inl rfl | exact Or.inr (Or.inl rfl) | exact Or.inr (Or.inr rfl)) (by decide) (by decide)) (@pa_nil _) (by rfl)) (by rfl)) (by decide) (by rfl) (by decide) (by rfl) (by rfl)) (by rfl) (by first | exact .inl rfl | exact .inr rfl | assumption)) (@pss_cons _ _ _ _ _ (@ps_if _ _ _ _ _ _ _ _ (@PW.pt _ _ _ (@pw_or _ _ _ _ _ _ _ (@pt_cmpR _ _ _ _ _ _ _ _ op_lt (@pe_fldK _ K _ _ _ _ (@pv _ 0 _ _ (by rfl) (by first | exact Or.inl rfl | exact Or.inr (Or.inl rfl) | exact Or.inr (Or.inr rfl)) (by decide) (by decide)) (by rfl) (by rfl)) (@pv _ 2 _ _ (by rfl) (by first | exact Or.inl rfl | exact Or.inr (Or.inl rfl) | exact Or.inr (Or.inr rfl)) (by decide) (by decide)) (nomark _)) (@pw_or1 _ _ _ _ (@pt_cmpR _ _ _ _ _ _ _ _ op_lt (@pe_fldK _ K _ _ _ _ (@pv _ 0 _ _ (by rfl) (by first | exact Or.inl rfl | exact Or.inr (Or.inl rfl) | exact Or.inr (Or.inr rfl)) (by decide) (by decide)) (by rfl) (by rfl)) (@pe_op _ _ _ _ _ _ _ _ op_mul (@pe_op _ _ _ _ _ _ _ _ op_add (@pe_fldK _ K _ _ _ _ (@pv _ 0 _ _ (by rfl) (by first | exact Or.inl rfl | exact Or.inr (Or.inl rfl) | exact Or.inr (Or.inr rfl)) (by decide) (by decide)) (by rfl) (by rfl)) (@pe_int _ _ _ _)) (@pv _ 2 _ _ (by rfl) (by first | exact Or.inl rfl | exact Or.inr (Or.inl rfl) | exact Or.inr (Or.inr rfl)) (by decide) (by decide))) (nomark _))))) (@pss_one _ _ _ (@ps_ret _ _ _ _ (@pe_bl _ _ _ _))) (@pss_nil _)) (@pss_one _ _ _ (@ps_ret _ _ _ _ (@pe_cmpR _ _ _ _ _ _ _ _ op_ge (@pe_fldK _ K _ _ _ _ (@pv _ 0 _ _ (by rfl) (by first | exact Or.inl rfl | exact Or.inr (Or.inl rfl) | exact Or.inr (Or.inr rfl)) (by decide) (by decide)) (by rfl) (by rfl)) (@pe_fldK _ K _ _ _ _ (@pv _ 0 _ _ (by rfl) (by first | exact Or.inl rfl | exact Or.inr (Or.inl rfl) | exact Or.inr (Or.inr rfl)) (by decide) (by decide)) (by rfl) (by rfl)) (nomark _)))))), ?_⟩
    simp (maxSteps := 1000000) only [Nat.reduceSub, Nat.reduceAdd, tFld, tSeq, exists_and_left, if_true, tIfS, tOr, tTest, tOp, tVar, tC, rI, rI0, tRet, tAsg, gName, tNext, tCall, tCons, tNil, L2.start, List.map_cons, List.map_nil, List.length_cons, List.length_nil, List.replicate, List.cons_append, List.nil_append, List.getElem?_cons_zero, List.getElem?_cons_succ, List.set_cons_zero, List.set_cons_succ, Option.some.injEq, exists_eq_left', V.int.injEq, V.bl.injEq, V.ref.injEq, List.append_nil]
    refine ⟨x, dx, m, fair, rfl, ex, ?_⟩
    simp (maxSteps := 1000000) only [HO.ins.injEq, exists_and_left, Option.some.injEq, exists_eq_left', V.int.injEq, true_and, and_assoc, ex, T_Measures.cl, T_Measures.no "hands" (by decide), T_Measures.no "miss" (by decide), T_Measures.no "raise_each" (by decide), T_Measures.no "count" (by decide), fs_Measures_hands, fs_Measures_miss, fs_Measures_raise_each, fs_Measures_count]
    have h1 := B.h
    unfold wh at q
    refine ite2 (fun c1 => ?_) (fun c1 => ⟨.inl ⟨by omega, by omega⟩, ite2 (fun c2 => ?_) (fun c2 => ?_)⟩)
    · rw [if_pos (.inl (by simpa using c1))] at q
      exact q
    · rw [if_pos (.inr (by simpa using c2))] at q
      exact q
    · rw [if_neg (fun z => z.elim (by simpa using c1) (by simpa using c2))] at q
      exact q
end
end K73
namespace K73
open PySem L2
/-! ### wishes -/
inductive Wk
  | beg (g : Int)
  | fin (g : Int)
  | put (g : Int) (z : Str)
  | ask (z : Str)
  | oth (w z : Str)
def Wk.w : Wk → Str
  | .beg _ => Str.ofString "begin"
  | .fin _ => Str.ofString "end"
  | .put _ _ => Str.ofString "put"
  | .ask _ => Str.ofString "ask"
  | .oth w _ => w
def Wk.Ok : Wk → Prop
  | .put _ z => 1 ≤ z.length ∧ z.length ≤ 40
  | .oth w _ => w = Str.ofString "bind" ∨ w = Str.ofString "free"
  | _ => True
def Wk.x (H : Hp) (v : V) : Wk → Prop
  | .beg g => v = .int g
  | .fin g => v = .int g
  | .put g z => ∃ q, v = .ref q ∧ H q = some (.tup [.int g, .str z])
  | .ask z => v = .str z
  | .oth _ z => v = .str z
structure Wi where
  t : Int
  h : Int
  k : Wk
def RW (H : Hp) (v : V) (q : Wi) : Prop := ∃ p x, v = .ref p ∧ H p = some (.tup [.int q.t, .int q.h, .str q.k.w, x]) ∧ q.k.x H x ∧ q.k.Ok
theorem Wk.x.keep {A : List Addr} {H H' : Hp} {v : V} {k : Wk} (h : k.x H v) (kk : Keep A H H') (hs : ∀ b ∈ A, NoT H b) : k.x H' v := by
  cases k with
  | put g z =>
    obtain ⟨q, e, h⟩ := h
    exact ⟨q, e, kk _ _ h fun z => hs _ z _ h⟩
  | _ => exact h
theorem RW.keep {A : List Addr} {H H' : Hp} {v : V} {q : Wi} (h : RW H v q) (kk : Keep A H H') (hs : ∀ b ∈ A, NoT H b) : RW H' v q := by
  obtain ⟨p, x, e, h1, h2, h3⟩ := h
  exact ⟨p, x, e, kk _ _ h1 fun z => hs _ z _ h1, h2.keep kk hs, h3⟩
theorem RW.same {H H' : Hp} {v : V} {q : Wi} (h : RW H v q) (s : Same H H') : RW H' v q := h.keep (A := []) s.keep (fun _ z => nomatch z)
theorem paired_imp {α β : Type} {R R' : α → β → Prop} (hR : ∀ a b, R a b → R' a b) : ∀ {l : List α} {m : List β}, Paired R l m → Paired R' l m
  | _, _, .nil => .nil
  | _, _, .cons h t => .cons (hR _ _ h) (paired_imp hR t)
def isB : Wk → Bool
  | .beg _ => true
  | _ => false
def isA : Wk → Bool
  | .ask _ => true
  | _ => false
def isP : Wk → Bool
  | .put _ _ => true
  | _ => false
def isE : Wk → Bool
  | .beg _ => true
  | .fin _ => true
  | _ => false
theorem w_beg {k : Wk} (h : k.Ok) : decide (k.w = Str.ofString "begin") = isB k := by
  cases k with
  | oth w z => rcases h with rfl | rfl <;> (change decide (Str.ofString _ = Str.ofString _) = false; decide)
  | _ => first | rfl | (change decide (Str.ofString _ = Str.ofString _) = _; decide)
theorem w_ask {k : Wk} (h : k.Ok) : decide (k.w = Str.ofString "ask") = isA k := by
  cases k with
  | oth w z => rcases h with rfl | rfl <;> (change decide (Str.ofString _ = Str.ofString _) = false; decide)
  | _ => first | rfl | (change decide (Str.ofString _ = Str.ofString _) = _; decide)
theorem w_put {k : Wk} (h : k.Ok) : decide (k.w = Str.ofString "put") = isP k := by
  cases k with
  | oth w z => rcases h with rfl | rfl <;> (change decide (Str.ofString _ = Str.ofString _) = false; decide)
  | _ => first | rfl | (change decide (Str.ofString _ = Str.ofString _) = _; decide)
def goal : Wk → Int
  | .beg g => g
  | .fin g => g
  | .put g _ => g
  | _ => 0
/-- a comprehension that makes something new of what it picks -/
theorem comp_mk {α β : Type} {n : Nat} {js : List Nat} {g : TG} {tc : TT} {te : TE} {σ : St} {Q : VK} {H1 : Hp} {K : PySem.W.Frag} {a : Addr} {ys : List V} {l : List α} (R : Hp → V → α → Prop) (keep : ∀ H H' v q, Same H H' → R H v q → R H' v q) (R2 : Hp → V → β → Prop) (keep2 : ∀ A H H' v b, R2 H v b → Keep A H H' → (∀ c ∈ A, NoT H c) → R2 H' v b) (p : α → Bool) (o : α → β) (ha : H1 a = some (.lst ys)) (hp : Paired (R H1) ys l) (hz : l.length ≤ 1000)
    (hs : ∀ v q H (A : V → Hp → Prop) (B : Hp → Prop), R H v q → (p q = true → ∀ u H', R2 H' u (o q) → Same H H' → A u H') → (p q = false → B H) → g v (cSt n js σ) H fun σ2 H2 => σ2.drop n = (cSt n js σ).drop n ∧ tc σ2 H2 fun b H3 => if b = true then te σ2 H3 A else B H3)
    (hq : ∀ D H' vs, H1 D = none → H' D = some (.lst vs) → Paired (R2 H') vs ((l.filter p).map o) → Same H1 H' → Q (.ref D) H') : CompW n js g tc te σ Q (Itl K a) H1 := by
  have hlen := hp.length
  refine comp_list (xs := ys) (by rw [sizeLine_eq]; omega) (fun D i acc H' => H' D = some (.lst acc) ∧ acc.length ≤ i ∧ Paired (R2 H') acc (((l.take i).filter p).map o) ∧ Same H1 H') (fun D hD => ⟨upd_same, Nat.le_refl _, .nil, Same.upd_new hD⟩) ?_ ?_ ?_
  · rintro D i acc H2 hD hi ⟨eD, hl, _, s2⟩
    exact ⟨eD, SqL.of (s2 _ _ ha), hl⟩
  · rintro D i v acc H2 hD hx ⟨eD, hl, hI, s2⟩
    obtain ⟨q, hk, hv⟩ := paired_get hp hx
    rw [List.take_add_one, hk, Option.toList_some, List.filter_append, List.map_append]
    refine hs v q H2 _ _ (keep _ _ _ _ s2 hv) (fun h u H3 hu s3 => ?_) (fun h => ?_)
    · have eD3 := s3 _ _ eD
      have ku : Keep [D] H3 (upd H3 D (.lst (acc ++ [u]))) := Keep.refl.upd (.inl (.head _))
      have nt : ∀ b ∈ [D], NoT H3 b := fun b hb => by
        rw [List.mem_singleton] at hb
        subst hb
        exact .of_lst eD3
      refine ⟨eD3, upd_same, by rw [List.length_append]; exact Nat.add_le_add_right hl 1, ?_, (s2.trans s3).upd hD⟩
      rw [List.filter_cons, if_pos h]
      exact paired_append (paired_imp (fun _ _ z => keep2 _ _ _ _ _ (keep2 [] _ _ _ _ z s3.keep (fun _ z => nomatch z)) ku nt) hI) (.cons (keep2 _ _ _ _ _ hu ku nt) .nil)
    · refine ⟨eD, eD, Nat.le_succ_of_le hl, ?_, s2⟩
      rw [List.filter_cons, if_neg (by rw [h]; decide)]
      simpa using hI
  · rintro D acc H2 hD ⟨eD, hl, hI, s2⟩
    rw [List.take_of_length_le (by omega)] at hI
    exact hq D H2 acc hD eD hI s2
theorem tpi_keep {A : List Addr} {H H' : Hp} {v : V} {k : List Int} (h : TpI H v k) (kk : Keep A H H') (hs : ∀ b ∈ A, NoT H b) : TpI H' v k := by
  obtain ⟨p, e, h⟩ := h
  exact ⟨p, e, kk _ _ h fun z => hs _ z _ h⟩
def stms (ws : List Wi) : List (List Int) := (ws.filter fun q => isB q.k).map fun q => [q.h, goal q.k]
def asks (ws : List Wi) : List Int := (ws.filter fun q => isA q.k).map fun q => q.h
def nKeys (ws : List Wi) : Int := 2 * ((((stms ws).foldl ddk []).length : Int) + ((fm (asks ws)).length : Int))
theorem paired_ints : ∀ {vs : List V} {ns : List Int}, Paired (fun v n => v = V.int n) vs ns → vs = ns.map V.int
  | _, _, .nil => rfl
  | _, _, .cons h t => by rw [h, paired_ints t]; rfl
theorem ddk_len : ∀ (l kl : List (List Int)), (l.foldl ddk kl).length ≤ kl.length + l.length
  | [], _ => by simp
  | x :: r, kl => by
    rw [List.foldl_cons]
    have h1 := ddk_len r (ddk kl x)
    have h2 : (ddk kl x).length ≤ kl.length + 1 := by
      unfold ddk
      split
      · omega
      · rw [List.length_append]; simp
    rw [List.length_cons]
    omega
theorem fm_len : ∀ (l kl : List Int), (l.foldl PyProof.Rows.step_dedup kl).length ≤ kl.length + l.length
  | [], _ => by simp
  | x :: r, kl => by
    rw [List.foldl_cons]
    have h1 := fm_len r (PyProof.Rows.step_dedup kl x)
    have h2 := PyProof.Rows.step_length kl x
    rw [List.length_cons]
    split at h2 <;> omega
section
variable {P : Program} {w : World} {K : PySem.W.Frag} {mg : Str → Option Value} {base : Heap} {C : Addr}
abbrev s_keys_of : Stmt := top 12
theorem sc_keys_of : FnScope ["wishes", "streams", "askers"] ["wishes"] (defScope s_keys_of) := ⟨rfl, rfl, rfl, by decide +kernel, rfl, by decide +kernel, by decide +kernel⟩
theorem cs_keys_of_0 : CScope ["wish"] [] { kind := .function, names := [(".0", .local), ("wish", .local)], isGenerator := false, isCoroutine := false, more := [] } (defScope s_keys_of) := ⟨rfl, by decide +kernel, by decide +kernel, by decide +kernel, by decide +kernel, by decide +kernel⟩
theorem cs_keys_of_1 : CScope ["wish"] [] { kind := .function, names := [(".0", .local), ("wish", .local)], isGenerator := false, isCoroutine := false, more := [] } (defScope s_keys_of) := ⟨rfl, by decide +kernel, by decide +kernel, by decide +kernel, by decide +kernel, by decide +kernel⟩
abbrev s_things_most : Stmt := top 13
theorem sc_things_most : FnScope ["wishes", "by_streams", "wish", "word", "what", "things"] ["wishes"] (defScope s_things_most) := ⟨rfl, rfl, rfl, by decide +kernel, rfl, by decide +kernel, by decide +kernel⟩
abbrev s_done_turn : Stmt := top 15
theorem sc_done_turn : FnScope ["measures", "fair", "last", "wishes", "crossing", "each"] ["measures", "fair", "last", "wishes"] (defScope s_done_turn) := ⟨rfl, rfl, rfl, by decide +kernel, rfl, by decide +kernel, by decide +kernel⟩
def sp_keys : Sp := fun vs H Q _ => ∃ (p : Addr) (ys : List V) (ws : List Wi), vs = [.ref p] ∧ H p = some (.lst ys) ∧ Paired (RW H) ys ws ∧ ws.length ≤ 40 ∧ ∀ H', Same H H' → Q (.int (nKeys ws)) H'
theorem own_keys (D : Def K mg "keys_of" s_keys_of) (hb : Blt mg) (hset : mg "set" = none) : Own P w K mg base 1 "keys_of" ["wishes"] sp_keys := by
  refine D.own sc_keys_of (fun _ _ _ _ _ _ us hl => match us, hl with | [_], _ => rfl) (fun vs H Q E h => ?_) (fun f cdv A outer s H vs Q E hr h => ?_)
  · obtain ⟨p, ys, ws, rfl, _⟩ := h
    rfl
  · obtain ⟨p, ys, ws, rfl, ep, hp, hl, q⟩ := h
    have hu := hr.units
    have hu1 : (A.deeper (PyProof.Rows.envOfC "keys_of" (defScope s_keys_of) s.heap.objs.size f cdv)).units + 1 < cLine := by omega
    refine ⟨_, (@pss_cons _ _ _ _ _ (@ps_set _ _ 1 _ _ _ _ sc_keys_of.nd rfl (by first | exact Or.inl rfl | exact Or.inr rfl) (@pe_callB _ _ _ _ _ _ _ _ _ call_lenS rfl (hb _ (by decide)) bt_len (@pa_cX _ _ _ _ _ (@pe_callTy _ _ _ _ _ _ _ _ _ (call_setTI rfl hu) rfl hset bt_set (@pa_cX _ _ _ _ _ (@pe_comp _ _ _ _ _ _ _ _ _ _ _ ["wish"] [] [] rfl _ cs_keys_of_0 (@pi_listK _ K _ _ _ (@pv _ 0 _ _ (by rfl) (by first | exact Or.inl rfl | exact Or.inr (Or.inl rfl) | exact Or.inr (Or.inr rfl)) (by decide) (by decide)) (by rfl)) (fun _ _ _ _ => (@pg_name _ _ 0 _ cs_keys_of_0.nd rfl (by first | exact Or.inl rfl | exact Or.inr rfl) (by first | exact .inl rfl | exact .inr rfl | assumption))) (fun _ _ _ _ => (@pf_one _ _ _ (@pt_cmpR _ _ _ _ _ _ _ _ op_eq (@pe_ix _ _ _ _ _ _ _ (ix_get hu1) (@pv _ 0 _ _ (by rfl) (by first | exact Or.inl rfl | exact Or.inr (Or.inl rfl) | exact Or.inr (Or.inr rfl)) (by decide) (by decide)) (@pe_int _ _ _ _) (fun _ _ => rfl)) (@pe_str _ _ _ _) (nomark _)))) (fun _ _ _ _ => (@pe_tup _ _ _ _ _ (@pa_cX _ _ _ _ _ (@pe_ix _ _ _ _ _ _ _ (ix_get hu1) (@pv _ 0 _ _ (by rfl) (by first | exact Or.inl rfl | exact Or.inr (Or.inl rfl) | exact Or.inr (Or.inr rfl)) (by decide) (by decide)) (@pe_int _ _ _ _) (fun _ _ => rfl)) (@pa_cX _ _ _ _ _ (@pe_ix _ _ _ _ _ _ _ (ix_get hu1) (@pv _ 0 _ _ (by rfl) (by first | exact Or.inl rfl | exact Or.inr (Or.inl rfl) | exact Or.inr (Or.inr rfl)) (by decide) (by decide)) (@pe_int _ _ _ _) (fun _ _ => rfl)) (@pa_nil _) (by rfl)) (by rfl)))) (by rfl) (by rfl) (by rfl) (by intro _; rfl)) (@pa_nil _) (by rfl)) (by decide) (by decide) (by rfl) (by rfl)) (@pa_nil _) (by rfl)) (by decide) (by decide) (by rfl) (by rfl)) (by rfl) (by first | exact .inl rfl | exact .inr rfl | assumption)) (@pss_cons _ _ _ _ _ (@ps_set _ _ 2 _ _ _ _ sc_keys_of.nd rfl (by first | exact Or.inl rfl | exact Or.inr rfl) (@pe_callB _ _ _ _ _ _ _ _ _ call_lenS rfl (hb _ (by decide)) bt_len (@pa_cX _ _ _ _ _ (@pe_callTy _ _ _ _ _ _ _ _ _ (call_setX rfl) rfl hset bt_set (@pa_cX _ _ _ _ _ (@pe_comp _ _ _ _ _ _ _ _ _ _ _ ["wish"] [] [] rfl _ cs_keys_of_1 (@pi_listK _ K _ _ _ (@pv _ 0 _ _ (by rfl) (by first | exact Or.inl rfl | exact Or.inr (Or.inl rfl) | exact Or.inr (Or.inr rfl)) (by decide) (by decide)) (by rfl)) (fun _ _ _ _ => (@pg_name _ _ 0 _ cs_keys_of_1.nd rfl (by first | exact Or.inl rfl | exact Or.inr rfl) (by first | exact .inl rfl | exact .inr rfl | assumption))) (fun _ _ _ _ => (@pf_one _ _ _ (@pt_cmpR _ _ _ _ _ _ _ _ op_eq (@pe_ix _ _ _ _ _ _ _ (ix_get hu1) (@pv _ 0 _ _ (by rfl) (by first | exact Or.inl rfl | exact Or.inr (Or.inl rfl) | exact Or.inr (Or.inr rfl)) (by decide) (by decide)) (@pe_int _ _ _ _) (fun _ _ => rfl)) (@pe_str _ _ _ _) (nomark _)))) (fun _ _ _ _ => (@pe_ix _ _ _ _ _ _ _ (ix_get hu1) (@pv _ 0 _ _ (by rfl) (by first | exact Or.inl rfl | exact Or.inr (Or.inl rfl) | exact Or.inr (Or.inr rfl)) (by decide) (by decide)) (@pe_int _ _ _ _) (fun _ _ => rfl))) (by rfl) (by rfl) (by rfl) (by intro _; rfl)) (@pa_nil _) (by rfl)) (by decide) (by decide) (by rfl) (by rfl)) (@pa_nil _) (by rfl)) (by decide) (by decide) (by rfl) (by rfl)) (by rfl) (by first | exact .inl rfl | exact .inr rfl | assumption)) (@pss_one _ _ _ (@ps_ret _ _ _ _ (@pe_op _ _ _ _ _ _ _ _ op_mul (@pe_int _ _ _ _) (@pe_op _ _ _ _ _ _ _ _ op_add (@pv _ 1 _ _ (by rfl) (by first | exact Or.inl rfl | exact Or.inr (Or.inl rfl) | exact Or.inr (Or.inr rfl)) (by decide) (by decide)) (@pv _ 2 _ _ (by rfl) (by first | exact Or.inl rfl | exact Or.inr (Or.inl rfl) | exact Or.inr (Or.inr rfl)) (by decide) (by decide)))))))), ?_⟩
    simp (maxSteps := 1000000) only [tComp_eq, Nat.reduceSub, upd_same, Nat.reduceAdd, iList, List.cons.injEq, tSeq, exists_and_left, tOp, tVar, tC, rI, rI0, tRet, tAsg, gName, tCons, tNil, tCB, L2.start, List.map_cons, List.map_nil, List.length_cons, List.length_nil, List.replicate, List.cons_append, List.nil_append, List.getElem?_cons_zero, List.getElem?_cons_succ, List.set_cons_zero, List.set_cons_succ, Option.some.injEq, exists_eq_left', V.int.injEq, V.ref.injEq, and_true, rSetTI, rLenS]
    refine ⟨⟨_, SqL.of ep⟩, comp_mk RW (fun _ _ _ _ s h => h.same s) TpI (fun _ _ _ _ _ h k z => tpi_keep h k z) (fun q => isB q.k) (fun q => [q.h, goal q.k]) ep hp (by omega) ?_ ?_⟩
    · intro v q H2 A B hv hA hB
      obtain ⟨t, x, rfl, et, hx, hok⟩ := hv
      simp (maxSteps := 1000000) only [rEq_ss, rGet, getO_t, atI_1, atI_2, atI_3, Nat.reduceAdd, cSt, List.drop_succ_cons, List.drop_zero, exists_and_left, tTest, tOp, tVar, tC, gName, tCons, tNil, tTup, List.map_nil, List.length_cons, List.length_nil, List.replicate, List.getElem?_cons_zero, List.set_cons_zero, Option.some.injEq, exists_eq_left', V.bl.injEq, V.ref.injEq, true_and, List.append_nil, et]
      rw [w_beg hok]
      cases hq : isB q.k with
      | true =>
        rw [if_pos rfl]
        refine ⟨by rw [sizeLine_eq]; decide, fun pp np => hA hq _ _ ⟨pp, rfl, ?_⟩ (.upd_new np)⟩
        rw [upd_same]
        obtain ⟨t', h', k'⟩ := q
        cases k' with
        | beg g => rw [show x = .int g from hx]; rfl
        | _ => cases hq
      | false =>
        rw [if_neg (by decide)]
        exact hB hq
    · intro D H2 vs nD eD hvs s2
      have l1 : (stms ws).length ≤ ws.length := by unfold stms; rw [List.length_map]; exact List.length_filter_le _ _
      have l2 : (asks ws).length ≤ ws.length := by unfold asks; rw [List.length_map]; exact List.length_filter_le _ _
      have l3 := ddk_len (stms ws) []
      have l4 : (fm (asks ws)).length ≤ 0 + (asks ws).length := fm_len (asks ws) []
      refine ⟨D, rfl, vs, eD, _, hvs, (by change (stms ws).length ≤ 60; omega), fun l nl => ⟨((stms ws).foldl ddk []).length, rfl, by simp at l3; omega, ?_⟩⟩
      have s3 : Same H2 (upd H2 l (SetO l ((stms ws).foldl ddk []).length)) := .upd_new nl
      have s13 := s2.trans s3
      change (∃ xs, SqL K (upd H2 l (SetO l ((stms ws).foldl ddk []).length)) p xs) ∧ CompW _ _ _ _ _ _ _ _ (upd H2 l (SetO l ((stms ws).foldl ddk []).length))
      generalize upd H2 l (SetO l ((stms ws).foldl ddk []).length) = H3 at s3 s13 ⊢
      have ep3 := s13 _ _ ep
      refine ⟨⟨_, SqL.of ep3⟩, comp_mk RW (fun _ _ _ _ s h => h.same s) (fun _ v n => v = V.int n) (fun _ _ _ _ _ h _ _ => h) (fun q => isA q.k) (fun q => q.h) ep3 (paired_imp (fun _ _ z => z.same s13) hp) (by omega) ?_ ?_⟩
      · intro v q H4 A B hv hA hB
        obtain ⟨t, x, rfl, et, hx, hok⟩ := hv
        simp (maxSteps := 1000000) only [rEq_ss, rGet, getO_t, atI_1, atI_2, cSt, List.drop_succ_cons, List.drop_zero, exists_and_left, tTest, tOp, tVar, tC, gName, List.map_nil, List.replicate, List.getElem?_cons_zero, List.set_cons_zero, Option.some.injEq, exists_eq_left', V.bl.injEq, V.ref.injEq, true_and, List.append_nil, et]
        rw [w_ask hok]
        cases hq : isA q.k with
        | true =>
          rw [if_pos rfl]
          exact hA hq _ _ rfl (.refl _)
        | false =>
          rw [if_neg (by decide)]
          exact hB hq
      · intro D5 H5 vs5 nD5 eD5 hvs5 s5
        have e5 := paired_ints hvs5
        rw [e5] at eD5
        refine ⟨D5, asks ws, rfl, eD5, by omega, fun l6 n6 => ⟨l6, rfl, (fm (asks ws)).length, upd_same, by omega, .inl ⟨by decide, by decide⟩, ?_⟩⟩
        exact q _ ((s13.trans s5).trans (.upd_new n6))
end
end K73
namespace K73
open PySem L2
def isS (k : Wk) : Bool := isE k || isP k
def cnt : Wk → Int
  | .beg _ => 1
  | .fin _ => 1
  | .put _ z => rup (z.length : Int) 8
  | _ => 0
def onS (h g : Int) (q : Wi) : Bool := isS q.k && decide (q.h = h) && decide (goal q.k = g)
def tot (ws : List Wi) (h g : Int) : Int := ((ws.filter (onS h g)).map fun q => cnt q.k).sum
def IsMost (ws : List Wi) (n : Int) : Prop := ((∀ q ∈ ws, isS q.k = false) ∧ n = 0) ∨ ((∃ q ∈ ws, isS q.k = true ∧ n = tot ws q.h (goal q.k)) ∧ ∀ q ∈ ws, isS q.k = true → tot ws q.h (goal q.k) ≤ n)
theorem IsMost.one {ws : List Wi} {n m : Int} (a : IsMost ws n) (b : IsMost ws m) : n = m := by
  rcases a with ⟨a1, rfl⟩ | ⟨⟨q, hq, hs, e⟩, a2⟩ <;> rcases b with ⟨b1, rfl⟩ | ⟨⟨r, hr, hs', e'⟩, b2⟩
  · rfl
  · rw [a1 r hr] at hs'
    cases hs'
  · rw [b1 q hq] at hs
    cases hs
  · have h1 := a2 r hr hs'
    have h2 := b2 q hq hs
    omega
theorem tot_snoc {ws : List Wi} {q : Wi} {h g : Int} : tot (ws ++ [q]) h g = tot ws h g + if onS h g q = true then cnt q.k else 0 := by
  unfold tot
  rw [List.filter_append, List.map_append, List.sum_append]
  by_cases e : onS h g q = true
  · rw [List.filter_cons, if_pos e, if_pos e]
    simp
  · rw [List.filter_cons, if_neg e, if_neg e]
    simp
abbrev kk (h g : Int) : List Key := [Sum.inl h, Sum.inl g]
structure TMv (kvs : List (List Key × V)) (ws : List Wi) : Prop where
  v : ∀ h g, valV kvs (kk h g) = if ws.any (onS h g) = true then some (.int (tot ws h g)) else none
  k : ∀ e ∈ kvs, ∃ h g, e.1 = kk h g
  nd : (kvs.map (·.1)).Nodup
  l : kvs.length ≤ ws.length
theorem kk_inj {h g h' g' : Int} (e : kk h g = kk h' g') : h = h' ∧ g = g' := by
  have := List.cons.inj e
  exact ⟨Sum.inl.inj this.1, Sum.inl.inj (List.cons.inj this.2).1⟩
theorem TMv.nil : TMv [] [] := ⟨fun h g => rfl, (fun e z => nomatch z), List.nodup_nil, Nat.le_refl _⟩
theorem TMv.skip {kvs : List (List Key × V)} {ws : List Wi} {q : Wi} (T : TMv kvs ws) (h : isS q.k = false) : TMv kvs (ws ++ [q]) := by
  have e : ∀ h' g', onS h' g' q = false := fun h' g' => by unfold onS; rw [h]; rfl
  refine ⟨fun h' g' => ?_, T.k, T.nd, by rw [List.length_append]; exact Nat.le_succ_of_le T.l⟩
  rw [T.v, List.any_append, tot_snoc, e]
  simp [e]
theorem putT_keys {kvs : List (List Key × V)} {k : List Key} {v : V} : ∀ e ∈ putK kvs k v, e.1 = k ∨ e.1 ∈ kvs.map (·.1) := fun e he => by
  unfold putK at he
  split at he
  · obtain ⟨q, hq, rfl⟩ := List.mem_map.mp he
    split
    · rename_i hk
      exact .inl hk
    · exact .inr (List.mem_map.mpr ⟨q, hq, rfl⟩)
  · rcases List.mem_append.mp he with he | he
    · exact .inr (List.mem_map.mpr ⟨e, he, rfl⟩)
    · rw [List.mem_singleton] at he
      exact .inl (by rw [he])
theorem putT_nd {kvs : List (List Key × V)} {k : List Key} {v : V} (h : (kvs.map (·.1)).Nodup) : ((putK kvs k v).map (·.1)).Nodup := by
  unfold putK
  rw [valV_any]
  cases hv : valV kvs k with
  | some u =>
    simp only [Option.isSome_some, if_true, List.map_map]
    have e : (kvs.map ((·.1) ∘ fun q : List Key × V => if q.1 = k then (q.1, v) else q)) = kvs.map (·.1) := by
      apply List.map_congr_left
      intro q _
      change (if q.1 = k then (q.1, v) else q).1 = q.1
      split <;> rfl
    rw [e]
    exact h
  | none =>
    simp only [Option.isSome_none, Bool.false_eq_true, if_false, List.map_append, List.map_cons, List.map_nil]
    refine List.nodup_append.mpr ⟨h, by simp, fun a ha b hb => ?_⟩
    rw [List.mem_singleton] at hb
    subst hb
    intro z
    rw [z] at ha
    exact valV_not hv ha
theorem TMv.add {kvs : List (List Key × V)} {ws : List Wi} {q : Wi} (T : TMv kvs ws) (h : isS q.k = true) : TMv (putK kvs (kk q.h (goal q.k)) (.int (tot ws q.h (goal q.k) + cnt q.k))) (ws ++ [q]) := by
  refine ⟨fun h' g' => ?_, fun e he => ?_, putT_nd T.nd, ?_⟩
  · rw [valV_put, tot_snoc, List.any_append]
    by_cases hk : kk h' g' = kk q.h (goal q.k)
    · obtain ⟨rfl, rfl⟩ := kk_inj hk
      have e : onS q.h (goal q.k) q = true := by unfold onS; rw [h]; simp
      rw [if_pos rfl, e]
      simp [e]
    · have e : onS h' g' q = false := by
        unfold onS
        rw [h]
        by_cases a : q.h = h'
        · by_cases b : goal q.k = g'
          · rw [a, b] at hk
            exact absurd rfl hk
          · simp [b]
        · simp [a]
      rw [if_neg hk, T.v, e]
      simp [e]
  · rcases putT_keys e he with z | z
    · exact ⟨_, _, z⟩
    · obtain ⟨e0, h0, ez⟩ := List.mem_map.mp z
      obtain ⟨a, b, eab⟩ := T.k e0 h0
      exact ⟨a, b, by rw [← ez, eab]⟩
  · have := length_putK kvs (kk q.h (goal q.k)) (.int (tot ws q.h (goal q.k) + cnt q.k))
    have := T.l
    rw [List.length_append]
    simp
    omega
theorem valV_mem {kvs : List (List Key × V)} (hn : (kvs.map (·.1)).Nodup) {e : List Key × V} (he : e ∈ kvs) : valV kvs e.1 = some e.2 := by
  induction kvs with
  | nil => cases he
  | cons p r ih =>
    rw [List.map_cons, List.nodup_cons] at hn
    rcases List.mem_cons.mp he with rfl | he
    · exact valV_pos rfl
    · rw [valV_neg fun z => hn.1 (by rw [z]; exact List.mem_map.mpr ⟨e, he, rfl⟩)]
      exact ih hn.2 he
theorem TMv.get {kvs : List (List Key × V)} {ws : List Wi} (T : TMv kvs ws) (h g : Int) : (valV kvs (kk h g)).getD (.int 0) = .int (tot ws h g) := by
  rw [T.v]
  split
  · rfl
  · rename_i hn
    have e : ws.filter (onS h g) = [] := by
      rw [List.filter_eq_nil_iff]
      intro q hq z
      exact hn (List.any_eq_true.mpr ⟨q, hq, z⟩)
    unfold tot
    rw [e]
    rfl
/-- the values of the dict are the totals of the streams -/
theorem TMv.vals {kvs : List (List Key × V)} {ws : List Wi} (T : TMv kvs ws) : ∃ ns : List Int, kvs.map (·.2) = ns.map V.int ∧ (ns = [] → ∀ q ∈ ws, isS q.k = false) ∧ (∀ n ∈ ns, ∃ q ∈ ws, isS q.k = true ∧ n = tot ws q.h (goal q.k)) ∧ ∀ q ∈ ws, isS q.k = true → tot ws q.h (goal q.k) ∈ ns := by
  have each : ∀ e ∈ kvs, ∃ q ∈ ws, isS q.k = true ∧ e.2 = .int (tot ws q.h (goal q.k)) := fun e he => by
    obtain ⟨h, g, ek⟩ := T.k e he
    have hv := valV_mem T.nd he
    rw [ek, T.v] at hv
    split at hv
    · rename_i ha
      obtain ⟨q, hq, hon⟩ := List.any_eq_true.mp ha
      unfold onS at hon
      simp only [Bool.and_eq_true, decide_eq_true_eq] at hon
      obtain ⟨⟨a, rfl⟩, rfl⟩ := hon
      exact ⟨q, hq, a, (Option.some.inj hv).symm⟩
    · cases hv
  let f : V → Int := fun v => match v with | .int n => n | _ => 0
  have ef : ∀ e ∈ kvs, V.int (f e.2) = e.2 := fun e he => by
    obtain ⟨q, _, _, eq⟩ := each e he
    rw [eq]
  refine ⟨kvs.map fun e => f e.2, ?_, fun hn q hq => ?_, fun n hn => ?_, fun q hq hs => ?_⟩
  · rw [List.map_map]
    exact List.map_congr_left fun e he => (ef e he).symm
  · cases hs : isS q.k with
    | false => rfl
    | true =>
      exfalso
      have hk : kvs = [] := by simpa using hn
      have := T.v q.h (goal q.k)
      rw [hk, if_pos (List.any_eq_true.mpr ⟨q, hq, by unfold onS; rw [hs]; simp⟩)] at this
      cases this
  · obtain ⟨e, he, rfl⟩ := List.mem_map.mp hn
    obtain ⟨q, hq, hs, eq⟩ := each e he
    exact ⟨q, hq, hs, by rw [eq]⟩
  · have hv := T.v q.h (goal q.k)
    rw [if_pos (List.any_eq_true.mpr ⟨q, hq, by unfold onS; rw [hs]; simp⟩)] at hv
    unfold valV at hv
    obtain ⟨e, he, ee⟩ := Option.map_eq_some_iff.mp hv
    exact List.mem_map.mpr ⟨e, List.mem_of_find?_eq_some he, by rw [ee]⟩
def fBe (z : Str) : Option Bool := if flatV (V.str z) = true ∧ [V.str (Str.ofString "begin"), V.str (Str.ofString "end")].all flatV = true then some (inV (V.str z) [V.str (Str.ofString "begin"), V.str (Str.ofString "end")]) else none
theorem in_be {k : Wk} (h : k.Ok) : fBe k.w = some (isE k) := by
  cases k with
  | beg g => change fBe (Str.ofString "begin") = some true; decide
  | fin g => change fBe (Str.ofString "end") = some true; decide
  | put g z => change fBe (Str.ofString "put") = some false; decide
  | ask z => change fBe (Str.ofString "ask") = some false; decide
  | oth w z =>
    rcases h with rfl | rfl
    · change fBe (Str.ofString "bind") = some false; decide
    · change fBe (Str.ofString "free") = some false; decide
theorem isE_x {H : Hp} {x : V} {k : Wk} (h : k.x H x) (e : isE k = true) : x = .int (goal k) ∧ cnt k = 1 ∧ isP k = false := by
  cases k with
  | beg g => exact ⟨h, rfl, rfl⟩
  | fin g => exact ⟨h, rfl, rfl⟩
  | put g z => cases e
  | ask z => cases e
  | oth w z => cases e
theorem isP_x {H : Hp} {x : V} {k : Wk} (h : k.x H x) (ho : k.Ok) (e : isP k = true) : isE k = false ∧ ∃ q z, x = .ref q ∧ H q = some (.tup [.int (goal k), .str z]) ∧ z.length ≤ 40 ∧ cnt k = rup (z.length : Int) 8 := by
  cases k with
  | put g z =>
    obtain ⟨q, e1, e2⟩ := h
    exact ⟨rfl, q, z, e1, e2, ho.2, rfl⟩
  | beg g => cases e
  | fin g => cases e
  | ask z => cases e
  | oth w z => cases e
section
variable {P : Program} {w : World} {K : PySem.W.Frag} {mg : Str → Option Value} {base : Heap} {C : Addr}
def sp_most : Sp := fun vs H Q _ => ∃ (p : Addr) (ys : List V) (ws : List Wi), vs = [.ref p] ∧ H p = some (.lst ys) ∧ Paired (RW H) ys ws ∧ ws.length ≤ 40 ∧ ∀ n H', IsMost ws n → Same H H' → Q (.int n) H'
def Lm (p d : Addr) (ys : List V) (ws : List Wi) (H : Hp) (i : Nat) (σ : St) (H' : Hp) : Prop := ∃ kvs v2 v3 v4 v5, σ = [some (.ref p), some (.ref d), v2, v3, v4, v5] ∧ H' d = some (.dT kvs) ∧ TMv kvs (ws.take i) ∧ Keep [d] H H'
set_option maxHeartbeats 4000000 in
theorem own_most (D : Def K mg "things_most" s_things_most) (hb : Blt mg) (g_MOST_SIGNS : ∃ u, mg "MOST_SIGNS" = some u ∧ RelV (.int 8) u) (F_rounded_up : Own P w K mg base 1 "rounded_up" ["number", "by"] sp_rup) : Own P w K mg base 2 "things_most" ["wishes"] sp_most := by
  refine D.own sc_things_most (fun _ _ _ _ _ _ us hl => match us, hl with | [_], _ => rfl) (fun vs H Q E h => ?_) (fun f cdv A outer s H vs Q E hr h => ?_)
  · obtain ⟨p, ys, ws, rfl, _⟩ := h
    rfl
  · obtain ⟨p, ys, ws, rfl, ep, hp, hl, q⟩ := h
    have hu := hr.units
    have hu1 : (A.deeper (PyProof.Rows.envOfC "things_most" (defScope s_things_most) s.heap.objs.size f cdv)).units + 1 < cLine := by omega
    refine ⟨_, (@pss_cons _ _ _ _ _ (@ps_set _ _ 1 _ _ _ _ sc_things_most.nd rfl (by first | exact Or.inl rfl | exact Or.inr rfl) (@pe_dnewT _ _) (by rfl) (by first | exact .inl rfl | exact .inr rfl | assumption)) (@pss_cons _ _ _ _ _ (@ps_for _ _ _ _ _ _ _ _ PassesOwn.never rfl (@pi_listK _ K _ _ _ (@pv _ 0 _ _ (by rfl) (by first | exact Or.inl rfl | exact Or.inr (Or.inl rfl) | exact Or.inr (Or.inr rfl)) (by decide) (by decide)) (by rfl)) (@pg_name _ _ 2 _ sc_things_most.nd rfl (by first | exact Or.inl rfl | exact Or.inr rfl) (by first | exact .inl rfl | exact .inr rfl | assumption)) (@pss_cons _ _ _ _ _ (@ps_set _ _ 3 _ _ _ _ sc_things_most.nd rfl (by first | exact Or.inl rfl | exact Or.inr rfl) (@pe_ix _ _ _ _ _ _ _ (ix_get hu1) (@pv _ 2 _ _ (by rfl) (by first | exact Or.inl rfl | exact Or.inr (Or.inl rfl) | exact Or.inr (Or.inr rfl)) (by decide) (by decide)) (@pe_int _ _ _ _) (fun _ _ => rfl)) (by rfl) (by first | exact .inl rfl | exact .inr rfl | assumption)) (@pss_cons _ _ _ _ _ (@ps_set _ _ 4 _ _ _ _ sc_things_most.nd rfl (by first | exact Or.inl rfl | exact Or.inr rfl) (@pe_ix _ _ _ _ _ _ _ (ix_get hu1) (@pv _ 2 _ _ (by rfl) (by first | exact Or.inl rfl | exact Or.inr (Or.inl rfl) | exact Or.inr (Or.inr rfl)) (by decide) (by decide)) (@pe_int _ _ _ _) (fun _ _ => rfl)) (by rfl) (by first | exact .inl rfl | exact .inr rfl | assumption)) (@pss_one _ _ _ (@ps_if _ _ _ _ _ _ _ _ (@pt_cmpR _ _ _ _ _ _ _ _ (op_inX hu1) (@pv _ 3 _ _ (by rfl) (by first | exact Or.inl rfl | exact Or.inr (Or.inl rfl) | exact Or.inr (Or.inr rfl)) (by decide) (by decide)) (@pe_tup _ _ _ _ _ (@pa_cX _ _ _ _ _ (@pe_str _ _ _ _) (@pa_cX _ _ _ _ _ (@pe_str _ _ _ _) (@pa_nil _) (by rfl)) (by rfl))) rfl) (@pss_one _ _ _ (@ps_dput _ _ _ _ _ _ _ _ _ hu1 (@pv _ 1 _ _ (by rfl) (by first | exact Or.inl rfl | exact Or.inr (Or.inl rfl) | exact Or.inr (Or.inr rfl)) (by decide) (by decide)) (@pe_tup _ _ _ _ _ (@pa_cX _ _ _ _ _ (@pe_ix _ _ _ _ _ _ _ (ix_get hu1) (@pv _ 2 _ _ (by rfl) (by first | exact Or.inl rfl | exact Or.inr (Or.inl rfl) | exact Or.inr (Or.inr rfl)) (by decide) (by decide)) (@pe_int _ _ _ _) (fun _ _ => rfl)) (@pa_cX _ _ _ _ _ (@pv _ 4 _ _ (by rfl) (by first | exact Or.inl rfl | exact Or.inr (Or.inl rfl) | exact Or.inr (Or.inr rfl)) (by decide) (by decide)) (@pa_nil _) (by rfl)) (by rfl))) (@pe_op _ _ _ _ _ _ _ _ op_add (@pe_dget2 _ _ _ _ _ _ _ _ _ hu1 (@pv _ 1 _ _ (by rfl) (by first | exact Or.inl rfl | exact Or.inr (Or.inl rfl) | exact Or.inr (Or.inr rfl)) (by decide) (by decide)) (@pe_tup _ _ _ _ _ (@pa_cX _ _ _ _ _ (@pe_ix _ _ _ _ _ _ _ (ix_get hu1) (@pv _ 2 _ _ (by rfl) (by first | exact Or.inl rfl | exact Or.inr (Or.inl rfl) | exact Or.inr (Or.inr rfl)) (by decide) (by decide)) (@pe_int _ _ _ _) (fun _ _ => rfl)) (@pa_cX _ _ _ _ _ (@pv _ 4 _ _ (by rfl) (by first | exact Or.inl rfl | exact Or.inr (Or.inl rfl) | exact Or.inr (Or.inr rfl)) (by decide) (by decide)) (@pa_nil _) (by rfl)) (by rfl))) (@pe_int _ _ _ _) (by constructor <;> rfl)) (@pe_int _ _ _ _)) rfl)) (@pss_one _ _ _ (@ps_if _ _ _ _ _ _ _ _ (@pt_cmpR _ _ _ _ _ _ _ _ op_eq (@pv _ 3 _ _ (by rfl) (by first | exact Or.inl rfl | exact Or.inr (Or.inl rfl) | exact Or.inr (Or.inr rfl)) (by decide) (by decide)) (@pe_str _ _ _ _) (nomark _)) (@pss_cons _ _ _ _ _ (@ps_set _ _ 5 _ _ _ _ sc_things_most.nd rfl (by first | exact Or.inl rfl | exact Or.inr rfl) (@pe_fn _ _ _ _ _ _ _ _ _ _ _ F_rounded_up hr (@pa_cX _ _ _ _ _ (@pe_callB _ _ _ _ _ _ _ _ _ call_lenX rfl (hb _ (by decide)) bt_len (@pa_cX _ _ _ _ _ (@pe_ix _ _ _ _ _ _ _ (ix_get hu1) (@pv _ 4 _ _ (by rfl) (by first | exact Or.inl rfl | exact Or.inr (Or.inl rfl) | exact Or.inr (Or.inr rfl)) (by decide) (by decide)) (@pe_int _ _ _ _) (fun _ _ => rfl)) (@pa_nil _) (by rfl)) (by decide) (by decide) (by rfl) (by rfl)) (@pa_cX _ _ _ _ _ (@pe_glb _ _ _ _ g_MOST_SIGNS (by rfl) (by decide)) (@pa_nil _) (by rfl)) (by rfl)) (by decide) (by rfl) (by decide) (by rfl) (by rfl)) (by rfl) (by first | exact .inl rfl | exact .inr rfl | assumption)) (@pss_one _ _ _ (@ps_dput _ _ _ _ _ _ _ _ _ hu1 (@pv _ 1 _ _ (by rfl) (by first | exact Or.inl rfl | exact Or.inr (Or.inl rfl) | exact Or.inr (Or.inr rfl)) (by decide) (by decide)) (@pe_tup _ _ _ _ _ (@pa_cX _ _ _ _ _ (@pe_ix _ _ _ _ _ _ _ (ix_get hu1) (@pv _ 2 _ _ (by rfl) (by first | exact Or.inl rfl | exact Or.inr (Or.inl rfl) | exact Or.inr (Or.inr rfl)) (by decide) (by decide)) (@pe_int _ _ _ _) (fun _ _ => rfl)) (@pa_cX _ _ _ _ _ (@pe_ix _ _ _ _ _ _ _ (ix_get hu1) (@pv _ 4 _ _ (by rfl) (by first | exact Or.inl rfl | exact Or.inr (Or.inl rfl) | exact Or.inr (Or.inr rfl)) (by decide) (by decide)) (@pe_int _ _ _ _) (fun _ _ => rfl)) (@pa_nil _) (by rfl)) (by rfl))) (@pe_op _ _ _ _ _ _ _ _ op_add (@pe_dget2 _ _ _ _ _ _ _ _ _ hu1 (@pv _ 1 _ _ (by rfl) (by first | exact Or.inl rfl | exact Or.inr (Or.inl rfl) | exact Or.inr (Or.inr rfl)) (by decide) (by decide)) (@pe_tup _ _ _ _ _ (@pa_cX _ _ _ _ _ (@pe_ix _ _ _ _ _ _ _ (ix_get hu1) (@pv _ 2 _ _ (by rfl) (by first | exact Or.inl rfl | exact Or.inr (Or.inl rfl) | exact Or.inr (Or.inr rfl)) (by decide) (by decide)) (@pe_int _ _ _ _) (fun _ _ => rfl)) (@pa_cX _ _ _ _ _ (@pe_ix _ _ _ _ _ _ _ (ix_get hu1) (@pv _ 4 _ _ (by rfl) (by first | exact Or.inl rfl | exact Or.inr (Or.inl rfl) | exact Or.inr (Or.inr rfl)) (by decide) (by decide)) (@pe_int _ _ _ _) (fun _ _ => rfl)) (@pa_nil _) (by rfl)) (by rfl))) (@pe_int _ _ _ _) (by constructor <;> rfl)) (@pv _ 5 _ _ (by rfl) (by first | exact Or.inl rfl | exact Or.inr (Or.inl rfl) | exact Or.inr (Or.inr rfl)) (by decide) (by decide))) rfl))) (@pss_nil _))))))) (by intro _; rfl)) (@pss_one _ _ _ (@ps_ret _ _ _ _ (@pe_maxd _ _ _ _ _ _ _ _ _ (@pe_callTy _ _ _ _ _ _ _ _ _ (call_listV rfl) rfl (hb _ (by decide)) bt_list (@pa_cX _ _ _ _ _ (@pe_vals _ _ _ _ _ (@pv _ 1 _ _ (by rfl) (by first | exact Or.inl rfl | exact Or.inr (Or.inl rfl) | exact Or.inr (Or.inr rfl)) (by decide) (by decide)) (by rfl) (by rfl)) (@pa_nil _) (by rfl)) (by decide) (by decide) (by rfl) (by rfl)) (@pe_int _ _ _ _) hr rfl rfl (hb _ (by decide)) (by rfl) (by rfl)))))), ?_⟩
    simp (maxSteps := 1000000) only [tFor_eq, Nat.reduceSub, Nat.reduceAdd, iList, tSeq, tVar, tAsg, gName, L2.start, List.map_cons, List.map_nil, List.length_cons, List.length_nil, List.replicate, List.cons_append, List.nil_append, List.getElem?_cons_zero, List.set_cons_zero, List.set_cons_succ, Option.some.injEq, exists_eq_left', V.ref.injEq, tDNewT]
    intro p1 n1
    generalize z1 : upd H p1 _ = H1
    obtain ⟨s1, e1⟩ := new_same z1 n1
    have ep1 := s1 _ _ ep
    have hlen := hp.length
    have np : p ≠ p1 := fun z => by rw [← z, ep] at n1; cases n1
    refine ⟨⟨_, SqL.of ep1⟩, for_list (xs := ys) (Lm p p1 ys ws H1) ⟨[], _, _, _, _, rfl, e1, TMv.nil, .refl⟩ ?_ ?_ ?_⟩
    · rintro i σ H2 hi ⟨kvs, v2, v3, v4, v5, rfl, ed, T, k2⟩
      exact SqL.of (k2 _ _ ep1 (by simp [np]))
    · rintro i x σ H2 hx ⟨kvs, v2, v3, v4, v5, rfl, ed, T, k2⟩
      obtain ⟨q1, hq1, hv⟩ := paired_get hp hx
      have nt1 : ∀ b ∈ [p1], NoT H1 b := fun b hb => by
        rw [List.mem_singleton] at hb
        subst hb
        intro xs z
        rw [e1] at z
        cases z
      obtain ⟨t, x, rfl, et, hx', hok⟩ := (hv.same s1).keep k2 nt1
      have htk : ws.take (i + 1) = ws.take i ++ [q1] := by rw [List.take_add_one, hq1]; rfl
      have hi40 : i < ws.length := (List.getElem?_eq_some_iff.mp hq1).1
      obtain ⟨tt, hh, k⟩ := q1
      dsimp only at et hx' hok
      simp (maxSteps := 1000000) only [rEq_ss, rGet, getO_t, rLenX, rInX, inO_t', atI_2, atI_3, upd_same, Nat.reduceAdd, sDPut, List.cons.injEq, tSeq, exists_and_left, tIfS, tTest, tOp, tVar, tC, rI0, tAsg, gName, tNext, tCall, tCons, tNil, tCB, tTup, List.length_cons, List.length_nil, List.getElem?_cons_zero, List.getElem?_cons_succ, List.set_cons_zero, List.set_cons_succ, Option.some.injEq, exists_eq_left', V.int.injEq, V.bl.injEq, V.ref.injEq, and_true, List.append_nil, et, tDGet2]
      refine ⟨by rw [sizeLine_eq]; decide, ?_⟩
      intro p3 n3
      generalize z3 : upd H2 p3 _ = H3
      obtain ⟨s3, e3⟩ := new_same z3 n3
      have ed3 := s3 _ _ ed
      have et3 := s3 _ _ et
      have hsz : kvs.length < sizeLine := by have := T.l; rw [List.length_take] at this; rw [sizeLine_eq]; omega
      refine ⟨isE k, in_be hok, ite2 (fun e => ?_) (fun e => ?_)⟩
      · obtain ⟨rfl, hc, _⟩ := isE_x hx' e
        refine ⟨.inr ⟨kvs, .inl ed3⟩, _, et3, _, rfl, by rw [sizeLine_eq]; decide, ?_⟩
        intro p4 n4
        generalize z4 : upd H3 p4 _ = H4
        obtain ⟨s4, e4⟩ := new_same z4 n4
        have ed4 := s4 _ _ ed3
        refine ⟨_, DGet.t (k := kk hh (goal k)) ed4 e4, _, T.get hh (goal k), _, s4 _ _ et3, _, rfl, by rw [sizeLine_eq]; decide, ?_⟩
        intro p5 n5
        generalize z5 : upd H4 p5 _ = H5
        obtain ⟨s5, e5⟩ := new_same z5 n5
        have ed5 := s5 _ _ ed4
        refine ⟨_, DPut.t (k := kk hh (goal k)) ed5 e5 hsz, _, _, _, _, _, rfl, upd_same, ?_, (((k2.same s3).same s4).same s5).upd (.inl (.head _))⟩
        have := T.add (q := ⟨tt, hh, k⟩) (show (isE k || isP k) = true by rw [e]; rfl)
        rw [htk, ← hc]
        exact this
      · rw [w_put hok]
        refine ite2 (fun e2 => ?_) (fun e2 => ?_)
        · obtain ⟨_, qp, z, rfl, eq3, hz, hc⟩ := isP_x (hx'.keep (A := []) s3.keep (fun _ z => nomatch z)) hok e2
          refine ⟨_, rfl, _, eq3, _, rfl, z.length, if_pos (by rw [sizeLine_eq]; omega), _, _, rfl, by decide, by decide, .inr ⟨kvs, .inl ed3⟩, _, et3, _, rfl, _, rfl, _, eq3, _, rfl, by rw [sizeLine_eq]; decide, ?_⟩
          intro p4 n4
          generalize z4 : upd H3 p4 _ = H4
          obtain ⟨s4, e4⟩ := new_same z4 n4
          have ed4 := s4 _ _ ed3
          refine ⟨_, DGet.t (k := kk hh (goal k)) ed4 e4, _, T.get hh (goal k), _, rfl, _, s4 _ _ et3, _, rfl, _, rfl, _, s4 _ _ eq3, _, rfl, by rw [sizeLine_eq]; decide, ?_⟩
          intro p5 n5
          generalize z5 : upd H4 p5 _ = H5
          obtain ⟨s5, e5⟩ := new_same z5 n5
          have ed5 := s5 _ _ ed4
          refine ⟨_, DPut.t (k := kk hh (goal k)) ed5 e5 hsz, _, _, _, _, _, rfl, upd_same, ?_, (((k2.same s3).same s4).same s5).upd (.inl (.head _))⟩
          have := T.add (q := ⟨tt, hh, k⟩) (show (isE k || isP k) = true by rw [e2, Bool.or_true])
          rw [htk, ← hc]
          exact this
        · exact ⟨kvs, _, _, _, _, rfl, ed3, by rw [htk]; exact T.skip (show (isE k || isP k) = false by rw [Bool.eq_false_iff.mpr e, Bool.eq_false_iff.mpr e2]; rfl), k2.same s3⟩
    · rintro σ H2 ⟨kvs, v2, v3, v4, v5, rfl, ed, T, k2⟩
      simp (maxSteps := 1000000) only [upd_same, HO.lst.injEq, ne_eq, List.cons.injEq, exists_and_left, tVar, tC, tRet, tCons, tNil, tCB, List.getElem?_cons_zero, List.getElem?_cons_succ, Option.some.injEq, exists_eq_left', V.int.injEq, V.ref.injEq, and_true, tMaxD, tVals, rListV]
      rw [hlen, List.take_length] at T
      obtain ⟨ns, en, h0, h1, h2⟩ := T.vals
      have s02 : Same H H2 := fun b o e => k2 _ _ (s1 _ _ e) (by simp; rintro rfl; rw [n1] at e; cases e)
      refine ⟨kvs, ed, ?_⟩
      intro p3 n3
      generalize z3 : upd H2 p3 _ = H3
      obtain ⟨s3, e3⟩ := new_same z3 n3
      refine ⟨p1, rfl, kvs, s3 _ _ ed, ?_⟩
      intro p4 n4
      generalize z4 : upd H3 p4 _ = H4
      obtain ⟨s4, e4⟩ := new_same z4 n4
      have s04 := (s02.trans s3).trans s4
      exact ⟨ns, en, fun z => q _ _ (.inl ⟨h0 z, rfl⟩) s04, fun z n hn hm => q _ _ (.inr ⟨h1 n hn, fun q hq hs => hm _ (h2 q hq hs)⟩) s04⟩
end
end K73
namespace K73
open PySem L2
def dn (m : Ms) (fair last keys n : Int) : Option Int := if wh m fair = false ∨ m.wait < crs m fair keys ∨ m.places < m.window + 2 then none else some (stl m fair last + 2 * crs m fair keys + n * (m.window + m.wait + 4 * crs m fair keys + 4))
theorem rup_nonneg {n b : Int} (hn : 0 ≤ n) (hb : 1 ≤ b) : 0 ≤ rup n b := Int.ediv_nonneg (by omega) (by omega)
theorem crs_nonneg {m : Ms} {fair keys : Int} (B : Bd m) (h : 0 ≤ fair) : 0 ≤ crs m fair keys := by
  unfold crs
  have h1 := B.h
  have h2 := B.p
  have h3 := B.r
  have h4 := B.l
  have hm : 1 ≤ mx1 keys := by unfold mx1; split <;> omega
  have hr := rup_nonneg (Int.mul_nonneg (show 0 ≤ m.places by omega) (show 0 ≤ mx1 keys by omega)) h3.1
  exact Int.mul_nonneg (Int.mul_nonneg (Int.mul_nonneg (by omega) (by omega)) (by decide)) (by omega)
theorem up_eq {n b : Int} (hb : 1 ≤ b) : 0 - (0 - n) / b = rup n b := by
  unfold rup
  have hpos : 0 < b := by omega
  have h1 := Int.emod_nonneg (n + b - 1) (show b ≠ 0 by omega)
  have h2 := Int.emod_lt_of_pos (n + b - 1) hpos
  have h3 := Int.mul_ediv_add_emod (n + b - 1) b
  have key : (0 - n) / b = -((n + b - 1) / b) ∧ (0 - n) % b = b - 1 - (n + b - 1) % b := by
    refine (Int.ediv_emod_unique hpos).mpr ⟨?_, by omega, by omega⟩
    rw [Int.mul_neg]
    omega
  rw [key.1]
  omega
structure Bw (m : Ms) : Prop where
  b : Bd m
  win : 1 ≤ m.window ∧ m.window ≤ 60
  wt : 1 ≤ m.wait ∧ m.wait ≤ 10000
theorem Bw.of {m : Ms} (h : inB m.l) : Bw m := ⟨Bd.of h, h.2 7 _ _ rfl rfl, h.2 8 _ _ rfl rfl⟩
section
variable {P : Program} {w : World} {K : PySem.W.Frag} {mg : Str → Option Value} {base : Heap} {C : Addr}
abbrev s__law_up : Stmt := top 26
theorem sc__law_up : FnScope ["_law_number", "_law_by"] ["_law_number", "_law_by"] (defScope s__law_up) := ⟨rfl, rfl, rfl, by decide +kernel, rfl, by decide +kernel, by decide +kernel⟩
abbrev s__law_cross : Stmt := top 29
theorem sc__law_cross : FnScope ["_law_told", "_law_fair", "_law_keys_here", "_law_rounds"] ["_law_told", "_law_fair", "_law_keys_here"] (defScope s__law_cross) := ⟨rfl, rfl, rfl, by decide +kernel, rfl, by decide +kernel, by decide +kernel⟩
abbrev s__law_whole : Stmt := top 30
theorem sc__law_whole : FnScope ["_law_found"] ["_law_found"] (defScope s__law_whole) := ⟨rfl, rfl, rfl, by decide +kernel, rfl, by decide +kernel, by decide +kernel⟩
abbrev s__law_made : Stmt := top 24
theorem sc__law_made : FnScope ["_law_told", "_law_a", "_law_b", "_law_c", "_law_d", "_law_e", "_law_f", "_law_g", "_law_h", "_law_i", "_law_j"] ["_law_told"] (defScope s__law_made) := ⟨rfl, rfl, rfl, by decide +kernel, rfl, by decide +kernel, by decide +kernel⟩
def sp_done (C : Addr) : Sp := fun vs H Q _ => ∃ (x dx : Addr) (m : Ms) (fair last : Int) (p : Addr) (ys : List V) (ws : List Wi), vs = [.ref x, .int fair, .int last, .ref p] ∧ H x = some (.ins C dx (fsM m)) ∧ Bw m ∧ 0 ≤ fair ∧ fair ≤ 100 ∧ H p = some (.lst ys) ∧ Paired (RW H) ys ws ∧ ws.length ≤ 40 ∧ ∀ n H', IsMost ws n → Same H H' → Q (optV (dn m fair last (nKeys ws) n)) H'
theorem most_ex (ws : List Wi) : ∃ n, IsMost ws n := by
  by_cases h : ∃ q ∈ ws, isS q.k = true
  · have go : ∀ l : List Wi, (∀ q ∈ l, q ∈ ws) → (∃ q ∈ l, isS q.k = true) → ∃ q ∈ ws, isS q.k = true ∧ ∀ r ∈ l, isS r.k = true → tot ws r.h (goal r.k) ≤ tot ws q.h (goal q.k) := by
      intro l
      induction l with
      | nil => rintro _ ⟨q, hq, _⟩; cases hq
      | cons a r ih =>
        intro hs he
        by_cases hr : ∃ q ∈ r, isS q.k = true
        · obtain ⟨q, hq, hqs, hmax⟩ := ih (fun q hq => hs q (.tail _ hq)) hr
          by_cases hc : isS a.k = true ∧ tot ws q.h (goal q.k) < tot ws a.h (goal a.k)
          · refine ⟨a, hs a (.head _), hc.1, fun z hz hzs => ?_⟩
            rcases List.mem_cons.mp hz with rfl | hz
            · exact Int.le_refl _
            · have := hmax z hz hzs
              omega
          · refine ⟨q, hq, hqs, fun z hz hzs => ?_⟩
            rcases List.mem_cons.mp hz with rfl | hz
            · refine Int.not_lt.mp fun z' => hc ⟨hzs, z'⟩
            · exact hmax z hz hzs
        · obtain ⟨q, hq, hqs⟩ := he
          rcases List.mem_cons.mp hq with rfl | hq
          · refine ⟨q, hs q (.head _), hqs, fun z hz hzs => ?_⟩
            rcases List.mem_cons.mp hz with rfl | hz
            · exact Int.le_refl _
            · exact absurd ⟨z, hz, hzs⟩ hr
          · exact absurd ⟨q, hq, hqs⟩ hr
    obtain ⟨q, hq, hqs, hmax⟩ := go ws (fun _ h => h) h
    exact ⟨_, .inr ⟨⟨q, hq, hqs, rfl⟩, hmax⟩⟩
  · exact ⟨0, .inl ⟨fun q hq => by
      cases hs : isS q.k with
      | false => rfl
      | true => exact absurd ⟨q, hq, hs⟩ h, rfl⟩⟩
abbrev dσ (x : Addr) (fair last : Int) (p : Addr) (v4 v5 : Option V) : St := [some (.ref x), some (.int fair), some (.int last), some (.ref p), v4, v5]
set_option maxHeartbeats 4000000 in
theorem own_done (D : Def K mg "done_turn" s_done_turn) (T_Measures : ClsD K mg "Measures" C at_Measures) (F_crossing_turns : Own P w K mg base 2 "crossing_turns" ["measures", "fair", "keys"] (sp_crs C)) (F_keys_of : Own P w K mg base 1 "keys_of" ["wishes"] sp_keys) (F_ways_hold : Own P w K mg base 2 "ways_hold" ["measures", "fair"] (sp_wh C)) (F_settled_turn : Own P w K mg base 2 "settled_turn" ["measures", "fair", "last"] (sp_stl C)) (F_things_most : Own P w K mg base 2 "things_most" ["wishes"] sp_most) : Own P w K mg base 3 "done_turn" ["measures", "fair", "last", "wishes"] (sp_done C) := by
  refine D.own sc_done_turn (fun _ _ _ _ _ _ us hl => match us, hl with | [_, _, _, _], _ => rfl) (fun vs H Q E h => ?_) (fun f cdv A outer s H vs Q E hr h => ?_)
  · obtain ⟨x, dx, m, fair, last, p, ys, ws, rfl, _⟩ := h
    rfl
  · obtain ⟨x, dx, m, fair, last, p, ys, ws, rfl, ex, B, f0, f1, ep, hp, hl, q⟩ := h
    have hu := hr.units
    have hu1 : (A.deeper (PyProof.Rows.envOfC "done_turn" (defScope s_done_turn) s.heap.objs.size f cdv)).units + 1 < cLine := by omega
    refine ⟨_, (@pss_cons _ _ _ _ _ (@ps_set _ _ 4 _ _ _ _ sc_done_turn.nd rfl (by first | exact Or.inl rfl | exact Or.inr rfl) (@pe_fn _ _ _ _ _ _ _ _ _ _ _ F_crossing_turns hr (@pa_cX _ _ _ _ _ (@pv _ 0 _ _ (by rfl) (by first | exact Or.inl rfl | exact Or.inr (Or.inl rfl) | exact Or.inr (Or.inr rfl)) (by decide) (by decide)) (@pa_cX _ _ _ _ _ (@pv _ 1 _ _ (by rfl) (by first | exact Or.inl rfl | exact Or.inr (Or.inl rfl) | exact Or.inr (Or.inr rfl)) (by decide) (by decide)) (@pa_cX _ _ _ _ _ (@pe_fn _ _ _ _ _ _ _ _ _ _ _ F_keys_of hr (@pa_cX _ _ _ _ _ (@pv _ 3 _ _ (by rfl) (by first | exact Or.inl rfl | exact Or.inr (Or.inl rfl) | exact Or.inr (Or.inr rfl)) (by decide) (by decide)) (@pa_nil _) (by rfl)) (by decide) (by rfl) (by decide) (by rfl) (by rfl)) (@pa_nil _) (by rfl)) (by rfl)) (by rfl)) (by decide) (by rfl) (by decide) (by rfl) (by rfl)) (by rfl) (by first | exact .inl rfl | exact .inr rfl | assumption)) (@pss_cons _ _ _ _ _ (@ps_if _ _ _ _ _ _ _ _ (@PW.pt _ _ _ (@pw_or _ _ _ _ _ _ _ (@pt_not _ _ _ _ (@pt_truX _ _ _ (@pe_fn _ _ _ _ _ _ _ _ _ _ _ F_ways_hold hr (@pa_cX _ _ _ _ _ (@pv _ 0 _ _ (by rfl) (by first | exact Or.inl rfl | exact Or.inr (Or.inl rfl) | exact Or.inr (Or.inr rfl)) (by decide) (by decide)) (@pa_cX _ _ _ _ _ (@pv _ 1 _ _ (by rfl) (by first | exact Or.inl rfl | exact Or.inr (Or.inl rfl) | exact Or.inr (Or.inr rfl)) (by decide) (by decide)) (@pa_nil _) (by rfl)) (by rfl)) (by decide) (by rfl) (by decide) (by rfl) (by rfl)) (by intro _; rfl))) (@pw_or _ _ _ _ _ _ _ (@pt_cmpR _ _ _ _ _ _ _ _ op_lt (@pe_fldK _ K _ _ _ _ (@pv _ 0 _ _ (by rfl) (by first | exact Or.inl rfl | exact Or.inr (Or.inl rfl) | exact Or.inr (Or.inr rfl)) (by decide) (by decide)) (by rfl) (by rfl)) (@pv _ 4 _ _ (by rfl) (by first | exact Or.inl rfl | exact Or.inr (Or.inl rfl) | exact Or.inr (Or.inr rfl)) (by decide) (by decide)) (nomark _)) (@pw_or1 _ _ _ _ (@pt_cmpR _ _ _ _ _ _ _ _ op_lt (@pe_fldK _ K _ _ _ _ (@pv _ 0 _ _ (by rfl) (by first | exact Or.inl rfl | exact Or.inr (Or.inl rfl) | exact Or.inr (Or.inr rfl)) (by decide) (by decide)) (by rfl) (by rfl)) (@pe_op _ _ _ _ _ _ _ _ op_add (@pe_fldK _ K _ _ _ _ (@pv _ 0 _ _ (by rfl) (by first | exact Or.inl rfl | exact Or.inr (Or.inl rfl) | exact Or.inr (Or.inr rfl)) (by decide) (by decide)) (by rfl) (by rfl)) (@pe_int _ _ _ _)) (nomark _)))))) (@pss_one _ _ _ (@ps_ret _ _ _ _ (@pe_non _ _ _))) (@pss_nil _)) (@pss_cons _ _ _ _ _ (@ps_set _ _ 5 _ _ _ _ sc_done_turn.nd rfl (by first | exact Or.inl rfl | exact Or.inr rfl) (@pe_op _ _ _ _ _ _ _ _ op_add (@pe_op _ _ _ _ _ _ _ _ op_add (@pe_op _ _ _ _ _ _ _ _ op_add (@pe_fldK _ K _ _ _ _ (@pv _ 0 _ _ (by rfl) (by first | exact Or.inl rfl | exact Or.inr (Or.inl rfl) | exact Or.inr (Or.inr rfl)) (by decide) (by decide)) (by rfl) (by rfl)) (@pe_fldK _ K _ _ _ _ (@pv _ 0 _ _ (by rfl) (by first | exact Or.inl rfl | exact Or.inr (Or.inl rfl) | exact Or.inr (Or.inr rfl)) (by decide) (by decide)) (by rfl) (by rfl))) (@pe_op _ _ _ _ _ _ _ _ op_mul (@pe_int _ _ _ _) (@pv _ 4 _ _ (by rfl) (by first | exact Or.inl rfl | exact Or.inr (Or.inl rfl) | exact Or.inr (Or.inr rfl)) (by decide) (by decide)))) (@pe_int _ _ _ _)) (by rfl) (by first | exact .inl rfl | exact .inr rfl | assumption)) (@pss_one _ _ _ (@ps_ret _ _ _ _ (@pe_op _ _ _ _ _ _ _ _ op_add (@pe_op _ _ _ _ _ _ _ _ op_add (@pe_fn _ _ _ _ _ _ _ _ _ _ _ F_settled_turn hr (@pa_cX _ _ _ _ _ (@pv _ 0 _ _ (by rfl) (by first | exact Or.inl rfl | exact Or.inr (Or.inl rfl) | exact Or.inr (Or.inr rfl)) (by decide) (by decide)) (@pa_cX _ _ _ _ _ (@pv _ 1 _ _ (by rfl) (by first | exact Or.inl rfl | exact Or.inr (Or.inl rfl) | exact Or.inr (Or.inr rfl)) (by decide) (by decide)) (@pa_cX _ _ _ _ _ (@pv _ 2 _ _ (by rfl) (by first | exact Or.inl rfl | exact Or.inr (Or.inl rfl) | exact Or.inr (Or.inr rfl)) (by decide) (by decide)) (@pa_nil _) (by rfl)) (by rfl)) (by rfl)) (by decide) (by rfl) (by decide) (by rfl) (by rfl)) (@pe_op _ _ _ _ _ _ _ _ op_mul (@pe_int _ _ _ _) (@pv _ 4 _ _ (by rfl) (by first | exact Or.inl rfl | exact Or.inr (Or.inl rfl) | exact Or.inr (Or.inr rfl)) (by decide) (by decide)))) (@pe_op _ _ _ _ _ _ _ _ op_mul (@pe_fn _ _ _ _ _ _ _ _ _ _ _ F_things_most hr (@pa_cX _ _ _ _ _ (@pv _ 3 _ _ (by rfl) (by first | exact Or.inl rfl | exact Or.inr (Or.inl rfl) | exact Or.inr (Or.inr rfl)) (by decide) (by decide)) (@pa_nil _) (by rfl)) (by decide) (by rfl) (by decide) (by rfl) (by rfl)) (@pv _ 5 _ _ (by rfl) (by first | exact Or.inl rfl | exact Or.inr (Or.inl rfl) | exact Or.inr (Or.inr rfl)) (by decide) (by decide))))))))), ?_⟩
    refine use1 (fun σ H' => σ = dσ x fair last p (some (.int (crs m fair (nKeys ws)))) none ∧ Same H H') ?_ (fun X hX => ?_)
    rotate_left
    · simp (maxSteps := 1000000) only [Nat.reduceSub, Nat.reduceAdd, tSeq, tVar, tAsg, gName, tCall, tCons, tNil, L2.start, List.map_cons, List.map_nil, List.length_cons, List.length_nil, List.replicate, List.cons_append, List.nil_append, List.getElem?_cons_zero, List.getElem?_cons_succ, List.set_cons_zero, List.set_cons_succ, Option.some.injEq, exists_eq_left', List.append_nil]
      exact ⟨p, ys, ws, rfl, ep, hp, hl, fun H1 s1 => ⟨x, dx, m, fair, nKeys ws, rfl, s1 _ _ ex, B.b, f0, f1, hX _ _ ⟨rfl, s1⟩⟩⟩
    rintro σ H1 ⟨rfl, s1⟩
    have ex1 := s1 _ _ ex
    have hc0 := crs_nonneg (keys := nKeys ws) B.b f0
    obtain ⟨n0, hn0⟩ := most_ex ws
    have qn : (wh m fair = false ∨ m.wait < crs m fair (nKeys ws) ∨ m.places < m.window + 2) → Q V.non H1 := fun z => by
      have := q n0 H1 hn0 s1
      unfold dn at this
      rw [if_pos z] at this
      exact this
    generalize hcc : crs m fair (nKeys ws) = cc at hc0 qn ⊢
    refine use1 (fun σ H' => σ = dσ x fair last p (some (.int cc)) none ∧ H' = H1 ∧ ¬ (wh m fair = false ∨ m.wait < cc ∨ m.places < m.window + 2)) ?_ (fun X hX => ?_)
    rotate_left
    · simp (maxSteps := 1000000) only [tTruX, tFld, tSeq, exists_and_left, if_true, tIfS, tOr, tNot, tTest, tOp, tVar, tC, rI0, tRet, tNext, tCall, tCons, tNil, List.getElem?_cons_zero, List.getElem?_cons_succ, Option.some.injEq, exists_eq_left', V.int.injEq, V.bl.injEq, V.ref.injEq, List.append_nil]
      refine ⟨x, dx, m, fair, rfl, ex1, B.b, ?_⟩
      simp (maxSteps := 1000000) only [truX_b, HO.ins.injEq, exists_and_left, Option.some.injEq, exists_eq_left', V.int.injEq, true_and, and_assoc, ex1, T_Measures.cl, T_Measures.no "places" (by decide), T_Measures.no "window" (by decide), T_Measures.no "wait" (by decide), fs_Measures_places, fs_Measures_window, fs_Measures_wait]
      exact ite2 (fun c1 => qn (.inl (by simpa using c1))) (fun c1 => ite2 (fun c2 => qn (.inr (.inl (by simpa using c2)))) (fun c2 => ite2 (fun c3 => qn (.inr (.inr (by simpa using c3)))) (fun c3 => hX _ _ ⟨rfl, rfl, fun z => by
        rcases z with z | z | z
        · exact c1 (by rw [z]; rfl)
        · exact c2 (decide_eq_true z)
        · exact c3 (decide_eq_true z)⟩)))
    rintro σ H2 ⟨rfl, rfl, hno⟩
    have h1 := B.win
    have h2 := B.wt
    have c2' : cc ≤ m.wait := Int.not_lt.mp fun z => hno (.inr (.inl z))
    simp (maxSteps := 1000000) only [HO.ins.injEq, tFld, tSeq, exists_and_left, tOp, tVar, tC, rI, rI0, tRet, tAsg, gName, tCall, tCons, tNil, List.getElem?_cons_zero, List.getElem?_cons_succ, List.set_cons_zero, List.set_cons_succ, Option.some.injEq, exists_eq_left', V.int.injEq, V.ref.injEq, true_and, and_assoc, List.append_nil, ex1, T_Measures.cl, T_Measures.no "window" (by decide), T_Measures.no "wait" (by decide), fs_Measures_window, fs_Measures_wait]
    refine ⟨.inl ⟨by decide, by decide⟩, x, dx, m, fair, last, rfl, ex1, B.b, .inl ⟨by decide, by decide⟩, _, rfl, p, ys, ws, rfl, s1 _ _ ep, paired_imp (fun _ _ z => z.same s1) hp, hl, fun n H2 hn s2 => ⟨_, rfl, .inr ⟨by omega, by omega⟩, ?_⟩⟩
    have := q n H2 hn (s1.trans s2)
    unfold dn at this
    rw [hcc, if_neg hno] at this
    exact this
def sp_up : Sp := fun vs H Q _ => ∃ n b : Int, vs = [.int n, .int b] ∧ 1 ≤ b ∧ b ≤ 1000 ∧ Q (.int (rup n b)) H
theorem own_up (D : Def K mg "_law_up" s__law_up) : Own P w K mg base 1 "_law_up" ["_law_number", "_law_by"] sp_up := by
  refine D.own sc__law_up (fun _ _ _ _ _ _ us hl => match us, hl with | [_, _], _ => rfl) (fun vs H Q E h => ?_) (fun f cdv A outer s H vs Q E hr h => ?_)
  · obtain ⟨n, b, rfl, _⟩ := h
    rfl
  · obtain ⟨n, b, rfl, h1, h2, q⟩ := h
    refine ⟨_, (@pss_one _ _ _ (@ps_ret _ _ _ _ (@pe_op _ _ _ _ _ _ _ _ op_sub (@pe_int _ _ _ _) (@pe_op _ _ _ _ _ _ _ _ op_fdiv (@pe_op _ _ _ _ _ _ _ _ op_sub (@pe_int _ _ _ _) (@pv _ 0 _ _ (by rfl) (by first | exact Or.inl rfl | exact Or.inr (Or.inl rfl) | exact Or.inr (Or.inr rfl)) (by decide) (by decide))) (@pv _ 1 _ _ (by rfl) (by first | exact Or.inl rfl | exact Or.inr (Or.inl rfl) | exact Or.inr (Or.inr rfl)) (by decide) (by decide)))))), ?_⟩
    simp (maxSteps := 1000000) only [Nat.reduceSub, Nat.reduceAdd, exists_and_left, tOp, tVar, tC, rI, rI0, tRet, L2.start, List.map_cons, List.map_nil, List.length_cons, List.length_nil, List.replicate, List.getElem?_cons_zero, List.getElem?_cons_succ, Option.some.injEq, exists_eq_left', V.int.injEq, List.append_nil]
    rw [up_eq h1]
    exact ⟨⟨by omega, by omega⟩, q⟩
def sp_cross : Sp := fun vs H Q _ => ∃ (p : Addr) (m : Ms) (fair k : Int), vs = [.ref p, .int fair, .int k] ∧ H p = some (.lst (m.l.map V.int)) ∧ Bd m ∧ 0 ≤ fair ∧ fair ≤ 100 ∧ Q (.int ((m.hands - 1) * (rup (m.places * k) m.room + 1) * 2 * (fair + m.lag))) H
theorem own_cross (D : Def K mg "_law_cross" s__law_cross) (F__law_up : Own P w K mg base 1 "_law_up" ["_law_number", "_law_by"] sp_up) : Own P w K mg base 2 "_law_cross" ["_law_told", "_law_fair", "_law_keys_here"] sp_cross := by
  refine D.own sc__law_cross (fun _ _ _ _ _ _ us hl => match us, hl with | [_, _, _], _ => rfl) (fun vs H Q E h => ?_) (fun f cdv A outer s H vs Q E hr h => ?_)
  · obtain ⟨p, m, fair, k, rfl, _⟩ := h
    rfl
  · obtain ⟨p, m, fair, k, rfl, ep, B, f0, f1, q⟩ := h
    have hu := hr.units
    have hu1 : (A.deeper (PyProof.Rows.envOfC "_law_cross" (defScope s__law_cross) s.heap.objs.size f cdv)).units + 1 < cLine := by omega
    refine ⟨_, (@pss_cons _ _ _ _ _ (@ps_set _ _ 3 _ _ _ _ sc__law_cross.nd rfl (by first | exact Or.inl rfl | exact Or.inr rfl) (@pe_op _ _ _ _ _ _ _ _ op_add (@pe_fn _ _ _ _ _ _ _ _ _ _ _ F__law_up hr (@pa_cX _ _ _ _ _ (@pe_op _ _ _ _ _ _ _ _ op_mul (@pe_ix _ _ _ _ _ _ _ (ix_get hu1) (@pv _ 0 _ _ (by rfl) (by first | exact Or.inl rfl | exact Or.inr (Or.inl rfl) | exact Or.inr (Or.inr rfl)) (by decide) (by decide)) (@pe_int _ _ _ _) (fun _ _ => rfl)) (@pv _ 2 _ _ (by rfl) (by first | exact Or.inl rfl | exact Or.inr (Or.inl rfl) | exact Or.inr (Or.inr rfl)) (by decide) (by decide))) (@pa_cX _ _ _ _ _ (@pe_ix _ _ _ _ _ _ _ (ix_get hu1) (@pv _ 0 _ _ (by rfl) (by first | exact Or.inl rfl | exact Or.inr (Or.inl rfl) | exact Or.inr (Or.inr rfl)) (by decide) (by decide)) (@pe_int _ _ _ _) (fun _ _ => rfl)) (@pa_nil _) (by rfl)) (by rfl)) (by decide) (by rfl) (by decide) (by rfl) (by rfl)) (@pe_int _ _ _ _)) (by rfl) (by first | exact .inl rfl | exact .inr rfl | assumption)) (@pss_one _ _ _ (@ps_ret _ _ _ _ (@pe_op _ _ _ _ _ _ _ _ op_mul (@pe_op _ _ _ _ _ _ _ _ op_mul (@pe_op _ _ _ _ _ _ _ _ op_mul (@pe_op _ _ _ _ _ _ _ _ op_sub (@pe_ix _ _ _ _ _ _ _ (ix_get hu1) (@pv _ 0 _ _ (by rfl) (by first | exact Or.inl rfl | exact Or.inr (Or.inl rfl) | exact Or.inr (Or.inr rfl)) (by decide) (by decide)) (@pe_int _ _ _ _) (fun _ _ => rfl)) (@pe_int _ _ _ _)) (@pv _ 3 _ _ (by rfl) (by first | exact Or.inl rfl | exact Or.inr (Or.inl rfl) | exact Or.inr (Or.inr rfl)) (by decide) (by decide))) (@pe_int _ _ _ _)) (@pe_op _ _ _ _ _ _ _ _ op_add (@pe_ix _ _ _ _ _ _ _ (ix_get hu1) (@pv _ 0 _ _ (by rfl) (by first | exact Or.inl rfl | exact Or.inr (Or.inl rfl) | exact Or.inr (Or.inr rfl)) (by decide) (by decide)) (@pe_int _ _ _ _) (fun _ _ => rfl)) (@pv _ 1 _ _ (by rfl) (by first | exact Or.inl rfl | exact Or.inr (Or.inl rfl) | exact Or.inr (Or.inr rfl)) (by decide) (by decide))))))), ?_⟩
    have ep' : H p = some (.lst [V.int m.hands, V.int m.lag, V.int m.miss, V.int m.each, V.int m.count, V.int m.room, V.int m.places, V.int m.window, V.int m.wait, V.int m.keep]) := ep
    have a5 : atI [V.int m.hands, V.int m.lag, V.int m.miss, V.int m.each, V.int m.count, V.int m.room, V.int m.places, V.int m.window, V.int m.wait, V.int m.keep] 5 = some (V.int m.room) := rfl
    have a6 : atI [V.int m.hands, V.int m.lag, V.int m.miss, V.int m.each, V.int m.count, V.int m.room, V.int m.places, V.int m.window, V.int m.wait, V.int m.keep] 6 = some (V.int m.places) := rfl
    simp (maxSteps := 1000000) only [rGet, getO_l, Nat.reduceSub, Nat.reduceAdd, tSeq, exists_and_left, tOp, tVar, tC, rI, rI0, tRet, tAsg, gName, tCall, tCons, tNil, L2.start, List.map_cons, List.map_nil, List.length_cons, List.length_nil, List.replicate, List.cons_append, List.nil_append, List.getElem?_cons_zero, List.getElem?_cons_succ, List.set_cons_zero, List.set_cons_succ, Option.some.injEq, exists_eq_left', V.int.injEq, V.ref.injEq, List.append_nil, ep', a5, a6]
    have h1 := B.h
    have h2 := B.p
    have h3 := B.r
    have h4 := B.l
    refine ⟨.inl ⟨by omega, by omega⟩, _, _, rfl, h3.1, by omega, ?_⟩
    rw [Int.add_comm fair m.lag] at q
    exact ⟨_, rfl, _, ep', _, rfl, _, rfl, .inl ⟨by omega, by omega⟩, .inr ⟨by decide, by decide⟩, _, ep', _, rfl, _, rfl, .inr ⟨by omega, by omega⟩, q⟩
def sp_lwhole : Sp := fun vs H Q _ => ∃ i : Int, vs = [.int i] ∧ Q (.bl true) H
theorem own_lwhole (D : Def K mg "_law_whole" s__law_whole) (hb : Blt mg) : Own P w K mg base 1 "_law_whole" ["_law_found"] sp_lwhole := by
  refine D.own sc__law_whole (fun _ _ _ _ _ _ us hl => match us, hl with | [_], _ => rfl) (fun vs H Q E h => ?_) (fun f cdv A outer s H vs Q E hr h => ?_)
  · obtain ⟨i, rfl, _⟩ := h
    rfl
  · obtain ⟨i, rfl, q⟩ := h
    refine ⟨_, (@pss_one _ _ _ (@ps_ret _ _ _ _ (@pe_and _ _ _ _ _ _ _ (@pe_callB _ _ _ _ _ _ _ _ _ call_isiX rfl (hb _ (by decide)) bt_isinstance (@pa_cX _ _ _ _ _ (@pv _ 0 _ _ (by rfl) (by first | exact Or.inl rfl | exact Or.inr (Or.inl rfl) | exact Or.inr (Or.inr rfl)) (by decide) (by decide)) (@pa_cX _ _ _ _ _ (@pe_bltn _ _ (.ty "int") _ _ rfl (hb _ (by decide)) bt_int rfl (by decide) (by decide)) (@pa_nil _) (by rfl)) (by rfl)) (by decide) (by decide) (by rfl) (by rfl)) (@pe_one _ _ _ _ _ (@pe_not _ _ _ _ (@pe_callB _ _ _ _ _ _ _ _ _ call_isiX rfl (hb _ (by decide)) bt_isinstance (@pa_cX _ _ _ _ _ (@pv _ 0 _ _ (by rfl) (by first | exact Or.inl rfl | exact Or.inr (Or.inl rfl) | exact Or.inr (Or.inr rfl)) (by decide) (by decide)) (@pa_cX _ _ _ _ _ (@pe_bltn _ _ (.ty "bool") _ _ rfl (hb _ (by decide)) bt_bool rfl (by decide) (by decide)) (@pa_nil _) (by rfl)) (by rfl)) (by decide) (by decide) (by rfl) (by rfl))))))), ?_⟩
    simp (maxSteps := 1000000) only [rIsIX, tyX_i, V.ty.injEq, kT_inin, kT_inbo, Nat.reduceSub, Nat.reduceAdd, V.ty.injEq, Bool.not_false, List.cons.injEq, exists_and_left, if_true, tVar, tC, tRet, tAndV, tNotV, tCons, tNil, tCB, L2.start, List.map_cons, List.map_nil, List.length_cons, List.length_nil, List.replicate, List.getElem?_cons_zero, Option.some.injEq, exists_eq_left', V.bl.injEq, and_true, and_assoc, List.append_nil]
    exact q
def sp_made (C : Addr) : Sp := fun vs H Q _ => ∃ (p : Addr) (m : Ms), vs = [.ref p] ∧ H p = some (.lst (m.l.map V.int)) ∧ inB m.l ∧ ∀ x dx H', H' x = some (.ins C dx (fsM m)) → Same H H' → Q (.ref x) H'
theorem own_made (D : Def K mg "_law_made" s__law_made) (T_Measures : ClsD K mg "Measures" C at_Measures) (I_Measures : OwnI P w K mg base 4 C ["self", "hands", "lag", "miss", "raise_each", "count", "room", "places", "window", "wait", "keep"] (sp_minit C)) : Own P w K mg base 6 "_law_made" ["_law_told"] (sp_made C) := by
  refine D.own sc__law_made (fun _ _ _ _ _ _ us hl => match us, hl with | [_], _ => rfl) (fun vs H Q E h => ?_) (fun f cdv A outer s H vs Q E hr h => ?_)
  · obtain ⟨p, m, rfl, _⟩ := h
    rfl
  · obtain ⟨p, m, rfl, ep, hi, q⟩ := h
    have hu := hr.units
    have hu1 : (A.deeper (PyProof.Rows.envOfC "_law_made" (defScope s__law_made) s.heap.objs.size f cdv)).units + 1 < cLine := by omega
    refine ⟨_, (@pss_cons _ _ _ _ _ (@ps_asg _ _ _ _ _ _ (@pv _ 0 _ _ (by rfl) (by first | exact Or.inl rfl | exact Or.inr (Or.inl rfl) | exact Or.inr (Or.inr rfl)) (by decide) (by decide)) (@pg_seqX _ _ _ _ 10 _ rfl (@pgs_cons _ _ _ _ _ (@pg_name _ _ 1 _ sc__law_made.nd rfl (by first | exact Or.inl rfl | exact Or.inr rfl) (by first | exact .inl rfl | exact .inr rfl | assumption)) (@pgs_cons _ _ _ _ _ (@pg_name _ _ 2 _ sc__law_made.nd rfl (by first | exact Or.inl rfl | exact Or.inr rfl) (by first | exact .inl rfl | exact .inr rfl | assumption)) (@pgs_cons _ _ _ _ _ (@pg_name _ _ 3 _ sc__law_made.nd rfl (by first | exact Or.inl rfl | exact Or.inr rfl) (by first | exact .inl rfl | exact .inr rfl | assumption)) (@pgs_cons _ _ _ _ _ (@pg_name _ _ 4 _ sc__law_made.nd rfl (by first | exact Or.inl rfl | exact Or.inr rfl) (by first | exact .inl rfl | exact .inr rfl | assumption)) (@pgs_cons _ _ _ _ _ (@pg_name _ _ 5 _ sc__law_made.nd rfl (by first | exact Or.inl rfl | exact Or.inr rfl) (by first | exact .inl rfl | exact .inr rfl | assumption)) (@pgs_cons _ _ _ _ _ (@pg_name _ _ 6 _ sc__law_made.nd rfl (by first | exact Or.inl rfl | exact Or.inr rfl) (by first | exact .inl rfl | exact .inr rfl | assumption)) (@pgs_cons _ _ _ _ _ (@pg_name _ _ 7 _ sc__law_made.nd rfl (by first | exact Or.inl rfl | exact Or.inr rfl) (by first | exact .inl rfl | exact .inr rfl | assumption)) (@pgs_cons _ _ _ _ _ (@pg_name _ _ 8 _ sc__law_made.nd rfl (by first | exact Or.inl rfl | exact Or.inr rfl) (by first | exact .inl rfl | exact .inr rfl | assumption)) (@pgs_cons _ _ _ _ _ (@pg_name _ _ 9 _ sc__law_made.nd rfl (by first | exact Or.inl rfl | exact Or.inr rfl) (by first | exact .inl rfl | exact .inr rfl | assumption)) (@pgs_cons _ _ _ _ _ (@pg_name _ _ 10 _ sc__law_made.nd rfl (by first | exact Or.inl rfl | exact Or.inr rfl) (by first | exact .inl rfl | exact .inr rfl | assumption)) (@pgs_nil _) (by rfl)) (by rfl)) (by rfl)) (by rfl)) (by rfl)) (by rfl)) (by rfl)) (by rfl)) (by rfl)) (by rfl)) (by rfl) (by rfl)) (by rfl) (by rfl) (by rfl)) (@pss_one _ _ _ (@ps_ret _ _ _ _ (@pe_mak _ _ _ _ _ _ _ _ _ _ _ _ I_Measures hr T_Measures.mgC (@pa_cX _ _ _ _ _ (@pv _ 1 _ _ (by rfl) (by first | exact Or.inl rfl | exact Or.inr (Or.inl rfl) | exact Or.inr (Or.inr rfl)) (by decide) (by decide)) (@pa_cX _ _ _ _ _ (@pv _ 2 _ _ (by rfl) (by first | exact Or.inl rfl | exact Or.inr (Or.inl rfl) | exact Or.inr (Or.inr rfl)) (by decide) (by decide)) (@pa_cX _ _ _ _ _ (@pv _ 3 _ _ (by rfl) (by first | exact Or.inl rfl | exact Or.inr (Or.inl rfl) | exact Or.inr (Or.inr rfl)) (by decide) (by decide)) (@pa_cX _ _ _ _ _ (@pv _ 4 _ _ (by rfl) (by first | exact Or.inl rfl | exact Or.inr (Or.inl rfl) | exact Or.inr (Or.inr rfl)) (by decide) (by decide)) (@pa_cX _ _ _ _ _ (@pv _ 5 _ _ (by rfl) (by first | exact Or.inl rfl | exact Or.inr (Or.inl rfl) | exact Or.inr (Or.inr rfl)) (by decide) (by decide)) (@pa_cX _ _ _ _ _ (@pv _ 6 _ _ (by rfl) (by first | exact Or.inl rfl | exact Or.inr (Or.inl rfl) | exact Or.inr (Or.inr rfl)) (by decide) (by decide)) (@pa_cX _ _ _ _ _ (@pv _ 7 _ _ (by rfl) (by first | exact Or.inl rfl | exact Or.inr (Or.inl rfl) | exact Or.inr (Or.inr rfl)) (by decide) (by decide)) (@pa_cX _ _ _ _ _ (@pv _ 8 _ _ (by rfl) (by first | exact Or.inl rfl | exact Or.inr (Or.inl rfl) | exact Or.inr (Or.inr rfl)) (by decide) (by decide)) (@pa_cX _ _ _ _ _ (@pv _ 9 _ _ (by rfl) (by first | exact Or.inl rfl | exact Or.inr (Or.inl rfl) | exact Or.inr (Or.inr rfl)) (by decide) (by decide)) (@pa_cX _ _ _ _ _ (@pv _ 10 _ _ (by rfl) (by first | exact Or.inl rfl | exact Or.inr (Or.inl rfl) | exact Or.inr (Or.inr rfl)) (by decide) (by decide)) (@pa_nil _) (by rfl)) (by rfl)) (by rfl)) (by rfl)) (by rfl)) (by rfl)) (by rfl)) (by rfl)) (by rfl)) (by rfl)) (by decide) (by rfl) (by decide) (by rfl) (by rfl))))), ?_⟩
    have ep' : H p = some (.lst [V.int m.hands, V.int m.lag, V.int m.miss, V.int m.each, V.int m.count, V.int m.room, V.int m.places, V.int m.window, V.int m.wait, V.int m.keep]) := ep
    simp (maxSteps := 1000000) only [gSeqX, seqO_l, gCons, gNil, Nat.reduceSub, upd_same, HO.ins.injEq, Nat.reduceAdd, ne_eq, tMake, List.cons.injEq, tSeq, exists_and_left, tVar, tRet, tAsg, gName, tCons, tNil, L2.start, List.map_cons, List.map_nil, List.length_cons, List.length_nil, List.replicate, List.cons_append, List.nil_append, List.getElem?_cons_zero, List.getElem?_cons_succ, List.set_cons_zero, List.set_cons_succ, Option.some.injEq, exists_eq_left', V.int.injEq, V.ref.injEq, and_true, true_and, and_assoc, List.append_nil, ep', sp_minit]
    intro x dx hx hdx _
    exact ⟨dx, m, rfl, rfl, rfl, rfl, rfl, rfl, rfl, rfl, rfl, rfl, rfl, hi, fun H' e k => q x dx H' e (make_same hx hdx k)⟩
end
end K73
namespace K73
open PySem L2
theorem inV_int {h : Int} : ∀ {acc : List Int}, inV (.int h) (acc.map V.int) = decide (h ∈ acc)
  | [] => rfl
  | x :: r => by
    have ih := inV_int (h := h) (acc := r)
    unfold inV at ih ⊢
    rw [List.map_cons, List.any_cons, ih]
    by_cases e : h = x
    · subst e; simp [eqV]
    · simp [eqV, e, Ne.symm e]
theorem flat_ints : ∀ acc : List Int, (acc.map V.int).all flatV = true
  | [] => rfl
  | _ :: r => by rw [List.map_cons, List.all_cons, flat_ints r]; rfl
theorem inO_ints {acc : List Int} {h : Int} : inO (.lst (acc.map V.int)) (.int h) = some (decide (h ∈ acc)) := by
  change (if flatV (.int h) = true ∧ (acc.map V.int).all flatV = true then some (inV (.int h) (acc.map V.int)) else none) = _
  rw [if_pos ⟨rfl, flat_ints acc⟩, inV_int]
/-! ### tuples of ints as data -/
def dTp (k : List Int) : PyData := .tuple (k.map PyData.int)
theorem eqv_ints : ∀ (a b : List Int), PyData.eqvAll (a.map PyData.int) (b.map PyData.int) = decide (a = b)
  | [], [] => by simp [PyData.eqvAll]
  | [], _ :: _ => by simp [PyData.eqvAll]
  | _ :: _, [] => by simp [PyData.eqvAll]
  | x :: a, y :: b => by
    rw [List.map_cons, List.map_cons, PyData.eqvAll, eqv_ints a b, PyData.eqv, Bool.eq_iff_iff]
    simp
theorem eqv_tp {a b : List Int} : PyData.eqv (dTp a) (dTp b) = decide (a = b) := by
  unfold dTp
  rw [PyData.eqv]
  exact eqv_ints a b
theorem ims_ints {H : Hp} : ∀ k : List Int, Ims H (k.map V.int) (k.map PyData.int)
  | [] => .nil
  | n :: r => .cons (.int n) (ims_ints r)
theorem tpi_im {H : Hp} {v : V} {k : List Int} (h : TpI H v k) (hl : k.length ≤ 10) : Im H v (dTp k) := by
  obtain ⟨p, rfl, h⟩ := h
  exact .tup h (ims_ints k) (by rw [List.length_map]; omega)
theorem tpi_ims {H : Hp} : ∀ {vs : List V} {kl : List (List Int)}, Paired (TpI H) vs kl → (∀ k ∈ kl, k.length ≤ 10) → Ims H vs (kl.map dTp)
  | _, _, .nil, _ => .nil
  | _, _, .cons h t, hl => .cons (tpi_im h (hl _ (.head _))) (tpi_ims t fun k hk => hl k (.tail _ hk))
theorem dTp_dep {k : List Int} : (dTp k).depth ≤ 2 := by
  unfold dTp
  have : PyData.depthAll (k.map PyData.int) ≤ 1 := by
    induction k with
    | nil => simp [PyData.depthAll]
    | cons n r ih =>
      rw [List.map_cons, PyData.depthAll]
      simp only [PyData.depth]
      omega
  rw [PyData.depth]
  omega
theorem any_tp {kl : List (List Int)} {k : List Int} : ((kl.map dTp).any fun e => PyData.eqv e (dTp k)) = decide (k ∈ kl) := by
  rw [List.any_map, Bool.eq_iff_iff, List.any_eq_true, decide_eq_true_iff]
  constructor
  · rintro ⟨a, ha, e⟩
    have : PyData.eqv (dTp a) (dTp k) = true := e
    rw [eqv_tp] at this
    rw [← of_decide_eq_true this]
    exact ha
  · intro h
    exact ⟨k, h, by change PyData.eqv (dTp k) (dTp k) = true; rw [eqv_tp]; simp⟩
theorem ddk_in {kl : List (List Int)} {k : List Int} (h : k ∈ kl) : ddk kl k = kl := if_pos h
theorem ddk_out {kl : List (List Int)} {k : List Int} (h : k ∉ kl) : ddk kl k = kl ++ [k] := if_neg h
theorem stms_snoc {ws : List Wi} {q : Wi} : stms (ws ++ [q]) = stms ws ++ (if isB q.k = true then [[q.h, goal q.k]] else []) := by
  unfold stms
  rw [List.filter_append, List.map_append]
  congr 1
  rw [List.filter_cons]
  split <;> rfl
theorem asks_snoc {ws : List Wi} {q : Wi} : asks (ws ++ [q]) = asks ws ++ (if isA q.k = true then [q.h] else []) := by
  unfold asks
  rw [List.filter_append, List.map_append]
  congr 1
  rw [List.filter_cons]
  split <;> rfl
theorem ddk_len2 : ∀ (l kl : List (List Int)), (∀ k ∈ l, k.length = 2) → (∀ k ∈ kl, k.length = 2) → ∀ k ∈ l.foldl ddk kl, k.length = 2
  | [], kl, _, h, k, hk => h k hk
  | x :: r, kl, hl, h, k, hk => by
    rw [List.foldl_cons] at hk
    refine ddk_len2 r (ddk kl x) (fun y hy => hl y (.tail _ hy)) (fun y hy => ?_) k hk
    unfold ddk at hy
    split at hy
    · exact h y hy
    · rcases List.mem_append.mp hy with hy | hy
      · exact h y hy
      · rw [List.mem_singleton] at hy
        rw [hy]
        exact hl x (.head _)
theorem stms_len2 {ws : List Wi} : ∀ k ∈ (stms ws).foldl ddk [], k.length = 2 := ddk_len2 _ _ (fun k hk => by
  unfold stms at hk
  obtain ⟨q, _, rfl⟩ := List.mem_map.mp hk
  rfl) (fun k z => nomatch z)
section
variable {P : Program} {w : World} {K : PySem.W.Frag} {mg : Str → Option Value} {base : Heap} {C : Addr}
abbrev s__law_keys : Stmt := top 27
theorem sc__law_keys : FnScope ["_law_wishes_here", "_law_streams", "_law_askers", "_law_turn", "_law_hand", "_law_word", "_law_what"] ["_law_wishes_here"] (defScope s__law_keys) := ⟨rfl, rfl, rfl, by decide +kernel, rfl, by decide +kernel, by decide +kernel⟩
abbrev s__law_things : Stmt := top 28
theorem sc__law_things : FnScope ["_law_wishes_here", "_law_most", "_law_turn", "_law_hand", "_law_word", "_law_what", "_law_goal", "_law_many", "_law_other", "_law_by", "_law_name", "_law_thing"] ["_law_wishes_here"] (defScope s__law_things) := ⟨rfl, rfl, rfl, by decide +kernel, rfl, by decide +kernel, by decide +kernel⟩
abbrev kσ (p p1 p2 : Addr) (tt hh : Int) (z : Str) (x : V) : St := [some (.ref p), some (.ref p1), some (.ref p2), some (.int tt), some (.int hh), some (.str z), some x]
def LkI (p pa pb : Addr) (ws : List Wi) (H : Hp) (i : Nat) (σ : St) (H' : Hp) : Prop := ∃ vs v3 v4 v5 v6, σ = [some (.ref p), some (.ref pa), some (.ref pb), v3, v4, v5, v6] ∧ H' pa = some (.lst vs) ∧ Paired (TpI H') vs ((stms (ws.take i)).foldl ddk []) ∧ H' pb = some (.lst ((fm (asks (ws.take i))).map V.int)) ∧ Keep [pa, pb] H H'
set_option maxHeartbeats 4000000 in
theorem own_lkeys (D : Def K mg "_law_keys" s__law_keys) (hb : Blt mg) : Own P w K mg base 1 "_law_keys" ["_law_wishes_here"] sp_keys := by
  refine D.own sc__law_keys (fun _ _ _ _ _ _ us hl => match us, hl with | [_], _ => rfl) (fun vs H Q E h => ?_) (fun f cdv A outer s H vs Q E hr h => ?_)
  · obtain ⟨p, ys, ws, rfl, _⟩ := h
    rfl
  · obtain ⟨p, ys, ws, rfl, ep, hp, hl, q⟩ := h
    have hu := hr.units
    have hu1 : (A.deeper (PyProof.Rows.envOfC "_law_keys" (defScope s__law_keys) s.heap.objs.size f cdv)).units + 1 < cLine := by omega
    refine ⟨_, (@pss_cons _ _ _ _ _ (@ps_set _ _ 1 _ _ _ _ sc__law_keys.nd rfl (by first | exact Or.inl rfl | exact Or.inr rfl) (@pe_lst _ _ _ _ (@pa_nil _)) (by rfl) (by first | exact .inl rfl | exact .inr rfl | assumption)) (@pss_cons _ _ _ _ _ (@ps_set _ _ 2 _ _ _ _ sc__law_keys.nd rfl (by first | exact Or.inl rfl | exact Or.inr rfl) (@pe_lst _ _ _ _ (@pa_nil _)) (by rfl) (by first | exact .inl rfl | exact .inr rfl | assumption)) (@pss_cons _ _ _ _ _ (@ps_for _ _ _ _ _ _ _ _ PassesOwn.never rfl (@pi_listK _ K _ _ _ (@pv _ 0 _ _ (by rfl) (by first | exact Or.inl rfl | exact Or.inr (Or.inl rfl) | exact Or.inr (Or.inr rfl)) (by decide) (by decide)) (by rfl)) (@pg_seqX _ _ _ _ 4 _ rfl (@pgs_cons _ _ _ _ _ (@pg_name _ _ 3 _ sc__law_keys.nd rfl (by first | exact Or.inl rfl | exact Or.inr rfl) (by first | exact .inl rfl | exact .inr rfl | assumption)) (@pgs_cons _ _ _ _ _ (@pg_name _ _ 4 _ sc__law_keys.nd rfl (by first | exact Or.inl rfl | exact Or.inr rfl) (by first | exact .inl rfl | exact .inr rfl | assumption)) (@pgs_cons _ _ _ _ _ (@pg_name _ _ 5 _ sc__law_keys.nd rfl (by first | exact Or.inl rfl | exact Or.inr rfl) (by first | exact .inl rfl | exact .inr rfl | assumption)) (@pgs_cons _ _ _ _ _ (@pg_name _ _ 6 _ sc__law_keys.nd rfl (by first | exact Or.inl rfl | exact Or.inr rfl) (by first | exact .inl rfl | exact .inr rfl | assumption)) (@pgs_nil _) (by rfl)) (by rfl)) (by rfl)) (by rfl)) (by rfl) (by rfl)) (@pss_cons _ _ _ _ _ (@ps_if _ _ _ _ _ _ _ _ (@PW.pt _ _ _ (@pw_and _ _ _ _ _ _ _ (@pt_cmpR _ _ _ _ _ _ _ _ op_eq (@pv _ 5 _ _ (by rfl) (by first | exact Or.inl rfl | exact Or.inr (Or.inl rfl) | exact Or.inr (Or.inr rfl)) (by decide) (by decide)) (@pe_str _ _ _ _) (nomark _)) (@pw_and1 _ _ _ _ (@pt_cmpR _ _ _ _ _ _ _ _ (op_notinD hu) (@pe_tup _ _ _ _ _ (@pa_cX _ _ _ _ _ (@pv _ 4 _ _ (by rfl) (by first | exact Or.inl rfl | exact Or.inr (Or.inl rfl) | exact Or.inr (Or.inr rfl)) (by decide) (by decide)) (@pa_cX _ _ _ _ _ (@pv _ 6 _ _ (by rfl) (by first | exact Or.inl rfl | exact Or.inr (Or.inl rfl) | exact Or.inr (Or.inr rfl)) (by decide) (by decide)) (@pa_nil _) (by rfl)) (by rfl))) (@pv _ 1 _ _ (by rfl) (by first | exact Or.inl rfl | exact Or.inr (Or.inl rfl) | exact Or.inr (Or.inr rfl)) (by decide) (by decide)) rfl)))) (@pss_one _ _ _ (@ps_expr _ _ _ _ (@pe_lm _ _ _ _ _ _ _ _ _ _ _ PySem.F.slot_list_append PySem.F.type_list_append mt_append (@pv _ 1 _ _ (by rfl) (by first | exact Or.inl rfl | exact Or.inr (Or.inl rfl) | exact Or.inr (Or.inr rfl)) (by decide) (by decide)) (@pa_cX _ _ _ _ _ (@pe_tup _ _ _ _ _ (@pa_cX _ _ _ _ _ (@pv _ 4 _ _ (by rfl) (by first | exact Or.inl rfl | exact Or.inr (Or.inl rfl) | exact Or.inr (Or.inr rfl)) (by decide) (by decide)) (@pa_cX _ _ _ _ _ (@pv _ 6 _ _ (by rfl) (by first | exact Or.inl rfl | exact Or.inr (Or.inl rfl) | exact Or.inr (Or.inr rfl)) (by decide) (by decide)) (@pa_nil _) (by rfl)) (by rfl))) (@pa_nil _) (by rfl)) (by rfl) (by rfl) (by rfl) (by rfl) (by rfl)) (by rfl))) (@pss_nil _)) (@pss_one _ _ _ (@ps_if _ _ _ _ _ _ _ _ (@PW.pt _ _ _ (@pw_and _ _ _ _ _ _ _ (@pt_cmpR _ _ _ _ _ _ _ _ op_eq (@pv _ 5 _ _ (by rfl) (by first | exact Or.inl rfl | exact Or.inr (Or.inl rfl) | exact Or.inr (Or.inr rfl)) (by decide) (by decide)) (@pe_str _ _ _ _) (nomark _)) (@pw_and1 _ _ _ _ (@pt_cmpR _ _ _ _ _ _ _ _ (op_notinX hu1) (@pv _ 4 _ _ (by rfl) (by first | exact Or.inl rfl | exact Or.inr (Or.inl rfl) | exact Or.inr (Or.inr rfl)) (by decide) (by decide)) (@pv _ 2 _ _ (by rfl) (by first | exact Or.inl rfl | exact Or.inr (Or.inl rfl) | exact Or.inr (Or.inr rfl)) (by decide) (by decide)) rfl)))) (@pss_one _ _ _ (@ps_expr _ _ _ _ (@pe_lm _ _ _ _ _ _ _ _ _ _ _ PySem.F.slot_list_append PySem.F.type_list_append mt_append (@pv _ 2 _ _ (by rfl) (by first | exact Or.inl rfl | exact Or.inr (Or.inl rfl) | exact Or.inr (Or.inr rfl)) (by decide) (by decide)) (@pa_cX _ _ _ _ _ (@pv _ 4 _ _ (by rfl) (by first | exact Or.inl rfl | exact Or.inr (Or.inl rfl) | exact Or.inr (Or.inr rfl)) (by decide) (by decide)) (@pa_nil _) (by rfl)) (by rfl) (by rfl) (by rfl) (by rfl) (by rfl)) (by rfl))) (@pss_nil _)))) (by intro _; rfl)) (@pss_one _ _ _ (@ps_ret _ _ _ _ (@pe_op _ _ _ _ _ _ _ _ op_add (@pe_op _ _ _ _ _ _ _ _ op_mul (@pe_int _ _ _ _) (@pe_callB _ _ _ _ _ _ _ _ _ call_lenX rfl (hb _ (by decide)) bt_len (@pa_cX _ _ _ _ _ (@pv _ 1 _ _ (by rfl) (by first | exact Or.inl rfl | exact Or.inr (Or.inl rfl) | exact Or.inr (Or.inr rfl)) (by decide) (by decide)) (@pa_nil _) (by rfl)) (by decide) (by decide) (by rfl) (by rfl))) (@pe_op _ _ _ _ _ _ _ _ op_mul (@pe_int _ _ _ _) (@pe_callB _ _ _ _ _ _ _ _ _ call_lenX rfl (hb _ (by decide)) bt_len (@pa_cX _ _ _ _ _ (@pv _ 2 _ _ (by rfl) (by first | exact Or.inl rfl | exact Or.inr (Or.inl rfl) | exact Or.inr (Or.inr rfl)) (by decide) (by decide)) (@pa_nil _) (by rfl)) (by decide) (by decide) (by rfl) (by rfl))))))))), ?_⟩
    simp (maxSteps := 1000000) only [tFor_eq, Nat.reduceSub, Nat.reduceAdd, iList, tSeq, tVar, tAsg, gName, tNil, tLst, L2.start, List.map_cons, List.map_nil, List.length_cons, List.length_nil, List.replicate, List.cons_append, List.nil_append, List.getElem?_cons_zero, List.set_cons_zero, List.set_cons_succ, Option.some.injEq, exists_eq_left', V.ref.injEq]
    refine ⟨Nat.zero_le _, ?_⟩
    intro p1 n1
    generalize z1 : upd H p1 _ = H1
    obtain ⟨s1, e1⟩ := new_same z1 n1
    refine ⟨Nat.zero_le _, ?_⟩
    intro p2 n2
    generalize z2 : upd H1 p2 _ = H2
    obtain ⟨s2, e2⟩ := new_same z2 n2
    have s12 := s1.trans s2
    have ep2 := s12 _ _ ep
    have hlen := hp.length
    have n12 : p1 ≠ p2 := fun z => by rw [z] at e1; rw [e1] at n2; cases n2
    have np1 : p ≠ p1 := fun z => by rw [← z, ep] at n1; cases n1
    have np2 : p ≠ p2 := fun z => by rw [← z, s1 _ _ ep] at n2; cases n2
    refine ⟨⟨_, SqL.of ep2⟩, for_list (xs := ys) (LkI p p1 p2 ws H2) ⟨[], _, _, _, _, rfl, s2 _ _ e1, .nil, e2, .refl⟩ ?_ ?_ ?_⟩
    · rintro i σ H3 hi ⟨vs, v3, v4, v5, v6, rfl, ea, hP, eb, k3⟩
      exact SqL.of (k3 _ _ ep2 (by simp [np1, np2]))
    · rintro i x σ H3 hx ⟨vs, v3, v4, v5, v6, rfl, ea, hP, eb, k3⟩
      obtain ⟨q1, hq1, hv⟩ := paired_get hp hx
      have nt : ∀ b ∈ [p1, p2], NoT H2 b := fun b hb => by
        simp only [List.mem_cons, List.not_mem_nil, or_false] at hb
        rcases hb with rfl | rfl
        · exact .of_lst (s2 _ _ e1)
        · exact .of_lst e2
      obtain ⟨t, x, rfl, et, hx', hok⟩ := (hv.same s12).keep k3 nt
      have htk : ws.take (i + 1) = ws.take i ++ [q1] := by rw [List.take_add_one, hq1]; rfl
      have hi40 : i < ws.length := (List.getElem?_eq_some_iff.mp hq1).1
      have np13 : p2 ≠ p1 := Ne.symm n12
      have lvs : vs.length ≤ 40 := by
        have h1 := hP.length
        have h2 := ddk_len (stms (ws.take i)) []
        have h3 : (stms (ws.take i)).length ≤ (ws.take i).length := by unfold stms; rw [List.length_map]; exact List.length_filter_le _ _
        rw [List.length_take] at h3
        simp at h2
        omega
      have las : (fm (asks (ws.take i))).length ≤ 40 := by
        have h2 : (fm (asks (ws.take i))).length ≤ 0 + (asks (ws.take i)).length := fm_len (asks (ws.take i)) []
        have h3 : (asks (ws.take i)).length ≤ (ws.take i).length := by unfold asks; rw [List.length_map]; exact List.length_filter_le _ _
        rw [List.length_take] at h3
        omega
      obtain ⟨tt, hh, k⟩ := q1
      dsimp only at et hx' hok
      refine ⟨_, _, _, rfl, et, rfl, rfl, _, _, rfl, _, _, rfl, _, _, rfl, _, _, rfl, rfl, ?_⟩
      change tSeq _ _ _ (kσ p p1 p2 tt hh k.w x) H3
      refine use1 (fun σ H' => σ = kσ p p1 p2 tt hh k.w x ∧ ∃ vs', H' p1 = some (.lst vs') ∧ vs'.length ≤ 41 ∧ Paired (TpI H') vs' ((stms (ws.take (i + 1))).foldl ddk []) ∧ H' p2 = some (.lst ((fm (asks (ws.take i))).map V.int)) ∧ Keep [p1, p2] H2 H') ?_ (fun X hX => ?_)
      rotate_left
      · simp (maxSteps := 1000000) only [rEq_ss, tBL, Nat.reduceAdd, rAppend, List.cons.injEq, tSeq, exists_and_left, if_false, Bool.false_eq_true, tIfS, tAnd, tTest, tOp, tVar, tC, tNext, tCons, tNil, tDrop, tTup, List.length_cons, List.length_nil, List.getElem?_cons_zero, List.getElem?_cons_succ, Option.some.injEq, exists_eq_left', V.bl.injEq, V.ref.injEq, and_true]
        rw [w_beg hok]
        refine ite2 (fun e => ?_) (fun e => hX _ _ ⟨rfl, vs, ea, by omega, by rw [htk, stms_snoc, if_neg e, List.append_nil]; exact hP, eb, k3⟩)
        have e1' : stms (ws.take (i + 1)) = stms (ws.take i) ++ [[hh, goal k]] := by rw [htk, stms_snoc, if_pos e]
        obtain rfl : x = .int (goal k) := by
          cases k with
          | beg g => exact hx'
          | _ => cases e
        generalize goal k = g at e1' hX ⊢
        refine ⟨by rw [sizeLine_eq]; decide, ?_⟩
        intro p4 n4
        generalize z4 : upd H3 p4 _ = H4
        obtain ⟨s4, e4⟩ := new_same z4 n4
        have ea4 := s4 _ _ ea
        have eb4 := s4 _ _ eb
        have hP4 : Paired (TpI H4) vs ((stms (ws.take i)).foldl ddk []) := paired_imp (fun _ _ z => tpi_keep (A := []) z s4.keep (fun _ z => nomatch z)) hP
        refine ⟨p1, vs, _, dTp [hh, g], rfl, ea4, (tpi_ims hP4 fun k hk => by rw [stms_len2 k hk]; decide).dts, (tpi_im (k := [hh, g]) ⟨p4, rfl, e4⟩ (by simp)).dt, Nat.le_trans dTp_dep (by decide), fun e he => ?_, ?_⟩
        · obtain ⟨k, _, rfl⟩ := List.mem_map.mp he
          exact Nat.le_trans dTp_dep (by decide)
        rw [any_tp]
        refine ⟨_, rfl, ?_⟩
        by_cases hm : [hh, g] ∈ (stms (ws.take i)).foldl ddk []
        · rw [decide_eq_true hm, if_neg (by decide)]
          refine hX _ _ ⟨rfl, vs, ea4, by omega, ?_, eb4, k3.same s4⟩
          rw [e1', List.foldl_append]
          change Paired (TpI H4) vs (ddk _ _)
          rw [ddk_in hm]
          exact hP4
        · rw [decide_eq_false hm, if_pos (by decide)]
          refine ⟨vs, ea4, by rw [sizeLine_eq]; decide, ?_⟩
          intro p5 n5
          generalize z5 : upd H4 p5 _ = H5
          obtain ⟨s5, e5⟩ := new_same z5 n5
          have ea5 := s5 _ _ ea4
          have hP5 : Paired (TpI H5) vs ((stms (ws.take i)).foldl ddk []) := paired_imp (fun _ _ z => tpi_keep (A := []) z s5.keep (fun _ z => nomatch z)) hP4
          have ku : Keep [p1] H5 (upd H5 p1 (.lst (vs ++ [V.ref p5]))) := Keep.refl.upd (.inl (.head _))
          have nt5 : ∀ b ∈ [p1], NoT H5 b := fun b hb => by
            rw [List.mem_singleton] at hb
            subst hb
            exact .of_lst ea5
          refine ⟨vs, ea5, by rw [sizeLine_eq]; omega, hX _ _ ⟨rfl, vs ++ [V.ref p5], upd_same, by rw [List.length_append]; simp; omega, ?_, by rw [upd_ne np13]; exact s5 _ _ eb4, ((k3.same s4).same s5).upd (.inl (.head _))⟩⟩
          rw [e1', List.foldl_append]
          change Paired _ _ (ddk _ _)
          rw [ddk_out hm]
          exact paired_append (paired_imp (fun _ _ z => tpi_keep z ku nt5) hP5) (.cons (tpi_keep (k := [hh, g]) ⟨p5, rfl, e5⟩ ku nt5) .nil)
      clear k3 eb hP ea lvs
      rintro σ H3 ⟨rfl, vs, ea, lvs, hP, eb, k3⟩
      simp (maxSteps := 1000000) only [rEq_ss, tBL, rNotInX, rAppend, List.cons.injEq, exists_and_left, if_false, Bool.false_eq_true, tIfS, tAnd, tTest, tOp, tVar, tC, tNext, tCons, tNil, tDrop, List.getElem?_cons_zero, List.getElem?_cons_succ, Option.some.injEq, exists_eq_left', V.bl.injEq, V.ref.injEq, and_true]
      rw [w_ask hok]
      refine ite2 (fun e => ?_) (fun e => ⟨vs, _, _, _, _, rfl, ea, hP, by rw [eb, htk, asks_snoc, if_neg e, List.append_nil], k3⟩)
      have e2' : fm (asks (ws.take (i + 1))) = PyProof.Rows.step_dedup (fm (asks (ws.take i))) hh := by
        rw [htk, asks_snoc]
        unfold fm
        rw [if_pos e, List.foldl_append]
        rfl
      refine ⟨_, eb, _, inO_ints, ?_⟩
      by_cases hm : hh ∈ fm (asks (ws.take i))
      · rw [decide_eq_true hm, if_neg (by decide)]
        refine ⟨vs, _, _, _, _, rfl, ea, hP, ?_, k3⟩
        rw [eb, e2']
        unfold PyProof.Rows.step_dedup
        rw [if_pos (List.any_eq_true.mpr ⟨hh, hm, by simp⟩)]
      · rw [decide_eq_false hm, if_pos (by decide)]
        refine ⟨_, eb, _, eb, by rw [List.length_map, sizeLine_eq]; omega, ?_⟩
        have ku : Keep [p2] H3 (upd H3 p2 (.lst ((fm (asks (ws.take i))).map V.int ++ [V.int hh]))) := Keep.refl.upd (.inl (.head _))
        have nt5 : ∀ b ∈ [p2], NoT H3 b := fun b hb => by
          rw [List.mem_singleton] at hb
          subst hb
          exact .of_lst eb
        refine ⟨vs, _, _, _, _, rfl, by rw [upd_ne n12]; exact ea, paired_imp (fun _ _ z => tpi_keep z ku nt5) hP, ?_, k3.upd (.inl (.tail _ (.head _)))⟩
        rw [upd_same, e2']
        unfold PyProof.Rows.step_dedup
        rw [if_neg fun z => by
          obtain ⟨y, hy, e⟩ := List.any_eq_true.mp z
          exact hm (by rw [← eq_of_beq e]; exact hy)]
        rw [List.map_append]
        rfl
    · rintro σ H3 ⟨vs, v3, v4, v5, v6, rfl, ea, hP, eb, k3⟩
      simp (maxSteps := 1000000) only [rLenX, lenX_r, lenO_l, Option.bind_some, List.cons.injEq, exists_and_left, tOp, tVar, tC, rI, rI0, tRet, tCons, tNil, tCB, List.getElem?_cons_zero, List.getElem?_cons_succ, Option.some.injEq, exists_eq_left', V.int.injEq, and_true, ea, eb]
      have s03 : Same H H3 := fun b o e => k3 _ _ (s12 _ _ e) (by
        simp only [List.mem_cons, List.not_mem_nil, or_false, not_or]
        refine ⟨fun z => ?_, fun z => ?_⟩
        · rw [z, n1] at e; cases e
        · have := s1 _ _ e
          rw [z, n2] at this
          cases this)
      have hv := hP.length
      rw [hlen, List.take_length] at hv ⊢
      have e : 2 * (vs.length : Int) + 2 * (((fm (asks ws)).map V.int).length : Int) = nKeys ws := by
        unfold nKeys
        rw [hv, List.length_map]
        omega
      rw [e]
      exact ⟨.inl ⟨by decide, by decide⟩, .inl ⟨by decide, by decide⟩, q _ s03⟩
end
end K73
namespace K73
open PySem L2
theorem cnt_nonneg {k : Wk} (h : k.Ok) : 0 ≤ cnt k := by
  cases k with
  | put g z => exact rup_nonneg (by omega) (by decide)
  | beg g => exact Int.zero_le_ofNat 1
  | fin g => exact Int.zero_le_ofNat 1
  | _ => exact Int.le_refl _
theorem cnt_pos {k : Wk} (h : k.Ok) (hs : isS k = true) : 1 ≤ cnt k := by
  cases k with
  | put g z =>
    have := h.1
    change 1 ≤ rup (z.length : Int) 8
    unfold rup
    omega
  | beg g => exact Int.le_refl _
  | fin g => exact Int.le_refl _
  | ask z => cases hs
  | oth w z => cases hs
theorem tot_nonneg {h g : Int} : ∀ {ws : List Wi}, (∀ q ∈ ws, q.k.Ok) → 0 ≤ tot ws h g
  | [], _ => Int.le_refl _
  | q :: r, ho => by
    have ih := tot_nonneg (h := h) (g := g) (ws := r) fun z hz => ho z (.tail _ hz)
    have hc := cnt_nonneg (ho q (.head _))
    unfold tot at ih ⊢
    rw [List.filter_cons]
    split
    · rw [List.map_cons, List.sum_cons]
      omega
    · exact ih
theorem tot_pos {q : Wi} : ∀ {ws : List Wi}, (∀ q ∈ ws, q.k.Ok) → q ∈ ws → isS q.k = true → 1 ≤ tot ws q.h (goal q.k)
  | [], _, h, _ => nomatch h
  | a :: r, ho, hq, hs => by
    have hr := tot_nonneg (h := q.h) (g := goal q.k) (ws := r) fun z hz => ho z (.tail _ hz)
    unfold tot at hr ⊢
    rw [List.filter_cons]
    rcases List.mem_cons.mp hq with rfl | hq
    · rw [if_pos (by unfold onS; rw [hs]; simp), List.map_cons, List.sum_cons]
      have := cnt_pos (ho q (.head _)) hs
      omega
    · have ih := tot_pos (fun z hz => ho z (.tail _ hz)) hq hs
      unfold tot at ih
      have hc := cnt_nonneg (ho a (.head _))
      split
      · rw [List.map_cons, List.sum_cons]
        omega
      · exact ih
def MostI (ws l : List Wi) (n : Int) : Prop := ((∀ q ∈ l, isS q.k = false) ∧ n = 0) ∨ ((∃ q ∈ l, isS q.k = true ∧ n = tot ws q.h (goal q.k)) ∧ ∀ q ∈ l, isS q.k = true → tot ws q.h (goal q.k) ≤ n)
theorem MostI.skip {ws l : List Wi} {n : Int} {q : Wi} (M : MostI ws l n) (h : isS q.k = false) : MostI ws (l ++ [q]) n := by
  rcases M with ⟨a, rfl⟩ | ⟨⟨r, hr, hs, e⟩, b⟩
  · refine .inl ⟨fun z hz => ?_, rfl⟩
    rcases List.mem_append.mp hz with hz | hz
    · exact a z hz
    · rw [List.mem_singleton] at hz
      rw [hz]
      exact h
  · refine .inr ⟨⟨r, List.mem_append_left _ hr, hs, e⟩, fun z hz hzs => ?_⟩
    rcases List.mem_append.mp hz with hz | hz
    · exact b z hz hzs
    · rw [List.mem_singleton] at hz
      rw [hz, h] at hzs
      cases hzs
theorem MostI.add {ws l : List Wi} {n n' : Int} {q : Wi} (M : MostI ws l n) (h : isS q.k = true) (hp : 1 ≤ tot ws q.h (goal q.k)) (hn : n' = if tot ws q.h (goal q.k) > n then tot ws q.h (goal q.k) else n) : MostI ws (l ++ [q]) n' := by
  refine .inr ?_
  rcases M with ⟨a, rfl⟩ | ⟨⟨r, hr, hs, e⟩, b⟩
  · rw [if_pos (by omega)] at hn
    refine ⟨⟨q, by simp, h, hn⟩, fun z hz hzs => ?_⟩
    rcases List.mem_append.mp hz with hz | hz
    · rw [a z hz] at hzs
      cases hzs
    · rw [List.mem_singleton] at hz
      rw [hz, hn]
      exact Int.le_refl _
  · have all : ∀ z ∈ l ++ [q], isS z.k = true → tot ws z.h (goal z.k) ≤ n' := fun z hz hzs => by
      rcases List.mem_append.mp hz with hz | hz
      · have := b z hz hzs
        rw [hn]
        split <;> omega
      · rw [List.mem_singleton] at hz
        rw [hz, hn]
        split <;> omega
    by_cases c : tot ws q.h (goal q.k) > n
    · rw [if_pos c] at hn
      exact ⟨⟨q, by simp, h, hn⟩, all⟩
    · rw [if_neg c] at hn
      exact ⟨⟨r, List.mem_append_left _ hr, hs, by rw [hn, e]⟩, all⟩
theorem useJ1 {t1 R u : TS} {c : TT} {D : Ends} {σ : St} {H : Hp} (Pm : St → Hp → Prop) (key : ∀ σ' H', Pm σ' H' → R D σ' H') (go : ∀ R' : TS, (∀ σ' H', Pm σ' H' → R' D σ' H') → tIfS c (tSeq t1 R') u D σ H) : tIfS c (tSeq t1 R) u D σ H := go R key
def fBp (z : Str) : Option Bool := if flatV (V.str z) = true ∧ [V.str (Str.ofString "begin"), V.str (Str.ofString "end"), V.str (Str.ofString "put")].all flatV = true then some (inV (V.str z) [V.str (Str.ofString "begin"), V.str (Str.ofString "end"), V.str (Str.ofString "put")]) else none
theorem in_bp {k : Wk} (h : k.Ok) : fBp k.w = some (isE k || isP k) := by
  cases k with
  | beg g => change fBp (Str.ofString "begin") = some true; decide
  | fin g => change fBp (Str.ofString "end") = some true; decide
  | put g z => change fBp (Str.ofString "put") = some true; decide
  | ask z => change fBp (Str.ofString "ask") = some false; decide
  | oth w z =>
    rcases h with rfl | rfl
    · change fBp (Str.ofString "bind") = some false; decide
    · change fBp (Str.ofString "free") = some false; decide
section
variable {P : Program} {w : World} {K : PySem.W.Frag} {mg : Str → Option Value} {base : Heap} {C : Addr}
def LtO (p : Addr) (ws : List Wi) (H : Hp) (i : Nat) (σ : St) (H' : Hp) : Prop := ∃ n v2 v3 v4 v5 v6 v7 v8 v9 v10 v11, σ = [some (.ref p), some (.int n), v2, v3, v4, v5, v6, v7, v8, v9, v10, v11] ∧ MostI ws (ws.take i) n ∧ Same H H'
def LtN (p : Addr) (n t h : Int) (vw vx : V) (g : Int) (ws : List Wi) (H : Hp) (j : Nat) (σ : St) (H' : Hp) : Prop := ∃ v8 v9 v10 v11, σ = [some (.ref p), some (.int n), some (.int t), some (.int h), some vw, some vx, some (.int g), some (.int (tot (ws.take j) h g)), v8, v9, v10, v11] ∧ Same H H'
def lBody : TS := tSeq (tIfS (tAnd (tTest (tOp rEq (tVar 9) (tVar 3))) (tAnd (tTest (tOp rInX (tVar 10) (tTup (tCons (tC (V.str (Str.ofString "begin"))) (tCons (tC (V.str (Str.ofString "end"))) tNil))))) (tTest (tOp rEq (tVar 11) (tVar 6))))) (tAsg (tOp (rI0 fun i j => V.int (i + j)) (tVar 7) (tC (V.int 1))) (gName 7)) tNext)
  (tIfS (tAnd (tTest (tOp rEq (tVar 9) (tVar 3))) (tAnd (tTest (tOp rEq (tVar 10) (tC (V.str (Str.ofString "put"))))) (tTest (tOp rEq (tOp rGet (tVar 11) (tC (V.int 0))) (tVar 6))))) (tAsg (tOp (rI0 fun i j => V.int (i + j)) (tVar 7) (tCall sp_up [] E0 (tCons (tCB rLenX (tCons (tOp rGet (tVar 11) (tC (V.int 1))) tNil)) (tCons (tC (V.int 8)) tNil)))) (gName 7)) tNext)
theorem offI {t u R : TS} {c : TT} {D : Ends} {σ : St} {H : Hp} (go : ∀ T : TS, tSeq (tIfS c T u) R D σ H) : tSeq (tIfS c t u) R D σ H := go t
theorem offJ {t u : TS} {c : TT} {D : Ends} {σ : St} {H : Hp} (go : ∀ T : TS, tIfS c T u D σ H) : tIfS c t u D σ H := go t
abbrev lst8 (p : Addr) (n t h : Int) (vw vx : V) (g m tt hh : Int) (z : Str) (x : V) : St := [some (.ref p), some (.int n), some (.int t), some (.int h), some vw, some vx, some (.int g), some (.int m), some (.int tt), some (.int hh), some (.str z), some x]
set_option maxHeartbeats 4000000 in
theorem body_run {p : Addr} {n t h g m tt hh : Int} {vw vx x : V} {k : Wk} {H4 : Hp} {D : Ends} (hx : k.x H4 x) (hok : k.Ok) (hN : ∀ H', Same H4 H' → D.nx (lst8 p n t h vw vx g (m + if onS h g ⟨tt, hh, k⟩ = true then cnt k else 0) tt hh k.w x) H') : lBody D (lst8 p n t h vw vx g m tt hh k.w x) H4 := by
  unfold lBody
  by_cases ch : hh = h
  · have d1 : decide (hh = h) = true := decide_eq_true ch
    refine use1 (fun σ' H' => σ' = lst8 p n t h vw vx g (m + if isE k = true ∧ goal k = g then 1 else 0) tt hh k.w x ∧ Same H4 H') ?key ?go
    case go =>
      intro R1 hR1
      simp (maxSteps := 1000000) only [rInX, inO_t', upd_same, Nat.reduceAdd, rEq_ii, tSeq, exists_and_left, if_false, if_true, Bool.false_eq_true, tIfS, tAnd, tTest, tOp, tVar, tC, rI0, tAsg, gName, tNext, tCons, tNil, tTup, List.length_cons, List.length_nil, List.getElem?_cons_zero, List.getElem?_cons_succ, List.set_cons_zero, List.set_cons_succ, Option.some.injEq, exists_eq_left', V.int.injEq, V.bl.injEq, V.ref.injEq, d1]
      refine ⟨by rw [sizeLine_eq]; decide, ?_⟩
      intro p5 n5
      generalize z5 : upd H4 p5 _ = H5
      obtain ⟨s5, e5⟩ := new_same z5 n5
      refine ⟨isE k, in_be hok, ite2 (fun e => ?_) (fun e => hR1 _ _ ⟨by rw [if_neg (fun z => e z.1), Int.add_zero], s5⟩)⟩
      obtain ⟨rfl, _, _⟩ := isE_x hx e
      by_cases cg : goal k = g
      · exact ⟨rfl, true, by rw [decide_eq_true (by rw [cg])], hR1 _ _ ⟨by rw [if_pos ⟨e, cg⟩], s5⟩⟩
      · exact ⟨rfl, false, by rw [decide_eq_false (fun z => cg (V.int.inj z))], hR1 _ _ ⟨by rw [if_neg (fun z => cg z.2), Int.add_zero], s5⟩⟩
    case key =>
      rintro σ' H5 ⟨rfl, s5⟩
      have hx5 := hx.keep (A := []) s5.keep (fun _ z => nomatch z)
      simp (maxSteps := 1000000) only [rEq_ss, rGet, rLenX, List.cons.injEq, rEq_ii, exists_and_left, if_false, if_true, Bool.false_eq_true, tIfS, tAnd, tTest, tOp, tVar, tC, rI0, tAsg, gName, tNext, tCall, tCons, tNil, tCB, List.getElem?_cons_zero, List.getElem?_cons_succ, List.set_cons_zero, List.set_cons_succ, Option.some.injEq, exists_eq_left', V.int.injEq, V.bl.injEq, and_true, List.append_nil, d1]
      rw [w_put hok]
      refine ite2 (fun e => ?_) (fun e => ?_)
      · obtain ⟨hE, q, z, rfl, eq, hz, hc⟩ := isP_x hx5 hok e
        refine ⟨_, rfl, _, eq, _, rfl, rfl, ?_⟩
        by_cases cg : goal k = g
        · refine ⟨true, by rw [decide_eq_true (by rw [cg])], ?_⟩
          refine ⟨_, rfl, _, eq, _, rfl, _, lenX_s (by omega), _, _, rfl, by decide, by decide, _, rfl, ?_⟩
          have := hN H5 s5
          rw [if_pos (show onS h g ⟨tt, hh, k⟩ = true by unfold onS isS; dsimp only; rw [e, decide_eq_true ch, decide_eq_true cg]; simp), hc] at this
          rw [if_neg (by rw [hE]; simp), Int.add_zero]
          exact this
        · refine ⟨false, by rw [decide_eq_false (fun z => cg (V.int.inj z))], ?_⟩
          have := hN H5 s5
          rw [if_neg (show ¬ onS h g ⟨tt, hh, k⟩ = true by unfold onS; dsimp only; rw [decide_eq_false cg]; simp)] at this
          rw [show (if isE k = true ∧ goal k = g then (1 : Int) else 0) = 0 from if_neg (by rw [hE]; simp)]
          exact this
      · have := hN H5 s5
        have e2 : (if onS h g ⟨tt, hh, k⟩ = true then cnt k else 0) = if isE k = true ∧ goal k = g then 1 else 0 := by
          unfold onS isS
          dsimp only
          rw [Bool.eq_false_iff.mpr e, decide_eq_true ch, Bool.or_false, Bool.and_true]
          by_cases c : isE k = true ∧ goal k = g
          · rw [if_pos c, if_pos (by rw [c.1, decide_eq_true c.2]; rfl), (isE_x hx c.1).2.1]
          · rw [if_neg c, if_neg (fun z => c (by simpa using z))]
        rw [e2] at this
        exact this
  · have d1 : decide (hh = h) = false := decide_eq_false ch
    have := hN H4 (.refl _)
    rw [if_neg (show ¬ onS h g ⟨tt, hh, k⟩ = true by unfold onS; dsimp only; rw [d1]; simp), Int.add_zero] at this
    refine use1 (fun σ' H' => σ' = lst8 p n t h vw vx g m tt hh k.w x ∧ H' = H4) ?_ (fun R1 hR1 => ?_)
    rotate_left
    · refine offI fun T => ?_
      simp (maxSteps := 1000000) only [rInX, inO_t', upd_same, Nat.reduceAdd, rEq_ii, tSeq, exists_and_left, if_false, Bool.false_eq_true, tIfS, tAnd, tTest, tOp, tVar, tC, tNext, tCons, tNil, tTup, List.length_cons, List.length_nil, List.getElem?_cons_zero, List.getElem?_cons_succ, Option.some.injEq, exists_eq_left', V.bl.injEq, V.ref.injEq, d1]
      exact hR1 _ _ ⟨rfl, rfl⟩
    rintro σ' H' ⟨rfl, rfl⟩
    refine offJ fun T => ?_
    simp (maxSteps := 1000000) only [rEq_ss, rGet, rEq_ii, exists_and_left, if_false, Bool.false_eq_true, tIfS, tAnd, tTest, tOp, tVar, tC, tNext, List.getElem?_cons_zero, List.getElem?_cons_succ, Option.some.injEq, exists_eq_left', V.bl.injEq, d1]
    exact this
theorem inner {p : Addr} {n t h g : Int} {vw vx : V} {ys : List V} {ws : List Wi} {H3 : Hp} {D : Ends} {v8 v9 v10 v11 : Option V} (ep : H3 p = some (.lst ys)) (hp : Paired (RW H3) ys ws)
    (hnx : ∀ H' v8 v9 v10 v11, Same H3 H' → D.nx [some (.ref p), some (.int n), some (.int t), some (.int h), some vw, some vx, some (.int g), some (.int (tot ws h g)), v8, v9, v10, v11] H') :
    ForW (gSeqX 4 (gCons (gName 8) (gCons (gName 9) (gCons (gName 10) (gCons (gName 11) gNil))))) lBody D [some (.ref p), some (.int n), some (.int t), some (.int h), some vw, some vx, some (.int g), some (.int 0), v8, v9, v10, v11] (Itl K p) H3 := by
  have hlen := hp.length
  refine for_list (xs := ys) (LtN p n t h vw vx g ws H3) ⟨v8, v9, v10, v11, rfl, .refl _⟩ ?_ ?_ ?_
  · rintro j σ H4 hj ⟨w8, w9, w10, w11, rfl, s4⟩
    exact SqL.of (s4 _ _ ep)
  · rintro j x σ H4 hx ⟨w8, w9, w10, w11, rfl, s4⟩
    obtain ⟨r, hr, hv⟩ := paired_get hp hx
    obtain ⟨tp, x, rfl, et, hx', hok⟩ := hv.same s4
    have htk : ws.take (j + 1) = ws.take j ++ [r] := by rw [List.take_add_one, hr]; rfl
    simp (maxSteps := 1000000) only [gSeqX, seqO_t, gCons, gNil, Nat.reduceAdd, List.cons.injEq, exists_and_left, gName, List.length_cons, List.length_nil, List.set_cons_zero, List.set_cons_succ, Option.some.injEq, exists_eq_left', V.ref.injEq, true_and, and_assoc, et]
    refine body_run hx' hok fun H' s' => ⟨some (.int r.t), some (.int r.h), some (.str r.k.w), some x, ?_, s4.trans s'⟩
    rw [htk, tot_snoc]
  · rintro σ H4 ⟨w8, w9, w10, w11, rfl, s4⟩
    rw [hlen, List.take_length]
    exact hnx _ _ _ _ _ s4
set_option maxHeartbeats 8000000 in
theorem own_lthings (D : Def K mg "_law_things" s__law_things) (hb : Blt mg) (F__law_up : Own P w K mg base 1 "_law_up" ["_law_number", "_law_by"] sp_up) : Own P w K mg base 2 "_law_things" ["_law_wishes_here"] sp_most := by
  refine D.own sc__law_things (fun _ _ _ _ _ _ us hl => match us, hl with | [_], _ => rfl) (fun vs H Q E h => ?_) (fun f cdv A outer s H vs Q E hr h => ?_)
  · obtain ⟨p, ys, ws, rfl, _⟩ := h
    rfl
  · obtain ⟨p, ys, ws, rfl, ep, hp, hl, q⟩ := h
    have hu := hr.units
    have hu1 : (A.deeper (PyProof.Rows.envOfC "_law_things" (defScope s__law_things) s.heap.objs.size f cdv)).units + 1 < cLine := by omega
    refine ⟨_, (@pss_cons _ _ _ _ _ (@ps_set _ _ 1 _ _ _ _ sc__law_things.nd rfl (by first | exact Or.inl rfl | exact Or.inr rfl) (@pe_int _ _ _ _) (by rfl) (by first | exact .inl rfl | exact .inr rfl | assumption)) (@pss_cons _ _ _ _ _ (@ps_for _ _ _ _ _ _ _ _ PassesOwn.never rfl (@pi_listK _ K _ _ _ (@pv _ 0 _ _ (by rfl) (by first | exact Or.inl rfl | exact Or.inr (Or.inl rfl) | exact Or.inr (Or.inr rfl)) (by decide) (by decide)) (by rfl)) (@pg_seqX _ _ _ _ 4 _ rfl (@pgs_cons _ _ _ _ _ (@pg_name _ _ 2 _ sc__law_things.nd rfl (by first | exact Or.inl rfl | exact Or.inr rfl) (by first | exact .inl rfl | exact .inr rfl | assumption)) (@pgs_cons _ _ _ _ _ (@pg_name _ _ 3 _ sc__law_things.nd rfl (by first | exact Or.inl rfl | exact Or.inr rfl) (by first | exact .inl rfl | exact .inr rfl | assumption)) (@pgs_cons _ _ _ _ _ (@pg_name _ _ 4 _ sc__law_things.nd rfl (by first | exact Or.inl rfl | exact Or.inr rfl) (by first | exact .inl rfl | exact .inr rfl | assumption)) (@pgs_cons _ _ _ _ _ (@pg_name _ _ 5 _ sc__law_things.nd rfl (by first | exact Or.inl rfl | exact Or.inr rfl) (by first | exact .inl rfl | exact .inr rfl | assumption)) (@pgs_nil _) (by rfl)) (by rfl)) (by rfl)) (by rfl)) (by rfl) (by rfl)) (@pss_one _ _ _ (@ps_if _ _ _ _ _ _ _ _ (@pt_cmpR _ _ _ _ _ _ _ _ (op_inX hu1) (@pv _ 4 _ _ (by rfl) (by first | exact Or.inl rfl | exact Or.inr (Or.inl rfl) | exact Or.inr (Or.inr rfl)) (by decide) (by decide)) (@pe_tup _ _ _ _ _ (@pa_cX _ _ _ _ _ (@pe_str _ _ _ _) (@pa_cX _ _ _ _ _ (@pe_str _ _ _ _) (@pa_cX _ _ _ _ _ (@pe_str _ _ _ _) (@pa_nil _) (by rfl)) (by rfl)) (by rfl))) rfl) (@pss_cons _ _ _ _ _ (@ps_set _ _ 6 _ _ _ _ sc__law_things.nd rfl (by first | exact Or.inl rfl | exact Or.inr rfl) (@pe_ifExp _ _ _ _ _ _ _ _ (@pt_cmpR _ _ _ _ _ _ _ _ op_eq (@pv _ 4 _ _ (by rfl) (by first | exact Or.inl rfl | exact Or.inr (Or.inl rfl) | exact Or.inr (Or.inr rfl)) (by decide) (by decide)) (@pe_str _ _ _ _) (nomark _)) (@pe_ix _ _ _ _ _ _ _ (ix_get hu1) (@pv _ 5 _ _ (by rfl) (by first | exact Or.inl rfl | exact Or.inr (Or.inl rfl) | exact Or.inr (Or.inr rfl)) (by decide) (by decide)) (@pe_int _ _ _ _) (fun _ _ => rfl)) (@pv _ 5 _ _ (by rfl) (by first | exact Or.inl rfl | exact Or.inr (Or.inl rfl) | exact Or.inr (Or.inr rfl)) (by decide) (by decide))) (by rfl) (by first | exact .inl rfl | exact .inr rfl | assumption)) (@pss_cons _ _ _ _ _ (@ps_set _ _ 7 _ _ _ _ sc__law_things.nd rfl (by first | exact Or.inl rfl | exact Or.inr rfl) (@pe_int _ _ _ _) (by rfl) (by first | exact .inl rfl | exact .inr rfl | assumption)) (@pss_cons _ _ _ _ _ (@ps_for _ _ _ _ _ _ _ _ PassesOwn.never rfl (@pi_listK _ K _ _ _ (@pv _ 0 _ _ (by rfl) (by first | exact Or.inl rfl | exact Or.inr (Or.inl rfl) | exact Or.inr (Or.inr rfl)) (by decide) (by decide)) (by rfl)) (@pg_seqX _ _ _ _ 4 _ rfl (@pgs_cons _ _ _ _ _ (@pg_name _ _ 8 _ sc__law_things.nd rfl (by first | exact Or.inl rfl | exact Or.inr rfl) (by first | exact .inl rfl | exact .inr rfl | assumption)) (@pgs_cons _ _ _ _ _ (@pg_name _ _ 9 _ sc__law_things.nd rfl (by first | exact Or.inl rfl | exact Or.inr rfl) (by first | exact .inl rfl | exact .inr rfl | assumption)) (@pgs_cons _ _ _ _ _ (@pg_name _ _ 10 _ sc__law_things.nd rfl (by first | exact Or.inl rfl | exact Or.inr rfl) (by first | exact .inl rfl | exact .inr rfl | assumption)) (@pgs_cons _ _ _ _ _ (@pg_name _ _ 11 _ sc__law_things.nd rfl (by first | exact Or.inl rfl | exact Or.inr rfl) (by first | exact .inl rfl | exact .inr rfl | assumption)) (@pgs_nil _) (by rfl)) (by rfl)) (by rfl)) (by rfl)) (by rfl) (by rfl)) (@pss_cons _ _ _ _ _ (@ps_if _ _ _ _ _ _ _ _ (@PW.pt _ _ _ (@pw_and _ _ _ _ _ _ _ (@pt_cmpR _ _ _ _ _ _ _ _ op_eq (@pv _ 9 _ _ (by rfl) (by first | exact Or.inl rfl | exact Or.inr (Or.inl rfl) | exact Or.inr (Or.inr rfl)) (by decide) (by decide)) (@pv _ 3 _ _ (by rfl) (by first | exact Or.inl rfl | exact Or.inr (Or.inl rfl) | exact Or.inr (Or.inr rfl)) (by decide) (by decide)) (nomark _)) (@pw_and _ _ _ _ _ _ _ (@pt_cmpR _ _ _ _ _ _ _ _ (op_inX hu1) (@pv _ 10 _ _ (by rfl) (by first | exact Or.inl rfl | exact Or.inr (Or.inl rfl) | exact Or.inr (Or.inr rfl)) (by decide) (by decide)) (@pe_tup _ _ _ _ _ (@pa_cX _ _ _ _ _ (@pe_str _ _ _ _) (@pa_cX _ _ _ _ _ (@pe_str _ _ _ _) (@pa_nil _) (by rfl)) (by rfl))) rfl) (@pw_and1 _ _ _ _ (@pt_cmpR _ _ _ _ _ _ _ _ op_eq (@pv _ 11 _ _ (by rfl) (by first | exact Or.inl rfl | exact Or.inr (Or.inl rfl) | exact Or.inr (Or.inr rfl)) (by decide) (by decide)) (@pv _ 6 _ _ (by rfl) (by first | exact Or.inl rfl | exact Or.inr (Or.inl rfl) | exact Or.inr (Or.inr rfl)) (by decide) (by decide)) (nomark _)))))) (@pss_one _ _ _ (@ps_set _ _ 7 _ _ _ _ sc__law_things.nd rfl (by first | exact Or.inl rfl | exact Or.inr rfl) (@pe_op _ _ _ _ _ _ _ _ op_add (@pv _ 7 _ _ (by rfl) (by first | exact Or.inl rfl | exact Or.inr (Or.inl rfl) | exact Or.inr (Or.inr rfl)) (by decide) (by decide)) (@pe_int _ _ _ _)) (by rfl) (by first | exact .inl rfl | exact .inr rfl | assumption))) (@pss_nil _)) (@pss_one _ _ _ (@ps_if _ _ _ _ _ _ _ _ (@PW.pt _ _ _ (@pw_and _ _ _ _ _ _ _ (@pt_cmpR _ _ _ _ _ _ _ _ op_eq (@pv _ 9 _ _ (by rfl) (by first | exact Or.inl rfl | exact Or.inr (Or.inl rfl) | exact Or.inr (Or.inr rfl)) (by decide) (by decide)) (@pv _ 3 _ _ (by rfl) (by first | exact Or.inl rfl | exact Or.inr (Or.inl rfl) | exact Or.inr (Or.inr rfl)) (by decide) (by decide)) (nomark _)) (@pw_and _ _ _ _ _ _ _ (@pt_cmpR _ _ _ _ _ _ _ _ op_eq (@pv _ 10 _ _ (by rfl) (by first | exact Or.inl rfl | exact Or.inr (Or.inl rfl) | exact Or.inr (Or.inr rfl)) (by decide) (by decide)) (@pe_str _ _ _ _) (nomark _)) (@pw_and1 _ _ _ _ (@pt_cmpR _ _ _ _ _ _ _ _ op_eq (@pe_ix _ _ _ _ _ _ _ (ix_get hu1) (@pv _ 11 _ _ (by rfl) (by first | exact Or.inl rfl | exact Or.inr (Or.inl rfl) | exact Or.inr (Or.inr rfl)) (by decide) (by decide)) (@pe_int _ _ _ _) (fun _ _ => rfl)) (@pv _ 6 _ _ (by rfl) (by first | exact Or.inl rfl | exact Or.inr (Or.inl rfl) | exact Or.inr (Or.inr rfl)) (by decide) (by decide)) (nomark _)))))) (@pss_one _ _ _ (@ps_set _ _ 7 _ _ _ _ sc__law_things.nd rfl (by first | exact Or.inl rfl | exact Or.inr rfl) (@pe_op _ _ _ _ _ _ _ _ op_add (@pv _ 7 _ _ (by rfl) (by first | exact Or.inl rfl | exact Or.inr (Or.inl rfl) | exact Or.inr (Or.inr rfl)) (by decide) (by decide)) (@pe_fn _ _ _ _ _ _ _ _ _ _ _ F__law_up hr (@pa_cX _ _ _ _ _ (@pe_callB _ _ _ _ _ _ _ _ _ call_lenX rfl (hb _ (by decide)) bt_len (@pa_cX _ _ _ _ _ (@pe_ix _ _ _ _ _ _ _ (ix_get hu1) (@pv _ 11 _ _ (by rfl) (by first | exact Or.inl rfl | exact Or.inr (Or.inl rfl) | exact Or.inr (Or.inr rfl)) (by decide) (by decide)) (@pe_int _ _ _ _) (fun _ _ => rfl)) (@pa_nil _) (by rfl)) (by decide) (by decide) (by rfl) (by rfl)) (@pa_cX _ _ _ _ _ (@pe_int _ _ _ _) (@pa_nil _) (by rfl)) (by rfl)) (by decide) (by rfl) (by decide) (by rfl) (by rfl))) (by rfl) (by first | exact .inl rfl | exact .inr rfl | assumption))) (@pss_nil _)))) (by intro _; rfl)) (@pss_one _ _ _ (@ps_set _ _ 1 _ _ _ _ sc__law_things.nd rfl (by first | exact Or.inl rfl | exact Or.inr rfl) (@pe_callB _ _ _ _ _ _ _ _ _ (call_max2 rfl) rfl (hb _ (by decide)) bt_max (@pa_cX _ _ _ _ _ (@pv _ 1 _ _ (by rfl) (by first | exact Or.inl rfl | exact Or.inr (Or.inl rfl) | exact Or.inr (Or.inr rfl)) (by decide) (by decide)) (@pa_cX _ _ _ _ _ (@pv _ 7 _ _ (by rfl) (by first | exact Or.inl rfl | exact Or.inr (Or.inl rfl) | exact Or.inr (Or.inr rfl)) (by decide) (by decide)) (@pa_nil _) (by rfl)) (by rfl)) (by decide) (by decide) (by rfl) (by rfl)) (by rfl) (by first | exact .inl rfl | exact .inr rfl | assumption)))))) (@pss_nil _))) (by intro _; rfl)) (@pss_one _ _ _ (@ps_ret _ _ _ _ (@pv _ 1 _ _ (by rfl) (by first | exact Or.inl rfl | exact Or.inr (Or.inl rfl) | exact Or.inr (Or.inr rfl)) (by decide) (by decide)))))), ?_⟩
    have hlen := hp.length
    have allok : ∀ q ∈ ws, q.k.Ok := fun q hq => by
      obtain ⟨i, hi, rfl⟩ := List.getElem_of_mem hq
      obtain ⟨v, hv⟩ : ∃ v, ys[i]? = some v := ⟨_, List.getElem?_eq_getElem (by omega)⟩
      obtain ⟨q', hq', _, _, _, _, _, hok⟩ := paired_get hp hv
      rw [List.getElem?_eq_getElem hi] at hq'
      cases hq'
      exact hok
    simp (maxSteps := 1000000) only [tFor_eq, Nat.reduceSub, Nat.reduceAdd, iList, tSeq, tVar, tC, tAsg, gName, L2.start, List.map_cons, List.map_nil, List.length_cons, List.length_nil, List.replicate, List.cons_append, List.nil_append, List.getElem?_cons_zero, List.set_cons_zero, List.set_cons_succ, Option.some.injEq, exists_eq_left', V.ref.injEq]
    refine ⟨⟨_, SqL.of ep⟩, for_list (xs := ys) (LtO p ws H) ⟨0, _, _, _, _, _, _, _, _, _, _, rfl, .inl ⟨(fun q z => nomatch z), rfl⟩, .refl _⟩ ?_ ?_ ?_⟩
    · rintro i σ H2 hi ⟨n, v2, v3, v4, v5, v6, v7, v8, v9, v10, v11, rfl, M, s2⟩
      exact SqL.of (s2 _ _ ep)
    · rintro i x σ H2 hx ⟨n, v2, v3, v4, v5, v6, v7, v8, v9, v10, v11, rfl, M, s2⟩
      obtain ⟨q1, hq1, hv⟩ := paired_get hp hx
      obtain ⟨t, x, rfl, et, hx', hok⟩ := hv.same s2
      have htk : ws.take (i + 1) = ws.take i ++ [q1] := by rw [List.take_add_one, hq1]; rfl
      have hmem := List.mem_of_getElem? hq1
      obtain ⟨tt, hh, k⟩ := q1
      dsimp only at et hx' hok
      refine ⟨_, _, _, rfl, et, rfl, rfl, _, _, rfl, _, _, rfl, _, _, rfl, _, _, rfl, rfl, ?_⟩
      change tIfS _ _ _ _ [some (.ref p), some (.int n), some (.int tt), some (.int hh), some (.str k.w), some x, v6, v7, v8, v9, v10, v11] H2
      refine useJ1 (fun σ H' => σ = [some (.ref p), some (.int n), some (.int tt), some (.int hh), some (.str k.w), some x, some (.int (goal k)), v7, v8, v9, v10, v11] ∧ isS k = true ∧ Same H2 H') ?_ (fun X hX => ?_)
      rotate_left
      · simp (maxSteps := 1000000) only [rEq_ss, rGet, rInX, inO_t', upd_same, Nat.reduceAdd, tSeq, exists_and_left, tIfS, tTest, tOp, tVar, tC, tAsg, gName, tNext, tIf, tCons, tNil, tTup, List.length_cons, List.length_nil, List.getElem?_cons_zero, List.getElem?_cons_succ, List.set_cons_zero, List.set_cons_succ, Option.some.injEq, exists_eq_left', V.bl.injEq, V.ref.injEq]
        refine ⟨by rw [sizeLine_eq]; decide, ?_⟩
        intro p3 n3
        generalize z3 : upd H2 p3 _ = H3
        obtain ⟨s3, e3⟩ := new_same z3 n3
        refine ⟨isE k || isP k, in_bp hok, ite2 (fun e => ?_) (fun e => ?_)⟩
        · rw [w_put hok]
          refine ite2 (fun e2 => ?_) (fun e2 => ?_)
          · obtain ⟨_, qp, z, rfl, eq3, hz, hc⟩ := isP_x (hx'.keep (A := []) s3.keep (fun _ z => nomatch z)) hok e2
            exact ⟨_, rfl, _, eq3, _, rfl, hX _ _ ⟨rfl, e, s3⟩⟩
          · have e1 : isE k = true := by
              rw [Bool.eq_false_iff.mpr e2, Bool.or_false] at e
              exact e
            obtain ⟨rfl, _, _⟩ := isE_x hx' e1
            exact hX _ _ ⟨rfl, e, s3⟩
        · exact ⟨_, _, _, _, _, _, _, _, _, _, _, rfl, by rw [htk]; exact M.skip (Bool.eq_false_iff.mpr e), s2.trans s3⟩
      rintro σ H3 ⟨rfl, e, s3⟩
      simp (maxSteps := 1000000) only [tFor_eq, iList, tSeq, tVar, tC, tAsg, gName, List.getElem?_cons_zero, List.set_cons_zero, List.set_cons_succ, Option.some.injEq, exists_eq_left', V.ref.injEq]
      refine ⟨⟨_, SqL.of (s3 _ _ (s2 _ _ ep))⟩, inner (s3 _ _ (s2 _ _ ep)) (paired_imp (fun a b h => (h.same s2).same s3) hp) fun H' w8 w9 w10 w11 s' => ?_⟩
      simp (maxSteps := 1000000) only [List.cons.injEq, exists_and_left, tVar, tAsg, gName, tCons, tNil, tCB, List.getElem?_cons_zero, List.getElem?_cons_succ, List.set_cons_zero, List.set_cons_succ, Option.some.injEq, exists_eq_left', V.int.injEq, and_true, and_assoc]
      exact ⟨_, _, _, _, _, _, _, _, _, _, _, rfl, by rw [htk]; exact M.add (q := ⟨tt, hh, k⟩) e (tot_pos allok hmem e) rfl, (s2.trans s3).trans s'⟩
    · rintro σ H2 ⟨n, v2, v3, v4, v5, v6, v7, v8, v9, v10, v11, rfl, M, s2⟩
      rw [hlen, List.take_length] at M
      simp (maxSteps := 1000000) only [tVar, tRet, List.getElem?_cons_zero, List.getElem?_cons_succ, Option.some.injEq, exists_eq_left']
      exact q _ _ M s2
end
end K73
namespace K73
open PySem L2
section
variable {P : Program} {w : World} {K : PySem.W.Frag} {mg : Str → Option Value} {base : Heap} {C : Addr}
abbrev s__law_mixed : Stmt := top 21
theorem sc__law_mixed : FnScope ["_law_cell", "_law_k", "_law_number"] ["_law_cell", "_law_k"] (defScope s__law_mixed) := ⟨rfl, rfl, rfl, by decide +kernel, rfl, by decide +kernel, by decide +kernel⟩
abbrev s__law_cell_at : Stmt := top 22
theorem sc__law_cell_at : FnScope ["_law_script", "_law_k"] ["_law_script", "_law_k"] (defScope s__law_cell_at) := ⟨rfl, rfl, rfl, by decide +kernel, rfl, by decide +kernel, by decide +kernel⟩
def sp_mixed : Sp := fun vs H Q _ => ∃ c k : Int, vs = [.int c, .int k] ∧ 0 ≤ k ∧ k ≤ 1000 ∧ ∀ r : Int, 0 ≤ r → r < 2147483648 → Q (.int r) H
theorem own_mixed (D : Def K mg "_law_mixed" s__law_mixed) : Own P w K mg base 1 "_law_mixed" ["_law_cell", "_law_k"] sp_mixed := by
  refine D.own sc__law_mixed (fun _ _ _ _ _ _ us hl => match us, hl with | [_, _], _ => rfl) (fun vs H Q E h => ?_) (fun f cdv A outer s H vs Q E hr h => ?_)
  · obtain ⟨c, k, rfl, _⟩ := h
    rfl
  · obtain ⟨c, k, rfl, hk0, hk1, q⟩ := h
    refine ⟨_, (@pss_cons _ _ _ _ _ (@ps_if _ _ _ _ _ _ _ _ (@PW.pt _ _ _ (@pw_and _ _ _ _ _ _ _ (@pt_cmpR _ _ _ _ _ _ _ _ op_ge (@pv _ 0 _ _ (by rfl) (by first | exact Or.inl rfl | exact Or.inr (Or.inl rfl) | exact Or.inr (Or.inr rfl)) (by decide) (by decide)) (@pe_op _ _ _ _ _ _ _ _ op_shl (@pe_int _ _ _ _) (@pe_int _ _ _ _)) (nomark _)) (@pw_and _ _ _ _ _ _ _ (@pt_cmpR _ _ _ _ _ _ _ _ op_eq (@pe_op _ _ _ _ _ _ _ _ op_mod (@pv _ 0 _ _ (by rfl) (by first | exact Or.inl rfl | exact Or.inr (Or.inl rfl) | exact Or.inr (Or.inr rfl)) (by decide) (by decide)) (@pe_int _ _ _ _)) (@pe_int _ _ _ _) (nomark _)) (@pw_and1 _ _ _ _ (@pt_cmpR _ _ _ _ _ _ _ _ op_gt (@pe_op _ _ _ _ _ _ _ _ op_shr (@pv _ 0 _ _ (by rfl) (by first | exact Or.inl rfl | exact Or.inr (Or.inl rfl) | exact Or.inr (Or.inr rfl)) (by decide) (by decide)) (@pe_op _ _ _ _ _ _ _ _ op_add (@pe_int _ _ _ _) (@pe_op _ _ _ _ _ _ _ _ op_mul (@pe_int _ _ _ _) (@pv _ 1 _ _ (by rfl) (by first | exact Or.inl rfl | exact Or.inr (Or.inl rfl) | exact Or.inr (Or.inr rfl)) (by decide) (by decide))))) (@pe_int _ _ _ _) (nomark _)))))) (@pss_one _ _ _ (@ps_ret _ _ _ _ (@pe_op _ _ _ _ _ _ _ _ op_mod (@pe_op _ _ _ _ _ _ _ _ op_shr (@pv _ 0 _ _ (by rfl) (by first | exact Or.inl rfl | exact Or.inr (Or.inl rfl) | exact Or.inr (Or.inr rfl)) (by decide) (by decide)) (@pe_op _ _ _ _ _ _ _ _ op_add (@pe_int _ _ _ _) (@pe_op _ _ _ _ _ _ _ _ op_mul (@pe_int _ _ _ _) (@pv _ 1 _ _ (by rfl) (by first | exact Or.inl rfl | exact Or.inr (Or.inl rfl) | exact Or.inr (Or.inr rfl)) (by decide) (by decide))))) (@pe_int _ _ _ _)))) (@pss_nil _)) (@pss_cons _ _ _ _ _ (@ps_set _ _ 2 _ _ _ _ sc__law_mixed.nd rfl (by first | exact Or.inl rfl | exact Or.inr rfl) (@pe_op _ _ _ _ _ _ _ _ op_mod (@pe_op _ _ _ _ _ _ _ _ op_mul (@pe_op _ _ _ _ _ _ _ _ op_add (@pe_op _ _ _ _ _ _ _ _ op_add (@pv _ 0 _ _ (by rfl) (by first | exact Or.inl rfl | exact Or.inr (Or.inl rfl) | exact Or.inr (Or.inr rfl)) (by decide) (by decide)) (@pe_op _ _ _ _ _ _ _ _ op_mul (@pe_int _ _ _ _) (@pv _ 1 _ _ (by rfl) (by first | exact Or.inl rfl | exact Or.inr (Or.inl rfl) | exact Or.inr (Or.inr rfl)) (by decide) (by decide)))) (@pe_int _ _ _ _)) (@pe_int _ _ _ _)) (@pe_int _ _ _ _)) (by rfl) (by first | exact .inl rfl | exact .inr rfl | assumption)) (@pss_cons _ _ _ _ _ (@ps_set _ _ 2 _ _ _ _ sc__law_mixed.nd rfl (by first | exact Or.inl rfl | exact Or.inr rfl) (@pe_op _ _ _ _ _ _ _ _ op_mod (@pe_op _ _ _ _ _ _ _ _ op_mul (@pv _ 2 _ _ (by rfl) (by first | exact Or.inl rfl | exact Or.inr (Or.inl rfl) | exact Or.inr (Or.inr rfl)) (by decide) (by decide)) (@pe_op _ _ _ _ _ _ _ _ op_add (@pe_op _ _ _ _ _ _ _ _ op_fdiv (@pv _ 2 _ _ (by rfl) (by first | exact Or.inl rfl | exact Or.inr (Or.inl rfl) | exact Or.inr (Or.inr rfl)) (by decide) (by decide)) (@pe_int _ _ _ _)) (@pe_int _ _ _ _))) (@pe_int _ _ _ _)) (by rfl) (by first | exact .inl rfl | exact .inr rfl | assumption)) (@pss_one _ _ _ (@ps_ret _ _ _ _ (@pe_op _ _ _ _ _ _ _ _ op_mod (@pe_op _ _ _ _ _ _ _ _ op_mul (@pv _ 2 _ _ (by rfl) (by first | exact Or.inl rfl | exact Or.inr (Or.inl rfl) | exact Or.inr (Or.inr rfl)) (by decide) (by decide)) (@pe_op _ _ _ _ _ _ _ _ op_add (@pe_op _ _ _ _ _ _ _ _ op_add (@pe_op _ _ _ _ _ _ _ _ op_fdiv (@pv _ 2 _ _ (by rfl) (by first | exact Or.inl rfl | exact Or.inr (Or.inl rfl) | exact Or.inr (Or.inr rfl)) (by decide) (by decide)) (@pe_int _ _ _ _)) (@pe_int _ _ _ _)) (@pv _ 1 _ _ (by rfl) (by first | exact Or.inl rfl | exact Or.inr (Or.inl rfl) | exact Or.inr (Or.inr rfl)) (by decide) (by decide)))) (@pe_int _ _ _ _))))))), ?_⟩
    have fin : ∀ a m : Int, 0 < m → m ≤ 2147483648 → Q (.int (a % m)) H := fun a m h0 h1 => q _ (Int.emod_nonneg _ (by omega)) (Int.lt_of_lt_of_le (Int.emod_lt_of_pos _ h0) h1)
    have h31 : CMul 31 k := .inl ⟨by decide, by decide⟩
    refine use1 (fun σ H' => σ = [some (.int c), some (.int k), none] ∧ H' = H) ?_ (fun X hX => ?_)
    rotate_left
    · simp (maxSteps := 1000000) only [Nat.reduceSub, Int.reduceLT, Nat.reduceAdd, rEq_ii, tSeq, exists_and_left, if_false, Bool.false_eq_true, tIfS, tAnd, tTest, tOp, tVar, tC, rI, rI0, tRet, tNext, L2.start, List.map_cons, List.map_nil, List.length_cons, List.length_nil, List.replicate, List.cons_append, List.nil_append, List.getElem?_cons_zero, List.getElem?_cons_succ, Option.some.injEq, exists_eq_left', V.int.injEq, V.bl.injEq, true_and]
      exact ⟨⟨by decide, by decide, by decide⟩, ite2 (fun _ => ite2 (fun _ => ⟨h31, by omega, ite2 (fun _ => ⟨h31, by omega, fin _ _ (by decide) (by decide)⟩) (fun _ => hX _ _ ⟨rfl, rfl⟩)⟩) (fun _ => hX _ _ ⟨rfl, rfl⟩)) (fun _ => hX _ _ ⟨rfl, rfl⟩)⟩
    rintro σ H1 ⟨rfl, rfl⟩
    refine use1 (fun σ H' => ∃ n : Int, σ = [some (.int c), some (.int k), some (.int n)] ∧ 0 ≤ n ∧ n < 2147483647 ∧ H' = H1) ?_ (fun X hX => ?_)
    rotate_left
    · simp (maxSteps := 1000000) only [Int.reduceLT, tSeq, exists_and_left, tOp, tVar, tC, rI, rI0, tAsg, gName, List.getElem?_cons_zero, List.getElem?_cons_succ, List.set_cons_zero, List.set_cons_succ, Option.some.injEq, exists_eq_left', V.int.injEq, true_and]
      exact ⟨.inl ⟨by decide, by decide⟩, .inr ⟨by decide, by decide⟩, hX _ _ ⟨_, rfl, Int.emod_nonneg _ (by decide), Int.emod_lt_of_pos _ (by decide), rfl⟩⟩
    rintro σ H1 ⟨n, rfl, n0, n1, rfl⟩
    refine use1 (fun σ H' => ∃ n : Int, σ = [some (.int c), some (.int k), some (.int n)] ∧ 0 ≤ n ∧ n < 2147483647 ∧ H' = H1) ?_ (fun X hX => ?_)
    rotate_left
    · simp (maxSteps := 1000000) only [Int.reduceLT, tSeq, exists_and_left, tOp, tVar, tC, rI, rI0, tAsg, gName, List.getElem?_cons_zero, List.getElem?_cons_succ, List.set_cons_zero, List.set_cons_succ, Option.some.injEq, exists_eq_left', V.int.injEq, true_and]
      exact ⟨⟨by decide, by decide⟩, .inl ⟨by omega, by omega⟩, hX _ _ ⟨_, rfl, Int.emod_nonneg _ (by decide), Int.emod_lt_of_pos _ (by decide), rfl⟩⟩
    rintro σ H1 ⟨m, rfl, m0, m1, rfl⟩
    simp (maxSteps := 1000000) only [Int.reduceLT, exists_and_left, tOp, tVar, tC, rI, rI0, tRet, List.getElem?_cons_zero, List.getElem?_cons_succ, Option.some.injEq, exists_eq_left', V.int.injEq, true_and]
    exact ⟨⟨by decide, by decide⟩, .inl ⟨by omega, by omega⟩, fin _ _ (by decide) (by decide)⟩
def sp_cell (K : PySem.W.Frag) : Sp := fun vs H Q _ => ∃ (a : Addr) (ns : List Int) (k : Int), vs = [.ref a, .int k] ∧ 0 ≤ k ∧ SqL K H a (ns.map V.int) ∧ ∀ r : Int, Q (.int r) H
theorem own_cell (D : Def K mg "_law_cell_at" s__law_cell_at) (hb : Blt mg) : Own P w K mg base 1 "_law_cell_at" ["_law_script", "_law_k"] (sp_cell K) := by
  refine D.own sc__law_cell_at (fun _ _ _ _ _ _ us hl => match us, hl with | [_, _], _ => rfl) (fun vs H Q E h => ?_) (fun f cdv A outer s H vs Q E hr h => ?_)
  · obtain ⟨a, ns, k, rfl, _⟩ := h
    rfl
  · obtain ⟨a, ns, k, rfl, hk, hS, q⟩ := h
    refine ⟨_, (@pss_cons _ _ _ _ _ (@ps_if _ _ _ _ _ _ _ _ (@pt_cmpR _ _ _ _ _ _ _ _ op_lt (@pv _ 1 _ _ (by rfl) (by first | exact Or.inl rfl | exact Or.inr (Or.inl rfl) | exact Or.inr (Or.inr rfl)) (by decide) (by decide)) (@pe_callB _ _ _ _ _ _ _ _ _ (call_lenK K) rfl (hb _ (by decide)) bt_len (@pa_cX _ _ _ _ _ (@pv _ 0 _ _ (by rfl) (by first | exact Or.inl rfl | exact Or.inr (Or.inl rfl) | exact Or.inr (Or.inr rfl)) (by decide) (by decide)) (@pa_nil _) (by rfl)) (by decide) (by decide) (by rfl) (by rfl)) (nomark _)) (@pss_one _ _ _ (@ps_ret _ _ _ _ (@pe_ix _ _ _ _ _ _ _ (ix_listK K) (@pv _ 0 _ _ (by rfl) (by first | exact Or.inl rfl | exact Or.inr (Or.inl rfl) | exact Or.inr (Or.inr rfl)) (by decide) (by decide)) (@pv _ 1 _ _ (by rfl) (by first | exact Or.inl rfl | exact Or.inr (Or.inl rfl) | exact Or.inr (Or.inr rfl)) (by decide) (by decide)) (fun _ _ => rfl)))) (@pss_nil _)) (@pss_one _ _ _ (@ps_ret _ _ _ _ (@pe_int _ _ _ _)))), ?_⟩
    simp only [tDGs, sDPs, rIsB, rIsntB, tMeth, tMake, tDGet, sDPut, tFld, sFld, tDisp, tPairs, tNever, decide_true, decide_false, truV_bl, clsV_ty, V.ty.injEq, exists_eq', exists_eq, Bool.not_true, Bool.not_false, Bool.not_not, rLen, rListOf, rTupOf, rAny, rAll, rIsI, tTru, iRng1, iRng2, iList, tYes, cSt, List.drop_succ_cons, List.drop_zero, cxOf_K, cxC_K,  tBM, tBM0, rAppend, tSl, rSlL, tNoPart, tPart, rIxL, rIxT, rCat, List.cons.injEq, rEq_ii, rNe_ii, rEq_bb, rNe_bb, tSeq, exists_and_left, if_false, if_true, reduceIte, Bool.false_eq_true, tIfS, tAnd, tOr, tNot, tTest, tOp, tUn, tVar, tC, rI, rI0, rU, tRet, tRetN, tAsg, gName, tNext, tAndV, tOrV, tNotV, tIf, tCall, tCons, tNil, tCB, tDrop, tLst, tTup, tChain, L2.start, List.map_cons, List.map_nil, List.length_cons, List.length_nil, List.replicate, List.cons_append, List.nil_append, List.getElem?_cons_zero, List.getElem?_cons_succ, List.set_cons_zero, List.set_cons_succ, Option.some.injEq, exists_eq_left', exists_eq_left, V.int.injEq, V.bl.injEq, V.ref.injEq, V.str.injEq, exists_const, and_true, true_and, reduceCtorEq, false_and, exists_false, or_false, false_or, and_assoc, List.append_nil]
    refine ⟨_, .inl hS, ite2 (fun h => ?_) (fun _ => q 0)⟩
    have h' := of_decide_eq_true h
    obtain ⟨v, hv, ev⟩ := atI_in (xs := ns.map V.int) hk h'
    obtain ⟨z, _, rfl⟩ := List.mem_map.mp hv
    exact ⟨_, hS, _, ev, q z⟩
/-! ### deeds that are drawn -/
abbrev s__law_numbers : Stmt := top 23
theorem sc__law_numbers : FnScope ["_law_cell", "_law_fair", "_law_some", "_law_hands", "_law_found", "_law_step"] ["_law_cell", "_law_fair"] (defScope s__law_numbers) := ⟨rfl, rfl, rfl, by decide +kernel, rfl, by decide +kernel, by decide +kernel⟩
theorem cs__law_numbers_0 : CScope ["_law_k"] ["_law_cell"] { kind := .function, names := [(".0", .local), ("_law_k", .local), ("_law_mixed", .globalImplicit), ("_law_cell", .free)], isGenerator := false, isCoroutine := false, more := [] } (defScope s__law_numbers) := ⟨rfl, by decide +kernel, by decide +kernel, by decide +kernel, by decide +kernel, by decide +kernel⟩
def sp_nums : Sp := fun vs H Q _ => ∃ c fair : Int, vs = [.int c, .int fair] ∧ 1 ≤ fair ∧ fair ≤ 60 ∧ ∀ p m H', H p = none → H' p = some (.lst (Ms.l m |>.map V.int)) → inB m.l → Same H H' → Q (.ref p) H'
theorem inB_of {a b c d e f g h i j : Int} (ha : 2 ≤ a ∧ a ≤ 12) (hb : 1 ≤ b ∧ b ≤ 32) (hc : 1 ≤ c ∧ c ≤ 400) (hd : 1 ≤ d ∧ d ≤ 1000) (he : 0 ≤ e ∧ e ≤ 60) (hf : 1 ≤ f ∧ f ≤ 16) (hg : 1 ≤ g ∧ g ≤ 16) (hh : 1 ≤ h ∧ h ≤ 60) (hi : 1 ≤ i ∧ i ≤ 10000) (hj : 0 ≤ j ∧ j ≤ 10000) : inB [a, b, c, d, e, f, g, h, i, j] := ⟨rfl, fun k n q h1 h2 => by
  match k with
  | 0 => cases h1; cases h2; exact ha
  | 1 => cases h1; cases h2; exact hb
  | 2 => cases h1; cases h2; exact hc
  | 3 => cases h1; cases h2; exact hd
  | 4 => cases h1; cases h2; exact he
  | 5 => cases h1; cases h2; exact hf
  | 6 => cases h1; cases h2; exact hg
  | 7 => cases h1; cases h2; exact hh
  | 8 => cases h1; cases h2; exact hi
  | 9 => cases h1; cases h2; exact hj
  | k + 10 => cases h1⟩
abbrev zL (a0 a1 a2 a3 a4 a5 a6 a7 a8 a9 a10 : Int) : HO := .lst [.int a0, .int a1, .int a2, .int a3, .int a4, .int a5, .int a6, .int a7, .int a8, .int a9, .int a10]
abbrev tL (a b c d e f g h i j : Int) : HO := .lst [.int a, .int b, .int c, .int d, .int e, .int f, .int g, .int h, .int i, .int j]
abbrev nσ (c fair : Int) (d : Addr) (v3 v4 v5 : Option V) : St := [some (.int c), some (.int fair), some (.ref d), v3, v4, v5]
set_option maxHeartbeats 8000000 in
theorem own_nums (D : Def K mg "_law_numbers" s__law_numbers) (hb : Blt mg) (F__law_mixed : Own P w K mg base 1 "_law_mixed" ["_law_cell", "_law_k"] sp_mixed) : Own P w K mg base 2 "_law_numbers" ["_law_cell", "_law_fair"] sp_nums := by
  refine D.own sc__law_numbers (fun _ _ _ _ _ _ us hl => match us, hl with | [_, _], _ => rfl) (fun vs H Q E h => ?_) (fun f cdv A outer s H vs Q E hr h => ?_)
  · obtain ⟨c, fair, rfl, _⟩ := h
    rfl
  · obtain ⟨c, fair, rfl, hf0, hf1, q⟩ := h
    have hu := hr.units
    have hu1 : (A.deeper (PyProof.Rows.envOfC "_law_numbers" (defScope s__law_numbers) s.heap.objs.size f cdv)).units + 1 < cLine := by omega
    refine ⟨_, (@pss_cons _ _ _ _ _ (@ps_setC _ _ _ _ _ _ _ _ _ _ _ 2 _ _ _ ["_law_k"] ["_law_cell"] [0] rfl sc__law_numbers.nd rfl (by first | exact Or.inl rfl | exact Or.inr rfl) _ cs__law_numbers_0 (@pi_range1 _ _ _ _ _ _ rfl (hb _ (by decide)) (@pa_cX _ _ _ _ _ (@pe_int _ _ _ _) (@pa_nil _) (by rfl)) (by rfl)) (fun _ _ _ _ => (@pg_name _ _ 0 _ cs__law_numbers_0.nd rfl (by first | exact Or.inl rfl | exact Or.inr rfl) (by first | exact .inl rfl | exact .inr rfl | assumption))) (fun _ _ _ _ => (@pf_nil _)) (fun _ _ _ _ => (@pe_fn _ _ _ _ _ _ _ _ _ _ _ F__law_mixed hr (@pa_cX _ _ _ _ _ (@pv _ 1 _ _ (by rfl) (by first | exact Or.inl rfl | exact Or.inr (Or.inl rfl) | exact Or.inr (Or.inr rfl)) (by decide) (by decide)) (@pa_cX _ _ _ _ _ (@pv _ 0 _ _ (by rfl) (by first | exact Or.inl rfl | exact Or.inr (Or.inl rfl) | exact Or.inr (Or.inr rfl)) (by decide) (by decide)) (@pa_nil _) (by rfl)) (by rfl)) (by decide) (by rfl) (by decide) (by rfl) (by rfl))) rfl (by rfl) (by rfl) (by rfl) (by first | exact .inl rfl | exact .inr rfl | assumption) (by intro _; rfl)) (@pss_cons _ _ _ _ _ (@ps_set _ _ 3 _ _ _ _ sc__law_numbers.nd rfl (by first | exact Or.inl rfl | exact Or.inr rfl) (@pe_op _ _ _ _ _ _ _ _ op_add (@pe_int _ _ _ _) (@pe_op _ _ _ _ _ _ _ _ op_mod (@pe_ix _ _ _ _ _ _ _ (ix_get hu1) (@pv _ 2 _ _ (by rfl) (by first | exact Or.inl rfl | exact Or.inr (Or.inl rfl) | exact Or.inr (Or.inr rfl)) (by decide) (by decide)) (@pe_int _ _ _ _) (fun _ _ => rfl)) (@pe_int _ _ _ _))) (by rfl) (by first | exact .inl rfl | exact .inr rfl | assumption)) (@pss_cons _ _ _ _ _ (@ps_set _ _ 4 _ _ _ _ sc__law_numbers.nd rfl (by first | exact Or.inl rfl | exact Or.inr rfl) (@pe_lst _ _ _ _ (@pa_cX _ _ _ _ _ (@pv _ 3 _ _ (by rfl) (by first | exact Or.inl rfl | exact Or.inr (Or.inl rfl) | exact Or.inr (Or.inr rfl)) (by decide) (by decide)) (@pa_cX _ _ _ _ _ (@pe_op _ _ _ _ _ _ _ _ op_add (@pe_int _ _ _ _) (@pe_op _ _ _ _ _ _ _ _ op_mod (@pe_ix _ _ _ _ _ _ _ (ix_get hu1) (@pv _ 2 _ _ (by rfl) (by first | exact Or.inl rfl | exact Or.inr (Or.inl rfl) | exact Or.inr (Or.inr rfl)) (by decide) (by decide)) (@pe_int _ _ _ _) (fun _ _ => rfl)) (@pe_int _ _ _ _))) (@pa_cX _ _ _ _ _ (@pe_op _ _ _ _ _ _ _ _ op_add (@pe_int _ _ _ _) (@pe_op _ _ _ _ _ _ _ _ op_mod (@pe_ix _ _ _ _ _ _ _ (ix_get hu1) (@pv _ 2 _ _ (by rfl) (by first | exact Or.inl rfl | exact Or.inr (Or.inl rfl) | exact Or.inr (Or.inr rfl)) (by decide) (by decide)) (@pe_int _ _ _ _) (fun _ _ => rfl)) (@pe_int _ _ _ _))) (@pa_cX _ _ _ _ _ (@pe_op _ _ _ _ _ _ _ _ op_add (@pe_int _ _ _ _) (@pe_op _ _ _ _ _ _ _ _ op_mod (@pe_ix _ _ _ _ _ _ _ (ix_get hu1) (@pv _ 2 _ _ (by rfl) (by first | exact Or.inl rfl | exact Or.inr (Or.inl rfl) | exact Or.inr (Or.inr rfl)) (by decide) (by decide)) (@pe_int _ _ _ _) (fun _ _ => rfl)) (@pe_int _ _ _ _))) (@pa_cX _ _ _ _ _ (@pe_op _ _ _ _ _ _ _ _ op_mod (@pe_ix _ _ _ _ _ _ _ (ix_get hu1) (@pv _ 2 _ _ (by rfl) (by first | exact Or.inl rfl | exact Or.inr (Or.inl rfl) | exact Or.inr (Or.inr rfl)) (by decide) (by decide)) (@pe_int _ _ _ _) (fun _ _ => rfl)) (@pe_int _ _ _ _)) (@pa_cX _ _ _ _ _ (@pe_op _ _ _ _ _ _ _ _ op_add (@pe_int _ _ _ _) (@pe_op _ _ _ _ _ _ _ _ op_mod (@pe_ix _ _ _ _ _ _ _ (ix_get hu1) (@pv _ 2 _ _ (by rfl) (by first | exact Or.inl rfl | exact Or.inr (Or.inl rfl) | exact Or.inr (Or.inr rfl)) (by decide) (by decide)) (@pe_int _ _ _ _) (fun _ _ => rfl)) (@pe_int _ _ _ _))) (@pa_nil _) (by rfl)) (by rfl)) (by rfl)) (by rfl)) (by rfl)) (by rfl))) (by rfl) (by first | exact .inl rfl | exact .inr rfl | assumption)) (@pss_cons _ _ _ _ _ (@ps_set _ _ 4 _ _ _ _ sc__law_numbers.nd rfl (by first | exact Or.inl rfl | exact Or.inr rfl) (@pe_op _ _ _ _ _ _ _ _ op_cat (@pv _ 4 _ _ (by rfl) (by first | exact Or.inl rfl | exact Or.inr (Or.inl rfl) | exact Or.inr (Or.inr rfl)) (by decide) (by decide)) (@pe_lst _ _ _ _ (@pa_cX _ _ _ _ _ (@pe_op _ _ _ _ _ _ _ _ op_add (@pe_int _ _ _ _) (@pe_op _ _ _ _ _ _ _ _ op_mod (@pe_ix _ _ _ _ _ _ _ (ix_get hu1) (@pv _ 2 _ _ (by rfl) (by first | exact Or.inl rfl | exact Or.inr (Or.inl rfl) | exact Or.inr (Or.inr rfl)) (by decide) (by decide)) (@pe_int _ _ _ _) (fun _ _ => rfl)) (@pe_int _ _ _ _))) (@pa_cX _ _ _ _ _ (@pe_op _ _ _ _ _ _ _ _ op_add (@pe_int _ _ _ _) (@pe_op _ _ _ _ _ _ _ _ op_mod (@pe_ix _ _ _ _ _ _ _ (ix_get hu1) (@pv _ 2 _ _ (by rfl) (by first | exact Or.inl rfl | exact Or.inr (Or.inl rfl) | exact Or.inr (Or.inr rfl)) (by decide) (by decide)) (@pe_int _ _ _ _) (fun _ _ => rfl)) (@pe_int _ _ _ _))) (@pa_cX _ _ _ _ _ (@pe_op _ _ _ _ _ _ _ _ op_add (@pe_int _ _ _ _) (@pe_op _ _ _ _ _ _ _ _ op_mod (@pe_ix _ _ _ _ _ _ _ (ix_get hu1) (@pv _ 2 _ _ (by rfl) (by first | exact Or.inl rfl | exact Or.inr (Or.inl rfl) | exact Or.inr (Or.inr rfl)) (by decide) (by decide)) (@pe_int _ _ _ _) (fun _ _ => rfl)) (@pe_int _ _ _ _))) (@pa_cX _ _ _ _ _ (@pe_op _ _ _ _ _ _ _ _ op_mod (@pe_ix _ _ _ _ _ _ _ (ix_get hu1) (@pv _ 2 _ _ (by rfl) (by first | exact Or.inl rfl | exact Or.inr (Or.inl rfl) | exact Or.inr (Or.inr rfl)) (by decide) (by decide)) (@pe_int _ _ _ _) (fun _ _ => rfl)) (@pe_int _ _ _ _)) (@pa_nil _) (by rfl)) (by rfl)) (by rfl)) (by rfl)))) (by rfl) (by first | exact .inl rfl | exact .inr rfl | assumption)) (@pss_cons _ _ _ _ _ (@ps_if _ _ _ _ _ _ _ _ (@pt_cmpR _ _ _ _ _ _ _ _ op_eq (@pe_op _ _ _ _ _ _ _ _ op_mod (@pe_ix _ _ _ _ _ _ _ (ix_get hu1) (@pv _ 2 _ _ (by rfl) (by first | exact Or.inl rfl | exact Or.inr (Or.inl rfl) | exact Or.inr (Or.inr rfl)) (by decide) (by decide)) (@pe_int _ _ _ _) (fun _ _ => rfl)) (@pe_int _ _ _ _)) (@pe_int _ _ _ _) (nomark _)) (@pss_cons _ _ _ _ _ (@ps_asg _ _ _ _ _ _ (@pe_op _ _ _ _ _ _ _ _ op_add (@pe_int _ _ _ _) (@pe_op _ _ _ _ _ _ _ _ op_mod (@pe_ix _ _ _ _ _ _ _ (ix_get hu1) (@pv _ 2 _ _ (by rfl) (by first | exact Or.inl rfl | exact Or.inr (Or.inl rfl) | exact Or.inr (Or.inr rfl)) (by decide) (by decide)) (@pe_int _ _ _ _) (fun _ _ => rfl)) (@pe_int _ _ _ _))) (@pg_sub _ _ _ _ _ _ _ (@pv _ 4 _ _ (by rfl) (by first | exact Or.inl rfl | exact Or.inr (Or.inl rfl) | exact Or.inr (Or.inr rfl)) (by decide) (by decide)) (@pe_int _ _ _ _) (@set_x _ hu1) (by intro _; rfl)) (by rfl) (by rfl) (by rfl)) (@pss_cons _ _ _ _ _ (@ps_asg _ _ _ _ _ _ (@pe_op _ _ _ _ _ _ _ _ op_add (@pe_int _ _ _ _) (@pe_op _ _ _ _ _ _ _ _ op_mod (@pe_ix _ _ _ _ _ _ _ (ix_get hu1) (@pv _ 2 _ _ (by rfl) (by first | exact Or.inl rfl | exact Or.inr (Or.inl rfl) | exact Or.inr (Or.inr rfl)) (by decide) (by decide)) (@pe_int _ _ _ _) (fun _ _ => rfl)) (@pe_int _ _ _ _))) (@pg_sub _ _ _ _ _ _ _ (@pv _ 4 _ _ (by rfl) (by first | exact Or.inl rfl | exact Or.inr (Or.inl rfl) | exact Or.inr (Or.inr rfl)) (by decide) (by decide)) (@pe_int _ _ _ _) (@set_x _ hu1) (by intro _; rfl)) (by rfl) (by rfl) (by rfl)) (@pss_cons _ _ _ _ _ (@ps_asg _ _ _ _ _ _ (@pe_op _ _ _ _ _ _ _ _ op_add (@pe_int _ _ _ _) (@pe_op _ _ _ _ _ _ _ _ op_mod (@pe_ix _ _ _ _ _ _ _ (ix_get hu1) (@pv _ 2 _ _ (by rfl) (by first | exact Or.inl rfl | exact Or.inr (Or.inl rfl) | exact Or.inr (Or.inr rfl)) (by decide) (by decide)) (@pe_int _ _ _ _) (fun _ _ => rfl)) (@pe_int _ _ _ _))) (@pg_sub _ _ _ _ _ _ _ (@pv _ 4 _ _ (by rfl) (by first | exact Or.inl rfl | exact Or.inr (Or.inl rfl) | exact Or.inr (Or.inr rfl)) (by decide) (by decide)) (@pe_int _ _ _ _) (@set_x _ hu1) (by intro _; rfl)) (by rfl) (by rfl) (by rfl)) (@pss_cons _ _ _ _ _ (@ps_asg _ _ _ _ _ _ (@pe_op _ _ _ _ _ _ _ _ op_sub (@pe_op _ _ _ _ _ _ _ _ op_add (@pe_ix _ _ _ _ _ _ _ (ix_get hu1) (@pv _ 4 _ _ (by rfl) (by first | exact Or.inl rfl | exact Or.inr (Or.inl rfl) | exact Or.inr (Or.inr rfl)) (by decide) (by decide)) (@pe_int _ _ _ _) (fun _ _ => rfl)) (@pe_int _ _ _ _)) (@pe_op _ _ _ _ _ _ _ _ op_fdiv (@pe_op _ _ _ _ _ _ _ _ op_mod (@pe_op _ _ _ _ _ _ _ _ op_fdiv (@pe_ix _ _ _ _ _ _ _ (ix_get hu1) (@pv _ 2 _ _ (by rfl) (by first | exact Or.inl rfl | exact Or.inr (Or.inl rfl) | exact Or.inr (Or.inr rfl)) (by decide) (by decide)) (@pe_int _ _ _ _) (fun _ _ => rfl)) (@pe_int _ _ _ _)) (@pe_int _ _ _ _)) (@pe_int _ _ _ _))) (@pg_sub _ _ _ _ _ _ _ (@pv _ 4 _ _ (by rfl) (by first | exact Or.inl rfl | exact Or.inr (Or.inl rfl) | exact Or.inr (Or.inr rfl)) (by decide) (by decide)) (@pe_int _ _ _ _) (@set_x _ hu1) (by intro _; rfl)) (by rfl) (by rfl) (by rfl)) (@pss_cons _ _ _ _ _ (@ps_asg _ _ _ _ _ _ (@pe_op _ _ _ _ _ _ _ _ op_sub (@pe_op _ _ _ _ _ _ _ _ op_add (@pe_ix _ _ _ _ _ _ _ (ix_get hu1) (@pv _ 4 _ _ (by rfl) (by first | exact Or.inl rfl | exact Or.inr (Or.inl rfl) | exact Or.inr (Or.inr rfl)) (by decide) (by decide)) (@pe_int _ _ _ _) (fun _ _ => rfl)) (@pe_op _ _ _ _ _ _ _ _ op_mod (@pe_ix _ _ _ _ _ _ _ (ix_get hu1) (@pv _ 2 _ _ (by rfl) (by first | exact Or.inl rfl | exact Or.inr (Or.inl rfl) | exact Or.inr (Or.inr rfl)) (by decide) (by decide)) (@pe_int _ _ _ _) (fun _ _ => rfl)) (@pe_int _ _ _ _))) (@pe_op _ _ _ _ _ _ _ _ op_fdiv (@pe_op _ _ _ _ _ _ _ _ op_mod (@pe_op _ _ _ _ _ _ _ _ op_fdiv (@pe_ix _ _ _ _ _ _ _ (ix_get hu1) (@pv _ 2 _ _ (by rfl) (by first | exact Or.inl rfl | exact Or.inr (Or.inl rfl) | exact Or.inr (Or.inr rfl)) (by decide) (by decide)) (@pe_int _ _ _ _) (fun _ _ => rfl)) (@pe_int _ _ _ _)) (@pe_int _ _ _ _)) (@pe_int _ _ _ _))) (@pg_sub _ _ _ _ _ _ _ (@pv _ 4 _ _ (by rfl) (by first | exact Or.inl rfl | exact Or.inr (Or.inl rfl) | exact Or.inr (Or.inr rfl)) (by decide) (by decide)) (@pe_int _ _ _ _) (@set_x _ hu1) (by intro _; rfl)) (by rfl) (by rfl) (by rfl)) (@pss_cons _ _ _ _ _ (@ps_set _ _ 5 _ _ _ _ sc__law_numbers.nd rfl (by first | exact Or.inl rfl | exact Or.inr rfl) (@pe_op _ _ _ _ _ _ _ _ op_add (@pe_callB _ _ _ _ _ _ _ _ _ (call_min2 rfl) rfl (hb _ (by decide)) bt_min (@pa_cX _ _ _ _ _ (@pv _ 1 _ _ (by rfl) (by first | exact Or.inl rfl | exact Or.inr (Or.inl rfl) | exact Or.inr (Or.inr rfl)) (by decide) (by decide)) (@pa_cX _ _ _ _ _ (@pe_int _ _ _ _) (@pa_nil _) (by rfl)) (by rfl)) (by decide) (by decide) (by rfl) (by rfl)) (@pe_ix _ _ _ _ _ _ _ (ix_get hu1) (@pv _ 4 _ _ (by rfl) (by first | exact Or.inl rfl | exact Or.inr (Or.inl rfl) | exact Or.inr (Or.inr rfl)) (by decide) (by decide)) (@pe_int _ _ _ _) (fun _ _ => rfl))) (by rfl) (by first | exact .inl rfl | exact .inr rfl | assumption)) (@pss_cons _ _ _ _ _ (@ps_asg _ _ _ _ _ _ (@pe_callB _ _ _ _ _ _ _ _ _ (call_min2 rfl) rfl (hb _ (by decide)) bt_min (@pa_cX _ _ _ _ _ (@pe_int _ _ _ _) (@pa_cX _ _ _ _ _ (@pe_op _ _ _ _ _ _ _ _ op_sub (@pe_op _ _ _ _ _ _ _ _ op_add (@pv _ 5 _ _ (by rfl) (by first | exact Or.inl rfl | exact Or.inr (Or.inl rfl) | exact Or.inr (Or.inr rfl)) (by decide) (by decide)) (@pe_op _ _ _ _ _ _ _ _ op_mod (@pe_ix _ _ _ _ _ _ _ (ix_get hu1) (@pv _ 2 _ _ (by rfl) (by first | exact Or.inl rfl | exact Or.inr (Or.inl rfl) | exact Or.inr (Or.inr rfl)) (by decide) (by decide)) (@pe_int _ _ _ _) (fun _ _ => rfl)) (@pe_int _ _ _ _))) (@pe_op _ _ _ _ _ _ _ _ op_fdiv (@pe_op _ _ _ _ _ _ _ _ op_mod (@pe_op _ _ _ _ _ _ _ _ op_fdiv (@pe_ix _ _ _ _ _ _ _ (ix_get hu1) (@pv _ 2 _ _ (by rfl) (by first | exact Or.inl rfl | exact Or.inr (Or.inl rfl) | exact Or.inr (Or.inr rfl)) (by decide) (by decide)) (@pe_int _ _ _ _) (fun _ _ => rfl)) (@pe_int _ _ _ _)) (@pe_int _ _ _ _)) (@pe_int _ _ _ _))) (@pa_nil _) (by rfl)) (by rfl)) (by decide) (by decide) (by rfl) (by rfl)) (@pg_sub _ _ _ _ _ _ _ (@pv _ 4 _ _ (by rfl) (by first | exact Or.inl rfl | exact Or.inr (Or.inl rfl) | exact Or.inr (Or.inr rfl)) (by decide) (by decide)) (@pe_int _ _ _ _) (@set_x _ hu1) (by intro _; rfl)) (by rfl) (by rfl) (by rfl)) (@pss_one _ _ _ (@ps_asg _ _ _ _ _ _ (@pe_callB _ _ _ _ _ _ _ _ _ (call_min2 rfl) rfl (hb _ (by decide)) bt_min (@pa_cX _ _ _ _ _ (@pe_int _ _ _ _) (@pa_cX _ _ _ _ _ (@pe_op _ _ _ _ _ _ _ _ op_sub (@pe_op _ _ _ _ _ _ _ _ op_add (@pe_op _ _ _ _ _ _ _ _ op_mul (@pe_op _ _ _ _ _ _ _ _ op_add (@pe_ix _ _ _ _ _ _ _ (ix_get hu1) (@pv _ 4 _ _ (by rfl) (by first | exact Or.inl rfl | exact Or.inr (Or.inl rfl) | exact Or.inr (Or.inr rfl)) (by decide) (by decide)) (@pe_int _ _ _ _) (fun _ _ => rfl)) (@pe_int _ _ _ _)) (@pv _ 5 _ _ (by rfl) (by first | exact Or.inl rfl | exact Or.inr (Or.inl rfl) | exact Or.inr (Or.inr rfl)) (by decide) (by decide))) (@pe_op _ _ _ _ _ _ _ _ op_mod (@pe_ix _ _ _ _ _ _ _ (ix_get hu1) (@pv _ 2 _ _ (by rfl) (by first | exact Or.inl rfl | exact Or.inr (Or.inl rfl) | exact Or.inr (Or.inr rfl)) (by decide) (by decide)) (@pe_int _ _ _ _) (fun _ _ => rfl)) (@pe_int _ _ _ _))) (@pe_op _ _ _ _ _ _ _ _ op_fdiv (@pe_op _ _ _ _ _ _ _ _ op_mod (@pe_op _ _ _ _ _ _ _ _ op_fdiv (@pe_ix _ _ _ _ _ _ _ (ix_get hu1) (@pv _ 2 _ _ (by rfl) (by first | exact Or.inl rfl | exact Or.inr (Or.inl rfl) | exact Or.inr (Or.inr rfl)) (by decide) (by decide)) (@pe_int _ _ _ _) (fun _ _ => rfl)) (@pe_int _ _ _ _)) (@pe_int _ _ _ _)) (@pe_int _ _ _ _))) (@pa_nil _) (by rfl)) (by rfl)) (by decide) (by decide) (by rfl) (by rfl)) (@pg_sub _ _ _ _ _ _ _ (@pv _ 4 _ _ (by rfl) (by first | exact Or.inl rfl | exact Or.inr (Or.inl rfl) | exact Or.inr (Or.inr rfl)) (by decide) (by decide)) (@pe_int _ _ _ _) (@set_x _ hu1) (by intro _; rfl)) (by rfl) (by rfl) (by rfl)))))))))) (@pss_nil _)) (@pss_one _ _ _ (@ps_ret _ _ _ _ (@pv _ 4 _ _ (by rfl) (by first | exact Or.inl rfl | exact Or.inr (Or.inl rfl) | exact Or.inr (Or.inr rfl)) (by decide) (by decide))))))))), ?_⟩
    refine use1 (fun σ H' => ∃ (a0 a1 a2 a3 a4 a5 a6 a7 a8 a9 a10 : Int) (d : Addr), σ = nσ c fair d none none none ∧ H' d = some (zL a0 a1 a2 a3 a4 a5 a6 a7 a8 a9 a10) ∧ Same H H') ?_ (fun X hX => ?_)
    rotate_left
    · simp (maxSteps := 1000000) only [tComp_eq, Nat.reduceSub, Nat.reduceAdd, iRng1, List.cons.injEq, tSeq, tC, tAsg, gName, tCons, tNil, L2.start, List.map_cons, List.map_nil, List.length_cons, List.length_nil, List.replicate, List.cons_append, List.nil_append, List.set_cons_zero, List.set_cons_succ, exists_eq_left', V.int.injEq, and_true]
      refine ⟨by decide, by decide, comp_range (by rw [sizeLine_eq]; decide) (fun D i acc H2 => ∃ zs : List Int, acc = zs.map V.int ∧ zs.length = i ∧ H2 = upd H D (.lst acc)) (fun D hD => ⟨[], rfl, rfl, rfl⟩) ?_ ?_ ?_⟩
      · rintro D j acc H2 hD hj ⟨zs, rfl, hl, rfl⟩
        exact ⟨upd_same, by simp; omega⟩
      · rintro D j acc H2 hD hj ⟨zs, rfl, hl, rfl⟩
        simp (maxSteps := 1000000) only [upd_same, upd_upd, tYes, cSt, List.drop_succ_cons, List.drop_zero, List.cons.injEq, exists_and_left, if_true, tVar, gName, tCall, tCons, tNil, List.map_cons, List.map_nil, List.replicate, List.cons_append, List.nil_append, List.getElem?_cons_zero, List.getElem?_cons_succ, List.set_cons_zero, Option.some.injEq, exists_eq_left', V.int.injEq, and_true, true_and, and_assoc, List.append_nil, sp_mixed, List.map_cons, List.map_nil, Option.join_some]
        have hj3 : j < 11 := hj
        exact ⟨by omega, by omega, fun q q0 q1 => ⟨zs ++ [q], by simp, by simp [hl]⟩⟩
      · rintro D acc H2 hD ⟨zs, rfl, hl, rfl⟩
        have hl3 : zs.length = 11 := hl
        obtain ⟨a0, a1, a2, a3, a4, a5, a6, a7, a8, a9, a10, rfl⟩ : ∃ a0 a1 a2 a3 a4 a5 a6 a7 a8 a9 a10, zs = [a0, a1, a2, a3, a4, a5, a6, a7, a8, a9, a10] := by
          match zs, hl3 with
          | [a0, a1, a2, a3, a4, a5, a6, a7, a8, a9, a10], _ => exact ⟨a0, a1, a2, a3, a4, a5, a6, a7, a8, a9, a10, rfl⟩
        generalize zD : upd H D _ = HD
        obtain ⟨sD, eD⟩ := new_same zD hD
        exact hX _ _ ⟨a0, a1, a2, a3, a4, a5, a6, a7, a8, a9, a10, D, rfl, eD, sD⟩
    rintro σ H1 ⟨a0, a1, a2, a3, a4, a5, a6, a7, a8, a9, a10, d, rfl, ed1, s1⟩
    refine use2 (fun σ H' => ∃ p : Addr, σ = nσ c fair d (some (.int (2 + a0 % 11))) (some (.ref p)) none ∧ H' p = some (.lst [.int (2 + a0 % 11), .int (1 + a1 % 32), .int (1 + a2 % 400), .int (1 + a3 % 1000), .int (a4 % 61), .int (1 + a5 % 16)]) ∧ Same H1 H') ?_ (fun X hX => ?_)
    rotate_left
    · simp (maxSteps := 1000000) only [rGet, getO_l, atI_0, atI_1, atI_2, atI_3, Int.reduceLT, Nat.reduceAdd, tSeq, exists_and_left, tOp, tVar, tC, rI, rI0, tAsg, gName, tCons, tNil, tLst, List.length_cons, List.length_nil, List.getElem?_cons_zero, List.getElem?_cons_succ, List.set_cons_zero, List.set_cons_succ, Option.some.injEq, exists_eq_left', V.int.injEq, V.ref.injEq, true_and, ed1]
      refine ⟨_, rfl, _, rfl, _, rfl, _, rfl, by rw [sizeLine_eq]; decide, ?_⟩
      intro p2 n2
      generalize z2 : upd H1 p2 _ = H2
      obtain ⟨s2, e2⟩ := new_same z2 n2
      exact hX _ _ ⟨p2, rfl, e2, s2⟩
    rintro σ H2 ⟨p2, rfl, e2, s2⟩
    have ed2 := s2 _ _ ed1
    refine use1 (fun σ H' => ∃ p : Addr, σ = nσ c fair d (some (.int (2 + a0 % 11))) (some (.ref p)) none ∧ H' p = some (tL (2 + a0 % 11) (1 + a1 % 32) (1 + a2 % 400) (1 + a3 % 1000) (a4 % 61) (1 + a5 % 16) (1 + a6 % 16) (1 + a7 % 60) (1 + a8 % 10000) (a9 % 10001)) ∧ H2 p = none ∧ Same H2 H') ?_ (fun X hX => ?_)
    rotate_left
    · simp (maxSteps := 1000000) only [rGet, getO_l, upd_same, HO.lst.injEq, Int.reduceLT, Nat.reduceAdd, rCat, tSeq, exists_and_left, tOp, tVar, tC, rI, rI0, tAsg, gName, tCons, tNil, tLst, List.length_cons, List.length_nil, List.getElem?_cons_zero, List.getElem?_cons_succ, List.set_cons_zero, List.set_cons_succ, Option.some.injEq, exists_eq_left', V.int.injEq, V.ref.injEq, true_and, ed2]
      refine ⟨_, rfl, _, rfl, _, rfl, _, rfl, _, rfl, _, rfl, _, rfl, _, rfl, by rw [sizeLine_eq]; decide, ?_⟩
      intro p3 n3
      generalize z3 : upd H2 p3 _ = H3
      obtain ⟨s3, e3⟩ := new_same z3 n3
      refine ⟨_, s3 _ _ e2, by rw [sizeLine_eq]; simp, ?_⟩
      intro p5 n5
      generalize z5 : upd H3 p5 _ = H5
      obtain ⟨s5, e5⟩ := new_same z5 n5
      refine hX _ _ ⟨p5, rfl, e5, ?_, s3.trans s5⟩
      cases e : H2 p5 with
      | none => rfl
      | some u =>
        rw [s3 _ _ e] at n5
        cases n5
    rintro σ H3 ⟨p, rfl, ep, nH2, s3⟩
    have nH : H p = none := by
      cases e : H p with
      | none => rfl
      | some u =>
        rw [(s1.trans s2) _ _ e] at nH2
        cases nH2
    have np : d ≠ p := fun z => by rw [← z, ed2] at nH2; cases nH2
    have ed := s3 _ _ ed2
    have s' := (s1.trans s2).trans s3
    have q' : ∀ (a b c d e f g h i j : Int) (H1 : Hp), H1 p = some (tL a b c d e f g h i j) → inB [a, b, c, d, e, f, g, h, i, j] → Same H H1 → Q (.ref p) H1 := fun a b c d e f g h i j H1 e1 hB s1 => q p ⟨a, b, c, d, e, f, g, h, i, j⟩ H1 nH e1 hB s1
    clear s1 s2 s3 ed1 e2 ed2 nH2 q
    by_cases hc : a10 % 2 = 0
    rotate_left
    · have d0 : decide (a10 % 2 = 0) = false := decide_eq_false hc
      refine offI fun T => ?_
      simp (maxSteps := 1000000) only [rGet, getO_l, Int.reduceLT, rEq_ii, tSeq, exists_and_left, tIfS, tTest, tOp, tVar, tC, rI, tRet, tNext, List.getElem?_cons_zero, List.getElem?_cons_succ, Option.some.injEq, exists_eq_left', V.int.injEq, V.bl.injEq, V.ref.injEq, true_and, ed]
      refine ⟨_, rfl, _, rfl, ?_⟩
      rw [if_neg (by rw [d0]; decide)]
      exact q' _ _ _ _ _ _ _ _ _ _ H3 ep (inB_of (by omega) (by omega) (by omega) (by omega) (by omega) (by omega) (by omega) (by omega) (by omega) (by omega)) s'
    have d0 : decide (a10 % 2 = 0) = true := decide_eq_true hc
    refine useI3 (fun σ H' => σ = nσ c fair d (some (.int (2 + a0 % 11))) (some (.ref p)) none ∧ H' p = some (tL (2 + a0 % 3) (1 + a1 % 4) (1 + a2 % 400) (1 + a3 % 1000) (a4 % 61) (1 + a5 % 16) (1 + a6 % 16) (1 + a7 % 14) (1 + a8 % 10000) (a9 % 10001)) ∧ H' d = some (zL a0 a1 a2 a3 a4 a5 a6 a7 a8 a9 a10) ∧ Same H H') ?_ (fun X hX => ?_)
    rotate_left
    · simp (maxSteps := 1000000) only [rGet, getO_l, rSetX, setO_l, gSub, atI_0, upd_same, upd_upd, Int.reduceLT, Nat.reduceAdd, rEq_ii, tSeq, exists_and_left, tIfS, tTest, tOp, tVar, tC, rI, rI0, tRet, tAsg, tNext, List.length_cons, List.length_nil, List.getElem?_cons_zero, List.getElem?_cons_succ, Option.some.injEq, exists_eq_left', V.int.injEq, V.bl.injEq, V.ref.injEq, true_and, ed, ep]
      refine ⟨_, rfl, _, rfl, ?_⟩
      rw [if_pos d0]
      refine ⟨_, rfl, _, (upd_ne np).trans ed, _, rfl, _, rfl, _, rfl, _, (upd_ne np).trans ed, _, rfl, _, rfl, _, rfl, ?_⟩
      exact hX _ _ ⟨rfl, upd_same, (upd_ne np).trans ed, s'.upd nH⟩
    clear s' ed ep
    rintro σ H4 ⟨rfl, ep, ed, s'⟩
    refine use2 (fun σ H' => σ = nσ c fair d (some (.int (2 + a0 % 11))) (some (.ref p)) none ∧ H' p = some (tL (2 + a0 % 3) (1 + a1 % 4) (1 + a2 % 400) (1 + a3 % 1000) (2 + a0 % 3 + a4 % 40 - a10 / 32 % 9 / 8) (1 + a5 % 16) (1 + a7 % 14 + 2 - a10 / 2 % 9 / 8) (1 + a7 % 14) (1 + a8 % 10000) (a9 % 10001)) ∧ H' d = some (zL a0 a1 a2 a3 a4 a5 a6 a7 a8 a9 a10) ∧ Same H H') ?_ (fun X hX => ?_)
    rotate_left
    · simp (maxSteps := 1000000) only [rGet, getO_l, rSetX, setO_l, gSub, upd_same, upd_upd, Int.reduceLT, Nat.reduceAdd, tSeq, exists_and_left, tOp, tVar, tC, rI, rI0, tAsg, List.length_cons, List.length_nil, List.getElem?_cons_zero, List.getElem?_cons_succ, Option.some.injEq, exists_eq_left', V.int.injEq, V.ref.injEq, true_and, ed, ep]
      refine ⟨_, rfl, _, rfl, _, rfl, _, rfl, ⟨by decide, by decide⟩, ⟨by decide, by decide⟩, _, rfl, _, rfl, _, (upd_ne np).trans ed, _, rfl, _, rfl, _, rfl, _, (upd_ne np).trans ed, _, rfl, _, rfl, ⟨by decide, by decide⟩, ⟨by decide, by decide⟩, _, rfl, ?_⟩
      exact hX _ _ ⟨rfl, upd_same, (upd_ne np).trans ed, s'.upd nH⟩
    clear s' ed ep
    rintro σ H5 ⟨rfl, ep, ed, s'⟩
    generalize hst : (if 60 < fair then 60 else fair) + (1 + a1 % 4) = st
    have st2 : 2 ≤ st := by rw [← hst]; split <;> omega
    have st3 : st ≤ 64 := by rw [← hst]; split <;> omega
    refine use2 (fun σ H' => σ = nσ c fair d (some (.int (2 + a0 % 11))) (some (.ref p)) (some (.int st)) ∧ H' p = some (tL (2 + a0 % 3) (1 + a1 % 4) (if st + a2 % 5 - a10 / 512 % 9 / 8 < 400 then st + a2 % 5 - a10 / 512 % 9 / 8 else 400) (1 + a3 % 1000) (2 + a0 % 3 + a4 % 40 - a10 / 32 % 9 / 8) (1 + a5 % 16) (1 + a7 % 14 + 2 - a10 / 2 % 9 / 8) (1 + a7 % 14) (1 + a8 % 10000) (a9 % 10001)) ∧ H' d = some (zL a0 a1 a2 a3 a4 a5 a6 a7 a8 a9 a10) ∧ Same H H') ?_ (fun X hX => ?_)
    rotate_left
    · simp (maxSteps := 1000000) only [rGet, getO_l, rSetX, setO_l, gSub, atI_1, atI_2, Int.reduceLT, Nat.reduceAdd, List.cons.injEq, tSeq, exists_and_left, tOp, tVar, tC, rI, rI0, tAsg, gName, tCons, tNil, tCB, List.length_cons, List.length_nil, List.getElem?_cons_zero, List.getElem?_cons_succ, List.set_cons_zero, List.set_cons_succ, Option.some.injEq, exists_eq_left', V.int.injEq, V.ref.injEq, and_true, true_and, and_assoc, ed, ep]
      refine ⟨_, rfl, _, rfl, ⟨by decide, by decide⟩, ⟨by decide, by decide⟩, _, rfl, ?_⟩
      exact hX _ _ ⟨by rw [hst], by rw [hst]; exact upd_same, (upd_ne np).trans ed, s'.upd nH⟩
    clear s' ed ep
    rintro σ H6 ⟨rfl, ep, ed, s'⟩
    simp (maxSteps := 1000000) only [rGet, getO_l, rSetX, setO_l, gSub, atI_0, atI_3, Int.reduceLT, Nat.reduceAdd, List.cons.injEq, exists_and_left, tOp, tVar, tC, rI, rI0, tRet, tAsg, tCons, tNil, tCB, List.length_cons, List.length_nil, List.getElem?_cons_zero, List.getElem?_cons_succ, Option.some.injEq, exists_eq_left', V.int.injEq, V.ref.injEq, and_true, true_and, and_assoc, ed, ep]
    have hm : 3 * 2 ≤ (2 + a0 % 3 + 1) * st := Int.mul_le_mul (by omega) st2 (by decide) (by omega)
    refine ⟨.inl ⟨by omega, by omega⟩, _, rfl, _, rfl, ⟨by decide, by decide⟩, ⟨by decide, by decide⟩, _, rfl, ?_⟩
    generalize (2 + a0 % 3 + 1) * st = pr at hm ⊢
    exact q' _ _ _ _ _ _ _ _ _ _ _ upd_same (inB_of (by omega) (by omega) (by split <;> omega) (by split <;> omega) (by omega) (by omega) (by omega) (by omega) (by omega) (by omega)) (s'.upd nH)
end
end K73
namespace K73
open PySem L2
section
variable {P : Program} {w : World} {K : PySem.W.Frag} {mg : Str → Option Value} {base : Heap} {C : Addr}
abbrev s__law_wishes : Stmt := top 25
theorem sc__law_wishes : FnScope ["_law_cells", "_law_hands", "_law_found", "_law_cell", "_law_number", "_law_hand", "_law_goal", "_law_text", "_law_some", "_law_word", "_law_what"] ["_law_cells", "_law_hands"] (defScope s__law_wishes) := ⟨rfl, rfl, rfl, by decide +kernel, rfl, by decide +kernel, by decide +kernel⟩
def TxOk : Wk → Prop
  | .put _ z => PyData.strOk z = true
  | .ask z => PyData.strOk z = true
  | .oth _ z => PyData.strOk z = true
  | _ => True
def sp_lwish : Sp := fun vs H Q _ => ∃ (a : Addr) (ns : List Int) (hands : Int), vs = [.ref a, .int hands] ∧ H a = some (.lst (ns.map V.int)) ∧ ns.length ≤ 40 ∧ 2 ≤ hands ∧ hands ≤ 12 ∧ ∀ p ys ws H', H' p = some (.lst ys) → Paired (RW H') ys ws → ws.length ≤ 40 → (∀ q ∈ ws, TxOk q.k) → Same H H' → Q (.ref p) H'
def LwI (a : Addr) (hands : Int) (p : Addr) (H : Hp) (i : Nat) (σ : St) (H' : Hp) : Prop := ∃ ys ws v3 v4 v5 v6 v7 v8 v9 v10, σ = [some (.ref a), some (.int hands), some (.ref p), v3, v4, v5, v6, v7, v8, v9, v10] ∧ H' p = some (.lst ys) ∧ Paired (RW H') ys ws ∧ ws.length = i ∧ (∀ q ∈ ws, TxOk q.k) ∧ Keep [p] H H'
theorem mulx : ∀ k : Fin 40, MulOk (Str.ofString "x") (1 + (k.val : Int)) ∧ 1 ≤ (Txt.mul (Str.ofString "x") (1 + (k.val : Int))).length ∧ (Txt.mul (Str.ofString "x") (1 + (k.val : Int))).length ≤ 40 ∧ (Txt.mul (Str.ofString "x") (1 + (k.val : Int))).cps.toList.all (· < 0x110000) = true := by
  unfold MulOk
  decide
theorem mulX {n : Int} (h0 : 0 ≤ n) (h1 : n < 40) : MulOk (Str.ofString "x") (1 + n) ∧ 1 ≤ (Txt.mul (Str.ofString "x") (1 + n)).length ∧ (Txt.mul (Str.ofString "x") (1 + n)).length ≤ 40 ∧ PyData.strOk (Txt.mul (Str.ofString "x") (1 + n)) = true := by
  have := mulx ⟨n.toNat, by omega⟩
  dsimp only at this
  rw [Int.toNat_of_nonneg h0] at this
  refine ⟨this.1, this.2.1, this.2.2.1, ?_⟩
  unfold PyData.strOk
  rw [← Array.all_toList]
  exact this.2.2.2
theorem mod2 {n m : Int} (h : 0 < m) : 0 ≤ n % m ∧ n % m < m := ⟨Int.emod_nonneg _ (by omega), Int.emod_lt_of_pos _ h⟩
theorem at2 {x y : V} {n : Int} : ∃ v, atI [x, y] (n % 2) = some v ∧ (v = x ∨ v = y) := by
  rcases Int.emod_two_eq n with e | e <;> rw [e]
  · exact ⟨x, rfl, .inl rfl⟩
  · exact ⟨y, rfl, .inr rfl⟩
abbrev wσ (a : Addr) (hands : Int) (p : Addr) (c n hd g : Int) (v7 v8 v9 v10 : Option V) : St := [some (.ref a), some (.int hands), some (.ref p), some (.int c), some (.int n), some (.int hd), some (.int g), v7, v8, v9, v10]
structure Fv (H : Hp) (p4 p5 p6 p7 p8 p9 p10 p11 : Addr) (g : Int) (tx : Str) : Prop where
  t4 : H p4 = some (.tup [.str (Str.ofString "begin"), .int g])
  t5 : H p5 = some (.tup [.int g, .str tx])
  t6 : H p6 = some (.tup [.str (Str.ofString "put"), .ref p5])
  t7 : H p7 = some (.tup [.int g, .str tx])
  t8 : H p8 = some (.tup [.str (Str.ofString "put"), .ref p7])
  t9 : H p9 = some (.tup [.str (Str.ofString "end"), .int g])
  t10 : H p10 = some (.tup [.str (Str.ofString "ask"), .str (Str.ofString "ab")])
  t11 : H p11 = some (.lst [.ref p4, .ref p6, .ref p8, .ref p9, .ref p10])
def WhA (a : Addr) (hands : Int) (p : Addr) (H : Hp) (i : Nat) (c : Int) (σ : St) (H' : Hp) : Prop := ∃ ys ws n hd g v7 v8 v9 v10, 0 ≤ n ∧ σ = [some (.ref a), some (.int hands), some (.ref p), some (.int c), some (.int n), some (.int hd), some (.int g), v7, v8, v9, v10] ∧ H' p = some (.lst ys) ∧ Paired (RW H') ys ws ∧ ws.length = i ∧ (∀ q ∈ ws, TxOk q.k) ∧ Keep [p] H H'
set_option maxHeartbeats 8000000 in
theorem own_lwish (D : Def K mg "_law_wishes" s__law_wishes) (hb : Blt mg) (F__law_mixed : Own P w K mg base 1 "_law_mixed" ["_law_cell", "_law_k"] sp_mixed) : Own P w K mg base 2 "_law_wishes" ["_law_cells", "_law_hands"] sp_lwish := by
  refine D.own sc__law_wishes (fun _ _ _ _ _ _ us hl => match us, hl with | [_, _], _ => rfl) (fun vs H Q E h => ?_) (fun f cdv A outer s H vs Q E hr h => ?_)
  · obtain ⟨a, ns, hands, rfl, _⟩ := h
    rfl
  · obtain ⟨a, ns, hands, rfl, ea, hl, hh0, hh1, q⟩ := h
    have hu := hr.units
    have hu1 : (A.deeper (PyProof.Rows.envOfC "_law_wishes" (defScope s__law_wishes) s.heap.objs.size f cdv)).units + 1 < cLine := by omega
    refine ⟨_, (@pss_cons _ _ _ _ _ (@ps_set _ _ 2 _ _ _ _ sc__law_wishes.nd rfl (by first | exact Or.inl rfl | exact Or.inr rfl) (@pe_lst _ _ _ _ (@pa_nil _)) (by rfl) (by first | exact .inl rfl | exact .inr rfl | assumption)) (@pss_cons _ _ _ _ _ (@ps_for _ _ _ _ _ _ _ _ PassesOwn.never rfl (@pi_listK _ K _ _ _ (@pv _ 0 _ _ (by rfl) (by first | exact Or.inl rfl | exact Or.inr (Or.inl rfl) | exact Or.inr (Or.inr rfl)) (by decide) (by decide)) (by rfl)) (@pg_name _ _ 3 _ sc__law_wishes.nd rfl (by first | exact Or.inl rfl | exact Or.inr rfl) (by first | exact .inl rfl | exact .inr rfl | assumption)) (@pss_cons _ _ _ _ _ (@ps_set _ _ 4 _ _ _ _ sc__law_wishes.nd rfl (by first | exact Or.inl rfl | exact Or.inr rfl) (@pe_fn _ _ _ _ _ _ _ _ _ _ _ F__law_mixed hr (@pa_cX _ _ _ _ _ (@pv _ 3 _ _ (by rfl) (by first | exact Or.inl rfl | exact Or.inr (Or.inl rfl) | exact Or.inr (Or.inr rfl)) (by decide) (by decide)) (@pa_cX _ _ _ _ _ (@pe_int _ _ _ _) (@pa_nil _) (by rfl)) (by rfl)) (by decide) (by rfl) (by decide) (by rfl) (by rfl)) (by rfl) (by first | exact .inl rfl | exact .inr rfl | assumption)) (@pss_cons _ _ _ _ _ (@ps_set _ _ 5 _ _ _ _ sc__law_wishes.nd rfl (by first | exact Or.inl rfl | exact Or.inr rfl) (@pe_op _ _ _ _ _ _ _ _ op_mod (@pv _ 4 _ _ (by rfl) (by first | exact Or.inl rfl | exact Or.inr (Or.inl rfl) | exact Or.inr (Or.inr rfl)) (by decide) (by decide)) (@pe_ix _ _ _ _ _ _ _ (ix_get hu1) (@pe_lst _ _ _ _ (@pa_cX _ _ _ _ _ (@pv _ 1 _ _ (by rfl) (by first | exact Or.inl rfl | exact Or.inr (Or.inl rfl) | exact Or.inr (Or.inr rfl)) (by decide) (by decide)) (@pa_cX _ _ _ _ _ (@pe_callB _ _ _ _ _ _ _ _ _ (call_min2 rfl) rfl (hb _ (by decide)) bt_min (@pa_cX _ _ _ _ _ (@pv _ 1 _ _ (by rfl) (by first | exact Or.inl rfl | exact Or.inr (Or.inl rfl) | exact Or.inr (Or.inr rfl)) (by decide) (by decide)) (@pa_cX _ _ _ _ _ (@pe_int _ _ _ _) (@pa_nil _) (by rfl)) (by rfl)) (by decide) (by decide) (by rfl) (by rfl)) (@pa_nil _) (by rfl)) (by rfl))) (@pe_op _ _ _ _ _ _ _ _ op_mod (@pe_op _ _ _ _ _ _ _ _ op_fdiv (@pv _ 4 _ _ (by rfl) (by first | exact Or.inl rfl | exact Or.inr (Or.inl rfl) | exact Or.inr (Or.inr rfl)) (by decide) (by decide)) (@pe_int _ _ _ _)) (@pe_int _ _ _ _)) (fun _ _ => rfl))) (by rfl) (by first | exact .inl rfl | exact .inr rfl | assumption)) (@pss_cons _ _ _ _ _ (@ps_set _ _ 6 _ _ _ _ sc__law_wishes.nd rfl (by first | exact Or.inl rfl | exact Or.inr rfl) (@pe_op _ _ _ _ _ _ _ _ op_mod (@pe_op _ _ _ _ _ _ _ _ op_add (@pe_op _ _ _ _ _ _ _ _ op_add (@pv _ 5 _ _ (by rfl) (by first | exact Or.inl rfl | exact Or.inr (Or.inl rfl) | exact Or.inr (Or.inr rfl)) (by decide) (by decide)) (@pe_int _ _ _ _)) (@pe_op _ _ _ _ _ _ _ _ op_mod (@pe_op _ _ _ _ _ _ _ _ op_fdiv (@pv _ 4 _ _ (by rfl) (by first | exact Or.inl rfl | exact Or.inr (Or.inl rfl) | exact Or.inr (Or.inr rfl)) (by decide) (by decide)) (@pe_int _ _ _ _)) (@pe_ix _ _ _ _ _ _ _ (ix_get hu1) (@pe_lst _ _ _ _ (@pa_cX _ _ _ _ _ (@pe_op _ _ _ _ _ _ _ _ op_sub (@pv _ 1 _ _ (by rfl) (by first | exact Or.inl rfl | exact Or.inr (Or.inl rfl) | exact Or.inr (Or.inr rfl)) (by decide) (by decide)) (@pe_int _ _ _ _)) (@pa_cX _ _ _ _ _ (@pe_callB _ _ _ _ _ _ _ _ _ (call_min2 rfl) rfl (hb _ (by decide)) bt_min (@pa_cX _ _ _ _ _ (@pe_op _ _ _ _ _ _ _ _ op_sub (@pv _ 1 _ _ (by rfl) (by first | exact Or.inl rfl | exact Or.inr (Or.inl rfl) | exact Or.inr (Or.inr rfl)) (by decide) (by decide)) (@pe_int _ _ _ _)) (@pa_cX _ _ _ _ _ (@pe_int _ _ _ _) (@pa_nil _) (by rfl)) (by rfl)) (by decide) (by decide) (by rfl) (by rfl)) (@pa_nil _) (by rfl)) (by rfl))) (@pe_op _ _ _ _ _ _ _ _ op_mod (@pe_op _ _ _ _ _ _ _ _ op_fdiv (@pv _ 4 _ _ (by rfl) (by first | exact Or.inl rfl | exact Or.inr (Or.inl rfl) | exact Or.inr (Or.inr rfl)) (by decide) (by decide)) (@pe_int _ _ _ _)) (@pe_int _ _ _ _)) (fun _ _ => rfl)))) (@pv _ 1 _ _ (by rfl) (by first | exact Or.inl rfl | exact Or.inr (Or.inl rfl) | exact Or.inr (Or.inr rfl)) (by decide) (by decide))) (by rfl) (by first | exact .inl rfl | exact .inr rfl | assumption)) (@pss_cons _ _ _ _ _ (@ps_set _ _ 7 _ _ _ _ sc__law_wishes.nd rfl (by first | exact Or.inl rfl | exact Or.inr rfl) (@pe_op _ _ _ _ _ _ _ _ op_mulS (@pe_str _ _ _ _) (@pe_op _ _ _ _ _ _ _ _ op_add (@pe_int _ _ _ _) (@pe_op _ _ _ _ _ _ _ _ op_mod (@pe_op _ _ _ _ _ _ _ _ op_fdiv (@pv _ 4 _ _ (by rfl) (by first | exact Or.inl rfl | exact Or.inr (Or.inl rfl) | exact Or.inr (Or.inr rfl)) (by decide) (by decide)) (@pe_int _ _ _ _)) (@pe_int _ _ _ _)))) (by rfl) (by first | exact .inl rfl | exact .inr rfl | assumption)) (@pss_cons _ _ _ _ _ (@ps_set _ _ 8 _ _ _ _ sc__law_wishes.nd rfl (by first | exact Or.inl rfl | exact Or.inr rfl) (@pe_lst _ _ _ _ (@pa_cX _ _ _ _ _ (@pe_tup _ _ _ _ _ (@pa_cX _ _ _ _ _ (@pe_str _ _ _ _) (@pa_cX _ _ _ _ _ (@pv _ 6 _ _ (by rfl) (by first | exact Or.inl rfl | exact Or.inr (Or.inl rfl) | exact Or.inr (Or.inr rfl)) (by decide) (by decide)) (@pa_nil _) (by rfl)) (by rfl))) (@pa_cX _ _ _ _ _ (@pe_tup _ _ _ _ _ (@pa_cX _ _ _ _ _ (@pe_str _ _ _ _) (@pa_cX _ _ _ _ _ (@pe_tup _ _ _ _ _ (@pa_cX _ _ _ _ _ (@pv _ 6 _ _ (by rfl) (by first | exact Or.inl rfl | exact Or.inr (Or.inl rfl) | exact Or.inr (Or.inr rfl)) (by decide) (by decide)) (@pa_cX _ _ _ _ _ (@pv _ 7 _ _ (by rfl) (by first | exact Or.inl rfl | exact Or.inr (Or.inl rfl) | exact Or.inr (Or.inr rfl)) (by decide) (by decide)) (@pa_nil _) (by rfl)) (by rfl))) (@pa_nil _) (by rfl)) (by rfl))) (@pa_cX _ _ _ _ _ (@pe_tup _ _ _ _ _ (@pa_cX _ _ _ _ _ (@pe_str _ _ _ _) (@pa_cX _ _ _ _ _ (@pe_tup _ _ _ _ _ (@pa_cX _ _ _ _ _ (@pv _ 6 _ _ (by rfl) (by first | exact Or.inl rfl | exact Or.inr (Or.inl rfl) | exact Or.inr (Or.inr rfl)) (by decide) (by decide)) (@pa_cX _ _ _ _ _ (@pv _ 7 _ _ (by rfl) (by first | exact Or.inl rfl | exact Or.inr (Or.inl rfl) | exact Or.inr (Or.inr rfl)) (by decide) (by decide)) (@pa_nil _) (by rfl)) (by rfl))) (@pa_nil _) (by rfl)) (by rfl))) (@pa_cX _ _ _ _ _ (@pe_tup _ _ _ _ _ (@pa_cX _ _ _ _ _ (@pe_str _ _ _ _) (@pa_cX _ _ _ _ _ (@pv _ 6 _ _ (by rfl) (by first | exact Or.inl rfl | exact Or.inr (Or.inl rfl) | exact Or.inr (Or.inr rfl)) (by decide) (by decide)) (@pa_nil _) (by rfl)) (by rfl))) (@pa_cX _ _ _ _ _ (@pe_tup _ _ _ _ _ (@pa_cX _ _ _ _ _ (@pe_str _ _ _ _) (@pa_cX _ _ _ _ _ (@pe_str _ _ _ _) (@pa_nil _) (by rfl)) (by rfl))) (@pa_nil _) (by rfl)) (by rfl)) (by rfl)) (by rfl)) (by rfl))) (by rfl) (by first | exact .inl rfl | exact .inr rfl | assumption)) (@pss_cons _ _ _ _ _ (@ps_asg _ _ _ _ _ _ (@pe_ix _ _ _ _ _ _ _ (ix_get hu1) (@pe_op _ _ _ _ _ _ _ _ op_cat (@pv _ 8 _ _ (by rfl) (by first | exact Or.inl rfl | exact Or.inr (Or.inl rfl) | exact Or.inr (Or.inr rfl)) (by decide) (by decide)) (@pe_lst _ _ _ _ (@pa_cX _ _ _ _ _ (@pe_tup _ _ _ _ _ (@pa_cX _ _ _ _ _ (@pe_str _ _ _ _) (@pa_cX _ _ _ _ _ (@pe_str _ _ _ _) (@pa_nil _) (by rfl)) (by rfl))) (@pa_cX _ _ _ _ _ (@pe_tup _ _ _ _ _ (@pa_cX _ _ _ _ _ (@pe_str _ _ _ _) (@pa_cX _ _ _ _ _ (@pe_str _ _ _ _) (@pa_nil _) (by rfl)) (by rfl))) (@pa_cX _ _ _ _ _ (@pe_tup _ _ _ _ _ (@pa_cX _ _ _ _ _ (@pe_str _ _ _ _) (@pa_cX _ _ _ _ _ (@pe_str _ _ _ _) (@pa_nil _) (by rfl)) (by rfl))) (@pa_nil _) (by rfl)) (by rfl)) (by rfl)))) (@pe_op _ _ _ _ _ _ _ _ op_mod (@pe_fn _ _ _ _ _ _ _ _ _ _ _ F__law_mixed hr (@pa_cX _ _ _ _ _ (@pv _ 3 _ _ (by rfl) (by first | exact Or.inl rfl | exact Or.inr (Or.inl rfl) | exact Or.inr (Or.inr rfl)) (by decide) (by decide)) (@pa_cX _ _ _ _ _ (@pe_int _ _ _ _) (@pa_nil _) (by rfl)) (by rfl)) (by decide) (by rfl) (by decide) (by rfl) (by rfl)) (@pe_int _ _ _ _)) (fun _ _ => rfl)) (@pg_seqX _ _ _ _ 2 _ rfl (@pgs_cons _ _ _ _ _ (@pg_name _ _ 9 _ sc__law_wishes.nd rfl (by first | exact Or.inl rfl | exact Or.inr rfl) (by first | exact .inl rfl | exact .inr rfl | assumption)) (@pgs_cons _ _ _ _ _ (@pg_name _ _ 10 _ sc__law_wishes.nd rfl (by first | exact Or.inl rfl | exact Or.inr rfl) (by first | exact .inl rfl | exact .inr rfl | assumption)) (@pgs_nil _) (by rfl)) (by rfl)) (by rfl) (by rfl)) (by rfl) (by rfl) (by rfl)) (@pss_one _ _ _ (@ps_expr _ _ _ _ (@pe_lm _ _ _ _ _ _ _ _ _ _ _ PySem.F.slot_list_append PySem.F.type_list_append mt_append (@pv _ 2 _ _ (by rfl) (by first | exact Or.inl rfl | exact Or.inr (Or.inl rfl) | exact Or.inr (Or.inr rfl)) (by decide) (by decide)) (@pa_cX _ _ _ _ _ (@pe_tup _ _ _ _ _ (@pa_cX _ _ _ _ _ (@pe_op _ _ _ _ _ _ _ _ op_mod (@pe_fn _ _ _ _ _ _ _ _ _ _ _ F__law_mixed hr (@pa_cX _ _ _ _ _ (@pv _ 3 _ _ (by rfl) (by first | exact Or.inl rfl | exact Or.inr (Or.inl rfl) | exact Or.inr (Or.inr rfl)) (by decide) (by decide)) (@pa_cX _ _ _ _ _ (@pe_int _ _ _ _) (@pa_nil _) (by rfl)) (by rfl)) (by decide) (by rfl) (by decide) (by rfl) (by rfl)) (@pe_int _ _ _ _)) (@pa_cX _ _ _ _ _ (@pv _ 5 _ _ (by rfl) (by first | exact Or.inl rfl | exact Or.inr (Or.inl rfl) | exact Or.inr (Or.inr rfl)) (by decide) (by decide)) (@pa_cX _ _ _ _ _ (@pv _ 9 _ _ (by rfl) (by first | exact Or.inl rfl | exact Or.inr (Or.inl rfl) | exact Or.inr (Or.inr rfl)) (by decide) (by decide)) (@pa_cX _ _ _ _ _ (@pv _ 10 _ _ (by rfl) (by first | exact Or.inl rfl | exact Or.inr (Or.inl rfl) | exact Or.inr (Or.inr rfl)) (by decide) (by decide)) (@pa_nil _) (by rfl)) (by rfl)) (by rfl)) (by rfl))) (@pa_nil _) (by rfl)) (by rfl) (by rfl) (by rfl) (by rfl) (by rfl)) (by rfl))))))))) (by intro _; rfl)) (@pss_one _ _ _ (@ps_ret _ _ _ _ (@pv _ 2 _ _ (by rfl) (by first | exact Or.inl rfl | exact Or.inr (Or.inl rfl) | exact Or.inr (Or.inr rfl)) (by decide) (by decide)))))), ?_⟩
    simp (maxSteps := 1000000) only [tFor_eq, Nat.reduceSub, Nat.reduceAdd, iList, tSeq, tVar, tAsg, gName, tNil, tLst, L2.start, List.map_cons, List.map_nil, List.length_cons, List.length_nil, List.replicate, List.cons_append, List.nil_append, List.getElem?_cons_zero, List.set_cons_zero, List.set_cons_succ, Option.some.injEq, exists_eq_left', V.ref.injEq]
    refine ⟨Nat.zero_le _, ?_⟩
    intro p1 n1
    generalize z1 : upd H p1 _ = H1
    obtain ⟨s1, e1⟩ := new_same z1 n1
    have ea1 := s1 _ _ ea
    have na : a ≠ p1 := fun z => by rw [← z, ea] at n1; cases n1
    have nt1 : ∀ b ∈ [p1], NoT H1 b := fun b hb => by
      rw [List.mem_singleton] at hb
      subst hb
      intro xs z
      rw [e1] at z
      cases z
    refine ⟨⟨_, SqL.of ea1⟩, for_list (xs := ns.map V.int) (LwI a hands p1 H1) ⟨[], [], _, _, _, _, _, _, _, _, rfl, e1, .nil, rfl, (fun _ z => nomatch z), .refl⟩ ?_ ?_ ?_⟩
    · rintro i σ H2 hi ⟨ys, ws, v3, v4, v5, v6, v7, v8, v9, v10, rfl, e2, hp, hw, ht, k2⟩
      exact SqL.of (k2 _ _ ea1 (by simp [na]))
    · rintro i x σ H2 hx ⟨ys, ws, v3, v4, v5, v6, v7, v8, v9, v10, rfl, e2, hp, hw, ht, k2⟩
      rw [List.getElem?_map] at hx
      obtain ⟨c, hc, rfl⟩ := Option.map_eq_some_iff.mp hx
      have m3 : 0 < (if 3 < hands then 3 else hands) := by split <;> omega
      have m2 : 0 < (if 2 < hands - 1 then 2 else hands - 1) := by split <;> omega
      refine use1 (fun σ H' => ∃ n : Int, 0 ≤ n ∧ σ = [some (.ref a), some (.int hands), some (.ref p1), some (.int c), some (.int n), v5, v6, v7, v8, v9, v10] ∧ H' = H2) ?_ (fun R1 hR1 => ?_)
      rotate_left
      · simp (maxSteps := 1000000) only [Int.reduceLE, List.cons.injEq, tSeq, exists_and_left, tVar, tC, tAsg, gName, tCall, tCons, tNil, List.getElem?_cons_zero, List.getElem?_cons_succ, List.set_cons_zero, List.set_cons_succ, Option.some.injEq, exists_eq_left', V.int.injEq, and_true, true_and, and_assoc, List.append_nil, sp_mixed]
        exact fun r r0 r1 => hR1 _ _ ⟨r, r0, rfl, rfl⟩
      rintro σ HU ⟨r, r0, rfl, rfl⟩
      refine use1 (fun σ H' => ∃ hd : Int, σ = [some (.ref a), some (.int hands), some (.ref p1), some (.int c), some (.int r), some (.int hd), v6, v7, v8, v9, v10] ∧ Same HU H') ?_ (fun R1 hR1 => ?_)
      rotate_left
      · simp (maxSteps := 1000000) only [rGet, getO_l, upd_same, Int.reduceLT, Nat.reduceAdd, List.cons.injEq, tSeq, exists_and_left, tOp, tVar, tC, rI, tAsg, gName, tCons, tNil, tCB, tLst, List.length_cons, List.length_nil, List.getElem?_cons_zero, List.getElem?_cons_succ, List.set_cons_zero, List.set_cons_succ, Option.some.injEq, exists_eq_left', V.int.injEq, V.ref.injEq, and_true, true_and, and_assoc]
        refine ⟨by rw [sizeLine_eq]; decide, ?_⟩
        intro p5 n5
        generalize z5 : upd HU p5 _ = H5
        obtain ⟨s5, e5⟩ := new_same z5 n5
        obtain ⟨v, ev, hv⟩ := at2 (x := V.int hands) (y := V.int (if 3 < hands then 3 else hands)) (n := r / 8192)
        obtain ⟨m, rfl, m0⟩ : ∃ m : Int, v = .int m ∧ 0 < m := by
          rcases hv with rfl | rfl
          · exact ⟨_, rfl, by omega⟩
          · exact ⟨_, rfl, m3⟩
        exact ⟨⟨by decide, by decide⟩, _, ev, _, rfl, m0, hR1 _ _ ⟨_, rfl, s5⟩⟩
      rintro σ HV ⟨hd, rfl, sUV⟩
      refine use1 (WhA a hands p1 H1 i c) ?key ?go
      case go =>
        intro R1 hR1
        simp (maxSteps := 1000000) only [rGet, getO_l, upd_same, Int.reduceLT, Nat.reduceAdd, List.cons.injEq, tSeq, exists_and_left, tOp, tVar, tC, rI, rI0, tAsg, gName, tCons, tNil, tCB, tLst, List.length_cons, List.length_nil, List.getElem?_cons_zero, List.getElem?_cons_succ, List.set_cons_zero, List.set_cons_succ, Option.some.injEq, exists_eq_left', V.int.injEq, V.ref.injEq, and_true, true_and, and_assoc]
        refine ⟨⟨by decide, by decide⟩, by rw [sizeLine_eq]; decide, ?_⟩
        intro p6 n6
        generalize z6 : upd HV p6 _ = H6
        obtain ⟨s6, e6⟩ := new_same z6 n6
        obtain ⟨v', ev', hv'⟩ := at2 (x := V.int (hands - 1)) (y := V.int (if 2 < hands - 1 then 2 else hands - 1)) (n := r / 8192)
        obtain ⟨m', rfl, m0'⟩ : ∃ m : Int, v' = .int m ∧ 0 < m := by
          rcases hv' with rfl | rfl
          · exact ⟨_, rfl, by omega⟩
          · exact ⟨_, rfl, m2⟩
        exact ⟨⟨by decide, by decide⟩, _, ev', _, rfl, m0', by omega, hR1 _ _ ⟨ys, ws, r, hd, _, _, _, _, _, r0, rfl, s6 _ _ (sUV _ _ e2), paired_imp (fun _ _ h => (h.same sUV).same s6) hp, hw, ht, (k2.same sUV).same s6⟩⟩
      case key =>
        rintro σ' H3 ⟨ys, ws, n, hd, g, v7, v8, v9, v10, hn, rfl, e3, hp, hw, ht, k3⟩
        refine use1 (fun σ H' => ∃ tx : Str, σ = wσ a hands p1 c n hd g (some (.str tx)) v8 v9 v10 ∧ 1 ≤ tx.length ∧ tx.length ≤ 40 ∧ PyData.strOk tx = true ∧ H' = H3) ?_ (fun X hX => ?_)
        rotate_left
        · simp (maxSteps := 1000000) only [Int.reduceLT, tSeq, exists_and_left, tOp, tVar, tC, rI, rI0, tAsg, gName, List.getElem?_cons_zero, List.getElem?_cons_succ, List.set_cons_zero, List.set_cons_succ, Option.some.injEq, exists_eq_left', V.int.injEq, true_and]
          obtain ⟨mok, ml0, ml1, mst⟩ := mulX (n := n / 64 % 40) (mod2 (by decide)).1 (mod2 (by decide)).2
          exact ⟨⟨by decide, by decide⟩, _, _, rfl, rfl, mok, hX _ _ ⟨_, rfl, ml0, ml1, mst, rfl⟩⟩
        rintro σ HX ⟨tx, rfl, ml0, ml1, mst, rfl⟩
        refine use1 (fun σ H' => ∃ p4 p5 p6 p7 p8 p9 p10 p11, σ = wσ a hands p1 c n hd g (some (.str tx)) (some (.ref p11)) v9 v10 ∧ Fv H' p4 p5 p6 p7 p8 p9 p10 p11 g tx ∧ Same HX H') ?_ (fun X hX => ?_)
        rotate_left
        · simp (maxSteps := 1000000) only [Nat.reduceAdd, tSeq, tVar, tC, tAsg, gName, tCons, tNil, tLst, tTup, List.length_cons, List.length_nil, List.getElem?_cons_zero, List.getElem?_cons_succ, List.set_cons_zero, List.set_cons_succ, Option.some.injEq, exists_eq_left']
          refine ⟨by rw [sizeLine_eq]; decide, ?_⟩
          intro p4 n4
          generalize z4 : upd HX p4 _ = H4
          obtain ⟨s4, e4⟩ := new_same z4 n4
          refine ⟨by rw [sizeLine_eq]; decide, ?_⟩
          intro p5 n5
          generalize z5 : upd H4 p5 _ = H5
          obtain ⟨s5, e5⟩ := new_same z5 n5
          refine ⟨by rw [sizeLine_eq]; decide, ?_⟩
          intro p6 n6
          generalize z6 : upd H5 p6 _ = H6
          obtain ⟨s6, e6⟩ := new_same z6 n6
          refine ⟨by rw [sizeLine_eq]; decide, ?_⟩
          intro p7 n7
          generalize z7 : upd H6 p7 _ = H7
          obtain ⟨s7, e7⟩ := new_same z7 n7
          refine ⟨by rw [sizeLine_eq]; decide, ?_⟩
          intro p8 n8
          generalize z8 : upd H7 p8 _ = H8
          obtain ⟨s8, e8⟩ := new_same z8 n8
          refine ⟨by rw [sizeLine_eq]; decide, ?_⟩
          intro p9 n9
          generalize z9 : upd H8 p9 _ = H9
          obtain ⟨s9, e9⟩ := new_same z9 n9
          refine ⟨by rw [sizeLine_eq]; decide, ?_⟩
          intro p10 n10
          generalize z10 : upd H9 p10 _ = H10
          obtain ⟨s10, e10⟩ := new_same z10 n10
          refine ⟨by rw [sizeLine_eq]; decide, ?_⟩
          intro p11 n11
          generalize z11 : upd H10 p11 _ = H11
          obtain ⟨s11, e11⟩ := new_same z11 n11
          have f10 := s11
          have f9 := s10.trans f10
          have f8 := s9.trans f9
          have f7 := s8.trans f8
          have f6 := s7.trans f7
          have f5 := s6.trans f6
          have f4 := s5.trans f5
          have f3 := s4.trans f4
          exact hX _ _ ⟨p4, p5, p6, p7, p8, p9, p10, p11, rfl, ⟨f4 _ _ e4, f5 _ _ e5, f6 _ _ e6, f7 _ _ e7, f8 _ _ e8, f9 _ _ e9, f10 _ _ e10, e11⟩, f3⟩
        rintro σ HY ⟨p4, p5, p6, p7, p8, p9, p10, p11, rfl, F, sXY⟩
        refine use1 (fun σ H' => ∃ (k : Wk) (x : V), σ = wσ a hands p1 c n hd g (some (.str tx)) (some (.ref p11)) (some (.str k.w)) (some x) ∧ k.x H' x ∧ k.Ok ∧ TxOk k ∧ Same HY H') ?_ (fun X hX => ?_)
        rotate_left
        · simp (maxSteps := 1000000) only [gSeqX, rGet, getO_l, gCons, gNil, upd_same, HO.lst.injEq, Int.reduceLT, Int.reduceLE, Nat.reduceAdd, rCat, List.cons.injEq, tSeq, exists_and_left, tOp, tVar, tC, rI, tAsg, gName, tCall, tCons, tNil, tLst, tTup, List.length_cons, List.length_nil, List.getElem?_cons_zero, List.getElem?_cons_succ, List.set_cons_zero, List.set_cons_succ, Option.some.injEq, exists_eq_left', V.int.injEq, V.ref.injEq, and_true, true_and, and_assoc, List.append_nil, sp_mixed]
          refine ⟨by rw [sizeLine_eq]; decide, ?_⟩
          intro p12 n12
          generalize z12 : upd HY p12 _ = H12
          obtain ⟨s12, e12⟩ := new_same z12 n12
          refine ⟨by rw [sizeLine_eq]; decide, ?_⟩
          intro p13 n13
          generalize z13 : upd H12 p13 _ = H13
          obtain ⟨s13, e13⟩ := new_same z13 n13
          refine ⟨by rw [sizeLine_eq]; decide, ?_⟩
          intro p14 n14
          generalize z14 : upd H13 p14 _ = H14
          obtain ⟨s14, e14⟩ := new_same z14 n14
          refine ⟨by rw [sizeLine_eq]; decide, ?_⟩
          intro p15 n15
          generalize z15 : upd H14 p15 _ = H15
          obtain ⟨s15, e15⟩ := new_same z15 n15
          have e11' := s15 _ _ (s14 _ _ (s13 _ _ (s12 _ _ F.t11)))
          refine ⟨_, e11', by rw [sizeLine_eq]; simp, ?_⟩
          intro p16 n16
          generalize z16 : upd H15 p16 _ = H16
          obtain ⟨s16, e16⟩ := new_same z16 n16
          intro r r0 r1
          have f14 := s15.trans s16
          have f13 := s14.trans f14
          have f12 := s13.trans f13
          have fY := s12.trans f12
          obtain ⟨tp, k, x, ev, et, hx, hok, htx⟩ : ∃ (tp : Addr) (k : Wk) (x : V), atI ([V.ref p4, V.ref p6, V.ref p8, V.ref p9, V.ref p10] ++ [V.ref p12, V.ref p13, V.ref p14]) (r % 8) = some (V.ref tp) ∧ H16 tp = some (.tup [.str k.w, x]) ∧ k.x H16 x ∧ k.Ok ∧ TxOk k := by
            have h8 : r % 8 = 0 ∨ r % 8 = 1 ∨ r % 8 = 2 ∨ r % 8 = 3 ∨ r % 8 = 4 ∨ r % 8 = 5 ∨ r % 8 = 6 ∨ r % 8 = 7 := by omega
            rcases h8 with e | e | e | e | e | e | e | e <;> rw [e]
            · exact ⟨p4, .beg g, _, rfl, fY _ _ F.t4, rfl, trivial, trivial⟩
            · exact ⟨p6, .put g tx, _, rfl, fY _ _ F.t6, ⟨p5, rfl, fY _ _ F.t5⟩, ⟨ml0, ml1⟩, mst⟩
            · exact ⟨p8, .put g tx, _, rfl, fY _ _ F.t8, ⟨p7, rfl, fY _ _ F.t7⟩, ⟨ml0, ml1⟩, mst⟩
            · exact ⟨p9, .fin g, _, rfl, fY _ _ F.t9, rfl, trivial, trivial⟩
            · exact ⟨p10, .ask (Str.ofString "ab"), _, rfl, fY _ _ F.t10, rfl, trivial, strOk_of _⟩
            · exact ⟨p12, .oth (Str.ofString "bind") (Str.ofString "ab"), _, rfl, f12 _ _ e12, rfl, .inl rfl, strOk_of _⟩
            · exact ⟨p13, .oth (Str.ofString "free") (Str.ofString "b"), _, rfl, f13 _ _ e13, rfl, .inr rfl, strOk_of _⟩
            · exact ⟨p14, .ask (Str.ofString "b"), _, rfl, f14 _ _ e14, rfl, trivial, strOk_of _⟩
          exact ⟨_, ev, _, rfl, _, et, _, rfl, rfl, _, _, rfl, _, _, rfl, rfl, hX _ _ ⟨k, x, rfl, hx, hok, htx, fY⟩⟩
        rintro σ HZ ⟨k, x, rfl, hx, hok, htx, sYZ⟩
        have sXZ := sXY.trans sYZ
        have eP := sXZ _ _ e3
        simp (maxSteps := 1000000) only [tBL, HO.lst.injEq, Int.reduceLT, Int.reduceLE, Nat.reduceAdd, rAppend, List.cons.injEq, exists_and_left, tOp, tVar, tC, rI, tCall, tCons, tNil, tDrop, tTup, List.length_cons, List.length_nil, List.getElem?_cons_zero, List.getElem?_cons_succ, Option.some.injEq, exists_eq_left', V.int.injEq, V.ref.injEq, and_true, true_and, and_assoc, List.append_nil, sp_mixed, eP]
        intro r2 r20 r21
        refine ⟨by rw [sizeLine_eq]; decide, ?_⟩
        intro p17 n17
        generalize z17 : upd HZ p17 _ = H17
        obtain ⟨s17, e17⟩ := new_same z17 n17
        have eP' := s17 _ _ eP
        have hlen := hp.length
        have hi40 : i < ns.length := (List.getElem?_eq_some_iff.mp hc).1
        have nt3 : ∀ b ∈ [p1], NoT HX b := fun b hb => by
          rw [List.mem_singleton] at hb
          subst hb
          exact .of_lst e3
        have nt17 : ∀ b ∈ [p1], NoT H17 b := fun b hb => by
          rw [List.mem_singleton] at hb
          subst hb
          exact .of_lst eP'
        have ku : Keep [p1] H17 (upd H17 p1 (.lst (ys ++ [V.ref p17]))) := Keep.refl.upd (.inl (.head _))
        have k3' : Keep [p1] HX (upd H17 p1 (.lst (ys ++ [V.ref p17]))) := ((sXZ.trans s17).keep).upd (.inl (.head _))
        refine ⟨_, eP', by rw [sizeLine_eq]; omega, ys ++ [V.ref p17], ws ++ [⟨r2 % 10001, hd, k⟩], _, _, _, _, _, _, _, _, rfl, upd_same, ?_, by rw [List.length_append, hw]; rfl, ?_, ((k3.same sXZ).same s17).upd (.inl (.head _))⟩
        rotate_left
        · intro q hq
          rcases List.mem_append.mp hq with hq | hq
          · exact ht q hq
          · rw [List.mem_singleton] at hq
            rw [hq]
            exact htx
        refine paired_append (paired_imp (fun _ _ h => h.keep k3' nt3) hp) (.cons ?_ .nil)
        exact RW.keep (q := ⟨r2 % 10001, hd, k⟩) ⟨p17, x, rfl, e17, hx.keep (A := []) s17.keep (fun _ z => nomatch z), hok⟩ ku nt17
    · rintro σ H2 ⟨ys, ws, v3, v4, v5, v6, v7, v8, v9, v10, rfl, e2, hp, hw, ht, k2⟩
      rw [List.length_map] at hw
      simp (maxSteps := 1000000) only [tVar, tRet, List.getElem?_cons_zero, List.getElem?_cons_succ, Option.some.injEq, exists_eq_left']
      exact q _ ys ws _ e2 hp (by omega) ht (fun b o e => k2 _ _ (s1 _ _ e) (by simp only [List.mem_singleton]; intro z; rw [z, n1] at e; cases e))
end
end K73
namespace K73
open PySem L2
abbrev s_law : Stmt := top 31
theorem sc_law : FnScope ["_law_script", "_law_fair", "_law_told", "_law_made_here", "_law_last", "_law_wishes_here", "_law_hands", "_law_lag", "_law_miss", "_law_each", "_law_count", "_law_places", "_law_window", "_law_wait", "_law_step", "_law_settled", "_law_keys_here", "_law_cross_here", "_law_handed", "_law_things_here", "_law_late", "_law_found", "_law_each_thing", "_law_due"] ["_law_script"] (defScope s_law) := ⟨rfl, rfl, rfl, by decide +kernel, rfl, by decide +kernel, by decide +kernel⟩
def sp_law (K : PySem.W.Frag) : Sp := fun vs H Q _ => ∃ (a : Addr) (ns : List Int), vs = [.ref a] ∧ SqL K H a (ns.map V.int) ∧ ns.length ≤ 63 ∧ ∀ H', Q (.bl true) H'
/-- what is drawn and reckoned ahead -/
structure Lw (C : Addr) (H : Hp) (m : Ms) (fair : Int) (pt x dx pw : Addr) (ys : List V) (ws : List Wi) : Prop where
  b : inB m.l
  f0 : 1 ≤ fair
  f1 : fair ≤ 60
  t : H pt = some (.lst (m.l.map V.int))
  x : H x = some (.ins C dx (fsM m))
  w : H pw = some (.lst ys)
  p : Paired (RW H) ys ws
  l : ws.length ≤ 40
  k : ∀ q ∈ ws, TxOk q.k
theorem cnt_le {k : Wk} (h : k.Ok) : cnt k ≤ 5 := by
  cases k with
  | put g z =>
    have := h.2
    change rup (z.length : Int) 8 ≤ 5
    unfold rup
    omega
  | beg g => change (1 : Int) ≤ 5; omega
  | fin g => change (1 : Int) ≤ 5; omega
  | ask z => change (0 : Int) ≤ 5; omega
  | oth w z => change (0 : Int) ≤ 5; omega
theorem tot_le {h g : Int} : ∀ {ws : List Wi}, (∀ q ∈ ws, q.k.Ok) → tot ws h g ≤ 5 * (ws.length : Int)
  | [], _ => Int.le_refl _
  | q :: r, ho => by
    have ih := tot_le (h := h) (g := g) (ws := r) fun z hz => ho z (.tail _ hz)
    have hc := cnt_le (ho q (.head _))
    have hc0 := cnt_nonneg (ho q (.head _))
    unfold tot at ih ⊢
    rw [List.filter_cons, List.length_cons]
    split
    · rw [List.map_cons, List.sum_cons]
      omega
    · omega
theorem most_le {ws : List Wi} {n : Int} (h : IsMost ws n) (ho : ∀ q ∈ ws, q.k.Ok) (hl : ws.length ≤ 40) : 0 ≤ n ∧ n ≤ 200 := by
  rcases h with ⟨_, rfl⟩ | ⟨⟨q, _, _, rfl⟩, _⟩
  · omega
  · have h1 := tot_nonneg (h := q.h) (g := goal q.k) ho
    have h2 := tot_le (h := q.h) (g := goal q.k) ho
    omega
theorem rw_ok {H : Hp} : ∀ {ys : List V} {ws : List Wi}, Paired (RW H) ys ws → ∀ q ∈ ws, q.k.Ok
  | _, _, .nil, _, z => nomatch z
  | _, _, .cons ⟨_, _, _, _, _, ok⟩ t, q, hq => by
    rcases List.mem_cons.mp hq with rfl | hq
    · exact ok
    · exact rw_ok t q hq
/-! ### wishes as data -/
def dX : Wk → PyData
  | .beg g => .int g
  | .fin g => .int g
  | .put g z => .tuple [.int g, .str z]
  | .ask z => .str z
  | .oth _ z => .str z
def dW (q : Wi) : PyData := .tuple [.int q.t, .int q.h, .str q.k.w, dX q.k]
theorem w_ok {k : Wk} (h : k.Ok) : PyData.strOk k.w = true := by
  cases k with
  | oth w z => rcases h with rfl | rfl <;> exact strOk_of _
  | _ => exact strOk_of _
theorem rw_im {H : Hp} {v : V} {q : Wi} (h : RW H v q) (ht : TxOk q.k) : Im H v (dW q) := by
  obtain ⟨p, x, rfl, e, hx, hok⟩ := h
  refine .tup e (.cons (.int _) (.cons (.int _) (.cons (.str (w_ok hok)) (.cons ?_ .nil)))) (by simp)
  obtain ⟨t, h, k⟩ := q
  cases k with
  | beg g => obtain rfl : x = .int g := hx; exact .int _
  | fin g => obtain rfl : x = .int g := hx; exact .int _
  | put g z =>
    obtain ⟨r, rfl, er⟩ := hx
    exact .tup er (.cons (.int _) (.cons (.str ht) .nil)) (by simp)
  | ask z => obtain rfl : x = .str z := hx; exact .str ht
  | oth w z => obtain rfl : x = .str z := hx; exact .str ht
theorem rw_ims {H : Hp} : ∀ {ys : List V} {ws : List Wi}, Paired (RW H) ys ws → (∀ q ∈ ws, TxOk q.k) → Ims H ys (ws.map dW)
  | _, _, .nil, _ => .nil
  | _, _, .cons h t, hl => .cons (rw_im h (hl _ (.head _))) (rw_ims t fun k hk => hl k (.tail _ hk))
theorem dW_dep {q : Wi} : (dW q).depth ≤ 3 := by
  obtain ⟨t, h, k⟩ := q
  cases k <;> simp [dW, dX, PyData.depth, PyData.depthAll]
theorem dWs_dep {ws : List Wi} : (PyData.list (ws.map dW)).depth ≤ 60 := by
  have := depthAll_le (n := 3) (ds := ws.map dW) fun d hd => by
    obtain ⟨q, _, rfl⟩ := List.mem_map.mp hd
    exact dW_dep
  rw [PyData.depth]
  omega
theorem dn_none {m : Ms} {fair last keys n : Int} (h : m.miss < m.lag + fair ∨ m.each < (m.hands + 1) * (m.lag + fair) ∨ m.count < m.hands ∨ m.wait < crs m fair keys ∨ m.places < m.window + 2) : dn m fair last keys n = none := by
  unfold dn
  rw [if_pos]
  rw [Int.add_comm m.lag fair] at h
  rcases h with h | h | h | h | h
  · exact .inl (by unfold wh; rw [if_pos (.inl h)])
  · exact .inl (by unfold wh; rw [if_pos (.inr h)])
  · refine .inl ?_
    unfold wh
    split
    · rfl
    · exact decide_eq_false (by omega)
  · exact .inr (.inl h)
  · exact .inr (.inr h)
theorem dn_some {m : Ms} {fair last keys n : Int} (h1 : ¬ m.miss < m.lag + fair) (h2 : ¬ m.each < (m.hands + 1) * (m.lag + fair)) (h3 : ¬ m.count < m.hands) (h4 : ¬ m.wait < crs m fair keys) (h5 : ¬ m.places < m.window + 2) : dn m fair last keys n = some (stl m fair last + 2 * crs m fair keys + n * (m.window + m.wait + 4 * crs m fair keys + 4)) := by
  unfold dn
  rw [Int.add_comm m.lag fair] at h1 h2
  rw [if_neg]
  rintro (h | h | h)
  · unfold wh at h
    rw [if_neg (by rintro (z | z); exact h1 z; exact h2 z)] at h
    have := of_decide_eq_false h
    omega
  · exact h4 h
  · exact h5 h
theorem crs_max {m : Ms} {fair k : Int} : (m.hands - 1) * (rup (m.places * (if k > 1 then k else 1)) m.room + 1) * 2 * (fair + m.lag) = crs m fair k := by
  unfold crs mx1
  by_cases c : k > 1
  · rw [if_pos c, if_neg (by omega)]
  · rw [if_neg c]
    by_cases c' : 1 > k
    · rw [if_pos c']
    · rw [if_neg c', show k = 1 by omega]
abbrev lσ (sc : Addr) (m : Ms) (fair last k c : Int) (pt pw : Addr) (v3 v18 v19 v20 v21 v22 v23 : Option V) : St := [some (.ref sc), some (.int fair), some (.ref pt), v3, some (.int last), some (.ref pw), some (.int m.hands), some (.int m.lag), some (.int m.miss), some (.int m.each), some (.int m.count), some (.int m.places), some (.int m.window), some (.int m.wait), some (.int (m.lag + fair)), some (.int (stl m fair last)), some (.int k), some (.int c), v18, v19, v20, v21, v22, v23]
theorem useJ2 {t1 t2 R u : TS} {c : TT} {D : Ends} {σ : St} {H : Hp} (Pm : St → Hp → Prop) (key : ∀ σ' H', Pm σ' H' → R D σ' H') (go : ∀ R' : TS, (∀ σ' H', Pm σ' H' → R' D σ' H') → tIfS c (tSeq t1 (tSeq t2 R')) u D σ H) : tIfS c (tSeq t1 (tSeq t2 R)) u D σ H := go R key
abbrev l4 (sc : Addr) (fair : Int) (v2 v3 v4 v5 v6 v7 v8 v9 v10 v11 v12 v13 : Option V) : St := [some (.ref sc), some (.int fair), v2, v3, v4, v5, v6, v7, v8, v9, v10, v11, v12, v13, none, none, none, none, none, none, none, none, none, none]
def due1 (m : Ms) (fair : Int) (d : Int) : V := if m.miss < m.lag + fair ∨ m.each < (m.hands + 1) * (m.lag + fair) then .non else .int d
def due2 (m : Ms) (late c : Int) (d : V) : V := if m.count < m.hands ∨ late < c ∨ m.places < m.window + 2 then .non else d
theorem due_eq {m : Ms} {fair last late keys n : Int} : due2 m late (crs m fair keys) (due1 m fair (stl m fair last + 2 * crs m fair keys + n * (m.window + late + 4 * crs m fair keys + 4))) = optV (dn { m with wait := late } fair last keys n) := by
  unfold due2 due1
  by_cases c2 : m.count < m.hands ∨ late < crs m fair keys ∨ m.places < m.window + 2
  · rw [if_pos c2, dn_none (m := { m with wait := late }) (.inr (.inr c2))]
    rfl
  · rw [if_neg c2]
    by_cases c1 : m.miss < m.lag + fair ∨ m.each < (m.hands + 1) * (m.lag + fair)
    · rw [if_pos c1, dn_none (m := { m with wait := late }) (by rcases c1 with z | z; exact .inl z; exact .inr (.inl z))]
      rfl
    · rw [if_neg c1, dn_some (m := { m with wait := late }) (fun z => c1 (.inl z)) (fun z => c1 (.inr z)) (fun z => c2 (.inl z)) (fun z => c2 (.inr (.inl z))) (fun z => c2 (.inr (.inr z)))]
      rfl
section
variable {P : Program} {w : World} {K : PySem.W.Frag} {mg : Str → Option Value} {base : Heap} {C : Addr}
set_option maxHeartbeats 8000000 in
theorem law_fn {f : Addr} {fd : FuncData} (F : Fun K "law" "law" s_law f fd) (hb : Blt mg) (F__law_mixed : Own P w K mg base 1 "_law_mixed" ["_law_cell", "_law_k"] sp_mixed) (F__law_cell_at : Own P w K mg base 1 "_law_cell_at" ["_law_script", "_law_k"] (sp_cell K))
    (F__law_numbers : Own P w K mg base 2 "_law_numbers" ["_law_cell", "_law_fair"] sp_nums) (F__law_made : Own P w K mg base 6 "_law_made" ["_law_told"] (sp_made C)) (F__law_wishes : Own P w K mg base 2 "_law_wishes" ["_law_cells", "_law_hands"] sp_lwish)
    (F__law_cross : Own P w K mg base 2 "_law_cross" ["_law_told", "_law_fair", "_law_keys_here"] sp_cross) (F_settled_turn : Own P w K mg base 2 "settled_turn" ["measures", "fair", "last"] (sp_stl C)) (F_crossing_turns : Own P w K mg base 2 "crossing_turns" ["measures", "fair", "keys"] (sp_crs C))
    (F__law_things : Own P w K mg base 2 "_law_things" ["_law_wishes_here"] sp_most) (F_keys_of : Own P w K mg base 1 "keys_of" ["wishes"] sp_keys) (F__law_keys : Own P w K mg base 1 "_law_keys" ["_law_wishes_here"] sp_keys) (F_things_most : Own P w K mg base 2 "things_most" ["wishes"] sp_most)
    (F_done_turn : Own P w K mg base 3 "done_turn" ["measures", "fair", "last", "wishes"] (sp_done C)) (F__law_whole : Own P w K mg base 1 "_law_whole" ["_law_found"] sp_lwhole) : FnOk P w K mg base CX0 7 f fd ["_law_script"] (sp_law K) := by
  refine F.ok sc_law (fun vs H Q E h => ?_) (fun cdv A outer s H vs Q E hr h => ?_)
  · obtain ⟨a, ns, rfl, _⟩ := h
    rfl
  · obtain ⟨sc, ns, rfl, hSc, h63, q⟩ := h
    have hu := hr.units
    have hu1 : (A.deeper (PyProof.Rows.envOfC "law" (defScope s_law) s.heap.objs.size f cdv)).units + 1 < cLine := by omega
    refine ⟨_, (@pss_cons _ _ _ _ _ (@ps_set _ _ 1 _ _ _ _ sc_law.nd rfl (by first | exact Or.inl rfl | exact Or.inr rfl) (@pe_op _ _ _ _ _ _ _ _ op_add (@pe_int _ _ _ _) (@pe_op _ _ _ _ _ _ _ _ op_mod (@pe_fn _ _ _ _ _ _ _ _ _ _ _ F__law_mixed hr (@pa_cX _ _ _ _ _ (@pe_fn _ _ _ _ _ _ _ _ _ _ _ F__law_cell_at hr (@pa_cX _ _ _ _ _ (@pv _ 0 _ _ (by rfl) (by first | exact Or.inl rfl | exact Or.inr (Or.inl rfl) | exact Or.inr (Or.inr rfl)) (by decide) (by decide)) (@pa_cX _ _ _ _ _ (@pe_int _ _ _ _) (@pa_nil _) (by rfl)) (by rfl)) (by decide) (by rfl) (by decide) (by rfl) (by rfl)) (@pa_cX _ _ _ _ _ (@pe_int _ _ _ _) (@pa_nil _) (by rfl)) (by rfl)) (by decide) (by rfl) (by decide) (by rfl) (by rfl)) (@pe_ix _ _ _ _ _ _ _ (ix_get hu1) (@pe_lst _ _ _ _ (@pa_cX _ _ _ _ _ (@pe_int _ _ _ _) (@pa_cX _ _ _ _ _ (@pe_int _ _ _ _) (@pa_nil _) (by rfl)) (by rfl))) (@pe_op _ _ _ _ _ _ _ _ op_mod (@pe_fn _ _ _ _ _ _ _ _ _ _ _ F__law_mixed hr (@pa_cX _ _ _ _ _ (@pe_fn _ _ _ _ _ _ _ _ _ _ _ F__law_cell_at hr (@pa_cX _ _ _ _ _ (@pv _ 0 _ _ (by rfl) (by first | exact Or.inl rfl | exact Or.inr (Or.inl rfl) | exact Or.inr (Or.inr rfl)) (by decide) (by decide)) (@pa_cX _ _ _ _ _ (@pe_int _ _ _ _) (@pa_nil _) (by rfl)) (by rfl)) (by decide) (by rfl) (by decide) (by rfl) (by rfl)) (@pa_cX _ _ _ _ _ (@pe_int _ _ _ _) (@pa_nil _) (by rfl)) (by rfl)) (by decide) (by rfl) (by decide) (by rfl) (by rfl)) (@pe_int _ _ _ _)) (fun _ _ => rfl)))) (by rfl) (by first | exact .inl rfl | exact .inr rfl | assumption)) (@pss_cons _ _ _ _ _ (@ps_set _ _ 2 _ _ _ _ sc_law.nd rfl (by first | exact Or.inl rfl | exact Or.inr rfl) (@pe_fn _ _ _ _ _ _ _ _ _ _ _ F__law_numbers hr (@pa_cX _ _ _ _ _ (@pe_fn _ _ _ _ _ _ _ _ _ _ _ F__law_cell_at hr (@pa_cX _ _ _ _ _ (@pv _ 0 _ _ (by rfl) (by first | exact Or.inl rfl | exact Or.inr (Or.inl rfl) | exact Or.inr (Or.inr rfl)) (by decide) (by decide)) (@pa_cX _ _ _ _ _ (@pe_int _ _ _ _) (@pa_nil _) (by rfl)) (by rfl)) (by decide) (by rfl) (by decide) (by rfl) (by rfl)) (@pa_cX _ _ _ _ _ (@pv _ 1 _ _ (by rfl) (by first | exact Or.inl rfl | exact Or.inr (Or.inl rfl) | exact Or.inr (Or.inr rfl)) (by decide) (by decide)) (@pa_nil _) (by rfl)) (by rfl)) (by decide) (by rfl) (by decide) (by rfl) (by rfl)) (by rfl) (by first | exact .inl rfl | exact .inr rfl | assumption)) (@pss_cons _ _ _ _ _ (@ps_set _ _ 3 _ _ _ _ sc_law.nd rfl (by first | exact Or.inl rfl | exact Or.inr rfl) (@pe_fn _ _ _ _ _ _ _ _ _ _ _ F__law_made hr (@pa_cX _ _ _ _ _ (@pv _ 2 _ _ (by rfl) (by first | exact Or.inl rfl | exact Or.inr (Or.inl rfl) | exact Or.inr (Or.inr rfl)) (by decide) (by decide)) (@pa_nil _) (by rfl)) (by decide) (by rfl) (by decide) (by rfl) (by rfl)) (by rfl) (by first | exact .inl rfl | exact .inr rfl | assumption)) (@pss_cons _ _ _ _ _ (@ps_set _ _ 4 _ _ _ _ sc_law.nd rfl (by first | exact Or.inl rfl | exact Or.inr rfl) (@pe_op _ _ _ _ _ _ _ _ op_sub (@pe_op _ _ _ _ _ _ _ _ op_mod (@pe_fn _ _ _ _ _ _ _ _ _ _ _ F__law_mixed hr (@pa_cX _ _ _ _ _ (@pe_fn _ _ _ _ _ _ _ _ _ _ _ F__law_cell_at hr (@pa_cX _ _ _ _ _ (@pv _ 0 _ _ (by rfl) (by first | exact Or.inl rfl | exact Or.inr (Or.inl rfl) | exact Or.inr (Or.inr rfl)) (by decide) (by decide)) (@pa_cX _ _ _ _ _ (@pe_int _ _ _ _) (@pa_nil _) (by rfl)) (by rfl)) (by decide) (by rfl) (by decide) (by rfl) (by rfl)) (@pa_cX _ _ _ _ _ (@pe_int _ _ _ _) (@pa_nil _) (by rfl)) (by rfl)) (by decide) (by rfl) (by decide) (by rfl) (by rfl)) (@pe_int _ _ _ _)) (@pe_int _ _ _ _)) (by rfl) (by first | exact .inl rfl | exact .inr rfl | assumption)) (@pss_cons _ _ _ _ _ (@ps_set _ _ 5 _ _ _ _ sc_law.nd rfl (by first | exact Or.inl rfl | exact Or.inr rfl) (@pe_fn _ _ _ _ _ _ _ _ _ _ _ F__law_wishes hr (@pa_cX _ _ _ _ _ (@pe_slice _ _ _ _ _ _ _ _ _ _ (sl_listK K) (@pv _ 0 _ _ (by rfl) (by first | exact Or.inl rfl | exact Or.inr (Or.inl rfl) | exact Or.inr (Or.inr rfl)) (by decide) (by decide)) (@po_some _ _ _ (@pe_int _ _ _ _)) (@po_some _ _ _ (@pe_int _ _ _ _))) (@pa_cX _ _ _ _ _ (@pe_ix _ _ _ _ _ _ _ (ix_get hu1) (@pv _ 2 _ _ (by rfl) (by first | exact Or.inl rfl | exact Or.inr (Or.inl rfl) | exact Or.inr (Or.inr rfl)) (by decide) (by decide)) (@pe_int _ _ _ _) (fun _ _ => rfl)) (@pa_nil _) (by rfl)) (by rfl)) (by decide) (by rfl) (by decide) (by rfl) (by rfl)) (by rfl) (by first | exact .inl rfl | exact .inr rfl | assumption)) (@pss_cons _ _ _ _ _ (@ps_asg _ _ _ _ _ _ (@pe_slice _ _ _ _ _ _ _ _ _ _ sl_X (@pv _ 2 _ _ (by rfl) (by first | exact Or.inl rfl | exact Or.inr (Or.inl rfl) | exact Or.inr (Or.inr rfl)) (by decide) (by decide)) (@po_none _) (@po_some _ _ _ (@pe_int _ _ _ _))) (@pg_seqX _ _ _ _ 5 _ rfl (@pgs_cons _ _ _ _ _ (@pg_name _ _ 6 _ sc_law.nd rfl (by first | exact Or.inl rfl | exact Or.inr rfl) (by first | exact .inl rfl | exact .inr rfl | assumption)) (@pgs_cons _ _ _ _ _ (@pg_name _ _ 7 _ sc_law.nd rfl (by first | exact Or.inl rfl | exact Or.inr rfl) (by first | exact .inl rfl | exact .inr rfl | assumption)) (@pgs_cons _ _ _ _ _ (@pg_name _ _ 8 _ sc_law.nd rfl (by first | exact Or.inl rfl | exact Or.inr rfl) (by first | exact .inl rfl | exact .inr rfl | assumption)) (@pgs_cons _ _ _ _ _ (@pg_name _ _ 9 _ sc_law.nd rfl (by first | exact Or.inl rfl | exact Or.inr rfl) (by first | exact .inl rfl | exact .inr rfl | assumption)) (@pgs_cons _ _ _ _ _ (@pg_name _ _ 10 _ sc_law.nd rfl (by first | exact Or.inl rfl | exact Or.inr rfl) (by first | exact .inl rfl | exact .inr rfl | assumption)) (@pgs_nil _) (by rfl)) (by rfl)) (by rfl)) (by rfl)) (by rfl)) (by rfl) (by rfl)) (by rfl) (by rfl) (by rfl)) (@pss_cons _ _ _ _ _ (@ps_asg _ _ _ _ _ _ (@pe_slice _ _ _ _ _ _ _ _ _ _ sl_X (@pv _ 2 _ _ (by rfl) (by first | exact Or.inl rfl | exact Or.inr (Or.inl rfl) | exact Or.inr (Or.inr rfl)) (by decide) (by decide)) (@po_some _ _ _ (@pe_int _ _ _ _)) (@po_some _ _ _ (@pe_int _ _ _ _))) (@pg_seqX _ _ _ _ 3 _ rfl (@pgs_cons _ _ _ _ _ (@pg_name _ _ 11 _ sc_law.nd rfl (by first | exact Or.inl rfl | exact Or.inr rfl) (by first | exact .inl rfl | exact .inr rfl | assumption)) (@pgs_cons _ _ _ _ _ (@pg_name _ _ 12 _ sc_law.nd rfl (by first | exact Or.inl rfl | exact Or.inr rfl) (by first | exact .inl rfl | exact .inr rfl | assumption)) (@pgs_cons _ _ _ _ _ (@pg_name _ _ 13 _ sc_law.nd rfl (by first | exact Or.inl rfl | exact Or.inr rfl) (by first | exact .inl rfl | exact .inr rfl | assumption)) (@pgs_nil _) (by rfl)) (by rfl)) (by rfl)) (by rfl) (by rfl)) (by rfl) (by rfl) (by rfl)) (@pss_cons _ _ _ _ _ (@ps_set _ _ 14 _ _ _ _ sc_law.nd rfl (by first | exact Or.inl rfl | exact Or.inr rfl) (@pe_op _ _ _ _ _ _ _ _ op_add (@pv _ 7 _ _ (by rfl) (by first | exact Or.inl rfl | exact Or.inr (Or.inl rfl) | exact Or.inr (Or.inr rfl)) (by decide) (by decide)) (@pv _ 1 _ _ (by rfl) (by first | exact Or.inl rfl | exact Or.inr (Or.inl rfl) | exact Or.inr (Or.inr rfl)) (by decide) (by decide))) (by rfl) (by first | exact .inl rfl | exact .inr rfl | assumption)) (@pss_cons _ _ _ _ _ (@ps_set _ _ 15 _ _ _ _ sc_law.nd rfl (by first | exact Or.inl rfl | exact Or.inr rfl) (@pe_op _ _ _ _ _ _ _ _ op_add (@pe_op _ _ _ _ _ _ _ _ op_add (@pe_op _ _ _ _ _ _ _ _ op_add (@pe_op _ _ _ _ _ _ _ _ op_add (@pe_op _ _ _ _ _ _ _ _ op_add (@pv _ 4 _ _ (by rfl) (by first | exact Or.inl rfl | exact Or.inr (Or.inl rfl) | exact Or.inr (Or.inr rfl)) (by decide) (by decide)) (@pv _ 7 _ _ (by rfl) (by first | exact Or.inl rfl | exact Or.inr (Or.inl rfl) | exact Or.inr (Or.inr rfl)) (by decide) (by decide))) (@pv _ 8 _ _ (by rfl) (by first | exact Or.inl rfl | exact Or.inr (Or.inl rfl) | exact Or.inr (Or.inr rfl)) (by decide) (by decide))) (@pv _ 1 _ _ (by rfl) (by first | exact Or.inl rfl | exact Or.inr (Or.inl rfl) | exact Or.inr (Or.inr rfl)) (by decide) (by decide))) (@pe_op _ _ _ _ _ _ _ _ op_mul (@pe_int _ _ _ _) (@pv _ 9 _ _ (by rfl) (by first | exact Or.inl rfl | exact Or.inr (Or.inl rfl) | exact Or.inr (Or.inr rfl)) (by decide) (by decide)))) (@pe_op _ _ _ _ _ _ _ _ op_mul (@pe_op _ _ _ _ _ _ _ _ op_add (@pe_op _ _ _ _ _ _ _ _ op_mul (@pe_int _ _ _ _) (@pv _ 6 _ _ (by rfl) (by first | exact Or.inl rfl | exact Or.inr (Or.inl rfl) | exact Or.inr (Or.inr rfl)) (by decide) (by decide))) (@pe_int _ _ _ _)) (@pv _ 14 _ _ (by rfl) (by first | exact Or.inl rfl | exact Or.inr (Or.inl rfl) | exact Or.inr (Or.inr rfl)) (by decide) (by decide)))) (by rfl) (by first | exact .inl rfl | exact .inr rfl | assumption)) (@pss_cons _ _ _ _ _ (@ps_set _ _ 16 _ _ _ _ sc_law.nd rfl (by first | exact Or.inl rfl | exact Or.inr rfl) (@pe_op _ _ _ _ _ _ _ _ op_mod (@pe_fn _ _ _ _ _ _ _ _ _ _ _ F__law_mixed hr (@pa_cX _ _ _ _ _ (@pe_fn _ _ _ _ _ _ _ _ _ _ _ F__law_cell_at hr (@pa_cX _ _ _ _ _ (@pv _ 0 _ _ (by rfl) (by first | exact Or.inl rfl | exact Or.inr (Or.inl rfl) | exact Or.inr (Or.inr rfl)) (by decide) (by decide)) (@pa_cX _ _ _ _ _ (@pe_int _ _ _ _) (@pa_nil _) (by rfl)) (by rfl)) (by decide) (by rfl) (by decide) (by rfl) (by rfl)) (@pa_cX _ _ _ _ _ (@pe_int _ _ _ _) (@pa_nil _) (by rfl)) (by rfl)) (by decide) (by rfl) (by decide) (by rfl) (by rfl)) (@pe_int _ _ _ _)) (by rfl) (by first | exact .inl rfl | exact .inr rfl | assumption)) (@pss_cons _ _ _ _ _ (@ps_set _ _ 17 _ _ _ _ sc_law.nd rfl (by first | exact Or.inl rfl | exact Or.inr rfl) (@pe_fn _ _ _ _ _ _ _ _ _ _ _ F__law_cross hr (@pa_cX _ _ _ _ _ (@pv _ 2 _ _ (by rfl) (by first | exact Or.inl rfl | exact Or.inr (Or.inl rfl) | exact Or.inr (Or.inr rfl)) (by decide) (by decide)) (@pa_cX _ _ _ _ _ (@pv _ 1 _ _ (by rfl) (by first | exact Or.inl rfl | exact Or.inr (Or.inl rfl) | exact Or.inr (Or.inr rfl)) (by decide) (by decide)) (@pa_cX _ _ _ _ _ (@pe_callB _ _ _ _ _ _ _ _ _ (call_max2 rfl) rfl (hb _ (by decide)) bt_max (@pa_cX _ _ _ _ _ (@pe_int _ _ _ _) (@pa_cX _ _ _ _ _ (@pv _ 16 _ _ (by rfl) (by first | exact Or.inl rfl | exact Or.inr (Or.inl rfl) | exact Or.inr (Or.inr rfl)) (by decide) (by decide)) (@pa_nil _) (by rfl)) (by rfl)) (by decide) (by decide) (by rfl) (by rfl)) (@pa_nil _) (by rfl)) (by rfl)) (by rfl)) (by decide) (by rfl) (by decide) (by rfl) (by rfl)) (by rfl) (by first | exact .inl rfl | exact .inr rfl | assumption)) (@pss_cons _ _ _ _ _ (@ps_if _ _ _ _ _ _ _ _ (@pt_cmpR _ _ _ _ _ _ _ _ op_ne (@pe_fn _ _ _ _ _ _ _ _ _ _ _ F_settled_turn hr (@pa_cX _ _ _ _ _ (@pv _ 3 _ _ (by rfl) (by first | exact Or.inl rfl | exact Or.inr (Or.inl rfl) | exact Or.inr (Or.inr rfl)) (by decide) (by decide)) (@pa_cX _ _ _ _ _ (@pv _ 1 _ _ (by rfl) (by first | exact Or.inl rfl | exact Or.inr (Or.inl rfl) | exact Or.inr (Or.inr rfl)) (by decide) (by decide)) (@pa_cX _ _ _ _ _ (@pv _ 4 _ _ (by rfl) (by first | exact Or.inl rfl | exact Or.inr (Or.inl rfl) | exact Or.inr (Or.inr rfl)) (by decide) (by decide)) (@pa_nil _) (by rfl)) (by rfl)) (by rfl)) (by decide) (by rfl) (by decide) (by rfl) (by rfl)) (@pv _ 15 _ _ (by rfl) (by first | exact Or.inl rfl | exact Or.inr (Or.inl rfl) | exact Or.inr (Or.inr rfl)) (by decide) (by decide)) (nomark _)) (@pss_one _ _ _ (@ps_ret _ _ _ _ (@pe_bl _ _ _ _))) (@pss_nil _)) (@pss_cons _ _ _ _ _ (@ps_if _ _ _ _ _ _ _ _ (@pt_cmpR _ _ _ _ _ _ _ _ op_ne (@pe_fn _ _ _ _ _ _ _ _ _ _ _ F_crossing_turns hr (@pa_cX _ _ _ _ _ (@pv _ 3 _ _ (by rfl) (by first | exact Or.inl rfl | exact Or.inr (Or.inl rfl) | exact Or.inr (Or.inr rfl)) (by decide) (by decide)) (@pa_cX _ _ _ _ _ (@pv _ 1 _ _ (by rfl) (by first | exact Or.inl rfl | exact Or.inr (Or.inl rfl) | exact Or.inr (Or.inr rfl)) (by decide) (by decide)) (@pa_cX _ _ _ _ _ (@pv _ 16 _ _ (by rfl) (by first | exact Or.inl rfl | exact Or.inr (Or.inl rfl) | exact Or.inr (Or.inr rfl)) (by decide) (by decide)) (@pa_nil _) (by rfl)) (by rfl)) (by rfl)) (by decide) (by rfl) (by decide) (by rfl) (by rfl)) (@pv _ 17 _ _ (by rfl) (by first | exact Or.inl rfl | exact Or.inr (Or.inl rfl) | exact Or.inr (Or.inr rfl)) (by decide) (by decide)) (nomark _)) (@pss_one _ _ _ (@ps_ret _ _ _ _ (@pe_bl _ _ _ _))) (@pss_nil _)) (@pss_cons _ _ _ _ _ (@ps_set _ _ 18 _ _ _ _ sc_law.nd rfl (by first | exact Or.inl rfl | exact Or.inr rfl) (@pe_callTy _ _ _ _ _ _ _ _ _ call_listX rfl (hb _ (by decide)) bt_list (@pa_cX _ _ _ _ _ (@pv _ 5 _ _ (by rfl) (by first | exact Or.inl rfl | exact Or.inr (Or.inl rfl) | exact Or.inr (Or.inr rfl)) (by decide) (by decide)) (@pa_nil _) (by rfl)) (by decide) (by decide) (by rfl) (by rfl)) (by rfl) (by first | exact .inl rfl | exact .inr rfl | assumption)) (@pss_cons _ _ _ _ _ (@ps_set _ _ 19 _ _ _ _ sc_law.nd rfl (by first | exact Or.inl rfl | exact Or.inr rfl) (@pe_fn _ _ _ _ _ _ _ _ _ _ _ F__law_things hr (@pa_cX _ _ _ _ _ (@pv _ 5 _ _ (by rfl) (by first | exact Or.inl rfl | exact Or.inr (Or.inl rfl) | exact Or.inr (Or.inr rfl)) (by decide) (by decide)) (@pa_nil _) (by rfl)) (by decide) (by rfl) (by decide) (by rfl) (by rfl)) (by rfl) (by first | exact .inl rfl | exact .inr rfl | assumption)) (@pss_cons _ _ _ _ _ (@ps_if _ _ _ _ _ _ _ _ (@PW.pt _ _ _ (@pw_or _ _ _ _ _ _ _ (@pt_cmpR _ _ _ _ _ _ _ _ op_ne (@pe_fn _ _ _ _ _ _ _ _ _ _ _ F_keys_of hr (@pa_cX _ _ _ _ _ (@pv _ 18 _ _ (by rfl) (by first | exact Or.inl rfl | exact Or.inr (Or.inl rfl) | exact Or.inr (Or.inr rfl)) (by decide) (by decide)) (@pa_nil _) (by rfl)) (by decide) (by rfl) (by decide) (by rfl) (by rfl)) (@pe_fn _ _ _ _ _ _ _ _ _ _ _ F__law_keys hr (@pa_cX _ _ _ _ _ (@pv _ 5 _ _ (by rfl) (by first | exact Or.inl rfl | exact Or.inr (Or.inl rfl) | exact Or.inr (Or.inr rfl)) (by decide) (by decide)) (@pa_nil _) (by rfl)) (by decide) (by rfl) (by decide) (by rfl) (by rfl)) (nomark _)) (@pw_or1 _ _ _ _ (@pt_cmpR _ _ _ _ _ _ _ _ op_ne (@pe_fn _ _ _ _ _ _ _ _ _ _ _ F_things_most hr (@pa_cX _ _ _ _ _ (@pv _ 18 _ _ (by rfl) (by first | exact Or.inl rfl | exact Or.inr (Or.inl rfl) | exact Or.inr (Or.inr rfl)) (by decide) (by decide)) (@pa_nil _) (by rfl)) (by decide) (by rfl) (by decide) (by rfl) (by rfl)) (@pv _ 19 _ _ (by rfl) (by first | exact Or.inl rfl | exact Or.inr (Or.inl rfl) | exact Or.inr (Or.inr rfl)) (by decide) (by decide)) (nomark _))))) (@pss_one _ _ _ (@ps_ret _ _ _ _ (@pe_bl _ _ _ _))) (@pss_nil _)) (@pss_cons _ _ _ _ _ (@ps_set _ _ 17 _ _ _ _ sc_law.nd rfl (by first | exact Or.inl rfl | exact Or.inr rfl) (@pe_fn _ _ _ _ _ _ _ _ _ _ _ F__law_cross hr (@pa_cX _ _ _ _ _ (@pv _ 2 _ _ (by rfl) (by first | exact Or.inl rfl | exact Or.inr (Or.inl rfl) | exact Or.inr (Or.inr rfl)) (by decide) (by decide)) (@pa_cX _ _ _ _ _ (@pv _ 1 _ _ (by rfl) (by first | exact Or.inl rfl | exact Or.inr (Or.inl rfl) | exact Or.inr (Or.inr rfl)) (by decide) (by decide)) (@pa_cX _ _ _ _ _ (@pe_callB _ _ _ _ _ _ _ _ _ (call_max2 rfl) rfl (hb _ (by decide)) bt_max (@pa_cX _ _ _ _ _ (@pe_int _ _ _ _) (@pa_cX _ _ _ _ _ (@pe_fn _ _ _ _ _ _ _ _ _ _ _ F__law_keys hr (@pa_cX _ _ _ _ _ (@pv _ 5 _ _ (by rfl) (by first | exact Or.inl rfl | exact Or.inr (Or.inl rfl) | exact Or.inr (Or.inr rfl)) (by decide) (by decide)) (@pa_nil _) (by rfl)) (by decide) (by rfl) (by decide) (by rfl) (by rfl)) (@pa_nil _) (by rfl)) (by rfl)) (by decide) (by decide) (by rfl) (by rfl)) (@pa_nil _) (by rfl)) (by rfl)) (by rfl)) (by decide) (by rfl) (by decide) (by rfl) (by rfl)) (by rfl) (by first | exact .inl rfl | exact .inr rfl | assumption)) (@pss_cons _ _ _ _ _ (@ps_for _ _ _ _ _ _ _ _ PassesOwn.never rfl (@pi_tupK _ K _ _ _ (@pe_tup _ _ _ _ _ (@pa_cX _ _ _ _ _ (@pv _ 13 _ _ (by rfl) (by first | exact Or.inl rfl | exact Or.inr (Or.inl rfl) | exact Or.inr (Or.inr rfl)) (by decide) (by decide)) (@pa_cX _ _ _ _ _ (@pv _ 17 _ _ (by rfl) (by first | exact Or.inl rfl | exact Or.inr (Or.inl rfl) | exact Or.inr (Or.inr rfl)) (by decide) (by decide)) (@pa_cX _ _ _ _ _ (@pe_op _ _ _ _ _ _ _ _ op_sub (@pv _ 17 _ _ (by rfl) (by first | exact Or.inl rfl | exact Or.inr (Or.inl rfl) | exact Or.inr (Or.inr rfl)) (by decide) (by decide)) (@pe_int _ _ _ _)) (@pa_nil _) (by rfl)) (by rfl)) (by rfl))) (by rfl)) (@pg_name _ _ 20 _ sc_law.nd rfl (by first | exact Or.inl rfl | exact Or.inr rfl) (by first | exact .inl rfl | exact .inr rfl | assumption)) (@pss_one _ _ _ (@ps_if _ _ _ _ _ _ _ _ (@pt_chain _ _ _ _ _ _ _ _ _ _ _ _ op_le op_le (@pe_int _ _ _ _) (@pv _ 20 _ _ (by rfl) (by first | exact Or.inl rfl | exact Or.inr (Or.inl rfl) | exact Or.inr (Or.inr rfl)) (by decide) (by decide)) (@pe_int _ _ _ _) (by with_unfolding_all rfl)) (@pss_cons _ _ _ _ _ (@ps_set _ _ 3 _ _ _ _ sc_law.nd rfl (by first | exact Or.inl rfl | exact Or.inr rfl) (@pe_fn _ _ _ _ _ _ _ _ _ _ _ F__law_made hr (@pa_cX _ _ _ _ _ (@pe_op _ _ _ _ _ _ _ _ op_cat (@pe_op _ _ _ _ _ _ _ _ op_cat (@pe_slice _ _ _ _ _ _ _ _ _ _ sl_X (@pv _ 2 _ _ (by rfl) (by first | exact Or.inl rfl | exact Or.inr (Or.inl rfl) | exact Or.inr (Or.inr rfl)) (by decide) (by decide)) (@po_none _) (@po_some _ _ _ (@pe_int _ _ _ _))) (@pe_lst _ _ _ _ (@pa_cX _ _ _ _ _ (@pv _ 20 _ _ (by rfl) (by first | exact Or.inl rfl | exact Or.inr (Or.inl rfl) | exact Or.inr (Or.inr rfl)) (by decide) (by decide)) (@pa_nil _) (by rfl)))) (@pe_slice _ _ _ _ _ _ _ _ _ _ sl_X (@pv _ 2 _ _ (by rfl) (by first | exact Or.inl rfl | exact Or.inr (Or.inl rfl) | exact Or.inr (Or.inr rfl)) (by decide) (by decide)) (@po_some _ _ _ (@pe_int _ _ _ _)) (@po_none _))) (@pa_nil _) (by rfl)) (by decide) (by rfl) (by decide) (by rfl) (by rfl)) (by rfl) (by first | exact .inl rfl | exact .inr rfl | assumption)) (@pss_cons _ _ _ _ _ (@ps_set _ _ 21 _ _ _ _ sc_law.nd rfl (by first | exact Or.inl rfl | exact Or.inr rfl) (@pe_fn _ _ _ _ _ _ _ _ _ _ _ F_done_turn hr (@pa_cX _ _ _ _ _ (@pv _ 3 _ _ (by rfl) (by first | exact Or.inl rfl | exact Or.inr (Or.inl rfl) | exact Or.inr (Or.inr rfl)) (by decide) (by decide)) (@pa_cX _ _ _ _ _ (@pv _ 1 _ _ (by rfl) (by first | exact Or.inl rfl | exact Or.inr (Or.inl rfl) | exact Or.inr (Or.inr rfl)) (by decide) (by decide)) (@pa_cX _ _ _ _ _ (@pv _ 4 _ _ (by rfl) (by first | exact Or.inl rfl | exact Or.inr (Or.inl rfl) | exact Or.inr (Or.inr rfl)) (by decide) (by decide)) (@pa_cX _ _ _ _ _ (@pv _ 18 _ _ (by rfl) (by first | exact Or.inl rfl | exact Or.inr (Or.inl rfl) | exact Or.inr (Or.inr rfl)) (by decide) (by decide)) (@pa_nil _) (by rfl)) (by rfl)) (by rfl)) (by rfl)) (by decide) (by rfl) (by decide) (by rfl) (by rfl)) (by rfl) (by first | exact .inl rfl | exact .inr rfl | assumption)) (@pss_cons _ _ _ _ _ (@ps_set _ _ 22 _ _ _ _ sc_law.nd rfl (by first | exact Or.inl rfl | exact Or.inr rfl) (@pe_op _ _ _ _ _ _ _ _ op_add (@pe_op _ _ _ _ _ _ _ _ op_add (@pe_op _ _ _ _ _ _ _ _ op_add (@pv _ 12 _ _ (by rfl) (by first | exact Or.inl rfl | exact Or.inr (Or.inl rfl) | exact Or.inr (Or.inr rfl)) (by decide) (by decide)) (@pv _ 20 _ _ (by rfl) (by first | exact Or.inl rfl | exact Or.inr (Or.inl rfl) | exact Or.inr (Or.inr rfl)) (by decide) (by decide))) (@pe_op _ _ _ _ _ _ _ _ op_mul (@pe_int _ _ _ _) (@pv _ 17 _ _ (by rfl) (by first | exact Or.inl rfl | exact Or.inr (Or.inl rfl) | exact Or.inr (Or.inr rfl)) (by decide) (by decide)))) (@pe_int _ _ _ _)) (by rfl) (by first | exact .inl rfl | exact .inr rfl | assumption)) (@pss_cons _ _ _ _ _ (@ps_set _ _ 23 _ _ _ _ sc_law.nd rfl (by first | exact Or.inl rfl | exact Or.inr rfl) (@pe_op _ _ _ _ _ _ _ _ op_add (@pe_op _ _ _ _ _ _ _ _ op_add (@pv _ 15 _ _ (by rfl) (by first | exact Or.inl rfl | exact Or.inr (Or.inl rfl) | exact Or.inr (Or.inr rfl)) (by decide) (by decide)) (@pe_op _ _ _ _ _ _ _ _ op_mul (@pe_int _ _ _ _) (@pv _ 17 _ _ (by rfl) (by first | exact Or.inl rfl | exact Or.inr (Or.inl rfl) | exact Or.inr (Or.inr rfl)) (by decide) (by decide)))) (@pe_op _ _ _ _ _ _ _ _ op_mul (@pv _ 19 _ _ (by rfl) (by first | exact Or.inl rfl | exact Or.inr (Or.inl rfl) | exact Or.inr (Or.inr rfl)) (by decide) (by decide)) (@pv _ 22 _ _ (by rfl) (by first | exact Or.inl rfl | exact Or.inr (Or.inl rfl) | exact Or.inr (Or.inr rfl)) (by decide) (by decide)))) (by rfl) (by first | exact .inl rfl | exact .inr rfl | assumption)) (@pss_cons _ _ _ _ _ (@ps_if _ _ _ _ _ _ _ _ (@PW.pt _ _ _ (@pw_or _ _ _ _ _ _ _ (@pt_cmpR _ _ _ _ _ _ _ _ op_lt (@pv _ 8 _ _ (by rfl) (by first | exact Or.inl rfl | exact Or.inr (Or.inl rfl) | exact Or.inr (Or.inr rfl)) (by decide) (by decide)) (@pv _ 14 _ _ (by rfl) (by first | exact Or.inl rfl | exact Or.inr (Or.inl rfl) | exact Or.inr (Or.inr rfl)) (by decide) (by decide)) (nomark _)) (@pw_or1 _ _ _ _ (@pt_cmpR _ _ _ _ _ _ _ _ op_lt (@pv _ 9 _ _ (by rfl) (by first | exact Or.inl rfl | exact Or.inr (Or.inl rfl) | exact Or.inr (Or.inr rfl)) (by decide) (by decide)) (@pe_op _ _ _ _ _ _ _ _ op_mul (@pe_op _ _ _ _ _ _ _ _ op_add (@pv _ 6 _ _ (by rfl) (by first | exact Or.inl rfl | exact Or.inr (Or.inl rfl) | exact Or.inr (Or.inr rfl)) (by decide) (by decide)) (@pe_int _ _ _ _)) (@pv _ 14 _ _ (by rfl) (by first | exact Or.inl rfl | exact Or.inr (Or.inl rfl) | exact Or.inr (Or.inr rfl)) (by decide) (by decide))) (nomark _))))) (@pss_one _ _ _ (@ps_set _ _ 23 _ _ _ _ sc_law.nd rfl (by first | exact Or.inl rfl | exact Or.inr rfl) (@pe_non _ _ _) (by rfl) (by first | exact .inl rfl | exact .inr rfl | assumption))) (@pss_nil _)) (@pss_cons _ _ _ _ _ (@ps_if _ _ _ _ _ _ _ _ (@PW.pt _ _ _ (@pw_or _ _ _ _ _ _ _ (@pt_cmpR _ _ _ _ _ _ _ _ op_lt (@pv _ 10 _ _ (by rfl) (by first | exact Or.inl rfl | exact Or.inr (Or.inl rfl) | exact Or.inr (Or.inr rfl)) (by decide) (by decide)) (@pv _ 6 _ _ (by rfl) (by first | exact Or.inl rfl | exact Or.inr (Or.inl rfl) | exact Or.inr (Or.inr rfl)) (by decide) (by decide)) (nomark _)) (@pw_or _ _ _ _ _ _ _ (@pt_cmpR _ _ _ _ _ _ _ _ op_lt (@pv _ 20 _ _ (by rfl) (by first | exact Or.inl rfl | exact Or.inr (Or.inl rfl) | exact Or.inr (Or.inr rfl)) (by decide) (by decide)) (@pv _ 17 _ _ (by rfl) (by first | exact Or.inl rfl | exact Or.inr (Or.inl rfl) | exact Or.inr (Or.inr rfl)) (by decide) (by decide)) (nomark _)) (@pw_or1 _ _ _ _ (@pt_cmpR _ _ _ _ _ _ _ _ op_lt (@pv _ 11 _ _ (by rfl) (by first | exact Or.inl rfl | exact Or.inr (Or.inl rfl) | exact Or.inr (Or.inr rfl)) (by decide) (by decide)) (@pe_op _ _ _ _ _ _ _ _ op_add (@pv _ 12 _ _ (by rfl) (by first | exact Or.inl rfl | exact Or.inr (Or.inl rfl) | exact Or.inr (Or.inr rfl)) (by decide) (by decide)) (@pe_int _ _ _ _)) (nomark _)))))) (@pss_one _ _ _ (@ps_set _ _ 23 _ _ _ _ sc_law.nd rfl (by first | exact Or.inl rfl | exact Or.inr rfl) (@pe_non _ _ _) (by rfl) (by first | exact .inl rfl | exact .inr rfl | assumption))) (@pss_nil _)) (@pss_one _ _ _ (@ps_if _ _ _ _ _ _ _ _ (@PW.pt _ _ _ (@pw_or _ _ _ _ _ _ _ (@pt_cmpR _ _ _ _ _ _ _ _ op_ne (@pv _ 21 _ _ (by rfl) (by first | exact Or.inl rfl | exact Or.inr (Or.inl rfl) | exact Or.inr (Or.inr rfl)) (by decide) (by decide)) (@pv _ 23 _ _ (by rfl) (by first | exact Or.inl rfl | exact Or.inr (Or.inl rfl) | exact Or.inr (Or.inr rfl)) (by decide) (by decide)) (nomark _)) (@pw_or1 _ _ _ _ (@PW.pt _ _ _ (@pw_and _ _ _ _ _ _ _ (@pt_cmpR _ _ _ _ _ _ _ _ op_notN (@pv _ 23 _ _ (by rfl) (by first | exact Or.inl rfl | exact Or.inr (Or.inl rfl) | exact Or.inr (Or.inr rfl)) (by decide) (by decide)) (@pe_non _ _ _) (nomark _)) (@pw_and1 _ _ _ _ (@pt_not _ _ _ _ (@pt_truX _ _ _ (@pe_fn _ _ _ _ _ _ _ _ _ _ _ F__law_whole hr (@pa_cX _ _ _ _ _ (@pv _ 21 _ _ (by rfl) (by first | exact Or.inl rfl | exact Or.inr (Or.inl rfl) | exact Or.inr (Or.inr rfl)) (by decide) (by decide)) (@pa_nil _) (by rfl)) (by decide) (by rfl) (by decide) (by rfl) (by rfl)) (by intro _; rfl))))))))) (@pss_one _ _ _ (@ps_ret _ _ _ _ (@pe_bl _ _ _ _))) (@pss_nil _))))))))) (@pss_nil _))) (by intro _; rfl)) (@pss_one _ _ _ (@ps_ret _ _ _ _ (@pe_cmpR _ _ _ _ _ _ _ _ (op_eqX hu) (@pv _ 18 _ _ (by rfl) (by first | exact Or.inl rfl | exact Or.inr (Or.inl rfl) | exact Or.inr (Or.inr rfl)) (by decide) (by decide)) (@pv _ 5 _ _ (by rfl) (by first | exact Or.inl rfl | exact Or.inr (Or.inl rfl) | exact Or.inr (Or.inr rfl)) (by decide) (by decide)) (nomark _)))))))))))))))))))))), ?_⟩
    refine use1 (fun σ H' => ∃ fair : Int, σ = l4 sc fair none none none none none none none none none none none none ∧ 1 ≤ fair ∧ fair ≤ 60 ∧ Same H H') ?_ (fun X hX => ?_)
    rotate_left
    · simp (maxSteps := 1000000) only [rGet, getO_l, Nat.reduceSub, upd_same, Int.reduceLT, Int.reduceLE, Nat.reduceAdd, List.cons.injEq, tSeq, exists_and_left, tOp, tVar, tC, rI, rI0, tAsg, gName, tCall, tCons, tNil, tLst, L2.start, List.map_cons, List.map_nil, List.length_cons, List.length_nil, List.replicate, List.cons_append, List.nil_append, List.getElem?_cons_zero, List.set_cons_zero, List.set_cons_succ, Option.some.injEq, exists_eq_left', V.int.injEq, V.ref.injEq, and_true, true_and, and_assoc, List.append_nil, sp_cell, sp_mixed]
      refine ⟨ns, hSc, fun _ r r0 r1 => ⟨by rw [sizeLine_eq]; decide, ?_⟩⟩
      intro p1 n1
      generalize z1 : upd H p1 _ = H1
      obtain ⟨s1, e1⟩ := new_same z1 n1
      have hS1 : SqL K H1 sc (ns.map V.int) := SqL.keepX (S := []) s1.keep (fun b z => nomatch z) hSc
      refine ⟨ns, hS1, fun _ r2 r20 r21 => ?_⟩
      obtain ⟨v, ev, hv⟩ := at2 (x := V.int 60) (y := V.int 4) (n := r2)
      obtain ⟨z, rfl, z0, z1⟩ : ∃ z : Int, v = .int z ∧ 0 < z ∧ z ≤ 60 := by
        rcases hv with rfl | rfl
        · exact ⟨_, rfl, by decide, by decide⟩
        · exact ⟨_, rfl, by decide, by decide⟩
      have hm := mod2 (n := r) z0
      exact ⟨_, ev, z, rfl, z0, hX _ _ ⟨_, rfl, by omega, by omega, s1⟩⟩
    rintro σ H1 ⟨fair, rfl, f0, f1, s1⟩
    have hS1 : SqL K H1 sc (ns.map V.int) := SqL.keepX (S := []) s1.keep (fun b z => nomatch z) hSc
    refine use2 (fun σ H' => ∃ (m : Ms) (pt x dx : Addr), σ = l4 sc fair (some (.ref pt)) (some (.ref x)) none none none none none none none none none none ∧ inB m.l ∧ H' pt = some (.lst (m.l.map V.int)) ∧ H' x = some (.ins C dx (fsM m)) ∧ Same H1 H') ?_ (fun X hX => ?_)
    rotate_left
    · simp (maxSteps := 1000000) only [Int.reduceLE, List.cons.injEq, tSeq, exists_and_left, tVar, tC, tAsg, gName, tCall, tCons, tNil, List.getElem?_cons_zero, List.getElem?_cons_succ, List.set_cons_zero, List.set_cons_succ, Option.some.injEq, exists_eq_left', V.int.injEq, V.ref.injEq, and_true, true_and, and_assoc, List.append_nil, sp_cell]
      exact ⟨ns, hS1, fun c0 => ⟨c0, fair, rfl, f0, f1, fun pt m H3 npt ept hB s3 => ⟨pt, m, rfl, ept, hB, fun x dx H4 ex s4 => hX _ _ ⟨m, pt, x, dx, rfl, hB, s4 _ _ ept, ex, s3.trans s4⟩⟩⟩⟩
    rintro σ H4 ⟨m, pt, x, dx, rfl, hB, ept, ex, s14⟩
    have B := Bd.of hB
    have hS4 : SqL K H4 sc (ns.map V.int) := SqL.keepX (S := []) s14.keep (fun b z => nomatch z) hS1
    refine use2 (fun σ H' => ∃ (last : Int) (pw : Addr) (ys : List V) (ws : List Wi), σ = l4 sc fair (some (.ref pt)) (some (.ref x)) (some (.int last)) (some (.ref pw)) none none none none none none none none ∧ H' pw = some (.lst ys) ∧ Paired (RW H') ys ws ∧ ws.length ≤ 40 ∧ (∀ q ∈ ws, TxOk q.k) ∧ Same H4 H') ?_ (fun X hX => ?_)
    rotate_left
    · simp (maxSteps := 1000000) only [rGet, Int.reduceLT, Int.reduceLE, tSl, rSlL, tPart, List.cons.injEq, tSeq, exists_and_left, tOp, tVar, tC, rI, rI0, tAsg, gName, tCall, tCons, tNil, List.getElem?_cons_zero, List.getElem?_cons_succ, List.set_cons_zero, List.set_cons_succ, Option.some.injEq, exists_eq_left', V.int.injEq, V.ref.injEq, and_true, true_and, and_assoc, List.append_nil, sp_cell, sp_mixed]
      refine ⟨ns, hS4, fun _ r3 r30 r31 => ⟨_, hS4, ?_⟩⟩
      intro p5 n5
      generalize z5 : upd H4 p5 _ = H5
      obtain ⟨s5, e5⟩ := new_same z5 n5
      obtain ⟨es, hes⟩ := cutV_map ns (some 3) (some 43)
      have hel : es.length ≤ 40 := by
        have : (cutV (ns.map V.int) (some 3) (some 43)).length ≤ 40 := by
          unfold cutV
          rw [List.length_take, show (3 : Int) = ((3 : Nat) : Int) from rfl, show (43 : Int) = ((43 : Nat) : Int) from rfl, HT.sIx_nat, HT.sIx_nat]
          omega
        rw [hes, List.length_map] at this
        exact this
      rw [hes] at e5
      exact ⟨_, s5 _ _ ept, _, rfl, _, es, m.hands, rfl, e5, hel, B.h.1, B.h.2, fun pw ys ws H6 ew hp hl ht s6 => hX _ _ ⟨_, pw, ys, ws, rfl, ew, hp, hl, ht, s5.trans s6⟩⟩
    rintro σ H6 ⟨last, pw, ys, ws, rfl, ew, hp, hl, ht, s46⟩
    have ept6 : H6 pt = some (.lst [V.int m.hands, V.int m.lag, V.int m.miss, V.int m.each, V.int m.count, V.int m.room, V.int m.places, V.int m.window, V.int m.wait, V.int m.keep]) := s46 _ _ ept
    have h1 := B.h
    have h2 := B.l
    refine use1 (fun σ H' => σ = l4 sc fair (some (.ref pt)) (some (.ref x)) (some (.int last)) (some (.ref pw)) (some (.int m.hands)) (some (.int m.lag)) (some (.int m.miss)) (some (.int m.each)) (some (.int m.count)) none none none ∧ Same H6 H') ?_ (fun X hX => ?_)
    rotate_left
    · simp (maxSteps := 1000000) only [gSeqX, rSlX, seqO_l, gCons, gNil, upd_same, HO.lst.injEq, tSl, tNoPart, tPart, tSeq, exists_and_left, tVar, tC, tAsg, gName, List.getElem?_cons_zero, List.getElem?_cons_succ, List.set_cons_zero, List.set_cons_succ, Option.some.injEq, exists_eq_left', V.int.injEq, V.ref.injEq, ept6]
      intro p7 n7
      generalize z7 : upd H6 p7 _ = H7
      obtain ⟨s7, e7⟩ := new_same z7 n7
      exact ⟨rfl, V.int m.hands, [V.int m.lag, V.int m.miss, V.int m.each, V.int m.count], rfl, V.int m.lag, [V.int m.miss, V.int m.each, V.int m.count], rfl, V.int m.miss, [V.int m.each, V.int m.count], rfl, V.int m.each, [V.int m.count], rfl, V.int m.count, [], rfl, rfl, hX _ _ ⟨rfl, s7⟩⟩
    rintro σ H7 ⟨rfl, s7⟩
    have ept7 := s7 _ _ ept6
    refine use1 (fun σ H' => σ = l4 sc fair (some (.ref pt)) (some (.ref x)) (some (.int last)) (some (.ref pw)) (some (.int m.hands)) (some (.int m.lag)) (some (.int m.miss)) (some (.int m.each)) (some (.int m.count)) (some (.int m.places)) (some (.int m.window)) (some (.int m.wait)) ∧ Same H7 H') ?_ (fun X hX => ?_)
    rotate_left
    · simp (maxSteps := 1000000) only [gSeqX, rSlX, seqO_l, gCons, gNil, upd_same, HO.lst.injEq, tSl, tPart, tSeq, exists_and_left, tVar, tC, tAsg, gName, List.getElem?_cons_zero, List.getElem?_cons_succ, List.set_cons_zero, List.set_cons_succ, Option.some.injEq, exists_eq_left', V.int.injEq, V.ref.injEq, ept7]
      intro p8 n8
      generalize z8 : upd H7 p8 _ = H8
      obtain ⟨s8, e8⟩ := new_same z8 n8
      exact ⟨rfl, V.int m.places, [V.int m.window, V.int m.wait], rfl, V.int m.window, [V.int m.wait], rfl, V.int m.wait, [], rfl, rfl, hX _ _ ⟨rfl, s8⟩⟩
    rintro σ H8 ⟨rfl, s8⟩
    have s48 := s46.trans (s7.trans s8)
    have hS8 : SqL K H8 sc (ns.map V.int) := SqL.keepX (S := []) s48.keep (fun b z => nomatch z) hS4
    refine use2 (fun σ H' => σ = [some (.ref sc), some (.int fair), some (.ref pt), some (.ref x), some (.int last), some (.ref pw), some (.int m.hands), some (.int m.lag), some (.int m.miss), some (.int m.each), some (.int m.count), some (.int m.places), some (.int m.window), some (.int m.wait), some (.int (m.lag + fair)), some (.int (stl m fair last)), none, none, none, none, none, none, none, none] ∧ H' = H8) ?_ (fun X hX => ?_)
    rotate_left
    · simp (maxSteps := 1000000) only [tSeq, exists_and_left, tOp, tVar, tC, rI, rI0, tAsg, gName, List.getElem?_cons_zero, List.getElem?_cons_succ, List.set_cons_zero, List.set_cons_succ, Option.some.injEq, exists_eq_left', V.int.injEq]
      have e1 : last + m.lag + m.miss + fair + 2 * m.each + (2 * m.hands + 2) * (m.lag + fair) = stl m fair last := by
        unfold stl
        rw [Int.add_comm m.lag fair]
      exact ⟨.inl ⟨by decide, by decide⟩, .inl ⟨by decide, by decide⟩, .inl ⟨by omega, by omega⟩, hX _ _ ⟨by rw [e1], rfl⟩⟩
    rintro σ H8 ⟨rfl, rfl⟩
    generalize hst : stl m fair last = st
    refine use2 (fun σ H' => ∃ k : Int, σ = lσ sc m fair last k (crs m fair k) pt pw (some (.ref x)) none none none none none none ∧ Lw C H' m fair pt x dx pw ys ws) ?_ (fun X hX => ?_)
    rotate_left
    · simp (maxSteps := 1000000) only [Int.reduceLT, Int.reduceLE, List.cons.injEq, tSeq, exists_and_left, tOp, tVar, tC, rI, tAsg, gName, tCall, tCons, tNil, tCB, List.getElem?_cons_zero, List.getElem?_cons_succ, List.set_cons_zero, List.set_cons_succ, Option.some.injEq, exists_eq_left', V.int.injEq, V.ref.injEq, and_true, true_and, and_assoc, List.append_nil, sp_cell, sp_mixed]
      refine ⟨ns, hS8, fun _ r4 r40 r41 => ⟨pt, m, fair, _, rfl, s8 _ _ ept7, B, by omega, by omega, ?_⟩⟩
      refine hX _ _ ⟨r4 % 30, ?_, hB, f0, f1, s8 _ _ ept7, s48 _ _ ex, (s7.trans s8) _ _ ew, paired_imp (fun _ _ h => h.same (s7.trans s8)) hp, hl, ht⟩
      rw [← hst, crs_max]
    clear hS1 hS4 hS8 hp ht hl ew ept ept6 ept7 s1 s14 s46 s7 s8 s48 ex hSc
    rintro σ H1 ⟨k, rfl, L⟩
    refine use2 (fun σ H' => σ = lσ sc m fair last k (crs m fair k) pt pw (some (.ref x)) none none none none none none ∧ H' = H1) ?_ (fun X hX => ?_)
    rotate_left
    · simp (maxSteps := 1000000) only [tSeq, tIfS, tTest, tOp, tVar, tC, tRet, tNext, tCall, tCons, tNil, List.getElem?_cons_zero, List.getElem?_cons_succ, Option.some.injEq, exists_eq_left', List.append_nil]
      refine ⟨x, dx, m, fair, last, rfl, L.x, B, rfl, _, rfl, ?_⟩
      rw [if_neg (by simp)]
      refine ⟨x, dx, m, fair, k, rfl, L.x, B, by omega, by omega, rfl, _, rfl, ?_⟩
      rw [if_neg (by simp)]
      exact hX _ _ ⟨rfl, rfl⟩
    rintro σ HB ⟨rfl, rfl⟩
    refine use2 (fun σ H' => ∃ (pl : Addr) (n : Int), σ = lσ sc m fair last k (crs m fair k) pt pw (some (.ref x)) (some (.ref pl)) (some (.int n)) none none none none ∧ IsMost ws n ∧ H' pl = some (.lst ys) ∧ Same HB H') ?_ (fun X hX => ?_)
    rotate_left
    · simp (maxSteps := 1000000) only [rListX, List.cons.injEq, tSeq, exists_and_left, tVar, tAsg, gName, tCall, tCons, tNil, tCB, List.getElem?_cons_zero, List.getElem?_cons_succ, List.set_cons_zero, List.set_cons_succ, Option.some.injEq, exists_eq_left', V.ref.injEq, and_true, List.append_nil]
      refine ⟨_, L.w, _, rfl, ?_⟩
      intro p2 n2
      generalize z2 : upd HB p2 _ = H2
      obtain ⟨s2, e2⟩ := new_same z2 n2
      exact ⟨pw, ys, ws, rfl, s2 _ _ L.w, paired_imp (fun _ _ h => h.same s2) L.p, L.l, fun n H3 hn s3 => hX _ _ ⟨p2, n, rfl, hn, s3 _ _ e2, s2.trans s3⟩⟩
    rintro σ H3 ⟨pl, n, rfl, hn, el3, s13'⟩
    have w3 := s13' _ _ L.w
    have p3' : Paired (RW H3) ys ws := paired_imp (fun _ _ h => h.same s13') L.p
    refine use2 (fun σ H' => σ = lσ sc m fair last k (crs m fair (nKeys ws)) pt pw (some (.ref x)) (some (.ref pl)) (some (.int n)) none none none none ∧ Same H3 H') ?_ (fun X hX => ?_)
    rotate_left
    · simp (maxSteps := 1000000) only [List.cons.injEq, tSeq, exists_and_left, if_true, tIfS, tOr, tTest, tOp, tVar, tC, tRet, tAsg, gName, tNext, tCall, tCons, tNil, tCB, List.getElem?_cons_zero, List.getElem?_cons_succ, List.set_cons_zero, List.set_cons_succ, Option.some.injEq, exists_eq_left', V.int.injEq, and_true, and_assoc, List.append_nil]
      refine ⟨pl, ys, ws, rfl, el3, p3', L.l, fun H4 s4 => ⟨pw, ys, ws, rfl, s4 _ _ w3, paired_imp (fun _ _ h => h.same s4) p3', L.l, fun H5 s5 => ⟨rfl, _, rfl, ?_⟩⟩⟩
      rw [if_neg (by simp)]
      have s35 := s4.trans s5
      refine ⟨pl, ys, ws, rfl, s35 _ _ el3, paired_imp (fun _ _ h => h.same s35) p3', L.l, fun n' H6 hn' s6 => ⟨rfl, _, rfl, ?_⟩⟩
      rw [if_neg (by simp [hn'.one hn])]
      have s36 := s35.trans s6
      refine ⟨pw, ys, ws, rfl, s36 _ _ w3, paired_imp (fun _ _ h => h.same s36) p3', L.l, fun H7 s7 => ⟨_, rfl, pt, m, fair, _, rfl, (s36.trans s7) _ _ (s13' _ _ L.t), B, by omega, by omega, ?_⟩⟩
      rw [crs_max]
      exact hX _ _ ⟨rfl, s36.trans s7⟩
    rintro σ H2 ⟨rfl, s32⟩
    have el := s32 _ _ el3
    have s2 := s13'.trans s32
    simp (maxSteps := 1000000) only [tFor_eq, Nat.reduceAdd, tSeq, exists_and_left, tOp, tVar, tC, rI0, tCons, tNil, tTup, List.length_cons, List.length_nil, List.getElem?_cons_zero, List.getElem?_cons_succ, Option.some.injEq, exists_eq_left', V.int.injEq, V.ref.injEq, iTup]
    refine ⟨by rw [sizeLine_eq]; decide, ?_⟩
    intro p9 n9
    generalize z9 : upd H2 p9 _ = H9
    obtain ⟨s9, e9⟩ := new_same z9 n9
    have s19 := s2.trans s9
    refine ⟨⟨_, SqT.of e9⟩, for_tup (xs := [V.int m.wait, V.int (crs m fair (nKeys ws)), V.int (crs m fair (nKeys ws) - 1)]) (fun i σ H' => ∃ v3 v20 v21 v22 v23, σ = lσ sc m fair last k (crs m fair (nKeys ws)) pt pw v3 (some (.ref pl)) (some (.int n)) v20 v21 v22 v23 ∧ Same H9 H') ⟨_, _, _, _, _, rfl, .refl _⟩ ?_ ?_ ?_⟩
    · rintro i σ H' _ ⟨v3, v20, v21, v22, v23, rfl, s'⟩
      exact SqT.of (s' _ _ e9)
    · rintro i v σ H4 hv ⟨v3, v20, v21, v22, v23, rfl, s4⟩
      obtain ⟨late, rfl⟩ : ∃ late : Int, v = .int late := by
        have := List.mem_of_getElem? hv
        simp only [List.mem_cons, List.not_mem_nil, or_false] at this
        rcases this with rfl | rfl | rfl <;> exact ⟨_, rfl⟩
      have s14 := s19.trans s4
      obtain ⟨ml, hml⟩ : ∃ ml, m.l.map V.int = ml := ⟨_, rfl⟩
      have et4 : H4 pt = some (.lst ml) := by rw [← hml]; exact s14 _ _ L.t
      have l8 : (cutV ml none (some 8)).length = 8 := by rw [← hml]; rfl
      have l9 : (cutV ml (some 9) none).length = 1 := by rw [← hml]; rfl
      change tIfS _ _ _ _ (lσ sc m fair last k (crs m fair (nKeys ws)) pt pw v3 (some (.ref pl)) (some (.int n)) (some (.int late)) v21 v22 v23) H4
      refine useJ2 (fun σ H' => ∃ x' : Addr, σ = lσ sc m fair last k (crs m fair (nKeys ws)) pt pw (some (.ref x')) (some (.ref pl)) (some (.int n)) (some (.int late)) (some (optV (dn { m with wait := late } fair last (nKeys ws) n))) v22 v23 ∧ Same H4 H') ?_ (fun X hX => ?_)
      rotate_left
      · simp (maxSteps := 1000000) only [rSlX, upd_same, HO.lst.injEq, Nat.reduceAdd, tSl, tNoPart, tPart, rCat, List.cons.injEq, tSeq, exists_and_left, if_false, Bool.false_eq_true, tIfS, tTest, tOp, tVar, tC, rI0, tAsg, gName, tNext, tCall, tCons, tNil, tLst, tChain, List.length_cons, List.length_nil, List.getElem?_cons_zero, List.getElem?_cons_succ, List.set_cons_zero, List.set_cons_succ, Option.some.injEq, exists_eq_left', V.int.injEq, V.bl.injEq, V.ref.injEq, and_true, true_and, and_assoc, List.append_nil, et4]
        refine ite2 (fun l0 => ite2 (fun l1 => ?_) (fun _ => s4)) (fun _ => s4)
        have l0 := of_decide_eq_true l0
        have l1 := of_decide_eq_true l1
        intro p5 n5
        generalize z5 : upd H4 p5 _ = H5
        obtain ⟨s5, e5⟩ := new_same z5 n5
        refine ⟨by rw [sizeLine_eq]; decide, ?_⟩
        intro p6 n6
        generalize z6 : upd H5 p6 _ = H6
        obtain ⟨s6, e6⟩ := new_same z6 n6
        refine ⟨_, s6 _ _ e5, by rw [l8, sizeLine_eq]; decide, ?_⟩
        intro p7 n7
        generalize z7 : upd H6 p7 _ = H7
        obtain ⟨s7, e7⟩ := new_same z7 n7
        refine ⟨_, (s5.trans (s6.trans s7)) _ _ et4, ?_⟩
        intro p8 n8
        generalize z8 : upd H7 p8 _ = H8
        obtain ⟨s8, e8⟩ := new_same z8 n8
        refine ⟨_, s8 _ _ e7, by rw [List.length_append, l8, l9, sizeLine_eq]; simp, ?_⟩
        intro p10 n10
        generalize z10 : upd H8 p10 _ = H10
        obtain ⟨s10, e10⟩ := new_same z10 n10
        have B' : inB (Ms.l { m with wait := late }) := by
          have h := L.b
          exact inB_of (h.2 0 _ _ rfl rfl) (h.2 1 _ _ rfl rfl) (h.2 2 _ _ rfl rfl) (h.2 3 _ _ rfl rfl) (h.2 4 _ _ rfl rfl) (h.2 5 _ _ rfl rfl) (h.2 6 _ _ rfl rfl) (h.2 7 _ _ rfl rfl) ⟨l0, l1⟩ (h.2 9 _ _ rfl rfl)
        have s4A : Same H4 H10 := (s5.trans (s6.trans s7)).trans (s8.trans s10)
        rw [← hml] at e10
        refine ⟨p10, { m with wait := late }, rfl, e10, B', fun x' dx' H11 ex' s11 => ?_⟩
        have s1A := s14.trans (s4A.trans s11)
        refine ⟨x', dx', { m with wait := late }, fair, last, pl, ys, ws, rfl, ex', Bw.of B', by omega, by omega, ((s9.trans s4).trans (s4A.trans s11)) _ _ el, paired_imp (fun _ _ h => h.same s1A) L.p, L.l, fun n' H12 hn' s12 => ?_⟩
        obtain rfl := hn'.one hn
        exact hX _ _ ⟨x', rfl, (s4A.trans s11).trans s12⟩
      rintro σ H5 ⟨x', rfl, s5⟩
      have hnn := most_le hn (rw_ok L.p) L.l
      refine use2 (fun σ H' => ∃ v22, σ = lσ sc m fair last k (crs m fair (nKeys ws)) pt pw (some (.ref x')) (some (.ref pl)) (some (.int n)) (some (.int late)) (some (optV (dn { m with wait := late } fair last (nKeys ws) n))) v22 (some (.int (stl m fair last + 2 * crs m fair (nKeys ws) + n * (m.window + late + 4 * crs m fair (nKeys ws) + 4)))) ∧ H' = H5) ?_ (fun X hX => ?_)
      rotate_left
      · simp (maxSteps := 1000000) only [tSeq, exists_and_left, tOp, tVar, tC, rI, rI0, tAsg, gName, List.getElem?_cons_zero, List.getElem?_cons_succ, List.set_cons_zero, List.set_cons_succ, Option.some.injEq, exists_eq_left', V.int.injEq]
        exact ⟨.inl ⟨by decide, by decide⟩, .inl ⟨by decide, by decide⟩, .inl ⟨by omega, by omega⟩, hX _ _ ⟨_, rfl, rfl⟩⟩
      rintro σ H5' ⟨v22, rfl, rfl⟩
      generalize hD0 : stl m fair last + 2 * crs m fair (nKeys ws) + n * (m.window + late + 4 * crs m fair (nKeys ws) + 4) = D0
      refine use1 (fun σ H' => σ = lσ sc m fair last k (crs m fair (nKeys ws)) pt pw (some (.ref x')) (some (.ref pl)) (some (.int n)) (some (.int late)) (some (optV (dn { m with wait := late } fair last (nKeys ws) n))) v22 (some (due1 m fair D0)) ∧ H' = H5') ?_ (fun X hX => ?_)
      rotate_left
      · simp (maxSteps := 1000000) only [tSeq, exists_and_left, if_true, tIfS, tOr, tTest, tOp, tVar, tC, rI, rI0, tAsg, gName, tNext, List.getElem?_cons_zero, List.getElem?_cons_succ, List.set_cons_zero, List.set_cons_succ, Option.some.injEq, exists_eq_left', V.int.injEq, V.bl.injEq]
        refine ite2 (fun c => hX _ _ ⟨by unfold due1; rw [if_pos (.inl (of_decide_eq_true c))], rfl⟩) (fun c => ⟨.inl ⟨by omega, by omega⟩, ite2 (fun c' => hX _ _ ⟨by unfold due1; rw [if_pos (.inr (of_decide_eq_true c'))], rfl⟩) (fun c' => hX _ _ ⟨by unfold due1; rw [if_neg (by rintro (z | z); exact c (decide_eq_true z); exact c' (decide_eq_true z))], rfl⟩)⟩)
      rintro σ H5' ⟨rfl, rfl⟩
      generalize hD1 : due1 m fair D0 = D1
      refine use1 (fun σ H' => σ = lσ sc m fair last k (crs m fair (nKeys ws)) pt pw (some (.ref x')) (some (.ref pl)) (some (.int n)) (some (.int late)) (some (optV (dn { m with wait := late } fair last (nKeys ws) n))) v22 (some (due2 m late (crs m fair (nKeys ws)) D1)) ∧ H' = H5') ?_ (fun X hX => ?_)
      rotate_left
      · simp (maxSteps := 1000000) only [tSeq, exists_and_left, if_true, tIfS, tOr, tTest, tOp, tVar, tC, rI0, tAsg, gName, tNext, List.getElem?_cons_zero, List.getElem?_cons_succ, List.set_cons_zero, List.set_cons_succ, Option.some.injEq, exists_eq_left', V.int.injEq, V.bl.injEq]
        refine ite2 (fun c => hX _ _ ⟨by unfold due2; rw [if_pos (.inl (of_decide_eq_true c))], rfl⟩) (fun c => ite2 (fun c' => hX _ _ ⟨by unfold due2; rw [if_pos (.inr (.inl (of_decide_eq_true c')))], rfl⟩) (fun c' => ite2 (fun c2 => hX _ _ ⟨by unfold due2; rw [if_pos (.inr (.inr (of_decide_eq_true c2)))], rfl⟩) (fun c2 => hX _ _ ⟨by unfold due2; rw [if_neg (by rintro (z | z | z); exact c (decide_eq_true z); exact c' (decide_eq_true z); exact c2 (decide_eq_true z))], rfl⟩)))
      rintro σ H5' ⟨rfl, rfl⟩
      rw [← hD1, ← hD0, due_eq]
      have s9E := s4.trans s5
      cases dn { m with wait := late } fair last (nKeys ws) n with
      | none =>
        simp (maxSteps := 1000000) only [tTruX, List.cons.injEq, exists_and_left, if_false, if_true, Bool.false_eq_true, tIfS, tAnd, tOr, tNot, tTest, tOp, tVar, tC, tRet, tNext, tCall, tCons, tNil, List.getElem?_cons_zero, List.getElem?_cons_succ, Option.some.injEq, exists_eq_left', V.bl.injEq, and_true, true_and, and_assoc, List.append_nil]
        refine ⟨rfl, _, rfl, ?_⟩
        rw [if_neg (by simp), if_neg (by simp [optV])]
        exact s9E
      | some d =>
        simp (maxSteps := 1000000) only [tTruX, List.cons.injEq, exists_and_left, if_false, if_true, Bool.false_eq_true, tIfS, tAnd, tOr, tNot, tTest, tOp, tVar, tC, tRet, tNext, tCall, tCons, tNil, List.getElem?_cons_zero, List.getElem?_cons_succ, Option.some.injEq, exists_eq_left', V.bl.injEq, and_true, true_and, and_assoc, List.append_nil]
        refine ⟨rfl, _, rfl, ?_⟩
        rw [if_neg (by simp), if_pos (by simp [optV])]
        exact ⟨d, rfl, true, rfl, s9E⟩
    · rintro σ H4 ⟨v3, v20, v21, v22, v23, rfl, s4⟩
      have s14 := s19.trans s4
      have hi := rw_ims (paired_imp (fun _ _ h => h.same s14) L.p) L.k
      simp (maxSteps := 1000000) only [tOp, tVar, tRet, List.getElem?_cons_zero, List.getElem?_cons_succ, Option.some.injEq, exists_eq_left']
      exact eqX_same (.l ((s9.trans s4) _ _ el) hi) (.l (s14 _ _ L.w) hi) dWs_dep (q _)
end
end K73
namespace K73
open PySem L2
section
variable {P : Program} {w : World} {K : PySem.W.Frag} {mg : Str → Option Value} {C : Addr}
theorem mk_Measures {h : Heap} (X : K.In h) (G : h.Ns mainGlobals mg) {C f0 : Addr} {od0 an0 : Option Addr} {sl0 : Array (Option Value)} {oc0 kV0 dc0 pm0 cd0 ct0 : Value}
    (aC : PySem.W.nsIn K mainGlobals "Measures" = some (some (.ref C))) (pg : PySem.W.plainGet K C Str.empty = true) (hd : PySem.W.hasDictIn K C = true) (po : PySem.W.plainOver K C = true) (sa : PySem.W.findIn K (.ref C) "__setattr__" = some (some (.builtin "object.__setattr__")))
    (n0 : PySem.W.findIn K (.ref C) "hands" = some none) (n1 : PySem.W.findIn K (.ref C) "lag" = some none) (n2 : PySem.W.findIn K (.ref C) "miss" = some none) (n3 : PySem.W.findIn K (.ref C) "raise_each" = some none) (n4 : PySem.W.findIn K (.ref C) "count" = some none) (n5 : PySem.W.findIn K (.ref C) "room" = some none) (n6 : PySem.W.findIn K (.ref C) "places" = some none) (n7 : PySem.W.findIn K (.ref C) "window" = some none) (n8 : PySem.W.findIn K (.ref C) "wait" = some none) (n9 : PySem.W.findIn K (.ref C) "keep" = some none) (mk : PySem.W.makesIn K C = true) (kc : PySem.W.keepIn K (.ref C) = true)
    (a0 : PySem.W.findIn K (.ref C) "__init__" = some (some (.ref f0))) (i0 : PySem.W.isFn K (.ref f0) = true) (l0 : K.lookup f0 = some ⟨oc0, od0, .func (PySem.W.fnOf "__init__" "Measures.__init__" (defArgs s_Measures___init__) (defBody s_Measures___init__) (defScope s_Measures___init__) .none kV0 dc0 pm0 an0 cd0 ct0), sl0⟩) (c0 : PySem.W.codeIn K cd0 "Measures.__init__" = true) (k0 : PySem.W.keepIn K (.ref f0) = true)
    : ∃ C, ClsD K mg "Measures" C at_Measures ∧ DefI K C "Measures.__init__" s_Measures___init__ := by
  refine ⟨C, ⟨PySem.W.mg_of X G aC, ⟨pg, hd, po, sa⟩, fun f hf => ?_⟩, defI_mk a0 i0 l0 c0 k0 mk kc⟩
  simp only [List.mem_cons, List.not_mem_nil, or_false] at hf
  rcases hf with rfl | rfl | rfl | rfl | rfl | rfl | rfl | rfl | rfl | rfl
  · exact n0
  · exact n1
  · exact n2
  · exact n3
  · exact n4
  · exact n5
  · exact n6
  · exact n7
  · exact n8
  · exact n9
theorem tup3 {K : PySem.W.Frag} {b : Addr} {od : Option Addr} {n : Nat} {sl : Array (Option Value)} {x : Str} {i j : Int} {t0 t1 t2 : Tok} (l : K.lookup b = some ⟨.type "tuple", od, .seq #[.str x t0, .int i t1, .int j t2] n, sl⟩) : ∀ H, SqT K H b [.str x, .int i, .int j] :=
  fun H => .inr ⟨_, _, n, l, rfl, rfl, by rw [sizeLine_eq]; change 3 ≤ 16777216; decide, .cons ⟨t0, rfl⟩ (.cons ⟨t1, rfl⟩ (.cons ⟨t2, rfl⟩ .nil))⟩
theorem bdAt_mk {K : PySem.W.Frag} {h : Heap} {mg : Str → Option Value} (X : K.In h) (G : h.Ns mainGlobals mg) {a b0 b1 b2 b3 b4 b5 b6 b7 b8 b9 : Addr} {od : Option Addr} {n : Nat} {sl : Array (Option Value)} (e : PySem.W.nsIn K mainGlobals "BOUNDS" = some (some (.ref a)))
    (l : K.lookup a = some ⟨.type "tuple", od, .seq #[.ref b0, .ref b1, .ref b2, .ref b3, .ref b4, .ref b5, .ref b6, .ref b7, .ref b8, .ref b9] n, sl⟩)
    (t0 : ∀ H, SqT K H b0 [.str (Str.ofString "hands"), .int 2, .int 12]) (t1 : ∀ H, SqT K H b1 [.str (Str.ofString "lag"), .int 1, .int 32]) (t2 : ∀ H, SqT K H b2 [.str (Str.ofString "miss"), .int 1, .int 400]) (t3 : ∀ H, SqT K H b3 [.str (Str.ofString "raise"), .int 1, .int 1000]) (t4 : ∀ H, SqT K H b4 [.str (Str.ofString "count"), .int 0, .int 60])
    (t5 : ∀ H, SqT K H b5 [.str (Str.ofString "room"), .int 1, .int 16]) (t6 : ∀ H, SqT K H b6 [.str (Str.ofString "places"), .int 1, .int 16]) (t7 : ∀ H, SqT K H b7 [.str (Str.ofString "window"), .int 1, .int 60]) (t8 : ∀ H, SqT K H b8 [.str (Str.ofString "wait"), .int 1, .int 10000]) (t9 : ∀ H, SqT K H b9 [.str (Str.ofString "keep"), .int 0, .int 10000]) : ∃ a bs, BdAt K mg a bs := by
  refine ⟨a, [b0, b1, b2, b3, b4, b5, b6, b7, b8, b9], ⟨_, PySem.W.mg_of X G e, rfl⟩, fun H => .inr ⟨_, _, n, l, rfl, rfl, by rw [sizeLine_eq]; change 10 ≤ 16777216; decide, .cons rfl (.cons rfl (.cons rfl (.cons rfl (.cons rfl (.cons rfl (.cons rfl (.cons rfl (.cons rfl (.cons rfl .nil)))))))))⟩, ?_, rfl⟩
  intro i b q h1 h2 H
  match i with
  | 0 => cases h1; cases h2; exact t0 H
  | 1 => cases h1; cases h2; exact t1 H
  | 2 => cases h1; cases h2; exact t2 H
  | 3 => cases h1; cases h2; exact t3 H
  | 4 => cases h1; cases h2; exact t4 H
  | 5 => cases h1; cases h2; exact t5 H
  | 6 => cases h1; cases h2; exact t6 H
  | 7 => cases h1; cases h2; exact t7 H
  | 8 => cases h1; cases h2; exact t8 H
  | 9 => cases h1; cases h2; exact t9 H
  | k + 10 => cases h1
theorem last {fa a : Addr} {bs : List Addr} (D1 : Def K mg "is_whole" s_is_whole) (D2 : Def K mg "is_within" s_is_within) (D3 : Def K mg "refuse_bad_measures" s_refuse_bad_measures) (D4 : DefI K C "Measures.__init__" s_Measures___init__) (D5 : Def K mg "rounded_up" s_rounded_up) (D6 : Def K mg "letter_turns" s_letter_turns) (D7 : Def K mg "settled_turn" s_settled_turn) (D8 : Def K mg "crossing_turns" s_crossing_turns)
    (D9 : Def K mg "ways_hold" s_ways_hold) (DA : Def K mg "keys_of" s_keys_of) (DB : Def K mg "things_most" s_things_most) (DC : Def K mg "done_turn" s_done_turn) (L1 : Def K mg "_law_up" s__law_up) (L2 : Def K mg "_law_cross" s__law_cross) (L3 : Def K mg "_law_whole" s__law_whole) (L4 : Def K mg "_law_made" s__law_made) (L5 : Def K mg "_law_keys" s__law_keys) (L6 : Def K mg "_law_things" s__law_things)
    (L7 : Def K mg "_law_mixed" s__law_mixed) (L8 : Def K mg "_law_cell_at" s__law_cell_at) (L9 : Def K mg "_law_numbers" s__law_numbers) (LA : Def K mg "_law_wishes" s__law_wishes) (DE : Def K mg "law" s_law)
    (T : ClsD K mg "Measures" C at_Measures) (B : BdAt K mg a bs) (g : ∃ u, mg "MOST_SIGNS" = some u ∧ RelV (.int 8) u) (hb : Blt mg) (hzip : mg "zip" = none) (hset : mg "set" = none) (hmg : mg "law" = some (.ref fa)) :
    ∃ fd : FuncData, (∀ (s : Shared) (u : Value), BindsTo s fd ⟨[u], []⟩ [("_law_script", u)]) ∧ ∀ base : Heap, K.In base → base.Ns mainGlobals mg → FnOk P w K mg base CX0 7 fa fd ["_law_script"] (sp_law K) := by
  obtain ⟨f, fd, hm, F⟩ := DE
  have e := hmg.symm.trans hm
  cases e
  refine ⟨fd, ?_, fun base _ _ => ?_⟩
  · obtain ⟨oc, od, kV, doc, pm, an, cdv, ct, osl, rfl, lk, hcd⟩ := F.ex
    exact fun s u => .of_eq rfl
  · have mx := own_mixed (P := P) (w := w) (base := base) L7
    have up := own_up (P := P) (w := w) (base := base) L1
    have rp := own_rup (P := P) (w := w) (base := base) D5
    have lt := own_let (P := P) (w := w) (base := base) D6 T
    have st := own_stl D7 T lt
    have cr := own_crs D8 hb T lt rp
    have ks := own_keys (P := P) (w := w) (base := base) DA hb hset
    have ms := own_most DB hb g rp
    exact law_fn F hb mx (own_cell L8 hb) (own_nums L9 hb mx) (own_made L4 T (own_minit D4 T (own_rbm D3 hb hzip B (own_within D2 (own_whole D1 hb))))) (own_lwish LA hb mx) (own_cross L2 up) st cr (own_lthings L6 hb up) ks (own_lkeys L5 hb) ms (own_done DC T cr ks (own_wh D9 T lt) st ms) (own_lwhole L3 hb)
end
end K73
open PySem PySem.W PyProof.Rows
set_option maxHeartbeats 0 in
theorem PySem.Challenge.cw_roadnet_k73_reckoned_ahead_holds : PySem.Challenge.rw_roadnet_k73_reckoned_ahead.Holds := by
  w_on; o_law; k_head; (case hw => w_witness2)
  k_fill
  refine L2.walk_ofK (l := PySem.Challenge.rw_roadnet_k73_reckoned_ahead) (n := 63) (k := 7) (x := "_law_script") (CX := L2.CX0) (sp := K73.sp_law) rfl (by decide) rfl ⟨rfl, by decide, by decide⟩ (fun w h Y => PySem.W.kIn_of Y) ?F (fun _ _ a ns hl _ hS => ⟨a, ns, rfl, hS, hl, fun _ => rfl⟩) fun _ _ _ _ z => z
  case F =>
    intro w mg fa h KX G hmg
    have D_is_whole : L2.Def (L2.KOf KX) mg "is_whole" K73.s_is_whole := by
      dsimp only [L2.KOf]
      refine' L2.def_mk KX G ?a ?l ?c ?k
      (case a => k_is); (case l => k_is); (case c => k_is); (case k => k_is)
    have D_is_within : L2.Def (L2.KOf KX) mg "is_within" K73.s_is_within := by
      dsimp only [L2.KOf]
      refine' L2.def_mk KX G ?a ?l ?c ?k
      (case a => k_is); (case l => k_is); (case c => k_is); (case k => k_is)
    have D_refuse_bad_measures : L2.Def (L2.KOf KX) mg "refuse_bad_measures" K73.s_refuse_bad_measures := by
      dsimp only [L2.KOf]
      refine' L2.def_mk KX G ?a ?l ?c ?k
      (case a => k_is); (case l => k_is); (case c => k_is); (case k => k_is)
    have D_rounded_up : L2.Def (L2.KOf KX) mg "rounded_up" K73.s_rounded_up := by
      dsimp only [L2.KOf]
      refine' L2.def_mk KX G ?a ?l ?c ?k
      (case a => k_is); (case l => k_is); (case c => k_is); (case k => k_is)
    have D_letter_turns : L2.Def (L2.KOf KX) mg "letter_turns" K73.s_letter_turns := by
      dsimp only [L2.KOf]
      refine' L2.def_mk KX G ?a ?l ?c ?k
      (case a => k_is); (case l => k_is); (case c => k_is); (case k => k_is)
    have D_settled_turn : L2.Def (L2.KOf KX) mg "settled_turn" K73.s_settled_turn := by
      dsimp only [L2.KOf]
      refine' L2.def_mk KX G ?a ?l ?c ?k
      (case a => k_is); (case l => k_is); (case c => k_is); (case k => k_is)
    have D_crossing_turns : L2.Def (L2.KOf KX) mg "crossing_turns" K73.s_crossing_turns := by
      dsimp only [L2.KOf]
      refine' L2.def_mk KX G ?a ?l ?c ?k
      (case a => k_is); (case l => k_is); (case c => k_is); (case k => k_is)
    have D_ways_hold : L2.Def (L2.KOf KX) mg "ways_hold" K73.s_ways_hold := by
      dsimp only [L2.KOf]
      refine' L2.def_mk KX G ?a ?l ?c ?k
      (case a => k_is); (case l => k_is); (case c => k_is); (case k => k_is)
    have D_keys_of : L2.Def (L2.KOf KX) mg "keys_of" K73.s_keys_of := by
      dsimp only [L2.KOf]
      refine' L2.def_mk KX G ?a ?l ?c ?k
      (case a => k_is); (case l => k_is); (case c => k_is); (case k => k_is)
    have D_things_most : L2.Def (L2.KOf KX) mg "things_most" K73.s_things_most := by
      dsimp only [L2.KOf]
      refine' L2.def_mk KX G ?a ?l ?c ?k
      (case a => k_is); (case l => k_is); (case c => k_is); (case k => k_is)
    have D_done_turn : L2.Def (L2.KOf KX) mg "done_turn" K73.s_done_turn := by
      dsimp only [L2.KOf]
      refine' L2.def_mk KX G ?a ?l ?c ?k
      (case a => k_is); (case l => k_is); (case c => k_is); (case k => k_is)
    have D__law_up : L2.Def (L2.KOf KX) mg "_law_up" K73.s__law_up := by
      dsimp only [L2.KOf]
      refine' L2.def_mk KX G ?a ?l ?c ?k
      (case a => k_is); (case l => k_is); (case c => k_is); (case k => k_is)
    have D__law_cross : L2.Def (L2.KOf KX) mg "_law_cross" K73.s__law_cross := by
      dsimp only [L2.KOf]
      refine' L2.def_mk KX G ?a ?l ?c ?k
      (case a => k_is); (case l => k_is); (case c => k_is); (case k => k_is)
    have D__law_whole : L2.Def (L2.KOf KX) mg "_law_whole" K73.s__law_whole := by
      dsimp only [L2.KOf]
      refine' L2.def_mk KX G ?a ?l ?c ?k
      (case a => k_is); (case l => k_is); (case c => k_is); (case k => k_is)
    have D__law_made : L2.Def (L2.KOf KX) mg "_law_made" K73.s__law_made := by
      dsimp only [L2.KOf]
      refine' L2.def_mk KX G ?a ?l ?c ?k
      (case a => k_is); (case l => k_is); (case c => k_is); (case k => k_is)
    have D__law_keys : L2.Def (L2.KOf KX) mg "_law_keys" K73.s__law_keys := by
      dsimp only [L2.KOf]
      refine' L2.def_mk KX G ?a ?l ?c ?k
      (case a => k_is); (case l => k_is); (case c => k_is); (case k => k_is)
    have D__law_things : L2.Def (L2.KOf KX) mg "_law_things" K73.s__law_things := by
      dsimp only [L2.KOf]
      refine' L2.def_mk KX G ?a ?l ?c ?k
      (case a => k_is); (case l => k_is); (case c => k_is); (case k => k_is)
    have D__law_mixed : L2.Def (L2.KOf KX) mg "_law_mixed" K73.s__law_mixed := by
      dsimp only [L2.KOf]
      refine' L2.def_mk KX G ?a ?l ?c ?k
      (case a => k_is); (case l => k_is); (case c => k_is); (case k => k_is)
    have D__law_cell_at : L2.Def (L2.KOf KX) mg "_law_cell_at" K73.s__law_cell_at := by
      dsimp only [L2.KOf]
      refine' L2.def_mk KX G ?a ?l ?c ?k
      (case a => k_is); (case l => k_is); (case c => k_is); (case k => k_is)
    have D__law_numbers : L2.Def (L2.KOf KX) mg "_law_numbers" K73.s__law_numbers := by
      dsimp only [L2.KOf]
      refine' L2.def_mk KX G ?a ?l ?c ?k
      (case a => k_is); (case l => k_is); (case c => k_is); (case k => k_is)
    have D__law_wishes : L2.Def (L2.KOf KX) mg "_law_wishes" K73.s__law_wishes := by
      dsimp only [L2.KOf]
      refine' L2.def_mk KX G ?a ?l ?c ?k
      (case a => k_is); (case l => k_is); (case c => k_is); (case k => k_is)
    have D_law : L2.Def (L2.KOf KX) mg "law" K73.s_law := by
      dsimp only [L2.KOf]
      refine' L2.def_mk KX G ?a ?l ?c ?k
      (case a => k_is); (case l => k_is); (case c => k_is); (case k => k_is)
    have Z_Measures : ∃ C, L2.ClsD (L2.KOf KX) mg "Measures" C K73.at_Measures ∧ L2.DefI (L2.KOf KX) C "Measures.__init__" K73.s_Measures___init__ := by
      dsimp only [L2.KOf]
      refine' K73.mk_Measures KX G ?aC ?pg ?hd ?po ?sa ?n0 ?n1 ?n2 ?n3 ?n4 ?n5 ?n6 ?n7 ?n8 ?n9 ?mk ?kc ?a0 ?i0 ?l0 ?c0 ?k0
      (case aC => k_is)
      (case pg => k_is)
      (case hd => k_is)
      (case po => k_is)
      (case sa => k_is)
      (case n0 => k_is)
      (case n1 => k_is)
      (case n2 => k_is)
      (case n3 => k_is)
      (case n4 => k_is)
      (case n5 => k_is)
      (case n6 => k_is)
      (case n7 => k_is)
      (case n8 => k_is)
      (case n9 => k_is)
      (case mk => k_is)
      (case kc => k_is)
      (case a0 => k_is)
      (case i0 => k_is)
      (case l0 => k_is)
      (case c0 => k_is)
      (case k0 => k_is)
    obtain ⟨C_Measures, T_Measures, DI_Measures⟩ := Z_Measures
    have hb : L2.Blt mg := by
      refine' L2.blt_mk (K := L2.KOf KX) KX G ?b1 ?b2 ?b3 ?b4 ?b5 ?b6 ?b7 ?b8 ?b9 ?b10 ?b11 ?b12 ?b13
      all_goals (dsimp only [L2.KOf]; k_is)
    have hzip : mg "zip" = none := by
      have z : PySem.W.nsIn (L2.KOf KX) mainGlobals "zip" = some none := by
        dsimp only [L2.KOf]
        k_is
      exact PySem.W.mg_none_of KX G z
    have hset : mg "set" = none := by
      have z : PySem.W.nsIn (L2.KOf KX) mainGlobals "set" = some none := by
        dsimp only [L2.KOf]
        k_is
      exact PySem.W.mg_none_of KX G z
    have g : ∃ u, mg "MOST_SIGNS" = some u ∧ L2.RelV (.int 8) u := by
      refine' L2.glb_mk KX G ?a
      (case a => k_is)
    have gB : ∃ a bs, K73.BdAt (L2.KOf KX) mg a bs := by
      dsimp only [L2.KOf]
      refine' K73.bdAt_mk KX G ?e ?l (K73.tup3 ?l0) (K73.tup3 ?l1) (K73.tup3 ?l2) (K73.tup3 ?l3) (K73.tup3 ?l4) (K73.tup3 ?l5) (K73.tup3 ?l6) (K73.tup3 ?l7) (K73.tup3 ?l8) (K73.tup3 ?l9)
      (case e => k_is)
      (case l => k_is)
      (case l0 => k_is)
      (case l1 => k_is)
      (case l2 => k_is)
      (case l3 => k_is)
      (case l4 => k_is)
      (case l5 => k_is)
      (case l6 => k_is)
      (case l7 => k_is)
      (case l8 => k_is)
      (case l9 => k_is)
    obtain ⟨pa, bs, gB⟩ := gB
    exact K73.last D_is_whole D_is_within D_refuse_bad_measures DI_Measures D_rounded_up D_letter_turns D_settled_turn D_crossing_turns D_ways_hold D_keys_of D_things_most D_done_turn D__law_up D__law_cross D__law_whole D__law_made D__law_keys D__law_things D__law_mixed D__law_cell_at D__law_numbers D__law_wishes D_law T_Measures gB g hb hzip hset hmg
#print axioms PySem.Challenge.cw_roadnet_k73_reckoned_ahead_holds
