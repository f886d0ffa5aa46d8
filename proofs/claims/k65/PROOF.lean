import PyProof.Rows.All
import Wide.All
import OpenK.AllK
import Wide.FinOn
import Lean
import PyProof.EqAt
import PyProof.EqKinds
import PyProof.TupleCall
import PyProof.NeData
import PyProof.EqLayable
import PyProof.ConsumeWalk
import PyProof.StrWalks
import PyProof.FString5
import PyProof.CallStr
import KE.KDictList
import KE.KDictSum
import PyProof.Rows.SortWalk
import PyProof.ListRange
import PyProof.EnumFor
import PyProof.EnumMake
import PyProof.EnumStmt
import PyProof.DictWalks
import PyProof.DictItems
import KE.KEqDict
import PyProof.Claim2Refuses
import KE.KDictLaws
import PyProof.WalkInts
import KE.KSortTup
import PyProof.Rows.SortRuns
import PySem.Challenge.RW_roadnet_k65_whole_any_history
set_option Elab.async false
set_option linter.all false
set_option maxRecDepth 100000
/-! THE HAND LAYER, for ints, bools, texts, own classes, LISTS and tuples (index, slices, in, append, pop ..), calls, loops. Paste it whole ahead of your own text; what your proof does not reach may be deleted. -/
namespace L2
open PySem PySem.Spec PyProof.Rows

/-- a key: an int or a str -/
abbrev Key := Sum Int Str
def keyIs : Key → Value → Bool
  | .inl k, v => Value.isInt k v
  | .inr x, v => Value.isStrOf x v
def keyH (w : World) : Key → Int
  | .inl k => hashInt k
  | .inr x => hashStr w x
theorem keyIs_shape : ∀ {k : Key} {v : Value}, keyIs k v = true → (∃ i t, k = Sum.inl i ∧ v = Value.int i t) ∨ (∃ x t, k = Sum.inr x ∧ v = Value.str x t)
  | .inl i, v, h => by
    obtain ⟨t, e⟩ := Value.isInt_shape (k := i) (v := v) h
    exact .inl ⟨i, t, rfl, e⟩
  | .inr x, v, h => by
    obtain ⟨t, e⟩ := Value.isStrOf_shape (x := x) (v := v) h
    exact .inr ⟨x, t, rfl, e⟩
theorem keyIs_int (i : Int) (t : Tok) : keyIs (.inl i) (.int i t) = true := by simp [keyIs, Value.isInt]
theorem keyIs_str (x : Str) (t : Tok) : keyIs (.inr x) (.str x t) = true := by simp [keyIs, Value.isStrOf]
theorem key_ll (a b : Int) : decide ((Sum.inl a : Key) = Sum.inl b) = (a == b) := by
  by_cases e : a = b
  · subst e; simp
  · have h : ¬ (Sum.inl a : Key) = Sum.inl b := fun q => e (Sum.inl.inj q)
    rw [decide_eq_false h]
    exact (beq_eq_false_iff_ne.mpr e).symm
theorem key_rr (a b : Str) : decide ((Sum.inr a : Key) = Sum.inr b) = decide (a = b) := by
  by_cases e : a = b
  · subst e; simp
  · have h : ¬ (Sum.inr a : Key) = Sum.inr b := fun q => e (Sum.inr.inj q)
    rw [decide_eq_false h, decide_eq_false e]
theorem key_lr (a : Int) (b : Str) : decide ((Sum.inl a : Key) = Sum.inr b) = false := decide_eq_false (fun q => nomatch q)
theorem key_rl (a : Str) (b : Int) : decide ((Sum.inr a : Key) = Sum.inl b) = false := decide_eq_false (fun q => nomatch q)

def mixKind (prog : Program) (w : World) : PySem.KeyKind prog w Key where
  is := keyIs
  hash := keyH w
  inj := fun v a b ha hb => by
    rcases keyIs_shape ha with ⟨i, t, rfl, rfl⟩ | ⟨x, t, rfl, rfl⟩
    · rcases keyIs_shape hb with ⟨j, u, rfl, e⟩ | ⟨y, u, rfl, e⟩
      · injection e with e1 _; rw [e1]
      · exact nomatch e
    · rcases keyIs_shape hb with ⟨j, u, rfl, e⟩ | ⟨y, u, rfl, e⟩
      · exact nomatch e
      · injection e with e1 _; rw [e1]
  byValue := fun k v h => by
    rcases keyIs_shape h with ⟨i, t, rfl, rfl⟩ | ⟨x, t, rfl, rfl⟩ <;> rfl
  pyHash := fun hv h => by
    rcases keyIs_shape hv with ⟨i, t, rfl, rfl⟩ | ⟨x, t, rfl, rfl⟩
    · exact wpAny_pyHash_int h
    · exact wpAny_pyHash_str h
  eqBool := fun hu hv h => by
    rcases keyIs_shape hu with ⟨i, t, rfl, rfl⟩ | ⟨x, t, rfl, rfl⟩
    · rcases keyIs_shape hv with ⟨j, u, rfl, rfl⟩ | ⟨y, u, rfl, rfl⟩
      · rw [key_ll] at h; exact wpAny_eqBool_int h
      · rw [key_lr] at h; exact SeqAt.EqAt.int_str i t y u _ _ _ _ h
    · rcases keyIs_shape hv with ⟨j, u, rfl, rfl⟩ | ⟨y, u, rfl, rfl⟩
      · rw [key_rl] at h; exact SeqAt.EqAt.str_int x t j u _ _ _ _ h
      · rw [key_rr] at h; exact wpAny_eqBool_str h
  «strs» := fun k x t v h => by
    rcases keyIs_shape h with ⟨i, u, rfl, e⟩ | ⟨y, u, rfl, e⟩
    · exact nomatch e
    · injection e with e1 _
      subst e1
      cases v <;> rfl

theorem mixKind_int (prog : Program) (w : World) (i : Int) (t : Tok) : (mixKind prog w).is (.inl i) (.int i t) = true := keyIs_int i t
theorem mixKind_str (prog : Program) (w : World) (x : Str) (t : Tok) : (mixKind prog w).is (.inr x) (.str x t) = true := keyIs_str x t
end L2

namespace L2
open PySem PySem.Spec PyProof.Rows

/-- a value, without the heap -/
inductive V where
  | non | bl (b : Bool) | int (i : Int) | str (x : Str) | byt (b : Array UInt8) | flt (b : UInt64) | ref (a : Addr) | ty (n : String)
  deriving DecidableEq

def RelV : V → Value → Prop
  | .non, u => u = Value.none
  | .bl b, u => u = Value.bool b
  | .int i, u => ∃ t, u = Value.int i t
  | .str x, u => ∃ t, u = Value.str x t
  | .byt b, u => ∃ t, u = Value.bytes b t
  | .flt b, u => ∃ t, u = Value.float b t
  | .ref a, u => u = Value.ref a
  | .ty n, u => u = Value.type n

abbrev Vals : List V → List Value → Prop := Paired RelV
theorem Vals.length {xs : List V} {us : List Value} (r : Vals xs us) : xs.length = us.length := Paired.length r
theorem Vals.get : ∀ {xs : List V} {us : List Value} {i : Nat} {x : V}, Vals xs us → xs[i]? = some x → ∃ u, us[i]? = some u ∧ RelV x u
  | _, _, _, _, .nil, e => by simp at e
  | _, _, 0, _, .cons r _, e => by simp at e; subst e; exact ⟨_, rfl, r⟩
  | _, _, i + 1, x, .cons _ t, e => by
    obtain ⟨u, h1, h2⟩ := Vals.get (i := i) (x := x) t (by simpa using e)
    exact ⟨u, by simpa using h1, h2⟩
theorem Vals.set {x : V} {u : Value} (r : RelV x u) : ∀ {xs : List V} {us : List Value} (i : Nat), Vals xs us → Vals (xs.set i x) (us.set i u)
  | _, _, _, .nil => .nil
  | _, _, 0, .cons _ t => .cons r t
  | _, _, i + 1, .cons q t => .cons q (Vals.set r i t)
theorem Vals.append : ∀ {xs ys : List V} {us ws : List Value}, Vals xs us → Vals ys ws → Vals (xs ++ ys) (us ++ ws)
  | _, _, _, _, .nil, s => s
  | _, _, _, _, .cons r t, s => .cons r (Vals.append t s)
theorem Vals.take : ∀ {xs : List V} {us : List Value} (n : Nat), Vals xs us → Vals (xs.take n) (us.take n)
  | _, _, 0, _ => .nil
  | _, _, _ + 1, .nil => .nil
  | _, _, n + 1, .cons r t => .cons r (Vals.take n t)
theorem Vals.drop : ∀ {xs : List V} {us : List Value} (n : Nat), Vals xs us → Vals (xs.drop n) (us.drop n)
  | _, _, 0, r => r
  | _, _, _ + 1, .nil => .nil
  | _, _, n + 1, .cons _ t => Vals.drop n t
def RelO : Option V → Option Value → Prop
  | some v, some u => RelV v u
  | none, none => True
  | _, _ => False
def KV {κ : Type} : List (κ × V) → List (κ × Value) → Prop := Paired fun (p : κ × V) (q : κ × Value) => p.1 = q.1 ∧ RelV p.2 q.2

/-- a key of a dict (00_mix): an int or a text -/
def kV : Key → V
  | .inl i => .int i
  | .inr x => .str x

/-- what stands at a tracked address -/
inductive HO where
  /-- a list -/
  | lst (xs : List V)
  /-- a tuple (never changes) -/
  | tup (xs : List V)
  /-- a dict whose keys are ints and texts; one whose keys are tuples of ints and texts (the empty one is both) -/
  | dK (kvs : List (Key × V)) | dT (kvs : List (List Key × V))
  /-- a set of ints: its members, its size -/
  | set (S : Int → Bool) (n : Nat)
  /-- an instance of the class at C, its dict at dx, its attributes -/
  | ins (C dx : Addr) (fs : List (Str × V))
  /-- the dict of the instance at x -/
  | own (x : Addr)
  /-- the dict of an exception -/
  | xd (fs : List (Str × V))
  /-- a bound method, f of x -/
  | met (f x : Addr)
  /-- a range object lo, lo + 1, .. below hi -/
  | rng (lo hi : Int)
  /-- a thing that is known to the object (the script; a dict while a loop walks it): read, never written while it is so -/
  | frz (o : Obj) (u : HO)
  /-- a code object's table -/
  | tbl (ps : Array Value)
  /-- any other thing, by what is true of its one object (a def of one's own: SetO a S n := HO.ext fun h => ..) -/
  | ext (φ : Heap → Prop)

abbrev Hp := Addr → Option HO
def upd (H : Hp) (a : Addr) (o : HO) : Hp := fun b => if b = a then some o else H b
theorem upd_same {H : Hp} {a : Addr} {o : HO} : upd H a o a = some o := by unfold upd; rw [if_pos rfl]
theorem upd_ne {H : Hp} {a b : Addr} {o : HO} (h : b ≠ a) : upd H a o b = H b := by unfold upd; rw [if_neg h]
theorem upd_upd {H : Hp} {a : Addr} {o u : HO} : upd (upd H a o) a u = upd H a u := by
  funext b; unfold upd; split <;> rfl
/-- two objects of different content stand apart -/
theorem ne_of {H : Hp} {a b : Addr} {o u : HO} (h : H a = some o) (h' : H b = some u) (d : o ≠ u) : a ≠ b := by
  intro e; subst e; rw [h] at h'; exact d (Option.some.inj h')
theorem ne_of_none {H : Hp} {a b : Addr} {o : HO} (h : H a = some o) (h' : H b = none) : a ≠ b := by
  intro e; subst e; rw [h] at h'; cases h'

section
variable (P : Program) (w : World)
def ObjOk (H : Hp) (h : Heap) (a : Addr) : HO → Prop
  | .lst xs => xs.length ≤ sizeLine ∧ ∃ (its : List Value) (n : Nat), Vals xs its ∧ h.get? a = some { cls := .type "list", data := .seq its.toArray n }
  | .tup xs => xs.length ≤ sizeLine ∧ ∃ its : List Value, Vals xs its ∧ IsTup h a its.toArray
  | .dK kvs => kvs.length ≤ sizeLine ∧ (a == sysModules) = false ∧ ∃ vs, KV kvs vs ∧ h.DictOf (mixKind P w) a vs
  | .dT kvs => kvs.length ≤ sizeLine ∧ (a == sysModules) = false ∧ ∃ xs : List (List Key × Addr × Value),
      Paired (fun (p : List Key × V) (q : List Key × Addr × Value) => p.1 = q.1 ∧ H q.2.1 = some (.tup (p.1.map kV)) ∧ RelV p.2 q.2.2) kvs xs ∧
      ∃ o es ep, h.get? a = some o ∧ o.ExactDict ∧ o.data = .dict es ep ∧ es.toList = xs.map (entryOfKey (tupleKind (mixKind P w))) ∧ (xs.map (·.1)).Nodup
  | .set S n => h.SetOf (intKind P w) a S n
  | .ins C dx fs => H dx = some (.own a) ∧ fs.length ≤ 1000 ∧ dx ≠ a ∧ h.get? a = some (PySem.W.instObj C dx) ∧
      ∃ mA, h.Ns1 dx mA ∧ (∀ f, RelO (fs.lookup f) (mA f)) ∧ PySem.Within mA (fs.map (·.1))
  | .own _ => ∃ o, h.get? a = some o
  | .xd fs => ∃ mA, h.Ns1 a mA ∧ ∀ f, RelO (fs.lookup f) (mA f)
  | .rng lo hi => ∃ t u v, h.get? a = some { cls := .type "range", data := .fields #[.int lo t, .int hi u, .int 1 v] }
  | .frz o u => h.get? a = some o ∧ ObjOk H h a u
  | .tbl ps => h.get? a = some { cls := .none, data := .fields ps }
  | .met f x => h.get? a = some (PySem.W.methodObj (.ref f) (.ref x))
  | .ext φ => φ h ∧ (∃ o, h.get? a = some o) ∧ ∀ h1 h2 : Heap, φ h1 → (∀ o, h1.get? a = some o → h2.get? a = some o) → φ h2
/-- the abstract heap is held -/
def HOk (H : Hp) (h : Heap) : Prop := ∀ a o, H a = some o → ObjOk P w H h a o
end

section
variable {P : Program} {w : World} {H H' : Hp} {h h' : Heap} {a : Addr} {o : HO}
theorem ObjOk.lt (x : ObjOk P w H h a o) : a < h.objs.size := by
  cases o with
  | lst xs => obtain ⟨_, _, _, _, e⟩ := x; exact Heap.lt_size e
  | tup xs => obtain ⟨_, _, _, p⟩ := x; exact p.lt
  | dK kvs => obtain ⟨_, _, _, _, o, _, _, e, _⟩ := x; exact Heap.lt_size e
  | dT kvs => obtain ⟨_, _, _, _, o, _, _, e, _⟩ := x; exact Heap.lt_size e
  | set S n => obtain ⟨o, _, _, _, e, _⟩ := x; exact Heap.lt_size e
  | ins C dx fs => obtain ⟨_, _, _, e, _⟩ := x; exact Heap.lt_size e
  | own y => obtain ⟨_, e⟩ := x; exact Heap.lt_size e
  | xd fs => obtain ⟨_, ⟨_, _, _, e, _⟩, _⟩ := x; exact Heap.lt_size e
  | rng lo hi => obtain ⟨_, _, _, e⟩ := x; exact Heap.lt_size e
  | frz ob u => obtain ⟨e, _⟩ := x; exact Heap.lt_size e
  | tbl ps => exact Heap.lt_size (show h.get? a = some _ from x)
  | met f y => exact Heap.lt_size (show h.get? a = some _ from x)
  | ext φ => obtain ⟨_, ⟨_, e⟩, _⟩ := x; exact Heap.lt_size e
theorem Paired.mapP {α β : Type} {F G : α → β → Prop} : ∀ {l₁ : List α} {l₂ : List β}, Paired F l₁ l₂ → (∀ a b, F a b → G a b) → Paired G l₁ l₂
  | _, _, .nil, _ => .nil
  | _, _, .cons r t, f => .cons (f _ _ r) (Paired.mapP t f)
/-- what an object's description leans on: its own object, its own dict, the tuples -/
theorem ObjOk.stay (x : ObjOk P w H h a o) (k : ∀ b u, (b = a ∨ H b = some (.own a)) → h.get? b = some u → h'.get? b = some u)
    (ho : ∀ b, H b = some (.own a) → H' b = some (.own a)) (ht : ∀ b xs, H b = some (.tup xs) → H' b = some (.tup xs)) : ObjOk P w H' h' a o := by
  induction o with
  | lst xs => obtain ⟨z, its, n, r, e⟩ := x; exact ⟨z, its, n, r, k _ _ (.inl rfl) e⟩
  | tup xs => obtain ⟨z, its, r, ob, e, c⟩ := x; exact ⟨z, its, r, ob, k _ _ (.inl rfl) e, c⟩
  | dK kvs => obtain ⟨z, y, vs, r, ob, es, ep, e, c⟩ := x; exact ⟨z, y, vs, r, ob, es, ep, k _ _ (.inl rfl) e, c⟩
  | dT kvs =>
    obtain ⟨z, y, xs, r, ob, es, ep, e, c⟩ := x
    exact ⟨z, y, xs, Paired.mapP r fun p q z => ⟨z.1, ht _ _ z.2.1, z.2.2⟩, ob, es, ep, k _ _ (.inl rfl) e, c⟩
  | set S n => obtain ⟨ob, es, ep, t, e, c⟩ := x; exact ⟨ob, es, ep, t, k _ _ (.inl rfl) e, c⟩
  | ins C dx fs =>
    obtain ⟨d, z, ne, e, mA, ⟨od, es, ep, e2, c⟩, r⟩ := x
    exact ⟨ho _ d, z, ne, k _ _ (.inl rfl) e, mA, ⟨od, es, ep, k _ _ (.inr d) e2, c⟩, r⟩
  | own y => obtain ⟨ob, e⟩ := x; exact ⟨ob, k _ _ (.inl rfl) e⟩
  | xd fs => obtain ⟨mA, ⟨od, es, ep, e, c⟩, r⟩ := x; exact ⟨mA, ⟨od, es, ep, k _ _ (.inl rfl) e, c⟩, r⟩
  | rng lo hi => obtain ⟨t, u, v, e⟩ := x; exact ⟨t, u, v, k _ _ (.inl rfl) e⟩
  | frz ob u ih => obtain ⟨e, q⟩ := x; exact ⟨k _ _ (.inl rfl) e, ih q⟩
  | tbl ps =>
    have e : h.get? a = some { cls := .none, data := .fields ps } := x
    show h'.get? a = some { cls := .none, data := .fields ps }
    exact k a _ (.inl rfl) e
  | met f y =>
    have e : h.get? a = some (PySem.W.methodObj (.ref f) (.ref y)) := x
    show h'.get? a = some (PySem.W.methodObj (.ref f) (.ref y))
    exact k a _ (.inl rfl) e
  | ext φ => obtain ⟨p, ⟨o, e⟩, st⟩ := x; exact ⟨st _ _ p fun o q => k _ _ (.inl rfl) q, ⟨o, k _ _ (.inl rfl) e⟩, st⟩
theorem HOk.lt (x : HOk P w H h) (e : H a = some o) : a < h.objs.size := (x a o e).lt
theorem HOk.fresh (x : HOk P w H h) (e : h.objs.size ≤ a) : H a = none := by
  cases q : H a with
  | none => rfl
  | some u => exact absurd (Nat.lt_of_lt_of_le (x.lt q) e) (Nat.lt_irrefl _)
/-- every object of the heap is kept -/
theorem HOk.kept (x : HOk P w H h) (k : ∀ b u, h.get? b = some u → h'.get? b = some u) : HOk P w H h' := fun a o e =>
  (x a o e).stay (fun b u _ q => k b u q) (fun _ q => q) fun _ _ q => q
/-- a new object is laid and tracked -/
theorem HOk.laid (x : HOk P w H h) (k : ∀ b u, h.get? b = some u → h'.get? b = some u) (hp : h.objs.size ≤ a) (new : ObjOk P w (upd H a o) h' a o) : HOk P w (upd H a o) h' := fun b u e => by
  have hn := x.fresh hp
  by_cases hb : b = a
  · subst hb; rw [upd_same] at e; cases e; exact new
  · rw [upd_ne hb] at e
    exact (x b u e).stay (fun c v _ q => k c v q) (fun c q => by rw [upd_ne (ne_of_none q hn)]; exact q) fun c xs q => by rw [upd_ne (ne_of_none q hn)]; exact q
end

/-- what may be read as u: it is u, or a known u -/
def Rd (H : Hp) (a : Addr) (u : HO) : Prop := H a = some u ∨ ∃ o, H a = some (.frz o u)
theorem Rd.ok {P : Program} {w : World} {H : Hp} {h : Heap} {a : Addr} {u : HO} (r : Rd H a u) (x : HOk P w H h) : ObjOk P w H h a u := by
  rcases r with r | ⟨o, r⟩
  · exact x a u r
  · obtain ⟨_, q⟩ := x a _ r
    exact q
/-- what may be written -/
def Mut : Option HO → Prop
  | some (.lst _) => True
  | some (.dK _) => True
  | some (.dT _) => True
  | some (.set _ _) => True
  | some (.ins _ _ _) => True
  | some (.ext _) => True
  | _ => False
section
variable {P : Program} {w : World} {H : Hp} {h h' : Heap} {x e : Addr} {o' : HO}
/-- the object at e is changed: x itself, or the dict of the instance x -/
theorem HOk.write (ok : HOk P w H h) (mu : Mut (H x)) (he : e = x ∨ H e = some (.own x)) (k : ∀ b u, b ≠ e → h.get? b = some u → h'.get? b = some u) (heo : ∃ u, h'.get? e = some u)
    (new : ObjOk P w (upd H x o') h' x o') : HOk P w (upd H x o') h' := fun b u q => by
  have nown : ∀ c y, H c = some (.own y) → c ≠ x := fun c y r z => by subst z; rw [r] at mu; exact mu
  have ntup : ∀ c xs, H c = some (.tup xs) → c ≠ x := fun c xs r z => by subst z; rw [r] at mu; exact mu
  by_cases hb : b = x
  · subst hb; rw [upd_same] at q; cases q; exact new
  · rw [upd_ne hb] at q
    by_cases hbe : b = e
    · have q' : H b = some (.own x) := by
        rcases he with z | z
        · exact absurd (hbe.trans z) hb
        · rw [hbe]; exact z
      rw [q] at q'; cases q'
      obtain ⟨v, hv⟩ := heo
      exact ⟨v, by rw [hbe]; exact hv⟩
    · refine (ok b u q).stay (fun c v hc r => k c v ?_ r) (fun c r => by rw [upd_ne (nown c b r)]; exact r) fun c xs r => by rw [upd_ne (ntup c xs r)]; exact r
      rcases hc with rfl | hc
      · exact hbe
      · rintro rfl
        rcases he with z | z
        · exact nown c b hc z
        · rw [hc] at z; cases z; exact hb rfl
end

/-! ### kept unless tracked; of the frames at fs (the callers') the slots may change (an exception that passes writes there); of the records at ex (iterators) nothing is said -/
structure Un (fs ex : List Addr) (H H' : Hp) (h h' : Heap) : Prop where
  keep : ∀ b o, h.get? b = some o → H b = none → b ∉ fs → b ∉ ex → h'.get? b = some o
  slot : ∀ b o, h.get? b = some o → H b = none → b ∈ fs → b ∉ ex → ∃ sl, h'.get? b = some { o with slots := sl }
  free : ∀ b o, h.get? b = some o → H b = none → b ∉ ex → H' b = none
  there : ∀ b o, h.get? b = some o → b ∉ ex → ∃ o', h'.get? b = some o'
  tups : ∀ b xs, H b = some (.tup xs) → H' b = some (.tup xs)
  frzs : ∀ b o u, H b = some (.frz o u) → H' b = some (.frz o u)
  tbls : ∀ b ps, H b = some (.tbl ps) → ∃ more, H' b = some (.tbl (ps ++ more))
section
variable {fs fs' ex ex' : List Addr} {H H1 H2 : Hp} {h h1 h2 h' : Heap} {a x e : Addr} {o : HO}
theorem Un.any (u : Un fs ex H H1 h h1) {b : Addr} {ob : Obj} (q : h.get? b = some ob) (n : H b = none) (hx : b ∉ ex) : ∃ sl, h1.get? b = some { ob with slots := sl } := by
  by_cases hb : b ∈ fs
  · exact u.slot b ob q n hb hx
  · exact ⟨ob.slots, u.keep b ob q n hb hx⟩
theorem Un.kept (k : ∀ b u, h.get? b = some u → h'.get? b = some u) : Un fs ex H H h h' :=
  ⟨fun b ob q _ _ _ => k b ob q, fun b ob q _ _ _ => ⟨ob.slots, k b ob q⟩, fun _ _ _ n _ => n, fun b ob q _ => ⟨ob, k b ob q⟩, fun _ _ q => q, fun _ _ _ q => q, fun _ ps q => ⟨#[], by rw [q]; simp⟩⟩
theorem Un.refl : Un fs ex H H h h := Un.kept fun _ _ q => q
theorem Un.laid (k : ∀ b u, h.get? b = some u → h'.get? b = some u) (hp : h.objs.size ≤ a) (hn : H a = none) : Un fs ex H (upd H a o) h h' where
  keep := fun b u q _ _ _ => k b u q
  slot := fun b u q _ _ _ => ⟨u.slots, k b u q⟩
  free := fun b u q n _ => by rw [upd_ne (Nat.ne_of_lt (Nat.lt_of_lt_of_le (Heap.lt_size q) hp))]; exact n
  there := fun b u q _ => ⟨u, k b u q⟩
  tups := fun b xs q => by rw [upd_ne (ne_of_none q hn)]; exact q
  frzs := fun b u xs q => by rw [upd_ne (ne_of_none q hn)]; exact q
  tbls := fun b ps q => ⟨#[], by rw [upd_ne (ne_of_none q hn), q]; simp⟩
theorem Un.write (mu : Mut (H x)) (he : e = x ∨ H e = some (.own x)) (k : ∀ b u, b ≠ e → h.get? b = some u → h'.get? b = some u) (heo : ∃ u, h'.get? e = some u) : Un fs ex H (upd H x o) h h' := by
  have hx : ∀ b, H b = none → b ≠ x := fun b n z => by subst z; rw [n] at mu; exact mu
  have hb : ∀ b, H b = none → b ≠ e := fun b n z => by
    subst z
    rcases he with r | r
    · exact hx b n r
    · rw [n] at r; cases r
  have hm : ∀ b u, H b = some u → ¬ Mut (some u) → b ≠ x := fun b u q nm z => by subst z; rw [q] at mu; exact nm mu
  refine ⟨fun b u q n _ _ => k b u (hb b n) q, fun b u q n _ _ => ⟨u.slots, k b u (hb b n) q⟩, fun b u q n _ => by rw [upd_ne (hx b n)]; exact n, fun b u q _ => ?_,
    fun b xs q => by rw [upd_ne (hm b _ q fun z => z)]; exact q, fun b u xs q => by rw [upd_ne (hm b _ q fun z => z)]; exact q, fun b ps q => ⟨#[], by rw [upd_ne (hm b _ q fun z => z), q]; simp⟩⟩
  by_cases hbe : b = e
  · subst hbe; exact heo
  · exact ⟨u, k b u hbe q⟩
end

/-! ### the heap without what is tracked -/
def trk (h : Heap) (H : Hp) : List Addr := (List.range h.objs.size).filter fun a => (H a).isSome
def hidT (h : Heap) (H : Hp) : Heap := PySem.W.hideAll h (trk h H)
theorem hidT_size (h : Heap) (H : Hp) : (hidT h H).objs.size = h.objs.size := PySem.W.hideAll_size _ _
theorem hidT_get {h : Heap} {H : Hp} {b : Addr} {o : Obj} (e : h.get? b = some o) (n : H b = none) : (hidT h H).get? b = some o :=
  PySem.W.hideAll_get _ e fun hm => by
    have q : (H b).isSome = true := (List.mem_filter.mp hm).2
    rw [n] at q; simp at q
theorem of_hidT {h : Heap} {H : Hp} {b : Addr} {o : Obj} (e : (hidT h H).get? b = some o) : h.get? b = some o ∧ H b = none := by
  have e' : h.get? b = some o := PySem.W.of_hideAll (trk h H) e
  refine ⟨e', ?_⟩
  cases q : H b with
  | none => rfl
  | some x =>
    have hm : b ∈ trk h H := List.mem_filter.mpr ⟨List.mem_range.mpr (Heap.lt_size e'), by simp [q]⟩
    have z : (hidT h H).get? b = none := PySem.W.hideAll_none (trk h H) hm
    rw [z] at e; cases e

/-! ### OpenK's ledger, filled with every new object but one -/
def allNews (g h : Heap) (L : Addr) : List (Addr × Obj) := (List.range h.objs.size).filterMap fun a => if a = L ∨ (g.get? a).isSome = true then none else (h.get? a).map fun o => (a, o)
def rest (g h : Heap) (L d : Addr) : List (Addr × Obj) := (allNews g h L).filter fun p => decide (p.1 ≠ d)
end L2

namespace L2
open PySem PySem.Spec PyProof.Rows

/-- the module's facts, over the base: the heap at the law's entry without what is tracked there -/
structure Mod (K : PySem.W.Frag) (mg : Str → Option Value) (base : Heap) : Prop where
  kin : K.In base
  glob : base.Ns mainGlobals mg
  blt : ∃ mb, base.Ns builtinsNs mb ∧ ∀ x : Str, x ≠ "__name__" → mb x = bootBuiltins x
  nolimit : base.NoLimit

/-- the context: a def's body (or a comprehension's block) running. base: fixed through the whole law; s₀, H₀: the entry; outer: the frames whose slots others may change (a def's callers); stack: all frames that run;
   ex: iterators that were made ahead of the entry and are walked here (a comprehension's); fn: the names whose cells were made at the entry (a def: all; a comprehension's block: its own); calm: not within an except suite; pn: pins that every state bears; xe: what is wanted of an exception that leaves the code -/
structure Cx where
  prog : Program
  w : World
  K : PySem.W.Frag
  mg : Str → Option Value
  base : Heap
  A : Around
  N : List Str
  s₀ : Shared
  H₀ : Hp
  env : Env
  outer : List Env
  stack : List Env
  ex : List Addr
  fn : Str → Bool
  calm : Bool
  pn : List (Addr × Obj)
  xe : Value → Shared → Prop
/-- the callers' frames -/
def frs (l : List Env) : List Addr := l.filterMap (·.frame)
abbrev Cx.fs (X : Cx) : List Addr := frs X.outer

def Vis (sc : Scope) (x : Str) : Prop := sc.names.lookup x = some .local ∨ sc.names.lookup x = some .cell ∨ sc.names.lookup x = some .free
def Loc (sc : Scope) (x : Str) : Prop := sc.names.lookup x = some .local ∨ sc.names.lookup x = some .cell
def Look (env : Env) (h : Heap) (m : Str → Option Value) (x : Str) (u : Value) : Prop :=
  (env.kindOf x = some .local ∧ m x = some u) ∨ ((env.kindOf x = some .cell ∨ env.kindOf x = some .free) ∧ ∃ c, env.cells.lookup x = some c ∧ h.IsCell c (some u))

structure Cx.Ok (X : Cx) : Prop where
  mod : Mod X.K X.mg X.base
  kind : X.env.scope.kind = .function
  glob : X.env.globals = mainGlobals
  blt : X.env.builtins = builtinsNs
  above : X.s₀.heap.objs.size ≤ X.env.locals
  inj : ∀ x y c, X.env.cells.lookup x = some c → X.env.cells.lookup y = some c → x = y
  has : ∀ x, (X.env.kindOf x = some .cell ∨ X.env.kindOf x = some .free) → ∃ c, X.env.cells.lookup x = some c
  cab : ∀ x c, X.fn x = true → X.env.cells.lookup x = some c → X.s₀.heap.objs.size ≤ c
  hd : X.calm = true → X.A.handled = none
  frames : X.A.frames = some X.stack
  stk : X.stack = X.outer ∨ (X.stack = X.env :: X.outer ∧ X.env.frame = some X.env.locals)
  exf : ∀ b ∈ X.ex, b ≠ X.env.locals ∧ ∀ x c, X.env.cells.lookup x = some c → c ≠ b
  bs : ∀ b o, X.base.get? b = some o → X.s₀.heap.get? b = some o ∧ X.H₀ b = none
  bsz : X.base.objs.size ≤ X.s₀.heap.objs.size
  noex : ∀ b o, X.base.get? b = some o → b ∉ X.ex
  exfs : ∀ b ∈ X.ex, b ∉ X.fs
  funs : X.s₀.heap.FunFrames X.base X.outer
  frf : ∀ b ∈ X.fs, X.H₀ b = none

structure Inv (X : Cx) (pins : List (Addr × Obj)) (σ : List (Option V)) (H : Hp) (s : Shared) : Prop where
  ok : X.Ok
  os : s.os = X.s₀.os
  bare : AllBare s.gens
  base : Un X.fs X.ex X.H₀ H X.s₀.heap s.heap
  loc : ∃ m, s.heap.Ns X.env.locals m ∧ ∀ (i : Nat) (x : Str) (v : V), X.N[i]? = some x → σ[i]? = some (some v) → Vis X.env.scope x → ∃ u, RelV v u ∧ Look X.env s.heap m x u
  cell : ∀ x c, X.env.cells.lookup x = some c → ∃ v, s.heap.IsCell c v
  free : H X.env.locals = none
  freeC : ∀ x c, X.env.cells.lookup x = some c → H c = none
  pin : ∀ p ∈ X.pn ++ pins, s.heap.get? p.1 = some p.2 ∧ H p.1 = none ∧ p.1 ≠ X.env.locals ∧ p.1 ∉ X.fs ∧ ∀ v, p.2.data ≠ .cell v
  hok : HOk X.prog X.w H s.heap
  len : σ.length = X.N.length

section
variable {X : Cx} {pins : List (Addr × Obj)} {σ : List (Option V)} {H H' : Hp} {s : Shared} {h' : Heap}

theorem Cx.Ok.nofr (ok : X.Ok) {b : Addr} {o : Obj} (e : X.base.get? b = some o) : b ∉ X.fs := fun hb => by
  have := (ok.funs.mem hb).1
  rw [e] at this; cases this
theorem Inv.bs (I : Inv X pins σ H s) : ∀ b o, X.base.get? b = some o → s.heap.get? b = some o ∧ H b = none := fun b o e =>
  ⟨I.base.keep b o (I.ok.bs b o e).1 (I.ok.bs b o e).2 (I.ok.nofr e) (I.ok.noex b o e), I.base.free b o (I.ok.bs b o e).1 (I.ok.bs b o e).2 (I.ok.noex b o e)⟩
theorem Inv.bk (I : Inv X pins σ H s) : ∀ b o, X.base.get? b = some o → s.heap.get? b = some o := fun b o e => (I.bs b o e).1
theorem Inv.mod (I : Inv X pins σ H s) : Mod X.K X.mg X.base := I.ok.mod
theorem Inv.kIn (I : Inv X pins σ H s) : X.K.In s.heap := I.ok.mod.kin.keeps I.bk
theorem Inv.lt (I : Inv X pins σ H s) : X.env.locals < s.heap.objs.size := let ⟨_, hn, _⟩ := I.loc; hn.lt
theorem Inv.sz (I : Inv X pins σ H s) : X.s₀.heap.objs.size ≤ s.heap.objs.size := Nat.le_trans I.ok.above (Nat.le_of_lt I.lt)
theorem Inv.nofs (I : Inv X pins σ H s) {a : Addr} (h : s.heap.objs.size ≤ a) : a ∉ X.fs := fun hb => by
  obtain ⟨_, o, ho, _⟩ := I.ok.funs.mem hb
  exact absurd (Nat.lt_of_lt_of_le (Heap.lt_size ho) (Nat.le_trans I.sz h)) (Nat.lt_irrefl _)
theorem Inv.cne (I : Inv X pins σ H s) : ∀ x c, X.env.cells.lookup x = some c → c ≠ X.env.locals := fun x c e z => by
  obtain ⟨v, o, ho, hd⟩ := I.cell x c e
  obtain ⟨m, ⟨o', es, ep, ho', hd', _⟩, _⟩ := I.loc
  rw [z, ho'] at ho; cases ho; rw [hd'] at hd; cases hd
theorem Inv.funs (I : Inv X pins σ H s) : s.heap.FunFrames X.base X.outer := by
  have all : ∀ (l : List Env), (∀ b ∈ frs l, b ∈ X.fs) → X.s₀.heap.FunFrames X.base l → s.heap.FunFrames X.base l := by
    intro l
    induction l with
    | nil => intro _ _; trivial
    | cons env r ih =>
      intro hs hl
      obtain ⟨hk, ⟨L, o, hf, hn, ho, hd⟩, hr⟩ := hl
      have hL : L ∈ X.fs := hs L (by unfold frs; rw [List.filterMap_cons, hf]; exact List.mem_cons_self)
      obtain ⟨sl, e⟩ := I.base.slot L o ho (I.ok.frf L hL) hL fun z => I.ok.exfs L z hL
      exact ⟨hk, ⟨L, _, hf, hn, e, hd⟩, ih (fun b hb => hs b (by unfold frs; rw [List.filterMap_cons, hf]; exact List.mem_cons_of_mem _ hb)) hr⟩
  exact all X.outer (fun _ hb => hb) I.ok.funs

/-- the frames that run, for a call -/
theorem Inv.stack (I : Inv X pins σ H s) : s.heap.FunFrames X.base X.stack := by
  rcases I.ok.stk with e | ⟨e, hf⟩
  · rw [e]; exact I.funs
  · rw [e]
    obtain ⟨m, hn, _⟩ := I.loc
    refine .cons (by rw [I.ok.kind]; decide) hf hn ?_ I.funs
    exact Heap.get?_none_of_le (Nat.le_trans I.ok.bsz I.ok.above)
theorem Inv.stkSub (I : Inv X pins σ H s) : ∀ b ∈ frs X.stack, b ∈ X.env.locals :: X.fs := fun b hb => by
  rcases I.ok.stk with e | ⟨e, hf⟩
  · rw [e] at hb; exact List.mem_cons_of_mem _ hb
  · rw [e] at hb
    unfold frs at hb
    rw [List.filterMap_cons, hf] at hb
    exact hb
theorem Inv.stkFree (I : Inv X pins σ H s) : ∀ b ∈ frs X.stack, H b = none := fun b hb => by
  rcases List.mem_cons.mp (I.stkSub b hb) with e | hb
  · rw [e]; exact I.free
  · obtain ⟨_, o, ho, _⟩ := I.ok.funs.mem hb
    exact I.base.free b o ho (I.ok.frf b hb) fun z => I.ok.exfs b z hb

/-- THE STEP: the untracked objects but the frame and the records at ch are kept (the callers' frames up to slots), the frame's map is kept, the new abstract heap is held -/
theorem Inv.step {g' : Array GenState} {t' : Nat} {d' : Drawn} {ch : List Addr} (I : Inv X pins σ H s)
    (hch : ∀ b ∈ ch, (b ∈ X.ex ∨ X.s₀.heap.objs.size ≤ b) ∧ b ≠ X.env.locals ∧ (∀ x c, X.env.cells.lookup x = some c → c ≠ b) ∧ ∀ p ∈ X.pn ++ pins, p.1 ≠ b)
    (keep : ∀ b o, b ≠ X.env.locals → b ∉ X.fs → b ∉ ch → s.heap.get? b = some o → H b = none → h'.get? b = some o)
    (slot : ∀ b o, b ≠ X.env.locals → b ∈ X.fs → b ∉ ch → s.heap.get? b = some o → H b = none → ∃ sl, h'.get? b = some { o with slots := sl }) (free : ∀ b o, b ∉ ch → s.heap.get? b = some o → H b = none → H' b = none)
    (there : ∀ b o, b ∉ ch → s.heap.get? b = some o → ∃ o', h'.get? b = some o')
    (tups : ∀ b xs, H b = some (.tup xs) → H' b = some (.tup xs)) (frzs : ∀ b o u, H b = some (.frz o u) → H' b = some (.frz o u)) (tbls : ∀ b ps, H b = some (.tbl ps) → ∃ more, H' b = some (.tbl (ps ++ more)))
    (ns : ∀ m, s.heap.Ns X.env.locals m → h'.Ns X.env.locals m) (hok : HOk X.prog X.w H' h') (hg : AllBare g') :
    Inv X pins σ H' { s with heap := h', gens := g', drawn := d', toks := t' } := by
  have neL : ∀ b o, X.s₀.heap.get? b = some o → b ≠ X.env.locals := fun b o e => Nat.ne_of_lt (Nat.lt_of_lt_of_le (Heap.lt_size e) I.ok.above)
  have neC : ∀ b o, X.s₀.heap.get? b = some o → b ∉ X.ex → b ∉ ch := fun b o e hx hb => by
    rcases (hch b hb).1 with z | z
    · exact hx z
    · exact absurd (Nat.lt_of_lt_of_le (Heap.lt_size e) z) (Nat.lt_irrefl _)
  have cellK : ∀ x c, X.env.cells.lookup x = some c → ∀ v, s.heap.IsCell c v → h'.IsCell c v := fun x c e v ⟨o, ho, hd⟩ => by
    have nch : c ∉ ch := fun z => (hch c z).2.2.1 x c e rfl
    by_cases hc : c ∈ X.fs
    · obtain ⟨sl, q⟩ := slot c o (I.cne x c e) hc nch ho (I.freeC x c e)
      exact ⟨_, q, hd⟩
    · exact ⟨o, keep c o (I.cne x c e) hc nch ho (I.freeC x c e), hd⟩
  refine ⟨I.ok, I.os, hg, ⟨fun b o e n hb hx => ?_, fun b o e n hb hx => ?_, fun b o e n hx => ?_, fun b o e hx => ?_, fun b xs e => tups b xs (I.base.tups b xs e), fun b o xs e => frzs b o xs (I.base.frzs b o xs e), fun b ps e => ?_⟩, ?_, fun x c e => ?_, ?_, fun x c e => ?_, fun p hp => ?_, hok, I.len⟩
  · exact keep b o (neL b o e) hb (neC b o e hx) (I.base.keep b o e n hb hx) (I.base.free b o e n hx)
  · obtain ⟨sl, e1⟩ := I.base.slot b o e n hb hx
    obtain ⟨sl', e2⟩ := slot b _ (neL b o e) hb (neC b o e hx) e1 (I.base.free b o e n hx)
    exact ⟨sl', e2⟩
  · obtain ⟨o', e1⟩ := I.base.there b o e hx
    exact free b o' (neC b o e hx) e1 (I.base.free b o e n hx)
  · obtain ⟨o', e1⟩ := I.base.there b o e hx
    exact there b o' (neC b o e hx) e1
  · obtain ⟨m1, e1⟩ := I.base.tbls b ps e
    obtain ⟨m2, e2⟩ := tbls b _ e1
    exact ⟨m1 ++ m2, by rw [e2, Array.append_assoc]⟩
  · obtain ⟨m, hn, hl⟩ := I.loc
    refine ⟨m, ns m hn, fun i x v e1 e2 e3 => ?_⟩
    obtain ⟨u, r, l⟩ := hl i x v e1 e2 e3
    refine ⟨u, r, ?_⟩
    rcases l with l | ⟨k, c, e, z⟩
    · exact .inl l
    · exact .inr ⟨k, c, e, cellK x c e _ z⟩
  · obtain ⟨v, z⟩ := I.cell x c e
    exact ⟨v, cellK x c e v z⟩
  · obtain ⟨m, ⟨o, _, _, ho, _⟩, _⟩ := I.loc
    exact free _ o (fun z => (hch _ z).2.1 rfl) ho I.free
  · obtain ⟨v, o, ho, hd⟩ := I.cell x c e
    exact free c o (fun z => (hch c z).2.2.1 x c e rfl) ho (I.freeC x c e)
  · obtain ⟨e, n, ne, nf, d⟩ := I.pin p hp
    have nch : p.1 ∉ ch := fun z => (hch p.1 z).2.2.2 p hp rfl
    exact ⟨keep p.1 p.2 ne nf nch e n, free p.1 p.2 nch e n, ne, nf, d⟩
/-- .. where the frame's own object is kept too -/
theorem Inv.un {t' : Nat} (I : Inv X pins σ H s) (u : Un X.fs [] H H' s.heap h') (hok : HOk X.prog X.w H' h') : Inv X pins σ H' { s with heap := h', toks := t' } := by
  obtain ⟨m, ⟨o, es, ep, ho, r⟩, _⟩ := id I.loc
  obtain ⟨sl, hL⟩ := u.any ho I.free (by simp)
  exact I.step (g' := s.gens) (d' := s.drawn) (ch := []) (fun _ z => nomatch z) (fun b o _ hb _ e n => u.keep b o e n hb (by simp)) (fun b o _ hb _ e n => u.slot b o e n hb (by simp)) (fun b o _ e n => u.free b o e n (by simp)) (fun b o _ e => u.there b o e (by simp)) u.tups u.frzs u.tbls (fun m' hm => by
    obtain ⟨o', es', ep', ho', r'⟩ := hm
    rw [ho] at ho'; cases ho'
    exact ⟨_, es', ep', hL, r'⟩) hok I.bare
/-- behind a call (or a comprehension's block): the slots of this frame may have changed too, the records at ch may have turned -/
theorem Inv.call {g' : Array GenState} {t' : Nat} {d' : Drawn} {ch : List Addr} (I : Inv X pins σ H s) (u : Un (frs X.stack) ch H H' s.heap h') (hok : HOk X.prog X.w H' h') (hg : AllBare g')
    (hch : ∀ b ∈ ch, (b ∈ X.ex ∨ X.s₀.heap.objs.size ≤ b) ∧ b ≠ X.env.locals ∧ (∀ x c, X.env.cells.lookup x = some c → c ≠ b) ∧ ∀ p ∈ X.pn ++ pins, p.1 ≠ b) :
    Inv X pins σ H' { s with heap := h', gens := g', drawn := d', toks := t' } := by
  obtain ⟨m, ⟨o, es, ep, ho, r⟩, _⟩ := id I.loc
  obtain ⟨sl, hL⟩ := u.any ho I.free fun z => (hch _ z).2.1 rfl
  exact I.step (ch := ch) hch (fun b o hL hb hc e n => u.keep b o e n (fun z => (List.mem_cons.mp (I.stkSub b z)).elim hL hb) hc) (fun b o _ _ hc e n => u.any e n hc) (fun b o hc e n => u.free b o e n hc) (fun b o hc e => u.there b o e hc) u.tups u.frzs u.tbls (fun m' hm => by
    obtain ⟨o', es', ep', ho', r'⟩ := hm
    rw [ho] at ho'; cases ho'
    exact ⟨_, es', ep', hL, r'⟩) hok hg
/-- an untracked record of ours (an iterator) has turned -/
theorem Inv.turned {t' : Nat} {it : Addr} (I : Inv X pins σ H s) (k : ∀ b o, b ≠ it → s.heap.get? b = some o → h'.get? b = some o) (hn : H it = none) (hL : it ≠ X.env.locals)
    (h1 : it ∈ X.ex ∨ X.s₀.heap.objs.size ≤ it) (h2 : ∀ x c, X.env.cells.lookup x = some c → c ≠ it) (h3 : ∀ p ∈ X.pn ++ pins, p.1 ≠ it) : Inv X pins σ H { s with heap := h', toks := t' } := by
  have nit : ∀ b u, H b = some u → b ≠ it := fun b u e z => by rw [z, hn] at e; cases e
  refine I.step (g' := s.gens) (d' := s.drawn) (ch := [it]) (fun b hb => ?_) (fun b o _ _ hc e _ => k b o (fun z => hc (by simp [z])) e) (fun b o _ _ hc e _ => ⟨o.slots, k b o (fun z => hc (by simp [z])) e⟩) (fun _ _ _ _ n => n)
    (fun b o hc e => ⟨o, k b o (fun z => hc (by simp [z])) e⟩) (fun _ _ e => e) (fun _ _ _ e => e) (fun b ps e => ⟨#[], by rw [e]; simp⟩) (fun m hm => ?_) (fun b u e => ?_) I.bare
  · have e : b = it := by simpa using hb
    subst e
    exact ⟨h1, hL, h2, h3⟩
  · obtain ⟨o, es, ep, ho, r⟩ := hm
    exact ⟨o, es, ep, k _ o (Ne.symm hL) ho, r⟩
  · refine (I.hok b u e).stay (fun c v hc q => k c v ?_ q) (fun _ q => q) fun _ _ q => q
    rcases hc with z | z
    · rw [z]; exact nit b u e
    · exact nit c _ z
theorem Inv.tok (I : Inv X pins σ H s) (t : Nat) : Inv X pins σ H { s with toks := t } := I.un (h' := s.heap) (t' := t) Un.refl I.hok
/-- all objects kept -/
theorem Inv.kept {t' : Nat} (I : Inv X pins σ H s) (k : ∀ b u, s.heap.get? b = some u → h'.get? b = some u) : Inv X pins σ H { s with heap := h', toks := t' } := I.un (Un.kept k) (I.hok.kept k)
/-- a new object laid and tracked -/
theorem Inv.laid {a : Addr} {o : HO} {t' : Nat} (I : Inv X pins σ H s) (k : ∀ b u, s.heap.get? b = some u → h'.get? b = some u) (hp : s.heap.objs.size ≤ a) (new : ObjOk X.prog X.w (upd H a o) h' a o) :
    Inv X pins σ (upd H a o) { s with heap := h', toks := t' } := I.un (Un.laid k hp (I.hok.fresh hp)) (I.hok.laid k hp new)
/-- an object written -/
theorem Inv.write {x e : Addr} {o : HO} {t' : Nat} (I : Inv X pins σ H s) (mu : Mut (H x)) (he : e = x ∨ H e = some (.own x)) (k : ∀ b u, b ≠ e → s.heap.get? b = some u → h'.get? b = some u) (heo : ∃ u, h'.get? e = some u)
    (new : ObjOk X.prog X.w (upd H x o) h' x o) : Inv X pins σ (upd H x o) { s with heap := h', toks := t' } := I.un (Un.write mu he k heo) (I.hok.write mu he k heo new)
/-- forgetting slots, pins -/
theorem Inv.weak {σ' : List (Option V)} (I : Inv X pins σ H s) (hl : σ'.length = σ.length) (w : ∀ (i : Nat) v, σ'[i]? = some (some v) → σ[i]? = some (some v)) : Inv X pins σ' H s :=
  ⟨I.ok, I.os, I.bare, I.base, let ⟨m, hn, hl'⟩ := I.loc; ⟨m, hn, fun i x v e1 e2 e3 => hl' i x v e1 (w i v e2) e3⟩, I.cell, I.free, I.freeC, I.pin, I.hok, hl.trans I.len⟩
theorem Inv.pins_of {pins' : List (Addr × Obj)} (I : Inv X pins σ H s) (h : ∀ p ∈ pins', s.heap.get? p.1 = some p.2 ∧ H p.1 = none ∧ p.1 ≠ X.env.locals ∧ p.1 ∉ X.fs ∧ ∀ v, p.2.data ≠ .cell v) : Inv X pins' σ H s :=
  ⟨I.ok, I.os, I.bare, I.base, I.loc, I.cell, I.free, I.freeC, fun p hp => (List.mem_append.mp hp).elim (fun z => I.pin p (List.mem_append_left _ z)) (h p), I.hok, I.len⟩

theorem nodup_ix {N : List Str} (hN : N.Nodup) {i j : Nat} {x : Str} (a : N[i]? = some x) (b : N[j]? = some x) : i = j := by
  obtain ⟨h1, e1⟩ := List.getElem?_eq_some_iff.mp a
  obtain ⟨h2, e2⟩ := List.getElem?_eq_some_iff.mp b
  exact (List.getElem_inj hN).mp (e1.trans e2.symm)

/-- a name is stored; what changed -/
theorem store_ok2 {M : Model} {A : Around} {E : Value → Shared → Prop} {i : Nat} {x : Str} {v : V} {u : Value} {Q : Unit → Shared → Prop} (I : Inv X pins σ H s) (hN : X.N.Nodup) (hi : X.N[i]? = some x) (hx : Loc X.env.scope x) (r : RelV v u)
    (h : ∀ s', Inv X pins (σ.set i (some v)) H s' → (∃ a, Heap.SameBut a s.heap s'.heap ∧ (a = X.env.locals ∨ X.env.cells.lookup x = some a)) → Q () s') (hf : X.fn x = true ∨ X.env.scope.names.lookup x = some .local := by first | exact .inl rfl | exact .inr rfl | assumption) : wpAny M A (storeName X.env x u) Q E s := by
  obtain ⟨m, hn, hl⟩ := id I.loc
  have hcls : (X.env.scope.kind == .class || (X.env.scope.kind == .module && X.env.locals != X.env.globals)) = false := by rw [I.ok.kind]; rfl
  have hiσ : i < σ.length := by rw [I.len]; exact (List.getElem?_eq_some_iff.mp hi).1
  have cne := I.cne
  have tracked : ∀ {a : Addr} {h' : Heap}, (∃ o, s.heap.get? a = some o ∧ H a = none) → Heap.SameBut a s.heap h' → HOk X.prog X.w H h' := fun {a h'} ha hs b ob e => by
    obtain ⟨_, _, hfree⟩ := ha
    refine (I.hok b ob e).stay (fun c w' hc q => (hs.2 c ?_).trans q) (fun _ q => q) fun _ _ q => q
    rintro rfl
    rcases hc with rfl | hc
    · rw [hfree] at e; cases e
    · rw [hfree] at hc; cases hc
  rcases hx with hk | hk
  · refine wpAny_storeName_local hk hn (fun h' hn' hs => ?_) hcls
    obtain ⟨oL, _, _, hoL, _⟩ := id hn
    refine h _ ⟨I.ok, I.os, I.bare, ⟨fun b o e n hb hx => ?_, fun b o e n hb hx => ?_, I.base.free, fun b o e hx => ?_, I.base.tups, I.base.frzs, I.base.tbls⟩, ⟨_, hn', fun j y v' e1 e2 e3 => ?_⟩, fun y c e => ?_, I.free, I.freeC, fun p hp => ?_, tracked ⟨oL, hoL, I.free⟩ hs, by simpa using I.len⟩ ⟨_, hs, .inl rfl⟩
    · exact (hs.2 b (Nat.ne_of_lt (Nat.lt_of_lt_of_le (Heap.lt_size e) I.ok.above))).trans (I.base.keep b o e n hb hx)
    · obtain ⟨sl, e1⟩ := I.base.slot b o e n hb hx
      exact ⟨sl, (hs.2 b (Nat.ne_of_lt (Nat.lt_of_lt_of_le (Heap.lt_size e) I.ok.above))).trans e1⟩
    · obtain ⟨o', e1⟩ := I.base.there b o e hx
      exact ⟨o', (hs.2 b (Nat.ne_of_lt (Nat.lt_of_lt_of_le (Heap.lt_size e) I.ok.above))).trans e1⟩
    · by_cases hj : j = i
      · subst hj
        rw [hi] at e1; cases e1
        rw [List.getElem?_set_self hiσ] at e2
        cases e2
        exact ⟨u, r, .inl ⟨hk, by simp⟩⟩
      · rw [List.getElem?_set_ne (Ne.symm hj)] at e2
        obtain ⟨u', r', q⟩ := hl j y v' e1 e2 e3
        refine ⟨u', r', ?_⟩
        rcases q with ⟨k, e⟩ | ⟨k, c, e, z⟩
        · refine .inl ⟨k, ?_⟩
          have : y ≠ x := fun e => hj (nodup_ix hN e1 (e ▸ hi))
          simp [this, e]
        · exact .inr ⟨k, c, e, z.sameBut hs (cne y c e)⟩
    · obtain ⟨w', z⟩ := I.cell y c e
      exact ⟨w', z.sameBut hs (cne y c e)⟩
    · obtain ⟨e, n, ne, nf, d⟩ := I.pin p hp
      exact ⟨(hs.2 p.1 ne).trans e, n, ne, nf, d⟩
  · have hfn : X.fn x = true := by
      rcases hf with z | z
      · exact z
      · rw [z] at hk; cases hk
    obtain ⟨c, hc⟩ := I.ok.has x (.inl hk)
    obtain ⟨w', z⟩ := I.cell x c hc
    refine wpAny_storeName_cell I.ok.kind hk hc z (fun h' hc' hs => ?_)
    obtain ⟨oc, hoc, hocd⟩ := id z
    refine h { s with heap := h' } ⟨I.ok, I.os, I.bare, ⟨fun b o e n hb hx => ?_, fun b o e n hb hx => ?_, I.base.free, fun b o e hx => ?_, I.base.tups, I.base.frzs, I.base.tbls⟩, ⟨m, hn.sameBut hs (Ne.symm (cne x c hc)), fun j y v' e1 e2 e3 => ?_⟩, fun y c' e => ?_, I.free, I.freeC, fun p hp => ?_, tracked ⟨oc, hoc, I.freeC x c hc⟩ hs, by simpa using I.len⟩ ⟨c, hs, .inr hc⟩
    · exact (hs.2 b (Nat.ne_of_lt (Nat.lt_of_lt_of_le (Heap.lt_size e) (I.ok.cab x c hfn hc)))).trans (I.base.keep b o e n hb hx)
    · obtain ⟨sl, e1⟩ := I.base.slot b o e n hb hx
      exact ⟨sl, (hs.2 b (Nat.ne_of_lt (Nat.lt_of_lt_of_le (Heap.lt_size e) (I.ok.cab x c hfn hc)))).trans e1⟩
    · obtain ⟨o', e1⟩ := I.base.there b o e hx
      exact ⟨o', (hs.2 b (Nat.ne_of_lt (Nat.lt_of_lt_of_le (Heap.lt_size e) (I.ok.cab x c hfn hc)))).trans e1⟩
    · by_cases hj : j = i
      · subst hj
        rw [hi] at e1; cases e1
        rw [List.getElem?_set_self hiσ] at e2
        cases e2
        exact ⟨u, r, .inr ⟨.inl hk, c, hc, hc'⟩⟩
      · rw [List.getElem?_set_ne (Ne.symm hj)] at e2
        obtain ⟨u', r', q⟩ := hl j y v' e1 e2 e3
        refine ⟨u', r', ?_⟩
        rcases q with q | ⟨k, c', e, z'⟩
        · exact .inl q
        · refine .inr ⟨k, c', e, z'.sameBut hs ?_⟩
          rintro rfl
          exact hj (nodup_ix hN e1 (I.ok.inj _ _ _ e hc ▸ hi))
    · by_cases hcc : c' = c
      · subst hcc; exact ⟨_, hc'⟩
      · obtain ⟨w2, z2⟩ := I.cell y c' e
        exact ⟨w2, z2.sameBut hs hcc⟩
    · obtain ⟨e, n, ne, nf, d⟩ := I.pin p hp
      refine ⟨(hs.2 p.1 ?_).trans e, n, ne, nf, d⟩
      intro q
      rw [q, hoc] at e
      have q' : oc = p.2 := Option.some.inj e
      exact d w' (by rw [← q']; exact hocd)
theorem store_ok {M : Model} {A : Around} {E : Value → Shared → Prop} {i : Nat} {x : Str} {v : V} {u : Value} {Q : Unit → Shared → Prop} (I : Inv X pins σ H s) (hN : X.N.Nodup) (hi : X.N[i]? = some x) (hx : Loc X.env.scope x) (r : RelV v u)
    (h : ∀ s', Inv X pins (σ.set i (some v)) H s' → Q () s') (hf : X.fn x = true ∨ X.env.scope.names.lookup x = some .local := by first | exact .inl rfl | exact .inr rfl | assumption) : wpAny M A (storeName X.env x u) Q E s :=
  store_ok2 I hN hi hx r (fun s' I' _ => h s' I') hf
/-- behind a call or a block, the state as it is -/
theorem Inv.call' {s' : Shared} {ch : List Addr} (I : Inv X pins σ H s) (ho : s'.os = s.os) (u : Un (frs X.stack) ch H H' s.heap s'.heap) (hok : HOk X.prog X.w H' s'.heap) (hg : AllBare s'.gens)
    (hch : ∀ b ∈ ch, (b ∈ X.ex ∨ X.s₀.heap.objs.size ≤ b) ∧ b ≠ X.env.locals ∧ (∀ x c, X.env.cells.lookup x = some c → c ≠ b) ∧ ∀ p ∈ X.pn ++ pins, p.1 ≠ b) : Inv X pins σ H' s' := by
  obtain ⟨h', g', d', t', o'⟩ := s'
  have e : o' = s.os := ho
  subst e
  exact I.call (g' := g') (t' := t') (d' := d') u hok hg hch
end

/-! ### the judgements -/
/-- an exception: its class, its own dict's address (where it has one), the abstract heap behind it -/
abbrev XK := Value → Option Addr → Hp → Prop
abbrev St := List (Option V)
abbrev VK := V → Hp → Prop
/-- an expression's reading; a test's; an argument list's -/
abbrev TE := St → Hp → VK → Prop
abbrev TT := St → Hp → (Bool → Hp → Prop) → Prop
abbrev TA := St → Hp → (List V → Hp → Prop) → Prop
/-- what is wanted behind a statement -/
structure Ends where
  nx : St → Hp → Prop
  rt : VK
  bk : St → Hp → Prop := fun _ _ => False
  ct : St → Hp → Prop := fun _ _ => False
abbrev TS := Ends → St → Hp → Prop

def EP (X : Cx) (pins : List (Addr × Obj)) (σ : St) (Q : VK) (u : Value) (s' : Shared) : Prop := ∃ v H', Inv X pins σ H' s' ∧ RelV v u ∧ Q v H'
def TP (X : Cx) (pins : List (Addr × Obj)) (σ : St) (Q : Bool → Hp → Prop) (b : Bool) (s' : Shared) : Prop := ∃ H', Inv X pins σ H' s' ∧ Q b H'
def AP (X : Cx) (pins : List (Addr × Obj)) (σ : St) (Q : List V → Hp → Prop) (us : List Value) (s' : Shared) : Prop := ∃ vs H', Inv X pins σ H' s' ∧ Vals vs us ∧ Q vs H'
def SP (X : Cx) (pins : List (Addr × Obj)) (D : Ends) (f : Flow) (s' : Shared) : Prop :=
  match f with
  | .next => ∃ σ' H', Inv X pins σ' H' s' ∧ D.nx σ' H'
  | .brk => ∃ σ' H', Inv X pins σ' H' s' ∧ D.bk σ' H'
  | .cont => ∃ σ' H', Inv X pins σ' H' s' ∧ D.ct σ' H'
  | .ret u => ∃ v σ' H', Inv X pins σ' H' s' ∧ RelV v u ∧ D.rt v H'

def PE (X : Cx) (e : Expr) (t : TE) : Prop :=
  ∀ (pins : List (Addr × Obj)) (s : Shared) (σ : St) (H : Hp) (Q : VK), Inv X pins σ H s → t σ H Q → wpAny (model X.prog X.w) X.A (eval e X.env) (EP X pins σ Q) X.xe s
def PT (X : Cx) (e : Expr) (t : TT) : Prop :=
  ∀ (pins : List (Addr × Obj)) (s : Shared) (σ : St) (H : Hp) (Q : Bool → Hp → Prop), Inv X pins σ H s → t σ H Q → wpAny (model X.prog X.w) X.A (isTrue e X.env (eval e X.env)) (TP X pins σ Q) X.xe s
/-- a test whatever its 'whole' is (and, or) -/
def PW (X : Cx) (e : Expr) (t : TT) : Prop :=
  ∀ (whole : Sem Value) (pins : List (Addr × Obj)) (s : Shared) (σ : St) (H : Hp) (Q : Bool → Hp → Prop), Inv X pins σ H s → t σ H Q → wpAny (model X.prog X.w) X.A (isTrue e X.env whole) (TP X pins σ Q) X.xe s
theorem PW.pt {X : Cx} {e : Expr} {t : TT} (h : PW X e t) : PT X e t := h _
/-- an argument list (no star), from the left -/
def PA (X : Cx) (es : List Expr) (t : TA) : Prop :=
  ∀ (pos : Pos) (pins : List (Addr × Obj)) (s : Shared) (σ : St) (H : Hp) (Q : List V → Hp → Prop), Inv X pins σ H s → t σ H Q → wpAny (model X.prog X.w) X.A (spliced (backTo pos (starEach es X.env))) (AP X pins σ Q) X.xe s
def PS (X : Cx) (st : Stmt) (t : TS) : Prop :=
  ∀ (pins : List (Addr × Obj)) (s : Shared) (σ : St) (H : Hp) (D : Ends), Inv X pins σ H s → t D σ H → wpAny (model X.prog X.w) X.A (exec st X.env) (SP X pins D) X.xe s
def PSs (X : Cx) (st : List Stmt) (t : TS) : Prop :=
  ∀ (pins : List (Addr × Obj)) (s : Shared) (σ : St) (H : Hp) (D : Ends), Inv X pins σ H s → t D σ H → wpAny (model X.prog X.w) X.A (execs st X.env) (SP X pins D) X.xe s
/-- weaken the end -/
theorem thn {α : Type} {t : Sem α} {Q Q' : α → Shared → Prop} {M : Model} {A : Around} {E : Value → Shared → Prop} {s : Shared} (h : wpAny M A t Q E s) (hQ : ∀ a s, Q a s → Q' a s) : wpAny M A t Q' E s := wpAny_mono h hQ fun _ _ x => x
end L2

namespace L2
open PySem PySem.Spec PyProof.Rows
section
variable {X : Cx}

/-! ### names and constants -/
def tVar (i : Nat) : TE := fun σ H Q => ∃ v, σ[i]? = some (some v) ∧ Q v H
def tC (v : V) : TE := fun _ H Q => Q v H
theorem pe_var {i : Nat} {x : Str} {pos : Pos} (hN : X.N[i]? = some x) (hv : Vis X.env.scope x) (hd : (x == ("__debug__" : Str)) = false := by decide) (hcd : (x == ("__classdict__" : Str)) = false := by decide) : PE X (.Name x pos) (tVar i) := by
  intro pins s σ H Q I h
  obtain ⟨v, e, h⟩ := h
  obtain ⟨m, hn, hl⟩ := I.loc
  obtain ⟨u, r, l⟩ := hl i x v hN e hv
  have fin : EP X pins σ Q u s := ⟨v, H, I, r, h⟩
  rcases l with ⟨hk, hm⟩ | ⟨hk, c, hc, hcell⟩
  · exact wpAny_Name (wpAny_loadName_local I.ok.kind hk hn hm fin) hd
  · rcases hk with hk | hk
    · exact wpAny_Name (wpAny_loadName_cell I.ok.kind hk hc hcell fin) hd
    · exact wpAny_Name (wpAny_loadName_free I.ok.kind hk hc hcell fin hcd) hd
theorem pe_int {i j pos} : PE X (.Constant (.int i) j pos) (tC (.int i)) := fun _ _ _ H _ I h => wpAny_Constant_int ⟨.int i, H, I.tok _, ⟨_, rfl⟩, h⟩
theorem pe_bl {b j pos} : PE X (.Constant (.bool b) j pos) (tC (.bl b)) := fun _ _ _ H _ I h => Constant_bool ⟨.bl b, H, I, rfl, h⟩
theorem pe_non {j pos} : PE X (.Constant .none j pos) (tC .non) := fun _ _ _ H _ I h => Constant_none ⟨.non, H, I, rfl, h⟩
theorem pe_str {x j pos} : PE X (.Constant (.str x) j pos) (tC (.str x)) := fun _ _ _ H _ I h => Calls.Constant_str ⟨.str x, H, I.tok _, ⟨_, rfl⟩, h⟩

/-- a global name of the def -/
def Gl (X : Cx) (x : Str) : Prop := X.env.kindOf x = some .globalImplicit
theorem ld_glob {E : Value → Shared → Prop} {pins : List (Addr × Obj)} {s : Shared} {σ : St} {H : Hp} {x : Str} {u : Value} {pos : Pos} {Q : Value → Shared → Prop} (I : Inv X pins σ H s) (hg : Gl X x) (hm : X.mg x = some u) (h : Q u s)
    (hd : (x == ("__debug__" : Str)) = false := by decide) : wpAny (model X.prog X.w) X.A (eval (.Name x pos) X.env) Q E s :=
  Calls.Name_function_global I.ok.kind hg (Calls.loadGlobal_global (by rw [I.ok.glob]; exact I.mod.glob.keeps I.bk) hm h) hd
theorem ld_blt {E : Value → Shared → Prop} {pins : List (Addr × Obj)} {s : Shared} {σ : St} {H : Hp} {x : Str} {u : Value} {pos : Pos} {Q : Value → Shared → Prop} (I : Inv X pins σ H s) (hg : Gl X x) (hm : X.mg x = none) (hv : bootBuiltins x = some u) (h : Q u s)
    (hn : x ≠ "__name__" := by decide) (hd : (x == ("__debug__" : Str)) = false := by decide) : wpAny (model X.prog X.w) X.A (eval (.Name x pos) X.env) Q E s := by
  obtain ⟨mb, h1, h2⟩ := I.mod.blt
  exact Calls.Name_function_global I.ok.kind hg (Calls.loadGlobal_builtin (by rw [I.ok.glob]; exact I.mod.glob.keeps I.bk) hm (by rw [I.ok.blt]; exact h1.keeps I.bk) ((h2 x hn).trans hv) h) hd
/-- a module's constant, a class, a function, as a value -/
theorem pe_glob {x : Str} {v : V} {u : Value} {pos : Pos} (hg : Gl X x) (hm : X.mg x = some u) (r : RelV v u) (hd : (x == ("__debug__" : Str)) = false := by decide) : PE X (.Name x pos) (tC v) :=
  fun _ _ _ H _ I h => ld_glob I hg hm ⟨v, H, I, r, h⟩ hd
theorem pe_bltn {x : Str} {v : V} {u : Value} {pos : Pos} (hg : Gl X x) (hm : X.mg x = none) (hv : bootBuiltins x = some u) (r : RelV v u) (hn : x ≠ "__name__" := by decide) (hd : (x == ("__debug__" : Str)) = false := by decide) : PE X (.Name x pos) (tC v) :=
  fun _ _ _ H _ I h => ld_blt I hg hm hv ⟨v, H, I, r, h⟩ hn hd

/-! ### arithmetic -/
variable {a b : Expr} {ta tb : TE} {pos : Pos}
/-! ### comparisons -/
/-! ### and, or, not -/
variable {tA tB' : TT} {rest : List Expr}
def tAnd (t u : TT) : TT := fun σ H Q => t σ H fun c H1 => if c = true then u σ H1 Q else Q false H1
def tOr (t u : TT) : TT := fun σ H Q => t σ H fun c H1 => if c = true then Q true H1 else u σ H1 Q
def tNot (t : TT) : TT := fun σ H Q => t σ H fun c H1 => Q (!c) H1
theorem pw_and1 (ha : PT X a tA) : PW X (.BoolOp .And [a] pos) tA := by
  intro wh pins s σ H Q I h
  refine isTrue_and (thn (ha pins s σ H Q I h) fun c s1 e => ?_)
  cases c with
  | true => exact isTrue_and_nil e
  | false => exact e
theorem pw_or1 (ha : PT X a tA) : PW X (.BoolOp .Or [a] pos) tA := by
  intro wh pins s σ H Q I h
  refine isTrue_or (thn (ha pins s σ H Q I h) fun c s1 e => ?_)
  cases c with
  | false => exact isTrue_or_nil e
  | true => exact e
theorem pw_and (ha : PT X a tA) (hb : PW X (.BoolOp .And (b :: rest) pos) tB') : PW X (.BoolOp .And (a :: b :: rest) pos) (tAnd tA tB') := by
  intro wh pins s σ H Q I h
  refine isTrue_and (thn (ha pins s σ H _ I h) fun c s1 ⟨H1, I1, q1⟩ => ?_)
  cases c with
  | true => exact hb wh pins s1 σ H1 Q I1 q1
  | false => exact ⟨H1, I1, q1⟩
theorem pw_or (ha : PT X a tA) (hb : PW X (.BoolOp .Or (b :: rest) pos) tB') : PW X (.BoolOp .Or (a :: b :: rest) pos) (tOr tA tB') := by
  intro wh pins s σ H Q I h
  refine isTrue_or (thn (ha pins s σ H _ I h) fun c s1 ⟨H1, I1, q1⟩ => ?_)
  cases c with
  | true => exact ⟨H1, I1, q1⟩
  | false => exact hb wh pins s1 σ H1 Q I1 q1
theorem pt_not (ha : PT X a tA) : PT X (.UnaryOp .Not a pos) (tNot tA) := by
  intro pins s σ H Q I h
  exact isTrue_not (ha pins s σ H (fun c H1 => Q (!c) H1) I h)
/-- .. as values (bools) -/
def tAndV (ta tb : TE) : TE := fun σ H Q => ta σ H fun x H1 => ∃ c, x = .bl c ∧ if c = true then tb σ H1 Q else Q (.bl false) H1
def tOrV (ta tb : TE) : TE := fun σ H Q => ta σ H fun x H1 => ∃ c, x = .bl c ∧ if c = true then Q (.bl true) H1 else tb σ H1 Q
def tNotV (ta : TE) : TE := fun σ H Q => ta σ H fun x H1 => ∃ c, x = .bl c ∧ Q (.bl (!c)) H1
theorem pe_one {op} {t : TE} (h : PE X a t) : PE X (.BoolOp op [a] pos) t := fun pins s σ H Q I hw => BoolOp_one (h pins s σ H Q I hw)
theorem pe_and (ha : PE X a ta) (hb : PE X (.BoolOp .And (b :: rest) pos) tb) : PE X (.BoolOp .And (a :: b :: rest) pos) (tAndV ta tb) := by
  intro pins s σ H Q I h
  refine BoolOp_and (thn (ha pins s σ H _ I h) fun v s1 ⟨x, H1, I1, r1, q1⟩ => ?_)
  obtain ⟨c, rfl, q1⟩ := q1
  cases r1
  refine wpAny_truthy_bool ?_
  cases c with
  | true => exact hb pins s1 σ H1 Q I1 q1
  | false => exact ⟨.bl false, H1, I1, rfl, q1⟩
theorem pe_or (ha : PE X a ta) (hb : PE X (.BoolOp .Or (b :: rest) pos) tb) : PE X (.BoolOp .Or (a :: b :: rest) pos) (tOrV ta tb) := by
  intro pins s σ H Q I h
  refine BoolOp_or (thn (ha pins s σ H _ I h) fun v s1 ⟨x, H1, I1, r1, q1⟩ => ?_)
  obtain ⟨c, rfl, q1⟩ := q1
  cases r1
  refine wpAny_truthy_bool ?_
  cases c with
  | false => exact hb pins s1 σ H1 Q I1 q1
  | true => exact ⟨.bl true, H1, I1, rfl, q1⟩
/-- a if t else b -/
def tIf (t : TT) (ta tb : TE) : TE := fun σ H Q => t σ H fun c H1 => if c = true then ta σ H1 Q else tb σ H1 Q
theorem pe_ifExp {c : Expr} (hc : PT X c tA) (ha : PE X a ta) (hb : PE X b tb) : PE X (.IfExp c a b pos) (tIf tA ta tb) := by
  intro pins s σ H Q I h
  refine wpAny_IfExp (thn (hc pins s σ H _ I h) fun d s1 ⟨H1, I1, q1⟩ => ?_)
  cases d with
  | true => exact ha pins s1 σ H1 Q I1 q1
  | false => exact hb pins s1 σ H1 Q I1 q1
end
end L2

namespace L2
open PySem PySem.Spec PyProof.Rows

/-! ### a list, a tuple that is read: tracked, frozen, or an object of the module -/
def SqL (K : PySem.W.Frag) (H : Hp) (a : Addr) (xs : List V) : Prop :=
  Rd H a (.lst xs) ∨
    ∃ (o : Obj) (its : Array Value) (n : Nat), K.lookup a = some o ∧ o.cls = .type "list" ∧ o.dict = none ∧ o.data = .seq its n ∧ its.size ≤ sizeLine ∧ Vals xs its.toList
def SqT (K : PySem.W.Frag) (H : Hp) (a : Addr) (xs : List V) : Prop :=
  Rd H a (.tup xs) ∨
    ∃ (o : Obj) (its : Array Value) (n : Nat), K.lookup a = some o ∧ o.cls = .type "tuple" ∧ o.data = .seq its n ∧ its.size ≤ sizeLine ∧ Vals xs its.toList
def absV : Value → Option V
  | .none => some .non
  | .bool b => some (.bl b)
  | .int i _ => some (.int i)
  | .str x _ => some (.str x)
  | .bytes b _ => some (.byt b)
  | .float b _ => some (.flt b)
  | .ref a => some (.ref a)
  | .type n => some (.ty n)
  | _ => none
theorem RelV.abs {x : V} {u : Value} (r : RelV x u) : absV u = some x := by
  cases x with
  | non => cases r; rfl
  | bl _ => cases r; rfl
  | int _ => obtain ⟨t, rfl⟩ := r; rfl
  | str _ => obtain ⟨t, rfl⟩ := r; rfl
  | byt _ => obtain ⟨t, rfl⟩ := r; rfl
  | flt _ => obtain ⟨t, rfl⟩ := r; rfl
  | ref _ => cases r; rfl
  | ty _ => cases r; rfl
theorem RelV.inj {x y : V} {u : Value} (r : RelV x u) (q : RelV y u) : x = y := Option.some.inj (r.abs.symm.trans q.abs)
theorem Vals.inj : ∀ {xs ys : List V} {us : List Value}, Vals xs us → Vals ys us → xs = ys
  | _, _, _, .nil, .nil => rfl
  | _, _, _, .cons r t, .cons r' t' => by rw [r.inj r', Vals.inj t t']
section
variable {X : Cx} {pins : List (Addr × Obj)} {σ : St} {H : Hp} {s : Shared} {a : Addr} {xs ys : List V}
theorem SqL.of {K : PySem.W.Frag} (h : H a = some (.lst xs)) : SqL K H a xs := .inl (.inl h)
theorem SqT.of {K : PySem.W.Frag} (h : H a = some (.tup xs)) : SqT K H a xs := .inl (.inl h)
theorem Inv.list (I : Inv X pins σ H s) (h : SqL X.K H a xs) : ∃ its : List Value, Vals xs its ∧ PlainL s.heap a its.toArray ∧ xs.length ≤ sizeLine := by
  rcases h with h | ⟨o, its, n, hk, hc, hd, hs, hz, r⟩
  · obtain ⟨z, its, n, r, e⟩ := h.ok I.hok
    exact ⟨its, r, ⟨_, n, e, rfl, rfl, rfl⟩, z⟩
  · refine ⟨its.toList, r, ⟨o, n, I.kIn a o hk, hc, hd, by simpa using hs⟩, ?_⟩
    have e := r.length
    simp only [Array.length_toList] at e
    omega
theorem Inv.tuple (I : Inv X pins σ H s) (h : SqT X.K H a xs) : ∃ its : List Value, Vals xs its ∧ IsTup s.heap a its.toArray ∧ xs.length ≤ sizeLine := by
  rcases h with h | ⟨o, its, n, hk, hc, hs, hz, r⟩
  · obtain ⟨z, its, r, p⟩ := h.ok I.hok
    exact ⟨its, r, p, z⟩
  · refine ⟨its.toList, r, ⟨o, I.kIn a o hk, hc, n, by simpa using hs⟩, ?_⟩
    have e := r.length
    simp only [Array.length_toList] at e
    omega
theorem Inv.list_inj (I : Inv X pins σ H s) (h : SqL X.K H a xs) (h' : SqL X.K H a ys) : xs = ys := by
  obtain ⟨its, r, ⟨o, n, e, _, _, d⟩, _⟩ := I.list h
  obtain ⟨its', r', ⟨o', n', e', _, _, d'⟩, _⟩ := I.list h'
  rw [e] at e'; cases e'
  rw [d] at d'
  injection d' with d1 _
  have : its = its' := by simpa using congrArg Array.toList d1
  subst this
  exact r.inj r'
end

/-! ### another wish about exceptions -/
abbrev Cx.wish (X : Cx) (E : Value → Shared → Prop) : Cx := { X with xe := E }
/-- no exception leaves -/
abbrev Cx.nox (X : Cx) : Cx := X.wish fun _ _ => False
theorem Cx.Ok.wish {X : Cx} (ok : X.Ok) (E : Value → Shared → Prop) : (X.wish E).Ok :=
  ⟨ok.mod, ok.kind, ok.glob, ok.blt, ok.above, ok.inj, ok.has, ok.cab, ok.hd, ok.frames, ok.stk, ok.exf, ok.bs, ok.bsz, ok.noex, ok.exfs, ok.funs, ok.frf⟩
theorem Cx.Ok.unwish {X : Cx} {E : Value → Shared → Prop} (ok : (X.wish E).Ok) : X.Ok :=
  ⟨ok.mod, ok.kind, ok.glob, ok.blt, ok.above, ok.inj, ok.has, ok.cab, ok.hd, ok.frames, ok.stk, ok.exf, ok.bs, ok.bsz, ok.noex, ok.exfs, ok.funs, ok.frf⟩
section
variable {X : Cx} {pins : List (Addr × Obj)} {σ : St} {H : Hp} {s : Shared} {E : Value → Shared → Prop}
theorem Inv.wish (I : Inv X pins σ H s) (E : Value → Shared → Prop) : Inv (X.wish E) pins σ H s := ⟨I.ok.wish E, I.os, I.bare, I.base, I.loc, I.cell, I.free, I.freeC, I.pin, I.hok, I.len⟩
theorem Inv.unwish (I : Inv (X.wish E) pins σ H s) : Inv X pins σ H s := ⟨I.ok.unwish, I.os, I.bare, I.base, I.loc, I.cell, I.free, I.freeC, I.pin, I.hok, I.len⟩
theorem SP.unwish {D : Ends} {f : Flow} {s' : Shared} (h : SP (X.wish E) pins D f s') : SP X pins D f s' := by
  cases f with
  | next => obtain ⟨σ', H', I, q⟩ := h; exact ⟨σ', H', I.unwish, q⟩
  | brk => obtain ⟨σ', H', I, q⟩ := h; exact ⟨σ', H', I.unwish, q⟩
  | cont => obtain ⟨σ', H', I, q⟩ := h; exact ⟨σ', H', I.unwish, q⟩
  | ret u => obtain ⟨v, σ', H', I, r, q⟩ := h; exact ⟨v, σ', H', I.unwish, r, q⟩
theorem PSs.nox {st : List Stmt} {t : TS} (h : PSs X.nox st t) : PSs X st t := fun pins s σ H D I hw =>
  wpAny_mono (h pins s σ H D (I.wish _) hw) (fun _ _ q => q.unwish) fun _ _ z => False.elim z
end

/-! ### blocks and small statements -/
section
variable {X : Cx} {st : Stmt} {rest : List Stmt} {t u : TS} {e : Expr} {te : TE} {pos : Pos}
def tNext : TS := fun D σ H => D.nx σ H
def tSeq (t u : TS) : TS := fun D σ H => t { D with nx := u D } σ H
theorem pss_nil : PSs X [] tNext := fun _ _ σ H _ I h => wpAny_execs_nil ⟨σ, H, I, h⟩
theorem pss_cons (h1 : PS X st t) (h2 : PSs X rest u) : PSs X (st :: rest) (tSeq t u) := by
  intro pins s σ H D I h
  refine wpAny_execs_cons (thn (h1 pins s σ H { D with nx := u D } I h) fun f s1 q => ?_)
  cases f with
  | next =>
    obtain ⟨σ', H', I', q⟩ := q
    exact h2 pins s1 σ' H' D I' q
  | ret v => exact q
  | brk => exact q
  | cont => exact q
theorem pss_one (h1 : PS X st t) : PSs X [st] t := by
  intro pins s σ H D I h
  refine wpAny_execs_cons (thn (h1 pins s σ H D I h) fun f s1 q => ?_)
  cases f with
  | next => exact wpAny_execs_nil q
  | ret v => exact q
  | brk => exact q
  | cont => exact q
/-- in a def's body nothing is shown -/
theorem Inv.quiet {pins : List (Addr × Obj)} {σ : St} {H : Hp} {s : Shared} (I : Inv X pins σ H s) : interactive X.env = false := by simp [interactive, I.ok.kind]
/-- an expression whose value is dropped -/
def tDrop (te : TE) : TS := fun D σ H => te σ H fun _ H1 => D.nx σ H1
theorem ps_expr (he : PE X e te) (hs : swapsWith e none pos.line X.env = pure false := by rfl) : PS X (.Expr e pos) (tDrop te) := by
  intro pins s σ H D I h
  exact wpAny_Expr_any (thn (he pins s σ H _ I h) fun v s1 ⟨x, H1, I1, r1, q1⟩ => ⟨σ, H1, I1, q1⟩) I.quiet hs
def tRet (te : TE) : TS := fun D σ H => te σ H D.rt
theorem ps_ret (he : PE X e te) : PS X (.Return (some e) pos) (tRet te) := by
  intro pins s σ H D I h
  exact wpAny_Return_some (thn (he pins s σ H _ I h) fun v s1 ⟨x, H1, I1, r1, q1⟩ => ⟨x, σ, H1, I1, r1, q1⟩)
def tRetN : TS := fun D _ H => D.rt .non H
def tIfS (c : TT) (t u : TS) : TS := fun D σ H => c σ H fun b H1 => if b = true then t D σ H1 else u D σ H1
theorem ps_if {c : Expr} {a b : List Stmt} {tc : TT} (hc : PT X c tc) (ha : PSs X a t) (hb : PSs X b u) : PS X (.If c a b pos) (tIfS tc t u) := by
  intro pins s σ H D I h
  refine wpAny_If (thn (hc pins s σ H _ I h) fun d s1 ⟨H1, I1, q1⟩ => ?_)
  cases d with
  | true => exact ha pins s1 σ H1 D I1 q1
  | false => exact hb pins s1 σ H1 D I1 q1
/-- code that the proof never comes to -/
def tNever : TS := fun _ _ _ => False
theorem ps_never : PS X st tNever := fun _ _ _ _ _ _ h => h.elim
end

/-! ### targets -/
abbrev TG := V → St → Hp → (St → Hp → Prop) → Prop
abbrev TGs := List V → St → Hp → (St → Hp → Prop) → Prop
def PG (X : Cx) (target : Expr) (t : TG) : Prop :=
  ∀ (pins : List (Addr × Obj)) (s : Shared) (σ : St) (H : Hp) (v : V) (u : Value) (Q : St → Hp → Prop), Inv X pins σ H s → RelV v u → t v σ H Q →
    wpAny (model X.prog X.w) X.A (assign target X.env u) (fun _ s' => ∃ σ' H', Inv X pins σ' H' s' ∧ Q σ' H') X.xe s
/-- several targets, one after another -/
def PGs (X : Cx) (ts : List Expr) (t : TGs) : Prop :=
  ∀ (pins : List (Addr × Obj)) (s : Shared) (σ : St) (H : Hp) (vs : List V) (us : List Value) (Q : St → Hp → Prop), Inv X pins σ H s → Vals vs us → t vs σ H Q →
    wpAny (model X.prog X.w) X.A (assignInOrder ((assignEach ts X.env).map (·.2)) us) (fun _ s' => ∃ σ' H', Inv X pins σ' H' s' ∧ Q σ' H') X.xe s
/-- o[i] = v, by values -/
abbrev TSet := V → V → V → Hp → (Hp → Prop) → Prop
def PSet (X : Cx) (t : TSet) : Prop :=
  ∀ (pins : List (Addr × Obj)) (s : Shared) (σ : St) (H : Hp) (o i v : V) (ov iv u : Value) (Q : Hp → Prop), Inv X pins σ H s → RelV o ov → RelV i iv → RelV v u → t o i v H Q →
    wpAny (model X.prog X.w) X.A (setItem ov iv u) (fun _ s' => ∃ H', Inv X pins σ H' s' ∧ Q H') X.xe s
section
variable {X : Cx} {pos : Pos}
def gName (i : Nat) : TG := fun v σ H Q => Q (σ.set i (some v)) H
theorem pg_name {i : Nat} {x : Str} (hN : X.N.Nodup) (hi : X.N[i]? = some x) (hx : Loc X.env.scope x) (hf : X.fn x = true ∨ X.env.scope.names.lookup x = some .local := by first | exact .inl rfl | exact .inr rfl | assumption) : PG X (.Name x pos) (gName i) := by
  intro pins s σ H v u Q I r h
  exact wpAny_assign_Name (store_ok I hN hi hx r (fun s' I' => ⟨_, H, I', h⟩) hf)
def gNil : TGs := fun vs σ H Q => vs = [] ∧ Q σ H
def gCons (t : TG) (u : TGs) : TGs := fun vs σ H Q => ∃ v r, vs = v :: r ∧ t v σ H fun σ' H' => u r σ' H' Q
theorem pgs_nil : PGs X [] gNil := by
  intro pins s σ H vs us Q I r h
  obtain ⟨e, h⟩ := h
  subst e
  cases r
  exact assignInOrder_nil ⟨σ, H, I, h⟩
theorem pgs_cons {e : Expr} {es : List Expr} {t : TG} {u : TGs} (h1 : PG X e t) (h2 : PGs X es u)
    (hs : (assignEach (e :: es) X.env).map (·.2) = assign e X.env :: (assignEach es X.env).map (·.2) := by rfl) : PGs X (e :: es) (gCons t u) := by
  intro pins s σ H vs us Q I r h
  obtain ⟨v, vr, e1, h⟩ := h
  subst e1
  cases r with
  | cons r rr =>
    rw [hs]
    refine assignInOrder_cons (thn (h1 pins s σ H _ _ _ I r h) fun _ s1 ⟨σ1, H1, I1, q1⟩ => ?_)
    exact h2 pins s1 σ1 H1 _ _ Q I1 rr q1
/-- (a, b, ..) = a tuple of that length -/
def gTup (K : PySem.W.Frag) (n : Nat) (t : TGs) : TG := fun v σ H Q => ∃ a xs, v = .ref a ∧ SqT K H a xs ∧ xs.length = n ∧ t xs σ H Q
theorem pg_tup {es : List Expr} {k : Nat} {t : TGs} {n : Nat} (hc : X.calm = true) (h : PGs X es t)
    (hn : (assignEach es X.env).length = n := by rfl) (hst : (assignEach es X.env).findIdx? (·.1) = none := by rfl) : PG X (.Tuple es k pos) (gTup X.K n t) := by
  intro pins s σ H v u Q I r hw
  obtain ⟨a, xs, e1, hq, hl, hw⟩ := hw
  subst e1
  cases r
  obtain ⟨its, rv, ht, hz⟩ := I.tuple hq
  refine assign_Tuple_tuple (I.ok.hd hc) ht (by simp [hn, ← hl, rv.length]) hst fun h' hx => ?_
  have I1 : Inv X pins σ H { s with heap := h' } := I.kept (t' := s.toks) fun b o e => hx b o (Nat.ne_of_lt (Heap.lt_size e)) e
  exact h pins _ σ H xs _ Q I1 (by simpa using rv) hw
/-- o[i] = .. -/
def gSub (to ti : TE) (t : TSet) : TG := fun v σ H Q => to σ H fun o H1 => ti σ H1 fun i H2 => t o i v H2 fun H3 => Q σ H3
theorem pg_sub {o i : Expr} {to ti : TE} {t : TSet} (ho : PE X o to) (hi : PE X i ti) (hs : PSet X t)
    (ha : ∀ v, assign (.Subscript o i pos) X.env v = (do
      let ov ← holding [v] (eval o X.env)
      let iv ← holding [v, ov] (eval i X.env)
      standAt pos
      holding [v, ov, iv] (setItem ov iv v)
      release [v, ov, iv] []) := by intro _; rfl) : PG X (.Subscript o i pos) (gSub to ti t) := by
  intro pins s σ H v u Q I r h
  rw [ha]
  refine wpAny_bind (wpAny_holding (thn (ho pins s σ H _ I h) fun ov s1 ⟨x, H1, I1, r1, q1⟩ => ?_))
  refine wpAny_bind (wpAny_holding (thn (hi pins s1 σ H1 _ I1 q1) fun iv s2 ⟨y, H2, I2, r2, q2⟩ => ?_))
  refine wpAny_bind (wpAny_standAt (wpAny_bind (wpAny_holding (thn (hs pins s2 σ H2 x y v ov iv u _ I2 r1 r2 r q2) fun _ s3 ⟨H3, I3, q3⟩ => ?_))))
  exact wpAny_release ⟨σ, H3, I3, q3⟩
/-- target = value -/
def tAsg (te : TE) (g : TG) : TS := fun D σ H => te σ H fun x H1 => g x σ H1 D.nx
theorem ps_asg {tg e : Expr} {te : TE} {g : TG} (he : PE X e te) (hg : PG X tg g) (hs : swapsWithSole [tg] e pos.line X.env = pure false := by rfl) (hw : swappedStores [tg] e X.env = pure none := by rfl)
    (h1 : (assignEach [tg] X.env).map (·.2) = [assign tg X.env] := by rfl) : PS X (.Assign [tg] e pos) (tAsg te g) := by
  intro pins s σ H D I h
  refine wpAny_Assign_stores (thn (he pins s σ H _ I h) fun v s1 ⟨x, H1, I1, r1, q1⟩ => ?_) hs hw
  rw [h1]
  exact thn (hg pins s1 σ H1 x v _ I1 r1 q1) fun _ s2 q => q
/-- name = value -/
theorem ps_set {i : Nat} {x : Str} {e : Expr} {te : TE} {pos' : Pos} (hN : X.N.Nodup) (hi : X.N[i]? = some x) (hx : Loc X.env.scope x) (he : PE X e te) (hs : swapsWith e (some (.Name x pos')) pos.line X.env = pure false := by rfl) (hf : X.fn x = true ∨ X.env.scope.names.lookup x = some .local := by first | exact .inl rfl | exact .inr rfl | assumption) :
    PS X (.Assign [.Name x pos'] e pos) (tAsg te (gName i)) := by
  intro pins s σ H D I h
  refine wpAny_Assign_Name (thn (he pins s σ H _ I h) fun v s1 ⟨y, H1, I1, r1, q1⟩ => ?_) hs
  exact store_ok I1 hN hi hx r1 (fun s2 I2 => ⟨_, H1, I2, q1⟩) hf
end

/-! ### while -/
section
variable {X : Cx} {pos : Pos}
/-- the invariant W with its measure -/
def tWhile (c : TT) (tb : TS) : TS := fun D σ H => ∃ W : Nat → St → Hp → Prop, (∃ m, W m σ H) ∧ ∀ m σ H, W m σ H →
  c σ H fun b H1 => if b = true then ∃ N : St → Hp → Prop, (∀ σ' H', N σ' H' → ∃ m', m' < m ∧ W m' σ' H') ∧ tb { D with nx := N, ct := N, bk := D.nx } σ H1 else D.nx σ H1
theorem ps_while {c : Expr} {body : List Stmt} {tc : TT} {tb : TS} (hp : PassesOwn (model X.prog X.w) X.A X.env X.xe) (hc : PT X c tc) (hb : PSs X body tb) : PS X (.While c body [] pos) (tWhile tc tb) := by
  intro pins s σ H D I h
  obtain ⟨W, ⟨m0, w0⟩, turn⟩ := h
  refine wpAny_While (codeAny_whileLoop (fun n s' => ∃ σ' H', Inv X pins σ' H' s' ∧ W n σ' H') ?_ m0 ⟨σ, H, I, w0⟩)
  rintro n s1 ⟨σ1, H1, I1, w1⟩
  refine wpAny_passesOwn hp (thn (hc pins s1 σ1 H1 _ I1 (turn n σ1 H1 w1)) fun b s2 ⟨H2, I2, q2⟩ => ?_)
  cases b with
  | true =>
    obtain ⟨N, hN, q2⟩ := q2
    rw [if_pos rfl]
    refine wpAny_passesOwn hp (thn (hb pins s2 σ1 H2 _ I2 q2) fun f s3 q3 => ?_)
    cases f with
    | next =>
      obtain ⟨σ3, H3, I3, n3⟩ := q3
      obtain ⟨m', hm, w3⟩ := hN σ3 H3 n3
      exact ⟨m', hm, σ3, H3, I3, w3⟩
    | cont =>
      obtain ⟨σ3, H3, I3, n3⟩ := q3
      obtain ⟨m', hm, w3⟩ := hN σ3 H3 n3
      exact ⟨m', hm, σ3, H3, I3, w3⟩
    | brk => exact q3
    | ret v => exact q3
  | false =>
    rw [if_neg Bool.false_ne_true]
    exact wpAny_execs_nil ⟨σ1, H2, I2, q2⟩
end

/-! ### what a loop or a comprehension walks -/
/-- at turn i: it yields x (the heap may grow), or it stops -/
structure It where
  go : Nat → Hp → Prop
  yld : Nat → Hp → V → Hp → Prop
  stop : Nat → Hp → Prop
/-- the iterator's own objects may turn: they are not the frame's, not pinned, younger than the entry (or a comprehension's own) -/
def FpOk (X : Cx) (pins : List (Addr × Obj)) (H : Hp) (b : Addr) : Prop :=
  H b = none ∧ b ≠ X.env.locals ∧ b ∉ X.fs ∧ (b ∈ X.ex ∨ X.s₀.heap.objs.size ≤ b) ∧ (∀ x c, X.env.cells.lookup x = some c → c ≠ b) ∧ ∀ p ∈ X.pn ++ pins, p.1 ≠ b
theorem Inv.fpOk {X : Cx} {pins : List (Addr × Obj)} {σ : St} {H H' : Hp} {s : Shared} {b : Addr} (I : Inv X pins σ H s) (hb : s.heap.objs.size ≤ b) (hn : H' b = none) : FpOk X pins H' b := by
  refine ⟨hn, Nat.ne_of_gt (Nat.lt_of_lt_of_le I.lt hb), I.nofs hb, .inr (Nat.le_trans I.sz hb), fun x c e z => ?_, fun p hp z => ?_⟩
  · obtain ⟨v, q⟩ := I.cell x c e
    exact absurd (Nat.lt_of_lt_of_le q.lt (by rw [z]; exact hb)) (Nat.lt_irrefl _)
  · exact absurd (Nat.lt_of_lt_of_le (Heap.lt_size (I.pin p hp).1) (by rw [z]; exact hb)) (Nat.lt_irrefl _)
structure Turn (P : Program) (w : World) (K : PySem.W.Frag) (tg : Expr) (J : It) (fp : List Addr) (it : Addr) (tn : Nat → Heap → Prop) : Prop where
  mem : it ∈ fp
  obj : ∀ i h, tn i h → ∀ b ∈ fp, ∃ o, h.get? b = some o ∧ ∀ v, o.data ≠ .cell v
  keep : ∀ i h h', tn i h → (∀ b ∈ fp, ∀ o, h.get? b = some o → h'.get? b = some o) → tn i h'
  item : ∀ (X : Cx), X.prog = P → X.w = w → X.K = K → X.calm = true → ∀ (i : Nat) (pins : List (Addr × Obj)) (s : Shared) (σ : St) (H : Hp) (E : Value → Shared → Prop), Inv X pins σ H s → (∀ b ∈ fp, FpOk X pins H b) → tn i s.heap → J.go i H →
    wpAny (model P w) X.A (pyNext (.ref it)) (fun r s1 => ∃ u, r = some u ∧
      wpAny (model P w) X.A (letOwnedTupleGo tg (.ref it) u) (fun _ s2 => ∃ x H', Inv X pins σ H' s2 ∧ RelV x u ∧ J.yld i H x H' ∧ tn (i + 1) s2.heap ∧ ∀ b ∈ fp, H' b = none) E s1) E s
  done : ∀ (X : Cx), X.prog = P → X.w = w → X.K = K → X.calm = true → ∀ (i : Nat) (pins : List (Addr × Obj)) (s : Shared) (σ : St) (H : Hp) (E : Value → Shared → Prop), Inv X pins σ H s → (∀ b ∈ fp, FpOk X pins H b) → tn i s.heap → J.stop i H →
    wpAny (model P w) X.A (pyNext (.ref it)) (fun r s1 => r = none ∧ Inv X pins σ H s1) E s
  self : ∀ (A : Around) (i : Nat) (s : Shared) (Q : Value → Shared → Prop) (E : Value → Shared → Prop), tn i s.heap → Q (.ref it) s → wpAny (model P w) A (pyIter (.ref it)) Q E s
abbrev TI := St → Hp → (It → Hp → Prop) → Prop
/-- an iterator has come -/
def PIE (X : Cx) (pins : List (Addr × Obj)) (σ : St) (tg : Expr) (R : It → Hp → Prop) (itv : Value) (s2 : Shared) : Prop :=
  ∃ (it : Addr) (fp : List Addr) (tn : Nat → Heap → Prop) (J : It) (H' : Hp), itv = .ref it ∧ Inv X pins σ H' s2 ∧ Turn X.prog X.w X.K tg J fp it tn ∧ tn 0 s2.heap ∧ (∀ b ∈ fp, FpOk X pins H' b) ∧ R J H'
def PI (X : Cx) (tg iter : Expr) (wi : TI) : Prop :=
  ∀ (pins : List (Addr × Obj)) (s : Shared) (σ : St) (H : Hp) (R : It → Hp → Prop), Inv X pins σ H s → wi σ H R →
    wpAny (model X.prog X.w) X.A (eval iter X.env) (fun v s1 => wpAny (model X.prog X.w) X.A (pyIter v) (PIE X pins σ tg R) X.xe s1) X.xe s

/-- the step ahead of the store is nothing for an iterator that keeps no tuple -/
theorem go_of {M : Model} {A : Around} {E : Value → Shared → Prop} {s : Shared} {tg : Expr} {it : Addr} {u : Value} {o : Obj} {n : String} {vs : Array Value} {Q : Unit → Shared → Prop} (ho : s.heap.get? it = some o) (hc : o.cls = .type n) (hd : o.data = .fields vs)
    (hn : ["enumerate", "zip", "dict_itemiterator", "dict_reverseitemiterator", "odict_iterator", "itertools.zip_longest", "itertools.pairwise"].contains n = false) (hQ : Q () s) : wpAny M A (letOwnedTupleGo tg (.ref it) u) Q E s := by
  unfold letOwnedTupleGo
  cases tg <;> first
    | exact wpAny_pure hQ
    | (cases u <;> first
        | exact wpAny_pure hQ
        | (refine wpAny_bind (wpAny_load ho ?_)
           rw [hc, hd]
           show wpAny M A (if (["enumerate", "zip", "dict_itemiterator", "dict_reverseitemiterator", "odict_iterator", "itertools.zip_longest", "itertools.pairwise"].contains n && vs[0]? == some (rawInt _)) = true then _ else _) Q E s
           rw [if_neg (by intro h; rw [hn, Bool.false_and] at h; cases h)]
           exact wpAny_pure hQ))

/-- the list at a, as it stands at each turn (a loop may append to it) -/
def Itl (K : PySem.W.Frag) (a : Addr) : It :=
  ⟨fun i H => ∃ xs x, SqL K H a xs ∧ xs[i]? = some x, fun i H x H' => H' = H ∧ ∀ xs, SqL K H a xs → xs[i]? = some x, fun i H => ∃ xs, SqL K H a xs ∧ xs.length ≤ i⟩
/-- lo, lo + 1, .. (n of them) -/
def Itr (lo : Int) (n : Nat) : It := ⟨fun i _ => i < n, fun i H x H' => H' = H ∧ x = .int (lo + i), fun i _ => n ≤ i⟩
theorem turn_list {P : Program} {w : World} {K : PySem.W.Frag} {tg : Expr} (a it : Addr) : Turn P w K tg (Itl K a) [it] it (fun i h => h.IsListIter it a i) where
  mem := by simp
  obj := fun i h st b hb => by
    have e : b = it := by simpa using hb
    subst e
    obtain ⟨o, e, c, d⟩ := st
    exact ⟨o, e, fun v z => by rw [d] at z; cases z⟩
  keep := fun i h h' st k => st.at fun o e => k it (by simp) o e
  item := by
    intro X hP hw hK hc i pins s σ H E I hf st hg
    subst hP hw hK
    obtain ⟨xs, x, hq, hx⟩ := hg
    obtain ⟨its, rv, p, hz⟩ := I.list hq
    obtain ⟨u, hu, ru⟩ := rv.get hx
    obtain ⟨f0, f1, f2, f3, f4, f5⟩ := hf it (by simp)
    refine wpAny_pyNext_list_item st p.isList (x := u) (by simpa using hu) fun h' st' sb => ?_
    have I1 : Inv X pins σ H { s with heap := h' } := I.turned (t' := s.toks) (fun b o hb e => (sb.2 b hb).trans e) f0 f1 f3 f4 f5
    obtain ⟨o, e, c, d⟩ := id st'
    exact ⟨u, rfl, go_of (s := { s with heap := h' }) e c d (by decide) ⟨x, H, I1, ru, ⟨rfl, fun ys hy => by rw [I.list_inj hy hq]; exact hx⟩, st', fun b hb => (hf b hb).1⟩⟩
  done := by
    intro X hP hw hK hc i pins s σ H E I hf st hg
    subst hP hw hK
    obtain ⟨xs, hq, hx⟩ := hg
    obtain ⟨its, rv, p, hz⟩ := I.list hq
    obtain ⟨f0, f1, f2, f3, f4, f5⟩ := hf it (by simp)
    have hl := rv.length
    exact wpAny_pyNext_list_end (I.ok.hd hc) st p.isList (by simp; omega) fun h' eb => ⟨rfl, I.turned (t' := s.toks) (fun b o hb e => eb b o hb e) f0 f1 f3 f4 f5⟩
  self := fun _ _ _ _ _ st h => wpAny_pyIter_listiter st h
theorem turn_range {P : Program} {w : World} {K : PySem.W.Frag} {tg : Expr} (it : Addr) (lo : Int) (n : Nat) : Turn P w K tg (Itr lo n) [it] it (fun i h => IsRangeIter h it (lo + (i : Nat) * 1) ((n : Int) - (i : Nat)) 1) where
  mem := by simp
  obj := fun i h st b hb => by
    have e : b = it := by simpa using hb
    subst e
    exact ⟨_, st, fun v z => by
      have z' : Data.fields _ = Data.cell v := z
      cases z'⟩
  keep := fun i h h' st k => k it (by simp) _ st
  item := by
    intro X hP hw hK hc i pins s σ H E I hf st hg
    subst hP hw hK
    obtain ⟨f0, f1, f2, f3, f4, f5⟩ := hf it (by simp)
    have W := Walks.range (prog := X.prog) (w := X.w) (I.ok.hd hc) it lo 1 n
    refine W.item i s _ _ hg st fun v h' tk hv st' kk => ?_
    obtain ⟨t, rfl⟩ := hv
    have I1 : Inv X pins σ H { s with heap := h', toks := tk } := I.turned (fun b o hb e => kk b o (by simpa using hb) e) f0 f1 f3 f4 f5
    refine ⟨_, rfl, go_of (s := { s with heap := h', toks := tk }) (n := "range_iterator") st' rfl rfl (by decide) ⟨.int (lo + i), H, I1, ⟨t, ?_⟩, ⟨rfl, rfl⟩, st', fun b hb => (hf b hb).1⟩⟩
    rw [Int.mul_one]
  done := by
    intro X hP hw hK hc i pins s σ H E I hf st hg
    subst hP hw hK
    obtain ⟨f0, f1, f2, f3, f4, f5⟩ := hf it (by simp)
    exact wpAny_pyNext_range_end (I.ok.hd hc) st (by have : n ≤ i := hg; omega) fun h' eb => ⟨rfl, I.turned (t' := s.toks) (fun b o hb e => eb b o hb e) f0 f1 f3 f4 f5⟩
  self := fun _ _ _ _ _ st h => wpAny_pyIter_rangeiter st h
end L2

namespace L2
open PySem PySem.Spec PyProof.Rows
section
variable {X : Cx} {tg : Expr}
def iList (K : PySem.W.Frag) (tl : TE) : TI := fun σ H R => tl σ H fun x H1 => ∃ a, x = .ref a ∧ (∃ xs, SqL K H1 a xs) ∧ R (Itl K a) H1
theorem pi_list {l : Expr} {tl : TE} (hl : PE X l tl) : PI X tg l (iList X.K tl) := by
  intro pins s σ H R I h
  refine thn (hl pins s σ H _ I h) fun v s1 ⟨x, H1, I1, r1, q1⟩ => ?_
  obtain ⟨a, e, ⟨xs, hq⟩, q⟩ := q1
  subst e
  cases r1
  obtain ⟨its, rv, p, hz⟩ := I1.list hq
  refine wpAny_pyIter_list p.isList ?_
  refine ⟨s1.heap.objs.size, [s1.heap.objs.size], _, _, H1, rfl, I1.kept (t' := s1.toks) fun b o e => Heap.get?_push_of_some _ e, turn_list a _, ⟨_, Heap.get?_push_size _ rfl, rfl, rfl⟩, fun b hb => ?_, q⟩
  have e : b = s1.heap.objs.size := by simpa using hb
  subst e
  exact I1.fpOk (Nat.le_refl _) (I1.hok.fresh (Nat.le_refl _))
/-- a range object just made, walked -/
theorem range_it {pins : List (Addr × Obj)} {σ : St} {H : Hp} {s : Shared} {R : It → Hp → Prop} {E : Value → Shared → Prop} {lo hi : Int} {t u v : Tok} {tk : Nat} (I : Inv X pins σ H s) (h1 : -(2 ^ 62) ≤ lo) (h2 : lo < 2 ^ 62) (h3 : -(2 ^ 62) ≤ hi) (h4 : hi < 2 ^ 62)
    (q : R (Itr lo (hi - lo).toNat) H) : wpAny (model X.prog X.w) X.A (pyIter (.ref s.heap.objs.size)) (PIE X pins σ tg R) E { s with heap := s.heap.push { cls := .type "range", data := .fields #[.int lo t, .int hi u, .int 1 v] }, toks := tk } := by
  refine wpAny_pyIter_range (IsRange.new ..) (small_one h1 h2 h3 h4) ?_
  have I1 : Inv X pins σ H { s with heap := s.heap.push { cls := .type "range", data := .fields #[.int lo t, .int hi u, .int 1 v] }, toks := tk } := I.kept fun b o e => Heap.get?_push_of_some _ e
  refine ⟨(s.heap.push { cls := .type "range", data := .fields #[.int lo t, .int hi u, .int 1 v] }).objs.size, [(s.heap.push { cls := .type "range", data := .fields #[.int lo t, .int hi u, .int 1 v] }).objs.size], _, _, H, rfl,
    I1.kept (t' := tk) fun b o e => Heap.get?_push_of_some _ e, turn_range _ lo (hi - lo).toNat, ?_, fun b hb => ?_, q⟩
  · have e1 : lo + ((0 : Nat) : Int) * 1 = lo := by simp
    have e2 : (((hi - lo).toNat : Nat) : Int) - ((0 : Nat) : Int) = Builtin.Range.rangeSize lo hi 1 := by rw [rangeSize_one]; split <;> omega
    show IsRangeIter _ _ (lo + ((0 : Nat) : Int) * 1) ((((hi - lo).toNat : Nat) : Int) - ((0 : Nat) : Int)) 1
    rw [e1, e2]
    exact Heap.get?_push_size _ rfl
  · have e : b = (s.heap.push { cls := .type "range", data := .fields #[.int lo t, .int hi u, .int 1 v] }).objs.size := by simpa using hb
    subst e
    exact I1.fpOk (Nat.le_refl _) (I1.hok.fresh (Nat.le_refl _))
def iRng1 (ta : TA) : TI := fun σ H R => ta σ H fun vs H1 => ∃ j : Int, vs = [.int j] ∧ -(2 ^ 62) ≤ j ∧ j < 2 ^ 62 ∧ R (Itr 0 j.toNat) H1
def iRng2 (ta : TA) : TI := fun σ H R => ta σ H fun vs H1 => ∃ i j : Int, vs = [.int i, .int j] ∧ (-(2 ^ 62) ≤ i ∧ i < 2 ^ 62 ∧ -(2 ^ 62) ≤ j ∧ j < 2 ^ 62) ∧ R (Itr i (j - i).toNat) H1
theorem pi_range1 {a : Expr} {ta : TA} {p pos : Pos} (hg : Gl X "range") (hm : X.mg "range" = none) (ha : PA X [a] ta) (hs : starEach [a] X.env = [(false, eval a X.env)] := by rfl) : PI X tg (.Call (.Name "range" p) [a] [] pos) (iRng1 ta) := by
  intro pins s σ H R I h
  refine Call_ (ld_blt I hg hm boot_range (PyProof.Rows.callWith_type1 (thn (ha pos pins s σ H _ I h) fun us s1 ⟨vs, H1, I1, r1, q1⟩ => ?_) hs rfl))
  obtain ⟨j, e, q1, q2, q⟩ := q1
  subst e
  cases r1 with
  | cons r rr =>
    cases rr
    obtain ⟨t, rfl⟩ := r
    exact call_range_1 (range_it I1 (by omega) (by omega) q1 q2 (by simpa using q))
theorem pi_range2 {a b : Expr} {ta : TA} {p pos : Pos} (hg : Gl X "range") (hm : X.mg "range" = none) (ha : PA X [a, b] ta) (hs : starEach [a, b] X.env = [(false, eval a X.env), (false, eval b X.env)] := by rfl) (hs2 : starEach [b] X.env = [(false, eval b X.env)] := by rfl) :
    PI X tg (.Call (.Name "range" p) [a, b] [] pos) (iRng2 ta) := by
  intro pins s σ H R I h
  refine Call_ (ld_blt I hg hm boot_range (PyProof.Rows.callWith_type1 (thn (ha pos pins s σ H _ I h) fun us s1 ⟨vs, H1, I1, r1, q1⟩ => ?_) (by rw [hs, hs2]) (by rw [hs2]; rfl)))
  obtain ⟨i, j, e, ⟨q1, q2, q3, q4⟩, q⟩ := q1
  subst e
  cases r1 with
  | cons r rr =>
    cases rr with
    | cons r' rr =>
      cases rr
      obtain ⟨t, rfl⟩ := r
      obtain ⟨t', rfl⟩ := r'
      exact call_range_2 (range_it I1 q1 q2 q3 q4 q)

/-! ### for -/
/-- W: the invariant by the turn and a measure; N: what the body is to reach -/
def tFor (wi : TI) (g : TG) (tb : TS) : TS := fun D σ H => wi σ H fun J H1 => ∃ W : Nat → Nat → St → Hp → Prop, (∃ m, W 0 m σ H1) ∧ ∀ i m σ H, W i m σ H →
  (J.stop i H ∧ D.nx σ H) ∨ (J.go i H ∧ ∃ N : St → Hp → Prop, (∀ σ' H', N σ' H' → ∃ m', m' < m ∧ W (i + 1) m' σ' H') ∧ ∀ x H', J.yld i H x H' → g x σ H' fun σ2 H2 => tb { D with nx := N, ct := N, bk := D.nx } σ2 H2)
/-- the records at fp as they stand -/
def pinsAt (fp : List Addr) (h : Heap) : List (Addr × Obj) := fp.filterMap fun b => (h.get? b).map fun o => (b, o)
theorem mem_pinsAt {fp : List Addr} {h : Heap} {b : Addr} {o : Obj} (hb : b ∈ fp) (e : h.get? b = some o) : (b, o) ∈ pinsAt fp h := List.mem_filterMap.mpr ⟨b, hb, by rw [e]; rfl⟩
theorem of_pinsAt {fp : List Addr} {h : Heap} {p : Addr × Obj} (hp : p ∈ pinsAt fp h) : p.1 ∈ fp ∧ h.get? p.1 = some p.2 := by
  obtain ⟨b, hb, e⟩ := List.mem_filterMap.mp hp
  cases q : h.get? b with
  | none => rw [q] at e; cases e
  | some o =>
    rw [q] at e
    have e' : (b, o) = p := Option.some.inj e
    subst e'
    exact ⟨hb, q⟩
theorem Inv.pinned {pins : List (Addr × Obj)} {σ : St} {H : Hp} {s : Shared} {fp : List Addr} (I : Inv X pins σ H s) (hf : ∀ b ∈ fp, FpOk X pins H b) (ho : ∀ b ∈ fp, ∃ o, s.heap.get? b = some o ∧ ∀ v, o.data ≠ .cell v) : Inv X (pins ++ pinsAt fp s.heap) σ H s :=
  I.pins_of fun p hp => (List.mem_append.mp hp).elim (fun z => I.pin p (List.mem_append_right _ z)) fun z => by
    obtain ⟨hb, e⟩ := of_pinsAt z
    obtain ⟨f0, f1, f2, _⟩ := hf p.1 hb
    obtain ⟨o, e', d⟩ := ho p.1 hb
    rw [e] at e'; cases e'
    exact ⟨e, f0, f1, f2, d⟩
theorem Inv.unpinned {pins pl : List (Addr × Obj)} {σ : St} {H : Hp} {s : Shared} (I : Inv X (pins ++ pl) σ H s) : Inv X pins σ H s := I.pins_of fun p hp => I.pin p (List.mem_append_right _ (List.mem_append_left _ hp))
theorem ps_for {iter : Expr} {body : List Stmt} {wi : TI} {g : TG} {tb : TS} {pos : Pos} (hp : PassesOwn (model X.prog X.w) X.A X.env X.xe) (hc : X.calm = true) (hi : PI X tg iter wi) (hg : PG X tg g) (hb : PSs X body tb)
    (hs : ∀ x, foldedSetIterable iter X.env x = pure x := by intro _; rfl) : PS X (.For tg iter body [] pos) (tFor wi g tb) := by
  intro pins s σ H D I h
  refine wpAny_For (thn (hi pins s σ H _ I h) fun v s1 h1 => thn h1 fun itv s2 h2 => ?_) hs
  obtain ⟨it, fp, tn, J, H2, e, I2, T, st2, f2, W, ⟨m0, w0⟩, turn⟩ := h2
  subst e
  -- what stays true of the iterator's objects through the loop
  have stat : ∀ {H' : Hp}, (∀ b ∈ fp, H' b = none) → ∀ b ∈ fp, FpOk X pins H' b := fun hn b hb => ⟨hn b hb, (f2 b hb).2⟩
  refine codeAny_forLoop_any (fun n s' => ∃ i σ' H', Inv X pins σ' H' s' ∧ tn i s'.heap ∧ (∀ b ∈ fp, H' b = none) ∧ W i n σ' H') ?_ m0 ⟨0, σ, H2, I2, st2, fun b hb => (f2 b hb).1, w0⟩
  rintro n s3 ⟨i, σ3, H3, I3, st3, fr3, w3⟩
  rcases turn i n σ3 H3 w3 with ⟨stop, qn⟩ | ⟨go, N, hN, step⟩
  · refine wpAny_passesOwn hp (thn (T.done X rfl rfl rfl hc i pins s3 σ3 H3 X.xe I3 (stat fr3) st3 stop) fun r s4 ⟨hr, I4⟩ => ?_)
    subst hr
    exact wpAny_execs_nil ⟨σ3, H3, I4, qn⟩
  · refine wpAny_passesOwn hp (thn (T.item X rfl rfl rfl hc i pins s3 σ3 H3 X.xe I3 (stat fr3) st3 go) fun r s4 ⟨u, hr, h4⟩ => ?_)
    subst hr
    refine wpAny_passesOwn hp (thn h4 fun _ s5 ⟨x, H5, I5, r5, y5, st5, fr5⟩ => ?_)
    have I5' := I5.pinned (stat fr5) (T.obj _ _ st5)
    refine wpAny_passesOwn hp (thn (hg _ s5 σ3 H5 x u _ I5' r5 (step x H5 y5)) fun _ s6 ⟨σ6, H6, I6, q6⟩ => ?_)
    refine wpAny_passesOwn hp (thn (hb _ s6 σ6 H6 _ I6 q6) fun f s7 q7 => ?_)
    have again : ∀ {σ7 : St} {H7 : Hp}, Inv X (pins ++ pinsAt fp s5.heap) σ7 H7 s7 → N σ7 H7 → ∃ m, m < n ∧ ∃ i σ' H', Inv X pins σ' H' s7 ∧ tn i s7.heap ∧ (∀ b ∈ fp, H' b = none) ∧ W i m σ' H' := fun {σ7 H7} I7 n7 => by
      obtain ⟨m', hm, w7⟩ := hN σ7 H7 n7
      refine ⟨m', hm, i + 1, σ7, H7, I7.unpinned, T.keep _ _ _ st5 fun b hb o e => (I7.pin (b, o) (List.mem_append_right _ (List.mem_append_right _ (mem_pinsAt hb e)))).1, fun b hb => ?_, w7⟩
      obtain ⟨o, e, d⟩ := T.obj _ _ st5 b hb
      exact (I7.pin (b, o) (List.mem_append_right _ (List.mem_append_right _ (mem_pinsAt hb e)))).2.1
    cases f with
    | next => obtain ⟨σ7, H7, I7, n7⟩ := q7; exact again I7 n7
    | cont => obtain ⟨σ7, H7, I7, n7⟩ := q7; exact again I7 n7
    | brk => obtain ⟨σ7, H7, I7, q7⟩ := q7; exact ⟨σ7, H7, I7.unpinned, q7⟩
    | ret v => obtain ⟨x7, σ7, H7, I7, r7, q7⟩ := q7; exact ⟨x7, σ7, H7, I7.unpinned, r7, q7⟩
end

/-! ### the forms one uses -/
/-- over a list that the body leaves as it is -/
theorem for_list {K : PySem.W.Frag} {a : Addr} {xs : List V} {g : TG} {tb : TS} {D : Ends} {σ : St} {H : Hp} (Pv : Nat → St → Hp → Prop) (h0 : Pv 0 σ H) (hl : ∀ i σ H, i ≤ xs.length → Pv i σ H → SqL K H a xs)
    (hs : ∀ i x σ H, xs[i]? = some x → Pv i σ H → g x σ H fun σ2 H2 => tb { D with nx := Pv (i + 1), ct := Pv (i + 1), bk := D.nx } σ2 H2) (hd : ∀ σ H, Pv xs.length σ H → D.nx σ H) :
    ∃ W : Nat → Nat → St → Hp → Prop, (∃ m, W 0 m σ H) ∧ ∀ i m σ H, W i m σ H →
      ((Itl K a).stop i H ∧ D.nx σ H) ∨ ((Itl K a).go i H ∧ ∃ N : St → Hp → Prop, (∀ σ' H', N σ' H' → ∃ m', m' < m ∧ W (i + 1) m' σ' H') ∧ ∀ x H', (Itl K a).yld i H x H' → g x σ H' fun σ2 H2 => tb { D with nx := N, ct := N, bk := D.nx } σ2 H2) := by
  refine ⟨fun i m σ H => m = xs.length - i ∧ i ≤ xs.length ∧ Pv i σ H, ⟨xs.length, by simp, Nat.zero_le _, h0⟩, ?_⟩
  rintro i m σ H ⟨rfl, hi, p⟩
  have q := hl i σ H hi p
  by_cases hlt : i < xs.length
  · refine .inr ⟨⟨xs, xs[i], q, by simp [hlt]⟩, Pv (i + 1), fun σ' H' p' => ⟨xs.length - (i + 1), by omega, rfl, hlt, p'⟩, fun x H' y => ?_⟩
    obtain ⟨e, y⟩ := y
    subst e
    exact hs i x σ _ (y xs q) p
  · have e : i = xs.length := by omega
    subst e
    exact .inl ⟨⟨xs, q, Nat.le_refl _⟩, hd σ H p⟩
theorem for_range {lo : Int} {n : Nat} {g : TG} {tb : TS} {D : Ends} {σ : St} {H : Hp} (Pv : Nat → St → Hp → Prop) (h0 : Pv 0 σ H)
    (hs : ∀ i σ H, i < n → Pv i σ H → g (.int (lo + i)) σ H fun σ2 H2 => tb { D with nx := Pv (i + 1), ct := Pv (i + 1), bk := D.nx } σ2 H2) (hd : ∀ σ H, Pv n σ H → D.nx σ H) :
    ∃ W : Nat → Nat → St → Hp → Prop, (∃ m, W 0 m σ H) ∧ ∀ i m σ H, W i m σ H →
      ((Itr lo n).stop i H ∧ D.nx σ H) ∨ ((Itr lo n).go i H ∧ ∃ N : St → Hp → Prop, (∀ σ' H', N σ' H' → ∃ m', m' < m ∧ W (i + 1) m' σ' H') ∧ ∀ x H', (Itr lo n).yld i H x H' → g x σ H' fun σ2 H2 => tb { D with nx := N, ct := N, bk := D.nx } σ2 H2) := by
  refine ⟨fun i m σ H => m = n - i ∧ i ≤ n ∧ Pv i σ H, ⟨n, by simp, Nat.zero_le _, h0⟩, ?_⟩
  rintro i m σ H ⟨rfl, hi, p⟩
  by_cases hlt : i < n
  · refine .inr ⟨hlt, Pv (i + 1), fun σ' H' p' => ⟨n - (i + 1), by omega, rfl, hlt, p'⟩, fun x H' y => ?_⟩
    obtain ⟨e, y⟩ := y
    subst e y
    exact hs i σ _ hlt p
  · have e : i = n := by omega
    subst e
    exact .inl ⟨Nat.le_refl _, hd σ H p⟩
/-- while, by a word and a measure of the state -/
theorem while_by {c : TT} {tb : TS} {D : Ends} {σ : St} {H : Hp} (Pv : St → Hp → Prop) (μ : St → Hp → Nat) (h0 : Pv σ H)
    (hs : ∀ σ H, Pv σ H → c σ H fun b H1 => if b = true then tb { D with nx := fun σ' H' => Pv σ' H' ∧ μ σ' H' < μ σ H, ct := fun σ' H' => Pv σ' H' ∧ μ σ' H' < μ σ H, bk := D.nx } σ H1 else D.nx σ H1)
    (mono : ∀ σ H Q Q', (∀ b H1, Q b H1 → Q' b H1) → c σ H Q → c σ H Q') : tWhile c tb D σ H := by
  refine ⟨fun m σ H => m = μ σ H ∧ Pv σ H, ⟨_, rfl, h0⟩, ?_⟩
  rintro m σ H ⟨rfl, p⟩
  refine mono σ H _ _ (fun b H1 q => ?_) (hs σ H p)
  cases b with
  | true => exact ⟨_, fun σ' H' ⟨p', l⟩ => ⟨_, l, rfl, p'⟩, q⟩
  | false => exact q
end L2

namespace L2
open PySem PySem.Spec PyProof.Rows

abbrev R2 := V → V → Hp → VK → Prop
/-- a two-place operation on values: f is binaryOp op, inplaceOp op or compareOp op -/
def OpR (X : Cx) (f : Value → Value → Sem Value) (r : R2) : Prop :=
  ∀ (pins : List (Addr × Obj)) (s : Shared) (σ : St) (H : Hp) (x y : V) (v u : Value) (Q : VK), Inv X pins σ H s → RelV x v → RelV y u → r x y H Q →
    wpAny (model X.prog X.w) X.A (f v u) (EP X pins σ Q) X.xe s
/-- a call of a value that is known (a builtin, a type) with values -/
def CallR (X : Cx) (f : Value) (r : List V → Hp → VK → Prop) : Prop :=
  ∀ (pins : List (Addr × Obj)) (s : Shared) (σ : St) (H : Hp) (xs : List V) (us : List Value) (Q : VK), Inv X pins σ H s → Vals xs us → r xs H Q →
    wpAny (model X.prog X.w) X.A (call f us) (EP X pins σ Q) X.xe s
/-- a value's truth -/
def TruR (X : Cx) (r : V → Hp → (Bool → Hp → Prop) → Prop) : Prop :=
  ∀ (pins : List (Addr × Obj)) (s : Shared) (σ : St) (H : Hp) (x : V) (v : Value) (Q : Bool → Hp → Prop), Inv X pins σ H s → RelV x v → r x H Q →
    wpAny (model X.prog X.w) X.A (truthy v) (TP X pins σ Q) X.xe s

def tOp (r : R2) (ta tb : TE) : TE := fun σ H Q => ta σ H fun x H1 => tb σ H1 fun y H2 => r x y H2 Q
def tUn (r : V → Hp → VK → Prop) (ta : TE) : TE := fun σ H Q => ta σ H fun x H1 => r x H1 Q
/-- ints in, under C, and a value out -/
def rI (C : Int → Int → Prop) (g : Int → Int → V) : R2 := fun x y H Q => ∃ i j, x = .int i ∧ y = .int j ∧ C i j ∧ Q (g i j) H
def rI0 (g : Int → Int → V) : R2 := fun x y H Q => ∃ i j, x = .int i ∧ y = .int j ∧ Q (g i j) H
def rU (g : Int → V) : V → Hp → VK → Prop := fun x H Q => ∃ i, x = .int i ∧ Q (g i) H

section
variable {X : Cx} {a b c : Expr} {ta tb tc : TE} {pos : Pos}

theorem binT (ha : PE X a ta) (hb : PE X b tb) {pins : List (Addr × Obj)} {s : Shared} {σ : St} {H : Hp} {R : V → V → Hp → Prop} (I : Inv X pins σ H s)
    (h : ta σ H fun x H1 => tb σ H1 fun y H2 => R x y H2) {Q : Value → Shared → Prop} {f : Value → Value → Sem Value}
    (hf : ∀ v u s2 x y H2, Inv X pins σ H2 s2 → RelV x v → RelV y u → R x y H2 → wpAny (model X.prog X.w) X.A (f v u) Q X.xe s2) :
    wpAny (model X.prog X.w) X.A (eval a X.env) (fun v s₁ => wpAny (model X.prog X.w) X.A (eval b X.env) (fun u s₂ => wpAny (model X.prog X.w) X.A (f v u) Q X.xe s₂) X.xe s₁) X.xe s := by
  refine thn (ha pins s σ H _ I h) fun v s1 ⟨x, H1, I1, r1, q1⟩ => ?_
  refine thn (hb pins s1 σ H1 _ I1 q1) fun u s2 ⟨y, H2, I2, r2, q2⟩ => ?_
  exact hf v u s2 x y H2 I2 r1 r2 q2

theorem pe_op {op : Operator} {r : R2} (ho : OpR X (binaryOp op) r) (ha : PE X a ta) (hb : PE X b tb) : PE X (.BinOp a op b pos) (tOp r ta tb) := by
  intro pins s σ H Q I h
  exact wpAny_BinOp (binT ha hb I h fun v u s2 x y H2 I2 rx ry q => ho pins s2 σ H2 x y v u Q I2 rx ry q)
/-! ### ints -/
theorem opI {f : Value → Value → Sem Value} {C : Int → Int → Prop} {g : Int → Int → Int}
    (rule : ∀ (i j : Int) (t u : Tok) (s : Shared) (Q : Value → Shared → Prop) (E : Value → Shared → Prop), C i j → Q (.int (g i j) s.toks) { s with toks := s.toks + 1 } → wpAny (model X.prog X.w) X.A (f (.int i t) (.int j u)) Q E s) :
    OpR X f (rI C fun i j => .int (g i j)) := by
  intro pins s σ H x y v u Q I rx ry h
  obtain ⟨i, j, rfl, rfl, hc, q⟩ := h
  obtain ⟨t, rfl⟩ := rx
  obtain ⟨t', rfl⟩ := ry
  exact rule i j t t' s _ _ hc ⟨.int (g i j), H, I.tok _, ⟨_, rfl⟩, q⟩
theorem opI0 {f : Value → Value → Sem Value} {g : Int → Int → Int}
    (rule : ∀ (i j : Int) (t u : Tok) (s : Shared) (Q : Value → Shared → Prop) (E : Value → Shared → Prop), Q (.int (g i j) s.toks) { s with toks := s.toks + 1 } → wpAny (model X.prog X.w) X.A (f (.int i t) (.int j u)) Q E s) :
    OpR X f (rI0 fun i j => .int (g i j)) := by
  intro pins s σ H x y v u Q I rx ry h
  obtain ⟨i, j, rfl, rfl, q⟩ := h
  obtain ⟨t, rfl⟩ := rx
  obtain ⟨t', rfl⟩ := ry
  exact rule i j t t' s _ _ ⟨.int (g i j), H, I.tok _, ⟨_, rfl⟩, q⟩
theorem opB0 {f : Value → Value → Sem Value} {g : Int → Int → Bool}
    (rule : ∀ (i j : Int) (t u : Tok) (s : Shared) (Q : Value → Shared → Prop) (E : Value → Shared → Prop), Q (.bool (g i j)) s → wpAny (model X.prog X.w) X.A (f (.int i t) (.int j u)) Q E s) :
    OpR X f (rI0 fun i j => .bl (g i j)) := by
  intro pins s σ H x y v u Q I rx ry h
  obtain ⟨i, j, rfl, rfl, q⟩ := h
  obtain ⟨t, rfl⟩ := rx
  obtain ⟨t', rfl⟩ := ry
  exact rule i j t t' s _ _ ⟨.bl (g i j), H, I, rfl, q⟩

def CDiv (i j : Int) : Prop := 0 < j ∧ j < 1073741824
def CPow (i j : Int) : Prop := 0 ≤ j ∧ j ≤ 1000000 ∧ i.natAbs < 2 ^ 64
def CMul (i j : Int) : Prop := (-(2 ^ 64) < i ∧ i < 2 ^ 64) ∨ (-(2 ^ 64) < j ∧ j < 2 ^ 64)
theorem CMul.ok {i j : Int} (h : CMul i j) : IntMulOk i j := by
  rcases h with ⟨h1, h2⟩ | ⟨h1, h2⟩
  · exact .of_left (intBits_le_64 h1 h2)
  · exact .of_right (intBits_le_64 h1 h2)
theorem two_pow_nn (k : Nat) : (0 : Int) ≤ 2 ^ k := by
  rw [two_pow_cast]
  exact Int.natCast_nonneg _

theorem op_add : OpR X (binaryOp .Add) (rI0 fun i j => .int (i + j)) := opI0 fun _ _ _ _ _ _ _ q => add_int q
theorem op_sub : OpR X (binaryOp .Sub) (rI0 fun i j => .int (i - j)) := opI0 fun _ _ _ _ _ _ _ q => sub_int q
theorem op_mul : OpR X (binaryOp .Mult) (rI CMul fun i j => .int (i * j)) := opI fun _ _ _ _ _ _ _ hc q => mul_int q hc.ok
/-- // by a positive divisor -/
theorem op_fdiv : OpR X (binaryOp .FloorDiv) (rI CDiv fun i j => .int (i / j)) := opI fun i j _ _ _ _ _ hc q => by
  have h1 : (0 : Int) < j := hc.1
  have h2 : j < 1073741824 := hc.2
  exact floordiv_int (by omega) (by rw [Int.fdiv_eq_ediv_of_nonneg i (by omega)]; exact q) (.inl (PyProof.noPylong_small (by omega)))
/-- % by a positive divisor of any size -/
theorem op_mod : OpR X (binaryOp .Mod) (rI (fun _ j => 0 < j) fun i j => .int (i % j)) := opI fun i j _ _ _ _ _ hc q => by
  have h1 : (0 : Int) < j := hc
  exact mod_int' (by omega) (by rw [Int.fmod_eq_emod_of_nonneg i (by omega)]; exact q)
theorem op_pow : OpR X (binaryOp .Pow) (rI CPow fun i j => .int (i ^ j.toNat)) := opI fun _ _ _ _ _ _ _ hc q => pow_int_small hc.1 hc.2.1 hc.2.2 q
theorem op_shl : OpR X (binaryOp .LShift) (rI CPow fun i j => .int (i * 2 ^ j.toNat)) := opI fun _ _ _ _ _ _ _ hc q => lshift_int_small hc.1 hc.2.1 hc.2.2 q
theorem op_shr : OpR X (binaryOp .RShift) (rI (fun _ j => 0 ≤ j) fun i j => .int (i / 2 ^ j.toNat)) := opI fun i j _ _ _ _ _ hc q =>
  rshift_int hc (by rw [Int.fdiv_eq_ediv_of_nonneg i (two_pow_nn _)]; exact q)
/-! ### bools among ints: n += (a < b) -/
end

/-! ### comparisons -/
/-- the scalars that == tells apart as data does -/
def scal : V → V → Bool
  | .non, .non => true | .non, .int _ => true | .int _, .non => true | .non, .bl _ => true | .bl _, .non => true | .non, .str _ => true | .str _, .non => true
  | .int _, .int _ => true | .bl _, .bl _ => true | .str _, .str _ => true | .byt _, .byt _ => true
  | .int _, .str _ => true | .str _, .int _ => true | .bl _, .str _ => true | .str _, .bl _ => true
  | _, _ => false
def rEq : R2 := fun x y H Q => scal x y = true ∧ Q (.bl (decide (x = y))) H
def rNe : R2 := fun x y H Q => scal x y = true ∧ Q (.bl (!decide (x = y))) H

theorem dec_int {i j : Int} : decide (V.int i = V.int j) = (i == j) := by
  rw [Bool.eq_iff_iff]
  simp
theorem dec_bl {i j : Bool} : decide (V.bl i = V.bl j) = (i == j) := by
  rw [Bool.eq_iff_iff]
  simp
theorem dec_str {i j : Str} : decide (V.str i = V.str j) = (i == j) := by
  rw [Bool.eq_iff_iff]
  simp
theorem dec_byt {i j : Array UInt8} : decide (V.byt i = V.byt j) = (i.toList == j.toList) := by
  rw [Bool.eq_iff_iff]
  cases i
  cases j
  simp

section
variable {X : Cx} {a b c : Expr} {ta tb tc : TE} {pos : Pos}
theorem fin_bl {pins : List (Addr × Obj)} {σ : St} {H : Hp} {s : Shared} {Q : VK} {k k' : Bool} (I : Inv X pins σ H s) (q : Q (.bl k) H) (e : k = k') : EP X pins σ Q (.bool k') s := by
  subst e
  exact ⟨.bl k, H, I, rfl, q⟩
theorem op_eq : OpR X (compareOp .Eq) rEq := by
  intro pins s σ H x y v u Q I rx ry h
  obtain ⟨hs, q⟩ := h
  cases x with
  | non =>
    cases rx
    cases y with
    | non => cases ry; exact PySem.EqNone.eq_none_none (fin_bl I q (by simp))
    | bl j => cases ry; exact PySem.EqNone.eq_none_bool (fin_bl I q (by simp))
    | int j => obtain ⟨t', rfl⟩ := ry; exact PySem.EqNone.eq_none_int (fin_bl I q (by simp))
    | str j => obtain ⟨t', rfl⟩ := ry; exact PySem.EqNone.eq_none_str (fin_bl I q (by simp))
    | _ => exact absurd (show false = true from hs) Bool.false_ne_true
  | bl i =>
    cases rx
    cases y with
    | non => cases ry; exact PySem.EqNone.eq_bool_none (fin_bl I q (by simp))
    | bl j => cases ry; exact eq_bool (fin_bl I q dec_bl)
    | str j => obtain ⟨t', rfl⟩ := ry; exact PySem.EqMixed.eq_bool_str (fin_bl I q (by simp))
    | _ => exact absurd (show false = true from hs) Bool.false_ne_true
  | int i =>
    obtain ⟨t, rfl⟩ := rx
    cases y with
    | non => cases ry; exact PySem.EqNone.eq_int_none (fin_bl I q (by simp))
    | int j => obtain ⟨t', rfl⟩ := ry; exact eq_int (fin_bl I q dec_int)
    | str j => obtain ⟨t', rfl⟩ := ry; exact PySem.EqMixed.eq_int_str (fin_bl I q (by simp))
    | _ => exact absurd (show false = true from hs) Bool.false_ne_true
  | str i =>
    obtain ⟨t, rfl⟩ := rx
    cases y with
    | non => cases ry; exact PySem.EqNone.eq_str_none (fin_bl I q (by simp))
    | bl j => cases ry; exact PySem.EqMixed.eq_str_bool (fin_bl I q (by simp))
    | int j => obtain ⟨t', rfl⟩ := ry; exact PySem.EqMixed.eq_str_int (fin_bl I q (by simp))
    | str j => obtain ⟨t', rfl⟩ := ry; exact eq_str (fin_bl I q dec_str)
    | _ => exact absurd (show false = true from hs) Bool.false_ne_true
  | byt i =>
    obtain ⟨t, rfl⟩ := rx
    cases y with
    | byt j => obtain ⟨t', rfl⟩ := ry; exact PySem.W.eq_bytes (fin_bl I q dec_byt)
    | _ => exact absurd (show false = true from hs) Bool.false_ne_true
  | _ => cases y <;> exact absurd (show false = true from hs) Bool.false_ne_true
theorem op_ne : OpR X (compareOp .NotEq) rNe := by
  intro pins s σ H x y v u Q I rx ry h
  obtain ⟨hs, q⟩ := h
  cases x with
  | non =>
    cases rx
    cases y with
    | non => cases ry; exact PySem.EqNone.ne_none_none (fin_bl I q (by simp))
    | bl j => cases ry; exact PySem.EqNone.ne_none_bool (fin_bl I q (by simp))
    | int j => obtain ⟨t', rfl⟩ := ry; exact PySem.EqNone.ne_none_int (fin_bl I q (by simp))
    | str j => obtain ⟨t', rfl⟩ := ry; exact PySem.EqNone.ne_none_str (fin_bl I q (by simp))
    | _ => exact absurd (show false = true from hs) Bool.false_ne_true
  | bl i =>
    cases rx
    cases y with
    | non => cases ry; exact PySem.EqNone.ne_bool_none (fin_bl I q (by simp))
    | bl j => cases ry; exact ne_bool (fin_bl I q (congrArg not dec_bl))
    | str j => obtain ⟨t', rfl⟩ := ry; exact PySem.EqMixed.ne_bool_str (fin_bl I q (by simp))
    | _ => exact absurd (show false = true from hs) Bool.false_ne_true
  | int i =>
    obtain ⟨t, rfl⟩ := rx
    cases y with
    | non => cases ry; exact PySem.EqNone.ne_int_none (fin_bl I q (by simp))
    | int j => obtain ⟨t', rfl⟩ := ry; exact ne_int (fin_bl I q (congrArg not dec_int))
    | str j => obtain ⟨t', rfl⟩ := ry; exact PySem.EqMixed.ne_int_str (fin_bl I q (by simp))
    | _ => exact absurd (show false = true from hs) Bool.false_ne_true
  | str i =>
    obtain ⟨t, rfl⟩ := rx
    cases y with
    | non => cases ry; exact PySem.EqNone.ne_str_none (fin_bl I q (by simp))
    | bl j => cases ry; exact PySem.EqMixed.ne_str_bool (fin_bl I q (by simp))
    | int j => obtain ⟨t', rfl⟩ := ry; exact PySem.EqMixed.ne_str_int (fin_bl I q (by simp))
    | str j => obtain ⟨t', rfl⟩ := ry; exact ne_str (fin_bl I q (congrArg not dec_str))
    | _ => exact absurd (show false = true from hs) Bool.false_ne_true
  | byt i =>
    obtain ⟨t, rfl⟩ := rx
    cases y with
    | byt j => obtain ⟨t', rfl⟩ := ry; exact PySem.W.ne_bytes (fin_bl I q (congrArg not dec_byt))
    | _ => exact absurd (show false = true from hs) Bool.false_ne_true
  | _ => cases y <;> exact absurd (show false = true from hs) Bool.false_ne_true

theorem op_lt : OpR X (compareOp .Lt) (rI0 fun i j => .bl (decide (i < j))) := opB0 fun _ _ _ _ _ _ _ q => lt_int q
theorem op_le : OpR X (compareOp .LtE) (rI0 fun i j => .bl (decide (i ≤ j))) := opB0 fun _ _ _ _ _ _ _ q => le_int q
theorem op_gt : OpR X (compareOp .Gt) (rI0 fun i j => .bl (decide (j < i))) := opB0 fun _ _ _ _ _ _ _ q => gt_int q
theorem op_ge : OpR X (compareOp .GtE) (rI0 fun i j => .bl (decide (j ≤ i))) := opB0 fun _ _ _ _ _ _ _ q => ge_int q
theorem op_notN : OpR X (compareOp .IsNot) (fun x y H Q => y = .non ∧ Q (.bl (!decide (x = .non))) H) := by
  intro pins s σ H x y v u Q I rx ry h
  obtain ⟨rfl, q⟩ := h
  cases ry
  refine isnot_none_gen (fin_bl I q ?_)
  cases x <;> first
    | (cases rx; rfl)
    | (obtain ⟨t, rfl⟩ := rx; rfl)

theorem nomark (b : Expr) {op : CmpOp} (h : op ≠ .In := by decide) (h2 : op ≠ .NotIn := by decide) : behindInMarks op b = false := by
  have e1 : (op == CmpOp.In) = false := by cases op <;> first | rfl | exact absurd rfl h
  have e2 : (op == CmpOp.NotIn) = false := by cases op <;> first | rfl | exact absurd rfl h2
  cases b <;> simp [behindInMarks, e1, e2]
/-- a comparison as a value; hm: nomark b, or (for in, not in) by with_unfolding_all rfl -/
theorem pe_cmpR {op : CmpOp} {r : R2} (ho : OpR X (compareOp op) r) (ha : PE X a ta) (hb : PE X b tb) (hm : behindInMarks op b = false) : PE X (.Compare a [op] [b] pos) (tOp r ta tb) := by
  intro pins s σ H Q I h
  exact wpAny_Compare1 (binT ha hb I h fun v u s2 x y H2 I2 rx ry q => ho pins s2 σ H2 x y v u Q I2 rx ry q) hm
/-- a reading of a value as a test -/
def tTest (t : TE) : TT := fun σ H Q => t σ H fun x H' => ∃ k, x = .bl k ∧ Q k H'
theorem pt_cmpR {op : CmpOp} {r : R2} (ho : OpR X (compareOp op) r) (ha : PE X a ta) (hb : PE X b tb) (hm : behindInMarks op b = false) : PT X (.Compare a [op] [b] pos) (tTest (tOp r ta tb)) := by
  intro pins s σ H Q I h
  refine wpAny_isTrue_Compare1 (thn (ha pins s σ H _ I h) fun v s1 ⟨x, H1, I1, r1, q1⟩ => thn (hb pins s1 σ H1 _ I1 q1) fun u s2 ⟨y, H2, I2, r2, q2⟩ =>
    thn (ho pins s2 σ H2 x y v u _ I2 r1 r2 q2) fun c s3 ⟨z, H3, I3, r3, k, e, q3⟩ => ?_) hm
  subst e
  cases r3
  exact wpAny_truthy_bool ⟨H3, I3, q3⟩
/-- a op1 b op2 c -/
def tChain (r r' : R2) (ta tb tc : TE) : TE := fun σ H Q => ta σ H fun x H1 => tb σ H1 fun y H2 => r x y H2 fun z H3 => ∃ k, z = .bl k ∧
  (if k = true then tc σ H3 fun w' H4 => r' y w' H4 Q else Q (.bl false) H3)
theorem pe_chain {op op' : CmpOp} {r r' : R2} (ho : OpR X (compareOp op) r) (ho' : OpR X (compareOp op') r') (ha : PE X a ta) (hb : PE X b tb) (hc : PE X c tc)
    (hm : lastMarks [op, op'] [b, c] = false := by with_unfolding_all rfl) : PE X (.Compare a [op, op'] [b, c] pos) (tChain r r' ta tb tc) := by
  intro pins s σ H Q I h
  refine Compare_chain (thn (ha pins s σ H _ I h) fun v s1 ⟨x, H1, I1, r1, q1⟩ => chain_link (thn (hb pins s1 σ H1 _ I1 q1) fun u s2 ⟨y, H2, I2, r2, q2⟩ =>
    thn (ho pins s2 σ H2 x y v u _ I2 r1 r2 q2) fun d s3 ⟨z, H3, I3, r3, k, e, q3⟩ => ?_)) hm
  subst e
  cases r3
  refine wpAny_truthy_bool ?_
  cases k with
  | false => exact ite_ff ⟨.bl false, H3, I3, rfl, q3⟩
  | true => exact ite_tt (chain_last (thn (hc pins s3 σ H3 _ I3 q3) fun w' s4 ⟨z', H4, I4, r4, q4⟩ => ho' pins s4 σ H4 y z' u w' Q I4 r2 r4 q4))
theorem pt_chain {op op' : CmpOp} {r r' : R2} (ho : OpR X (compareOp op) r) (ho' : OpR X (compareOp op') r') (ha : PE X a ta) (hb : PE X b tb) (hc : PE X c tc)
    (hm : lastMarks [op, op'] [b, c] = false := by with_unfolding_all rfl) : PT X (.Compare a [op, op'] [b, c] pos) (tTest (tChain r r' ta tb tc)) := by
  intro pins s σ H Q I h
  refine isTrue_chain (thn (ha pins s σ H _ I h) fun v s1 ⟨x, H1, I1, r1, q1⟩ => test_link (thn (hb pins s1 σ H1 _ I1 q1) fun u s2 ⟨y, H2, I2, r2, q2⟩ =>
    thn (ho pins s2 σ H2 x y v u _ I2 r1 r2 q2) fun d s3 ⟨z, H3, I3, r3, k, e, q3⟩ => ?_)) hm
  subst e
  cases r3
  refine wpAny_truthy_bool ?_
  cases k with
  | false =>
    obtain ⟨k', e', q'⟩ := q3
    cases e'
    exact ite_ff ⟨H3, I3, q'⟩
  | true =>
    refine ite_tt (test_last (thn (hc pins s3 σ H3 _ I3 q3) fun w' s4 ⟨z', H4, I4, r4, q4⟩ => thn (ho' pins s4 σ H4 y z' u w' _ I4 r2 r4 q4) fun d' s5 ⟨z2, H5, I5, r5, k2, e2, q5⟩ => ?_))
    subst e2
    cases r5
    exact wpAny_truthy_bool ⟨H5, I5, q5⟩

/-! ### truth -/
/-- a value's truth by the abstract heap -/
def TruV (K : PySem.W.Frag) (x : V) (H : Hp) (k : Bool) : Prop :=
  match x with
  | .non => k = false
  | .bl b => k = b
  | .int i => k = (i != 0)
  | .str y => y.length ≤ sizeLine ∧ k = ((y.length : Int) != 0)
  | .byt y => y.size ≤ sizeLine ∧ k = ((y.size : Int) != 0)
  | .ref p => (∃ xs, SqL K H p xs ∧ k = !xs.isEmpty) ∨ (∃ xs, SqT K H p xs ∧ k = !xs.isEmpty) ∨ ∃ kvs, H p = some (.dK kvs) ∧ k = !kvs.isEmpty
  | _ => False
theorem isEmpty_kv {κ : Type} {kvs : List (κ × V)} {vs : List (κ × Value)} (r : KV kvs vs) : (!vs.isEmpty) = !kvs.isEmpty := by
  cases r <;> rfl
theorem isEmpty_of {xs : List V} {its : List Value} (r : Vals xs its) : (!its.toArray.isEmpty) = !xs.isEmpty := by
  cases r <;> simp
theorem line63 : (sizeLine : Nat) < 2 ^ 63 := by rw [sizeLine_eq]; decide
theorem tru_ok : TruR X (fun x H Q => ∃ k, TruV X.K x H k ∧ Q k H) := by
  intro pins s σ H x v Q I rx h
  obtain ⟨k, e, q⟩ := h
  have hl := line63
  have hs : sizeLine = 16777216 := sizeLine_eq
  cases x with
  | non =>
    cases rx
    have e' : k = false := e
    subst e'
    exact truthy_none ⟨H, I, q⟩
  | bl b =>
    cases rx
    have e' : k = b := e
    subst e'
    exact wpAny_truthy_bool ⟨H, I, q⟩
  | int i =>
    obtain ⟨t, rfl⟩ := rx
    have e' : k = (i != 0) := e
    subst e'
    exact PySem.P.truthy_int ⟨H, I, q⟩
  | str y =>
    obtain ⟨t, rfl⟩ := rx
    obtain ⟨hy, e'⟩ : y.length ≤ sizeLine ∧ k = ((y.length : Int) != 0) := e
    subst e'
    exact PySem.P.truthy_str (by omega) ⟨H, I.tok _, q⟩
  | byt y =>
    obtain ⟨t, rfl⟩ := rx
    obtain ⟨hy, e'⟩ : y.size ≤ sizeLine ∧ k = ((y.size : Int) != 0) := e
    subst e'
    exact PySem.W.truthy_bytes (by omega) ⟨H, I.tok _, q⟩
  | ref p =>
    cases rx
    have e' : (∃ xs, SqL X.K H p xs ∧ k = !xs.isEmpty) ∨ (∃ xs, SqT X.K H p xs ∧ k = !xs.isEmpty) ∨ ∃ kvs, H p = some (.dK kvs) ∧ k = !kvs.isEmpty := e
    rcases e' with ⟨xs, hx, e'⟩ | ⟨xs, hx, e'⟩ | ⟨kvs, hx, e'⟩
    · subst e'
      obtain ⟨its, r, pl, hz⟩ := I.list hx
      have hlen := r.length
      exact wpAny_truthy_list pl.isList (by simp only [List.size_toArray]; omega) ⟨H, I.tok _, by rw [isEmpty_of r]; exact q⟩
    · subst e'
      obtain ⟨its, r, pl, hz⟩ := I.tuple hx
      have hlen := r.length
      exact truthy_tuple pl (by simp only [List.size_toArray]; omega) ⟨H, I.tok _, by rw [isEmpty_of r]; exact q⟩
    · subst e'
      obtain ⟨hz, hS, vs, r, m⟩ : kvs.length ≤ sizeLine ∧ (p == sysModules) = false ∧ ∃ vs, KV kvs vs ∧ s.heap.DictOf (mixKind X.prog X.w) p vs := I.hok p _ hx
      have hlen : kvs.length = vs.length := Paired.length r
      exact wpAny_truthy_dict hS m (by omega) ⟨H, I.tok _, by rw [isEmpty_kv r]; exact q⟩
  | _ => exact (show False from e).elim
/-! ### strs and bytes -/
theorem op_add_str : OpR X (binaryOp .Add) (fun x y H Q => ∃ i j, x = .str i ∧ y = .str j ∧ i.length + j.length ≤ sizeLine ∧ Q (.str (i ++ j)) H) := by
  intro pins s σ H x y v u Q I rx ry h
  obtain ⟨i, j, rfl, rfl, hz, q⟩ := h
  obtain ⟨t, rfl⟩ := rx
  obtain ⟨t', rfl⟩ := ry
  exact add_str (fun t' tk => ⟨.str (i ++ j), H, I.tok _, ⟨_, rfl⟩, q⟩) hz
/-! ### scalar builtins, by CallR -/
theorem vals1 {x : V} {us : List Value} (r : Vals [x] us) : ∃ u, us = [u] ∧ RelV x u := by
  cases r with
  | cons r1 r2 => cases r2; exact ⟨_, rfl, r1⟩
theorem vals2 {x y : V} {us : List Value} (r : Vals [x, y] us) : ∃ u w', us = [u, w'] ∧ RelV x u ∧ RelV y w' := by
  cases r with
  | cons r1 r2 =>
    cases r2 with
    | cons r3 r4 => cases r4; exact ⟨_, _, rfl, r1, r3⟩
theorem call_max2 (hc : X.calm = true) : CallR X (.builtin "max") (fun xs H Q => ∃ i j, xs = [.int i, .int j] ∧ Q (.int (if j > i then j else i)) H) := by
  intro pins s σ H xs us Q I r h
  obtain ⟨i, j, rfl, q⟩ := h
  obtain ⟨u, w', rfl, ⟨t, rfl⟩, ⟨t', rfl⟩⟩ := vals2 r
  refine max_two_ints (I.ok.hd hc) fun h' tk k => ⟨_, H, I.kept k, ?_, q⟩
  by_cases hj : j > i
  · rw [if_pos hj, if_pos hj]; exact ⟨_, rfl⟩
  · rw [if_neg hj, if_neg hj]; exact ⟨_, rfl⟩
theorem call_min2 (hc : X.calm = true) : CallR X (.builtin "min") (fun xs H Q => ∃ i j, xs = [.int i, .int j] ∧ Q (.int (if j < i then j else i)) H) := by
  intro pins s σ H xs us Q I r h
  obtain ⟨i, j, rfl, q⟩ := h
  obtain ⟨u, w', rfl, ⟨t, rfl⟩, ⟨t', rfl⟩⟩ := vals2 r
  refine min_two_ints (I.ok.hd hc) fun h' tk k => ⟨_, H, I.kept k, ?_, q⟩
  by_cases hj : j < i
  · rw [if_pos hj, if_pos hj]; exact ⟨_, rfl⟩
  · rw [if_neg hj, if_neg hj]; exact ⟨_, rfl⟩
theorem call_str_int : CallR X (.type "str") (fun xs H Q => ∃ i, xs = [.int i] ∧ i.natAbs.log2 < 1920 ∧ Q (.str (toString i)) H) := by
  intro pins s σ H xs us Q I r h
  obtain ⟨i, rfl, hz, q⟩ := h
  obtain ⟨u, rfl, t, rfl⟩ := vals1 r
  exact PySem.P.str_of_int hz ⟨.str _, H, I.tok _, ⟨_, rfl⟩, q⟩
end
end L2

namespace L2
open PySem PySem.Spec PyProof.Rows

/-! ### an instance, its attributes a map -/
structure ObjM (h : Heap) (x dx C : Addr) (mA : Str → Option Value) : Prop where
  obj : h.get? x = some (PySem.W.instObj C dx)
  ns : h.Ns1 dx mA
  ne : dx ≠ x

theorem lookIn_ns {h : Heap} {dx : Addr} {mA : Str → Option Value} (n : h.Ns1 dx mA) : ∃ od, h.get? dx = some od ∧ ∀ name, PySem.W.lookIn name od = some (mA name) := by
  obtain ⟨o, es, ep, ho, hd, hk, _, hm⟩ := n
  refine ⟨o, ho, fun name => ?_⟩
  have e := hm name
  unfold nsFind findBy at e
  rw [← Array.find?_toList] at e
  unfold PySem.W.lookIn
  rw [hd]
  dsimp only
  split
  · rename_i y q
    rw [q] at e
    exact congrArg some e
  · rename_i q
    rw [q] at e
    have a : es.toList.any (·.refKey) = false := by
      rw [List.any_eq_false]
      intro y hy
      obtain ⟨z, t, hkey⟩ := hk y (Array.mem_toList_iff.mp hy)
      simp [DictEntry.refKey, hkey]
    have a' : ¬ es.toList.any (·.refKey) = true := by rw [a]; exact Bool.false_ne_true
    rw [if_neg a']
    exact congrArg some e

theorem ObjM.look {h : Heap} {x dx C : Addr} {mA : Str → Option Value} (I : ObjM h x dx C mA) : ∃ od, PySem.W.InstAt h x (PySem.W.instObj C dx) C (some od) ∧ ∀ name, PySem.W.lookIn name od = some (mA name) :=
  let ⟨od, ho, hl⟩ := lookIn_ns I.ns
  ⟨od, ⟨I.obj, rfl, rfl, ho⟩, hl⟩

section
variable {prog : Program} {w : World} {A : Around} {E : Value → Shared → Prop} {s : Shared} {K : PySem.W.Frag} {x dx C f : Addr} {mA : Str → Option Value} {name : Str} {v : Value}

theorem get_map {expr : Bool} {Q : Value → Shared → Prop} (X : K.In s.heap) (I : ObjM s.heap x dx C mA) (hg : PySem.W.plainGet K C name = true) (hh : PySem.W.hasDictIn K C = true)
    (ha : PySem.W.findIn K (.ref C) name = some none) (hv : mA name = some v) (hv' : PySem.W.handedIn v = true) (h : Q v { s with toks := s.toks + 1 }) :
    wpAny (model prog w) A (getAttr (.ref x) name expr) Q E s := by
  obtain ⟨od, J, hl⟩ := I.look
  exact PySem.W.get_value X J (PySem.W.plainGet_of hg).1 (PySem.W.findObj_own hh ha rfl (by rw [hl, hv])) hv' h

theorem get_meth {pl : Sem Bool} {Q : Value × List Value → Shared → Prop} (X : K.In s.heap) (I : ObjM s.heap x dx C mA) (hg : PySem.W.plainGet K C name = true)
    (hf : PySem.W.findIn K (.ref C) name = some (some (.ref f))) (ht : PySem.W.isFn K (.ref f) = true) (hv : mA name = none) (h : Q (.ref f, [.ref x]) s) :
    wpAny (model prog w) A (getMethod (.ref x) name pl) Q E s := by
  obtain ⟨od, J, hl⟩ := I.look
  exact PySem.W.method_fn X J (PySem.W.plainGet_of hg).1 (PySem.W.plainGet_of hg).2 hf (beq_iff_eq.mp ht) (by show (PySem.W.lookIn name od).map (·.isSome) = some false; rw [hl, hv]; rfl) h

theorem set_map {ns : List Str} {Q : Unit → Shared → Prop} (X : K.In s.heap) (I : ObjM s.heap x dx C mA)
    (hs : PySem.W.findIn K (.ref C) "__setattr__" = some (some (.builtin "object.__setattr__"))) (hp : PySem.W.plainOver K C = true) (ht : PySem.W.takerIn K C name = some none) (hh : PySem.W.hasDictIn K C = true)
    (hw : PySem.Within mA ns) (hsz : ns.length ≤ sizeLine)
    (h : ∀ h', ObjM h' x dx C (fun y => if y = name then some v else mA y) → Heap.SameBut dx s.heap h' → Q () { s with heap := h', toks := s.toks + 2 }) :
    wpAny (model prog w) A (setAttr (.ref x) name v) Q E s := by
  obtain ⟨od, J, hl⟩ := I.look
  refine PySem.W.set_plain X J hs (PySem.W.osa_open (s := { s with toks := s.toks + 1 }) (r := none) X J hp ht fun b => ?_)
  obtain ⟨cd, hc, hd'⟩ := PySem.W.any_some hh
  have hx : s.heap.get? x = some ⟨.ref C, some dx, .plain, #[]⟩ := I.obj
  refine wpAny_bind (wpAny_pure (wpAny_bind (wpAny_bind (wpAny_loadPart hx (wpAny_bind (PySem.W.Looks.here (s := { s with toks := s.toks + 1 }) (PySem.W.looks_clsIn X hc) ?_))))))
  rw [hd']
  refine wpAny_pure (a := some dx) (wpAny_bind (wpAny_pure (wpAny_bind ?_)))
  refine wpAny_nsSet1 (s := { s with toks := s.toks + 1 }) I.ns fun h' hn2 hs2 => ?_
  obtain ⟨oD, esD, epD, hoD, hdD, hcD⟩ := hn2.count (PySem.Within.cons name v hw)
  refine wpAny_bind (wpAny_lookBehind hoD (by rw [hdD]; exact pastItsLine_dict (Nat.le_trans hcD (by rw [List.length_cons]; omega))) ?_)
  exact wpAny_pure (h _ ⟨(hs2.2 _ (Ne.symm I.ne)).trans I.obj, hn2, I.ne⟩ hs2)

/-- C(..): the dict at the heap's end, the instance behind it; then its __init__ -/
theorem make_map {R : Result → Shared → Prop} {vs : List Value} {kw : List (Str × Value)} (X : K.In s.heap) (hm : PySem.W.makesIn K C = true)
    (hi : PySem.W.findIn K (.ref C) "__init__" = some (some (.ref f))) (hf : PySem.W.typeIn K (.ref f) = some (.type "function"))
    (h : codeAny (model prog w) (A.under (.builtin "type.__call__" ⟨.ref C :: vs, kw⟩)) (.call (.ref f) ⟨.ref (s.heap.objs.size + 1) :: vs, kw⟩) (PySem.W.InitBack (s.heap.objs.size + 1) R)
      { s with heap := (s.heap.push PySem.W.emptyDict).push (PySem.W.instObj C s.heap.objs.size) }) :
    codeAny (model prog w) A (.call (.ref C) ⟨vs, kw⟩) R s := by
  obtain ⟨hh, g, d, t, os⟩ := s
  exact PySem.W.make_core (PySem.W.makes_of X hm) (PySem.W.looks_findIn X hi) (fun self => PySem.W.bind_fn X self hf) (.inl rfl) h
end

/-! ### the attributes as a list of pairs -/
def putF (f : Str) (v : V) : List (Str × V) → List (Str × V)
  | [] => [(f, v)]
  | (g, x) :: r => if g = f then (g, v) :: r else (g, x) :: putF f v r
theorem lookup_putF (f g : Str) (v : V) : ∀ fs : List (Str × V), (putF f v fs).lookup g = if g = f then some v else fs.lookup g
  | [] => by
    show List.lookup g [(f, v)] = _
    by_cases h : g = f
    · have hb : (g == f) = true := beq_iff_eq.mpr h
      simp only [List.lookup, hb, if_pos h]
    · have hb : (g == f) = false := beq_eq_false_iff_ne.mpr h
      simp only [List.lookup, hb, if_neg h]
  | (k, x) :: r => by
    have ih := lookup_putF f g v r
    rw [show putF f v ((k, x) :: r) = (if k = f then (k, v) :: r else (k, x) :: putF f v r) from rfl]
    by_cases hk : k = f
    · rw [if_pos hk]
      by_cases h : g = k
      · have hb : (g == k) = true := beq_iff_eq.mpr h
        simp only [List.lookup, hb, if_pos (h.trans hk)]
      · have hb : (g == k) = false := beq_eq_false_iff_ne.mpr h
        simp only [List.lookup, hb, if_neg (fun e : g = f => h (e.trans hk.symm))]
    · rw [if_neg hk]
      by_cases h : g = k
      · have hb : (g == k) = true := beq_iff_eq.mpr h
        simp only [List.lookup, hb, if_neg (fun e : g = f => hk (h.symm.trans e))]
      · have hb : (g == k) = false := beq_eq_false_iff_ne.mpr h
        simp only [List.lookup, hb]
        exact ih
theorem keys_putF (f : Str) (v : V) : ∀ fs : List (Str × V), f ∈ (putF f v fs).map (·.1) ∧ ∀ g, g ∈ fs.map (·.1) → g ∈ (putF f v fs).map (·.1)
  | [] => ⟨by simp [putF], fun g h => by simp at h⟩
  | (k, x) :: r => by
    obtain ⟨i1, i2⟩ := keys_putF f v r
    rw [show putF f v ((k, x) :: r) = (if k = f then (k, v) :: r else (k, x) :: putF f v r) from rfl]
    by_cases hk : k = f
    · rw [if_pos hk]
      subst hk
      exact ⟨by simp, fun g h => by simpa using h⟩
    · rw [if_neg hk]
      refine ⟨?_, fun g h => ?_⟩
      · rw [List.map_cons]
        exact List.mem_cons_of_mem _ i1
      · rw [List.map_cons] at h ⊢
        rcases List.mem_cons.mp h with e | e
        · exact List.mem_cons.mpr (.inl e)
        · exact List.mem_cons_of_mem _ (i2 g e)
theorem length_putF (f : Str) (v : V) : ∀ fs : List (Str × V), (putF f v fs).length ≤ fs.length + 1
  | [] => by simp [putF]
  | (k, x) :: r => by
    have ih := length_putF f v r
    rw [show putF f v ((k, x) :: r) = (if k = f then (k, v) :: r else (k, x) :: putF f v r) from rfl]
    by_cases hk : k = f
    · rw [if_pos hk, List.length_cons, List.length_cons]; omega
    · rw [if_neg hk, List.length_cons, List.length_cons]; omega

theorem RelO.some_of {v : V} {o : Option Value} (r : RelO (some v) o) : ∃ u, o = some u ∧ RelV v u := by
  cases o with
  | none => exact (show False from r).elim
  | some u => exact ⟨u, rfl, r⟩
theorem RelO.none_of {o : Option Value} (r : RelO none o) : o = none := by
  cases o with
  | none => rfl
  | some u => exact (show False from r).elim
theorem handed_of {v : V} {u : Value} (r : RelV v u) : PySem.W.handedIn u = true := by
  cases v with
  | non => cases (show u = Value.none from r); rfl
  | bl b => cases (show u = Value.bool b from r); rfl
  | int i => obtain ⟨t, e⟩ := (show ∃ t, u = Value.int i t from r); cases e; rfl
  | str x => obtain ⟨t, e⟩ := (show ∃ t, u = Value.str x t from r); cases e; rfl
  | byt b => obtain ⟨t, e⟩ := (show ∃ t, u = Value.bytes b t from r); cases e; rfl
  | flt b => obtain ⟨t, e⟩ := (show ∃ t, u = Value.float b t from r); cases e; rfl
  | ref a => cases (show u = Value.ref a from r); rfl
  | ty n => cases (show u = Value.type n from r); rfl

section
variable {P : Program} {w : World} {H H' : Hp} {h h' : Heap} {a C dx : Addr} {fs fs' : List (Str × V)}
theorem ins_get (hok : HOk P w H h) (e : H a = some (.ins C dx fs)) : ∃ mA, ObjM h a dx C mA ∧ (∀ f, RelO (fs.lookup f) (mA f)) ∧ PySem.Within mA (fs.map (·.1)) ∧ fs.length ≤ 1000 ∧ H dx = some (.own a) := by
  obtain ⟨d, z, ne, ob, mA, n, r, q⟩ := (show ObjOk P w H h a (.ins C dx fs) from hok a _ e)
  exact ⟨mA, ⟨ob, n, ne⟩, r, q, z, d⟩
end

/-! ### what of the text a class must have -/
structure Cls (K : PySem.W.Frag) (C : Addr) : Prop where
  pg : PySem.W.plainGet K C Str.empty = true
  hd : PySem.W.hasDictIn K C = true
  po : PySem.W.plainOver K C = true
  sa : PySem.W.findIn K (.ref C) "__setattr__" = some (some (.builtin "object.__setattr__"))
theorem Cls.get {K : PySem.W.Frag} {C : Addr} (c : Cls K C) (f : Str) : PySem.W.plainGet K C f = true := c.pg
/-- no class of it has the name -/
def NoAttr (K : PySem.W.Frag) (C : Addr) (f : Str) : Prop := PySem.W.findIn K (.ref C) f = some none
theorem NoAttr.taker {K : PySem.W.Frag} {C : Addr} {f : Str} (n : NoAttr K C f) : PySem.W.takerIn K C f = some none := by
  unfold PySem.W.takerIn
  rw [show PySem.W.findIn K (.ref C) f = some none from n]
  rfl
/-- a constant of the class -/
structure Con (K : PySem.W.Frag) (C : Addr) (f : Str) (v : V) (u : Value) : Prop where
  at_ : PySem.W.findIn K (.ref C) f = some (some u)
  rel : RelV v u
  get : PySem.W.specialIn K u "__get__" = some none
  cp : PySem.W.copiedNames.contains f = false
/-- a method: a plain def of the class or of one above it -/
structure Meth (K : PySem.W.Frag) (C : Addr) (m : Str) (f : Addr) : Prop where
  at_ : PySem.W.findIn K (.ref C) m = some (some (.ref f))
  fn : PySem.W.isFn K (.ref f) = true
  kp : PySem.W.keepIn K (.ref f) = true

section
variable {X : Cx} {pins : List (Addr × Obj)} {σ : St} {H : Hp} {s : Shared} {a C dx : Addr} {fs : List (Str × V)} {f : Str} {v : V} {A : Around} {E : Value → Shared → Prop}

theorem getattr_ok {b : Bool} {Q : Value → Shared → Prop} (I : Inv X pins σ H s) (e : H a = some (.ins C dx fs)) (c : Cls X.K C) (n : NoAttr X.K C f) (l : fs.lookup f = some v)
    (h : ∀ u s', Inv X pins σ H s' → RelV v u → Q u s') : wpAny (model X.prog X.w) A (getAttr (.ref a) f b) Q E s := by
  obtain ⟨mA, O, r, _, _, _⟩ := ins_get I.hok e
  obtain ⟨u, hu, ru⟩ := RelO.some_of (v := v) (o := mA f) (by rw [← l]; exact r f)
  exact get_map I.kIn O (c.get f) c.hd n hu (handed_of ru) (h u _ (I.tok _) ru)

theorem getmeth_ok {m : Str} {g : Addr} {pl : Sem Bool} {Q : Value × List Value → Shared → Prop} (I : Inv X pins σ H s) (e : H a = some (.ins C dx fs)) (c : Cls X.K C) (k : Meth X.K C m g) (l : fs.lookup m = none)
    (h : Q (.ref g, [.ref a]) s) : wpAny (model X.prog X.w) A (getMethod (.ref a) m pl) Q E s := by
  obtain ⟨mA, O, r, _, _, _⟩ := ins_get I.hok e
  have hn : mA m = none := RelO.none_of (by rw [← l]; exact r m)
  exact get_meth I.kIn O (c.get m) k.at_ k.fn hn h

theorem setattr_ok {y : V} {u : Value} {Q : Unit → Shared → Prop} (I : Inv X pins σ H s) (e : H a = some (.ins C dx fs)) (c : Cls X.K C) (n : NoAttr X.K C f) (hl : fs.length < 1000) (ry : RelV y u)
    (h : ∀ s', Inv X pins σ (upd H a (.ins C dx (putF f y fs))) s' → Q () s') : wpAny (model X.prog X.w) A (setAttr (.ref a) f u) Q E s := by
  obtain ⟨mA, O, r, wi, _, ho⟩ := ins_get I.hok e
  have hz : (fs.map (·.1)).length ≤ sizeLine := by rw [List.length_map, sizeLine_eq]; omega
  refine set_map I.kIn O c.sa c.po n.taker c.hd wi hz fun h' O' sb => h _ ?_
  have hd : ∃ o, h'.get? dx = some o := let ⟨o, _, _, e', _⟩ := O'.ns; ⟨o, e'⟩
  refine I.write (x := a) (e := dx) (by rw [e]; exact True.intro) (.inr ho) (fun b q hb z => (sb.2 b hb).trans z) hd ?_
  refine ⟨by rw [upd_ne O.ne]; exact ho, ?_, O.ne, O'.obj, _, O'.ns, fun g => ?_, fun g hg => ?_⟩
  · have := length_putF f y fs; omega
  · show RelO ((putF f y fs).lookup g) (if g = f then some u else mA g)
    rw [lookup_putF]
    by_cases q : g = f
    · rw [if_pos q, if_pos q]; exact ry
    · rw [if_neg q, if_neg q]; exact r g
  · by_cases q : g = f
    · rw [q]; exact (keys_putF f y fs).1
    · refine (keys_putF f y fs).2 g (wi g fun z => hg ?_)
      show (if g = f then some u else mA g) = none
      rw [if_neg q]; exact z

/-- a new instance, tracked, without attributes -/
theorem Inv.made (I : Inv X pins σ H s) : Inv X pins σ (upd (upd H s.heap.objs.size (.own (s.heap.objs.size + 1))) (s.heap.objs.size + 1) (.ins C s.heap.objs.size []))
    { s with heap := (s.heap.push PySem.W.emptyDict).push (PySem.W.instObj C s.heap.objs.size) } := by
  have e1 : (s.heap.push PySem.W.emptyDict).get? s.heap.objs.size = some PySem.W.emptyDict := Heap.get?_push_size s.heap rfl
  have e2 : ((s.heap.push PySem.W.emptyDict).push (PySem.W.instObj C s.heap.objs.size)).get? (s.heap.objs.size + 1) = some (PySem.W.instObj C s.heap.objs.size) := by
    have := Heap.get?_push_size (s.heap.push PySem.W.emptyDict) (o := PySem.W.instObj C s.heap.objs.size) rfl
    rwa [Heap.size_push] at this
  have e3 : (s.heap.push PySem.W.emptyDict).Ns s.heap.objs.size (fun _ => none) := ⟨PySem.W.emptyDict, #[], _, e1, rfl, (fun e he => absurd he (by simp)), fun _ => rfl⟩
  have I1 := I.laid (a := s.heap.objs.size) (o := .own (s.heap.objs.size + 1)) (h' := s.heap.push PySem.W.emptyDict) (t' := s.toks) (fun b u q => Heap.get?_push_of_some _ q) (Nat.le_refl _) ⟨_, e1⟩
  refine I1.laid (a := s.heap.objs.size + 1) (o := .ins C s.heap.objs.size []) (t' := s.toks) (fun b u q => Heap.get?_push_of_some _ q) (Nat.le_of_eq (Heap.size_push _ _)) ?_
  have ne : s.heap.objs.size ≠ s.heap.objs.size + 1 := Nat.ne_of_lt (Nat.lt_succ_self _)
  refine ⟨by rw [upd_ne ne, upd_same], Nat.zero_le _, ne, e2, fun _ => none, (Heap.Ns1.of_empty e3).at fun o q => Heap.get?_push_of_some _ q, fun _ => True.intro, fun y hy => absurd rfl hy⟩

/-- e.f where nothing but the object is asked: through attributeBase (super) and the last hold -/
theorem attr_of {prog : Program} {w : World} {env : Env} {e : Expr} {f : Str} {pos : Pos} {s : Shared} {Q : Value → Shared → Prop} (hb : attributeBase e f env (eval e env) = eval e env)
    (h : wpAny (model prog w) A (eval e env) (fun o s₁ => wpAny (model prog w) A (getAttr o f true) Q E s₁) E s) : wpAny (model prog w) A (eval (.Attribute e f pos) env) Q E s :=
  Attribute_any_ h (by rw [arm_eval_Attribute, hb])
end

/-! ### readings and rules -/
/-- e.f, an attribute of the instance -/
def tFld (K : PySem.W.Frag) (ta : TE) (f : Str) : TE := fun σ H Q => ta σ H fun x H1 => ∃ a C dx fs v, x = .ref a ∧ H1 a = some (.ins C dx fs) ∧ Cls K C ∧ NoAttr K C f ∧ fs.lookup f = some v ∧ Q v H1
/-- e.f = value -/
def sFld (K : PySem.W.Frag) (ta tv : TE) (f : Str) : TS := fun D σ H => tv σ H fun y H1 => ta σ H1 fun x H2 => ∃ a C dx fs, x = .ref a ∧ H2 a = some (.ins C dx fs) ∧ Cls K C ∧ NoAttr K C f ∧ fs.length < 1000 ∧
  D.nx σ (upd H2 a (.ins C dx (putF f y fs)))
section
variable {X : Cx} {o e value : Expr} {f : Str} {pos pos' tpos : Pos} {ta tv : TE}
theorem pe_fld (he : PE X e ta) (hb : attributeBase e f X.env (eval e X.env) = eval e X.env) : PE X (.Attribute e f pos) (tFld X.K ta f) := by
  intro pins s σ H Q I h
  refine attr_of hb (thn (he pins s σ H _ I h) fun u s1 ⟨x, H1, I1, rx, a, C, dx, fs, v, ex, ea, c, n, l, q⟩ => ?_)
  subst ex
  obtain rfl : u = Value.ref a := rx
  exact getattr_ok I1 ea c n l fun u' s2 I2 ru => ⟨v, H1, I2, ru, q⟩
theorem ps_fld (ha : PE X o ta) (hv : PE X value tv) (hs : swapsWith value (some (.Attribute o f pos')) pos.line X.env = pure false) : PS X (.Assign [.Attribute o f pos'] value pos) (sFld X.K ta tv f) := by
  intro pins s σ H D I h
  refine plainObj_wpAny_Assign_Attribute (thn (hv pins s σ H _ I h) fun u s1 ⟨y, H1, I1, ry, q⟩ => thn (ha pins s1 σ H1 _ I1 q) fun ov s2 ⟨x, H2, I2, rx, a, C, dx, fs, ex, ea, c, n, l, q2⟩ => ?_) hs
  subst ex
  obtain rfl : ov = Value.ref a := rx
  exact setattr_ok I2 ea c n l ry fun s3 I3 => ⟨σ, _, I3, q2⟩
end

/-! ### isinstance -/
section
variable {X : Cx} {pins : List (Addr × Obj)} {σ : St} {H : Hp} {s : Shared} {A : Around} {E : Value → Shared → Prop} {Q : Value → Shared → Prop} {c : Value} {b : Bool}
/-- the type of a value, as the fragment's deciders take it; for an instance its class -/
inductive TyOf (K : PySem.W.Frag) (H : Hp) : V → Value → Prop where
  | non : TyOf K H .non (.type "NoneType")
  | bl (x : Bool) : TyOf K H (.bl x) (.type "bool")
  | int (i : Int) : TyOf K H (.int i) (.type "int")
  | str (x : Str) : TyOf K H (.str x) (.type "str")
  | flt (x : UInt64) : TyOf K H (.flt x) (.type "float")
  | lst {a : Addr} {xs : List V} (e : H a = some (.lst xs)) : TyOf K H (.ref a) (.type "list")
  | frz {a : Addr} {o : Obj} {xs : List V} (e : H a = some (.frz o (.lst xs))) : TyOf K H (.ref a) (.type "list")
  | tup {a : Addr} {xs : List V} (e : H a = some (.tup xs)) : TyOf K H (.ref a) (.type "tuple")
  | dK {a : Addr} {kvs : List (Key × V)} (e : H a = some (.dK kvs)) : TyOf K H (.ref a) (.type "dict")
  | dT {a : Addr} {kvs : List (List Key × V)} (e : H a = some (.dT kvs)) : TyOf K H (.ref a) (.type "dict")
  | ins {a C dx : Addr} {fs : List (Str × V)} (e : H a = some (.ins C dx fs)) (cl : Cls K C) (ha : PySem.W.findIn K (.ref C) "__class__" = some (some (.builtin "object.__class__")))
      (hn : PySem.W.specialIn K (.builtin "object.__class__") "__get__" = some (some (.builtin "getset_descriptor.__get__"))) (htk : PySem.W.takesIn K (.builtin "object.__class__") = some true)
      (hm : PySem.W.mroIn K C (.type "object") = some true) : TyOf K H (.ref a) (.ref C)
/-- isinstance(x, c) for one class c, a built-in or an own one: kitOne's answer -/
theorem isinst_ok {x : V} {u t : Value} (I : Inv X pins σ H s) (rx : RelV x u) (ty : TyOf X.K H x t) (e : PySem.W.kitOne X.K t c = some b) (h : ∀ tk, Q (.bool b) { s with toks := tk }) :
    wpAny (model X.prog X.w) A (call (.builtin "isinstance") [u, c]) Q E s := by
  cases ty with
  | non => cases (show u = Value.none from rx); exact PySem.W.kia_one PySem.W.kitx_none I.kIn True.intro e (fun z => nomatch z) h
  | bl y => cases (show u = Value.bool y from rx); exact PySem.W.kia_one PySem.W.kitx_bool I.kIn True.intro e (fun z => nomatch z) h
  | int i => obtain ⟨t, q⟩ := (show ∃ t, u = Value.int i t from rx); cases q; exact PySem.W.kia_one PySem.W.kitx_int I.kIn True.intro e (fun z => nomatch z) h
  | str y => obtain ⟨t, q⟩ := (show ∃ t, u = Value.str y t from rx); cases q; exact PySem.W.kia_one PySem.W.kitx_str I.kIn True.intro e (fun z => nomatch z) h
  | flt y => obtain ⟨t, q⟩ := (show ∃ t, u = Value.float y t from rx); cases q; exact PySem.W.kia_one PySem.W.kitx_float I.kIn True.intro e (fun z => nomatch z) h
  | @lst a xs ea =>
    cases (show u = Value.ref a from rx)
    obtain ⟨_, _, n, _, h1⟩ := (show ObjOk X.prog X.w H s.heap a (.lst xs) from I.hok a _ ea)
    exact PySem.W.kia_one PySem.W.kitx_list I.kIn ⟨_, h1, rfl⟩ e (fun z => nomatch z) h
  | @frz a ob xs ea =>
    cases (show u = Value.ref a from rx)
    obtain ⟨_, _, _, n, _, h1⟩ := (show ObjOk X.prog X.w H s.heap a (.frz ob (.lst xs)) from I.hok a _ ea)
    exact PySem.W.kia_one PySem.W.kitx_list I.kIn ⟨_, h1, rfl⟩ e (fun z => nomatch z) h
  | @tup a xs ea =>
    cases (show u = Value.ref a from rx)
    obtain ⟨_, _, _, p⟩ := (show ObjOk X.prog X.w H s.heap a (.tup xs) from I.hok a _ ea)
    obtain ⟨o, h1, h2, _⟩ := p
    exact PySem.W.kia_one PySem.W.kitx_tuple I.kIn ⟨o, h1, h2⟩ e (fun z => nomatch z) h
  | @dK a kvs ea =>
    cases (show u = Value.ref a from rx)
    obtain ⟨_, _, vs, _, p⟩ := (show ObjOk X.prog X.w H s.heap a (.dK kvs) from I.hok a _ ea)
    obtain ⟨o, es, ep, h1, h2, _⟩ := p
    exact PySem.W.kia_one PySem.W.kitx_dict I.kIn ⟨o, h1, h2.1⟩ e (fun z => nomatch z) h
  | @dT a kvs ea =>
    cases (show u = Value.ref a from rx)
    obtain ⟨_, _, xs, _, o, es, ep, h1, h2, _⟩ := (show ObjOk X.prog X.w H s.heap a (.dT kvs) from I.hok a _ ea)
    exact PySem.W.kia_one PySem.W.kitx_dict I.kIn ⟨o, h1, h2.1⟩ e (fun z => nomatch z) h
  | @ins a C dx fs ea cl ha hn htk hm =>
    cases (show u = Value.ref a from rx)
    obtain ⟨mA, O, _⟩ := ins_get I.hok ea
    obtain ⟨od, J, _⟩ := O.look
    exact PySem.W.kia_one (PySem.W.kitx_own (cl.get _) cl.hd ha hn htk hm) I.kIn J e (fun z => nomatch z) h
end
end L2

namespace L2
open PySem PySem.Spec PyProof.Rows

/-! ### room -/
structure Room (k : Nat) (A : Around) : Prop where
  hd : A.handled = none
  dp : A.depth + 3 * k + 5 < recursionLimit
  un : A.units + 16 * k + 200 < cLine
theorem Room.mono {j k : Nat} {A : Around} (r : Room k A) (h : j ≤ k) : Room j A := ⟨r.hd, by have := r.dp; omega, by have := r.un; omega⟩
theorem Room.deeper {k : Nat} {A : Around} (r : Room (k + 1) A) (env : Env) : Room k (A.deeper env) :=
  ⟨r.hd, by have := r.dp; show A.depth + 1 + 3 * k + 5 < _; omega, by have := r.un; show A.units + 3 + 16 * k + 200 < _; omega⟩
theorem make_depth {A : Around} {C : Addr} {us : List Value} {kw : List (Str × Value)} : (A.under (.builtin "type.__call__" ⟨.ref C :: us, kw⟩)).depth = A.depth + 1 := by
  first | rfl | simp [Around.under, Code.weight, Code.isCreation, Code.isGuard, Code.isCaller, Code.frames, Code.isFrame, guardIds]
theorem make_units {A : Around} {C : Addr} {us : List Value} {kw : List (Str × Value)} : (A.under (.builtin "type.__call__" ⟨.ref C :: us, kw⟩)).units = A.units + 1 := by
  first | rfl | simp [Around.under, Code.cUnits, Code.frames, Code.isFrame]
theorem Room.make {k : Nat} {A : Around} (r : Room (k + 1) A) (C : Addr) (us : List Value) (kw : List (Str × Value)) : Room k (A.under (.builtin "type.__call__" ⟨.ref C :: us, kw⟩)) :=
  ⟨r.hd, by have := r.dp; rw [make_depth]; omega, by have := r.un; rw [make_units]; omega⟩
theorem Room.depth {k : Nat} {A : Around} (r : Room k A) : A.depth < recursionLimit := by have := r.dp; omega
theorem Room.units {k : Nat} {A : Around} (r : Room k A) : A.units + 64 < cLine := by have := r.un; omega
/-! ### argument lists and displays -/
def tNil : TA := fun _ H Q => Q [] H
def tCons (ta : TE) (tr : TA) : TA := fun σ H Q => ta σ H fun x H1 => tr σ H1 fun xs H2 => Q (x :: xs) H2
section
variable {X : Cx} {e : Expr} {es : List Expr} {te : TE} {t : TA} {pos : Pos}
theorem pa_nil : PA X [] tNil := fun _ _ _ _ H Q I h => Calls.spliced_nil ⟨[], H, I, .nil, h⟩
theorem pa_cons (ha : PE X e te) (hr : PA X es t) (hs : starEach (e :: es) X.env = (false, eval e X.env) :: starEach es X.env := by rfl) : PA X (e :: es) (tCons te t) := by
  intro pos pins s σ H Q I h
  rw [hs]
  show wpAny _ _ (spliced ((false, eval e X.env) :: backTo pos (starEach es X.env))) _ _ s
  refine Calls.spliced_cons (thn (ha pins s σ H _ I h) fun u s1 ⟨x, H1, I1, r1, q1⟩ => ?_)
  exact thn (hr pos pins s1 σ H1 _ I1 q1) fun us s2 ⟨xs, H2, I2, r2, q2⟩ => ⟨x :: xs, H2, I2, .cons r1 r2, q2⟩

/-- a tuple, a list of written items -/
def tTup (t : TA) : TE := fun σ H Q => t σ H fun xs H1 => xs.length ≤ sizeLine ∧ ∀ p, H1 p = none → Q (.ref p) (upd H1 p (.tup xs))
def tLst (t : TA) : TE := fun σ H Q => t σ H fun xs H1 => xs.length ≤ sizeLine ∧ ∀ p, H1 p = none → Q (.ref p) (upd H1 p (.lst xs))
theorem pe_tup {x1} (h : PA X es t) : PE X (.Tuple es x1 pos) (tTup t) := by
  intro pins s σ H Q I hq
  refine wpAny_Tuple_spliced (thn (h pos pins s σ H _ I hq) fun us s1 ⟨xs, H1, I1, r, z, q⟩ => ⟨by rw [← r.length]; exact z, ?_⟩)
  have hf : H1 s1.heap.objs.size = none := I1.hok.fresh (Nat.le_refl _)
  refine ⟨.ref s1.heap.objs.size, upd H1 s1.heap.objs.size (.tup xs), I1.laid (t' := s1.toks) (fun b u e => Heap.get?_push_of_some _ e) (Nat.le_refl _) ?_, rfl, q _ hf⟩
  exact ⟨z, us, r, ⟨_, Heap.get?_push_size _ rfl, rfl, _, rfl⟩⟩
theorem pe_lst (h : PA X es t) : PE X (.List es pos) (tLst t) := by
  intro pins s σ H Q I hq
  refine wpAny_List_spliced (thn (h pos pins s σ H _ I hq) fun us s1 ⟨xs, H1, I1, r, z, q⟩ => ⟨by rw [← r.length]; exact z, ?_⟩)
  have hf : H1 s1.heap.objs.size = none := I1.hok.fresh (Nat.le_refl _)
  refine ⟨.ref s1.heap.objs.size, upd H1 s1.heap.objs.size (.lst xs), I1.laid (t' := s1.toks) (fun b u e => Heap.get?_push_of_some _ e) (Nat.le_refl _) ?_, rfl, q _ hf⟩
  exact ⟨z, us, 0, r, Heap.get?_push_size _ rfl⟩
end

/-! ### what a def promises -/
/-- a def's promise: the bound arguments in the parameters' order, the heap, the wanted end, the wanted exception -/
abbrev Sp := List V → Hp → VK → XK → Prop
/-- how an exception lies behind a call (file 08 gives it): the callers' frames, abstract heap and state ahead of the call, the wish, the exception, the state -/
abbrev CXT := List Env → Hp → Shared → XK → Value → Shared → Prop

/-- the state at a call -/
structure Env0 (P : Program) (w : World) (K : PySem.W.Frag) (mg : Str → Option Value) (base : Heap) (A : Around) (outer : List Env) (s : Shared) (H : Hp) : Prop where
  frames : A.frames = some outer
  mod : Mod K mg base
  bs : ∀ b o, base.get? b = some o → s.heap.get? b = some o ∧ H b = none
  bsz : base.objs.size ≤ s.heap.objs.size
  funs : s.heap.FunFrames base outer
  frf : ∀ b ∈ frs outer, H b = none
  hok : HOk P w H s.heap
  bare : AllBare s.gens
/-- a call's end -/
def CE (outer : List Env) (P : Program) (w : World) (H : Hp) (s : Shared) (Q : VK) (u : Value) (s' : Shared) : Prop :=
  ∃ v H', s'.os = s.os ∧ AllBare s'.gens ∧ Un (frs outer) [] H H' s.heap s'.heap ∧ HOk P w H' s'.heap ∧ RelV v u ∧ Q v H'
def CR (CX : CXT) (outer : List Env) (P : Program) (w : World) (H : Hp) (s : Shared) (Q : VK) (E : XK) (r : Result) (s' : Shared) : Prop :=
  match r with
  | .ok (.ret u) => CE outer P w H s Q u s'
  | .ok _ => False
  | .error e => CX outer H s E e s'
structure FnOk (P : Program) (w : World) (K : PySem.W.Frag) (mg : Str → Option Value) (base : Heap) (CX : CXT) (k : Nat) (f : Addr) (fd : FuncData) (ps : List Str) (sp : Sp) : Prop where
  len : ∀ vs H Q E, sp vs H Q E → vs.length = ps.length
  run : ∀ (A : Around) (outer : List Env) (s : Shared) (H : Hp) (args : Args) (us : List Value) (vs : List V) (Q : VK) (E : XK), Room k A → Env0 P w K mg base A outer s H → BindsTo s fd args (ps.zip us) → Vals vs us → sp vs H Q E →
    codeAny (model P w) A (.call (.ref f) args) (CR CX outer P w H s Q E) s
theorem Env0.make {P : Program} {w : World} {K : PySem.W.Frag} {mg : Str → Option Value} {base : Heap} {A : Around} {outer : List Env} {s : Shared} {H : Hp} (e : Env0 P w K mg base A outer s H) (C : Addr) (us : List Value) (kw : List (Str × Value)) :
    Env0 P w K mg base (A.under (.builtin "type.__call__" ⟨.ref C :: us, kw⟩)) outer s H := ⟨by first | exact e.frames | (simpa [Around.under, Code.envs, Code.isFrame, pushEnvs] using e.frames), e.mod, e.bs, e.bsz, e.funs, e.frf, e.hok, e.bare⟩
section
variable {X : Cx} {pins : List (Addr × Obj)} {σ : St} {H : Hp} {s s' : Shared}
/-- from a body: what a callee wants -/
theorem Inv.env0 (I : Inv X pins σ H s) : Env0 X.prog X.w X.K X.mg X.base X.A X.stack s H :=
  ⟨I.ok.frames, I.ok.mod, I.bs, Nat.le_trans I.ok.bsz I.sz, I.stack, I.stkFree, I.hok, I.bare⟩
/-- behind a call -/
theorem Inv.after {Q : VK} {u : Value} (I : Inv X pins σ H s) (h : CE X.stack X.prog X.w H s Q u s') : EP X pins σ Q u s' := by
  obtain ⟨v, H', os, bare, un, hok, r, q⟩ := h
  obtain ⟨hh, g, d, t, os'⟩ := s'
  obtain rfl : os' = s.os := os
  exact ⟨v, H', I.call (h' := hh) (g' := g) (d' := d) (t' := t) (ch := []) un hok bare (fun b z => absurd z (by simp)), r, q⟩
end

/-! ### calls -/
/-- f(..): the written arguments, then the defaults dvs; E: what is wanted of an exception -/
def tCall (sp : Sp) (dvs : List V) (E : XK) (t : TA) : TE := fun σ H Q => t σ H fun vs H1 => sp (vs ++ dvs) H1 Q E
/-- o.m(..) of an instance of the class at C -/
def tMeth (C : Addr) (m : Str) (sp : Sp) (dvs : List V) (E : XK) (ta : TE) (t : TA) : TE := fun σ H Q => ta σ H fun x H1 => ∃ a dx fs, x = .ref a ∧ H1 a = some (.ins C dx fs) ∧ fs.lookup m = none ∧
  t σ H1 fun vs H2 => sp (x :: (vs ++ dvs)) H2 Q E
/-- C(..): a new instance and its dict, then __init__ -/
def tMake (C : Addr) (sp : Sp) (dvs : List V) (E : XK) (t : TA) : TE := fun σ H Q => t σ H fun vs H1 => ∀ x dx, H1 x = none → H1 dx = none → dx ≠ x →
  sp (.ref x :: (vs ++ dvs)) (upd (upd H1 dx (.own x)) x (.ins C dx [])) (fun v H2 => v = .non ∧ Q (.ref x) H2) E

/-- how the parameters are bound: us the positional arguments, kw the keywords' values by name, ds the defaults that fill up -/
def Binds (K : PySem.W.Frag) (fd : FuncData) (ps : List Str) (ds : List Value) : Prop :=
  ∀ (s : Shared) (us : List Value), K.In s.heap → (us ++ ds).length = ps.length → BindsTo s fd ⟨us, []⟩ (ps.zip (us ++ ds))
/-- every parameter is given -/
theorem Binds.all {K : PySem.W.Frag} {fd : FuncData} {ps : List Str} (h : ∀ us : List Value, us.length = ps.length → bindArgs fd ⟨us, []⟩ = pure (ps.zip us)) : Binds K fd ps [] := fun s us _ hl => by
  rw [List.append_nil] at hl ⊢
  exact .of_eq (h us hl)

/-- an exception of a callee reaches what this body wants of exceptions -/
def Passes (CX : CXT) (X : Cx) (E : XK) : Prop := ∀ (pins : List (Addr × Obj)) (σ : St) (H : Hp) (s : Shared) (e : Value) (s' : Shared), Inv X pins σ H s → CX X.stack H s E e s' → X.xe e s'

section
variable {X : Cx} {CX : CXT} {k : Nat} {f C : Addr} {fd : FuncData} {ps : List Str} {sp : Sp} {dvs : List V} {ds : List Value} {E : XK} {x m : Str} {p pos apos : Pos} {e o : Expr} {es : List Expr} {ta : TE} {t : TA}

/-- the callee runs -/
theorem run_fn {pins : List (Addr × Obj)} {σ : St} {H : Hp} {s : Shared} {Q : VK} {us : List Value} {vs : List V} (F : FnOk X.prog X.w X.K X.mg X.base CX k f fd ps sp) (hr : Room k X.A) (hb : Binds X.K fd ps ds) (hd : Vals dvs ds) (hx : Passes CX X E)
    (I : Inv X pins σ H s) (r : Vals vs us) (h : sp (vs ++ dvs) H Q E) : wpAny (model X.prog X.w) X.A (call (.ref f) us) (EP X pins σ Q) X.xe s := by
  have r2 : Vals (vs ++ dvs) (us ++ ds) := r.append hd
  have hl : (us ++ ds).length = ps.length := by rw [← r2.length]; exact F.len _ _ _ _ h
  refine wpAny_call (codeAny_mono (F.run X.A X.stack s H ⟨us, []⟩ (us ++ ds) (vs ++ dvs) Q E hr I.env0 (hb s us I.kIn hl) r2 h) fun r s' hq => ?_)
  cases r with
  | error e => exact hx pins σ H s e s' I hq
  | ok fl =>
    cases fl with
    | ret u => exact I.after hq
    | next => exact False.elim hq
    | brk => exact False.elim hq
    | cont => exact False.elim hq

theorem pe_call (F : FnOk X.prog X.w X.K X.mg X.base CX k f fd ps sp) (hr : Room k X.A) (hg : Gl X x) (hm : X.mg x = some (.ref f)) (hk : PySem.W.keepIn X.K (.ref f) = true) (hb : Binds X.K fd ps ds) (hd : Vals dvs ds) (hx : Passes CX X E)
    (ha : PA X (e :: es) t) (hdb : (x == ("__debug__" : Str)) = false := by decide) (he : starEach (e :: es) X.env = (false, eval e X.env) :: starEach es X.env := by rfl) (hpl : (backTo pos (starEach es X.env)).any (·.1) = false := by rfl) :
    PE X (.Call (.Name x p) (e :: es) [] pos) (tCall sp dvs E t) := by
  intro pins s σ H Q I h
  refine wpAny_Call_Name_kw (ld_glob I hg hm ?_ hdb)
  refine PySem.W.callWith_K (h₀ := X.base) I.ok.mod.kin hk (thn (ha pos pins s σ H _ I h) fun us s1 ⟨vs, H1, I1, r, q⟩ => ⟨I1.kIn, ?_⟩) he hpl
  exact run_fn F hr hb hd hx I1 r q
/-- o.m(e, ..) -/
theorem pe_meth {pl : Sem Bool} (he : PE X o ta) (c : Cls X.K C) (hm : Meth X.K C m f) (F : FnOk X.prog X.w X.K X.mg X.base CX k f fd ps sp) (hr : Room k X.A) (hb : Binds X.K fd ps ds) (hd : Vals dvs ds) (hx : Passes CX X E) (ha : PA X (e :: es) t)
    (hst : starEach (e :: es) X.env = (false, eval e X.env) :: starEach es X.env := by rfl) (hpl : (backTo pos (starEach es X.env)).any (·.1) = false := by rfl)
    (ht : eval (.Call (.Attribute o m apos) (e :: es) [] pos) X.env = (do
      let ov ← eval o X.env
      standAt apos.atName
      let (f, first) ← holding [ov] (getMethod ov m pl)
      callWith pos f first (backTo pos (starEach (e :: es) X.env)) (backToKw pos (keywordEach [] X.env))) := by rfl) :
    PE X (.Call (.Attribute o m apos) (e :: es) [] pos) (tMeth C m sp dvs E ta t) := by
  intro pins s σ H Q I h
  refine PySem.W.methodCall_KW (pl := pl) (thn (he pins s σ H _ I h) fun u s1 ⟨x, H1, I1, rx, a, dx, fs, ex, ea, l, q⟩ => ?_) ht
  subst ex
  obtain rfl : u = Value.ref a := rx
  refine getmeth_ok I1 ea c hm l ?_
  refine PySem.W.callWith_K (first := [.ref a]) (h₀ := X.base) I.ok.mod.kin hm.kp (thn (ha pos pins s1 σ H1 _ I1 q) fun us s2 ⟨vs, H2, I2, r, q2⟩ => ⟨I2.kIn, ?_⟩) hst hpl
  exact run_fn (us := .ref a :: us) (vs := .ref a :: vs) F hr hb hd hx I2 (.cons rfl r) q2
/-- o.m() -/
theorem pe_meth0 {pl : Sem Bool} (he : PE X o ta) (c : Cls X.K C) (hm : Meth X.K C m f) (F : FnOk X.prog X.w X.K X.mg X.base CX k f fd ps sp) (hr : Room k X.A) (hb : Binds X.K fd ps ds) (hd : Vals dvs ds) (hx : Passes CX X E)
    (ht : eval (.Call (.Attribute o m apos) [] [] pos) X.env = (do
      let ov ← eval o X.env
      standAt apos.atName
      let (f, first) ← holding [ov] (getMethod ov m pl)
      callWith pos f first (backTo pos (starEach [] X.env)) (backToKw pos (keywordEach [] X.env))) := by rfl) :
    PE X (.Call (.Attribute o m apos) [] [] pos) (tMeth C m sp dvs E ta tNil) := by
  intro pins s σ H Q I h
  refine PySem.W.methodCall_KW (pl := pl) (thn (he pins s σ H _ I h) fun u s1 ⟨x, H1, I1, rx, a, dx, fs, ex, ea, l, q⟩ => ?_) ht
  subst ex
  obtain rfl : u = Value.ref a := rx
  refine getmeth_ok I1 ea c hm l ?_
  exact PySem.W.callWith_K0 (first := [.ref a]) I1.kIn hm.kp (run_fn (us := [.ref a]) (vs := [.ref a]) F hr hb hd hx I1 (.cons rfl .nil) q)

/-- what a class must have to be made -/
structure Mk (K : PySem.W.Frag) (C f : Addr) : Prop where
  makes : PySem.W.makesIn K C = true
  init : PySem.W.findIn K (.ref C) "__init__" = some (some (.ref f))
  fn : PySem.W.isFn K (.ref f) = true
  kp : PySem.W.keepIn K (.ref C) = true

theorem run_make {pins : List (Addr × Obj)} {σ : St} {H : Hp} {s : Shared} {Q : VK} {us : List Value} {vs : List V} (M : Mk X.K C f) (F : FnOk X.prog X.w X.K X.mg X.base CX k f fd ps sp) (hr : Room (k + 1) X.A) (hb : Binds X.K fd ps ds) (hd : Vals dvs ds)
    (hx : Passes CX X E) (I : Inv X pins σ H s) (r : Vals vs us)
    (h : ∀ x dx, H x = none → H dx = none → dx ≠ x → sp (.ref x :: (vs ++ dvs)) (upd (upd H dx (.own x)) x (.ins C dx [])) (fun v H2 => v = .non ∧ Q (.ref x) H2) E) :
    wpAny (model X.prog X.w) X.A (call (.ref C) us) (EP X pins σ Q) X.xe s := by
  have hq := h (s.heap.objs.size + 1) s.heap.objs.size (I.hok.fresh (Nat.le_succ _)) (I.hok.fresh (Nat.le_refl _)) (Nat.ne_of_lt (Nat.lt_succ_self _))
  have I2 := Inv.made (C := C) I
  have r2 : Vals (V.ref (s.heap.objs.size + 1) :: (vs ++ dvs)) (Value.ref (s.heap.objs.size + 1) :: (us ++ ds)) := .cons rfl (r.append hd)
  have hl : (Value.ref (s.heap.objs.size + 1) :: us ++ ds).length = ps.length := by
    have e := r2.length
    rw [F.len _ _ _ _ hq] at e
    exact e.symm
  refine wpAny_call (make_map (f := f) I.kIn M.makes M.init (beq_iff_eq.mp M.fn) (codeAny_mono (F.run _ X.stack _ _ ⟨Value.ref (s.heap.objs.size + 1) :: us, []⟩ (Value.ref (s.heap.objs.size + 1) :: (us ++ ds)) _ _ E (hr.make C us [])
    (I2.env0.make C us []) (hb _ (Value.ref (s.heap.objs.size + 1) :: us) I2.kIn hl) r2 hq) fun r s' hq' => ?_))
  cases r with
  | error e => exact hx pins σ _ _ e s' I2 hq'
  | ok fl =>
    cases fl with
    | ret u =>
      obtain ⟨v, H', I3, rv, ev, q3⟩ := I2.after hq'
      subst ev
      exact ⟨rv, ⟨V.ref (s.heap.objs.size + 1), H', I3, rfl, q3⟩⟩
    | next => exact False.elim hq'
    | brk => exact False.elim hq'
    | cont => exact False.elim hq'
theorem pe_make (M : Mk X.K C f) (F : FnOk X.prog X.w X.K X.mg X.base CX k f fd ps sp) (hr : Room (k + 1) X.A) (hg : Gl X x) (hm : X.mg x = some (.ref C)) (hb : Binds X.K fd ps ds) (hd : Vals dvs ds) (hx : Passes CX X E)
    (ha : PA X (e :: es) t) (hdb : (x == ("__debug__" : Str)) = false := by decide) (he : starEach (e :: es) X.env = (false, eval e X.env) :: starEach es X.env := by rfl) (hpl : (backTo pos (starEach es X.env)).any (·.1) = false := by rfl) :
    PE X (.Call (.Name x p) (e :: es) [] pos) (tMake C sp dvs E t) := by
  intro pins s σ H Q I h
  refine wpAny_Call_Name_kw (ld_glob I hg hm ?_ hdb)
  refine PySem.W.callWith_K (h₀ := X.base) I.ok.mod.kin M.kp (thn (ha pos pins s σ H _ I h) fun us s1 ⟨vs, H1, I1, r, q⟩ => ⟨I1.kIn, ?_⟩) he hpl
  exact run_make M F hr hb hd hx I1 r q
end

/-! ### keywords -/
section
variable {X : Cx} {CX : CXT} {k : Nat} {f C : Addr} {fd : FuncData} {ps ks : List Str} {sp : Sp} {E : XK} {x m : Str} {p pos apos kpos : Pos} {e o : Expr} {es : List Expr} {kws : List Keyword} {te ta : TE} {t tk : TA} {nm : Option Str}
/-- how a call with keywords binds: g puts the positional values us and the keywords' values ws (names ks) in the parameters' order, defaults among them -/
structure KBinds (K : PySem.W.Frag) (fd : FuncData) (ps ks : List Str) (g : List Value → List Value → List Value) (gV : List V → List V → List V) : Prop where
  to : ∀ (s : Shared) (us ws : List Value), K.In s.heap → (g us ws).length = ps.length → BindsTo s fd ⟨us, ks.zip ws⟩ (ps.zip (g us ws))
  rel : ∀ {vs : List V} {us : List Value} {zs : List V} {ws : List Value}, Vals vs us → Vals zs ws → Vals (gV vs zs) (g us ws)
variable {g : List Value → List Value → List Value} {gV : List V → List V → List V}
end

/-! ### a def's body keeps its promise -/
/-- names: the parameters first -/
structure FnScope (N P : List Str) (sc : Scope) : Prop where
  kind : sc.kind = .function
  co : sc.isCoroutine = false
  gen : sc.isGenerator = false
  nd : N.Nodup
  pre : N.take P.length = P
  par : ∀ x ∈ P, sc.names.lookup x = some .local ∨ sc.names.lookup x = some .cell
  nofree : ∀ y ∈ sc.names, y.2 ≠ .free

theorem bindL_out {kindOf : Str → Option NameKind} {x : Str} : ∀ {binds : List (Str × Value)} {m : Str → Option Value}, (∀ v, (x, v) ∉ binds) → bindL kindOf binds m x = m x
  | [], _, _ => rfl
  | (n, v) :: r, m, h => by
    unfold bindL
    rw [bindL_out fun w hw => h w (List.mem_cons_of_mem _ hw)]
    split
    · have : x ≠ n := by rintro rfl; exact h v List.mem_cons_self
      simp [this]
    · rfl
theorem bindC_out {kindOf : Str → Option NameKind} {x : Str} : ∀ {binds : List (Str × Value)} {m : Str → Option Value}, (∀ v, (x, v) ∉ binds) → bindC kindOf binds m x = m x
  | [], _, _ => rfl
  | (n, v) :: r, m, h => by
    unfold bindC
    rw [bindC_out fun w hw => h w (List.mem_cons_of_mem _ hw)]
    split
    · rfl
    · have : x ≠ n := by rintro rfl; exact h v List.mem_cons_self
      simp [this]
theorem bindL_get {kindOf : Str → Option NameKind} {x : Str} {v : Value} : ∀ {P : List Str} {vs : List Value} {i : Nat} {m : Str → Option Value}, P.Nodup → P[i]? = some x → vs[i]? = some v → kindOf x = some .local →
    bindL kindOf (P.zip vs) m x = some v
  | [], _, _, _, _, h, _, _ => by simp at h
  | _ :: _, [], _, _, _, _, h, _ => by simp at h
  | p :: P, w :: vs, 0, m, nd, h1, h2, hk => by
    simp at h1 h2; subst h1; subst h2
    show bindL kindOf ((p, w) :: P.zip vs) m p = _
    unfold bindL
    rw [bindL_out fun v hv => (List.nodup_cons.mp nd).1 (List.of_mem_zip hv).1, if_pos hk]
    simp
  | p :: P, w :: vs, i + 1, m, nd, h1, h2, hk => by
    show bindL kindOf ((p, w) :: P.zip vs) m x = _
    unfold bindL
    exact bindL_get (i := i) (List.nodup_cons.mp nd).2 (by simpa using h1) (by simpa using h2) hk
theorem bindC_get {kindOf : Str → Option NameKind} {x : Str} {v : Value} : ∀ {P : List Str} {vs : List Value} {i : Nat} {m : Str → Option Value}, P.Nodup → P[i]? = some x → vs[i]? = some v → kindOf x ≠ some .local →
    bindC kindOf (P.zip vs) m x = some v
  | [], _, _, _, _, h, _, _ => by simp at h
  | _ :: _, [], _, _, _, _, h, _ => by simp at h
  | p :: P, w :: vs, 0, m, nd, h1, h2, hk => by
    simp at h1 h2; subst h1; subst h2
    show bindC kindOf ((p, w) :: P.zip vs) m p = _
    unfold bindC
    rw [bindC_out fun v hv => (List.nodup_cons.mp nd).1 (List.of_mem_zip hv).1, if_neg hk]
    simp
  | p :: P, w :: vs, i + 1, m, nd, h1, h2, hk => by
    show bindC kindOf ((p, w) :: P.zip vs) m x = _
    unfold bindC
    exact bindC_get (i := i) (List.nodup_cons.mp nd).2 (by simpa using h1) (by simpa using h2) hk

/-- the names' values at the entry -/
def start (N : List Str) (vs : List V) : St := vs.map some ++ List.replicate (N.length - vs.length) none

/-- the context of a def's body, at its entry; an exception leaves the frame, then lies as CX says -/
def cxOf (CX : CXT) (P : Program) (w : World) (K : PySem.W.Frag) (mg : Str → Option Value) (base : Heap) (N : List Str) (qual : Str) (scope : Scope) (f : Addr) (cd : Value) (A : Around) (outer : List Env) (s : Shared) (H : Hp) (E : XK) : Cx where
  prog := P
  w := w
  K := K
  mg := mg
  base := base
  A := A.deeper (envOfC qual scope s.heap.objs.size f cd)
  N := N
  s₀ := s
  H₀ := H
  env := envOfC qual scope s.heap.objs.size f cd
  outer := outer
  stack := envOfC qual scope s.heap.objs.size f cd :: outer
  ex := []
  calm := true
  fn := fun _ => true
  pn := []
  xe := fun e s' => wpAny (model P w) (A.deeper (envOfC qual scope s.heap.objs.size f cd)) (leaving (envOfC qual scope s.heap.objs.size f cd) e) (fun _ s'' => CX outer H s E e s'') (fun e' s'' => CX outer H s E e' s'') s'

theorem cell_has {sc : Scope} {n : Nat} {x : Str} (h : sc.names.lookup x = some .cell) : ∃ c, (cellsFrom n sc.names []).lookup x = some c := by
  have q := PySem.W.cellsFrom_some sc.names n [] (.inl h)
  exact Option.isSome_iff_exists.mp q

theorem inv_start {CX : CXT} {P : Program} {w : World} {K : PySem.W.Frag} {mg : Str → Option Value} {base : Heap} {N ps : List Str} {qual : Str} {scope : Scope} {f : Addr} {cd : Value} {A : Around} {outer : List Env} {s s1 : Shared} {H : Hp} {E : XK} {us : List Value} {vs : List V}
    (S : FnScope N ps scope) (hd : A.handled = none) (e0 : Env0 P w K mg base A outer s H) (hl : vs.length = ps.length) (r : Vals vs us)
    (x : InCallC s s.heap.objs.size (bindL (envOfC qual scope s.heap.objs.size f cd).kindOf (ps.zip us) fun _ => none) (cellsFrom (s.heap.objs.size + 1) scope.names []) (bindC (envOfC qual scope s.heap.objs.size f cd).kindOf (ps.zip us) fun _ => none) s1) :
    Inv (cxOf CX P w K mg base N qual scope f cd A outer s H E) [] (start N vs) H s1 := by
  have hpl : ps.length ≤ N.length := by have := congrArg List.length S.pre; rw [List.length_take] at this; omega
  obtain ⟨h1, tk, rfl, hk⟩ := x.done
  have noA : ∀ b : Addr, b ∉ (cxOf CX P w K mg base N qual scope f cd A outer s H E).ex := fun b z => absurd (show b ∈ ([] : List Addr) from z) (by simp)
  refine ⟨⟨e0.mod, S.kind, rfl, rfl, Nat.le_refl _, fun y z c h1 h2 => ?_, fun y hy => ?_, fun y c _ h => ?_, fun _ => hd, Around.frames_deeper e0.frames, .inr ⟨rfl, rfl⟩, fun b z => absurd z (noA b), e0.bs, e0.bsz, fun b _ _ => noA b, fun b z => absurd z (noA b), e0.funs, e0.frf⟩,
    rfl, e0.bare, Un.kept hk, ⟨_, x.toInCall.ns, fun i y v h1 h2 h3 => ?_⟩, fun y c h => ⟨_, x.cell y c h⟩, e0.hok.fresh (Nat.le_refl _), fun y c h => ?_, fun p hp => absurd (show p ∈ ([] : List (Addr × Obj)) from hp) (by simp), e0.hok.kept hk, ?_⟩
  · exact name_of_addr x.apart (PySem.mem_of_lookup h1) (PySem.mem_of_lookup h2)
  · have hy : scope.names.lookup y = some .cell ∨ scope.names.lookup y = some .free := hy
    rcases hy with hy | hy
    · exact cell_has hy
    · exact absurd rfl (S.nofree _ (PySem.mem_of_lookup hy))
  · exact Nat.le_of_lt (x.above y c (PySem.mem_of_lookup h))
  · have hi : i < vs.length := by
      unfold start at h2
      by_cases hi : i < vs.length
      · exact hi
      · rw [List.getElem?_append_right (by simpa using hi)] at h2
        rw [List.getElem?_replicate] at h2
        split at h2 <;> cases h2
    have ha : vs[i]? = some v := by
      unfold start at h2
      rw [List.getElem?_append_left (by simpa using hi), List.getElem?_map] at h2
      cases e : vs[i]? with
      | none => rw [e] at h2; cases h2
      | some a => rw [e] at h2; cases h2; rfl
    obtain ⟨u, hu, rv⟩ := r.get ha
    have hp : ps[i]? = some y := by
      rw [← S.pre, List.getElem?_take_of_lt (by omega)]; exact h1
    have ndP : ps.Nodup := by rw [← S.pre]; exact S.nd.sublist (List.take_sublist _ _)
    refine ⟨u, rv, ?_⟩
    rcases S.par y (List.mem_of_getElem? hp) with k | k
    · exact .inl ⟨k, bindL_get ndP hp hu k⟩
    · obtain ⟨c, e⟩ := cell_has (n := s.heap.objs.size + 1) k
      refine .inr ⟨.inl k, c, e, ?_⟩
      have q := x.cell y c e
      rw [bindC_get ndP hp hu (by show scope.names.lookup y ≠ _; rw [k]; decide)] at q
      exact q
  · exact e0.hok.fresh (Nat.le_of_lt (x.above y c (PySem.mem_of_lookup h)))
  · unfold start
    show _ = N.length
    rw [List.length_append, List.length_map, List.length_replicate]
    omega

/-- THE RULE: a def (or a method) of the text, by its body. The body's reading t is chosen for each entry; it is run at the parameters' values -/
theorem fn_of {CX : CXT} {P : Program} {w : World} {K : PySem.W.Frag} {mg : Str → Option Value} {base : Heap} {k : Nat} {f : Addr} {name qual : Str} {params : Arguments} {body : List Stmt} {scope : Scope} {dV kV doc pm cdv ct oc : Value} {an od : Option Addr}
    {osl : Array (Option Value)} {N ps : List Str} {sp : Sp} (lk : K.lookup f = some ⟨oc, od, .func (PySem.W.fnOf name qual params body scope dV kV doc pm an cdv ct), osl⟩) (hcd : PySem.W.codeIn K cdv qual = true) (S : FnScope N ps scope)
    (len : ∀ vs H Q E, sp vs H Q E → vs.length = ps.length)
    (hbody : ∀ (A : Around) (outer : List Env) (s : Shared) (H : Hp) (vs : List V) (Q : VK) (E : XK), Room k (A.deeper (envOfC qual scope s.heap.objs.size f cdv)) → sp vs H Q E →
      ∃ t, PSs (cxOf CX P w K mg base N qual scope f cdv A outer s H E) body t ∧ t { nx := fun _ H' => Q .non H', rt := Q } (start N vs) H) :
    FnOk P w K mg base CX (k + 1) f (PySem.W.fnOf name qual params body scope dV kV doc pm an cdv ct) ps sp := by
  refine ⟨len, fun A outer s H args us vs Q E hr e0 hb r hsp => ?_⟩
  have hl := len _ _ _ _ hsp
  have KX : K.In s.heap := e0.mod.kin.keeps fun b o e => (e0.bs b o e).1
  have lim : s.heap.NoLimit := e0.mod.nolimit.keeps fun b o e => (e0.bs b o e).1
  have hkind : ∀ y ∈ ps.zip us, scope.names.lookup y.1 = some .local ∨ (scope.names.lookup y.1 = some .cell ∧ ((cellsFrom (s.heap.objs.size + 1) scope.names []).lookup y.1).isSome = true) := fun ⟨n, v⟩ hy => by
    rcases S.par n (List.of_mem_zip hy).1 with q | q
    · exact .inl q
    · exact .inr ⟨q, PySem.W.cellsFrom_some _ _ _ (.inl q)⟩
  refine codeAny_call_function hr.depth (KX _ _ lk) rfl S.co S.gen rfl (PySem.W.codeRec_of KX hcd) (hb _ _ _ _ ?_)
  refine wpAny_newFunctionEnv_cells S.kind hkind fun env he s1 x => ?_
  subst he
  refine ⟨lim.keeps x.toInCall.keep, codeAny_func ?_⟩
  obtain ⟨t, ht, hq⟩ := hbody A outer s H vs Q E (hr.deeper _) hsp
  have I : Inv (cxOf CX P w K mg base N qual scope f cdv A outer s H E) [] (start N vs) H s1 := inv_start S hr.hd e0 hl r x
  refine wpAny_mono (ht [] s1 (start N vs) H _ I hq) (fun fl s' hs => ?_) fun e s' hs => hs
  have fin : ∀ {σ' : St} {H' : Hp} {v : V} {u : Value}, Inv (cxOf CX P w K mg base N qual scope f cdv A outer s H E) [] σ' H' s' → RelV v u → Q v H' → CE outer P w H s Q u s' :=
    fun {σ' H' v u} J rv q => ⟨v, H', J.os, J.bare, J.base, J.hok, rv, q⟩
  cases fl with
  | ret u =>
    obtain ⟨v, σ', H', J, rv, q⟩ := hs
    exact fin J rv q
  | next =>
    obtain ⟨σ', H', J, q⟩ := hs
    exact fin (v := V.non) (u := Value.none) J rfl q
  | brk =>
    obtain ⟨_, _, _, q⟩ := hs
    exact False.elim q
  | cont =>
    obtain ⟨_, _, _, q⟩ := hs
    exact False.elim q
end L2

namespace L2
open PySem PySem.Spec PyProof.Rows
section
variable {X : Cx} {x : Str} {p pos : Pos} {e : Expr} {es : List Expr} {t : TA} {id T : String} {r : List V → Hp → VK → Prop}

def tCB (r : List V → Hp → VK → Prop) (t : TA) : TE := fun σ H Q => t σ H fun vs H1 => r vs H1 Q
/-- f(e, ..), f a built-in function -/
theorem pe_callB (hc : CallR X (.builtin id) r) (hg : Gl X x) (hm : X.mg x = none) (hv : bootBuiltins x = some (.builtin id)) (ha : PA X (e :: es) t) (hn : x ≠ "__name__" := by decide) (hdb : (x == ("__debug__" : Str)) = false := by decide)
    (he : starEach (e :: es) X.env = (false, eval e X.env) :: starEach es X.env := by rfl) (hpl : (backTo pos (starEach es X.env)).any (·.1) = false := by rfl) : PE X (.Call (.Name x p) (e :: es) [] pos) (tCB r t) := by
  intro pins s σ H Q I h
  refine wpAny_Call_Name_kw (ld_blt I hg hm hv ?_ hn hdb)
  exact PyProof.Rows.callWith_builtin1 (thn (ha pos pins s σ H _ I h) fun us s1 ⟨vs, H1, I1, r1, q1⟩ => hc pins s1 σ H1 vs us Q I1 r1 q1) he hpl
/-- T(e, ..), T a built-in type -/
theorem pe_callTy (hc : CallR X (.type T) r) (hg : Gl X x) (hm : X.mg x = none) (hv : bootBuiltins x = some (.type T)) (ha : PA X (e :: es) t) (hn : x ≠ "__name__" := by decide) (hdb : (x == ("__debug__" : Str)) = false := by decide)
    (he : starEach (e :: es) X.env = (false, eval e X.env) :: starEach es X.env := by rfl) (hpl : (backTo pos (starEach es X.env)).any (·.1) = false := by rfl) : PE X (.Call (.Name x p) (e :: es) [] pos) (tCB r t) := by
  intro pins s σ H Q I h
  refine wpAny_Call_Name_kw (ld_blt I hg hm hv ?_ hn hdb)
  exact PyProof.Rows.callWith_type1 (thn (ha pos pins s σ H _ I h) fun us s1 ⟨vs, H1, I1, r1, q1⟩ => hc pins s1 σ H1 vs us Q I1 r1 q1) he hpl
end
end L2

namespace HT
open PySem PyProof.Rows

section
open PySem.SeqAt
open PySem.AutoSeq1 (wpAny_loadPart')
open PySem.MeetsSeq PySem.MeetsSeq2 PySem.MeetsSeq3

end

section
variable {prog : Program} {w : World} {A : Around} {E : Value → Shared → Prop} {s : Shared}

/-! ### t[a:b], not the whole -/
/-- a slice's bound as a place among n (d where it is left out) -/
def sIx (n d : Nat) : Option Int → Nat
  | none => d
  | some v => if v < 0 then (v + (n : Int)).toNat else min v.toNat n
theorem sIx_nat (n d k : Nat) : sIx n d (some (k : Int)) = min k n := by
  show (if (k : Int) < 0 then ((k : Int) + (n : Int)).toNat else min (k : Int).toNat n) = min k n
  rw [if_neg (by omega), Int.toNat_natCast]
end
end HT

namespace L2
open PySem PySem.Spec PyProof.Rows

/-! ### the parts of a slice -/
abbrev TO := St → Hp → (Option Int → Hp → Prop) → Prop
/-- a slice's part (left out, or an int) -/
def PO (X : Cx) (e : Option Expr) (t : TO) : Prop :=
  ∀ (pins : List (Addr × Obj)) (s : Shared) (σ : St) (H : Hp) (Q : Option Int → Hp → Prop), Inv X pins σ H s → t σ H Q →
    wpAny (model X.prog X.w) X.A (evalPart e X.env) (fun u s' => ∃ o H', Inv X pins σ H' s' ∧ IsPart u o ∧ Q o H') X.xe s
def tNoPart : TO := fun _ H Q => Q none H
def tPart (t : TE) : TO := fun σ H Q => t σ H fun x H1 => ∃ i, x = .int i ∧ Q (some i) H1

section
variable {X : Cx} {e : Expr} {te : TE} {lo hi : Option Expr} {tl th : TO} {pos p2 : Pos}

theorem po_none : PO X none tNoPart := by
  intro pins s σ H Q I h
  rw [evalPart_none]
  exact wpAny_pure ⟨none, H, I, .none, h⟩
theorem po_some (h : PE X e te) : PO X (some e) (tPart te) := by
  intro pins s σ H Q I hw
  rw [evalPart_some]
  refine thn (h pins s σ H _ I hw) fun u s1 ⟨x, H1, I1, r1, q1⟩ => ?_
  obtain ⟨i, rfl, q⟩ := q1
  obtain ⟨t, rfl⟩ := r1
  exact ⟨some i, H1, I1, .int i t, q⟩

/-- what a slice of a value is, by values: the slice object stands at sl -/
def SlR (X : Cx) (r : V → Option Int → Option Int → Hp → VK → Prop) : Prop :=
  ∀ (pins : List (Addr × Obj)) (s : Shared) (σ : St) (H : Hp) (x : V) (v vl vu : Value) (lo hi : Option Int) (sl : Addr) (Q : VK), Inv X pins σ H s → RelV x v → s.heap.IsSliceOf sl vl vu .none → IsPart vl lo → IsPart vu hi → r x lo hi H Q →
    ∃ T id, typeLookup (.type T) "__getitem__" = pure (some (.builtin id)) ∧ s.TypeIs v T ∧ wpAny (model X.prog X.w) X.A (getItem v (.ref sl)) (EP X pins σ Q) X.xe s
def tSl (r : V → Option Int → Option Int → Hp → VK → Prop) (te : TE) (tl th : TO) : TE := fun σ H Q => te σ H fun x H1 => tl σ H1 fun l H2 => th σ H2 fun u H3 => r x l u H3 Q
/-- a[lo:hi], any a -/
theorem pe_slice {r : V → Option Int → Option Int → Hp → VK → Prop} (hr : SlR X r) (he : PE X e te) (hl : PO X lo tl) (hu : PO X hi th) : PE X (.Subscript e (.Slice lo hi none p2) pos) (tSl r te tl th) := by
  intro pins s σ H Q I h
  refine Subscript_ (thn (he pins s σ H _ I h) fun v s1 ⟨x, H1, I1, r1, q1⟩ => ?_)
  refine wpAny_Slice (thn (hl pins s1 σ H1 _ I1 q1) fun vl s2 ⟨l, H2, I2, pl, q2⟩ => thn (hu pins s2 σ H2 _ I2 q2) fun vu s3 ⟨u, H3, I3, pu, q3⟩ => ?_)
  rw [evalPart_none]
  refine wpAny_pure ?_
  have I4 : Inv X pins σ H3 { s3 with heap := s3.heap.push { cls := .type "slice", data := .fields #[vl, vu, .none] } } := I3.kept (t' := s3.toks) fun b ob q => Heap.get?_push_of_some _ q
  obtain ⟨T, id, hT, ht, hg⟩ := hr pins { s3 with heap := s3.heap.push { cls := .type "slice", data := .fields #[vl, vu, .none] } } σ H3 x v vl vu l u s3.heap.objs.size Q I4 r1 (Heap.IsSliceOf.new ..) pl pu q3
  show wpAny (model X.prog X.w) X.A (subscriptTail e (.Slice lo hi none p2) v (.ref s3.heap.objs.size)) (EP X pins σ Q) X.xe { s3 with heap := s3.heap.push { cls := .type "slice", data := .fields #[vl, vu, .none] } }
  exact tail_any (ops := [.ref s3.heap.objs.size, v]) ht hT hg (by with_unfolding_all rfl)

/-- the items of xs[lo:hi] -/
def cutV (xs : List V) (lo hi : Option Int) : List V := (xs.drop (HT.sIx xs.length 0 lo)).take (HT.sIx xs.length xs.length hi - HT.sIx xs.length 0 lo)
theorem cutV_length (xs : List V) (lo hi : Option Int) : (cutV xs lo hi).length ≤ xs.length := by
  unfold cutV
  rw [List.length_take, List.length_drop]
  omega
/-! ### t < u, t + u -/
end
end L2

namespace L2
open PySem PySem.Spec PyProof.Rows

/-! ### places -/
/-- the place that an index of any sign means -/
def ixN (n : Nat) (i : Int) : Option Nat := if 0 ≤ i then (if i < n then some i.toNat else none) else if -(n : Int) ≤ i then some (i + n).toNat else none
def atI {α : Type} (xs : List α) (i : Int) : Option α := (ixN xs.length i).bind fun j => xs[j]?
theorem ixN_seq {n : Nat} {i : Int} {j : Nat} (h : ixN n i = some j) : seqIndex? i n = some j ∧ j < n ∧ -(n : Int) ≤ i ∧ i < n := by
  unfold ixN at h
  by_cases h0 : 0 ≤ i
  · rw [if_pos h0] at h
    by_cases h1 : i < n
    · rw [if_pos h1] at h
      have e : i.toNat = j := Option.some.inj h
      exact ⟨by rw [seqIndex_of h0 h1, e], by omega, by omega, h1⟩
    · rw [if_neg h1] at h; cases h
  · rw [if_neg h0] at h
    by_cases h1 : -(n : Int) ≤ i
    · rw [if_pos h1] at h
      have e : (i + n).toNat = j := Option.some.inj h
      exact ⟨by rw [seqIndex_neg (by omega) h1, e], by omega, h1, by omega⟩
    · rw [if_neg h1] at h; cases h
theorem atI_get {α : Type} {xs : List α} {i : Int} {v : α} (h : atI xs i = some v) : ∃ j, seqIndex? i xs.length = some j ∧ xs[j]? = some v ∧ j < xs.length ∧ -(xs.length : Int) ≤ i ∧ i < xs.length := by
  unfold atI at h
  cases e : ixN xs.length i with
  | none => rw [e] at h; cases h
  | some j =>
    rw [e] at h
    obtain ⟨h1, h2, h3, h4⟩ := ixN_seq e
    exact ⟨j, h1, h, h2, h3, h4⟩
theorem atI_nat {α : Type} {xs : List α} {j : Nat} {v : α} (h : xs[j]? = some v) : atI xs (j : Int) = some v := by
  have hj : j < xs.length := (List.getElem?_eq_some_iff.mp h).1
  have e : ixN xs.length (j : Int) = some j := by
    unfold ixN
    rw [if_pos (by omega), if_pos (by omega)]; simp
  unfold atI; rw [e]; exact h
/-! ### what may be subscripted -/
/-- what stands as an index of a plain subscript -/
def PlainIx (b : Expr) : Prop := ∀ o i, subscripted b false o i = operate [o, i] (getItem o i)
/-- a subscript by values -/
def IxR (X : Cx) (r : R2) : Prop :=
  ∀ (value slice : Expr) (pins : List (Addr × Obj)) (s : Shared) (σ : St) (H : Hp) (x y : V) (v u : Value) (Q : VK), Inv X pins σ H s → RelV x v → RelV y u → r x y H Q →
    subscripted slice false v u = operate [v, u] (getItem v u) → wpAny (model X.prog X.w) X.A (subscriptTail value slice v u) (EP X pins σ Q) X.xe s
/-- a call of a builtin's method by values: the receiver, the arguments -/
def MtR (X : Cx) (id : String) (r : V → List V → Hp → VK → Prop) : Prop :=
  ∀ (pins : List (Addr × Obj)) (s : Shared) (σ : St) (H : Hp) (x : V) (xs : List V) (v : Value) (us : List Value) (Q : VK), Inv X pins σ H s → RelV x v → Vals xs us → r x xs H Q →
    wpAny (model X.prog X.w) X.A (call (.builtin id) (v :: us)) (EP X pins σ Q) X.xe s
section
variable {X : Cx} {a b : Expr} {ta tb : TE} {pos : Pos}
/-- a[b] -/
theorem pe_ix {r : R2} (hr : IxR X r) (ha : PE X a ta) (hb : PE X b tb) (hs : PlainIx b) : PE X (.Subscript a b pos) (tOp r ta tb) := by
  intro pins s σ H Q I h
  exact Subscript_ (binT ha hb I h fun v u s2 x y H2 I2 rx ry q => hr a b pins s2 σ H2 x y v u Q I2 rx ry q (hs _ _))

def rIxL (K : PySem.W.Frag) : R2 := fun x y H Q => ∃ p xs i v, x = .ref p ∧ y = .int i ∧ SqL K H p xs ∧ atI xs i = some v ∧ Q v H
def rIxT (K : PySem.W.Frag) : R2 := fun x y H Q => ∃ p xs i v, x = .ref p ∧ y = .int i ∧ SqT K H p xs ∧ atI xs i = some v ∧ Q v H
theorem ix_list : IxR X (rIxL X.K) := by
  intro value slice pins s σ H x y v u Q I rx ry h hs
  obtain ⟨p, xs, i, z, rfl, rfl, hq, he, q⟩ := h
  cases rx
  obtain ⟨t, rfl⟩ := ry
  obtain ⟨its, r, pl, hz⟩ := I.list hq
  obtain ⟨j, h1, h2, h3, h4, h5⟩ := atI_get he
  obtain ⟨w, ew, rw'⟩ := r.get h2
  have hl := r.length
  have hn := line63
  have fin : EP X pins σ Q w s := ⟨z, H, I, rw', q⟩
  by_cases h0 : 0 ≤ i
  · have hj : i.toNat = j := by
      rw [seqIndex_of h0 h5] at h1
      exact Option.some.inj h1
    exact item_listR pl.isList h0 (by omega) (by rw [hj]; simpa using ew) fin hs
  · have hj : (i + (its.toArray.size : Int)).toNat = j := by
      rw [seqIndex_neg (by omega) h4] at h1
      rw [List.size_toArray, ← hl]
      exact Option.some.inj h1
    exact subscriptTail_builtinR (x := w) pl.isList.typeIs slot_list_getitem.lookup
      (wpAny_getItem_list_neg (Q := fun r s' => r = w ∧ EP X pins σ Q r s') pl.isList (by omega) (by rw [List.size_toArray] <;> omega) (by omega) (by rw [hj]; simpa using ew) ⟨rfl, fin⟩) hs
theorem ix_tup : IxR X (rIxT X.K) := by
  intro value slice pins s σ H x y v u Q I rx ry h hs
  obtain ⟨p, xs, i, z, rfl, rfl, hq, he, q⟩ := h
  cases rx
  obtain ⟨t, rfl⟩ := ry
  obtain ⟨its, r, pl, hz⟩ := I.tuple hq
  obtain ⟨j, h1, h2, h3, h4, h5⟩ := atI_get he
  obtain ⟨w, ew, rw'⟩ := r.get h2
  have hl := r.length
  have hn := line63
  have fin : EP X pins σ Q w s := ⟨z, H, I, rw', q⟩
  exact subscriptTail_builtinR (x := w) pl.typeIs slot_tuple_getitem.lookup
    (getItem_tuple (j := j) (Q := fun r s' => r = w ∧ EP X pins σ Q r s') pl (by omega) (by omega) (by rw [List.size_toArray, ← hl]; exact h1) (by simpa using ew) ⟨rfl, fin⟩) hs
/-! ### xs[i] = v, any sign -/
/-- the list's object behind a store -/
theorem mapSeq_set (its : List Value) (n j : Nat) (u : Value) : Obj.mapSeq (·.setIfInBounds j u) { cls := .type "list", data := .seq its.toArray n } = { cls := .type "list", data := .seq (its.set j u).toArray n } := by
  simp [Obj.mapSeq]
theorem Inv.lst {pins : List (Addr × Obj)} {σ : St} {H : Hp} {s : Shared} {p : Addr} {xs : List V} (I : Inv X pins σ H s) (h : H p = some (.lst xs)) :
    ∃ (its : List Value) (n : Nat), Vals xs its ∧ s.heap.get? p = some { cls := .type "list", data := .seq its.toArray n } ∧ xs.length ≤ sizeLine := by
  obtain ⟨z, its, n, r, e⟩ := I.hok p _ h
  exact ⟨its, n, r, e, z⟩
/-- the list at p is written by an update of its object -/
theorem Inv.lstUpd {pins : List (Addr × Obj)} {σ : St} {H : Hp} {s : Shared} {p : Addr} {xs ys : List V} {its its' : List Value} {n n' : Nat} {f : Obj → Obj} (I : Inv X pins σ H s) (h : H p = some (.lst xs))
    (ho : s.heap.get? p = some { cls := .type "list", data := .seq its.toArray n }) (hf : f { cls := .type "list", data := .seq its.toArray n } = { cls := .type "list", data := .seq its'.toArray n' }) (r : Vals ys its') (hz : ys.length ≤ sizeLine) (t : Nat) :
    Inv X pins σ (upd H p (.lst ys)) { s with heap := s.heap.update p f, toks := t } := by
  have e : (s.heap.update p f).get? p = some { cls := .type "list", data := .seq its'.toArray n' } := by
    rw [Heap.get?_update_self f ho (by rw [hf] <;> rfl), hf]
  refine I.write (x := p) (e := p) (by rw [h]; trivial) (.inl rfl) (fun b u hb q => (Heap.get?_update_other _ _ (Ne.symm hb)).trans q) ⟨_, e⟩ ?_
  exact ⟨hz, its', n', r, e⟩
def rSetL : V → V → V → Hp → (Hp → Prop) → Prop := fun o i v H Q => ∃ p xs k j, o = .ref p ∧ i = .int k ∧ H p = some (.lst xs) ∧ ixN xs.length k = some j ∧ Q (upd H p (.lst (xs.set j v)))
theorem set_list : PSet X rSetL := by
  intro pins s σ H o i v ov iv u Q I ro ri rv h
  obtain ⟨p, xs, k, j, rfl, rfl, hp, hj, q⟩ := h
  cases ro
  obtain ⟨t, rfl⟩ := ri
  obtain ⟨its, n, r, ho, hz⟩ := I.lst hp
  obtain ⟨h1, h2, h3, h4⟩ := ixN_seq hj
  have hl := r.length
  have hn := line63
  have I' : Inv X pins σ (upd H p (.lst (xs.set j v))) { s with heap := s.heap.update p (Obj.mapSeq (·.setIfInBounds j u)) } :=
    I.lstUpd hp ho (mapSeq_set its n j u) (r.set rv j) (by rw [List.length_set]; exact hz) s.toks
  by_cases h0 : 0 ≤ k
  · have hk : k.toNat = j := by
      rw [seqIndex_of h0 h4] at h1
      exact Option.some.inj h1
    exact PySem.W.ki_setAt ho h0 (by omega) (by rw [List.size_toArray, ← hl]; exact h4) (by rw [hk]; exact ⟨_, I', q⟩)
  · have hk : (k + (its.toArray.size : Int)).toNat = j := by
      rw [seqIndex_neg (by omega) h3] at h1
      rw [List.size_toArray, ← hl]
      exact Option.some.inj h1
    exact PySem.W.ki_setBack ho (by omega) (by rw [List.size_toArray, ← hl]; exact h3) (by omega) (by rw [hk]; exact ⟨_, I', q⟩)

/-! ### slices -/
theorem slice_bounds (lo hi : Option Int) (n : Nat) : (sliceBounds lo hi none n).1 = ((HT.sIx n 0 lo : Nat) : Int) ∧ (sliceBounds lo hi none n).2.1 = ((HT.sIx n n hi : Nat) : Int) ∧ (sliceBounds lo hi none n).2.2 = 1 := by
  refine ⟨?_, ?_, rfl⟩
  · cases lo with
    | none => simp [sliceBounds, HT.sIx]
    | some i =>
      simp only [sliceBounds, HT.sIx, Option.getD_none, show (1 : Int) > 0 by decide, if_true]
      by_cases h : i < 0
      · simp only [h, if_true] <;> omega
      · simp only [h, if_false] <;> omega
  · cases hi with
    | none => simp [sliceBounds, HT.sIx]
    | some i =>
      simp only [sliceBounds, HT.sIx, Option.getD_none, show (1 : Int) > 0 by decide, if_true]
      by_cases h : i < 0
      · simp only [h, if_true] <;> omega
      · simp only [h, if_false] <;> omega
theorem slicePick_cut (its : List Value) (lo hi : Option Int) : slicePick its.toArray lo hi none = ((its.drop (HT.sIx its.length 0 lo)).take (HT.sIx its.length its.length hi - HT.sIx its.length 0 lo)).toArray := by
  obtain ⟨h1, h2, h3⟩ := slice_bounds lo hi its.toArray.size
  unfold slicePick
  rw [h1, h2, h3]
  simp only [sliceRange_one, pick_run, List.size_toArray] <;> rfl
/-- xs[lo:hi] of a list: a new list -/
def rSlL (K : PySem.W.Frag) : V → Option Int → Option Int → Hp → VK → Prop := fun x lo hi H Q => ∃ a xs, x = .ref a ∧ SqL K H a xs ∧ ∀ p, H p = none → Q (.ref p) (upd H p (.lst (cutV xs lo hi)))
theorem sl_list : SlR X (rSlL X.K) := by
  intro pins s σ H x v vl vu lo hi sl Q I rx hs pl pu h
  obtain ⟨a, xs, rfl, hx, q⟩ := h
  cases rx
  obtain ⟨its, r, ht, hz⟩ := I.list hx
  have hlen := r.length
  refine ⟨"list", _, slot_list_getitem.lookup, ht.isList.typeIs, ?_⟩
  refine wpAny_getItem_list_slice ht.isList hs pl pu .none (by simp) ?_ (by rw [List.size_toArray] <;> omega)
  rw [slicePick_cut, ← hlen]
  refine ⟨.ref s.heap.objs.size, _, I.laid (t' := s.toks) (o := .lst (cutV xs lo hi)) (fun b ob q => Heap.get?_push_of_some _ q) (Nat.le_refl _) ?_, rfl, q _ (I.hok.fresh (Nat.le_refl _))⟩
  exact ⟨Nat.le_trans (cutV_length xs lo hi) hz, _, 0, (r.drop (HT.sIx xs.length 0 lo)).take (HT.sIx xs.length xs.length hi - HT.sIx xs.length 0 lo), Heap.get?_push_size _ rfl⟩

/-! ### in, not in: flat items -/
def flatV : V → Bool
  | .non => true
  | .bl _ => true
  | .int _ => true
  | .str _ => true
  | _ => false
/-- == of flat values -/
def eqV : V → V → Bool
  | .non, .non => true
  | .bl a, .bl b => a == b
  | .bl a, .int b => (if a then 1 else 0) == b
  | .int a, .bl b => a == (if b then 1 else 0)
  | .int a, .int b => a == b
  | .str a, .str b => a == b
  | _, _ => false
theorem eqAt_V {A : Around} {s : Shared} {y x : V} {u v : Value} (ry : RelV y u) (rx : RelV x v) (fy : flatV y = true) (fx : flatV x = true) : SeqAt.EqAt A s u v (eqV y x) := by
  cases y with
  | non =>
    cases ry
    cases x with
    | non => cases rx; exact SeqAt.EqAt.same _
    | bl b => cases rx; exact SeqAt.EqAt.none_bool b
    | int b => obtain ⟨t, rfl⟩ := rx; exact SeqAt.EqAt.none_int b t
    | str b => obtain ⟨t, rfl⟩ := rx; exact SeqAt.EqAt.none_str b t
    | _ => exact absurd (show false = true from fx) Bool.false_ne_true
  | bl a =>
    cases ry
    cases x with
    | non => cases rx; exact SeqAt.EqAt.bool_none a
    | bl b => cases rx; exact SeqAt.EqAt.bool_bool a b
    | int b => obtain ⟨t, rfl⟩ := rx; exact SeqAt.EqAt.bool_int a b t
    | str b => obtain ⟨t, rfl⟩ := rx; exact SeqAt.EqAt.bool_str a b t
    | _ => exact absurd (show false = true from fx) Bool.false_ne_true
  | int a =>
    obtain ⟨t', rfl⟩ := ry
    cases x with
    | non => cases rx; exact SeqAt.EqAt.int_none a t'
    | bl b => cases rx; exact SeqAt.EqAt.int_bool a t' b
    | int b => obtain ⟨t, rfl⟩ := rx; exact SeqAt.EqAt.int_int a t' b t
    | str b => obtain ⟨t, rfl⟩ := rx; exact SeqAt.EqAt.int_str a t' b t
    | _ => exact absurd (show false = true from fx) Bool.false_ne_true
  | str a =>
    obtain ⟨t', rfl⟩ := ry
    cases x with
    | non => cases rx; exact SeqAt.EqAt.str_none a t'
    | bl b => cases rx; exact SeqAt.EqAt.str_bool a t' b
    | int b => obtain ⟨t, rfl⟩ := rx; exact SeqAt.EqAt.str_int a t' b t
    | str b => obtain ⟨t, rfl⟩ := rx; exact SeqAt.EqAt.str_str a t' b t
    | _ => exact absurd (show false = true from fx) Bool.false_ne_true
  | _ => exact absurd (show false = true from fy) Bool.false_ne_true
/-- the items' answers, read off the values (a value's own answer does not lean on its token) -/
def eqU (x : V) (u : Value) : Bool := match u with
  | .none => eqV .non x
  | .bool b => eqV (.bl b) x
  | .int i _ => eqV (.int i) x
  | .str z _ => eqV (.str z) x
  | _ => false
theorem eqU_of {x y : V} {u : Value} (r : RelV y u) (f : flatV y = true) : eqU x u = eqV y x := by
  cases y with
  | non => cases r; rfl
  | bl b => cases r; rfl
  | int i => obtain ⟨t, rfl⟩ := r; rfl
  | str z => obtain ⟨t, rfl⟩ := r; rfl
  | _ => exact absurd (show false = true from f) Bool.false_ne_true
theorem any_eqU {x : V} : ∀ {xs : List V} {us : List Value}, Vals xs us → xs.all flatV = true → us.any (eqU x) = xs.any fun y => eqV y x
  | _, _, .nil, _ => rfl
  | y :: xs, u :: us, .cons r t, f => by
    rw [List.all_cons, Bool.and_eq_true] at f
    rw [List.any_cons, List.any_cons, eqU_of r f.1, any_eqU t f.2]
theorem mem_eqAt {A : Around} {s : Shared} {x : V} {v : Value} (rx : RelV x v) (fx : flatV x = true) : ∀ {xs : List V} {us : List Value}, Vals xs us → xs.all flatV = true → ∀ u ∈ us, SeqAt.EqAt A s u v (eqU x u)
  | _, _, .nil, _ => fun u hu => by cases hu
  | y :: xs, u :: us, .cons r t, f => fun u' hu => by
    rw [List.all_cons, Bool.and_eq_true] at f
    rcases List.mem_cons.mp hu with rfl | hu
    · rw [eqU_of r f.1]; exact eqAt_V r rx f.1 fx
    · exact mem_eqAt rx fx t f.2 u' hu
def inV (x : V) (xs : List V) : Bool := xs.any fun y => eqV y x
/-- x in a list or tuple of flat items -/
def rIn (K : PySem.W.Frag) (neg : Bool) : R2 := fun x y H Q => ∃ p xs, y = .ref p ∧ (SqL K H p xs ∨ SqT K H p xs) ∧ flatV x = true ∧ xs.all flatV = true ∧ Q (.bl (if neg then !inV x xs else inV x xs)) H
theorem op_in_seq : OpR X (compareOp .In) (rIn X.K false) := by
  intro pins s σ H x y v u Q I rx ry h
  obtain ⟨p, xs, rfl, hq, fx, fs, q⟩ := h
  cases ry
  rcases hq with hq | hq
  · obtain ⟨its, r, pl, hz⟩ := I.list hq
    refine SeqAt.in_listAt (eqU x) pl.isList (fun w hw => mem_eqAt rx fx r fs w (by simpa using hw)) ⟨.bl _, H, I, rfl, ?_⟩
    rw [show its.toArray.any (eqU x) = its.any (eqU x) by simp, any_eqU r fs]
    exact q
  · obtain ⟨its, r, pl, hz⟩ := I.tuple hq
    refine SeqAt.in_tupleAt (eqU x) pl (fun w hw => mem_eqAt rx fx r fs w (by simpa using hw)) ⟨.bl _, H, I, rfl, ?_⟩
    rw [show its.toArray.any (eqU x) = its.any (eqU x) by simp, any_eqU r fs]
    exact q
/-! ### len, list(x), tuple(x) of any list or tuple that is read -/
theorem call_len_seq : CallR X (.builtin "len") (fun xs H Q => ∃ p ys, xs = [.ref p] ∧ (SqL X.K H p ys ∨ SqT X.K H p ys) ∧ Q (.int ys.length) H) := by
  intro pins s σ H xs us Q I r h
  obtain ⟨p, ys, rfl, hq, q⟩ := h
  obtain ⟨u, rfl, rx⟩ := vals1 r
  cases rx
  have hn := line63
  rcases hq with hq | hq
  · obtain ⟨its, r', pl, hz⟩ := I.list hq
    have hlen := r'.length
    exact Calls.call_len_list pl.isList (by simp only [List.size_toArray] <;> omega) ⟨.int ys.length, H, I.tok _, ⟨s.toks + 1, by rw [List.size_toArray, hlen]⟩, q⟩
  · obtain ⟨its, r', pl, hz⟩ := I.tuple hq
    have hlen := r'.length
    exact len_tuple pl (by simp only [List.size_toArray] <;> omega) ⟨.int ys.length, H, I.tok _, ⟨s.toks + 1, by rw [List.size_toArray, hlen]⟩, q⟩
theorem call_len_str : CallR X (.builtin "len") (fun xs H Q => ∃ z, xs = [.str z] ∧ z.length ≤ sizeLine ∧ Q (.int z.length) H) := by
  intro pins s σ H xs us Q I r h
  obtain ⟨z, rfl, hz, q⟩ := h
  obtain ⟨u, rfl, t, rfl⟩ := vals1 r
  have hn := line63
  exact len_str (by omega) ⟨.int z.length, H, I.tok _, ⟨_, rfl⟩, q⟩
/-! ### the call of a builtin's method: o.m(..) -/
/-- the value is of that builtin type -/
def tyV (K : PySem.W.Frag) (T : String) (x : V) (H : Hp) : Prop := match x with
  | .str _ => T = "str"
  | .int _ => T = "int"
  | .ref p => (T = "list" ∧ ∃ xs, SqL K H p xs) ∨ (T = "tuple" ∧ ∃ o, K.lookup p = some o ∧ o.cls = .type "tuple" ∧ o.dict = none) ∨
      (T = "dict" ∧ ((∃ kvs, H p = some (.dK kvs)) ∨ ∃ kvs, H p = some (.dT kvs))) ∨ (T = "set" ∧ ∃ S n, H p = some (.set S n))
  | _ => False
theorem tyV_is {pins : List (Addr × Obj)} {σ : St} {H : Hp} {s : Shared} {T : String} {x : V} {v : Value} (I : Inv X pins σ H s) (r : RelV x v) (ty : tyV X.K T x H) :
    s.TypeIs v T ∧ ∀ a, v = .ref a → ∃ ob, s.heap.get? a = some ob ∧ ob.dict = none := by
  cases x with
  | str z =>
    obtain ⟨t, rfl⟩ := r
    cases (show T = "str" from ty)
    exact ⟨typeIs_str s z t, fun _ e => nomatch e⟩
  | int i =>
    obtain ⟨t, rfl⟩ := r
    cases (show T = "int" from ty)
    exact ⟨typeIs_int s i t, fun _ e => nomatch e⟩
  | ref p =>
    cases r
    rcases ty with ⟨rfl, xs, hq⟩ | ⟨rfl, o, hk, hc, hd⟩ | ⟨rfl, hk⟩ | ⟨rfl, S, n, hk⟩
    · obtain ⟨its, _, pl, _⟩ := I.list hq
      refine ⟨pl.isList.typeIs, fun a e => ?_⟩
      cases e
      obtain ⟨o, n, e, c, hd, _⟩ := pl
      exact ⟨o, e, hd⟩
    · refine ⟨⟨o, I.kIn p o hk, hc⟩, fun a e => ?_⟩
      cases e
      exact ⟨o, I.kIn _ o hk, hd⟩
    · have z : ∃ o, s.heap.get? p = some o ∧ o.ExactDict := by
        rcases hk with ⟨kvs, hk⟩ | ⟨kvs, hk⟩
        · obtain ⟨_, _, _, _, o, _, _, e, ex, _⟩ := I.hok p _ hk
          exact ⟨o, e, ex⟩
        · obtain ⟨_, _, _, _, o, _, _, e, ex, _⟩ := I.hok p _ hk
          exact ⟨o, e, ex⟩
      obtain ⟨o, e, ex⟩ := z
      refine ⟨⟨o, e, ex.1⟩, fun a e2 => ?_⟩
      cases e2
      exact ⟨o, e, ex.2.1⟩
    · obtain ⟨o, _, _, _, e, ex, _⟩ := I.hok p _ hk
      refine ⟨⟨o, e, ex.1⟩, fun a e2 => ?_⟩
      cases e2
      exact ⟨o, e, ex.2.1⟩
  | _ => exact False.elim ty
def tBM0 (K : PySem.W.Frag) (T : String) (r : V → List V → Hp → VK → Prop) (to : TE) : TE := fun σ H Q => to σ H fun x H1 => tyV K T x H1 ∧ r x [] H1 Q
def tBM (K : PySem.W.Frag) (T : String) (r : V → List V → Hp → VK → Prop) (to : TE) (t : TA) : TE := fun σ H Q => to σ H fun x H1 => tyV K T x H1 ∧ t σ H1 fun xs H2 => r x xs H2 Q
variable {o e : Expr} {es : List Expr} {to : TE} {t : TA} {name : Str} {apos cpos : Pos} {T id : String} {r : V → List V → Hp → VK → Prop}
/- xs.append(e), list.index on a module's tuple .. are MtR facts of 06m -/
end
end L2

namespace L2
open PySem PySem.Spec PyProof.Rows

def MtM (X : Cx) (id : String) (r : V → List V → Hp → VK → Prop) : Prop :=
  ∀ (pins : List (Addr × Obj)) (s : Shared) (σ : St) (H : Hp) (x : V) (xs : List V) (v : Value) (us : List Value) (Q : VK), Inv X pins σ H s → RelV x v → Vals xs us → r x xs H Q →
    wpAny (model X.prog X.w) X.A (call (.builtin id) (v :: us)) (EP X pins σ Q) X.xe s

/-! ### lists of values -/
theorem Vals.one : ∀ {x : V} {us : List Value}, Vals [x] us → ∃ u, us = [u] ∧ RelV x u
  | _, _, .cons r .nil => ⟨_, rfl, r⟩
section
variable {X : Cx} {pins : List (Addr × Obj)} {σ : St} {H : Hp} {s : Shared} {l b : Addr} {xs ys zs : List V}

/-! ### the two steps: a tracked list is rewritten, a new list is laid -/
theorem Inv.lset {its its' : List Value} {n : Nat} {f : Array Value → Array Value} {t' : Nat} (I : Inv X pins σ H s) (hH : H l = some (.lst xs))
    (e : s.heap.get? l = some { cls := .type "list", data := .seq its.toArray n }) (hf : f its.toArray = its'.toArray) (hv : Vals ys its') (hz : ys.length ≤ sizeLine) :
    Inv X pins σ (upd H l (.lst ys)) { s with heap := s.heap.update l (Obj.mapSeq f), toks := t' } := by
  have q := PySem.IsL.update e f
  rw [hf] at q
  refine I.write (x := l) (e := l) (by rw [hH]; exact trivial) (.inl rfl) (fun b' u hb hu => (Heap.get?_update_other s.heap (Obj.mapSeq f) (Ne.symm hb)).trans hu) ⟨_, q⟩ ?_
  exact ⟨hz, its', _, hv, q⟩
theorem Inv.lnew {its : List Value} {t' : Nat} (I : Inv X pins σ H s) (hv : Vals ys its) (hz : ys.length ≤ sizeLine) :
    Inv X pins σ (upd H s.heap.objs.size (.lst ys)) { s with heap := s.heap.push { cls := .type "list", data := .seq its.toArray }, toks := t' } :=
  I.laid (fun _ _ q => Heap.get?_push_of_some _ q) (Nat.le_refl _) ⟨hz, its, 0, hv, Heap.get?_push_size _ rfl⟩
theorem Inv.fresh (I : Inv X pins σ H s) : H s.heap.objs.size = none := I.hok.fresh (Nat.le_refl _)
theorem Inv.lstM (I : Inv X pins σ H s) (hH : H l = some (.lst xs)) : xs.length ≤ sizeLine ∧ ∃ (its : List Value) (n : Nat), Vals xs its ∧ xs.length = its.length ∧ s.heap.get? l = some { cls := .type "list", data := .seq its.toArray n } := by
  obtain ⟨z, its, n, r, e⟩ := I.hok l _ hH
  exact ⟨z, its, n, r, r.length, e⟩

theorem notLongL {n : Nat} (h : n ≤ sizeLine) : Builtin.List.listTooLong n = false := by
  unfold Builtin.List.listTooLong
  exact decide_eq_false (by omega)
end

section
variable {X : Cx}

/-! ### methods -/
def rAppend : V → List V → Hp → VK → Prop := fun x vs H Q => ∃ l xs y, x = .ref l ∧ vs = [y] ∧ H l = some (.lst xs) ∧ xs.length < sizeLine ∧ Q .non (upd H l (.lst (xs ++ [y])))
theorem mt_append : MtM X "list.append" rAppend := by
  intro pins s σ H x vs v us Q I rx rv h
  obtain ⟨l, xs, y, rfl, rfl, hH, hz, q⟩ := h
  cases rx
  obtain ⟨u, rfl, ru⟩ := rv.one
  obtain ⟨z, its, n, r, hl, e⟩ := I.lstM hH
  refine call_meets F.slot_list_append ⟨_, e, rfl⟩ F.entry_list_append (F.args_list_append_2 _ _) (PySem.list_append l its.toArray n u (by rw [List.size_toArray]; omega)) ⟨e, ?_⟩
  refine ⟨.non, _, I.lset (its' := its ++ [u]) hH e (by simp) (r.append (.cons ru .nil)) ?_, rfl, q⟩
  rw [List.length_append, List.length_singleton]
  omega

def rExtend : V → List V → Hp → VK → Prop := fun x vs H Q => ∃ l b xs zs, x = .ref l ∧ vs = [.ref b] ∧ H l = some (.lst xs) ∧ H b = some (.lst zs) ∧ xs.length + zs.length ≤ sizeLine ∧ Q .non (upd H l (.lst (xs ++ zs)))
theorem mt_extend : MtM X "list.extend" rExtend := by
  intro pins s σ H x vs v us Q I rx rv h
  obtain ⟨l, b, xs, zs, rfl, rfl, hH, hB, hz, q⟩ := h
  cases rx
  obtain ⟨u, rfl, ru⟩ := rv.one
  cases ru
  obtain ⟨z, its, n, r, hl, e⟩ := I.lstM hH
  obtain ⟨z2, its2, n2, r2, hl2, e2⟩ := I.lstM hB
  have hsz : its.toArray.size + its2.toArray.size ≤ sizeLine := by rw [List.size_toArray, List.size_toArray]; omega
  have hlong : ¬ (!its.toArray.isEmpty && Builtin.List.listTooLong (its.toArray.size + its2.toArray.size)) = true := by
    rw [notLongL hsz, Bool.and_false]
    exact Bool.false_ne_true
  refine call_meets F.slot_list_extend ⟨_, e, rfl⟩ F.entry_list_extend (F.args_list_extend_2 _ _)
    (AutoSeq1.list_extend_list_list_0 l its.toArray n b its2.toArray n2 hlong (by rw [List.size_toArray]; omega) (by omega)) ⟨e, e2, ?_⟩
  refine ⟨.non, _, I.lset (its' := its ++ its2) hH e (by simp) (r.append r2) ?_, rfl, q⟩
  rw [List.length_append]
  omega

/-! ### list + list, list += list, list * int -/
def rCat : R2 := fun x y H Q => ∃ l b xs zs, x = .ref l ∧ y = .ref b ∧ H l = some (.lst xs) ∧ H b = some (.lst zs) ∧ xs.length + zs.length ≤ sizeLine ∧ ∀ p, H p = none → Q (.ref p) (upd H p (.lst (xs ++ zs)))
theorem op_cat : OpR X (binaryOp .Add) rCat := by
  intro pins s σ H x y v u Q I rx ry h
  obtain ⟨l, b, xs, zs, rfl, rfl, hH, hB, hz, q⟩ := h
  cases rx
  cases ry
  obtain ⟨z, its, n, r, hl, e⟩ := I.lstM hH
  obtain ⟨z2, its2, n2, r2, hl2, e2⟩ := I.lstM hB
  refine PySem.P.add_list e e2 ?_ (by rw [List.size_toArray, List.size_toArray]; omega)
  have ea : its.toArray ++ its2.toArray = (its ++ its2).toArray := by simp
  rw [ea]
  exact ⟨.ref _, _, I.lnew (t' := s.toks) (r.append r2) (by rw [List.length_append]; omega), rfl, q _ I.fresh⟩
/-! ### del xs[i] -/
end

/-! ### xs[a:b] = ys -/
section
variable {prog : Program} {w : World} {A : Around} {E : Value → Shared → Prop} {s : Shared}
end

section
variable {X : Cx}
end
end L2

namespace Att
open PySem PySem.W PySem.Calls PyProof.Rows

/-! ### the script -/
theorem ints_of_wellAll {P : Params} {h : Heap} : ∀ (ns : List Int) (vs : List Value), WellAll P h vs (ns.map WData.int) → IntsAre vs ns := by
  intro ns
  induction ns with
  | nil =>
    intro vs w
    rw [List.map_nil] at w
    cases w
    exact .nil
  | cons n ns ih =>
    intro vs w
    rw [List.map_cons] at w
    cases w with
    | cons a b =>
      cases a
      exact .cons _ _ (ih _ b)

theorem script_of {l : OpenLaw} {n : Nat} (hn : l.most = some n) {P : Params} {h : Heap} {args : List WData} {vals : List Value}
    (hpre : l.row.toRowW.claim.pre args = true) (hwl : WellAll P h vals args) :
    ∃ a vs ns, vals = [Value.ref a] ∧ args = [WData.list (ns.map WData.int)] ∧ h.get? a = some { cls := .type "list", data := .seq vs.toArray } ∧ IntsAre vs ns ∧ ns.length ≤ n := by
  have hsh : WShape.hasAll [] args [.list .int] = true := (pre_splitW hpre).1
  have hc : l.pre.holds [] { args := args } = true := (pre_splitW hpre).2
  obtain ⟨d, r, rfl, h1, h2⟩ := hasAllW_cons hsh
  obtain rfl := hasAllW_nil h2
  obtain ⟨xs, rfl, h3⟩ := hasW_list h1
  obtain ⟨ns, rfl⟩ := items_int h3
  have hlen : ns.length ≤ n := by
    unfold OpenLaw.pre at hc
    have h4 : (WTm.not (.lt (.lit (.int (n : Int))) (.len (.arg 0)))).holds [] { args := [.list (ns.map .int)] } = true := by
      have h4 := (holds_andW hc).1
      rw [hn] at h4
      exact h4
    have h5 := condW_of h4 (w_not (w_lt w_lit (w_len_list (w_arg rfl))))
    rw [List.length_map] at h5
    refine Nat.le_of_not_lt fun q => ?_
    have q' : (n : Int) < ((ns.length : Nat) : Int) := by omega
    first
      | (rw [decide_eq_true q'] at h5; exact absurd h5 (by decide))
      | (simp at h5; omega)
  cases hwl with
  | cons w1 w2 =>
    cases w2
    cases w1 with
    | list ho hall => exact ⟨_, _, ns, rfl, rfl, ho, ints_of_wellAll ns _ hall, hlen⟩

theorem post_true (l : OpenLaw) (args : List WData) : l.row.toRowW.claim.post args (.bool true) args = true :=
  postW_of (r := l.row.toRowW) (X := (true == true))
    (show WShape.has [] (.bool true) .bool = true by first | rfl | decide | simp [WShape.has, WShape.arms, WShape.armsAll])
    (show (WTm.eq .res (.lit (.bool true))).value [] { args := args, res := some (.bool true), after := args } = some (.bool (true == true)) from w_eq_bool (w_res rfl) w_lit) rfl

/-! ### the attachment: holds_open's last premise (the goal 'hc' behind k_head) from a wpAny of the law's body -/
/-- the same from a codeAny of the CALL (for a layer whose function contracts speak of calls) -/
theorem attach_call {l : OpenLaw} {n : Nat} {q : Program} {loose : List Str} {XP : (Str → Option Value) → Heap → Prop} {YP : World → Heap → Prop} {d : DefRec}
    (hn : l.most = some n) (hdf : d.params.defaults = [])
    (call : ∀ (w : World) (s₀ s₁ : Shared) (mg mb : Str → Option Value) (fa : Addr) (o : Obj) (pm cd doc : Value) (a : Addr) (vs : List Value) (ns : List Int),
      Ground q loose [] XP w s₀ mg mb s₁.heap → YP w s₁.heap →
      s₁.heap.get? fa = some o → o.data = .func (docDef d.name d.params d.body d.scope pm cd doc) → s₁.heap.CodeRec cd d.name → mg d.name = some (.ref fa) →
      s₁.heap.get? a = some { cls := .type "list", data := .seq vs.toArray } → IntsAre vs ns → ns.length ≤ n → s₁.gens = #[] →
      codeAny (model l.prog w) callerA (.call (.ref fa) ⟨[.ref a], []⟩) (fun r s' => r = .ok (.ret (.bool true)) ∧ OldK s₁.heap s'.heap ∧ s'.os = s₁.os ∧ AllBare s'.gens) s₁) :
    WalkO q loose XP YP l.row.toRowW d [] (fun f vs => PySem.call f vs) := by
  intro w s₀ s₁ mg mb G Y fa o pm cd doc dV kV ho hd hcd hD hmg hg args vals as hpre hlay hrd hwl hlo
  obtain rfl : dV = .none := Dflts.none hD hdf
  obtain rfl : kV = .none := Dflts.noKw hD
  obtain ⟨a, vs, ns, rfl, rfl, hobj, hints, hlen⟩ := script_of hn hpre hwl
  refine enter_call (codeAny_mono (call w s₀ s₁ mg mb fa o pm cd doc a vs ns G Y ho (fd_plain hd) hcd hmg hobj hints hlen hg) fun r s' hq => ?_)
  obtain ⟨rfl, h2, h3, h4⟩ := hq
  exact ⟨.inl ⟨.bool true, .bool true, [], rfl, fun _ => rfl, .bool true, post_true l _, fun _ => ⟨List.Pairwise.nil, fun _ hm => (nomatch hm)⟩⟩, h2, h3, h4⟩

/-! ### rules over ANY heap (no ledger) from facts about the written part K: the library's own take a ledger (News) for what they write -/
section
variable {prog : Program} {w : World} {A : Around} {E : Value → Shared → Prop} {s : Shared} {K : Frag}

/-! the whole heap as the ledger: makes every rule that writes through a ledger a rule over any heap -/
def ledger (h : Heap) (L d : Addr) : List (Addr × Obj) := (List.range h.objs.size).filterMap fun a => if a = L ∨ a = d then none else (h.get? a).map fun o => (a, o)
end
end Att

namespace L2
open PySem PySem.Spec PyProof.Rows

theorem vals_ints : ∀ {vs : List Value} {ns : List Int}, IntsAre vs ns → Vals (ns.map V.int) vs
  | _, _, .nil => .nil
  | _, _, .cons n t h => .cons ⟨t, rfl⟩ (vals_ints h)

/-- nothing is tracked but the script, known to the object (or it is an object of the module) -/
def Only (H : Hp) : Prop := ∀ b, H b = none ∨ ∃ o xs, H b = some (.frz o (.lst xs))

/-- THE HEAD: the law's promise, at the heap behind the top. F, the promise of the law's def, may use that base is part of the heap (so K.In base, base.Ns mainGlobals mg stand in Mod) -/
theorem law_call {P : Program} {w : World} {K : PySem.W.Frag} {mg mb : Str → Option Value} {CX : CXT} {k : Nat} {fa a : Addr} {fd : FuncData} {x : Str} {sp : Sp} {s₁ : Shared} {vs : List Value} {ns : List Int}
    (KX : K.In s₁.heap) (hns : s₁.heap.Ns mainGlobals mg) (hb : s₁.heap.Ns builtinsNs mb) (hbb : ∀ x : Str, x ≠ "__name__" → mb x = bootBuiltins x) (hlim : s₁.heap.NoLimit) (hg : s₁.gens = #[])
    (ha : s₁.heap.get? a = some { cls := .type "list", data := .seq vs.toArray }) (hi : IntsAre vs ns) (hl : ns.length ≤ sizeLine) (hr : Room k callerA)
    (F : ∀ base : Heap, K.In base → base.Ns mainGlobals mg → FnOk P w K mg base CX k fa fd [x] sp) (hbind : ∀ (s : Shared) (u : Value), BindsTo s fd ⟨[u], []⟩ [(x, u)])
    (hsp : ∀ H : Hp, Only H → SqL K H a (ns.map V.int) → sp [.ref a] H (fun v _ => v = .bl true) fun _ _ _ => False)
    (hCX : ∀ H e s', CX [] H s₁ (fun _ _ _ => False) e s' → False) :
    codeAny (model P w) callerA (.call (.ref fa) ⟨[.ref a], []⟩) (fun r s' => r = .ok (.ret (.bool true)) ∧ OldK s₁.heap s'.heap ∧ s'.os = s₁.os ∧ AllBare s'.gens) s₁ := by
  have rv := vals_ints hi
  have lenV := hi.length
  -- from an abstract heap in which nothing but the script may be tracked
  have core : ∀ H : Hp, Only H → SqL K H a (ns.map V.int) → HOk P w H s₁.heap → (∀ b, H b ≠ none → b = a) → (H a ≠ none → K.lookup a = none) →
      codeAny (model P w) callerA (.call (.ref fa) ⟨[.ref a], []⟩) (fun r s' => r = .ok (.ret (.bool true)) ∧ OldK s₁.heap s'.heap ∧ s'.os = s₁.os ∧ AllBare s'.gens) s₁ := by
    intro H hO hS hok hA hK
    have base_of : ∀ {b : Addr} {o : Obj}, s₁.heap.get? b = some o → H b = none → (hidT s₁.heap H).get? b = some o := fun e n => hidT_get e n
    have noA : ∀ {b : Addr} {o : Obj} {es : Array DictEntry} {ep : Nat}, s₁.heap.get? b = some o → o.data = .dict es ep → H b = none := fun {b o es ep} e d => by
      cases q : H b with
      | none => rfl
      | some u =>
        have e' : b = a := hA b (by rw [q]; simp)
        subst e'
        rw [ha] at e; cases e
        have d' : Data.seq vs.toArray _ = Data.dict es ep := d
        cases d'
    have nsK : ∀ {b : Addr} {m : Str → Option Value}, s₁.heap.Ns b m → (hidT s₁.heap H).Ns b m := fun {b m} ⟨o, es, ep, e, d, r⟩ => ⟨o, es, ep, base_of e (noA e d), d, r⟩
    have hKb : K.In (hidT s₁.heap H) := fun b o e => base_of (KX b o e) (by
      cases q : H b with
      | none => rfl
      | some u =>
        have e' : b = a := hA b (by rw [q]; simp)
        subst e'
        rw [hK (by rw [q]; simp)] at e; cases e)
    have hM : Mod K mg (hidT s₁.heap H) := ⟨hKb, nsK hns, ⟨mb, nsK hb, hbb⟩, let ⟨mc, h1, h2⟩ := hlim; ⟨mc, nsK h1, h2⟩⟩
    have e0 : Env0 P w K mg (hidT s₁.heap H) callerA [] s₁ H := ⟨rfl, hM, fun b o e => of_hidT e, Nat.le_of_eq (hidT_size _ _), trivial, fun b hb => absurd (show b ∈ ([] : List Addr) from hb) (by simp), hok, .of_eq hg⟩
    refine codeAny_mono ((F _ hKb (nsK hns)).run callerA [] s₁ H ⟨[.ref a], []⟩ [.ref a] [.ref a] _ _ hr e0 (hbind s₁ (.ref a)) (.cons rfl .nil) (hsp H hO hS)) fun r s' h => ?_
    cases r with
    | error e => exact (hCX H e s' h).elim
    | ok fl =>
      cases fl with
      | next => exact False.elim h
      | brk => exact False.elim h
      | cont => exact False.elim h
      | ret u =>
        obtain ⟨v, H', os, bare, un, hok', r', q⟩ := h
        have q' : v = .bl true := q
        subst q'
        obtain rfl : u = Value.bool true := r'
        refine ⟨rfl, OldK.of_keep fun b o e => ?_, os, bare⟩
        cases q : H b with
        | none => exact un.keep b o e q (by intro z; exact absurd (show b ∈ ([] : List Addr) from z) (by simp)) (by simp)
        | some u =>
          rcases hO b with z | ⟨ob, xs, z⟩
          · rw [q] at z; cases z
          · have z2 := un.frzs b ob _ z
            obtain ⟨e1, _⟩ := hok b _ z
            obtain ⟨e2, _⟩ := hok' b _ z2
            rw [e] at e1; cases e1
            exact e2
  cases hk : K.lookup a with
  | some o =>
    -- the script is one of the module's own objects
    have e := KX a o hk
    rw [ha] at e
    cases e
    refine core (fun _ => none) (fun _ => .inl rfl) (.inr ⟨_, vs.toArray, _, hk, rfl, rfl, rfl, by rw [List.size_toArray, lenV]; exact hl, by simpa using rv⟩) (fun b u z => by have z' : (none : Option HO) = some u := z; cases z') (fun b z => absurd rfl z) fun z => absurd rfl z
  | none =>
    refine core (fun b => if b = a then some (.frz { cls := .type "list", data := .seq vs.toArray } (.lst (ns.map V.int))) else none) (fun b => ?_) (.inl (.inr ⟨{ cls := .type "list", data := .seq vs.toArray }, if_pos rfl⟩)) (fun b u z => ?_) (fun b z => ?_) fun _ => hk
    · by_cases hb : b = a
      · exact .inr ⟨_, _, if_pos hb⟩
      · exact .inl (if_neg hb)
    · by_cases hb : b = a
      · have z' := (if_pos hb).symm.trans z
        cases z'
        subst hb
        exact ⟨ha, by rw [List.length_map]; exact hl, vs, _, rv, ha⟩
      · have z' := (if_neg hb).symm.trans z
        cases z'
    · by_cases hb : b = a
      · exact hb
      · exact absurd (if_neg hb) z
end L2

namespace L2
open PySem PySem.Spec PyProof.Rows

abbrev KOf {K : PySem.W.Frag} {h : Heap} (_ : K.In h) : PySem.W.Frag := K

/-- the goal that k_head leaves (case hc), from the law's promise. F gives the function object fd (K's own) once, then the promise over every base -/
theorem walk_of {l : PySem.W.OpenLaw} {n k : Nat} {q : Program} {loose : List Str} {XP : (Str → Option Value) → Heap → Prop} {YP : World → Heap → Prop} {d : DefRec} {K : Params → PySem.W.Frag} {CX : World → CXT} {sp : World → Sp} {x : Str}
    (hn : l.most = some n) (hn2 : n ≤ sizeLine) (hdf : d.params.defaults = []) (hr : Room k callerA)
    (hY : ∀ (w : World) (h : Heap), YP w h → (K w.params).In h)
    (F : ∀ (w : World) (mg : Str → Option Value) (fa : Addr) (h : Heap), (K w.params).In h → h.Ns mainGlobals mg → mg d.name = some (.ref fa) →
      ∃ fd : FuncData, (∀ (s : Shared) (u : Value), BindsTo s fd ⟨[u], []⟩ [(x, u)]) ∧
        ∀ base : Heap, (K w.params).In base → base.Ns mainGlobals mg → FnOk l.prog w (K w.params) mg base (CX w) k fa fd [x] (sp w))
    (hsp : ∀ (w : World) (H : Hp) (a : Addr) (ns : List Int), ns.length ≤ n → Only H → SqL (K w.params) H a (ns.map V.int) → sp w [.ref a] H (fun v _ => v = .bl true) fun _ _ _ => False)
    (hCX : ∀ (w : World) (H : Hp) (s : Shared) (e : Value) (s' : Shared), CX w [] H s (fun _ _ _ => False) e s' → False) :
    PySem.W.WalkO q loose XP YP l.row.toRowW d [] (fun f vs => PySem.call f vs) := by
  refine Att.attach_call hn hdf fun w s₀ s₁ mg mb fa o pm cd doc a vs ns G Y ho hd hcd hmg hobj hints hlen hg => ?_
  have KX := hY w _ Y
  obtain ⟨fd, hb, hF⟩ := F w mg fa _ KX G.T.g hmg
  exact law_call KX G.T.g G.T.b G.T.builtins G.T.nolimit hg hobj hints (Nat.le_trans hlen hn2) hr hF hb (fun H hO hS => hsp w H a ns hlen hO hS) fun H e s' => hCX w H s₁ e s'
/-- the same where the promise hangs on the written part alone: (sp := My.sp_law), no hole under a binder -/
theorem walk_ofK {l : PySem.W.OpenLaw} {n k : Nat} {q : Program} {loose : List Str} {XP : (Str → Option Value) → Heap → Prop} {YP : World → Heap → Prop} {d : DefRec} {K : Params → PySem.W.Frag} {CX : CXT} {sp : PySem.W.Frag → Sp} {x : Str}
    (hn : l.most = some n) (hn2 : n ≤ sizeLine) (hdf : d.params.defaults = []) (hr : Room k callerA)
    (hY : ∀ (w : World) (h : Heap), YP w h → (K w.params).In h)
    (F : ∀ (w : World) (mg : Str → Option Value) (fa : Addr) (h : Heap), (K w.params).In h → h.Ns mainGlobals mg → mg d.name = some (.ref fa) →
      ∃ fd : FuncData, (∀ (s : Shared) (u : Value), BindsTo s fd ⟨[u], []⟩ [(x, u)]) ∧
        ∀ base : Heap, (K w.params).In base → base.Ns mainGlobals mg → FnOk l.prog w (K w.params) mg base CX k fa fd [x] (sp (K w.params)))
    (hsp : ∀ (K : PySem.W.Frag) (H : Hp) (a : Addr) (ns : List Int), ns.length ≤ n → Only H → SqL K H a (ns.map V.int) → sp K [.ref a] H (fun v _ => v = .bl true) fun _ _ _ => False)
    (hCX : ∀ (H : Hp) (s : Shared) (e : Value) (s' : Shared), CX [] H s (fun _ _ _ => False) e s' → False) :
    PySem.W.WalkO q loose XP YP l.row.toRowW d [] (fun f vs => PySem.call f vs) :=
  walk_of (K := K) (CX := fun _ => CX) (sp := fun w => sp (K w.params)) hn hn2 hdf hr hY F (fun w H a ns h1 h2 h3 => hsp (K w.params) H a ns h1 h2 h3) fun _ H s e s' => hCX H s e s'
end L2

/-! SHORT WORDS over the layer: a def of the text, its body, what a loop and a test want. -/
namespace L2
open PySem PySem.Spec PyProof.Rows

/-! ### the text by places -/
/-- the j-th statement of a class's body -/
def inClass (s : Stmt) (j : Nat) : Stmt := match s with
  | .ClassDef _ _ _ body _ _ _ _ _ _ _ => body.getD j (.Pass ⟨0, 0, 0, 0⟩)
  | _ => .Pass ⟨0, 0, 0, 0⟩
def defArgs (s : Stmt) : Arguments := match s with
  | .FunctionDef _ a _ _ _ _ _ _ _ _ => a
  | _ => { posonlyargs := [], args := [], vararg := none, kwonlyargs := [], kw_defaults := [], kwarg := none, defaults := [] }
def defBody (s : Stmt) : List Stmt := match s with
  | .FunctionDef _ _ b _ _ _ _ _ _ _ => b
  | _ => []
def defScope (s : Stmt) : Scope := match s with
  | .FunctionDef _ _ _ _ _ _ sc _ _ _ => sc
  | _ => { kind := .function, names := [], isGenerator := false, isCoroutine := false }

/-! ### no exception leaves a def -/
abbrev CX0 : CXT := fun _ _ _ _ _ _ => False
abbrev E0 : XK := fun _ _ _ => False
theorem pass0 {X : Cx} : Passes CX0 X E0 := fun _ _ _ _ _ _ _ h => h.elim

/-! ### a def (or method) of the text as it stands behind the top -/
structure Fun (K : PySem.W.Frag) (x qual : Str) (st : Stmt) (f : Addr) (fd : FuncData) : Prop where
  ex : ∃ (oc : Value) (od : Option Addr) (kV doc pm : Value) (an : Option Addr) (cdv ct : Value) (osl : Array (Option Value)),
    fd = PySem.W.fnOf x qual (defArgs st) (defBody st) (defScope st) .none kV doc pm an cdv ct ∧ K.lookup f = some ⟨oc, od, .func fd, osl⟩ ∧ PySem.W.codeIn K cdv qual = true
  kp : PySem.W.keepIn K (.ref f) = true
section
variable {P : Program} {w : World} {K : PySem.W.Frag} {mg : Str → Option Value} {base : Heap}
/-- THE RULE for a def: its body as a term of rules, and the reading of that term -/
theorem Fun.ok {x qual : Str} {st : Stmt} {f : Addr} {fd : FuncData} {N ps : List Str} {k : Nat} {sp : Sp} (F : Fun K x qual st f fd) (S : FnScope N ps (defScope st)) (len : ∀ vs H Q E, sp vs H Q E → vs.length = ps.length)
    (hbody : ∀ (cdv : Value) (A : Around) (outer : List Env) (s : Shared) (H : Hp) (vs : List V) (Q : VK) (E : XK), Room k (A.deeper (envOfC qual (defScope st) s.heap.objs.size f cdv)) → sp vs H Q E →
      ∃ t, PSs (cxOf CX0 P w K mg base N qual (defScope st) f cdv A outer s H E).nox (defBody st) t ∧ t { nx := fun _ H' => Q .non H', rt := Q } (start N vs) H) : FnOk P w K mg base CX0 (k + 1) f fd ps sp := by
  obtain ⟨oc, od, kV, doc, pm, an, cdv, ct, osl, rfl, lk, hcd⟩ := F.ex
  refine fn_of lk hcd S len fun A outer s H vs Q E hr hsp => ?_
  obtain ⟨t, h, q⟩ := hbody cdv A outer s H vs Q E hr hsp
  exact ⟨t, h.nox, q⟩
/-- how its arguments bind (no defaults): h is «fun _ _ _ _ _ _ us hl => match us, hl with | [_, _], _ => rfl», one _ a parameter -/
theorem Fun.binds {x qual : Str} {st : Stmt} {f : Addr} {fd : FuncData} {ps : List Str} (F : Fun K x qual st f fd)
    (h : ∀ (kV doc pm : Value) (an : Option Addr) (cdv ct : Value) (us : List Value), us.length = ps.length → bindArgs (PySem.W.fnOf x qual (defArgs st) (defBody st) (defScope st) .none kV doc pm an cdv ct) ⟨us, []⟩ = pure (ps.zip us)) : Binds K fd ps [] := by
  obtain ⟨oc, od, kV, doc, pm, an, cdv, ct, osl, rfl, lk, hcd⟩ := F.ex
  exact .all (h kV doc pm an cdv ct)
theorem fun_mk {x qual : Str} {st : Stmt} {f : Addr} {oc : Value} {od an : Option Addr} {osl : Array (Option Value)} {kV doc pm cdv ct : Value} (l : K.lookup f = some ⟨oc, od, .func (PySem.W.fnOf x qual (defArgs st) (defBody st) (defScope st) .none kV doc pm an cdv ct), osl⟩)
    (c : PySem.W.codeIn K cdv qual = true) (k : PySem.W.keepIn K (.ref f) = true) : Fun K x qual st f (PySem.W.fnOf x qual (defArgs st) (defBody st) (defScope st) .none kV doc pm an cdv ct) := ⟨⟨oc, od, kV, doc, pm, an, cdv, ct, osl, rfl, l, c⟩, k⟩
end
/-! ### expressions in short: the name that stands in the i-th slot -/
section
variable {X : Cx}
theorem pv (i : Nat) {x : Str} {pos : Pos} (hN : X.N[i]? = some x := by rfl) (hv : Vis X.env.scope x := by first | exact Or.inl rfl | exact Or.inr (Or.inl rfl) | exact Or.inr (Or.inr rfl)) (hd : (x == ("__debug__" : Str)) = false := by decide)
    (hcd : (x == ("__classdict__" : Str)) = false := by decide) : PE X (.Name x pos) (tVar i) := pe_var hN hv hd hcd
end

/-! ### tests -/
theorem iteF {A B : Prop} (h : B) : if false = true then A else B := by
  rw [if_neg Bool.false_ne_true]
  exact h
theorem iteT {A B : Prop} (h : A) : if true = true then A else B := by
  rw [if_pos rfl]
  exact h
theorem ite2 {c A B : Prop} [Decidable c] (h1 : c → A) (h2 : ¬ c → B) : if c then A else B := by
  by_cases h : c
  · rw [if_pos h]
    exact h1 h
  · rw [if_neg h]
    exact h2 h
/-! ### heaps -/
/-- all that was tracked is as it was -/
def Same (H H' : Hp) : Prop := ∀ b o, H b = some o → H' b = some o
theorem Same.trans {H H1 H2 : Hp} (a : Same H H1) (b : Same H1 H2) : Same H H2 := fun c o h => b c o (a c o h)
theorem Same.seq {K : PySem.W.Frag} {H H' : Hp} {a : Addr} {xs : List V} (e : Same H H') (h : SqL K H a xs) : SqL K H' a xs := by
  rcases h with (h | ⟨o, h⟩) | h
  · exact .inl (.inl (e _ _ h))
  · exact .inl (.inr ⟨o, e _ _ h⟩)
  · exact .inr h

end L2
namespace L2
open PySem PySem.Spec PyProof.Rows

/-! ### lists of pairs as tables -/
section
variable {κ : Type} [DecidableEq κ]
def valV (kvs : List (κ × V)) (k : κ) : Option V := (kvs.find? fun kv => decide (kv.1 = k)).map (·.2)
/-- in its place, or at the end -/
def putK (kvs : List (κ × V)) (k : κ) (v : V) : List (κ × V) :=
  if (kvs.any fun kv => decide (kv.1 = k)) = true then kvs.map (fun kv => if kv.1 = k then (kv.1, v) else kv) else kvs ++ [(k, v)]
def dropK (kvs : List (κ × V)) (k : κ) : List (κ × V) := kvs.filter fun kv => decide (kv.1 ≠ k)

theorem valV_nil {k : κ} : valV ([] : List (κ × V)) k = none := rfl
theorem valV_pos {p : κ × V} {r : List (κ × V)} {k : κ} (e : p.1 = k) : valV (p :: r) k = some p.2 := by simp [valV, List.find?_cons, e]
theorem valV_neg {p : κ × V} {r : List (κ × V)} {k : κ} (e : ¬ p.1 = k) : valV (p :: r) k = valV r k := by simp [valV, List.find?_cons, e]
theorem valV_any (k : κ) : ∀ kvs : List (κ × V), (kvs.any fun kv => decide (kv.1 = k)) = (valV kvs k).isSome
  | [] => rfl
  | p :: r => by
    rw [List.any_cons]
    by_cases e : p.1 = k
    · simp only [valV_pos e, decide_eq_true e, Bool.true_or, Option.isSome_some]
    · rw [valV_neg e, decide_eq_false e, Bool.false_or]; exact valV_any k r
theorem valV_map (k j : κ) (y : V) : ∀ kvs : List (κ × V), valV (kvs.map fun kv => if kv.1 = k then (kv.1, y) else kv) j = (valV kvs j).map fun x => if j = k then y else x
  | [] => rfl
  | p :: r => by
    have ih := valV_map k j y r
    rw [List.map_cons]
    by_cases h : p.1 = k
    · rw [if_pos h]
      by_cases e : p.1 = j
      · rw [valV_pos (p := (p.1, y)) e, valV_pos e, Option.map_some, if_pos (e.symm.trans h)]
      · rw [valV_neg (p := (p.1, y)) e, valV_neg e, ih]
    · rw [if_neg h]
      by_cases e : p.1 = j
      · rw [valV_pos (p := p) e, valV_pos e, Option.map_some, if_neg (fun z => h (e.trans z))]
      · rw [valV_neg (p := p) e, valV_neg e, ih]
theorem valV_snoc (k j : κ) (y : V) : ∀ kvs : List (κ × V), valV kvs k = none → valV (kvs ++ [(k, y)]) j = if j = k then some y else valV kvs j
  | [], _ => by
    by_cases e : k = j
    · rw [if_pos e.symm]; exact valV_pos (p := (k, y)) e
    · rw [if_neg (fun z => e z.symm)]; exact valV_neg (p := (k, y)) e
  | p :: r, hn => by
    rw [List.cons_append]
    have hk : ¬ p.1 = k := fun z => by rw [valV_pos z] at hn; cases hn
    rw [valV_neg hk] at hn
    have ih := valV_snoc k j y r hn
    by_cases e : p.1 = j
    · rw [valV_pos e, valV_pos e, if_neg (fun z => hk (e.trans z))]
    · rw [valV_neg e, valV_neg e, ih]
theorem valV_put (kvs : List (κ × V)) (k j : κ) (y : V) : valV (putK kvs k y) j = if j = k then some y else valV kvs j := by
  unfold putK
  by_cases a : (kvs.any fun kv => decide (kv.1 = k)) = true
  · rw [if_pos a, valV_map]
    rw [valV_any] at a
    by_cases e : j = k
    · obtain ⟨x, hx⟩ := Option.isSome_iff_exists.mp a
      rw [if_pos e, e, hx, Option.map_some, if_pos rfl]
    · rw [if_neg e]
      cases valV kvs j with
      | none => rfl
      | some x => rw [Option.map_some, if_neg e]
  · rw [if_neg a]
    refine valV_snoc k j y kvs ?_
    rw [valV_any] at a
    cases q : valV kvs k with
    | none => rfl
    | some x => rw [q] at a; exact (a rfl).elim
theorem length_putK (kvs : List (κ × V)) (k : κ) (v : V) : (putK kvs k v).length ≤ kvs.length + 1 := by
  unfold putK
  split
  · rw [List.length_map]; omega
  · rw [List.length_append, List.length_cons, List.length_nil]; omega
theorem putK_new {kvs : List (κ × V)} {k : κ} (v : V) (h : valV kvs k = none) : putK kvs k v = kvs ++ [(k, v)] := by
  unfold putK
  rw [valV_any, h]
  exact if_neg (by decide)

theorem RelO.isSome_eq {o : Option V} {u : Option Value} (r : RelO o u) : o.isSome = u.isSome := by
  cases o with
  | none => cases u with
    | none => rfl
    | some _ => exact (show False from r).elim
  | some _ => cases u with
    | none => exact (show False from r).elim
    | some _ => rfl
/-- raw tables of the same keys -/
theorem KV.val {kvs : List (κ × V)} {vs : List (κ × Value)} (r : KV kvs vs) (k : κ) : RelO (valV kvs k) (valueAt vs k) := by
  unfold KV at r
  induction r with
  | nil => exact True.intro
  | @cons p q ps qs h t ih =>
    obtain ⟨h1, h2⟩ := h
    by_cases e : p.1 = k
    · have e' : q.1 = k := h1.symm.trans e
      have b : valueAt (q :: qs) k = some q.2 := by simp [valueAt, List.find?_cons, e']
      rw [valV_pos e, b]; exact h2
    · have e' : ¬ q.1 = k := fun z => e (h1.trans z)
      have b : valueAt (q :: qs) k = valueAt qs k := by simp [valueAt, List.find?_cons, e']
      rw [valV_neg e, b]; exact ih
theorem KV.any {kvs : List (κ × V)} {vs : List (κ × Value)} (r : KV kvs vs) (k : κ) : (kvs.any fun kv => decide (kv.1 = k)) = vs.any fun kv => decide (kv.1 = k) := by
  unfold KV at r
  induction r with
  | nil => rfl
  | cons h t ih => rw [List.any_cons, List.any_cons, ih, h.1]
theorem KV.repl {kvs : List (κ × V)} {vs : List (κ × Value)} (r : KV kvs vs) (k : κ) {y : V} {u : Value} (ry : RelV y u) :
    KV (kvs.map fun kv => if kv.1 = k then (kv.1, y) else kv) (vs.map fun kv => if kv.1 = k then (kv.1, u) else kv) := by
  unfold KV at r ⊢
  induction r with
  | nil => exact .nil
  | @cons p q ps qs h t ih =>
    rw [List.map_cons, List.map_cons]
    refine .cons ?_ ih
    obtain ⟨h1, h2⟩ := h
    by_cases e : p.1 = k
    · rw [if_pos e, if_pos (h1.symm.trans e)]; exact ⟨h1, ry⟩
    · rw [if_neg e, if_neg (fun z => e (h1.trans z))]; exact ⟨h1, h2⟩
theorem KV.put {kvs : List (κ × V)} {vs : List (κ × Value)} (r : KV kvs vs) (k : κ) {y : V} {u : Value} (ry : RelV y u) : KV (putK kvs k y) (stored vs k u) := by
  unfold putK stored
  rw [r.any k]
  by_cases e : (vs.any fun kv => decide (kv.1 = k)) = true
  · rw [if_pos e, if_pos e]; exact r.repl k ry
  · rw [if_neg e, if_neg e]; exact Paired.snoc r ⟨rfl, ry⟩
theorem KV.length {kvs : List (κ × V)} {vs : List (κ × Value)} (r : KV kvs vs) : kvs.length = vs.length := Paired.length r
end


/-! ### a tracked dict, its keys ints and texts or tuples of these -/
theorem kV_is {P : Program} {w : World} {k : Key} {u : Value} (r : RelV (kV k) u) : (mixKind P w).is k u = true := by
  cases k with
  | inl i => obtain ⟨t, e⟩ := (show ∃ t, u = Value.int i t from r); subst e; exact mixKind_int P w i t
  | inr x => obtain ⟨t, e⟩ := (show ∃ t, u = Value.str x t from r); subst e; exact mixKind_str P w x t
theorem items_are {P : Program} {w : World} : ∀ {ks : List Key} {us : List Value}, Vals (ks.map kV) us → ItemsAre (mixKind P w) ks us
  | [], _, r => by rw [List.map_nil] at r; cases r; exact .nil
  | k :: ks, _, r => by
    rw [List.map_cons] at r
    cases r with
    | cons h t => exact .cons (kV_is h) (items_are t)

/-- raw entries of a dict with tuple keys -/
abbrev KT (H : Hp) : List (List Key × V) → List (List Key × Addr × Value) → Prop := Paired fun p q => p.1 = q.1 ∧ H q.2.1 = some (.tup (p.1.map kV)) ∧ RelV p.2 q.2.2
theorem KT.val {H : Hp} {kvs : List (List Key × V)} {xs : List (List Key × Addr × Value)} (r : KT H kvs xs) (k : List Key) : RelO (valV kvs k) ((atKey xs k).map (·.2)) := by
  induction r with
  | nil => exact True.intro
  | @cons p q ps qs h t ih =>
    obtain ⟨h1, _, h2⟩ := h
    by_cases e : p.1 = k
    · have e' : q.1 = k := h1.symm.trans e
      have b : atKey (q :: qs) k = some q.2 := by simp [atKey, List.find?_cons, e']
      rw [valV_pos e, b]; exact h2
    · have e' : ¬ q.1 = k := fun z => e (h1.trans z)
      have b : atKey (q :: qs) k = atKey qs k := by simp [atKey, List.find?_cons, e']
      rw [valV_neg e, b]; exact ih
theorem KT.repl {H : Hp} {kvs : List (List Key × V)} {xs : List (List Key × Addr × Value)} (r : KT H kvs xs) (k : List Key) {y : V} {u : Value} (ry : RelV y u) :
    KT H (kvs.map fun kv => if kv.1 = k then (kv.1, y) else kv) (xs.map (putAt k u)) := by
  induction r with
  | nil => exact .nil
  | @cons p q ps qs h t ih =>
    rw [List.map_cons, List.map_cons]
    refine .cons ?_ ih
    obtain ⟨h1, h2, h3⟩ := h
    unfold putAt
    by_cases e : p.1 = k
    · rw [if_pos e, if_pos (h1.symm.trans e)]; exact ⟨h1, h2, ry⟩
    · rw [if_neg e, if_neg (fun z => e (h1.trans z))]; exact ⟨h1, h2, h3⟩
theorem KT.put {H : Hp} {kvs : List (List Key × V)} {xs : List (List Key × Addr × Value)} (r : KT H kvs xs) (k : List Key) {b : Addr} {y : V} {u : Value} (hb : H b = some (.tup (k.map kV))) (ry : RelV y u) :
    KT H (putK kvs k y) (storedH xs k b u) := by
  have e : (kvs.any fun kv => decide (kv.1 = k)) = (atKey xs k).isSome := by
    rw [valV_any, (r.val k).isSome_eq, Option.isSome_map]
  unfold putK storedH
  rw [e]
  by_cases q : (atKey xs k).isSome = true
  · rw [if_pos q, if_pos q]; exact r.repl k ry
  · rw [if_neg q, if_neg q]; exact Paired.snoc r ⟨rfl, hb, ry⟩
theorem KT.keeps {H H' : Hp} {kvs : List (List Key × V)} {xs : List (List Key × Addr × Value)} (r : KT H kvs xs) (ht : ∀ b ys, H b = some (.tup ys) → H' b = some (.tup ys)) : KT H' kvs xs :=
  Paired.mapP r fun _ _ z => ⟨z.1, ht _ _ z.2.1, z.2.2⟩

section
variable {P : Program} {w : World} {H : Hp} {h : Heap} {a : Addr}
theorem rd_of {u : HO} (ok : HOk P w H h) (e : Rd H a u) : ObjOk P w H h a u := e.ok ok
theorem dk_rd {kvs : List (Key × V)} (ok : HOk P w H h) (e : Rd H a (.dK kvs)) : kvs.length ≤ sizeLine ∧ (a == sysModules) = false ∧ ∃ vs, KV kvs vs ∧ h.DictOf (mixKind P w) a vs :=
  show ObjOk P w H h a (.dK kvs) from rd_of ok e
theorem dk_of {kvs : List (Key × V)} (ok : HOk P w H h) (e : H a = some (.dK kvs)) : kvs.length ≤ sizeLine ∧ (a == sysModules) = false ∧ ∃ vs, KV kvs vs ∧ h.DictOf (mixKind P w) a vs := dk_rd ok (.inl e)
/-- a tracked tuple of ints and texts is a key -/
theorem key_of {ks : List Key} (ok : HOk P w H h) (e : H a = some (.tup (ks.map kV))) : (tupleKind (mixKind P w)).is h ks a := by
  obtain ⟨_, its, r, o, h1, h2, n, h3⟩ := (show ObjOk P w H h a (.tup (ks.map kV)) from ok a _ e)
  exact ⟨o, its.toArray, n, h1, h2, h3, by simpa using items_are r⟩
theorem dt_rd {kvs : List (List Key × V)} (ok : HOk P w H h) (e : Rd H a (.dT kvs)) : kvs.length ≤ sizeLine ∧ (a == sysModules) = false ∧
    ∃ xs, KT H kvs xs ∧ h.DictOfH (tupleKind (mixKind P w)) a xs := by
  obtain ⟨z, y, xs, r, o, es, ep, h1, h2, h3, h4, h5⟩ := (show ObjOk P w H h a (.dT kvs) from rd_of ok e)
  refine ⟨z, y, xs, r, o, es, ep, h1, h2, h3, h4, fun x hx => ?_, h5⟩
  have all : ∀ {l : List (List Key × V)} {m : List (List Key × Addr × Value)}, KT H l m → ∀ x ∈ m, (tupleKind (mixKind P w)).is h x.1 x.2.1 := by
    intro l m q
    induction q with
    | nil => intro x hx; exact nomatch hx
    | @cons p q ps qs hq t ih =>
      intro x hx
      rcases List.mem_cons.mp hx with e | hx
      · subst e
        exact key_of ok (by rw [← hq.1]; exact hq.2.1)
      · exact ih x hx
  exact all r x hx
theorem dt_of {kvs : List (List Key × V)} (ok : HOk P w H h) (e : H a = some (.dT kvs)) : kvs.length ≤ sizeLine ∧ (a == sysModules) = false ∧
    ∃ xs, KT H kvs xs ∧ h.DictOfH (tupleKind (mixKind P w)) a xs := dt_rd ok (.inl e)
end

/-- what the dict at a holds at the key y -/
def DGet (H : Hp) (a : Addr) (y : V) (r : Option V) : Prop :=
  (∃ kvs k, Rd H a (.dK kvs) ∧ y = kV k ∧ r = valV kvs k) ∨ ∃ kvs k b, Rd H a (.dT kvs) ∧ y = .ref b ∧ H b = some (.tup (k.map kV)) ∧ r = valV kvs k
/-- the heap behind a[y] = v -/
def DPut (H : Hp) (a : Addr) (y v : V) (H' : Hp) : Prop :=
  (∃ kvs k, H a = some (.dK kvs) ∧ y = kV k ∧ kvs.length < sizeLine ∧ H' = upd H a (.dK (putK kvs k v))) ∨
  ∃ kvs k b, H a = some (.dT kvs) ∧ y = .ref b ∧ H b = some (.tup (k.map kV)) ∧ kvs.length < sizeLine ∧ H' = upd H a (.dT (putK kvs k v))
section
variable {X : Cx} {pins : List (Addr × Obj)} {σ : St} {H : Hp} {s : Shared} {a : Addr} {y v : V} {u r : Value} {o : Option V} {A : Around} {E : Value → Shared → Prop}

theorem Inv.big (I : Inv X pins σ H s) : sysModules < s.heap.objs.size := by
  have h : mainGlobals < s.heap.objs.size := (I.mod.glob.keeps I.bk).lt
  exact Nat.lt_trans (by decide) h

/-- d[y], there -/
theorem d_getItem {Q : Value → Shared → Prop} (hu : A.units + 1 < cLine) (I : Inv X pins σ H s) (g : DGet H a y (some v)) (ry : RelV y u) (h : ∀ w' s', Inv X pins σ H s' → RelV v w' → Q w' s') :
    wpAny (model X.prog X.w) A (getItem (.ref a) u) Q E s := by
  rcases g with ⟨kvs, k, e, ey, l⟩ | ⟨kvs, k, b, e, ey, eb, l⟩
  · subst ey
    obtain ⟨z, hd, vs, rel, dd⟩ := dk_rd I.hok e
    obtain ⟨w', hw, rw'⟩ := RelO.some_of (v := v) (o := valueAt vs k) (by rw [l]; exact rel.val k)
    exact wpAny_getItem_of (kV_is ry) dd.mapOf hw (h w' _ (I.tok _) rw')
  · subst ey
    cases (show u = Value.ref b from ry)
    obtain ⟨z, hd, xs, rel, dd⟩ := dt_rd I.hok e
    obtain ⟨w', hw, rw'⟩ := RelO.some_of (v := v) (o := (atKey xs k).map (·.2)) (by rw [l]; exact rel.val k)
    obtain ⟨p, hp, hp2⟩ := Option.map_eq_some_iff.mp hw
    refine wpAny_getItem_heap (tupleKind_room_in1 hu) (key_of I.hok eb) dd hp ?_
    rw [hp2]
    exact h w' _ (I.tok _) rw'
/-- y in d -/
theorem d_in {Q : Value → Shared → Prop} (hu : A.units + 1 < cLine) (I : Inv X pins σ H s) (g : DGet H a y o) (ry : RelV y u) (h : ∀ s', Inv X pins σ H s' → Q (.bool o.isSome) s') :
    wpAny (model X.prog X.w) A (compareOp .In u (.ref a)) Q E s := by
  rcases g with ⟨kvs, k, e, ey, l⟩ | ⟨kvs, k, b, e, ey, eb, l⟩
  · subst ey
    obtain ⟨z, hd, vs, rel, dd⟩ := dk_rd I.hok e
    refine wpAny_in_of (kV_is ry) hd dd.mapOf ?_
    rw [← (rel.val k).isSome_eq, ← l]
    exact h _ (I.tok _)
  · subst ey
    cases (show u = Value.ref b from ry)
    obtain ⟨z, hd, xs, rel, dd⟩ := dt_rd I.hok e
    refine wpAny_in_heap (tupleKind_room_in1 hu) (key_of I.hok eb) hd dd ?_
    have q := (rel.val k).isSome_eq
    rw [Option.isSome_map] at q
    rw [← q, ← l]
    exact h _ (I.tok _)
/-- a dict's object is replaced -/
theorem d_write {h' : Heap} {t' : Nat} {ob : HO} (I : Inv X pins σ H s) (mu : Mut (H a)) (hs : Heap.SameBut a s.heap h') (he : ∃ q, h'.get? a = some q) (new : ObjOk X.prog X.w (upd H a ob) h' a ob) :
    Inv X pins σ (upd H a ob) { s with heap := h', toks := t' } :=
  I.write (x := a) (e := a) mu (.inl rfl) (fun b q hb z => (hs.2 b hb).trans z) he new
theorem dk_new {P : Program} {w : World} {H' : Hp} {h' : Heap} {kvs : List (Key × V)} {vs : List (Key × Value)} (z : kvs.length ≤ sizeLine) (hd : (a == sysModules) = false) (rel : KV kvs vs) (dd : h'.DictOf (mixKind P w) a vs) :
    ObjOk P w H' h' a (.dK kvs) := ⟨z, hd, vs, rel, dd⟩
/-- d[y] = v -/
theorem d_setItem {H' : Hp} {Q : Unit → Shared → Prop} (hu : A.units + 1 < cLine) (I : Inv X pins σ H s) (g : DPut H a y v H') (ry : RelV y u) (rv : RelV v r) (h : ∀ s', Inv X pins σ H' s' → Q () s') :
    wpAny (model X.prog X.w) A (setItem (.ref a) u r) Q E s := by
  rcases g with ⟨kvs, k, e, ey, l, eH⟩ | ⟨kvs, k, b, e, ey, eb, l, eH⟩
  · subst ey eH
    obtain ⟨z, hd, vs, rel, dd⟩ := dk_of I.hok e
    have hz : vs.length ≤ sizeLine := by rw [← rel.length]; exact z
    have hl : (putK kvs k v).length ≤ sizeLine := by have := length_putK kvs k v; omega
    refine wpAny_setItem_pairs (hsz := hz) (kV_is ry) dd fun h' dd' hs => h _ ?_
    have he : ∃ q, h'.get? a = some q := let ⟨q, _, _, hq, _⟩ := dd'; ⟨q, hq⟩
    exact d_write I (by rw [e]; exact True.intro) hs he (dk_new hl hd (rel.put k rv) dd')
  · subst ey eH
    cases (show u = Value.ref b from ry)
    obtain ⟨z, hd, xs, rel, dd⟩ := dt_of I.hok e
    have hz : xs.length ≤ sizeLine := by rw [← Paired.length rel]; exact z
    have hl : (putK kvs k v).length ≤ sizeLine := by have := length_putK kvs k v; omega
    refine wpAny_setItem_heap (hsz := hz) (tupleKind_room_in1 hu) (key_of I.hok eb) dd fun h' dd' hs => h _ ?_
    obtain ⟨q, es, ep, hq, h2, h3, h4, _, h5⟩ := dd'
    refine d_write I (by rw [e]; exact True.intro) hs ⟨q, hq⟩ ⟨hl, hd, _, (rel.put k eb rv).keeps fun c ys ec => ?_, q, es, ep, hq, h2, h3, h4, h5⟩
    rw [upd_ne (ne_of ec e (fun z => nomatch z))]
    exact ec
end

section
variable {X : Cx} {pins : List (Addr × Obj)} {σ : St} {H : Hp} {s : Shared} {a : Addr} {kvs : List (Key × V)} {k : Key} {u : Value} {A : Around} {E : Value → Shared → Prop}
/-- len(d) -/
theorem d_len {Q : Value → Shared → Prop} (I : Inv X pins σ H s) (e : Rd H a (.dK kvs)) (h : ∀ t s', Inv X pins σ H s' → Q (.int kvs.length t) s') : wpAny (model X.prog X.w) A (call (.builtin "len") [.ref a]) Q E s := by
  obtain ⟨z, hd, vs, rel, dd⟩ := dk_rd I.hok e
  refine call_len_dict hd dd (by rw [← rel.length]; rw [sizeLine_eq] at z; omega) ?_
  rw [← rel.length]
  exact h _ _ (I.tok _)
end


/-! ### readings and rules -/
theorem dict_typeIs {X : Cx} {pins : List (Addr × Obj)} {σ : St} {H : Hp} {s : Shared} {a : Addr} {y : V} {o : Option V} (I : Inv X pins σ H s) (g : DGet H a y o) : s.TypeIs (.ref a) "dict" := by
  rcases g with ⟨kvs, k, e, _, _⟩ | ⟨kvs, k, b, e, _, _, _⟩
  · obtain ⟨_, _, vs, _, dd⟩ := dk_rd I.hok e
    exact dd.typeIs
  · obtain ⟨_, _, xs, _, dd⟩ := dt_rd I.hok e
    exact dd.typeIs
/-- d[y] -/
def tDGet (td ty : TE) : TE := fun σ H Q => td σ H fun x H1 => ty σ H1 fun y H2 => ∃ a v, x = .ref a ∧ DGet H2 a y (some v) ∧ Q v H2
/-- d[y] = v -/
def sDPut (td ty tv : TE) : TS := fun D σ H => tv σ H fun v H1 => td σ H1 fun x H2 => ty σ H2 fun y H3 => ∃ a H4, x = .ref a ∧ DPut H3 a y v H4 ∧ D.nx σ H4
section
variable {X : Cx} {o i e value : Expr} {pos pos' tpos : Pos} {td ty tv : TE}
end


/-! ### displays -/
theorem dk_empty {P : Program} {w : World} {H : Hp} (h : Heap) (hb : sysModules < h.objs.size) : ObjOk P w H (h.push { cls := .type "dict", data := .dict #[] }) h.objs.size (.dK []) :=
  ⟨Nat.zero_le _, beq_eq_false_iff_ne.mpr (Ne.symm (Nat.ne_of_lt hb)), [], .nil, Heap.DictOf.new h⟩
/-- {}, to be a dict of the kind that is wanted -/
def tDNewK : TE := fun _ H Q => ∀ p, H p = none → Q (.ref p) (upd H p (.dK []))
section
variable {X : Cx} {pos : Pos}
theorem pe_dnewK : PE X (.Dict [] [] pos) tDNewK := fun pins s σ H Q I h =>
  wpAny_Dict_empty ⟨.ref s.heap.objs.size, _, I.laid (a := s.heap.objs.size) (o := .dK []) (t' := s.toks) (fun _ _ q => Heap.get?_push_of_some _ q) (Nat.le_refl _) (dk_empty s.heap I.big), rfl, h _ (I.hok.fresh (Nat.le_refl _))⟩
end

/-- the pairs of a display, from the left -/
def tPairs : List (TE × TE) → St → Hp → (List (V × V) → Hp → Prop) → Prop
  | [], _, H, Q => Q [] H
  | (tk, tv) :: r, σ, H, Q => tk σ H fun x H1 => tv σ H1 fun y H2 => tPairs r σ H2 fun ps H3 => Q ((x, y) :: ps) H3
def mergeK (kvs more : List (Key × V)) : List (Key × V) := more.foldl (fun acc kv => putK acc kv.1 kv.2) kvs
/-- {k: v, ..} with keys ints and texts; the new dict stands empty while the pairs are made -/
def tDisp (trs : List (TE × TE)) : TE := fun σ H Q => ∀ p, H p = none → tPairs trs σ (upd H p (.dK [])) fun ps H2 => H2 p = some (.dK []) ∧ ∃ kvs : List (Key × V), ps = kvs.map (fun kv => (kV kv.1, kv.2)) ∧ kvs.length ≤ 15 ∧ Q (.ref p) (upd H2 p (.dK (mergeK [] kvs)))
/-! ### methods -/
/-- a method call o.m(e) of a built-in, with one argument: what must be seen of the text -/
structure M1 (X : Cx) (o : Expr) (m : Str) (apos : Pos) (e : Expr) (cpos : Pos) : Prop where
  base : attributeBase o m X.env (eval o X.env) = eval o X.env
  few : ((backTo cpos (starEach [e] X.env)).all (fun x => !x.1) && (backToKw cpos (keywordEach [] X.env)).all (fun x => x.1.isSome)
    && decide (([e] : List Expr).length + ([] : List Keyword).length + (if ([] : List Keyword).isEmpty then 0 else 1) < 30)) = true
  line : (apos.endLine == cpos.line) = true
  trees : backTo cpos (starEach [e] X.env) = [(false, eval e X.env)]
structure M2 (X : Cx) (o : Expr) (m : Str) (apos : Pos) (e f : Expr) (cpos : Pos) : Prop where
  base : attributeBase o m X.env (eval o X.env) = eval o X.env
  few : ((backTo cpos (starEach [e, f] X.env)).all (fun x => !x.1) && (backToKw cpos (keywordEach [] X.env)).all (fun x => x.1.isSome)
    && decide (([e, f] : List Expr).length + ([] : List Keyword).length + (if ([] : List Keyword).isEmpty then 0 else 1) < 30)) = true
  line : (apos.endLine == cpos.line) = true
  trees : backTo cpos (starEach [e, f] X.env) = [(false, eval e X.env), (false, eval f X.env)]

section
variable {X : Cx} {pins : List (Addr × Obj)} {σ : St} {H : Hp} {s : Shared} {a : Addr} {y d : V} {u r : Value} {o : Option V} {A : Around} {E : Value → Shared → Prop}
end

section
variable {X : Cx} {o e f : Expr} {apos cpos : Pos} {td ty tx : TE}
end

/-! ### dict(d): a copy -/
section
variable {X : Cx} {pins : List (Addr × Obj)} {σ : St} {H : Hp} {s : Shared} {a : Addr} {kvs : List (Key × V)} {A : Around} {E : Value → Shared → Prop}
end


section
variable {X : Cx} {pins : List (Addr × Obj)} {σ : St} {H : Hp} {s : Shared} {a : Addr} {y : V} {u : Value} {A : Around} {E : Value → Shared → Prop}
end
end L2

namespace L2
open PySem PySem.Spec PyProof.Rows
/-! ### a dict's pairs: keys that differ -/
section
variable {κ : Type} [DecidableEq κ]
end
end L2
/-! A list comprehension in the hand layer: one clause, any target, any tests. -/
namespace L2
open PySem PySem.Spec PyProof.Rows

section
variable {prog : Program} {w : World} {A : Around} {R : Result → Shared → Prop} {s : Shared}
abbrev testsOf (ifs : List Expr) (env : Env) : Sem Bool :=
  forIn ifs true fun c r => if r = true then do let ok ← isTrue c env (eval c env); pure (ForInStep.yield ok) else pure (ForInStep.yield r)

theorem compLoop_gen {elt target iter : Expr} {ifs : List Expr} {scope : Scope} {pos : Pos} {it acc : Value} {env : Env} {nE : Value → Shared → Prop} (hE : nE = notedBy (model prog w) A env fun e s' => R (.error e) s') (I : Nat → Shared → Prop)
    (turn : ∀ n s, I n s → wpAny (model prog w) A (pyNext it) (fun r s1 => match r with
      | none => R (.ok .next) s1
      | some v => wpAny (model prog w) A (letOwnedTupleGo target it v) (fun _ s1b => wpAny (model prog w) A (assign target env v) (fun _ s2 =>
          wpAny (model prog w) A (testsOf ifs env) (fun ok s3 =>
            if ok = true then wpAny (model prog w) A (eval elt env) (fun x s4 =>
              wpAny (model prog w) A (call (.builtin "list.append") [acc, x]) (fun _ s5 => ∃ m, m < n ∧ I m s5) nE s4) nE s3
            else ∃ m, m < n ∧ I m s3) nE s2) nE s1b) nE s1) nE s)
    (n : Nat) (h : I n s) :
    codeAny (model prog w) A (.compLoop (.ListComp elt [⟨target, iter, ifs, 0⟩] scope pos) 0 it acc env) R s := by
  subst hE
  refine codeAny_loop rfl I (fun n s hI => ?_) n h
  show wpAny _ A ((compTurn (.ListComp elt [⟨target, iter, ifs, 0⟩] scope pos) 0 it acc env).onRaise (fun x => do noteFrame x env; theTreesLotGoes x)) _ _ s
  refine wpAny_noted ?_
  rw [compTurn_list]
  refine wpAny_bind (wpAny_standAt (wpAny_bind (wpAny_mono (turn n s hI) (fun r s1 h1 => ?_) fun _ _ h' => h')))
  cases r with
  | none => exact wpAny_pure h1
  | some v =>
    refine wpAny_bind (wpAny_mono h1 (fun _ s1b h1b => ?_) fun _ _ h' => h')
    refine wpAny_bind (wpAny_mono h1b (fun _ s2 h2 => wpAny_bind (wpAny_mono h2 (fun ok s3 h3 => ?_) fun _ _ h' => h')) fun _ _ h' => h')
    cases ok with
    | false => exact wpAny_pure ⟨rfl, h3⟩
    | true =>
      exact wpAny_bind (wpAny_bind (wpAny_mono h3 (fun x s4 h4 => wpAny_bind (wpAny_mono h4 (fun _ s5 h5 => wpAny_pure (wpAny_pure ⟨rfl, h5⟩)) fun _ _ h' => h')) fun _ _ h' => h'))
end

/-! ### the block's cells -/
def clOf (cells : List (Str × Addr)) : List (Str × NameKind) → List (Str × Addr) → List (Str × Addr)
  | [], acc => acc
  | (n, k) :: r, acc => clOf cells r (if k == NameKind.free then (n, (cells.lookup n).getD 0) :: acc else acc)

theorem closure_forIn (env : Env) : ∀ (names : List (Str × NameKind)) (acc : List (Str × Addr)), (∀ y ∈ names, y.2 = .free → ∃ c, env.cells.lookup y.1 = some c) →
    (forIn names acc fun x (r : List (Str × Addr)) => match x with
      | (name, kind) => if (kind == NameKind.free) = true then (do let a ← cellOf env name; pure (ForInStep.yield ((name, a) :: r))) else pure (ForInStep.yield r) : Sem (List (Str × Addr))) = pure (clOf env.cells names acc)
  | [], acc, _ => by simp [clOf]
  | (n, k) :: r, acc, h => by
    have ih := fun acc => closure_forIn env r acc fun y hy => h y (List.mem_cons_of_mem _ hy)
    rw [List.forIn_cons]
    unfold clOf
    by_cases hk : k = .free
    · subst hk
      obtain ⟨c, e⟩ := h (n, .free) List.mem_cons_self rfl
      simp only [beq_self_eq_true, if_true, cellOf, e, Option.getD_some, pure_bind]
      exact ih _
    · have hb : (k == NameKind.free) = false := by simpa using hk
      simp only [hb, Bool.false_eq_true, if_false, pure_bind]
      exact ih _

theorem closureFor_eq {scope : Scope} {env : Env} (h : ∀ y ∈ scope.names, y.2 = .free → ∃ c, env.cells.lookup y.1 = some c) : closureFor scope env = pure (clOf env.cells scope.names []) := by
  have e := closure_forIn env scope.names [] h
  unfold closureFor
  first
    | (rw [e]; rfl)
    | (simp only [bind_pure]; exact e)
    | (show (_ >>= _) = _; rw [e]; rfl)

theorem clOf_lookup {cells : List (Str × Addr)} {x : Str} {c : Addr} : ∀ (names : List (Str × NameKind)) (acc : List (Str × Addr)), (∀ y ∈ names, y.2 = .free → ∃ c, cells.lookup y.1 = some c) →
    (∀ d, acc.lookup x = some d → cells.lookup x = some d) → (clOf cells names acc).lookup x = some c → cells.lookup x = some c
  | [], acc, _, ha, e => ha c e
  | (n, k) :: r, acc, h, ha, e => by
    unfold clOf at e
    refine clOf_lookup r _ (fun y hy => h y (List.mem_cons_of_mem _ hy)) (fun d hd => ?_) e
    by_cases hk : k = .free
    · subst hk
      obtain ⟨c', e'⟩ := h (n, .free) List.mem_cons_self rfl
      have e2 : cells.lookup n = some c' := e'
      rw [if_pos (beq_self_eq_true _), e2] at hd
      cases hx : x == n with
      | true =>
        have : x = n := eq_of_beq hx
        subst this
        simp only [List.lookup_cons, hx, Option.getD_some] at hd
        rw [e2]
        exact hd
      | false =>
        simp only [List.lookup_cons, hx] at hd
        exact ha d hd
    · have hb : ¬ (k == NameKind.free) = true := by simpa using hk
      rw [if_neg hb] at hd
      exact ha d hd

theorem clOf_keeps {cells : List (Str × Addr)} {x : Str} : ∀ (names : List (Str × NameKind)) (acc : List (Str × Addr)), (acc.lookup x).isSome = true → ((clOf cells names acc).lookup x).isSome = true
  | [], _, h => h
  | (n, k) :: r, acc, h => by
    unfold clOf
    refine clOf_keeps r _ ?_
    by_cases hk : (k == NameKind.free) = true
    · rw [if_pos hk]
      cases hx : x == n with
      | true => simp only [List.lookup_cons, hx, Option.isSome_some]
      | false => simp only [List.lookup_cons, hx]; exact h
    · rw [if_neg hk]; exact h

theorem clOf_has {cells : List (Str × Addr)} {x : Str} : ∀ (names : List (Str × NameKind)) (acc : List (Str × Addr)), (x, NameKind.free) ∈ names → ((clOf cells names acc).lookup x).isSome = true
  | (n, k) :: r, acc, h => by
    unfold clOf
    rcases List.mem_cons.mp h with e | h
    · cases e
      refine clOf_keeps r _ ?_
      rw [if_pos (beq_self_eq_true _)]
      simp only [List.lookup_cons, beq_self_eq_true, Option.isSome_some]
    · exact clOf_has r _ h

theorem relab_lookup {env : Env} (x : Str) : ∀ names : List (Str × NameKind),
    (names.map fun (n, k) => if (k == NameKind.free && env.scope.kind == .function && env.kindOf n == some .cell) then (n, NameKind.cell) else (n, k)).lookup x =
      (names.lookup x).map fun k => if (k == NameKind.free && env.scope.kind == .function && env.kindOf x == some .cell) then NameKind.cell else k
  | [] => rfl
  | (n, k) :: r => by
    have ih := relab_lookup (env := env) x r
    rw [List.map_cons]
    cases hx : x == n with
    | true =>
      have : x = n := eq_of_beq hx
      subst this
      show List.lookup x ((if (k == NameKind.free && env.scope.kind == .function && env.kindOf x == some .cell) = true then (x, NameKind.cell) else (x, k)) :: _) = _
      by_cases hc : (k == NameKind.free && env.scope.kind == .function && env.kindOf x == some .cell) = true
      · rw [if_pos hc]; simp only [List.lookup_cons, hx, Option.map_some]; rw [if_pos hc]
      · rw [if_neg hc]; simp only [List.lookup_cons, hx, Option.map_some]; rw [if_neg hc]
    | false =>
      show List.lookup x ((if (k == NameKind.free && env.scope.kind == .function && env.kindOf n == some .cell) = true then (n, NameKind.cell) else (n, k)) :: _) = _
      by_cases hc : (k == NameKind.free && env.scope.kind == .function && env.kindOf n == some .cell) = true
      · rw [if_pos hc]; simp only [List.lookup_cons, hx]; exact ih
      · rw [if_neg hc]; simp only [List.lookup_cons, hx]; exact ih

/-- what is asked of the block's names: own are the clause's, caps are captured -/
structure CScope (own caps : List Str) (scope osc : Scope) : Prop where
  kind : scope.kind = .function
  nocell : ∀ y ∈ scope.names, y.2 ≠ .cell
  loc : ∀ y ∈ scope.names, y.2 = .local → scope.names.lookup y.1 = some .local
  fr : ∀ y ∈ scope.names, y.2 = .free → osc.names.lookup y.1 = some .cell ∨ osc.names.lookup y.1 = some .free
  cap : ∀ x ∈ caps, scope.names.lookup x = some .free
  nd : (own ++ caps).Nodup

/-- the block's context -/
def cxC (X : Cx) (scope : Scope) (N' : List Str) (C : Addr) (fp : List Addr) (s : Shared) (H : Hp) : Cx where
  prog := X.prog
  w := X.w
  K := X.K
  mg := X.mg
  base := X.base
  A := X.A
  N := N'
  s₀ := s
  H₀ := H
  env := compEnvC scope (clOf X.env.cells scope.names []) C X.env
  outer := X.stack
  stack := X.stack
  ex := fp
  fn := fun _ => false
  calm := X.calm
  pn := X.pn
  xe := fun _ _ => False

/-- the block's slots: own ones unset, captured ones as they stand -/
def cSt (n : Nat) (js : List Nat) (σ : St) : St := List.replicate n none ++ js.map fun j => (σ[j]?).join

/-- the tests of a clause -/
def PF (X : Cx) (ifs : List Expr) (t : TT) : Prop :=
  ∀ (pins : List (Addr × Obj)) (s : Shared) (σ : St) (H : Hp) (Q : Bool → Hp → Prop), Inv X pins σ H s → t σ H Q → wpAny (model X.prog X.w) X.A (testsOf ifs X.env) (TP X pins σ Q) X.xe s
def tYes : TT := fun _ H Q => Q true H
theorem pf_nil {X : Cx} : PF X [] tYes := fun pins s σ H Q I h => by
  show wpAny _ _ (forIn [] true _) _ _ s
  rw [List.forIn_nil]
  exact wpAny_pure ⟨H, I, h⟩
theorem pf_one {X : Cx} {c : Expr} {tc : TT} (hc : PT X c tc) : PF X [c] tc := fun pins s σ H Q I h => by
  show wpAny _ _ (forIn [c] true _) _ _ s
  rw [List.forIn_cons]
  simp only [List.forIn_nil, if_true]
  refine wpAny_bind (wpAny_bind (thn (hc pins s σ H Q I h) fun b s1 q => wpAny_pure ?_))
  exact wpAny_pure q

/-- W: the invariant by the turn, a measure, what was gathered; D: where it is gathered -/
def tComp (n : Nat) (js : List Nat) (wi : TI) (g : TG) (tc : TT) (te : TE) : TE := fun σ H Q => wi σ H fun J H1 => ∀ D, H1 D = none → ∃ W : Nat → Nat → List V → Hp → Prop, (∃ m, W 0 m [] (upd H1 D (.lst []))) ∧ ∀ i m acc H, W i m acc H →
  H D = some (.lst acc) ∧ ((J.stop i H ∧ Q (.ref D) H) ∨ (J.go i H ∧ acc.length < sizeLine ∧ ∃ Nx : List V → Hp → Prop, (∀ acc' H', Nx acc' H' → ∃ m', m' < m ∧ W (i + 1) m' acc' H') ∧
    ∀ x H', J.yld i H x H' → g x (cSt n js σ) H' fun σ2 H2 => σ2.drop n = (cSt n js σ).drop n ∧ tc σ2 H2 fun b H3 => if b = true then te σ2 H3 fun v H4 => H4 D = some (.lst acc) ∧ Nx (acc ++ [v]) (upd H4 D (.lst (acc ++ [v]))) else H3 D = some (.lst acc) ∧ Nx acc H3))

section
variable {X : Cx} {pins : List (Addr × Obj)} {σ : St} {H : Hp} {s : Shared}

abbrev capN (X : Cx) (js : List Nat) : List Str := js.map fun j => (X.N[j]?).getD Str.empty
theorem js_ok {X : Cx} {js : List Nat} (h : (js.all fun j => decide (j < X.N.length)) = true) : ∀ j ∈ js, ∃ x, X.N[j]? = some x := fun j hj => by
  have := of_decide_eq_true (List.all_eq_true.mp h j hj)
  exact ⟨X.N[j], List.getElem?_eq_getElem this⟩

/-- the block begins: its frame is laid at C -/
theorem Inv.block {scope : Scope} {own : List Str} {js : List Nat} {fp : List Addr} {h' : Heap} {t' : Nat} {m : Str → Option Value} (I : Inv X pins σ H s) (S : CScope own (capN X js) scope X.env.scope) (hj : ∀ j ∈ js, ∃ x, X.N[j]? = some x)
    (hf : ∀ b ∈ fp, FpOk X pins H b) (hfo : ∀ b ∈ fp, ∃ o, s.heap.get? b = some o) (hn : h'.Ns s.heap.objs.size m) (hk : ∀ b o, s.heap.get? b = some o → h'.get? b = some o) :
    Inv (cxC X scope (own ++ capN X js) s.heap.objs.size fp s H) pins (cSt own.length js σ) H { s with heap := h', toks := t' } := by
  have hfr : ∀ y ∈ scope.names, y.2 = .free → ∃ c, X.env.cells.lookup y.1 = some c := fun y hy e => I.ok.has y.1 (S.fr y hy e)
  have hcl : ∀ x c, (clOf X.env.cells scope.names []).lookup x = some c → X.env.cells.lookup x = some c := fun x c e => clOf_lookup scope.names [] hfr (fun d z => nomatch z) e
  have hlt : ∀ b o, s.heap.get? b = some o → b ≠ s.heap.objs.size := fun b o e => Nat.ne_of_lt (Heap.lt_size e)
  have nstk : ∀ b, b ≠ X.env.locals → b ∉ X.fs → b ∉ frs X.stack := fun b h1 h2 hb => (List.mem_cons.mp (I.stkSub b hb)).elim h1 h2
  have hrl : ∀ x, (relabel scope X.env).names.lookup x = (scope.names.lookup x).map fun k => if (k == NameKind.free && X.env.scope.kind == .function && X.env.kindOf x == some .cell) then NameKind.cell else k := fun x => relab_lookup x scope.names
  refine ⟨⟨I.ok.mod, S.kind, I.ok.glob, I.ok.blt, Nat.le_refl _, fun x y c h1 h2 => I.ok.inj x y c (hcl x c h1) (hcl y c h2), fun x hx => ?_, (fun x c z => nomatch z), I.ok.hd, I.ok.frames, .inl rfl, fun b hb => ?_, I.bs, Nat.le_trans I.ok.bsz I.sz, fun b o e hb => ?_, fun b hb => ?_, I.stack, I.stkFree⟩,
    rfl, I.bare, Un.kept hk, ⟨m, hn, fun i x v h1 h2 h3 => ?_⟩, fun x c e => ?_, I.hok.fresh (Nat.le_refl _), fun x c e => I.freeC x c (hcl x c e), fun p hp => ?_, I.hok.kept hk, ?_⟩
  · have hx' : (relabel scope X.env).names.lookup x = some .cell ∨ (relabel scope X.env).names.lookup x = some .free := hx
    rw [hrl] at hx'
    cases e : scope.names.lookup x with
    | none => rw [e] at hx'; rcases hx' with z | z <;> cases z
    | some k =>
      have hm : (x, k) ∈ scope.names := PySem.mem_of_lookup e
      have hkf : k = .free := by
        rw [e] at hx'
        cases k with
        | free => rfl
        | cell => exact absurd rfl (S.nocell _ hm)
        | _ => exfalso; revert hx'; simp
      subst hkf
      exact Option.isSome_iff_exists.mp (clOf_has scope.names [] hm)
  · obtain ⟨o, e⟩ := hfo b hb
    obtain ⟨_, _, _, _, f4, _⟩ := hf b hb
    exact ⟨hlt b o e, fun x c z => f4 x c (hcl x c z)⟩
  · obtain ⟨_, _, _, f3, _⟩ := hf b hb
    rcases f3 with z | z
    · exact I.ok.noex b o e z
    · exact absurd (Nat.lt_of_lt_of_le (Heap.lt_size (I.ok.bs b o e).1) z) (Nat.lt_irrefl _)
  · obtain ⟨_, f1, f2, _⟩ := hf b hb
    exact nstk b f1 f2
  · -- a captured name
    have h1' : (own ++ capN X js)[i]? = some x := h1
    have hi : own.length ≤ i := by
      rcases Nat.lt_or_ge i own.length with z | z
      · exfalso
        unfold cSt at h2
        rw [List.getElem?_append_left (by simpa using z), List.getElem?_replicate] at h2
        split at h2 <;> cases h2
      · exact z
    rw [List.getElem?_append_right hi] at h1'
    unfold cSt at h2
    rw [List.getElem?_append_right (by simpa using hi), List.length_replicate, List.getElem?_map] at h2
    unfold capN at h1'
    rw [List.getElem?_map] at h1'
    cases ej : js[i - own.length]? with
    | none => rw [ej] at h2; cases h2
    | some j =>
      rw [ej] at h1' h2
      obtain ⟨y, ey⟩ := hj j (List.mem_of_getElem? ej)
      have exy : y = x := by
        have z : some ((X.N[j]?).getD Str.empty) = some x := h1'
        rw [ey] at z
        exact Option.some.inj z
      subst exy
      have es : σ[j]? = some (some v) := by
        have z : some ((σ[j]?).join) = some (some v) := h2
        cases q : σ[j]? with
        | none => rw [q] at z; cases z
        | some o => rw [q] at z; cases o with
          | none => cases z
          | some v' => cases z; rfl
      have hcap : y ∈ capN X js := List.mem_map.mpr ⟨j, List.mem_of_getElem? ej, by rw [ey]; rfl⟩
      have hfree : scope.names.lookup y = some .free := S.cap y hcap
      have hm : (y, NameKind.free) ∈ scope.names := PySem.mem_of_lookup hfree
      have ho := S.fr _ hm rfl
      obtain ⟨m0, hn0, hl0⟩ := I.loc
      obtain ⟨u, r, l⟩ := hl0 j y v ey es (ho.elim (fun z => .inr (.inl z)) fun z => .inr (.inr z))
      refine ⟨u, r, .inr ⟨?_, ?_⟩⟩
      · show (relabel scope X.env).names.lookup y = _ ∨ (relabel scope X.env).names.lookup y = _
        rw [hrl, hfree, Option.map_some]
        by_cases hcc : (NameKind.free == NameKind.free && X.env.scope.kind == .function && X.env.kindOf y == some .cell) = true
        · rw [if_pos hcc]; exact .inl rfl
        · rw [if_neg hcc]; exact .inr rfl
      · rcases l with ⟨k, _⟩ | ⟨_, c, e, z⟩
        · have k' : X.env.scope.names.lookup y = some .local := k
          rcases ho with z | z <;> (rw [k'] at z; cases z)
        · obtain ⟨c', e'⟩ := Option.isSome_iff_exists.mp (clOf_has (cells := X.env.cells) scope.names [] hm)
          have := hcl y c' e'
          rw [e] at this
          cases this
          refine ⟨c, e', ?_⟩
          obtain ⟨oc, ho', hd⟩ := z
          exact ⟨oc, hk c oc ho', hd⟩
  · obtain ⟨v, o, ho, hd⟩ := I.cell x c (hcl x c e)
    exact ⟨v, o, hk c o ho, hd⟩
  · obtain ⟨e, n, ne, nf, d⟩ := I.pin p hp
    exact ⟨hk _ _ e, n, hlt _ _ e, nstk p.1 ne nf, d⟩
  · unfold cSt
    show _ = (own ++ capN X js).length
    simp

/-- the block is left: its frame's object may have changed -/
theorem Inv.unblock {scope : Scope} {N' : List Str} {fp : List Addr} {σb : St} {H' : Hp} {s' : Shared} {h' : Heap} (I : Inv X pins σ H s) (hf : ∀ b ∈ fp, FpOk X pins H b)
    (B : Inv (cxC X scope N' s.heap.objs.size fp s H) pins σb H' s') (hs : Heap.SameBut s.heap.objs.size s'.heap h') : Inv X pins σ H' { s' with heap := h' } := by
  have hlt : ∀ b o, s.heap.get? b = some o → b ≠ s.heap.objs.size := fun b o e => Nat.ne_of_lt (Heap.lt_size e)
  have hu : Un (frs X.stack) fp H H' s.heap s'.heap := B.base
  have hfree : H' s.heap.objs.size = none := B.free
  refine I.call' (s' := { s' with heap := h' }) (ch := fp) B.os ⟨fun b o e n hb hx => ?_, fun b o e n hb hx => ?_, hu.free, fun b o e hx => ?_, hu.tups, hu.frzs, hu.tbls⟩ (fun b u e => ?_) B.bare fun b hb => ?_
  · exact (hs.2 b (hlt b o e)).trans (hu.keep b o e n hb hx)
  · obtain ⟨sl, z⟩ := hu.slot b o e n hb hx
    exact ⟨sl, (hs.2 b (hlt b o e)).trans z⟩
  · obtain ⟨o', z⟩ := hu.there b o e hx
    exact ⟨o', (hs.2 b (hlt b o e)).trans z⟩
  · refine (B.hok b u e).stay (fun c v hc q => (hs.2 c ?_).trans q) (fun _ q => q) fun _ _ q => q
    rintro rfl
    rcases hc with z | z
    · rw [← z, hfree] at e; cases e
    · rw [hfree] at z; cases z
  · obtain ⟨_, f1, f2, f3, f4, f5⟩ := hf b hb
    exact ⟨f3, f1, f4, f5⟩
end

section
variable {X : Cx} {elt tg iter : Expr} {ifs : List Expr} {scope : Scope} {pos : Pos} {own : List Str} {js : List Nat} {wi : TI} {g : TG} {tc : TT} {te : TE}

theorem comp_core (hc : X.calm = true) (S : CScope own (capN X js) scope X.env.scope) (hj : ∀ j ∈ js, ∃ x, X.N[j]? = some x) (hi : PI X tg iter wi)
    (hg : ∀ C fp s H, PG (cxC X scope (own ++ capN X js) C fp s H) tg g) (ht : ∀ C fp s H, PF (cxC X scope (own ++ capN X js) C fp s H) ifs tc) (he : ∀ C fp s H, PE (cxC X scope (own ++ capN X js) C fp s H) elt te)
    {pins : List (Addr × Obj)} {σ : St} {H : Hp} {s : Shared} {Q : VK} (I : Inv X pins σ H s) (h : tComp own.length js wi g tc te σ H Q) {RR : Value → Addr → Result → Shared → Prop}
    (hRR : ∀ D C s' m H', s'.heap.Ns C m → H' C = none → C ≠ X.env.locals → C ∉ X.fs → (∀ x c, X.env.cells.lookup x = some c → c ≠ C) → X.s₀.heap.objs.size ≤ C → (∀ p ∈ X.pn ++ pins, p.1 ≠ C) → (∀ h', Heap.SameBut C s'.heap h' → Inv X pins σ H' { s' with heap := h' }) → Q (.ref D) H' → RR (.ref D) C (.ok .next) s') :
    wpAny (model X.prog X.w) X.A (eval iter X.env) (fun x s1 => wpAny (model X.prog X.w) X.A (pyIter x) (fun it s2 => wpAny (model X.prog X.w) X.A (newList []) (fun acc s3 =>
      wpAny (model X.prog X.w) X.A (newFunctionEnv scope X.env.globals (clOf X.env.cells scope.names []) [] X.env.qual none .none (some X.env)) (fun cenv s4 =>
        codeAny (model X.prog X.w) X.A (.compStart (.ListComp elt [⟨tg, iter, ifs, 0⟩] scope pos) 0 it acc { cenv with scope := relabel scope X.env }) (RR acc cenv.locals) s4) X.xe s3) X.xe s2) X.xe s1) X.xe s := by
  refine thn (hi pins s σ H _ I h) fun v s1 h1 => thn h1 fun itv s2 h2 => ?_
  obtain ⟨it, fp, tn, J, H2, e, I2, T, st2, f2, hq⟩ := h2
  subst e
  refine wpAny_newList ?_ (by simp)
  have I3 := I2.lnew (t' := s2.toks) (ys := []) (its := []) .nil (by simp)
  have hDn : H2 s2.heap.objs.size = none := I2.fresh
  generalize hD : s2.heap.objs.size = D at I3 hDn ⊢
  generalize hH3 : upd H2 D (.lst []) = H3 at I3
  generalize hs3 : ({ s2 with heap := s2.heap.push { cls := .type "list", data := .seq ([] : List Value).toArray }, toks := s2.toks } : Shared) = s3 at I3
  have k3 : ∀ b o, s2.heap.get? b = some o → s3.heap.get? b = some o := fun b o e => by rw [← hs3]; exact Heap.get?_push_of_some _ e
  have st3 : tn 0 s3.heap := T.keep _ _ _ st2 fun b _ o e => k3 b o e
  have fo2 : ∀ b ∈ fp, ∃ o, s2.heap.get? b = some o := fun b hb => (T.obj _ _ st2 b hb).imp fun _ z => z.1
  have neD : ∀ b ∈ fp, b ≠ D := fun b hb => by
    obtain ⟨o, e⟩ := fo2 b hb
    rw [← hD]
    exact Nat.ne_of_lt (Heap.lt_size e)
  have f3 : ∀ b ∈ fp, FpOk X pins H3 b := fun b hb => by
    obtain ⟨a0, a1⟩ := f2 b hb
    exact ⟨by rw [← hH3, upd_ne (neD b hb)]; exact a0, a1⟩
  have fo3 : ∀ b ∈ fp, ∃ o, s3.heap.get? b = some o := fun b hb => (fo2 b hb).imp fun o e => k3 b o e
  obtain ⟨W, ⟨m0, w0⟩, turn⟩ := hq D hDn
  rw [hH3] at w0
  refine wpAny_newFunctionEnv S.nocell (by intro y hy; simp at hy) (fun h4 hns4 hsb4 => ?_) S.kind
  have k4 : ∀ b o, s3.heap.get? b = some o → h4.get? b = some o := fun b o e => hsb4.extBut b o (Nat.ne_of_lt (Heap.lt_size e)) (Heap.get?_push_of_some _ e)
  have B4 := I3.block (t' := s3.toks + ([] : List (Str × Value)).length) S hj f3 fo3 hns4 k4
  have st4 : tn 0 h4 := T.keep _ _ _ st3 fun b _ o e => k4 b o e
  have f4 : ∀ b ∈ fp, FpOk (cxC X scope (own ++ capN X js) s3.heap.objs.size fp s3 H3) pins H3 b := fun b hb => by
    obtain ⟨a0, a1, a2, a3, a4, a5⟩ := f3 b hb
    obtain ⟨o, e⟩ := fo3 b hb
    exact ⟨a0, (B4.ok.exf b hb).1, B4.ok.exfs b hb, .inl hb, (B4.ok.exf b hb).2, a5⟩
  have nL : s3.heap.objs.size ≠ X.env.locals := Nat.ne_of_gt I3.lt
  have nF : s3.heap.objs.size ∉ X.fs := I3.nofs (Nat.le_refl _)
  have nC : ∀ x c, X.env.cells.lookup x = some c → c ≠ s3.heap.objs.size := fun x c e => by
    obtain ⟨_, o, ho, _⟩ := I3.cell x c e
    exact Nat.ne_of_lt (Heap.lt_size ho)
  -- the loop
  have loop : ∀ s5 : Shared, s5 = { s3 with heap := h4, toks := s3.toks + ([] : List (Str × Value)).length } →
      codeAny (model X.prog X.w) X.A (.compLoop (.ListComp elt [⟨tg, iter, ifs, 0⟩] scope pos) 0 (.ref it) (.ref D) (compEnvC scope (clOf X.env.cells scope.names []) s3.heap.objs.size X.env)) (RR (.ref D) s3.heap.objs.size) s5 := by
    rintro s5 rfl
    have stat : ∀ {H' : Hp}, (∀ b ∈ fp, H' b = none) → ∀ b ∈ fp, FpOk (cxC X scope (own ++ capN X js) s3.heap.objs.size fp s3 H3) pins H' b := fun hn b hb => ⟨hn b hb, (f4 b hb).2⟩
    refine compLoop_gen rfl (fun n s' => ∃ i acc H', Inv (cxC X scope (own ++ capN X js) s3.heap.objs.size fp s3 H3) pins (cSt own.length js σ) H' s' ∧ tn i s'.heap ∧ (∀ b ∈ fp, H' b = none) ∧ W i n acc H') ?_ m0
      ⟨0, [], H3, B4, st4, fun b hb => (f3 b hb).1, w0⟩
    rintro n s6 ⟨i, acc, H6, B6, st6, fr6, w6⟩
    obtain ⟨hacc, way⟩ := turn i n acc H6 w6
    rcases way with ⟨stop, q⟩ | ⟨go, hz, Nx, hN, step⟩
    · refine thn (T.done (cxC X scope (own ++ capN X js) s3.heap.objs.size fp s3 H3) rfl rfl rfl hc i pins s6 _ H6 _ B6 (stat fr6) st6 stop) fun r s7 ⟨hr, B7⟩ => ?_
      subst hr
      obtain ⟨m, hm, _⟩ := B7.loc
      exact hRR D _ s7 m H6 hm B7.free nL nF nC I3.sz (fun p hp => Nat.ne_of_lt (Heap.lt_size (I3.pin p hp).1)) (fun h' hs => I3.unblock f3 B7 hs) q
    · refine thn (T.item (cxC X scope (own ++ capN X js) s3.heap.objs.size fp s3 H3) rfl rfl rfl hc i pins s6 _ H6 _ B6 (stat fr6) st6 go) fun r s7 ⟨u, hr, h7⟩ => ?_
      subst hr
      refine thn h7 fun _ s8 ⟨x, H8, B8, r8, y8, st8, fr8⟩ => ?_
      have B8' := B8.pinned (stat fr8) (T.obj _ _ st8)
      have away : ∀ {s9 : Shared} {σ9 : St} {H9 : Hp} {acc' : List V}, Inv (cxC X scope (own ++ capN X js) s3.heap.objs.size fp s3 H3) (pins ++ pinsAt fp s8.heap) σ9 H9 s9 → σ9.drop own.length = (cSt own.length js σ).drop own.length → Nx acc' H9 →
          ∃ m', m' < n ∧ ∃ i acc H', Inv (cxC X scope (own ++ capN X js) s3.heap.objs.size fp s3 H3) pins (cSt own.length js σ) H' s9 ∧ tn i s9.heap ∧ (∀ b ∈ fp, H' b = none) ∧ W i m' acc H' := fun {s9 σ9 H9 acc'} B9 hd nx => by
        obtain ⟨m', hm, w9⟩ := hN acc' H9 nx
        refine ⟨m', hm, i + 1, acc', H9, B9.unpinned.weak ?_ ?_, T.keep _ _ _ st8 fun b hb o e => (B9.pin (b, o) (List.mem_append_right _ (List.mem_append_right _ (mem_pinsAt hb e)))).1, fun b hb => ?_, w9⟩
        · rw [B9.len, B6.len]
        · intro k v hv
          unfold cSt at hv
          have hk : own.length ≤ k := by
            rcases Nat.lt_or_ge k own.length with z | z
            · exfalso
              rw [List.getElem?_append_left (by simpa using z), List.getElem?_replicate] at hv
              split at hv <;> cases hv
            · exact z
          have e1 : σ9[k]? = (σ9.drop own.length)[k - own.length]? := by rw [List.getElem?_drop]; congr 1; omega
          rw [e1, hd, List.getElem?_drop]
          have e2 : own.length + (k - own.length) = k := by omega
          rw [e2]
          exact hv
        · obtain ⟨o, e, d⟩ := T.obj _ _ st8 b hb
          exact (B9.pin (b, o) (List.mem_append_right _ (List.mem_append_right _ (mem_pinsAt hb e)))).2.1
      refine wpAny_mono (hg _ _ _ _ _ s8 _ H8 x u _ B8' r8 (step x H8 y8)) (fun _ s9 ⟨σ9, H9, B9, hd9, q9⟩ => ?_) fun _ _ f => f.elim
      refine wpAny_mono (ht _ _ _ _ _ s9 σ9 H9 _ B9 q9) (fun b s10 ⟨H10, B10, q10⟩ => ?_) fun _ _ f => f.elim
      cases b with
      | false =>
        rw [if_neg Bool.false_ne_true] at q10 ⊢
        exact away B10 hd9 q10.2
      | true =>
        rw [if_pos rfl] at q10 ⊢
        refine wpAny_mono (he _ _ _ _ _ s10 σ9 H10 _ B10 q10) (fun y s11 ⟨z, H11, B11, r11, q11⟩ => ?_) fun _ _ f => f.elim
        obtain ⟨hl11, nx⟩ := q11
        refine wpAny_mono (mt_append (X := cxC X scope (own ++ capN X js) s3.heap.objs.size fp s3 H3) _ s11 σ9 H11 (.ref D) [z] (.ref D) [y] (fun _ H12 => Nx (acc ++ [z]) H12) B11 rfl (.cons r11 .nil) ⟨D, acc, z, rfl, rfl, hl11, hz, nx⟩) (fun _ s12 ⟨_, H12, B12, _, q12⟩ => ?_) fun _ _ f => f.elim
        exact away B12 hd9 q12
  exact codeAny_compStart_list (loop _ rfl) (T.self X.A 0 _ _ _ st4 (loop _ rfl))

/-- a list comprehension -/
theorem pe_comp (own caps : List Str) (js : List Nat) (hc : X.calm = true) {osc : Scope} (S : CScope own caps scope osc) (hi : PI X tg iter wi)
    (hg : ∀ C fp s H, PG (cxC X scope (own ++ caps) C fp s H) tg g) (ht : ∀ C fp s H, PF (cxC X scope (own ++ caps) C fp s H) ifs tc) (he : ∀ C fp s H, PE (cxC X scope (own ++ caps) C fp s H) elt te)
    (ho : X.env.scope = osc := by rfl) (hcp : capN X js = caps := by rfl) (hj : (js.all fun j => decide (j < X.N.length)) = true := by rfl)
    (hs : ∀ x, foldedSetIterable iter X.env x = pure x := by intro _; rfl) : PE X (.ListComp elt [⟨tg, iter, ifs, 0⟩] scope pos) (tComp own.length js wi g tc te) := by
  subst ho
  subst hcp
  intro pins s σ H Q I h
  have hfr : ∀ y ∈ scope.names, y.2 = .free → ∃ c, X.env.cells.lookup y.1 = some c := fun y hy e => I.ok.has y.1 (S.fr y hy e)
  rw [eval_ListComp]
  refine wpAny_comprehension_free (use := none) rfl hs (closureFor_eq hfr) S.kind S.loc ?_
  refine comp_core hc S (js_ok hj) hi hg ht he I h (RR := fun acc C => compPost (model X.prog X.w) X.A X.xe none (EP X pins σ Q) acc C) ?_
  intro D C s' m H' hn hf h1 h2 h3 h4 h5 hI hq
  exact ⟨m, hn, fun h' hs' => ⟨.ref D, H', hI h' hs', rfl, hq⟩⟩

/-- x = [ .. for .. ], where the store goes ahead of the block's end -/
theorem ps_setC {i : Nat} {x : Str} {pos' spos : Pos} (own caps : List Str) (js : List Nat) (hc : X.calm = true) (hN : X.N.Nodup) (hxi : X.N[i]? = some x) (hx : Loc X.env.scope x)
    {osc : Scope} (S : CScope own caps scope osc) (hi : PI X tg iter wi)
    (hg : ∀ C fp s H, PG (cxC X scope (own ++ caps) C fp s H) tg g) (ht : ∀ C fp s H, PF (cxC X scope (own ++ caps) C fp s H) ifs tc) (he : ∀ C fp s H, PE (cxC X scope (own ++ caps) C fp s H) elt te)
    (hsw : swapsWith (.ListComp elt [⟨tg, iter, ifs, 0⟩] scope pos) (some (.Name x pos')) spos.line X.env = pure true)
    (ho : X.env.scope = osc := by rfl) (hcp : capN X js = caps := by rfl) (hj : (js.all fun j => decide (j < X.N.length)) = true := by rfl)
    (hf : X.fn x = true ∨ X.env.scope.names.lookup x = some .local := by first | exact .inl rfl | exact .inr rfl | assumption)
    (hs : ∀ x, foldedSetIterable iter X.env x = pure x := by intro _; rfl) : PS X (.Assign [.Name x pos'] (.ListComp elt [⟨tg, iter, ifs, 0⟩] scope pos) spos) (tAsg (tComp own.length js wi g tc te) (gName i)) := by
  subst ho
  subst hcp
  intro pins s σ H D0 I h
  have hfr : ∀ y ∈ scope.names, y.2 = .free → ∃ c, X.env.cells.lookup y.1 = some c := fun y hy e => I.ok.has y.1 (S.fr y hy e)
  have h' : tComp own.length js wi g tc te σ H (fun v H1 => D0.nx (σ.set i (some v)) H1) := h
  rw [exec_Assign_Name_used _ _ _ _ hsw]
  refine wpAny_bind (wpAny_standAt (wpAny_bind ?_))
  unfold evalThenUse
  refine wpAny_bind ?_
  refine wpAny_comprehension_free (use := some _) (Q := fun _ s' => wpAny _ _ (pure PUnit.unit) (fun _ s'' => wpAny _ _ (pure Flow.next) (SP X pins D0) X.xe s'') X.xe s') rfl hs (closureFor_eq hfr) S.kind S.loc ?_
  refine comp_core hc S (js_ok hj) hi hg ht he I h' (RR := fun acc C => compPost (model X.prog X.w) X.A X.xe (some _) _ acc C) ?_
  intro D C s' m H' hn hfree h1 h2 h3 h4 h5 hI hq
  have I' : Inv X pins σ H' s' := hI s'.heap (.refl ..)
  obtain ⟨o, es, ep, ho, hod, r⟩ := id hn
  show wpAny _ _ (assign (.Name x pos') X.env (.ref D)) _ _ s'
  refine wpAny_assign_Name (store_ok2 I' hN hxi hx (v := .ref D) rfl (fun s2 I2 ⟨a, hsa, ha⟩ => ?_) hf)
  have hCa : C ≠ a := by
    rcases ha with z | z
    · rw [z]; exact h1
    · exact (h3 x a z).symm
  refine ⟨m, hn.sameBut hsa hCa, fun h'' hs'' => wpAny_pure (wpAny_pure ?_)⟩
  refine ⟨_, H', ?_, hq⟩
  -- what is left: the block's frame changes once more
  exact I2.turned (t' := s2.toks) (it := C) (fun b o hb e => (hs''.2 b hb).trans e) hfree (Ne.symm h1 |>.symm) (.inr h4) h3 h5
end
end L2
/-! Data and its equality, any and all, isinstance, slices of tuples, own defs in short. -/
namespace L2
open PySem PySem.Spec PyProof.Rows

/-! ### data -/
mutual
inductive Has (K : PySem.W.Frag) (H : Hp) : V → PyData → Prop
  | non : Has K H .non .none
  | bl (b : Bool) : Has K H (.bl b) (.bool b)
  | int (i : Int) : Has K H (.int i) (.int i)
  | str (x : Str) : Has K H (.str x) (.str x)
  | lst {a : Addr} {xs : List V} {ds : List PyData} : SqL K H a xs → HasAll K H xs ds → Has K H (.ref a) (.list ds)
  | tup {a : Addr} {xs : List V} {ds : List PyData} : SqT K H a xs → HasAll K H xs ds → Has K H (.ref a) (.tuple ds)
inductive HasAll (K : PySem.W.Frag) (H : Hp) : List V → List PyData → Prop
  | nil : HasAll K H [] []
  | cons {x : V} {xs : List V} {d : PyData} {ds : List PyData} : Has K H x d → HasAll K H xs ds → HasAll K H (x :: xs) (d :: ds)
end

section
variable {X : Cx} {pins : List (Addr × Obj)} {σ : St} {H : Hp} {s : Shared}
mutual
theorem Has.reads (I : Inv X pins σ H s) : ∀ {x : V} {d : PyData} {u : Value}, Has X.K H x d → RelV x u → ∃ as, Reads s.heap u d as
  | _, _, _, .non, r => by cases r; exact ⟨_, .none⟩
  | _, _, _, .bl b, r => by cases r; exact ⟨_, .bool b⟩
  | _, _, _, .int i, r => by obtain ⟨t, rfl⟩ := r; exact ⟨_, .int i t⟩
  | _, _, _, .str x, r => by obtain ⟨t, rfl⟩ := r; exact ⟨_, .str x t⟩
  | _, _, _, .lst h hs, r => by
    cases r
    obtain ⟨its, rv, ⟨o, n, ho, hc, hd, hs'⟩, hz⟩ := I.list h
    obtain ⟨as, ra⟩ := HasAll.reads I hs rv
    exact ⟨_, .list ho hc hs' ra⟩
  | _, _, _, .tup h hs, r => by
    cases r
    obtain ⟨its, rv, ⟨o, ho, hc, n, hs'⟩, hz⟩ := I.tuple h
    obtain ⟨as, ra⟩ := HasAll.reads I hs rv
    exact ⟨_, .tuple ho hc hs' ra⟩
theorem HasAll.reads (I : Inv X pins σ H s) : ∀ {xs : List V} {ds : List PyData} {us : List Value}, HasAll X.K H xs ds → Vals xs us → ∃ as, ReadsAll s.heap us ds as
  | _, _, _, .nil, r => by cases r; exact ⟨_, .nil⟩
  | _, _, _, .cons h hs, .cons r rs => by
    obtain ⟨as, ra⟩ := Has.reads I h r
    obtain ⟨bs, rb⟩ := HasAll.reads I hs rs
    exact ⟨_, .cons ra rb⟩
end
end

def rEqD (K : PySem.W.Frag) : R2 := fun x y H Q => ∃ d e, Has K H x d ∧ Has K H y e ∧ SeqAt.shaped d = true ∧ SeqAt.shaped e = true ∧ Q (.bl (PyData.eqv d e)) H
def rNeD (K : PySem.W.Frag) : R2 := fun x y H Q => ∃ d e, Has K H x d ∧ Has K H y e ∧ SeqAt.shaped d = true ∧ SeqAt.shaped e = true ∧ Q (.bl (!PyData.eqv d e)) H
section
variable {X : Cx}
theorem op_eqD (hu : X.A.units + 64 < cLine) : OpR X (compareOp .Eq) (rEqD X.K) := by
  intro pins s σ H x y v u Q I rx ry h
  obtain ⟨d, e, hd, he, sd, se, q⟩ := h
  obtain ⟨as, ra⟩ := hd.reads I rx
  obtain ⟨bs, rb⟩ := he.reads I ry
  exact SeqAt.compareEq_reads ra rb (SeqAt.canLay_of_shaped sd) (SeqAt.canLay_of_shaped se) (SeqAt.room_of_shaped sd hu) ⟨.bl _, H, I, rfl, q⟩
theorem op_neD (hu : X.A.units + 64 < cLine) : OpR X (compareOp .NotEq) (rNeD X.K) := by
  intro pins s σ H x y v u Q I rx ry h
  obtain ⟨d, e, hd, he, sd, se, q⟩ := h
  obtain ⟨as, ra⟩ := hd.reads I rx
  obtain ⟨bs, rb⟩ := he.reads I ry
  exact SeqAt.compareNe_reads ra rb (SeqAt.canLay_of_shaped sd) (SeqAt.canLay_of_shaped se) (SeqAt.room_of_shaped sd hu) ⟨.bl _, H, I, rfl, q⟩

/-! ### any, all of a list of truths -/
theorem vals_bl : ∀ {bs : List Bool} {us : List Value}, Vals (bs.map V.bl) us → us = bs.map Value.bool
  | [], _, r => by cases r; rfl
  | b :: bs, _, .cons r t => by
    cases r
    rw [vals_bl t]
    rfl
theorem range_all (bs : List Bool) : (List.range bs.length).all (fun i => bs.getD i false) = bs.all id := by
  rw [Bool.eq_iff_iff, List.all_eq_true, List.all_eq_true]
  constructor
  · intro h b hb
    obtain ⟨i, hi, e⟩ := List.mem_iff_getElem.mp hb
    have := h i (List.mem_range.mpr hi)
    rw [List.getD_eq_getElem?_getD, List.getElem?_eq_getElem hi] at this
    rw [← e]; exact this
  · intro h i hi
    have hi := List.mem_range.mp hi
    rw [List.getD_eq_getElem?_getD, List.getElem?_eq_getElem hi]
    exact h _ (List.getElem_mem hi)
theorem truthOf_bools (prog : Program) (w : World) (A : Around) (bs : List Bool) : TruthOf prog w A (fun i v => ((bs.map Value.bool).toArray)[i]? = some v) fun i => bs.getD i false := by
  intro i v s Q E hP hQ
  simp only [List.getElem?_toArray, List.getElem?_map] at hP
  cases e : bs[i]? with
  | none => rw [e] at hP; cases hP
  | some b =>
    rw [e] at hP
    cases hP
    dsimp only at hQ
    rw [List.getD_eq_getElem?_getD, e] at hQ
    exact wpAny_truthy_bool hQ
theorem call_all (hc : X.calm = true) : CallR X (.builtin "all") (fun xs H Q => ∃ (p : Addr) (bs : List Bool), xs = [.ref p] ∧ SqL X.K H p (bs.map V.bl) ∧ Q (.bl (bs.all id)) H) := by
  intro pins s σ H xs us Q I r h
  obtain ⟨p, bs, rfl, hq, q⟩ := h
  obtain ⟨u, rfl, rx⟩ := vals1 r
  cases rx
  obtain ⟨its, rv, pl, hz⟩ := I.list hq
  have e := vals_bl rv
  subst e
  have hne : p ≠ s.heap.objs.size := by obtain ⟨o, n, ho, _⟩ := pl; exact Nat.ne_of_lt (Heap.lt_size ho)
  refine call_all_walk (wpAny_pyIter_list pl.isList ?_)
  refine ⟨_, _, _, _, _, _, fun i => bs.getD i false, rfl, Walks.list (A := X.A.in1) (show X.A.in1.handled = none from I.ok.hd hc) s.heap.objs.size p hne (bs.map Value.bool).toArray, ⟨⟨_, Heap.get?_push_size _ rfl, rfl, rfl⟩, (pl.keeps fun b o e => Heap.get?_push_of_some _ e).isList⟩, truthOf_bools _ _ _ bs, fun h' tk hk => ?_⟩
  refine ⟨.bl (bs.all id), H, I.kept (t' := tk) fun b o e => hk b o (by simp; exact Nat.ne_of_lt (Heap.lt_size e)) (Heap.get?_push_of_some _ e), ?_, q⟩
  show Value.bool _ = Value.bool _
  rw [← range_all]
  simp

/-! ### isinstance -/
def clsV : V → Value
  | .ty n => .type n
  | .ref a => .ref a
  | _ => .none
theorem call_isinst : CallR X (.builtin "isinstance") (fun xs H Q => ∃ x c t b, xs = [x, c] ∧ (∃ n, c = .ty n) ∧ TyOf X.K H x t ∧ PySem.W.kitOne X.K t (clsV c) = some b ∧ Q (.bl b) H) := by
  intro pins s σ H xs us Q I r h
  obtain ⟨x, c, t, b, rfl, ⟨n, rfl⟩, ty, e, q⟩ := h
  obtain ⟨u, w', rfl, rx, rc⟩ := vals2 r
  cases rc
  exact isinst_ok I rx ty e fun tk => ⟨.bl b, H, I.tok _, rfl, q⟩
end
end L2

/-! ### a def of the text, and its promise, in short -/
namespace L2
open PySem PySem.Spec PyProof.Rows
/-- the def x stands at the top as st -/
def Def (K : PySem.W.Frag) (mg : Str → Option Value) (x : Str) (st : Stmt) : Prop := ∃ f fd, mg x = some (.ref f) ∧ Fun K x x st f fd
/-- the def x keeps the promise sp -/
def Own (P : Program) (w : World) (K : PySem.W.Frag) (mg : Str → Option Value) (base : Heap) (k : Nat) (x : Str) (ps : List Str) (sp : Sp) : Prop :=
  ∃ f fd, mg x = some (.ref f) ∧ PySem.W.keepIn K (.ref f) = true ∧ Binds K fd ps [] ∧ FnOk P w K mg base CX0 k f fd ps sp
theorem Def.own {P : Program} {w : World} {K : PySem.W.Frag} {mg : Str → Option Value} {base : Heap} {x : Str} {st : Stmt} {N ps : List Str} {k : Nat} {sp : Sp} (D : Def K mg x st) (S : FnScope N ps (defScope st))
    (hb : ∀ (kV doc pm : Value) (an : Option Addr) (cdv ct : Value) (us : List Value), us.length = ps.length → bindArgs (PySem.W.fnOf x x (defArgs st) (defBody st) (defScope st) .none kV doc pm an cdv ct) ⟨us, []⟩ = pure (ps.zip us))
    (len : ∀ vs H Q E, sp vs H Q E → vs.length = ps.length)
    (hbody : ∀ (f : Addr) (cdv : Value) (A : Around) (outer : List Env) (s : Shared) (H : Hp) (vs : List V) (Q : VK) (E : XK), Room k (A.deeper (envOfC x (defScope st) s.heap.objs.size f cdv)) → sp vs H Q E →
      ∃ t, PSs (cxOf CX0 P w K mg base N x (defScope st) f cdv A outer s H E).nox (defBody st) t ∧ t { nx := fun _ H' => Q .non H', rt := Q } (start N vs) H) : Own P w K mg base (k + 1) x ps sp := by
  obtain ⟨f, fd, hm, F⟩ := D
  exact ⟨f, fd, hm, F.kp, F.binds hb, F.ok S len (hbody f)⟩
theorem def_mk {K : PySem.W.Frag} {h : Heap} {mg : Str → Option Value} (X : K.In h) (G : h.Ns mainGlobals mg) {x : Str} {st : Stmt} {f : Addr} {oc : Value} {od an : Option Addr} {osl : Array (Option Value)} {kV doc pm cdv ct : Value}
    (a : PySem.W.nsIn K mainGlobals x = some (some (.ref f)))
    (l : K.lookup f = some ⟨oc, od, .func (PySem.W.fnOf x x (defArgs st) (defBody st) (defScope st) .none kV doc pm an cdv ct), osl⟩) (c : PySem.W.codeIn K cdv x = true) (k : PySem.W.keepIn K (.ref f) = true) : Def K mg x st :=
  ⟨f, _, PySem.W.mg_of X G a, fun_mk l c k⟩
section
variable {X : Cx} {j k : Nat} {x : Str} {ps : List Str} {sp : Sp} {p pos : Pos} {e : Expr} {es : List Expr} {t : TA}
theorem pe_fn (F : Own X.prog X.w X.K X.mg X.base j x ps sp) (hr : Room k X.A) (ha : PA X (e :: es) t) (hk : j ≤ k := by decide) (hg : Gl X x := by rfl)
    (hdb : (x == ("__debug__" : Str)) = false := by decide) (he : starEach (e :: es) X.env = (false, eval e X.env) :: starEach es X.env := by rfl) (hpl : (backTo pos (starEach es X.env)).any (·.1) = false := by rfl) :
    PE X (.Call (.Name x p) (e :: es) [] pos) (tCall sp [] E0 t) := by
  obtain ⟨f, fd, hm, kp, hb, F⟩ := F
  exact pe_call F (hr.mono hk) hg hm kp hb .nil pass0 ha hdb he hpl
end
/-- the names of built-ins that no def of the text takes -/
def Blt (mg : Str → Option Value) : Prop := ∀ x : Str, x ∈ (["len", "any", "all", "max", "min", "isinstance", "list", "tuple", "int", "bool", "str", "dict", "range"] : List Str) → mg x = none
theorem blt_mk {K : PySem.W.Frag} {h : Heap} {mg : Str → Option Value} (X : K.In h) (G : h.Ns mainGlobals mg) (z0 : PySem.W.nsIn K mainGlobals "len" = some none) (z1 : PySem.W.nsIn K mainGlobals "any" = some none) (z2 : PySem.W.nsIn K mainGlobals "all" = some none) (z3 : PySem.W.nsIn K mainGlobals "max" = some none) (z4 : PySem.W.nsIn K mainGlobals "min" = some none) (z5 : PySem.W.nsIn K mainGlobals "isinstance" = some none) (z6 : PySem.W.nsIn K mainGlobals "list" = some none) (z7 : PySem.W.nsIn K mainGlobals "tuple" = some none) (z8 : PySem.W.nsIn K mainGlobals "int" = some none) (z9 : PySem.W.nsIn K mainGlobals "bool" = some none) (z10 : PySem.W.nsIn K mainGlobals "str" = some none) (z11 : PySem.W.nsIn K mainGlobals "dict" = some none) (z12 : PySem.W.nsIn K mainGlobals "range" = some none) : Blt mg := by
  intro x hx
  simp only [List.mem_cons, List.not_mem_nil, or_false] at hx
  rcases hx with rfl | rfl | rfl | rfl | rfl | rfl | rfl | rfl | rfl | rfl | rfl | rfl | rfl
  · exact PySem.W.mg_none_of X G z0
  · exact PySem.W.mg_none_of X G z1
  · exact PySem.W.mg_none_of X G z2
  · exact PySem.W.mg_none_of X G z3
  · exact PySem.W.mg_none_of X G z4
  · exact PySem.W.mg_none_of X G z5
  · exact PySem.W.mg_none_of X G z6
  · exact PySem.W.mg_none_of X G z7
  · exact PySem.W.mg_none_of X G z8
  · exact PySem.W.mg_none_of X G z9
  · exact PySem.W.mg_none_of X G z10
  · exact PySem.W.mg_none_of X G z11
  · exact PySem.W.mg_none_of X G z12
theorem bt_len : bootBuiltins "len" = some (.builtin "len") := by decide +kernel
theorem bt_all : bootBuiltins "all" = some (.builtin "all") := by decide +kernel
theorem bt_max : bootBuiltins "max" = some (.builtin "max") := by decide +kernel
theorem bt_min : bootBuiltins "min" = some (.builtin "min") := by decide +kernel
theorem bt_isinstance : bootBuiltins "isinstance" = some (.builtin "isinstance") := by decide +kernel
theorem bt_tuple : bootBuiltins "tuple" = some (.type "tuple") := by decide +kernel
theorem bt_str : bootBuiltins "str" = some (.type "str") := by decide +kernel
end L2

namespace HT
open PySem PySem.Spec PyProof.Rows
section
variable {prog : Program} {w : World} {A : Around} {E : Value → Shared → Prop} {s : Shared}
end
end HT

namespace L2
open PySem PySem.Spec PyProof.Rows
section
variable {X : Cx}
end
end L2
/-! The rules that read through the fragment, with the fragment named: so that a block's terms do not hang on the block's context. -/
namespace L2
open PySem PySem.Spec PyProof.Rows
section
variable {X : Cx} (K : PySem.W.Frag)
theorem ix_listK (h : X.K = K := by rfl) : IxR X (rIxL K) := by subst h; exact ix_list
theorem sl_listK (h : X.K = K := by rfl) : SlR X (rSlL K) := by subst h; exact sl_list
def rLen (K : PySem.W.Frag) : List V → Hp → VK → Prop := fun xs H Q => ∃ p ys, xs = [.ref p] ∧ (SqL K H p ys ∨ SqT K H p ys) ∧ Q (.int ys.length) H
theorem call_lenK (h : X.K = K := by rfl) : CallR X (.builtin "len") (rLen K) := by subst h; exact call_len_seq
def rListOf (K : PySem.W.Frag) : List V → Hp → VK → Prop := fun xs H Q => ∃ p ys, xs = [.ref p] ∧ (SqL K H p ys ∨ SqT K H p ys) ∧ ∀ l, H l = none → Q (.ref l) (upd H l (.lst ys))
def rTupOf (K : PySem.W.Frag) : List V → Hp → VK → Prop := fun xs H Q => ∃ p ys, xs = [.ref p] ∧ ((SqL K H p ys ∧ ∀ l, H l = none → Q (.ref l) (upd H l (.tup ys))) ∨ (SqT K H p ys ∧ Q (.ref p) H))
def rAny (K : PySem.W.Frag) : List V → Hp → VK → Prop := fun xs H Q => ∃ (p : Addr) (bs : List Bool), xs = [.ref p] ∧ SqL K H p (bs.map V.bl) ∧ Q (.bl (bs.any id)) H
def rAll (K : PySem.W.Frag) : List V → Hp → VK → Prop := fun xs H Q => ∃ (p : Addr) (bs : List Bool), xs = [.ref p] ∧ SqL K H p (bs.map V.bl) ∧ Q (.bl (bs.all id)) H
def rIsI (K : PySem.W.Frag) : List V → Hp → VK → Prop := fun xs H Q => ∃ x c t b, xs = [x, c] ∧ (∃ n, c = .ty n) ∧ TyOf K H x t ∧ PySem.W.kitOne K t (clsV c) = some b ∧ Q (.bl b) H
theorem pi_listK {tg l : Expr} {tl : TE} (hl : PE X l tl) (h : X.K = K := by rfl) : PI X tg l (iList K tl) := by subst h; exact pi_list hl
def tTru (K : PySem.W.Frag) (ta : TE) : TT := fun σ H Q => ta σ H fun x H' => ∃ k, TruV K x H' k ∧ Q k H'
theorem pg_tupK {es : List Expr} {k : Nat} {t : TGs} {n : Nat} {pos : Pos} (hc : X.calm = true) (hg : PGs X es t)
    (hn : (assignEach es X.env).length = n := by rfl) (hst : (assignEach es X.env).findIdx? (·.1) = none := by rfl) (h : X.K = K := by rfl) : PG X (.Tuple es k pos) (gTup K n t) := by
  subst h; exact pg_tup hc hg hn hst
theorem pe_fldK {e : Expr} {ta : TE} {f : Str} {pos : Pos} (he : PE X e ta) (hb : attributeBase e f X.env (eval e X.env) = eval e X.env := by rfl) (h : X.K = K := by rfl) : PE X (.Attribute e f pos) (tFld K ta f) := by subst h; exact pe_fld he hb
end
end L2
/-! The forms of a comprehension that one uses. -/
namespace L2
open PySem PySem.Spec PyProof.Rows

/-- what tComp asks of an iterator -/
def CompW (n : Nat) (js : List Nat) (g : TG) (tc : TT) (te : TE) (σ : St) (Q : VK) (J : It) (H1 : Hp) : Prop :=
  ∀ D, H1 D = none → ∃ W : Nat → Nat → List V → Hp → Prop, (∃ m, W 0 m [] (upd H1 D (.lst []))) ∧ ∀ i m acc H, W i m acc H →
    H D = some (.lst acc) ∧ ((J.stop i H ∧ Q (.ref D) H) ∨ (J.go i H ∧ acc.length < sizeLine ∧ ∃ Nx : List V → Hp → Prop, (∀ acc' H', Nx acc' H' → ∃ m', m' < m ∧ W (i + 1) m' acc' H') ∧
      ∀ x H', J.yld i H x H' → g x (cSt n js σ) H' fun σ2 H2 => σ2.drop n = (cSt n js σ).drop n ∧ tc σ2 H2 fun b H3 => if b = true then te σ2 H3 fun v H4 => H4 D = some (.lst acc) ∧ Nx (acc ++ [v]) (upd H4 D (.lst (acc ++ [v]))) else H3 D = some (.lst acc) ∧ Nx acc H3))
section
variable {n : Nat} {js : List Nat} {g : TG} {tc : TT} {te : TE} {σ : St} {Q : VK} {H1 : Hp}
/-- over a list that stays -/
theorem comp_list {K : PySem.W.Frag} {a : Addr} {xs : List V} (hz : xs.length ≤ sizeLine) (Pv : Addr → Nat → List V → Hp → Prop) (h0 : ∀ D, H1 D = none → Pv D 0 [] (upd H1 D (.lst [])))
    (hl : ∀ D i acc H, H1 D = none → i ≤ xs.length → Pv D i acc H → H D = some (.lst acc) ∧ SqL K H a xs ∧ acc.length ≤ i)
    (hs : ∀ D i x acc H, H1 D = none → xs[i]? = some x → Pv D i acc H → g x (cSt n js σ) H fun σ2 H2 => σ2.drop n = (cSt n js σ).drop n ∧ tc σ2 H2 fun b H3 => if b = true then te σ2 H3 fun v H4 => H4 D = some (.lst acc) ∧ Pv D (i + 1) (acc ++ [v]) (upd H4 D (.lst (acc ++ [v]))) else H3 D = some (.lst acc) ∧ Pv D (i + 1) acc H3)
    (hd : ∀ D acc H, H1 D = none → Pv D xs.length acc H → Q (.ref D) H) : CompW n js g tc te σ Q (Itl K a) H1 := by
  intro D hD
  refine ⟨fun i m acc H => m = xs.length - i ∧ i ≤ xs.length ∧ Pv D i acc H, ⟨xs.length, by simp, Nat.zero_le _, h0 D hD⟩, ?_⟩
  rintro i m acc H ⟨rfl, hi, p⟩
  obtain ⟨e1, q, e3⟩ := hl D i acc H hD hi p
  refine ⟨e1, ?_⟩
  by_cases hlt : i < xs.length
  · refine .inr ⟨⟨xs, xs[i], q, by simp [hlt]⟩, by omega, Pv D (i + 1), fun acc' H' p' => ⟨xs.length - (i + 1), by omega, rfl, hlt, p'⟩, fun x H' y => ?_⟩
    obtain ⟨e, y⟩ := y
    subst e
    exact hs D i x acc _ hD (y xs q) p
  · have e : i = xs.length := by omega
    subst e
    exact .inl ⟨⟨xs, q, Nat.le_refl _⟩, hd D acc H hD p⟩
/-- over a range -/
theorem comp_range {lo : Int} {m : Nat} (hz : m ≤ sizeLine) (Pv : Addr → Nat → List V → Hp → Prop) (h0 : ∀ D, H1 D = none → Pv D 0 [] (upd H1 D (.lst [])))
    (hl : ∀ D i acc H, H1 D = none → i ≤ m → Pv D i acc H → H D = some (.lst acc) ∧ acc.length ≤ i)
    (hs : ∀ D i acc H, H1 D = none → i < m → Pv D i acc H → g (.int (lo + i)) (cSt n js σ) H fun σ2 H2 => σ2.drop n = (cSt n js σ).drop n ∧ tc σ2 H2 fun b H3 => if b = true then te σ2 H3 fun v H4 => H4 D = some (.lst acc) ∧ Pv D (i + 1) (acc ++ [v]) (upd H4 D (.lst (acc ++ [v]))) else H3 D = some (.lst acc) ∧ Pv D (i + 1) acc H3)
    (hd : ∀ D acc H, H1 D = none → Pv D m acc H → Q (.ref D) H) : CompW n js g tc te σ Q (Itr lo m) H1 := by
  intro D hD
  refine ⟨fun i k acc H => k = m - i ∧ i ≤ m ∧ Pv D i acc H, ⟨m, by simp, Nat.zero_le _, h0 D hD⟩, ?_⟩
  rintro i k acc H ⟨rfl, hi, p⟩
  obtain ⟨e1, e3⟩ := hl D i acc H hD hi p
  refine ⟨e1, ?_⟩
  by_cases hlt : i < m
  · refine .inr ⟨hlt, by omega, Pv D (i + 1), fun acc' H' p' => ⟨m - (i + 1), by omega, rfl, hlt, p'⟩, fun x H' y => ?_⟩
    obtain ⟨e, y⟩ := y
    subst e y
    exact hs D i acc _ hD hlt p
  · have e : i = m := by omega
    subst e
    exact .inl ⟨Nat.le_refl _, hd D acc H hD p⟩

theorem Same.upd_new {H : Hp} {a : Addr} {o : HO} (h : H a = none) : Same H (upd H a o) := fun b u e => by
  rw [upd_ne (ne_of_none e h)]
  exact e
theorem Same.upd {H0 H : Hp} {a : Addr} {o : HO} (e : Same H0 H) (h : H0 a = none) : Same H0 (upd H a o) := fun b u q => by
  rw [upd_ne (ne_of_none q h)]
  exact e b u q
theorem gName_mono (i : Nat) : ∀ (x : V) (σ : St) (H : Hp) (P P' : St → Hp → Prop), (∀ σ2 H2, P σ2 H2 → P' σ2 H2) → gName i x σ H P → gName i x σ H P' := fun _ _ _ _ _ h q => h _ _ q
end

/-! ### readings in short, for simp -/
theorem cxOf_K {CX : CXT} {P : Program} {w : World} {K : PySem.W.Frag} {mg : Str → Option Value} {base : Heap} {N : List Str} {qual : Str} {scope : Scope} {f : Addr} {cd : Value} {A : Around} {outer : List Env} {s : Shared} {H : Hp} {E : XK} :
    (cxOf CX P w K mg base N qual scope f cd A outer s H E).K = K := rfl
theorem cxC_K {X : Cx} {scope : Scope} {N' : List Str} {C : Addr} {fp : List Addr} {s : Shared} {H : Hp} : (cxC X scope N' C fp s H).K = X.K := rfl
theorem upd_none {H : Hp} {p a : Addr} {o : HO} (h : upd H p o a = none) : a ≠ p ∧ H a = none := by
  unfold upd at h
  split at h
  · cases h
  · rename_i z; exact ⟨z, h⟩
section
variable {H : Hp} {Q : VK} {i j : Int} {b c : Bool} {x y : Str}
theorem rEq_ii : rEq (.int i) (.int j) H Q = Q (.bl (decide (i = j))) H := by simp [rEq, scal]
theorem rNe_ii : rNe (.int i) (.int j) H Q = Q (.bl (!decide (i = j))) H := by simp [rNe, scal]
theorem rEq_bb : rEq (.bl b) (.bl c) H Q = Q (.bl (decide (b = c))) H := by simp [rEq, scal]
theorem rNe_bb : rNe (.bl b) (.bl c) H Q = Q (.bl (!decide (b = c))) H := by simp [rNe, scal]
theorem cmul_mod {a m b : Int} (h0 : 0 < m) (h1 : m ≤ 2147483648) : CMul (a % m) b := by
  have h2 := Int.emod_nonneg a (show m ≠ 0 by omega)
  have h3 := Int.emod_lt_of_pos a h0
  exact .inl ⟨by omega, by omega⟩
theorem atI_in {α : Type} {xs : List α} {k : Int} (h0 : 0 ≤ k) (h1 : k < xs.length) : ∃ v, v ∈ xs ∧ atI xs k = some v := by
  obtain ⟨n, rfl⟩ := Int.eq_ofNat_of_zero_le h0
  have hn : n < xs.length := by omega
  exact ⟨xs[n], List.getElem_mem hn, atI_nat (List.getElem?_eq_getElem hn)⟩
end
theorem truV_bl {K : PySem.W.Frag} {H : Hp} {b k : Bool} : TruV K (.bl b) H k = (k = b) := rfl
theorem clsV_ty {n : String} : clsV (.ty n) = .type n := rfl
/-- what tFor asks of an iterator -/
def ForW (g : TG) (tb : TS) (D : Ends) (σ : St) (J : It) (H1 : Hp) : Prop := ∃ W : Nat → Nat → St → Hp → Prop, (∃ m, W 0 m σ H1) ∧ ∀ i m σ H, W i m σ H →
  (J.stop i H ∧ D.nx σ H) ∨ (J.go i H ∧ ∃ N : St → Hp → Prop, (∀ σ' H', N σ' H' → ∃ m', m' < m ∧ W (i + 1) m' σ' H') ∧ ∀ x H', J.yld i H x H' → g x σ H' fun σ2 H2 => tb { D with nx := N, ct := N, bk := D.nx } σ2 H2)
theorem tFor_eq {wi : TI} {g : TG} {tb : TS} {D : Ends} {σ : St} {H : Hp} : tFor wi g tb D σ H = wi σ H fun J H1 => ForW g tb D σ J H1 := rfl
theorem tComp_eq {n : Nat} {js : List Nat} {wi : TI} {g : TG} {tc : TT} {te : TE} {σ : St} {H : Hp} {Q : VK} : tComp n js wi g tc te σ H Q = wi σ H fun J H1 => CompW n js g tc te σ Q J H1 := rfl
/-- what was just made -/
theorem new_same {H H' : Hp} {p : Addr} {o : HO} (h : upd H p o = H') (hp : H p = none) : Same H H' ∧ H' p = some o := by
  subst h
  exact ⟨Same.upd_new hp, upd_same⟩
end L2
/-! Lists of tuples of ints on the abstract heap. -/
namespace L2
open PySem PySem.Spec PyProof.Rows
def TupI (H : Hp) (x : V) (d : List Int) : Prop := ∃ t, x = .ref t ∧ H t = some (.tup (d.map V.int))
abbrev DeedsX (H : Hp) (xs : List V) (ds : List (List Int)) : Prop := Paired (TupI H) xs ds
def DeedsAt (H : Hp) (a : Addr) (ds : List (List Int)) : Prop := ∃ xs, H a = some (.lst xs) ∧ DeedsX H xs ds
def dD (d : List Int) : PyData := .tuple (d.map PyData.int)
section
variable {H H' : Hp} {x : V} {d : List Int} {xs ys : List V} {ds es : List (List Int)} {a : Addr} {o : HO}
theorem paired_append {α β : Type} {F : α → β → Prop} : ∀ {l1 m1 : List α} {l2 m2 : List β}, Paired F l1 l2 → Paired F m1 m2 → Paired F (l1 ++ m1) (l2 ++ m2)
  | _, _, _, _, .nil, s => s
  | _, _, _, _, .cons r t, s => .cons r (paired_append t s)
theorem paired_get {α β : Type} {F : α → β → Prop} : ∀ {l1 : List α} {l2 : List β} {i : Nat} {x : α}, Paired F l1 l2 → l1[i]? = some x → ∃ y, l2[i]? = some y ∧ F x y
  | _, _, _, _, .nil, e => by simp at e
  | _, _, 0, _, .cons r _, e => by simp at e; subst e; exact ⟨_, rfl, r⟩
  | _, _, i + 1, x, .cons _ t, e => by
    obtain ⟨u, h1, h2⟩ := paired_get (i := i) (x := x) t (by simpa using e)
    exact ⟨u, by simpa using h1, h2⟩
/-! equality of such data -/
/-! cuts -/
theorem cutV_map (d : List Int) (lo hi : Option Int) : ∃ e : List Int, cutV (d.map V.int) lo hi = e.map V.int := by
  unfold cutV
  exact ⟨(d.drop (HT.sIx (d.map V.int).length 0 lo)).take (HT.sIx (d.map V.int).length (d.map V.int).length hi - HT.sIx (d.map V.int).length 0 lo), by rw [List.map_take, List.map_drop]⟩
end
end L2
/-! Own classes in short; dicts with written keys; is with a truth. -/
namespace L2
open PySem PySem.Spec PyProof.Rows
/-- the method m of the class at C stands as st -/
def DefM (K : PySem.W.Frag) (C : Addr) (m qual : Str) (st : Stmt) : Prop := ∃ f fd, Meth K C m f ∧ Fun K m qual st f fd
/-- the class's __init__ stands as st, and the class can be made -/
def DefI (K : PySem.W.Frag) (C : Addr) (qual : Str) (st : Stmt) : Prop := ∃ f fd, Mk K C f ∧ Fun K "__init__" qual st f fd
def OwnM (P : Program) (w : World) (K : PySem.W.Frag) (mg : Str → Option Value) (base : Heap) (k : Nat) (C : Addr) (m : Str) (ps : List Str) (sp : Sp) : Prop :=
  ∃ f fd, Meth K C m f ∧ Binds K fd ps [] ∧ FnOk P w K mg base CX0 k f fd ps sp
def OwnI (P : Program) (w : World) (K : PySem.W.Frag) (mg : Str → Option Value) (base : Heap) (k : Nat) (C : Addr) (ps : List Str) (sp : Sp) : Prop :=
  ∃ f fd, Mk K C f ∧ Binds K fd ps [] ∧ FnOk P w K mg base CX0 k f fd ps sp
/-- the class x stands at C; none of it or above it has the names -/
structure ClsD (K : PySem.W.Frag) (mg : Str → Option Value) (x : Str) (C : Addr) (attrs : List Str) : Prop where
  mgC : mg x = some (.ref C)
  cl : Cls K C
  no : ∀ f ∈ attrs, NoAttr K C f
section
variable {P : Program} {w : World} {K : PySem.W.Frag} {mg : Str → Option Value} {base : Heap} {C : Addr} {m qual : Str} {st : Stmt} {N ps : List Str} {k : Nat} {sp : Sp}
theorem DefM.own (D : DefM K C m qual st) (S : FnScope N ps (defScope st))
    (hb : ∀ (kV doc pm : Value) (an : Option Addr) (cdv ct : Value) (us : List Value), us.length = ps.length → bindArgs (PySem.W.fnOf m qual (defArgs st) (defBody st) (defScope st) .none kV doc pm an cdv ct) ⟨us, []⟩ = pure (ps.zip us))
    (len : ∀ vs H Q E, sp vs H Q E → vs.length = ps.length)
    (hbody : ∀ (f : Addr) (cdv : Value) (A : Around) (outer : List Env) (s : Shared) (H : Hp) (vs : List V) (Q : VK) (E : XK), Room k (A.deeper (envOfC qual (defScope st) s.heap.objs.size f cdv)) → sp vs H Q E →
      ∃ t, PSs (cxOf CX0 P w K mg base N qual (defScope st) f cdv A outer s H E).nox (defBody st) t ∧ t { nx := fun _ H' => Q .non H', rt := Q } (start N vs) H) : OwnM P w K mg base (k + 1) C m ps sp := by
  obtain ⟨f, fd, hm, F⟩ := D
  exact ⟨f, fd, hm, F.binds hb, F.ok S len (hbody f)⟩
theorem DefI.own (D : DefI K C qual st) (S : FnScope N ps (defScope st))
    (hb : ∀ (kV doc pm : Value) (an : Option Addr) (cdv ct : Value) (us : List Value), us.length = ps.length → bindArgs (PySem.W.fnOf "__init__" qual (defArgs st) (defBody st) (defScope st) .none kV doc pm an cdv ct) ⟨us, []⟩ = pure (ps.zip us))
    (len : ∀ vs H Q E, sp vs H Q E → vs.length = ps.length)
    (hbody : ∀ (f : Addr) (cdv : Value) (A : Around) (outer : List Env) (s : Shared) (H : Hp) (vs : List V) (Q : VK) (E : XK), Room k (A.deeper (envOfC qual (defScope st) s.heap.objs.size f cdv)) → sp vs H Q E →
      ∃ t, PSs (cxOf CX0 P w K mg base N qual (defScope st) f cdv A outer s H E).nox (defBody st) t ∧ t { nx := fun _ H' => Q .non H', rt := Q } (start N vs) H) : OwnI P w K mg base (k + 1) C ps sp := by
  obtain ⟨f, fd, hm, F⟩ := D
  exact ⟨f, fd, hm, F.binds hb, F.ok S len (hbody f)⟩
theorem defM_mk {f : Addr} {oc : Value} {od an : Option Addr} {osl : Array (Option Value)} {kV doc pm cdv ct : Value} (a : PySem.W.findIn K (.ref C) m = some (some (.ref f))) (i : PySem.W.isFn K (.ref f) = true)
    (l : K.lookup f = some ⟨oc, od, .func (PySem.W.fnOf m qual (defArgs st) (defBody st) (defScope st) .none kV doc pm an cdv ct), osl⟩) (c : PySem.W.codeIn K cdv qual = true) (k : PySem.W.keepIn K (.ref f) = true) : DefM K C m qual st :=
  ⟨f, _, ⟨a, i, k⟩, fun_mk l c k⟩
theorem defI_mk {f : Addr} {oc : Value} {od an : Option Addr} {osl : Array (Option Value)} {kV doc pm cdv ct : Value} (a : PySem.W.findIn K (.ref C) "__init__" = some (some (.ref f))) (i : PySem.W.isFn K (.ref f) = true)
    (l : K.lookup f = some ⟨oc, od, .func (PySem.W.fnOf "__init__" qual (defArgs st) (defBody st) (defScope st) .none kV doc pm an cdv ct), osl⟩) (c : PySem.W.codeIn K cdv qual = true) (k : PySem.W.keepIn K (.ref f) = true)
    (mk : PySem.W.makesIn K C = true) (kc : PySem.W.keepIn K (.ref C) = true) : DefI K C qual st :=
  ⟨f, _, ⟨mk, a, i, kc⟩, fun_mk l c k⟩
end
section
variable {X : Cx} {j k : Nat} {C : Addr} {x m : Str} {ps : List Str} {sp : Sp} {p pos apos : Pos} {o e : Expr} {es : List Expr} {ta : TE} {t : TA}
theorem pe_mth {pl : Sem Bool} (M : OwnM X.prog X.w X.K X.mg X.base j C m ps sp) (c : Cls X.K C) (hr : Room k X.A) (he : PE X o ta) (ha : PA X (e :: es) t) (hk : j ≤ k := by decide)
    (hst : starEach (e :: es) X.env = (false, eval e X.env) :: starEach es X.env := by rfl) (hpl : (backTo pos (starEach es X.env)).any (·.1) = false := by rfl)
    (ht : eval (.Call (.Attribute o m apos) (e :: es) [] pos) X.env = (do
      let ov ← eval o X.env
      standAt apos.atName
      let (f, first) ← holding [ov] (getMethod ov m pl)
      callWith pos f first (backTo pos (starEach (e :: es) X.env)) (backToKw pos (keywordEach [] X.env))) := by rfl) :
    PE X (.Call (.Attribute o m apos) (e :: es) [] pos) (tMeth C m sp [] E0 ta t) := by
  obtain ⟨f, fd, hm, hb, F⟩ := M
  exact pe_meth (pl := pl) he c hm F (hr.mono hk) hb .nil pass0 ha hst hpl ht
theorem pe_mak (M : OwnI X.prog X.w X.K X.mg X.base j C ps sp) (hr : Room k X.A) (hm : X.mg x = some (.ref C)) (ha : PA X (e :: es) t) (hk : j + 1 ≤ k := by decide) (hg : Gl X x := by rfl)
    (hdb : (x == ("__debug__" : Str)) = false := by decide) (he : starEach (e :: es) X.env = (false, eval e X.env) :: starEach es X.env := by rfl) (hpl : (backTo pos (starEach es X.env)).any (·.1) = false := by rfl) :
    PE X (.Call (.Name x p) (e :: es) [] pos) (tMake C sp [] E0 t) := by
  obtain ⟨f, fd, hk', hb, F⟩ := M
  exact pe_make hk' F (hr.mono hk) hg hm hb .nil pass0 ha hdb he hpl
/-- x is True, x is False, of a truth -/
def rIsB : R2 := fun x y H Q => ∃ a b, x = .bl a ∧ y = .bl b ∧ Q (.bl (decide (a = b))) H
def rIsntB : R2 := fun x y H Q => ∃ a b, x = .bl a ∧ y = .bl b ∧ Q (.bl (!decide (a = b))) H
end
/-- a name of the top that holds a known value -/
theorem pe_glb {X : Cx} {x : Str} {v : V} {pos : Pos} (h : ∃ u, X.mg x = some u ∧ RelV v u) (hg : Gl X x := by rfl) (hd : (x == ("__debug__" : Str)) = false := by decide) : PE X (.Name x pos) (tC v) := by
  obtain ⟨u, hm, r⟩ := h
  exact pe_glob hg hm r hd
/-! dicts with written text keys -/
def tDGs (td : TE) (x : Str) : TE := fun σ H Q => td σ H fun d H1 => ∃ a kvs v, d = .ref a ∧ H1 a = some (.dK kvs) ∧ valV kvs (Sum.inr x : Key) = some v ∧ Q v H1
def sDPs (td tv : TE) (x : Str) : TS := fun D σ H => tv σ H fun v H1 => td σ H1 fun d H2 => ∃ a kvs, d = .ref a ∧ H2 a = some (.dK kvs) ∧ kvs.length < sizeLine ∧ D.nx σ (upd H2 a (.dK (putK kvs (Sum.inr x : Key) v)))
section
variable {X : Cx} {o value : Expr} {td tv : TE} {x : Str} {j : Nat} {pos pos' cpos : Pos}
end
theorem glb_mk {K : PySem.W.Frag} {h : Heap} {mg : Str → Option Value} (X : K.In h) (G : h.Ns mainGlobals mg) {x : Str} {i : Int} {t : Tok} (a : PySem.W.nsIn K mainGlobals x = some (some (.int i t))) : ∃ u, mg x = some u ∧ RelV (.int i) u :=
  ⟨_, PySem.W.mg_of X G a, t, rfl⟩
end L2
namespace K04
/-! The mathematics of a list's fairness: over flags, true where a deed has no delay. -/
def Run (c : List Bool) (k : Nat) : Prop := ∃ i, i + k ≤ c.length ∧ ∀ j, j < k → c[i + j]? = some true
def Tail (c : List Bool) (k : Nat) : Prop := k ≤ c.length ∧ ∀ j, j < k → c[c.length - k + j]? = some true

/-- of k places one after another, round and round, none has a delay -/
def Ring (b : List Bool) (k : Nat) : Prop := ∃ st, st < b.length ∧ ∀ j, j < k → b[(st + j) % b.length]? = some true

end K04
/-! Letters, pairs under way, a road, over the abstract heap. -/
namespace L2
open PySem PySem.Spec PyProof.Rows
def optV : Option Int → V
  | some n => .int n
  | none => .non
/-- all but the places of S stays -/
def Keep (S : List Addr) (H H' : Hp) : Prop := ∀ b o, H b = some o → b ∉ S → H' b = some o
section
variable {S T : List Addr} {H H1 H2 : Hp} {a b : Addr} {o : HO}
theorem Keep.refl : Keep S H H := fun _ _ h _ => h
theorem Keep.trans (k : Keep S H H1) (j : Keep S H1 H2) : Keep S H H2 := fun b o h n => j b o (k b o h n) n
theorem Same.keep (s : Same H H1) : Keep S H H1 := fun b o h _ => s b o h
theorem Keep.same (k : Keep S H H1) (s : Same H1 H2) : Keep S H H2 := fun b o h n => s b o (k b o h n)
theorem Keep.mono (k : Keep S H H1) (h : ∀ b ∈ S, b ∈ T) : Keep T H H1 := fun b o e n => k b o e fun z => n (h b z)
theorem Keep.upd (k : Keep S H H1) (h : a ∈ S ∨ H a = none) : Keep S H (upd H1 a o) := fun b u e n => by
  rw [upd_ne]
  · exact k b u e n
  · rintro rfl
    rcases h with z | z
    · exact n z
    · rw [z] at e; cases e
theorem Keep.free (k : Keep S H H1) (h : H1 b = none) (hb : b ∉ S) : H b = none := by
  cases e : H b with
  | none => rfl
  | some o => rw [k b o e hb] at h; cases h
end
/-- a letter and what it says -/
inductive LetV (H : Hp) : V → PyData → Prop
  | str {t : Str} (ok : PyData.strOk t = true) : LetV H (.str t) (.str t)
  | int (n : Int) : LetV H (.int n) (.int n)
  | lst {p : Addr} {n : Int} : H p = some (.lst [.int n]) → LetV H (.ref p) (.list [.int n])
  | tup {p : Addr} {t : Str} {n : Int} (ok : PyData.strOk t = true) : H p = some (.tup [.str t, .int n]) → LetV H (.ref p) (.tuple [.str t, .int n])
theorem strOk_of (x : String) : PyData.strOk (Str.ofString x) = true := by
  rw [Str.ofString_eq_toList]
  unfold PyData.strOk
  rw [Array.all_eq_true_iff_forall_mem]
  intro c hc
  rw [List.mem_toArray, List.mem_map] at hc
  obtain ⟨a, _, rfl⟩ := hc
  refine decide_eq_true ?_
  rcases a.valid with h | h
  · exact Nat.lt_of_lt_of_le h (by decide)
  · exact h.2
theorem strOk_app {a b : Str} (h1 : PyData.strOk a = true) (h2 : PyData.strOk b = true) : PyData.strOk (a ++ b) = true := by
  unfold PyData.strOk at *
  have e : (a ++ b).cps = a.cps ++ b.cps := rfl
  rw [e, Array.all_append, h1, h2]
  rfl
/-- no letter lies here -/
def Soft (H : Hp) (b : Addr) : Prop := (∀ xs, H b ≠ some (.tup xs)) ∧ ∀ n, H b ≠ some (.lst [.int n])
section
variable {S : List Addr} {H H' : Hp} {x : V} {d : PyData} {b : Addr}
end
def LetsX (H : Hp) (zs : List V) (qs : List PyData) : Prop := Paired (LetV H) zs qs
section
variable {S : List Addr} {H H' : Hp}
end
/-- a pair of a turn and a letter -/
def PairV (H : Hp) (x : V) (p : Int × PyData) : Prop := ∃ t y, x = .ref t ∧ H t = some (.tup [.int p.1, y]) ∧ LetV H y p.2
def PairsX (H : Hp) (xs : List V) (us : List (Int × PyData)) : Prop := Paired (PairV H) xs us
section
variable {S : List Addr} {H H' : Hp} {xs : List V} {us : List (Int × PyData)} {b : Addr}
end
/-- the delays of what is sent in turn z -/
def del (ds : List (List Int)) (z : Int) : List Int := if ds = [] then [1] else ds.getD (z.toNat % ds.length) []
/-! ### a road -/
def rf (l : Addr) (ls la : Option Int) (u : Addr) : List (Str × V) := [("deeds", .ref l), ("last_sent", optV ls), ("last_asked", optV la), ("underway", .ref u)]
section
variable {l u : Addr} {ls la : Option Int}
end
structure RoadAt (C : Addr) (H : Hp) (x dx l u : Addr) (ds : List (List Int)) (ls la : Option Int) (us : List (Int × PyData)) : Prop where
  ins : H x = some (.ins C dx (rf l ls la u))
  deeds : DeedsAt H l ds
  und : ∃ xs, H u = some (.lst xs) ∧ PairsX H xs us
  ne : l ≠ u
section
variable {S : List Addr} {C : Addr} {H H' : Hp} {x dx l u : Addr} {ds : List (List Int)} {ls la : Option Int} {us : List (Int × PyData)}
end
/-! ### what isinstance tells of a letter -/
end L2
namespace L2
open PySem PySem.Spec PyProof.Rows
theorem Same.seqT {K : PySem.W.Frag} {H H' : Hp} {a : Addr} {xs : List V} (e : Same H H') (h : SqT K H a xs) : SqT K H' a xs := by
  rcases h with h | h
  · rcases h with h | ⟨o, h⟩
    · exact .inl (.inl (e _ _ h))
    · exact .inl (.inr ⟨o, e _ _ h⟩)
  · exact .inr h
end L2
/-! Data that cannot change: numbers, texts, tuples of such. -/
namespace L2
open PySem PySem.Spec PyProof.Rows
mutual
inductive Im (H : Hp) : V → PyData → Prop
  | non : Im H .non .none
  | bl (b : Bool) : Im H (.bl b) (.bool b)
  | int (n : Int) : Im H (.int n) (.int n)
  | str {t : Str} (ok : PyData.strOk t = true) : Im H (.str t) (.str t)
  | tup {p : Addr} {xs : List V} {ds : List PyData} : H p = some (.tup xs) → Ims H xs ds → xs.length ≤ 1000 → Im H (.ref p) (.tuple ds)
inductive Ims (H : Hp) : List V → List PyData → Prop
  | nil : Ims H [] []
  | cons {x : V} {xs : List V} {d : PyData} {ds : List PyData} : Im H x d → Ims H xs ds → Ims H (x :: xs) (d :: ds)
end
/-- no tuple lies here -/
def NoT (H : Hp) (b : Addr) : Prop := ∀ xs, H b ≠ some (.tup xs)
section
variable {S : List Addr} {H H' : Hp} {b : Addr}
theorem NoT.of_ins {C dx : Addr} {fs : List (Str × V)} (h : H b = some (.ins C dx fs)) : NoT H b := fun xs e => by rw [h] at e; cases e
theorem NoT.of_lst {xs : List V} (h : H b = some (.lst xs)) : NoT H b := fun xs e => by rw [h] at e; cases e
theorem NoT.of_dK {kvs : List (Key × V)} (h : H b = some (.dK kvs)) : NoT H b := fun xs e => by rw [h] at e; cases e
mutual
theorem Im.keep (k : Keep S H H') (hs : ∀ b ∈ S, NoT H b) : ∀ {x : V} {d : PyData}, Im H x d → Im H' x d
  | _, _, .non => .non
  | _, _, .bl b => .bl b
  | _, _, .int n => .int n
  | _, _, .str ok => .str ok
  | _, _, .tup h hx hl => .tup (k _ _ h fun z => hs _ z _ h) (Ims.keep k hs hx) hl
theorem Ims.keep (k : Keep S H H') (hs : ∀ b ∈ S, NoT H b) : ∀ {xs : List V} {ds : List PyData}, Ims H xs ds → Ims H' xs ds
  | _, _, .nil => .nil
  | _, _, .cons r t => .cons (Im.keep k hs r) (Ims.keep k hs t)
end
theorem Im.same (s : Same H H') {x : V} {d : PyData} (h : Im H x d) : Im H' x d := h.keep (S := []) s.keep (fun _ z => nomatch z)
theorem Ims.same (s : Same H H') {xs : List V} {ds : List PyData} (h : Ims H xs ds) : Ims H' xs ds := h.keep (S := []) s.keep (fun _ z => nomatch z)
mutual
theorem Im.has {K : PySem.W.Frag} : ∀ {x : V} {d : PyData}, Im H x d → Has K H x d
  | _, _, .non => .non
  | _, _, .bl b => .bl b
  | _, _, .int n => .int n
  | _, _, .str _ => .str _
  | _, _, .tup h hx _ => .tup (SqT.of h) (Ims.has hx)
theorem Ims.has {K : PySem.W.Frag} : ∀ {xs : List V} {ds : List PyData}, Ims H xs ds → HasAll K H xs ds
  | _, _, .nil => .nil
  | _, _, .cons r t => .cons (Im.has r) (Ims.has t)
end
mutual
theorem Im.refl : ∀ {x : V} {d : PyData}, Im H x d → PyData.eqv d d = true
  | _, _, .non => by simp [PyData.eqv]
  | _, _, .bl b => by simp [PyData.eqv]
  | _, _, .int n => by simp [PyData.eqv]
  | _, _, .str _ => by simp [PyData.eqv]
  | _, _, .tup _ hx _ => by rw [PyData.eqv]; exact Ims.refl hx
theorem Ims.refl : ∀ {xs : List V} {ds : List PyData}, Ims H xs ds → PyData.eqvAll ds ds = true
  | _, _, .nil => by simp [PyData.eqvAll]
  | _, _, .cons r t => by rw [PyData.eqvAll, Im.refl r, Ims.refl t]; rfl
end
mutual
theorem Im.lay : ∀ {x : V} {d : PyData}, Im H x d → PyData.canLay0 d = true
  | _, _, .non => by simp [PyData.canLay0]
  | _, _, .bl b => by simp [PyData.canLay0]
  | _, _, .int n => by simp [PyData.canLay0]
  | _, _, .str ok => by simp [PyData.canLay0, ok]
  | _, _, .tup _ hx _ => by rw [PyData.canLay0]; exact Ims.lay hx
theorem Ims.lay : ∀ {xs : List V} {ds : List PyData}, Ims H xs ds → PyData.canLayAll0 ds = true
  | _, _, .nil => by simp [PyData.canLayAll0]
  | _, _, .cons r t => by rw [PyData.canLayAll0, Im.lay r, Ims.lay t]; rfl
end
theorem Ims.app : ∀ {xs ys : List V} {ds es : List PyData}, Ims H xs ds → Ims H ys es → Ims H (xs ++ ys) (ds ++ es)
  | _, _, _, _, .nil, s => s
  | _, _, _, _, .cons r t, s => .cons r (Ims.app t s)
theorem Ims.take : ∀ {xs : List V} {ds : List PyData} (n : Nat), Ims H xs ds → Ims H (xs.take n) (ds.take n)
  | _, _, 0, _ => by simp only [List.take_zero]; exact .nil
  | _, _, _ + 1, .nil => .nil
  | _, _, n + 1, .cons r t => .cons r (Ims.take n t)
theorem Ims.one {x : V} {d : PyData} (h : Im H x d) : Ims H [x] [d] := .cons h .nil
theorem shaped_of {d : PyData} (h : PyData.canLay0 d = true) (hd : d.depth ≤ 64) : SeqAt.shaped d = true := by
  unfold SeqAt.shaped
  rw [h, decide_eq_true hd]; rfl
theorem depthAll_le {n : Nat} : ∀ {ds : List PyData}, (∀ d ∈ ds, d.depth ≤ n) → PyData.depthAll ds ≤ n
  | [], _ => Nat.zero_le _
  | d :: ds, h => by
    rw [PyData.depthAll]
    exact Nat.max_le.mpr ⟨h d (.head _), depthAll_le fun e he => h e (.tail _ he)⟩
end
/-! ### sum of a list of numbers -/
theorem ints_vals : ∀ {ns : List Int} {us : List Value}, Vals (ns.map V.int) us → IntsAre us ns
  | [], _, .nil => .nil
  | _ :: _, _, .cons ⟨_, rfl⟩ r => .cons _ _ (ints_vals r)
section
variable {X : Cx}
end
section
variable {X : Cx} {j k : Nat} {C : Addr} {x m : Str} {ps : List Str} {sp : Sp} {p pos apos : Pos} {o : Expr} {ta : TE}
theorem pe_mth0 {pl : Sem Bool} (M : OwnM X.prog X.w X.K X.mg X.base j C m ps sp) (c : Cls X.K C) (hr : Room k X.A) (he : PE X o ta) (hk : j ≤ k := by decide)
    (ht : eval (.Call (.Attribute o m apos) [] [] pos) X.env = (do
      let ov ← eval o X.env
      standAt apos.atName
      let (f, first) ← holding [ov] (getMethod ov m pl)
      callWith pos f first (backTo pos (starEach [] X.env)) (backToKw pos (keywordEach [] X.env))) := by rfl) :
    PE X (.Call (.Attribute o m apos) [] [] pos) (tMeth C m sp [] E0 ta tNil) := by
  obtain ⟨f, fd, hm, hb, F⟩ := M
  exact pe_meth0 (pl := pl) he c hm F (hr.mono hk) hb .nil pass0 ht
end
/-! ### numbered parcels -/
/-- a pair of a number and a parcel -/
def pd (p : Int × PyData) : PyData := .tuple [.int p.1, p.2]
section
variable {S : List Addr} {H H' : Hp}
end
/-- what the taker does with a pair -/
def tk (s : Int × List PyData) (p : Int × PyData) : Int × List PyData := if p.1 = s.1 then (s.1 + 1, s.2 ++ [p.2]) else s
end L2
/-! Readings that may be weakened: what while_by asks of a test. -/
namespace L2
open PySem PySem.Spec PyProof.Rows
def MonE (t : TE) : Prop := ∀ σ H (Q Q' : VK), (∀ v H1, Q v H1 → Q' v H1) → t σ H Q → t σ H Q'
def MonR (r : R2) : Prop := ∀ x y H (Q Q' : VK), (∀ v H1, Q v H1 → Q' v H1) → r x y H Q → r x y H Q'
def MonT (c : TT) : Prop := ∀ σ H (Q Q' : Bool → Hp → Prop), (∀ b H1, Q b H1 → Q' b H1) → c σ H Q → c σ H Q'
theorem mon_var {i : Nat} : MonE (tVar i) := fun _ _ _ _ h ⟨v, e, q⟩ => ⟨v, e, h _ _ q⟩
theorem mon_op {r : R2} {a b : TE} (hr : MonR r) (ha : MonE a) (hb : MonE b) : MonE (tOp r a b) := fun σ H _ _ h z => ha σ H _ _ (fun x H1 z1 => hb σ H1 _ _ (fun y H2 z2 => hr x y H2 _ _ h z2) z1) z
theorem mon_test {t : TE} (ht : MonE t) : MonT (tTest t) := fun σ H _ _ h z => ht σ H _ _ (fun x H1 ⟨k, e, q⟩ => ⟨k, e, h _ _ q⟩) z
/-! ### a list and another one, both only read -/
section
variable {X : Cx}
end
end L2
/-! Readings by what stands at an address itself: they run by simp alone. -/
namespace L2
open PySem PySem.Spec PyProof.Rows
section
variable {X : Cx}
theorem OpR.weak {f : Value → Value → Sem Value} {r r' : R2} (h : OpR X f r) (w : ∀ x y H Q, r' x y H Q → r x y H Q) : OpR X f r' :=
  fun pins s σ H x y v u Q I rx ry q => h pins s σ H x y v u Q I rx ry (w _ _ _ _ q)
theorem CallR.weak {f : Value} {r r' : List V → Hp → VK → Prop} (h : CallR X f r) (w : ∀ xs H Q, r' xs H Q → r xs H Q) : CallR X f r' :=
  fun pins s σ H xs us Q I rs q => h pins s σ H xs us Q I rs (w _ _ _ q)
theorem SlR.weak {r r' : V → Option Int → Option Int → Hp → VK → Prop} (h : SlR X r) (w : ∀ x l u H Q, r' x l u H Q → r x l u H Q) : SlR X r' :=
  fun pins s σ H x v vl vu lo hi sl Q I rx hs pl pu q => h pins s σ H x v vl vu lo hi sl Q I rx hs pl pu (w _ _ _ _ _ q)

/-! ### a subscript -/
def getO : HO → V → Option V
  | .lst xs, .int i => atI xs i
  | .tup xs, .int i => atI xs i
  | .dK kvs, .int i => valV kvs (Sum.inl i)
  | .dK kvs, .str x => valV kvs (Sum.inr x)
  | _, _ => none
theorem getO_l {xs : List V} {i : Int} : getO (.lst xs) (.int i) = atI xs i := rfl
theorem getO_t {xs : List V} {i : Int} : getO (.tup xs) (.int i) = atI xs i := rfl
theorem getO_di {kvs : List (Key × V)} {i : Int} : getO (.dK kvs) (.int i) = valV kvs (Sum.inl i) := rfl
def rGet : R2 := fun x y H Q => ∃ p o v, x = .ref p ∧ H p = some o ∧ getO o y = some v ∧ Q v H
theorem ix_dict (hu : X.A.units + 1 < cLine) : IxR X (fun x y H Q => ∃ a v, x = .ref a ∧ DGet H a y (some v) ∧ Q v H) := by
  intro value slice pins s σ H x y v u Q I rx ry h hs
  obtain ⟨a, z, rfl, g, q⟩ := h
  cases rx
  exact tail_any (dict_typeIs I g) PySem.F.slot_dict_getitem.lookup (d_getItem hu I g ry fun w' s3 I3 rw' => ⟨z, H, I3, rw', q⟩) hs
theorem ix_get (hu : X.A.units + 1 < cLine) : IxR X rGet := by
  intro value slice pins s σ H x y v u Q I rx ry h hs
  obtain ⟨p, o, z, rfl, e, g, q⟩ := h
  cases o with
  | lst xs => cases y <;> first | exact ix_list value slice pins s σ H _ _ v u Q I rx ry ⟨p, xs, _, z, rfl, rfl, SqL.of e, g, q⟩ hs | cases g
  | tup xs => cases y <;> first | exact ix_tup value slice pins s σ H _ _ v u Q I rx ry ⟨p, xs, _, z, rfl, rfl, SqT.of e, g, q⟩ hs | cases g
  | dK kvs =>
    cases y with
    | int i => exact ix_dict hu value slice pins s σ H _ _ v u Q I rx ry ⟨p, z, rfl, .inl ⟨kvs, Sum.inl i, .inl e, rfl, g.symm⟩, q⟩ hs
    | str x => exact ix_dict hu value slice pins s σ H _ _ v u Q I rx ry ⟨p, z, rfl, .inl ⟨kvs, Sum.inr x, .inl e, rfl, g.symm⟩, q⟩ hs
    | _ => cases g
  | _ => cases y <;> cases g

/-! ### len -/
def lenO : HO → Option Nat
  | .lst xs => some xs.length
  | .tup xs => some xs.length
  | .dK kvs => some kvs.length
  | _ => none
def lenX (H : Hp) : V → Option Nat
  | .ref p => (H p).bind lenO
  | .str z => if z.length ≤ sizeLine then some z.length else none
  | _ => none
theorem lenX_r {H : Hp} {p : Addr} : lenX H (.ref p) = (H p).bind lenO := rfl
theorem lenO_l {xs : List V} : lenO (.lst xs) = some xs.length := rfl
theorem lenO_t {xs : List V} : lenO (.tup xs) = some xs.length := rfl
def rLenX : List V → Hp → VK → Prop := fun xs H Q => ∃ x n, xs = [x] ∧ lenX H x = some n ∧ Q (.int n) H
theorem call_lenX : CallR X (.builtin "len") rLenX := by
  intro pins s σ H xs us Q I r h
  obtain ⟨x, n, rfl, g, q⟩ := h
  cases x with
  | ref p =>
    cases e : H p with
    | none => rw [lenX_r, e] at g; cases g
    | some o =>
      rw [lenX_r, e] at g
      cases o with
      | lst xs => cases g; exact call_len_seq pins s σ H _ us Q I r ⟨p, xs, rfl, .inl (SqL.of e), q⟩
      | tup xs => cases g; exact call_len_seq pins s σ H _ us Q I r ⟨p, xs, rfl, .inr (SqT.of e), q⟩
      | dK kvs =>
        cases g
        obtain ⟨u, rfl, rx⟩ := vals1 r
        cases rx
        exact d_len I (.inl e) fun t s' I' => ⟨.int _, H, I', ⟨t, rfl⟩, q⟩
      | _ => cases g
  | str z =>
    have g' : (if z.length ≤ sizeLine then some z.length else none) = some n := g
    split at g'
    · cases g'
      rename_i hz
      exact call_len_str pins s σ H _ us Q I r ⟨z, rfl, hz, q⟩
    · cases g'
  | _ => cases g

/-! ### truth -/
def truO : HO → Option Bool
  | .lst xs => some (!xs.isEmpty)
  | .tup xs => some (!xs.isEmpty)
  | .dK kvs => some (!kvs.isEmpty)
  | _ => none
def truX (H : Hp) : V → Option Bool
  | .non => some false
  | .bl b => some b
  | .int i => some (i != 0)
  | .ref p => (H p).bind truO
  | _ => none
theorem truX_b {H : Hp} {b : Bool} : truX H (.bl b) = some b := rfl
theorem truX_r {H : Hp} {p : Addr} : truX H (.ref p) = (H p).bind truO := rfl
def tTruX (ta : TE) : TT := fun σ H Q => ta σ H fun x H' => ∃ k, truX H' x = some k ∧ Q k H'
theorem tru_x : TruR X (fun x H Q => ∃ k, truX H x = some k ∧ Q k H) := by
  intro pins s σ H x v Q I rx h
  obtain ⟨k, g, q⟩ := h
  refine tru_ok pins s σ H x v Q I rx ⟨k, ?_, q⟩
  cases x with
  | non => cases g; rfl
  | bl b => cases g; rfl
  | int i => cases g; rfl
  | ref p =>
    cases e : H p with
    | none => rw [truX_r, e] at g; cases g
    | some o =>
      rw [truX_r, e] at g
      cases o with
      | lst xs => cases g; exact .inl ⟨xs, SqL.of e, rfl⟩
      | tup xs => cases g; exact .inr (.inl ⟨xs, SqT.of e, rfl⟩)
      | dK kvs => cases g; exact .inr (.inr ⟨kvs, e, rfl⟩)
      | _ => cases g
  | _ => cases g
theorem pt_truX {a : Expr} {ta : TE} (ha : PE X a ta) (he : ∀ whole, isTrue a X.env whole = (do let v ← whole; standAt a.pos; holding [v] (truthy v)) := by intro _; rfl) : PT X a (tTruX ta) := by
  intro pins s σ H Q I h
  exact isTrue_plain (thn (ha pins s σ H _ I h) fun v s1 ⟨x, H1, I1, r1, q1⟩ => tru_x pins s1 σ H1 x v Q I1 r1 q1) (he _)

/-! ### in, not in -/
def inO : HO → V → Option Bool
  | .lst xs, x => if flatV x = true ∧ xs.all flatV = true then some (inV x xs) else none
  | .tup xs, x => if flatV x = true ∧ xs.all flatV = true then some (inV x xs) else none
  | .dK kvs, .int i => some (valV kvs (Sum.inl i)).isSome
  | .dK kvs, .str z => some (valV kvs (Sum.inr z)).isSome
  | _, _ => none
theorem inO_di {kvs : List (Key × V)} {i : Int} : inO (.dK kvs) (.int i) = some (valV kvs (Sum.inl i)).isSome := rfl
def rInX : R2 := fun x y H Q => ∃ p o b, y = .ref p ∧ H p = some o ∧ inO o x = some b ∧ Q (.bl b) H
theorem op_inX (hu : X.A.units + 1 < cLine) : OpR X (compareOp .In) rInX := by
  intro pins s σ H x y v u Q I rx ry h
  obtain ⟨p, o, b, rfl, e, g, q⟩ := h
  cases o with
  | lst xs =>
    have g' : (if flatV x = true ∧ xs.all flatV = true then some (inV x xs) else none) = some b := g
    split at g'
    · rename_i hz
      cases g'
      exact op_in_seq pins s σ H _ _ v u Q I rx ry ⟨p, xs, rfl, .inl (SqL.of e), hz.1, hz.2, q⟩
    · cases g'
  | tup xs =>
    have g' : (if flatV x = true ∧ xs.all flatV = true then some (inV x xs) else none) = some b := g
    split at g'
    · rename_i hz
      cases g'
      exact op_in_seq pins s σ H _ _ v u Q I rx ry ⟨p, xs, rfl, .inr (SqT.of e), hz.1, hz.2, q⟩
    · cases g'
  | dK kvs =>
    cases ry
    cases x with
    | int i => cases g; exact d_in hu I (.inl ⟨kvs, Sum.inl i, .inl e, rfl, rfl⟩) rx fun s' I' => ⟨.bl _, H, I', rfl, q⟩
    | str z => cases g; exact d_in hu I (.inl ⟨kvs, Sum.inr z, .inl e, rfl, rfl⟩) rx fun s' I' => ⟨.bl _, H, I', rfl, q⟩
    | _ => cases g
  | _ => cases x <;> cases g
/-! ### o[i] = v -/
def setO : HO → V → V → Option HO
  | .lst xs, .int k, v => (ixN xs.length k).map fun j => .lst (xs.set j v)
  | .dK kvs, .int i, v => if kvs.length < sizeLine then some (.dK (putK kvs (Sum.inl i) v)) else none
  | .dK kvs, .str z, v => if kvs.length < sizeLine then some (.dK (putK kvs (Sum.inr z) v)) else none
  | _, _, _ => none
theorem setO_l {xs : List V} {k : Int} {v : V} : setO (.lst xs) (.int k) v = (ixN xs.length k).map fun j => .lst (xs.set j v) := rfl
def rSetX : V → V → V → Hp → (Hp → Prop) → Prop := fun o i v H Q => ∃ p ob ob', o = .ref p ∧ H p = some ob ∧ setO ob i v = some ob' ∧ Q (upd H p ob')
theorem set_x (hu : X.A.units + 1 < cLine) : PSet X rSetX := by
  intro pins s σ H o i v ov iv u Q I ro ri rv h
  obtain ⟨p, ob, ob', rfl, e, g, q⟩ := h
  cases ob with
  | lst xs =>
    cases i with
    | int k =>
      cases z : ixN xs.length k with
      | none => rw [setO_l, z] at g; cases g
      | some j =>
        rw [setO_l, z] at g
        cases g
        exact set_list pins s σ H _ _ v ov iv u Q I ro ri rv ⟨p, xs, k, j, rfl, rfl, e, z, q⟩
    | _ => cases g
  | dK kvs =>
    cases ro
    cases i with
    | int k =>
      have g' : (if kvs.length < sizeLine then some (HO.dK (putK kvs (Sum.inl k) v)) else none) = some ob' := g
      split at g'
      · rename_i hz
        cases g'
        exact d_setItem hu I (.inl ⟨kvs, Sum.inl k, e, rfl, hz, rfl⟩) ri rv fun s' I' => ⟨_, I', q⟩
      · cases g'
    | str k =>
      have g' : (if kvs.length < sizeLine then some (HO.dK (putK kvs (Sum.inr k) v)) else none) = some ob' := g
      split at g'
      · rename_i hz
        cases g'
        exact d_setItem hu I (.inl ⟨kvs, Sum.inr k, e, rfl, hz, rfl⟩) ri rv fun s' I' => ⟨_, I', q⟩
      · cases g'
    | _ => cases g
  | _ => cases i <;> cases g

/-! ### slices, list(x), tuple(x) -/
def rSlX : V → Option Int → Option Int → Hp → VK → Prop := fun x lo hi H Q => ∃ a xs, x = .ref a ∧ H a = some (.lst xs) ∧ ∀ p, H p = none → Q (.ref p) (upd H p (.lst (cutV xs lo hi)))
theorem sl_X : SlR X rSlX := sl_list.weak fun _ _ _ _ _ ⟨a, xs, e, h, q⟩ => ⟨a, xs, e, SqL.of h, q⟩
def seqO : HO → Option (List V)
  | .lst xs => some xs
  | .tup xs => some xs
  | _ => none
theorem seqO_l {xs : List V} : seqO (.lst xs) = some xs := rfl
theorem seqO_t {xs : List V} : seqO (.tup xs) = some xs := rfl
/-! ### targets and loops -/
/-! ### equality of scalars, of data -/
/-- data that may be compared -/
def Dt (H : Hp) (v : V) (d : PyData) : Prop := (∀ K : PySem.W.Frag, Has K H v d) ∧ PyData.canLay0 d = true ∧ PyData.eqv d d = true
def Dts (H : Hp) (xs : List V) (ds : List PyData) : Prop := (∀ K : PySem.W.Frag, HasAll K H xs ds) ∧ PyData.canLayAll0 ds = true ∧ PyData.eqvAll ds ds = true
theorem Im.dt {H : Hp} {v : V} {d : PyData} (h : Im H v d) : Dt H v d := ⟨fun _ => h.has, h.lay, h.refl⟩
theorem Ims.dts {H : Hp} {v : List V} {d : List PyData} (h : Ims H v d) : Dts H v d := ⟨fun _ => h.has, h.lay, h.refl⟩
theorem Dt.has {K : PySem.W.Frag} {H : Hp} {v : V} {d : PyData} (h : Dt H v d) : Has K H v d := h.1 K
theorem Dt.lay {H : Hp} {v : V} {d : PyData} (h : Dt H v d) : PyData.canLay0 d = true := h.2.1
theorem Dt.ls {H : Hp} {l : Addr} {xs : List V} {ds : List PyData} (e : H l = some (.lst xs)) (m : Dts H xs ds) : Dt H (.ref l) (.list ds) := ⟨fun K => .lst (SqL.of e) (m.1 K), by rw [PyData.canLay0]; exact m.2.1, by rw [PyData.eqv]; exact m.2.2⟩
theorem Dt.l {H : Hp} {l : Addr} {xs : List V} {ds : List PyData} (e : H l = some (.lst xs)) (m : Ims H xs ds) : Dt H (.ref l) (.list ds) := .ls e m.dts
theorem Dts.nil {H : Hp} : Dts H [] [] := ⟨fun _ => .nil, by simp [PyData.canLayAll0], by simp [PyData.eqvAll]⟩
theorem Dts.cons {H : Hp} {x : V} {xs : List V} {d : PyData} {ds : List PyData} (h : Dt H x d) (t : Dts H xs ds) : Dts H (x :: xs) (d :: ds) :=
  ⟨fun K => .cons (h.1 K) (t.1 K), by rw [PyData.canLayAll0, h.2.1, t.2.1]; rfl, by rw [PyData.eqvAll, h.2.2, t.2.2]; rfl⟩
def rEqX : R2 := fun x y H Q => ∃ d e, Dt H x d ∧ Dt H y e ∧ d.depth ≤ 60 ∧ e.depth ≤ 60 ∧ Q (.bl (PyData.eqv d e)) H
def rNeX : R2 := fun x y H Q => ∃ d e, Dt H x d ∧ Dt H y e ∧ d.depth ≤ 60 ∧ e.depth ≤ 60 ∧ Q (.bl (!PyData.eqv d e)) H
theorem op_eqX (hu : X.A.units + 64 < cLine) : OpR X (compareOp .Eq) rEqX := (op_eqD hu).weak fun _ _ _ _ ⟨d, e, h1, h2, d1, d2, q⟩ => ⟨d, e, h1.has, h2.has, shaped_of h1.lay (by omega), shaped_of h2.lay (by omega), q⟩
theorem op_neX (hu : X.A.units + 64 < cLine) : OpR X (compareOp .NotEq) rNeX := (op_neD hu).weak fun _ _ _ _ ⟨d, e, h1, h2, d1, d2, q⟩ => ⟨d, e, h1.has, h2.has, shaped_of h1.lay (by omega), shaped_of h2.lay (by omega), q⟩

/-! ### methods of a list -/
def tBL (r : V → List V → Hp → VK → Prop) (to : TE) (t : TA) : TE := fun σ H Q => to σ H fun x H1 => ∃ p xs, x = .ref p ∧ H1 p = some (.lst xs) ∧ t σ H1 fun xs H2 => r x xs H2 Q
theorem pe_lm {o e : Expr} {es : List Expr} {to : TE} {t : TA} {name : Str} {apos cpos : Pos} {id : String} {r : V → List V → Hp → VK → Prop}
    (slot : Slot "list" name id) (hty : typeOf (.builtin id) = pure (.type "method_descriptor")) (hm : MtR X id r) (ho : PE X o to) (ha : PA X (e :: es) t)
    (hbase : attributeBase o name X.env (eval o X.env) = eval o X.env := by rfl)
    (hfew : ((backTo cpos (starEach (e :: es) X.env)).all (fun x => !x.1) && (backToKw cpos (keywordEach [] X.env)).all (fun x => x.1.isSome)
      && decide ((e :: es).length + ([] : List Keyword).length + (if ([] : List Keyword).isEmpty then 0 else 1) < 30)) = true := by rfl)
    (hline : (apos.endLine == cpos.line) = true := by rfl) (hs : starEach (e :: es) X.env = (false, eval e X.env) :: starEach es X.env := by rfl) (hplain : (backTo cpos (starEach es X.env)).any (·.1) = false := by rfl) :
    PE X (.Call (.Attribute o name apos) (e :: es) [] cpos) (tBL r to t) := by
  intro pins s σ H Q I h
  refine wpAny_Call_method_late hbase hfew hline rfl (thn (ho pins s σ H _ I h) fun v s1 ⟨x, H1, I1, r1, p, xs, ex, ep, q1⟩ => ?_)
  subst ex
  obtain ⟨h1, h2⟩ := tyV_is I1 r1 (show tyV X.K "list" (.ref p) H1 from .inl ⟨rfl, xs, SqL.of ep⟩)
  refine ⟨"list", id, PySem.F.plainAttrs_list, slot, hty, h1, h2, ?_⟩
  have hA := ha cpos pins s1 σ H1 _ I1 q1
  rw [hs] at hA ⊢
  refine Calls.callWith_builtin (by show (false || (backTo cpos (starEach es X.env)).any (·.1)) = false; rw [hplain] <;> rfl) (Calls.evalArgs_plain ?_)
  exact thn hA fun us s2 ⟨vs, H2, I2, r2, q2⟩ => hm pins s2 σ H2 _ vs v us Q I2 r1 r2 q2
theorem make_same {H H' : Hp} {x dx : Addr} {o1 o2 : HO} (hx : H x = none) (hdx : H dx = none) (k : Keep [x] (upd (upd H dx o1) x o2) H') : Same H H' := fun b o e => by
  have n1 : b ≠ x := ne_of_none e hx
  have n2 : b ≠ dx := ne_of_none e hdx
  exact k b o (by rw [upd_ne n1, upd_ne n2]; exact e) (by simp; exact n1)
theorem upd_of_ne {a b : Addr} (h : b ≠ a) : ∀ (H : Hp) (o : HO), upd H a o b = H b := fun _ _ => upd_ne h
/-! ### a body in parts -/
theorem use1 {t1 R : TS} {D : Ends} {σ : St} {H : Hp} (Pm : St → Hp → Prop) (key : ∀ σ' H', Pm σ' H' → R D σ' H') (go : ∀ R' : TS, (∀ σ' H', Pm σ' H' → R' D σ' H') → tSeq t1 R' D σ H) : tSeq t1 R D σ H := go R key
theorem use2 {t1 t2 R : TS} {D : Ends} {σ : St} {H : Hp} (Pm : St → Hp → Prop) (key : ∀ σ' H', Pm σ' H' → R D σ' H') (go : ∀ R' : TS, (∀ σ' H', Pm σ' H' → R' D σ' H') → tSeq t1 (tSeq t2 R') D σ H) : tSeq t1 (tSeq t2 R) D σ H := go R key
theorem use3 {t1 t2 t3 R : TS} {D : Ends} {σ : St} {H : Hp} (Pm : St → Hp → Prop) (key : ∀ σ' H', Pm σ' H' → R D σ' H') (go : ∀ R' : TS, (∀ σ' H', Pm σ' H' → R' D σ' H') → tSeq t1 (tSeq t2 (tSeq t3 R')) D σ H) : tSeq t1 (tSeq t2 (tSeq t3 R)) D σ H := go R key
theorem use6 {t1 t2 t3 t4 t5 t6 R : TS} {D : Ends} {σ : St} {H : Hp} (Pm : St → Hp → Prop) (key : ∀ σ' H', Pm σ' H' → R D σ' H') (go : ∀ R' : TS, (∀ σ' H', Pm σ' H' → R' D σ' H') → tSeq t1 (tSeq t2 (tSeq t3 (tSeq t4 (tSeq t5 (tSeq t6 R'))))) D σ H) : tSeq t1 (tSeq t2 (tSeq t3 (tSeq t4 (tSeq t5 (tSeq t6 R))))) D σ H := go R key
theorem noT1 {H : Hp} {b : Addr} (h : NoT H b) : ∀ c ∈ [b], NoT H c := fun c hc => by rw [List.mem_singleton] at hc; subst hc; exact h
theorem noT2 {H : Hp} {a b : Addr} (h1 : NoT H a) (h2 : NoT H b) : ∀ c ∈ [a, b], NoT H c := fun c hc => by
  rcases List.mem_cons.mp hc with rfl | hc
  · exact h1
  · rw [List.mem_singleton] at hc; subst hc; exact h2
theorem ixN_20 : ixN 2 0 = some 0 := rfl
theorem ixN_21 : ixN 2 1 = some 1 := rfl
theorem ixN_54 : ixN 5 4 = some 4 := rfl
theorem mon_inX : MonR rInX := fun _ _ _ _ _ h ⟨p, o, b, e1, e2, e3, q⟩ => ⟨p, o, b, e1, e2, e3, h _ _ q⟩
theorem mon_fld {K : PySem.W.Frag} {t : TE} {f : Str} (ht : MonE t) : MonE (tFld K t f) := fun σ H _ _ h z => ht σ H _ _ (fun x H1 ⟨a, C, dx, fs, v, e1, e2, e3, e4, e5, q⟩ => ⟨a, C, dx, fs, v, e1, e2, e3, e4, e5, h _ _ q⟩) z
/-! ### the first branch of an if in parts -/
/-! ### small facts for simp -/
theorem atI_0 {α : Type} {a : α} {l : List α} : atI (a :: l) 0 = some a := by simp [atI, ixN]
theorem atI_1 {α : Type} {a b : α} {l : List α} : atI (a :: b :: l) 1 = some b := by
  simp only [atI, ixN, List.length_cons]
  rw [if_pos (by decide), if_pos (by omega)]
  rfl
theorem atI_2 {α : Type} {a b c : α} {l : List α} : atI (a :: b :: c :: l) 2 = some c := by
  simp only [atI, ixN, List.length_cons]
  rw [if_pos (by decide), if_pos (by omega)]
  rfl
theorem atI_3 {α : Type} {a b c d : α} {l : List α} : atI (a :: b :: c :: d :: l) 3 = some d := by
  simp only [atI, ixN, List.length_cons]
  rw [if_pos (by decide), if_pos (by omega)]
  rfl
theorem atI_nat' {α : Type} {l : List α} {n : Nat} : atI l (n : Int) = l[n]? := by
  unfold atI ixN
  rw [if_pos (by omega)]
  split
  · simp
  · rw [List.getElem?_eq_none (by omega)]; rfl
theorem atI_pos {α : Type} {l : List α} {k : Int} (h0 : 0 ≤ k) : atI l k = l[k.toNat]? := by
  obtain ⟨n, rfl⟩ := Int.eq_ofNat_of_zero_le h0
  exact atI_nat'
theorem eqX_same {H : Hp} {x y : V} {d : PyData} {Q : VK} (h1 : Dt H x d) (h2 : Dt H y d) (hd : d.depth ≤ 60) (q : Q (.bl true) H) : rEqX x y H Q :=
  ⟨d, d, h1, h2, hd, hd, by rw [h1.2.2]; exact q⟩
/-! ### isinstance with a built-in class -/
def tyO : HO → Option String
  | .lst _ => some "list"
  | .tup _ => some "tuple"
  | .dK _ => some "dict"
  | _ => none
def tyX (H : Hp) : V → Option String
  | .non => some "NoneType"
  | .bl _ => some "bool"
  | .int _ => some "int"
  | .str _ => some "str"
  | .ref p => (H p).bind tyO
  | _ => none
theorem tyX_s {H : Hp} {z : Str} : tyX H (.str z) = some "str" := rfl
theorem tyX_r {H : Hp} {p : Addr} : tyX H (.ref p) = (H p).bind tyO := rfl
theorem tyO_t {xs : List V} : tyO (.tup xs) = some "tuple" := rfl
def kT : String → String → Option Bool
  | "NoneType", "str" => some false
  | "bool", "str" => some false
  | "int", "str" => some false
  | "list", "str" => some false
  | "tuple", "str" => some false
  | "dict", "str" => some false
  | "str", "str" => some true
  | "tuple", "tuple" => some true
  | _, _ => none
theorem kT_stst : kT "str" "str" = some true := rfl
theorem kT_tutu : kT "tuple" "tuple" = some true := rfl
theorem kT_kit (K : PySem.W.Frag) {a b : String} {r : Bool} (h : kT a b = some r) : PySem.W.kitOne K (.type a) (.type b) = some r := by
  unfold kT at h
  split at h <;> first | (cases h; first | rfl | (with_unfolding_all rfl)) | cases h
def rIsIX : List V → Hp → VK → Prop := fun xs H Q => ∃ x n t r, xs = [x, .ty n] ∧ tyX H x = some t ∧ kT t n = some r ∧ Q (.bl r) H
theorem tyX_of {K : PySem.W.Frag} {H : Hp} {x : V} {t : String} (h : tyX H x = some t) : TyOf K H x (.type t) := by
  cases x with
  | non => cases h; exact .non
  | bl b => cases h; exact .bl b
  | int i => cases h; exact .int i
  | str z => cases h; exact .str z
  | ref p =>
    cases e : H p with
    | none => rw [tyX_r, e] at h; cases h
    | some o =>
      rw [tyX_r, e] at h
      cases o with
      | lst xs => cases h; exact .lst e
      | tup xs => cases h; exact .tup e
      | dK kvs => cases h; exact .dK e
      | _ => cases h
  | _ => cases h
theorem call_isiX : CallR X (.builtin "isinstance") rIsIX := call_isinst.weak fun _ _ _ ⟨x, n, t, r, e, h, k, q⟩ => ⟨x, .ty n, .type t, r, e, ⟨n, rfl⟩, tyX_of h, kT_kit _ k, q⟩
theorem setO_di' {kvs : List (Key × V)} {i : Int} {v : V} : setO (.dK kvs) (.int i) v = if kvs.length < sizeLine then some (.dK (putK kvs (Sum.inl i) v)) else none := rfl
theorem lenX_s' {H : Hp} {z : Str} : lenX H (.str z) = if z.length ≤ sizeLine then some z.length else none := rfl
end
end L2
/-! Loops over texts and over a dict's keys; texts compared. -/
namespace L2
open PySem PySem.Spec PyProof.Rows
section
variable {X : Cx}
/-- what is walked stands fast: these values, in this order -/
def Itv (xs : List V) : It := ⟨fun i _ => i < xs.length, fun i H x H' => H' = H ∧ xs[i]? = some x, fun i _ => i = xs.length⟩
/-- the signs of a text -/
def signs (z : Str) : List V := z.cps.toList.map fun c => V.str ⟨#[c]⟩
theorem signs_len {z : Str} : (signs z).length = z.length := by simp [signs, Str.length]
theorem turn_str {P : Program} {w : World} {K : PySem.W.Frag} {tg : Expr} {z : Str} {it : Addr} {St : Nat → Heap → Prop} (W : ∀ A' : Around, A'.handled = none → Walks P w A' it [it] [it] z.cps.size (SignAt z) St)
    (ob : ∀ i h, St i h → ∃ o n vs, h.get? it = some o ∧ o.cls = .type n ∧ o.data = .fields vs ∧ ["enumerate", "zip", "dict_itemiterator", "dict_reverseitemiterator", "odict_iterator", "itertools.zip_longest", "itertools.pairwise"].contains n = false)
    (sf : ∀ (A : Around) (i : Nat) (s : Shared) (Q : Value → Shared → Prop) (E : Value → Shared → Prop), St i s.heap → Q (.ref it) s → wpAny (model P w) A (pyIter (.ref it)) Q E s) :
    Turn P w K tg (Itv (signs z)) [it] it St where
  mem := by simp
  obj := fun i h st b hb => by
    have e : b = it := by simpa using hb
    subst e
    obtain ⟨o, n, vs, e, c, d, _⟩ := ob i h st
    exact ⟨o, e, fun v z => by rw [d] at z; cases z⟩
  keep := fun i h h' st k => (W { handled := none } rfl).frame i h h' st k
  item := by
    intro X hP hw hK hc i pins s σ H E I hf st hg
    subst hP hw hK
    obtain ⟨f0, f1, f2, f3, f4, f5⟩ := hf it (by simp)
    have hi : i < z.cps.size := by
      have := hg
      simp only [Itv, signs_len, Str.length] at this
      exact this
    refine (W X.A (I.ok.hd hc)).item i s _ _ hi st fun v h' tk hv st' kk => ?_
    obtain ⟨c, u, hcv, rfl⟩ := hv
    have I1 : Inv X pins σ H { s with heap := h', toks := tk } := I.turned (fun b o hb e => kk b o (by simpa using hb) e) f0 f1 f3 f4 f5
    obtain ⟨o, n, vs, eo, ec, ed, en⟩ := ob _ _ st'
    refine ⟨_, rfl, go_of (s := { s with heap := h', toks := tk }) eo ec ed en ⟨.str ⟨#[c]⟩, H, I1, ⟨u, rfl⟩, ⟨rfl, ?_⟩, st', fun b hb => (hf b hb).1⟩⟩
    simp [signs, hcv]
  done := by
    intro X hP hw hK hc i pins s σ H E I hf st hg
    subst hP hw hK
    obtain ⟨f0, f1, f2, f3, f4, f5⟩ := hf it (by simp)
    have hi : i = z.cps.size := by
      have := hg
      simp only [Itv, signs_len, Str.length] at this
      exact this
    subst hi
    exact (W X.A (I.ok.hd hc)).done s _ _ st fun h' tk kk => ⟨rfl, I.turned (fun b o hb e => kk b o (by simpa using hb) e) f0 f1 f3 f4 f5⟩
  self := sf
def iStr (tl : TE) : TI := fun σ H R => tl σ H fun x H1 => ∃ z, x = .str z ∧ R (Itv (signs z)) H1
theorem pi_str {tg l : Expr} {tl : TE} (hl : PE X l tl) : PI X tg l (iStr tl) := by
  intro pins s σ H R I h
  refine thn (hl pins s σ H _ I h) fun v s1 ⟨x, H1, I1, r1, q1⟩ => ?_
  obtain ⟨z, e, q⟩ := q1
  subst e
  obtain ⟨t, rfl⟩ := r1
  have fin : ∀ (o : Obj) (n : String) (vs : Array Value) (St : Nat → Heap → Prop), (∀ A' : Around, A'.handled = none → Walks X.prog X.w A' s1.heap.objs.size [s1.heap.objs.size] [s1.heap.objs.size] z.cps.size (SignAt z) St) → St 0 (s1.heap.push o) →
      (∀ i h, St i h → ∃ o n vs, h.get? s1.heap.objs.size = some o ∧ o.cls = .type n ∧ o.data = .fields vs ∧ ["enumerate", "zip", "dict_itemiterator", "dict_reverseitemiterator", "odict_iterator", "itertools.zip_longest", "itertools.pairwise"].contains n = false) →
      (∀ (A : Around) (i : Nat) (s : Shared) (Q : Value → Shared → Prop) (E : Value → Shared → Prop), St i s.heap → Q (.ref s1.heap.objs.size) s → wpAny (model X.prog X.w) A (pyIter (.ref s1.heap.objs.size)) Q E s) →
      PIE X pins σ tg R (.ref s1.heap.objs.size) { s1 with heap := s1.heap.push o } := fun o n vs St W s0 ob sf =>
    ⟨s1.heap.objs.size, [s1.heap.objs.size], St, Itv (signs z), H1, rfl, I1.kept (t' := s1.toks) fun b o' e => Heap.get?_push_of_some _ e, turn_str W ob sf, s0, fun b hb => by
      have e : b = s1.heap.objs.size := by simpa using hb
      subst e
      exact (I1.fpOk (Nat.le_refl _) (I1.hok.fresh (Nat.le_refl _))), q⟩
  cases ha : z.cps.all (· < 128)
  · exact wpAny_pyIter_wide ha (fin _ "str_iterator" #[] _ (fun A' hA => Walks.strWide hA _ z t) ⟨_, Heap.get?_push_size _ rfl, rfl, rfl⟩ (fun i h ⟨o, e, c, d⟩ => ⟨o, _, _, e, c, d, by decide⟩) (fun A i s Q E st hq => wpAny_pyIter_striter_wide st hq))
  · exact wpAny_pyIter_ascii ha (fin _ "str_ascii_iterator" #[] _ (fun A' hA => Walks.strAscii hA _ z t) ⟨_, Heap.get?_push_size _ rfl, rfl, rfl⟩ (fun i h ⟨o, e, c, d⟩ => ⟨o, _, _, e, c, d, by decide⟩) (fun A i s Q E st hq => wpAny_pyIter_striter_ascii st hq))
/-! ### loops and comprehensions over what stands fast -/
theorem comp_itv {n : Nat} {js : List Nat} {g : TG} {tc : TT} {te : TE} {σ : St} {Q : VK} {H1 : Hp} {xs : List V} (hz : xs.length ≤ 100000) (Pv : Addr → Nat → List V → Hp → Prop) (h0 : ∀ D, H1 D = none → Pv D 0 [] (upd H1 D (.lst [])))
    (hl : ∀ D i acc H, H1 D = none → i ≤ xs.length → Pv D i acc H → H D = some (.lst acc) ∧ acc.length ≤ i)
    (hs : ∀ D i x acc H, H1 D = none → xs[i]? = some x → Pv D i acc H → g x (cSt n js σ) H fun σ2 H2 => σ2.drop n = (cSt n js σ).drop n ∧ tc σ2 H2 fun b H3 => if b = true then te σ2 H3 fun v H4 => H4 D = some (.lst acc) ∧ Pv D (i + 1) (acc ++ [v]) (upd H4 D (.lst (acc ++ [v]))) else H3 D = some (.lst acc) ∧ Pv D (i + 1) acc H3)
    (hd : ∀ D acc H, H1 D = none → Pv D xs.length acc H → Q (.ref D) H) : CompW n js g tc te σ Q (Itv xs) H1 := by
  intro D hD
  refine ⟨fun i m acc H => m = xs.length - i ∧ i ≤ xs.length ∧ Pv D i acc H, ⟨xs.length, by simp, Nat.zero_le _, h0 D hD⟩, ?_⟩
  rintro i m acc H ⟨rfl, hi, p⟩
  obtain ⟨e1, e3⟩ := hl D i acc H hD hi p
  refine ⟨e1, ?_⟩
  by_cases hlt : i < xs.length
  · refine .inr ⟨hlt, by rw [sizeLine_eq]; omega, Pv D (i + 1), fun acc' H' p' => ⟨xs.length - (i + 1), by omega, rfl, hlt, p'⟩, fun x H' y => ?_⟩
    obtain ⟨e, y⟩ := y
    subst e
    exact hs D i x acc _ hD y p
  · have e : i = xs.length := by omega
    subst e
    exact .inl ⟨rfl, hd D acc H hD p⟩
/-- nothing is made but the list -/
theorem comp_itvP {n : Nat} {js : List Nat} {g : TG} {te : TE} {σ : St} {Q : VK} {H1 : Hp} {xs : List V} (hz : xs.length ≤ 100000) (f : V → V)
    (hs : ∀ (H : Hp) x (Q' : VK), x ∈ xs → Same H1 H → Q' (f x) H → g x (cSt n js σ) H fun σ2 H2 => σ2.drop n = (cSt n js σ).drop n ∧ te σ2 H2 Q')
    (hq : ∀ D, H1 D = none → Q (.ref D) (upd H1 D (.lst (xs.map f)))) (gm : ∀ x σ H P P', (∀ σ2 H2, P σ2 H2 → P' σ2 H2) → g x σ H P → g x σ H P') : CompW n js g tYes te σ Q (Itv xs) H1 := by
  refine comp_itv hz (fun D i acc H => acc = (xs.take i).map f ∧ H = upd H1 D (.lst acc)) (fun D _ => ⟨by simp, rfl⟩) ?_ ?_ ?_
  · rintro D i acc H hD hi ⟨rfl, rfl⟩
    exact ⟨upd_same, by simp; omega⟩
  · rintro D i x acc H hD hxi ⟨rfl, rfl⟩
    refine gm _ _ _ _ _ (fun σ2 H2 h => ?_) (hs _ x (fun v H4 => H4 D = some (.lst ((xs.take i).map f)) ∧ (((xs.take i).map f) ++ [v] = (xs.take (i + 1)).map f ∧ upd H4 D (.lst (((xs.take i).map f) ++ [v])) = upd H1 D (.lst (((xs.take i).map f) ++ [v])))) (List.mem_of_getElem? hxi) (Same.upd_new hD) ⟨upd_same, ?_, by rw [upd_upd]⟩)
    · exact ⟨h.1, h.2⟩
    · rw [List.take_add_one, hxi]
      simp
  · rintro D acc H hD ⟨rfl, rfl⟩
    rw [List.take_length]
    exact hq D hD
/-! ### texts -/
def rLeS : R2 := fun x y H Q => ∃ a b, x = .str a ∧ y = .str b ∧ Q (.bl (!decide (b.cps.toList < a.cps.toList))) H
theorem op_leS : OpR X (compareOp .LtE) rLeS := by
  intro pins s σ H x y v u Q I rx ry h
  obtain ⟨a, b, rfl, rfl, q⟩ := h
  obtain ⟨t, rfl⟩ := rx
  obtain ⟨t', rfl⟩ := ry
  exact PySem.P.le_str ⟨.bl _, H, I, rfl, q⟩
theorem rEq_ss {a b : Str} {H : Hp} {Q : VK} : rEq (.str a) (.str b) H Q = Q (.bl (decide (a = b))) H := by simp [rEq, scal]
theorem rNe_ss {a b : Str} {H : Hp} {Q : VK} : rNe (.str a) (.str b) H Q = Q (.bl (!decide (a = b))) H := by simp [rNe, scal]
def rStr1 : List V → Hp → VK → Prop := fun xs H Q => (∃ i : Int, xs = [.int i] ∧ i.natAbs.log2 < 1920 ∧ Q (.str (toString i)) H) ∨ ∃ b : Bool, xs = [.bl b] ∧ Q (.str (if b = true then Str.ofString "True" else Str.ofString "False")) H
theorem call_strX : CallR X (.type "str") rStr1 := by
  intro pins s σ H xs us Q I r h
  rcases h with h | ⟨b, rfl, q⟩
  · exact call_str_int pins s σ H xs us Q I r h
  · obtain ⟨u, rfl, rx⟩ := vals1 r
    cases rx
    exact PySem.P.str_of_bool ⟨.str _, H, I.tok _, ⟨_, rfl⟩, q⟩
def rAllX : List V → Hp → VK → Prop := fun xs H Q => ∃ (p : Addr) (bs : List Bool), xs = [.ref p] ∧ H p = some (.lst (bs.map V.bl)) ∧ Q (.bl (bs.all id)) H
theorem call_allX (hc : X.calm = true) : CallR X (.builtin "all") rAllX := (call_all hc).weak fun _ _ _ ⟨p, bs, e, h, q⟩ => ⟨p, bs, e, SqL.of h, q⟩
/-! ### list(d) -/
/-! ### a, b = a list -/
theorem draw_list {prog : Program} {w : World} {A : Around} {E : Value → Shared → Prop} {it l : Addr} {items : Array Value} (hne : l ≠ it) : ∀ (n i : Nat) (s : Shared) (Q : List Value → Shared → Prop), s.heap.IsListIter it l i → s.heap.IsList l items → i + n ≤ items.size →
    (∀ h', h'.IsListIter it l (i + n) → Heap.SameBut it s.heap h' → Q ((items.toList.drop i).take n) { s with heap := h' }) → wpAny (model prog w) A (draw (.ref it) n) Q E s
  | 0, i, s, Q, hit, _, _, hQ => by
    show wpAny _ _ (pure []) Q E s
    exact wpAny_pure (by simpa using hQ s.heap hit (Heap.SameBut.refl ..))
  | n + 1, i, s, Q, hit, ht, hle, hQ => by
    have hlt : i < items.size := by omega
    show wpAny _ _ (pyNext (.ref it) >>= _) Q E s
    refine wpAny_bind (wpAny_pyNext_list_item hit ht (x := items[i]) (by simp [hlt]) fun h₁ hit₁ hs₁ => ?_)
    have ht1 : h₁.IsList l items := by
      obtain ⟨o, ho, r⟩ := ht
      exact ⟨o, hs₁.extBut _ _ hne ho, r⟩
    refine wpAny_bind (wpAny_holding (draw_list hne n (i + 1) _ _ hit₁ ht1 (by omega) fun h₂ hit₂ hs₂ => wpAny_pure ?_))
    have hd : items.toList.drop i = items[i] :: items.toList.drop (i + 1) := by simp [List.drop_eq_getElem_cons, hlt]
    have := hQ h₂ (by rw [show i + (n + 1) = i + 1 + n by omega]; exact hit₂) (hs₁.trans hs₂)
    rw [hd, List.take_succ_cons] at this
    exact this
theorem unpackItems_list {prog : Program} {w : World} {A : Around} {E : Value → Shared → Prop} {s : Shared} {t : Addr} {items : Array Value} {Q : List Value → Shared → Prop} (hh : A.handled = none) (ht : s.heap.IsList t items)
    (hQ : ∀ h', Heap.ExtBut s.heap.objs.size s.heap h' → Q items.toList { s with heap := h' }) : wpAny (model prog w) A (unpackItems (.ref t) items.size none) Q E s := by
  have hlt : t ≠ s.heap.objs.size := by obtain ⟨o, ho, _⟩ := ht; exact Nat.ne_of_lt (Heap.lt_size ho)
  unfold unpackItems
  refine wpAny_bind ?_
  · unfold notIterableAtAll
    refine wpAny_bind (wpAny_specialOf ht.typeIs PySem.F.slot_list_iter.lookup ?_)
    refine wpAny_pure ?_
    simp only [Bool.false_eq_true, if_false]
    refine wpAny_bind (wpAny_holding (wpAny_pyIter_list ht ?_))
    have ht0 : ∀ o', (s.heap.push o').IsList t items := fun o' => by
      obtain ⟨o, ho, r⟩ := ht
      exact ⟨o, Heap.get?_push_of_some _ ho, r⟩
    refine wpAny_bind (wpAny_holding (draw_list hlt items.size 0 _ _ ⟨_, Heap.get?_push_size _ rfl, rfl, rfl⟩ (ht0 _) (by omega) fun h₁ hit₁ hs₁ => ?_))
    have hall : List.take items.size (List.drop 0 items.toList) = items.toList := by
      rw [List.drop_zero]; exact List.take_of_length_le (by simp)
    rw [hall]
    rw [if_neg (by simp)]
    have ht₁ : h₁.IsList t items := by
      obtain ⟨o, ho, r⟩ := ht0 _
      exact ⟨o, hs₁.extBut _ _ hlt ho, r⟩
    refine wpAny_bind (wpAny_holding (wpAny_pyNext_list_end hh hit₁ ht₁ (by simp) fun h₂ he₂ => ?_))
    simp only [Option.isSome_none, Bool.false_eq_true, if_false]
    refine wpAny_pure (hQ h₂ fun b o hb e => he₂ b o hb (hs₁.extBut b o hb (Heap.get?_push_of_some _ e)))
theorem assign_Tuple_list {prog : Program} {w : World} {A : Around} {E : Value → Shared → Prop} {s : Shared} {env : Env} {elts : List Expr} {x1} {pos : Pos} {t : Addr} {items : Array Value} {Q : Unit → Shared → Prop} (hh : A.handled = none) (ht : s.heap.IsList t items)
    (hn : (assignEach elts env).length = items.size) (hstar : (assignEach elts env).findIdx? (·.1) = none)
    (h : ∀ h', Heap.ExtBut s.heap.objs.size s.heap h' → wpAny (model prog w) A (assignInOrder ((assignEach elts env).map (·.2)) items.toList) Q E { s with heap := h' }) :
    wpAny (model prog w) A (assign (.Tuple elts x1 pos) env (.ref t)) Q E s := by
  rw [assign_Tuple]
  refine wpAny_bind (wpAny_standAt ?_)
  unfold unpack
  rw [hn, hstar]
  exact wpAny_bind (wpAny_holding (unpackItems_list hh ht h))
/-- a, b, .. = a tuple or a list of that length -/
def gSeqX (n : Nat) (t : TGs) : TG := fun v σ H Q => ∃ a o xs, v = .ref a ∧ H a = some o ∧ seqO o = some xs ∧ xs.length = n ∧ t xs σ H Q
theorem pg_seqX {es : List Expr} {k : Nat} {t : TGs} {n : Nat} {pos : Pos} (hc : X.calm = true) (hg : PGs X es t)
    (hn : (assignEach es X.env).length = n := by rfl) (hst : (assignEach es X.env).findIdx? (·.1) = none := by rfl) : PG X (.Tuple es k pos) (gSeqX n t) := by
  intro pins s σ H v u Q I rv q
  obtain ⟨a, o, xs, e, hx, g, hl, q⟩ := q
  cases o with
  | tup ys => cases g; exact pg_tupK (K := X.K) (k := k) (pos := pos) hc hg hn hst rfl pins s σ H v u Q I rv ⟨a, _, e, SqT.of hx, hl, q⟩
  | lst ys =>
    cases g
    subst e
    cases rv
    obtain ⟨its, r, ht, hz⟩ := I.list (SqL.of (K := X.K) hx)
    refine assign_Tuple_list (I.ok.hd hc) ht.isList (by simp [hn, ← hl, r.length]) hst fun h' hx' => ?_
    have I1 : Inv X pins σ H { s with heap := h' } := I.kept (t' := s.toks) fun b o e => hx' b o (Nat.ne_of_lt (Heap.lt_size e)) e
    exact hg pins _ σ H _ _ Q I1 (by simpa using r) q
  | _ => cases g
end
end L2
/-! A dict's keys as a view; sorted. -/
namespace L2
open PySem PySem.Spec PyProof.Rows
theorem bt_sorted : bootBuiltins "sorted" = some (.builtin "sorted") := by decide +kernel
section
variable {X : Cx}
/-! ### range objects, list(range(..)) -/
end
end L2
/-! for i, x in enumerate(a list). -/
namespace L2
open PySem PySem.Spec PyProof.Rows
section
variable {X : Cx}
end
end L2
namespace L2
open PySem
/-- not a starred one -/
def noStar : Expr → Bool
  | .Starred .. => false
  | _ => true
theorem star_cons {e : Expr} {es : List Expr} {env : Env} (h : noStar e = true) : starEach (e :: es) env = (false, eval e env) :: starEach es env := by
  cases e <;> first | rfl | cases h
section
variable {X : Cx} {e : Expr} {es : List Expr} {te : TE} {t : TA}
/-- pa_cons, quick in long lists -/
theorem pa_cX (ha : PE X e te) (hr : PA X es t) (h : noStar e = true := by rfl) : PA X (e :: es) (tCons te t) := pa_cons ha hr (star_cons h)
end
/-! PSs, PS closed to the elaborator: it can't evaluate the program's text inside them -/
structure WSs (X : Cx) (sts : List Stmt) (t : TS) : Prop where
  h : PSs X sts t
structure WS (X : Cx) (st : Stmt) (t : TS) : Prop where
  h : PS X st t
section
variable {X : Cx} {st : Stmt} {rest : List Stmt} {t u : TS}
end
end L2
/-! Slices and multiples of texts. -/
namespace L2
open PySem PySem.Spec PyProof.Rows
section
variable {X : Cx}
end
mutual
theorem Has.same {K : PySem.W.Frag} {H H' : Hp} (s : Same H H') : ∀ {x : V} {d : PyData}, Has K H x d → Has K H' x d
  | _, _, .non => .non
  | _, _, .bl b => .bl b
  | _, _, .int i => .int i
  | _, _, .str x => .str x
  | _, _, .lst h hs => .lst (s.seq h) (HasAll.same s hs)
  | _, _, .tup h hs => .tup (s.seqT h) (HasAll.same s hs)
theorem HasAll.same {K : PySem.W.Frag} {H H' : Hp} (s : Same H H') : ∀ {xs : List V} {ds : List PyData}, HasAll K H xs ds → HasAll K H' xs ds
  | _, _, .nil => .nil
  | _, _, .cons h hs => .cons (Has.same s h) (HasAll.same s hs)
end
end L2
/-! Floor division by a wide divisor. -/
namespace L2
open PySem PySem.Spec PyProof.Rows
section
variable {X : Cx}
end
end L2
/-! Loops over a dict: its keys, its values, its items. While it is walked, the dict is held as it is. -/
namespace L2
open PySem PySem.Spec PyProof.Rows
section
variable {X : Cx} {pins : List (Addr × Obj)} {σ : St} {H : Hp} {s : Shared} {d : Addr} {kvs : List (Key × V)}
end
section
variable {P : Program} {w : World} {K : PySem.W.Frag} {tg : Expr} {d it : Addr} {o : Obj} {kvs : List (Key × V)}
end
section
variable {X : Cx}
/-! ### behind the loop -/
def Unf (H H' H'' : Hp) : Prop := H'' = H' ∨ ∃ d o kvs, H' d = some (.frz o (.dK kvs)) ∧ (∀ o u, H d ≠ some (.frz o u)) ∧ H'' = upd H' d (.dK kvs)
end
/-! ### a dict and an empty one -/
end L2
/-! d.get, d.pop by the dict's content; data in a list of data. -/
namespace L2
open PySem PySem.Spec PyProof.Rows
section
variable {X : Cx} {o e f : Expr} {td ty tx : TE} {apos cpos : Pos}
/-! ### data in a list of data -/
end
end L2
/-! d.setdefault, sorted(d), min of two tuples of numbers. -/
namespace L2
open PySem PySem.Spec PyProof.Rows
section
variable {X : Cx} {o e f : Expr} {td ty tx : TE} {apos cpos : Pos}
end
/-! ### sorted(d) -/
section
variable {X : Cx}
end
/-! ### the less of two tuples -/
section
variable {prog : Program} {w : World} {A : Around} {E : Value → Shared → Prop} {s : Shared}
end
section
variable {X : Cx}
end
end L2
namespace L2
open PySem PySem.Spec PyProof.Rows
/-! a list and an empty one, whatever the list holds -/
end L2
/-! Two dicts keyed by tuples that hold the same. -/
namespace L2
open PySem PySem.Spec PyProof.Rows
section
variable {prog : Program} {w : World} {κ : Type} [DecidableEq κ] {knd : HeapKind prog w κ} {A : Around} {E : Value → Shared → Prop} {s : Shared}
end
/-! ### a list, or a tuple, and an empty one, whatever it holds -/
end L2
/-! sum of lists, the greatest of a list. -/
namespace L2
open PySem PySem.Spec PyProof.Rows
section
variable {prog : Program} {w : World} {A : Around} {R : Result → Shared → Prop} {I : Addr} {fp wr : List Addr} {n : Nat} {P : Nat → Value → Prop} {St : Nat → Heap → Prop}
end
namespace SL
end SL
section
variable {prog : Program} {w : World} {A : Around} {E : Value → Shared → Prop} {s : Shared}
end
section
variable {X : Cx}
end
end L2
set_option maxHeartbeats 4000000
/-! sorted of tuples of numbers: a rearrangement, whatever the comparisons say. -/
namespace L2
open PySem PySem.Spec PyProof.Rows PySem.W
section
variable {α β : Type}
end
def PR (N : Nat) (p : Array Nat) : Prop := p.toList.Perm (List.range N)
section
variable {N : Nat} (hN : 0 < N)
include hN
end
section
variable {prog : Program} {w : World} {A : Around} {E : Value → Shared → Prop} {s : Shared}
/-- an int ahead, then ints -/
def IT (h : Heap) (m : Nat) (v : Value) : Prop := ∃ (b : Addr) (o : Obj) (xs : Array Value) (n : Nat) (ns : List Int), v = .ref b ∧ h.get? b = some o ∧ o.cls = .type "tuple" ∧ o.data = .seq xs n ∧ IntsAre xs.toList ns ∧ ns.length = m + 1
theorem lex_any {b fin : Bool} {Q : Bool → Shared → Prop} (q : ∀ b, Q b s) : ∀ {xs ys : List Value} {ns ms : List Int} (i : Nat), IntsAre xs ns → IntsAre ys ms → KatLex prog w A b fin Q (xs.zip ys) i s
  | _, _, _, _, i, .nil, _ => kat_nil (q _)
  | _, _, _, _, i, .cons _ _ _, .nil => kat_nil (q _)
  | _, _, _, _, i, .cons n1 t1 h1, .cons n2 t2 h2 => by
    refine kat_cons (wpAny_eqBool_int ?_)
    cases e : (n1 == n2) with
    | true => exact kat_yes (lex_any q (i + 1) h1 h2)
    | false =>
      refine kat_no ?_
      cases hb : (b && i == 0) with
      | true => exact oneLt_int (q _)
      | false => exact kat_one _ _ (PySem.P.lt_int (q _))
theorem IT.keep {h h' : Heap} {m : Nat} {v : Value} (x : IT h m v) (k : ∀ b o, v = .ref b → h.get? b = some o → h'.get? b = some o) : IT h' m v := by
  obtain ⟨b, o, xs, n, ns, e, g, r⟩ := x
  exact ⟨b, o, xs, n, ns, e, k b o e g, r⟩
theorem tups_of {h : Heap} {m : Nat} : ∀ {vs : List Value}, (∀ v ∈ vs, IT h m v) → ∃ fs, KatTups h vs fs ∧ fs.length = vs.length ∧ ∀ f ∈ fs, ∃ i t, f = Value.int i t
  | [], _ => ⟨[], .nil, rfl, fun f hf => nomatch hf⟩
  | v :: vs, hv => by
    obtain ⟨fs, h1, h2, h3⟩ := tups_of (vs := vs) fun v hm => hv v (.tail _ hm)
    obtain ⟨b, o, xs, n, ns, rfl, g, c, d, I, l⟩ := hv v (.head _)
    cases hx : xs.toList with
    | nil => rw [hx] at I; cases I; simp at l
    | cons f r =>
      rw [hx] at I
      have hf : xs[0]? = some f := by rw [← Array.getElem?_toList, hx]; rfl
      cases I with
      | cons n1 t1 I =>
        exact ⟨_ :: fs, .cons g c d hf h1, by rw [List.length_cons, List.length_cons, h2], fun f hm => by
          rcases List.mem_cons.mp hm with rfl | hm
          · exact ⟨_, _, rfl⟩
          · exact h3 f hm⟩
theorem zip_snd {α : Type} : ∀ l : List α, (l.zip l).map (fun x => x.2) = l
  | [] => rfl
  | a :: r => by rw [List.zip_cons_cons, List.map_cons, zip_snd r]
end
section
variable {X : Cx}
/-- four numbers -/
abbrev Q4 := Int × Int × Int × Int
def q4 (t : Q4) : List V := [.int t.1, .int t.2.1, .int t.2.2.1, .int t.2.2.2]
def Tq (H : Hp) (v : V) (t : Q4) : Prop := ∃ b, v = .ref b ∧ H b = some (.tup (q4 t))
end
end L2
set_option maxHeartbeats 4000000
/-! sorted of tuples of numbers, however many: a rearrangement. -/
namespace L2
open PySem PySem.Spec PyProof.Rows PySem.W
def gallop' : Bool → Keyed → Array Keyed → Nat → Nat → Nat → StateT SortSt Sem (Option Nat) := sortPriv% PySem.Builtin.gallop
def mergeLo' : Array Keyed → Array Keyed → StateT SortSt Sem (Array Keyed) := sortPriv% PySem.Builtin.mergeLo
def mergeHi' : Array Keyed → Array Keyed → StateT SortSt Sem (Array Keyed) := sortPriv% PySem.Builtin.mergeHi
section
variable {prog : Program} {w : World} {A : Around} {E : Value → Shared → Prop} {s : Shared} {m : Nat} {κ : Bool}
theorem wpS_lt2 {st : SortSt} {x y : Keyed} {Q : Option Bool → SortSt → Prop} (hk : kindOf st = tuples' κ) (hx : IT s.heap m x.1) (hy : IT s.heap m y.1) (h : ∀ b, Q (some b) st) : wpS (model prog w) A E s (lt' x y) Q st := by
  rw [lt'_eq]
  refine wpS_bind (wpS_get ?_)
  rw [hk]
  obtain ⟨b1, o1, xs1, n1, ns1, e1, g1, c1, d1, I1, l1⟩ := hx
  obtain ⟨b2, o2, xs2, n2, ns2, e2, g2, c2, d2, I2, l2⟩ := hy
  rw [e1, e2]
  refine wpS_bind (wpS_lift (wpAny_attempt (kat_lt g1 d1 g2 d2 (lex_any (fun b => ⟨rfl, ?_⟩) 0 I1 I2))))
  exact wpS_pure (h b)
theorem wpS_elem {st : SortSt} {arr : Array Keyed} {i : Nat} {x : Keyed} {Q : Keyed → SortSt → Prop} (hx : arr[i]? = some x) (h : Q x st) : wpS (model prog w) A E s (elem' arr i) Q st := by
  rw [elem'_eq, hx]
  exact wpS_pure h
def AllG (s : Shared) (m : Nat) (arr : Array Keyed) : Prop := ∀ x ∈ arr, IT s.heap m x.1
theorem AllG.at {arr : Array Keyed} (h : AllG s m arr) {i : Nat} (hi : i < arr.size) : ∃ x, arr[i]? = some x ∧ IT s.heap m x.1 := ⟨arr[i], Array.getElem?_eq_getElem hi, h _ (Array.getElem_mem hi)⟩
def StP {β σ : Type} (D Y : β → σ → Prop) : ForInStep β → σ → Prop
  | .done c, st => D c st
  | .yield c, st => Y c st
theorem wpS_loop {β : Type} {a b : Nat} {f : Nat → β → StateT SortSt Sem (ForInStep β)} (I : Nat → β → SortSt → Prop) {Q : β → SortSt → Prop} (hstep : ∀ i c st, a ≤ i → i < b → I i c st → wpS (model prog w) A E s (f i c) (StP Q (I (i + 1))) st) (hend : ∀ c st, I (max a b) c st → Q c st) {c : β} {st : SortSt} (h : I a c st) : wpS (model prog w) A E s (forIn [a:b] c f) Q st :=
  wpS_forRange I (fun i c st h1 h2 h3 => wpS_mono (hstep i c st h1 h2 h3) fun r st' h => by cases r <;> exact h) hend h
theorem wpS_gallop {left : Bool} {key : Keyed} {arr : Array Keyed} {base n hint : Nat} {st : SortSt} {Q : Option Nat → SortSt → Prop} (hn : hint < n) (hb : base + n ≤ arr.size) (hkey : IT s.heap m key.1) (ha : AllG s m arr) (hk : kindOf st = tuples' κ) (h : ∀ k, k ≤ n → Q (some k) st) :
    wpS (model prog w) A E s (gallop' left key arr base n hint) Q st := by
  have bey : ∀ {i : Nat} {R : Option Bool → SortSt → Prop}, i < n → (∀ b, R (some b) st) → wpS (model prog w) A E s (do let x ← elem' arr (base + i); if left = true then lt' x key else do { let r ← lt' key x; return r.map (!·) }) R st := fun {i R} hi hR => by
    obtain ⟨x, hx, gx⟩ := ha.at (i := base + i) (by omega)
    refine wpS_bind (wpS_elem hx ?_)
    split
    · exact wpS_lt2 hk gx hkey hR
    · exact wpS_bind (wpS_lt2 hk hkey gx fun b => wpS_pure (hR _))
  refine wpS_bind (bey hn fun b => ?_)
  dsimp only
  have sec : ∀ {lo hi : Nat} {f : Nat → Option (Option Nat) × Nat × Nat → StateT SortSt Sem (ForInStep (Option (Option Nat) × Nat × Nat))} {R : Option (Option Nat) × Nat × Nat → SortSt → Prop}, hi ≤ n →
      (∀ i c, c.1 = none → c.2.2 ≤ n → wpS (model prog w) A E s (f i c) (StP (fun c' st' => c'.1 = none ∧ c'.2.2 ≤ n ∧ st' = st) (fun c' st' => c'.1 = none ∧ c'.2.2 ≤ n ∧ st' = st)) st) → (∀ c, c.1 = none → c.2.2 ≤ n → R c st) → wpS (model prog w) A E s (forIn [0:n] (none, lo, hi) f) R st := fun {lo hi f R} h0 hf hR => by
    refine wpS_mono (wpS_loop (fun _ c st' => c.1 = none ∧ c.2.2 ≤ n ∧ st' = st) (Q := fun c st' => c.1 = none ∧ c.2.2 ≤ n ∧ st' = st) ?_ (fun c st' hc => hc) ⟨rfl, h0, rfl⟩) ?_
    · rintro i c st' _ _ ⟨h1, h2, rfl⟩
      exact hf i c h1 h2
    · rintro c st' ⟨h1, h2, rfl⟩
      exact hR c h1 h2
  have fir : ∀ {x y : Nat} {f : Nat → Option (Option Nat) × Nat × Nat → StateT SortSt Sem (ForInStep (Option (Option Nat) × Nat × Nat))} {R : Option (Option Nat) × Nat × Nat → SortSt → Prop},
      (∀ i c, c.1 = none → wpS (model prog w) A E s (f i c) (StP (fun c' st' => c'.1 = none ∧ st' = st) (fun c' st' => c'.1 = none ∧ st' = st)) st) → (∀ c, c.1 = none → R c st) → wpS (model prog w) A E s (forIn [0:n] (none, x, y) f) R st := fun {x y f R} hf hR => by
    refine wpS_mono (wpS_loop (fun _ c st' => c.1 = none ∧ st' = st) (Q := fun c st' => c.1 = none ∧ st' = st) ?_ (fun c st' hc => hc) ⟨rfl, rfl⟩) ?_
    · rintro i c st' _ _ ⟨h1, rfl⟩
      exact hf i c h1
    · rintro c st' ⟨h1, rfl⟩
      exact hR c h1
  split
  · refine wpS_bind (fir (fun i c h1 => ?_) fun c hc => ?_)
    · split
      · exact wpS_pure ⟨rfl, rfl⟩
      · refine wpS_bind (bey (by omega) fun b => ?_)
        dsimp only
        split
        · exact wpS_pure ⟨rfl, rfl⟩
        · exact wpS_pure ⟨rfl, rfl⟩
    · rw [hc]
      dsimp only
      refine wpS_bind (sec (by omega) (fun i c h1 h2 => ?_) fun d h1 h2 => ?_)
      · split
        · exact wpS_pure ⟨rfl, h2, rfl⟩
        · refine wpS_bind (bey (by omega) fun b => ?_)
          dsimp only
          split
          · exact wpS_pure ⟨rfl, h2, rfl⟩
          · exact wpS_pure ⟨rfl, by dsimp only; omega, rfl⟩
      · rw [h1]
        exact wpS_pure (h _ h2)
  · refine wpS_bind (fir (fun i c h1 => ?_) fun c hc => ?_)
    · split
      · exact wpS_pure ⟨rfl, rfl⟩
      · refine wpS_bind (bey (by omega) fun b => ?_)
        dsimp only
        split
        · exact wpS_pure ⟨rfl, rfl⟩
        · exact wpS_pure ⟨rfl, rfl⟩
    · rw [hc]
      dsimp only
      refine wpS_bind (sec (by omega) (fun i c h1 h2 => ?_) fun d h1 h2 => ?_)
      · split
        · exact wpS_pure ⟨rfl, h2, rfl⟩
        · refine wpS_bind (bey (by omega) fun b => ?_)
          dsimp only
          split
          · exact wpS_pure ⟨rfl, h2, rfl⟩
          · exact wpS_pure ⟨rfl, by dsimp only; omega, rfl⟩
      · rw [h1]
        exact wpS_pure (h _ h2)
theorem wpS_rule {st : SortSt} {x : String} {Q : Unit → SortSt → Prop} (h : Q () st) : wpS (model prog w) A E s (liftM (rule x) : StateT SortSt Sem Unit) Q st := wpS_lift (wpAny_rule ⟨rfl, h⟩)
structure Gs (st st' : SortSt) : Prop where
  kind : kindOf st' = kindOf st
  arr : arrOf st' = arrOf st
  pend : pendingOf st' = pendingOf st
  fail : failedOf st' = failedOf st
theorem Gs.refl {st : SortSt} : Gs st st := ⟨rfl, rfl, rfl, rfl⟩
theorem wpS_elemA {st : SortSt} {arr : Array Keyed} {i : Nat} {Q : Keyed → SortSt → Prop} (ha : AllG s m arr) (hi : i < arr.size) (h : ∀ x, arr[i]? = some x → IT s.heap m x.1 → Q x st) : wpS (model prog w) A E s (elem' arr i) Q st := by
  obtain ⟨x, hx, gx⟩ := ha.at hi
  exact wpS_elem hx (h x hx gx)
theorem wpS_if {α : Type} {c : Prop} [Decidable c] {p q : StateT SortSt Sem α} {st : SortSt} {Q : α → SortSt → Prop} (h1 : c → wpS (model prog w) A E s p Q st) (h2 : ¬ c → wpS (model prog w) A E s q Q st) : wpS (model prog w) A E s (if c then p else q) Q st := by
  split
  · exact h1 ‹_›
  · exact h2 ‹_›
theorem wpS_ifb {α : Type} {x y : Nat} {p q : StateT SortSt Sem α} {st : SortSt} {Q : α → SortSt → Prop} (h1 : x = y → wpS (model prog w) A E s p Q st) (h2 : x ≠ y → wpS (model prog w) A E s q Q st) : wpS (model prog w) A E s (if (x == y) = true then p else q) Q st :=
  wpS_if (fun e => h1 (by simpa using e)) fun e => h2 (by simpa using e)
def setMin' : Nat → StateT SortSt Sem Unit := sortPriv% PySem.Builtin.setMinGallop
theorem wpS_setG {st0 st : SortSt} {g : Nat} {Q : Unit → SortSt → Prop} (hG : Gs st0 st) (h : ∀ st', Gs st0 st' → Q () st') : wpS (model prog w) A E s (setMin' g) Q st := by
  refine wpS_modify (h _ ⟨hG.kind, hG.arr, hG.pend, hG.fail⟩)
theorem wpS_gallopG {left : Bool} {key : Keyed} {arr : Array Keyed} {base n hint : Nat} {st0 st : SortSt} {Q : Option Nat → SortSt → Prop} (hk : kindOf st0 = tuples' κ) (hG : Gs st0 st) (hn : hint < n) (hb : base + n ≤ arr.size) (hkey : IT s.heap m key.1) (ha : AllG s m arr) (h : ∀ k, k ≤ n → Q (some k) st) : wpS (model prog w) A E s (gallop' left key arr base n hint) Q st :=
  wpS_gallop hn hb hkey ha (hG.kind.trans hk) h
end
/-! ### merging: nothing is lost -/
def PM (a b out : Array Keyed) (ia ib : Nat) : Prop := (out.toList ++ (a.toList.drop ia ++ b.toList.drop ib)).Perm (a.toList ++ b.toList)
section
variable {a b out : Array Keyed} {ia ib k : Nat} {x : Keyed}
theorem drop_at {l : Array Keyed} {i : Nat} (h : l[i]? = some x) : l.toList.drop i = x :: l.toList.drop (i + 1) := by
  rw [← Array.getElem?_toList] at h
  obtain ⟨hi, e⟩ := List.getElem?_eq_some_iff.mp h
  rw [List.drop_eq_getElem_cons hi, e]
theorem PM.one (h : PM a b out ia ib) (hx : a[ia]? = some x) : PM a b (out.push x) (ia + 1) ib := by
  unfold PM at h ⊢
  rw [drop_at hx] at h
  simpa using h
theorem PM.two (h : PM a b out ia ib) (hx : b[ib]? = some x) : PM a b (out.push x) ia (ib + 1) := by
  unfold PM at h ⊢
  rw [drop_at hx] at h
  refine List.Perm.trans ?_ h
  simp only [Array.toList_push, List.append_assoc, List.singleton_append]
  exact List.Perm.append_left _ List.perm_middle.symm
theorem ext_list {l : Array Keyed} {i j : Nat} : (l.extract i j).toList = (l.toList.drop i).take (j - i) := by
  rw [Array.toList_extract, List.extract_eq_drop_take]
theorem PM.A (h : PM a b out ia ib) (k : Nat) : PM a b (out ++ a.extract ia (ia + k)) (ia + k) ib := by
  unfold PM at h ⊢
  rw [Array.toList_append, ext_list, Nat.add_sub_cancel_left]
  have e : a.toList.drop ia = (a.toList.drop ia).take k ++ a.toList.drop (ia + k) := by rw [← List.drop_drop]; exact (List.take_append_drop k _).symm
  rw [e] at h
  simpa using h
theorem PM.B (h : PM a b out ia ib) (k : Nat) : PM a b (out ++ b.extract ib (ib + k)) ia (ib + k) := by
  unfold PM at h ⊢
  rw [Array.toList_append, ext_list, Nat.add_sub_cancel_left]
  have e : b.toList.drop ib = (b.toList.drop ib).take k ++ b.toList.drop (ib + k) := by rw [← List.drop_drop]; exact (List.take_append_drop k _).symm
  rw [e] at h
  refine List.Perm.trans ?_ h
  rw [List.append_assoc]
  refine List.Perm.append_left _ ?_
  rw [← List.append_assoc, ← List.append_assoc]
  exact List.Perm.append_right _ List.perm_append_comm
theorem ext_end {l : Array Keyed} {i : Nat} : (l.extract i l.size).toList = l.toList.drop i := by
  rw [ext_list, List.take_of_length_le]
  simp
theorem PM.done (h : PM a b out ia ib) : (out ++ a.extract ia a.size ++ b.extract ib b.size).toList.Perm (a.toList ++ b.toList) := by
  rw [Array.toList_append, Array.toList_append, ext_end, ext_end, List.append_assoc]
  exact h
theorem PM.last (h : PM a b out ia ib) : (out ++ b.extract ib b.size ++ a.extract ia a.size).toList.Perm (a.toList ++ b.toList) := by
  rw [Array.toList_append, Array.toList_append, ext_end, ext_end, List.append_assoc]
  exact (List.Perm.append_left _ List.perm_append_comm).trans h
end
section
variable {prog : Program} {w : World} {A : Around} {E : Value → Shared → Prop} {s : Shared} {m : Nat} {κ : Bool}
/-- it has ended with r, or goes on with at most N left -/
def LoQ (a b : Array Keyed) (N : Nat) : Option (Array Keyed) → Array Keyed → Nat → Nat → Prop
  | some r, _, _, _ => r.toList.Perm (a.toList ++ b.toList)
  | none, out, ia, ib => ia + 1 < a.size ∧ ib < b.size ∧ PM a b out ia ib ∧ (a.size - ia) + (b.size - ib) ≤ N
set_option maxHeartbeats 8000000 in
theorem wpS_mergeLo {a b : Array Keyed} {st : SortSt} {Q : Array Keyed → SortSt → Prop} (h1 : 1 ≤ a.size) (h2 : 1 ≤ b.size) (ga : AllG s m a) (gb : AllG s m b) (hk : kindOf st = tuples' κ) (h : ∀ r st', r.toList.Perm (a.toList ++ b.toList) → Gs st st' → Q r st') :
    wpS (model prog w) A E s (mergeLo' a b) Q st := by
  refine wpS_bind (wpS_rule ?_)
  obtain ⟨b0, hb0, gb0⟩ := gb.at (i := 0) (by (try dsimp only); omega)
  refine wpS_bind (wpS_elem hb0 ?_)
  dsimp -zeta -zetaHave only
  have p0 : PM a b #[b0] 0 1 := PM.two (out := #[]) (ia := 0) (ib := 0) (by unfold PM; simp) hb0
  refine wpS_ifb (fun e => wpS_pure (h _ _ p0.done Gs.refl)) (fun e => ?_)
  refine wpS_ifb (fun e => wpS_pure (h _ _ p0.last Gs.refl)) (fun e => ?_)
  refine wpS_bind (wpS_get ?_)
  refine wpS_bind (wpS_mono (wpS_loop (fun i (c : Option (Array Keyed) × Array Keyed × Nat × Nat × Nat) st' => Gs st st' ∧ c.1 = none ∧ LoQ a b (a.size + b.size - 1 - i) c.1 c.2.1 c.2.2.1 c.2.2.2.1) (Q := fun c st' => Gs st st' ∧ ∃ r, c.1 = some r ∧ r.toList.Perm (a.toList ++ b.toList)) ?st0 ?en0 ?in0) ?ct0)
  case en0 =>
    rintro ⟨r, out, ia, ib, mg⟩ st' ⟨hG, hc, hL⟩
    dsimp only at hc hL
    subst hc
    obtain ⟨g1, g2, _, g4⟩ := hL
    omega
  case in0 => exact ⟨Gs.refl, rfl, by (try dsimp only); omega, by (try dsimp only); omega, p0, by (try dsimp only); omega⟩
  case ct0 =>
    rintro ⟨r, out, ia, ib, mg⟩ st5 ⟨hG, r', hc, hP⟩
    dsimp only at hc
    subst hc
    exact wpS_pure (h _ _ hP hG)
  rintro i ⟨r, out, ia, ib, mg⟩ st1 _ hi ⟨hG, hc, hL⟩
  dsimp only at hc hL
  subst hc
  obtain ⟨g1, g2, g3, g4⟩ := hL
  have hk1 : kindOf st1 = tuples' κ := hG.kind.trans hk
  refine wpS_bind (wpS_mono (wpS_loop (fun j (c : Option (Array Keyed) × Array Keyed × Nat × Nat × Nat × Nat) st' => st' = st1 ∧ c.1 = none ∧ LoQ a b ((a.size - ia) + (b.size - ib) - j) c.1 c.2.1 c.2.2.1 c.2.2.2.1) (Q := fun c st' => st' = st1 ∧ LoQ a b ((a.size - ia) + (b.size - ib) - 1) c.1 c.2.1 c.2.2.1 c.2.2.2.1) ?st1 ?en1 ?in1) ?ct1)
  case en1 =>
    rintro ⟨r, o, ja, jb, ac, bc⟩ st' ⟨e1, hc, hL⟩
    dsimp only at hc hL
    subst hc
    obtain ⟨f1, f2, f3, f4⟩ := hL
    exact ⟨e1, f1, f2, f3, by (try dsimp only); omega⟩
  case in1 => exact ⟨rfl, rfl, g1, g2, g3, by (try dsimp only); omega⟩
  case st1 =>
    rintro j ⟨r, o, ja, jb, ac, bc⟩ st2 _ hj ⟨e1, hc, hL⟩
    dsimp only at hc hL
    subst hc e1
    obtain ⟨f1, f2, f3, f4⟩ := hL
    refine wpS_bind (wpS_elemA gb f2 fun y hy gy => wpS_bind (wpS_elemA ga (show ja < a.size by (try dsimp only); omega) fun x hx gx => wpS_bind (wpS_lt2 hk1 gy gx fun v => ?_)))
    dsimp only
    refine wpS_if (fun _ => ?_) (fun _ => ?_)
    · refine wpS_bind (wpS_elemA gb f2 fun y2 hy2 _ => ?_)
      exact wpS_ifb (fun e => wpS_pure ⟨rfl, (f3.two hy2).done⟩) fun e => wpS_if (fun _ => wpS_pure ⟨rfl, f1, (show jb + 1 < b.size by omega), f3.two hy2, by (try dsimp only); omega⟩) (fun _ => wpS_pure ⟨rfl, rfl, f1, (show jb + 1 < b.size by omega), f3.two hy2, by (try dsimp only); omega⟩)
    · refine wpS_bind (wpS_elemA ga (show ja < a.size by (try dsimp only); omega) fun y2 hy2 _ => ?_)
      exact wpS_ifb (fun e => wpS_pure ⟨rfl, (f3.one hy2).last⟩) fun e => wpS_if (fun _ => wpS_pure ⟨rfl, (show ja + 1 + 1 < a.size by (try dsimp only); omega), f2, f3.one hy2, by (try dsimp only); omega⟩) (fun _ => wpS_pure ⟨rfl, rfl, (show ja + 1 + 1 < a.size by (try dsimp only); omega), f2, f3.one hy2, by (try dsimp only); omega⟩)
  rintro ⟨r, o, ja, jb, ac, bc⟩ st2 ⟨e1, hL⟩
  subst e1
  dsimp -zeta -zetaHave only at hL ⊢
  cases r with
  | some r => exact wpS_pure ⟨hG, r, rfl, hL⟩
  | none =>
    obtain ⟨f1, f2, f3, f4⟩ := hL
    refine wpS_bind (wpS_rule (wpS_bind (wpS_mono (wpS_loop (fun j (c : Option (Array Keyed) × Array Keyed × Nat × Nat × Nat × Nat × Nat) st' => Gs st st' ∧ c.1 = none ∧ LoQ a b ((a.size - ia) + (b.size - ib) - 1) c.1 c.2.1 c.2.2.1 c.2.2.2.1) (Q := fun c st' => Gs st st' ∧ LoQ a b ((a.size - ia) + (b.size - ib) - 1) c.1 c.2.1 c.2.2.1 c.2.2.2.1) ?st2 ?en2 ?in2) ?ct2)))
    case en2 =>
      rintro ⟨r, o, ja, jb, mg, ac, bc⟩ st' ⟨e1, hc, hL⟩
      exact ⟨e1, hL⟩
    case in2 => exact ⟨hG, rfl, f1, f2, f3, f4⟩
    case st2 =>
      rintro j ⟨r, o, ja, jb, mg2, ac2, bc2⟩ st3 _ hj ⟨hG3, hc, hL⟩
      dsimp only at hc hL
      subst hc
      obtain ⟨k1, k2, k3, k4⟩ := hL
      dsimp -zeta -zetaHave only
      extract_lets -underBinder +onlyGivenNames s0 o1 s1 ja1 s2 jb1 s3 mg1 s4 ac1 bc1 jp
      suffices K : ∀ g, wpS (model prog w) A E s (jp () g) (StP (fun c st' => Gs st st' ∧ LoQ a b ((a.size - ia) + (b.size - ib) - 1) c.1 c.2.1 c.2.2.1 c.2.2.2.1) (fun c st' => Gs st st' ∧ c.1 = none ∧ LoQ a b ((a.size - ia) + (b.size - ib) - 1) c.1 c.2.1 c.2.2.1 c.2.2.2.1)) st3 from wpS_if (fun _ => K _) (fun _ => K _)
      intro mg3
      dsimp -zeta -zetaHave only [jp, o1, s0, ja1, s1, jb1, s2, bc1, s3, s4, ac1]
      clear jp bc1 ac1 s4 mg1 s3 jb1 s2 ja1 s1 o1 s0
      refine wpS_bind (wpS_setG hG3 fun st4 hG4 => ?_)
      refine wpS_bind (wpS_elemA gb (by omega) fun x1 hx1 gx1 => ?_)
      refine wpS_bind (wpS_gallopG hk hG4 (by omega) (by omega) gx1 ga fun k hle => ?_)
      dsimp -zeta -zetaHave only
      extract_lets -underBinder +onlyGivenNames kc jp
      have K : ∀ o ja, ja + 1 < a.size ∧ PM a b o ja jb ∧ (a.size - ja) + (b.size - jb) ≤ (a.size - ia) + (b.size - ib) - 1 → wpS (model prog w) A E s (jp () o ja) (StP (fun c st' => Gs st st' ∧ LoQ a b ((a.size - ia) + (b.size - ib) - 1) c.1 c.2.1 c.2.2.1 c.2.2.2.1) (fun c st' => Gs st st' ∧ c.1 = none ∧ LoQ a b ((a.size - ia) + (b.size - ib) - 1) c.1 c.2.1 c.2.2.1 c.2.2.2.1)) st4 := by
        clear k1 k3 k4 hle
        rintro o ja ⟨k1, k3, k4⟩
        dsimp -zeta -zetaHave only [jp]
        clear jp
        refine wpS_bind (wpS_elemA gb (by omega) fun x2 hx2 _ => ?_)
        have F2 := PM.two k3 hx2
        have q2 : (a.size - ja) + (b.size - (jb + 1)) + 1 ≤ (a.size - ia) + (b.size - ib) - 1 := by omega
        extract_lets -underBinder +onlyGivenNames o2 jb2
        change PM a b o2 ja jb2 at F2
        change (a.size - ja) + (b.size - jb2) + 1 ≤ (a.size - ia) + (b.size - ib) - 1 at q2
        have q3 : jb2 ≤ b.size := (by omega : jb + 1 ≤ b.size)
        clear_value o2 jb2
        refine wpS_ifb (fun e => wpS_pure ⟨hG4, F2.done⟩) fun e2 => ?_
        have q4 : jb2 < b.size := by omega
        clear q3 e2 k4 k3 hx2
        refine wpS_bind (wpS_elemA ga (by omega) fun x3 hx3 gx3 => ?_)
        refine wpS_bind (wpS_gallopG hk hG4 (by omega) (by omega) gx3 gb fun k2' hle2 => ?_)
        dsimp -zeta -zetaHave only
        extract_lets -underBinder +onlyGivenNames kc jp
        have K : ∀ o jb, jb < b.size ∧ PM a b o ja jb ∧ (a.size - ja) + (b.size - jb) + 1 ≤ (a.size - ia) + (b.size - ib) - 1 → wpS (model prog w) A E s (jp () o jb) (StP (fun c st' => Gs st st' ∧ LoQ a b ((a.size - ia) + (b.size - ib) - 1) c.1 c.2.1 c.2.2.1 c.2.2.2.1) (fun c st' => Gs st st' ∧ c.1 = none ∧ LoQ a b ((a.size - ia) + (b.size - ib) - 1) c.1 c.2.1 c.2.2.1 c.2.2.2.1)) st4 := by
          clear F2 hle2 q2 q4
          rintro o3 jb3 ⟨k5, F2, k4⟩
          dsimp -zeta -zetaHave only [jp]
          clear jp
          refine wpS_bind (wpS_elemA ga (by omega) fun x4 hx4 _ => ?_)
          have F4 := PM.one F2 hx4
          dsimp only
          refine wpS_ifb (fun e => wpS_pure ⟨hG4, F4.last⟩) fun e => ?_
          have m1 : ja + 1 + 1 < a.size := by omega
          have m2 : (a.size - (ja + 1)) + (b.size - jb3) ≤ (a.size - ia) + (b.size - ib) - 1 := by omega
          exact wpS_if (fun _ => wpS_pure ⟨hG4, m1, k5, F4, m2⟩) (fun _ => wpS_pure ⟨hG4, rfl, m1, k5, F4, m2⟩)
        clear_value jp
        refine wpS_if (fun e3 => ?_) (fun _ => K _ _ ⟨q4, F2, q2⟩)
        have F3 := PM.B F2 k2'
        refine wpS_ifb (fun e => wpS_pure ⟨hG4, F3.done⟩) fun e4 => ?_
        exact K _ _ ⟨by omega, F3, by omega⟩
      clear_value jp
      refine wpS_if (fun e1 => ?_) (fun _ => K _ _ ⟨k1, k3, k4⟩)
      have F1 := PM.A k3 k
      refine wpS_ifb (fun e => wpS_pure ⟨hG4, F1.last⟩) fun e0 => ?_
      refine wpS_ifb (fun e => wpS_pure ⟨hG4, F1.done⟩) fun e00 => ?_
      exact K _ _ ⟨by omega, F1, by omega⟩
    rintro ⟨r, o, ja, jb, mg', ac, bc⟩ st3 ⟨hG3, hL⟩
    dsimp -zeta -zetaHave only at hL ⊢
    cases r with
    | some r => exact wpS_pure ⟨hG3, r, rfl, hL⟩
    | none =>
      obtain ⟨k1, k2, k3, k4⟩ := hL
      exact wpS_bind (wpS_setG hG3 fun st4 hG4 => wpS_pure ⟨hG4, rfl, k1, k2, k3, by (try dsimp only); omega⟩)
end
end L2
set_option maxHeartbeats 4000000
namespace L2
open PySem PySem.Spec PyProof.Rows PySem.W
/-! ### merging from behind -/
def PH (a b out : Array Keyed) (na nb : Nat) : Prop := na ≤ a.size ∧ nb ≤ b.size ∧ (out.toList ++ (a.toList.take na ++ b.toList.take nb)).Perm (a.toList ++ b.toList)
section
variable {a b out : Array Keyed} {na nb k : Nat} {x : Keyed}
theorem take_at {l : Array Keyed} {i : Nat} (h1 : 1 ≤ i) (h : l[i - 1]? = some x) : l.toList.take i = l.toList.take (i - 1) ++ [x] := by
  rw [← Array.getElem?_toList] at h
  obtain ⟨j, rfl⟩ : ∃ j, i = j + 1 := ⟨i - 1, by omega⟩
  rw [Nat.add_sub_cancel] at h ⊢
  rw [List.take_add_one, h]
  rfl
theorem PH.one (h : PH a b out na nb) (h1 : 1 ≤ na) (hx : a[na - 1]? = some x) : PH a b (out.push x) (na - 1) nb := by
  obtain ⟨p, q, h⟩ := h
  refine ⟨by omega, q, ?_⟩
  rw [take_at h1 hx] at h
  refine List.Perm.trans ?_ h
  simp only [Array.toList_push, List.append_assoc, List.singleton_append]
  exact List.Perm.append_left _ List.perm_middle.symm
theorem PH.two (h : PH a b out na nb) (h1 : 1 ≤ nb) (hx : b[nb - 1]? = some x) : PH a b (out.push x) na (nb - 1) := by
  obtain ⟨p, q, h⟩ := h
  refine ⟨p, by omega, ?_⟩
  rw [take_at h1 hx] at h
  refine List.Perm.trans ?_ h
  simp only [Array.toList_push, List.append_assoc, List.singleton_append]
  refine List.Perm.append_left _ ?_
  have := List.perm_append_comm (l₁ := [x]) (l₂ := a.toList.take na ++ b.toList.take (nb - 1))
  rw [List.append_assoc] at this
  exact this
theorem ext_rev {l : Array Keyed} {i j : Nat} : ((l.extract i j).reverse).toList.Perm ((l.toList.take j).drop i) := by
  rw [Array.toList_reverse, ext_list, List.drop_take]
  exact List.reverse_perm _
theorem take_two {l : List Keyed} {i j : Nat} (h : i ≤ j) : l.take j = l.take i ++ (l.take j).drop i := by
  conv => lhs; rw [← List.take_append_drop i (l.take j)]
  rw [List.take_take, Nat.min_eq_left h]
theorem PH.A (h : PH a b out na nb) (hk : k ≤ na) : PH a b (out ++ (a.extract k na).reverse) k nb := by
  obtain ⟨p, q, h⟩ := h
  refine ⟨by omega, q, ?_⟩
  rw [take_two hk] at h
  refine List.Perm.trans ?_ h
  rw [Array.toList_append, List.append_assoc, List.append_assoc]
  refine List.Perm.append_left _ ?_
  refine (List.Perm.append_right _ ext_rev).trans ?_
  rw [← List.append_assoc, ← List.append_assoc]
  exact List.Perm.append_right _ List.perm_append_comm
theorem PH.B (h : PH a b out na nb) (hk : k ≤ nb) : PH a b (out ++ (b.extract k nb).reverse) na k := by
  obtain ⟨p, q, h⟩ := h
  refine ⟨p, by omega, ?_⟩
  rw [take_two hk] at h
  refine List.Perm.trans ?_ h
  rw [Array.toList_append, List.append_assoc]
  refine List.Perm.append_left _ ?_
  refine (List.Perm.append_right _ ext_rev).trans ?_
  have := List.perm_append_comm (l₁ := (b.toList.take nb).drop k) (l₂ := a.toList.take na ++ b.toList.take k)
  rw [List.append_assoc] at this
  exact this
theorem ext_ini {l : Array Keyed} {i : Nat} : (l.extract 0 i).toList = l.toList.take i := by
  rw [ext_list]
  simp
theorem PH.done (h : PH a b out na nb) : (a.extract 0 na ++ b.extract 0 nb ++ out.reverse).toList.Perm (a.toList ++ b.toList) := by
  refine List.Perm.trans ?_ h.2.2
  rw [Array.toList_append, Array.toList_append, ext_ini, ext_ini, Array.toList_reverse]
  exact List.perm_append_comm.trans (List.Perm.append_right _ (List.reverse_perm _))
theorem PH.first (h : PH a b out na nb) : (b.extract 0 nb ++ a.extract 0 na ++ out.reverse).toList.Perm (a.toList ++ b.toList) := by
  refine List.Perm.trans ?_ h.2.2
  rw [Array.toList_append, Array.toList_append, ext_ini, ext_ini, Array.toList_reverse]
  exact List.perm_append_comm.trans (List.Perm.append (List.reverse_perm _) List.perm_append_comm)
end
section
variable {prog : Program} {w : World} {A : Around} {E : Value → Shared → Prop} {s : Shared} {m : Nat} {κ : Bool}
def HiQ (a b : Array Keyed) (N : Nat) : Option (Array Keyed) → Array Keyed → Nat → Nat → Prop
  | some r, _, _, _ => r.toList.Perm (a.toList ++ b.toList)
  | none, out, na, nb => 1 ≤ na ∧ 2 ≤ nb ∧ PH a b out na nb ∧ na + nb ≤ N
set_option maxHeartbeats 2000000 in
theorem wpS_mergeHi {a b : Array Keyed} {st : SortSt} {Q : Array Keyed → SortSt → Prop} (h1 : 1 ≤ a.size) (h2 : 1 ≤ b.size) (ga : AllG s m a) (gb : AllG s m b) (hk : kindOf st = tuples' κ) (h : ∀ r st', r.toList.Perm (a.toList ++ b.toList) → Gs st st' → Q r st') :
    wpS (model prog w) A E s (mergeHi' a b) Q st := by
  refine wpS_bind (wpS_rule ?_)
  obtain ⟨a0, ha0, ga0⟩ := ga.at (i := a.size - 1) (by omega)
  refine wpS_bind (wpS_elem ha0 ?_)
  dsimp -zeta -zetaHave only
  have p0 : PH a b #[a0] (a.size - 1) b.size := PH.one (out := #[]) (na := a.size) (nb := b.size) ⟨Nat.le_refl _, Nat.le_refl _, by rw [List.take_of_length_le (by simp), List.take_of_length_le (by simp)]; exact .refl _⟩ h1 ha0
  refine wpS_ifb (fun e => wpS_pure (h _ _ p0.done Gs.refl)) (fun e => ?_)
  refine wpS_ifb (fun e => wpS_pure (h _ _ p0.first Gs.refl)) (fun e => ?_)
  refine wpS_bind (wpS_get ?_)
  refine wpS_bind (wpS_mono (wpS_loop (fun i (c : Option (Array Keyed) × Nat × Nat × Array Keyed × Nat) st' => Gs st st' ∧ c.1 = none ∧ HiQ a b (a.size + b.size - 1 - i) c.1 c.2.2.2.1 c.2.1 c.2.2.1) (Q := fun c st' => Gs st st' ∧ ∃ r, c.1 = some r ∧ r.toList.Perm (a.toList ++ b.toList)) ?st0 ?en0 ?in0) ?ct0)
  case en0 =>
    rintro ⟨r, na, nb, out, mg⟩ st' ⟨hG, hc, hL⟩
    dsimp only at hc hL
    subst hc
    obtain ⟨g1, g2, _, g4⟩ := hL
    omega
  case in0 => exact ⟨Gs.refl, rfl, by (try dsimp only); omega, by (try dsimp only); omega, p0, by (try dsimp only); omega⟩
  case ct0 =>
    rintro ⟨r, na, nb, out, mg⟩ st5 ⟨hG, r', hc, hP⟩
    dsimp only at hc
    subst hc
    exact wpS_pure (h _ _ hP hG)
  rintro i ⟨r, na, nb, out, mg⟩ st1 _ hi ⟨hG, hc, hL⟩
  dsimp only at hc hL
  subst hc
  obtain ⟨g1, g2, g3, g4⟩ := hL
  have hk1 : kindOf st1 = tuples' κ := hG.kind.trans hk
  refine wpS_bind (wpS_mono (wpS_loop (fun j (c : Option (Array Keyed) × Nat × Nat × Array Keyed × Nat × Nat) st' => st' = st1 ∧ c.1 = none ∧ HiQ a b (na + nb - j) c.1 c.2.2.2.1 c.2.1 c.2.2.1) (Q := fun c st' => st' = st1 ∧ HiQ a b (na + nb - 1) c.1 c.2.2.2.1 c.2.1 c.2.2.1) ?st1 ?en1 ?in1) ?ct1)
  case en1 =>
    rintro ⟨r, ja, jb, o, ac, bc⟩ st' ⟨e1, hc, hL⟩
    dsimp only at hc hL
    subst hc
    obtain ⟨f1, f2, f3, f4⟩ := hL
    exact ⟨e1, f1, f2, f3, by (try dsimp only); omega⟩
  case in1 => exact ⟨rfl, rfl, g1, g2, g3, by (try dsimp only); omega⟩
  case st1 =>
    rintro j ⟨r, ja, jb, o, ac, bc⟩ st2 _ hj ⟨e1, hc, hL⟩
    dsimp only at hc hL
    subst hc e1
    obtain ⟨f1, f2, f3, f4⟩ := hL
    have q1 := f3.1
    have q2 := f3.2.1
    refine wpS_bind (wpS_elemA gb (show jb - 1 < b.size by omega) fun y hy gy => wpS_bind (wpS_elemA ga (show ja - 1 < a.size by omega) fun x hx gx => wpS_bind (wpS_lt2 hk1 gy gx fun v => ?_)))
    dsimp only
    refine wpS_if (fun _ => ?_) (fun _ => ?_)
    · refine wpS_bind (wpS_elemA ga (show ja - 1 < a.size by omega) fun y2 hy2 _ => ?_)
      exact wpS_ifb (fun e => wpS_pure ⟨rfl, (f3.one f1 hy2).done⟩) fun e => wpS_if (fun _ => wpS_pure ⟨rfl, (show 1 ≤ ja - 1 by omega), f2, f3.one f1 hy2, by (try dsimp only); omega⟩) (fun _ => wpS_pure ⟨rfl, rfl, (show 1 ≤ ja - 1 by omega), f2, f3.one f1 hy2, by (try dsimp only); omega⟩)
    · refine wpS_bind (wpS_elemA gb (show jb - 1 < b.size by omega) fun y2 hy2 _ => ?_)
      exact wpS_ifb (fun e => wpS_pure ⟨rfl, (f3.two (by omega) hy2).first⟩) fun e => wpS_if (fun _ => wpS_pure ⟨rfl, f1, (show 2 ≤ jb - 1 by omega), f3.two (by omega) hy2, by (try dsimp only); omega⟩) (fun _ => wpS_pure ⟨rfl, rfl, f1, (show 2 ≤ jb - 1 by omega), f3.two (by omega) hy2, by (try dsimp only); omega⟩)
  rintro ⟨r, ja, jb, o, ac, bc⟩ st2 ⟨e1, hL⟩
  subst e1
  dsimp -zeta -zetaHave only at hL ⊢
  cases r with
  | some r => exact wpS_pure ⟨hG, r, rfl, hL⟩
  | none =>
    obtain ⟨f1, f2, f3, f4⟩ := hL
    refine wpS_bind (wpS_rule (wpS_bind (wpS_mono (wpS_loop (fun j (c : Option (Array Keyed) × Nat × Nat × Array Keyed × Nat × Nat × Nat) st' => Gs st st' ∧ c.1 = none ∧ HiQ a b (na + nb - 1) c.1 c.2.2.2.1 c.2.1 c.2.2.1) (Q := fun c st' => Gs st st' ∧ HiQ a b (na + nb - 1) c.1 c.2.2.2.1 c.2.1 c.2.2.1) ?st2 ?en2 ?in2) ?ct2)))
    case en2 =>
      rintro ⟨r, ja, jb, o, mg, ac, bc⟩ st' ⟨e1, hc, hL⟩
      exact ⟨e1, hL⟩
    case in2 => exact ⟨hG, rfl, f1, f2, f3, f4⟩
    case st2 =>
      rintro j ⟨r, ja, jb, o, mg2, ac2, bc2⟩ st3 _ hj ⟨hG3, hc, hL⟩
      dsimp only at hc hL
      subst hc
      obtain ⟨k1, k2, k3, k4⟩ := hL
      have q1 := k3.1
      have q2 := k3.2.1
      dsimp -zeta -zetaHave only
      extract_lets -underBinder +onlyGivenNames s0 ja1 s1 jb1 s2 o1 s3 mg1 s4 ac1 bc1 jp
      suffices K : ∀ g, wpS (model prog w) A E s (jp () g) (StP (fun c st' => Gs st st' ∧ HiQ a b (na + nb - 1) c.1 c.2.2.2.1 c.2.1 c.2.2.1) (fun c st' => Gs st st' ∧ c.1 = none ∧ HiQ a b (na + nb - 1) c.1 c.2.2.2.1 c.2.1 c.2.2.1)) st3 from wpS_if (fun _ => K _) (fun _ => K _)
      intro mg3
      dsimp -zeta -zetaHave only [jp, o1, s0, ja1, s1, jb1, s2, bc1, s3, s4, ac1]
      clear jp bc1 ac1 s4 mg1 s3 o1 s2 jb1 s1 ja1 s0
      refine wpS_bind (wpS_setG hG3 fun st4 hG4 => ?_)
      refine wpS_bind (wpS_elemA gb (by omega) fun x1 hx1 gx1 => ?_)
      refine wpS_bind (wpS_gallopG hk hG4 (by omega) (by omega) gx1 ga fun k hle => ?_)
      dsimp -zeta -zetaHave only
      extract_lets -underBinder +onlyGivenNames kd kc jp
      have K : ∀ ja o, 1 ≤ ja ∧ PH a b o ja jb ∧ ja + jb ≤ na + nb - 1 → wpS (model prog w) A E s (jp () ja o) (StP (fun c st' => Gs st st' ∧ HiQ a b (na + nb - 1) c.1 c.2.2.2.1 c.2.1 c.2.2.1) (fun c st' => Gs st st' ∧ c.1 = none ∧ HiQ a b (na + nb - 1) c.1 c.2.2.2.1 c.2.1 c.2.2.1)) st4 := by
        clear k1 k3 k4 hle q1
        rintro ja o ⟨k1, k3, k4⟩
        have q1 := k3.1
        dsimp -zeta -zetaHave only [jp]
        clear jp
        extract_lets -underBinder +onlyGivenNames jb2
        refine wpS_bind (wpS_elemA gb (show jb - 1 < b.size by omega) fun x2 hx2 _ => ?_)
        have F2 := PH.two k3 (by omega) hx2
        have q4 : ja + (jb - 1) ≤ na + nb - 1 := by omega
        extract_lets -underBinder +onlyGivenNames o2
        change PH a b o2 ja jb2 at F2
        change ja + jb2 ≤ na + nb - 1 at q4
        have q3 : 1 ≤ jb2 := (by omega : 1 ≤ jb - 1)
        clear_value o2 jb2
        refine wpS_ifb (fun e => wpS_pure ⟨hG4, F2.first⟩) fun e2 => ?_
        have q5 : 2 ≤ jb2 := by omega
        have q6 := F2.2.1
        clear q3 e2 k4 k3 hx2
        refine wpS_bind (wpS_elemA ga (by omega) fun x3 hx3 gx3 => ?_)
        refine wpS_bind (wpS_gallopG hk hG4 (by omega) (by omega) gx3 gb fun k2' hle2 => ?_)
        dsimp -zeta -zetaHave only
        extract_lets -underBinder +onlyGivenNames kd kc jp
        have K : ∀ jb o, 2 ≤ jb ∧ PH a b o ja jb ∧ ja + jb ≤ na + nb - 1 → wpS (model prog w) A E s (jp () jb o) (StP (fun c st' => Gs st st' ∧ HiQ a b (na + nb - 1) c.1 c.2.2.2.1 c.2.1 c.2.2.1) (fun c st' => Gs st st' ∧ c.1 = none ∧ HiQ a b (na + nb - 1) c.1 c.2.2.2.1 c.2.1 c.2.2.1)) st4 := by
          clear F2 hle2 q4 q5 q6
          rintro jb3 o3 ⟨k5, F2, k4⟩
          dsimp -zeta -zetaHave only [jp]
          clear jp
          refine wpS_bind (wpS_elemA ga (show ja - 1 < a.size by omega) fun x4 hx4 _ => ?_)
          have F4 := PH.one F2 (by omega) hx4
          dsimp only
          refine wpS_ifb (fun e => wpS_pure ⟨hG4, F4.done⟩) fun e => ?_
          have m1 : 1 ≤ ja - 1 := by omega
          have m2 : ja - 1 + jb3 ≤ na + nb - 1 := by omega
          exact wpS_if (fun _ => wpS_pure ⟨hG4, m1, k5, F4, m2⟩) (fun _ => wpS_pure ⟨hG4, rfl, m1, k5, F4, m2⟩)
        clear_value jp
        refine wpS_if (fun e3 => ?_) (fun _ => K _ _ ⟨q5, F2, q4⟩)
        have F3 := PH.B F2 hle2
        refine wpS_ifb (fun e => wpS_pure ⟨hG4, F3.first⟩) fun e4 => ?_
        refine wpS_ifb (fun e => wpS_pure ⟨hG4, F3.done⟩) fun e5 => ?_
        exact K _ _ ⟨by omega, F3, by omega⟩
      clear_value jp
      refine wpS_if (fun e1 => ?_) (fun _ => K _ _ ⟨k1, k3, k4⟩)
      have F1 := PH.A k3 hle
      refine wpS_ifb (fun e => wpS_pure ⟨hG4, F1.done⟩) fun e0 => ?_
      exact K _ _ ⟨by omega, F1, by omega⟩
    rintro ⟨r, ja, jb, o, mg', ac, bc⟩ st3 ⟨hG3, hL⟩
    dsimp -zeta -zetaHave only at hL ⊢
    cases r with
    | some r => exact wpS_pure ⟨hG3, r, rfl, hL⟩
    | none =>
      obtain ⟨k1, k2, k3, k4⟩ := hL
      exact wpS_bind (wpS_setG hG3 fun st4 hG4 => wpS_pure ⟨hG4, rfl, k1, k2, k3, by (try dsimp only); omega⟩)
end
end L2
set_option maxHeartbeats 1000000
namespace L2
open PySem PySem.Spec PyProof.Rows PySem.W
/-- what stays while it is sorted -/
structure SK (κ : Bool) (a₀ : List Keyed) (pend : Array (Nat × Nat × Nat)) (st : SortSt) : Prop where
  kind : kindOf st = tuples' κ
  fail : failedOf st = none
  perm : (arrOf st).toList.Perm a₀
  pend : pendingOf st = pend
section
variable {prog : Program} {w : World} {A : Around} {E : Value → Shared → Prop} {s : Shared} {m : Nat} {κ : Bool} {a₀ : List Keyed} {pend : Array (Nat × Nat × Nat)} {st : SortSt}
theorem SK.size (h : SK κ a₀ pend st) : (arrOf st).size = a₀.length := by rw [← Array.length_toList]; exact h.perm.length_eq
theorem SK.all (h : SK κ a₀ pend st) (ha : ∀ x ∈ a₀, IT s.heap m x.1) : AllG s m (arrOf st) := fun x hx => ha x (h.perm.mem_iff.mp (Array.mem_toList_iff.mpr hx))
theorem wpS_ltAt2 {i j : Nat} {Q : Option Bool → SortSt → Prop} (h : SK κ a₀ pend st) (ha : ∀ x ∈ a₀, IT s.heap m x.1) (hi : i < a₀.length) (hj : j < a₀.length) (q : ∀ b, Q (some b) st) : wpS (model prog w) A E s (ltAt' i j) Q st := by
  rw [ltAt'_eq]
  refine wpS_bind (wpS_get ?_)
  exact wpS_bind (wpS_elemA (h.all ha) (by rw [h.size]; exact hi) fun x hx gx => wpS_bind (wpS_elemA (h.all ha) (by rw [h.size]; exact hj) fun y hy gy => wpS_lt2 h.kind gx gy q))
theorem SK.arr {xs : Array Keyed} (h : SK κ a₀ pend st) (hp : xs.toList.Perm (arrOf st).toList) : SK κ a₀ pend (setArr st xs) := ⟨h.kind, h.fail, hp.trans h.perm, h.pend⟩
theorem wpS_revP {i j : Nat} {Q : Unit → SortSt → Prop} (h : SK κ a₀ pend st) (q : ∀ st', SK κ a₀ pend st' → Q () st') : wpS (model prog w) A E s (reverseSlice' i j) Q st := by
  rw [reverseSlice'_eq]
  exact wpS_modify (q _ (h.arr (mirror_perm _ _ _ _).toList))
theorem wpS_movP {i j : Nat} {Q : Unit → SortSt → Prop} (h : SK κ a₀ pend st) (q : ∀ st', SK κ a₀ pend st' → Q () st') : wpS (model prog w) A E s (moveDown' i j) Q st := by
  rw [moveDown'_eq]
  exact wpS_modify (q _ (h.arr (bubble_perm _ _ _).toList))
theorem wpS_binP {lo n ok : Nat} {Q : Bool → SortSt → Prop} (h : SK κ a₀ pend st) (ha : ∀ x ∈ a₀, IT s.heap m x.1) (hn : lo + n ≤ a₀.length) (q : ∀ st', SK κ a₀ pend st' → Q true st') : wpS (model prog w) A E s (binarySort' lo n ok) Q st := by
  refine wpS_bind (wpS_mono (wpS_loop (fun _ (c : Option Bool × Unit) st' => c.1 = none ∧ SK κ a₀ pend st') (Q := fun c st' => c.1 = none ∧ SK κ a₀ pend st') ?st ?en ⟨rfl, h⟩) ?ct)
  case en => exact fun c st' z => z
  case ct =>
    rintro ⟨c, u⟩ st' ⟨hc, h'⟩
    dsimp only at hc ⊢
    subst hc
    exact wpS_pure (q st' h')
  rintro k ⟨c, u⟩ st1 _ hk ⟨hc, h1⟩
  dsimp only at hc ⊢
  subst hc
  refine wpS_bind (wpS_mono (wpS_loop (fun _ (c : Option Bool × Nat × Nat) st' => c.1 = none ∧ c.2.2 ≤ k ∧ SK κ a₀ pend st') (Q := fun c st' => c.1 = none ∧ SK κ a₀ pend st') ?st1 ?en1 ⟨rfl, Nat.le_refl _, h1⟩) ?ct1)
  case en1 => exact fun c st' z => ⟨z.1, z.2.2⟩
  case ct1 =>
    rintro ⟨c, l, r⟩ st' ⟨hc, h'⟩
    dsimp only at hc ⊢
    subst hc
    exact wpS_bind (wpS_movP h' fun st2 h2 => wpS_pure ⟨rfl, h2⟩)
  rintro i ⟨c, l, r⟩ st2 _ hi ⟨hc, hr, h2⟩
  dsimp only at hc hr ⊢
  subst hc
  refine wpS_if (fun e => wpS_pure ⟨rfl, h2⟩) fun e => ?_
  refine wpS_bind (wpS_ltAt2 h2 ha (by omega) (by omega) fun b => ?_)
  dsimp only
  exact wpS_if (fun _ => wpS_pure ⟨rfl, by (try dsimp only); omega, h2⟩) fun _ => wpS_pure ⟨rfl, hr, h2⟩
theorem wpS_countP {lo nrem : Nat} {Q : Option Nat → SortSt → Prop} (h : SK κ a₀ pend st) (ha : ∀ x ∈ a₀, IT s.heap m x.1) (hn : lo + nrem ≤ a₀.length) (h1 : 1 ≤ nrem) (q : ∀ n st', 1 ≤ n → n ≤ nrem → SK κ a₀ pend st' → Q (some n) st') : wpS (model prog w) A E s (countRun' lo nrem) Q st := by
  have asc : ∀ {a : Nat} {st1 : SortSt} {f : Nat → Option (Option Nat) × Nat → StateT SortSt Sem (ForInStep (Option (Option Nat) × Nat))} {R : Option (Option Nat) × Nat → SortSt → Prop}, 1 ≤ a → a ≤ nrem → SK κ a₀ pend st1 →
      (∀ i n st', 1 ≤ n → n < nrem → SK κ a₀ pend st' → wpS (model prog w) A E s (f i (none, n)) (StP (fun c st' => c.1 = none ∧ 1 ≤ c.2 ∧ c.2 ≤ nrem ∧ SK κ a₀ pend st') (fun c st' => c.1 = none ∧ c.2 = n + 1 ∧ SK κ a₀ pend st')) st') → (∀ n st', 1 ≤ n → n ≤ nrem → SK κ a₀ pend st' → R (none, n) st') →
      wpS (model prog w) A E s (forIn [a:nrem] ((none, a) : Option (Option Nat) × Nat) f) R st1 := fun {a st1 f R} ha1 han hs hf hR => by
    refine wpS_mono (wpS_loop (fun i (c : Option (Option Nat) × Nat) st' => c.1 = none ∧ c.2 = i ∧ SK κ a₀ pend st') (Q := fun c st' => c.1 = none ∧ 1 ≤ c.2 ∧ c.2 ≤ nrem ∧ SK κ a₀ pend st') ?_ ?_ ⟨rfl, rfl, hs⟩) ?_
    · rintro i ⟨c, n⟩ st2 h1 h2 ⟨hc, hi, h3⟩
      dsimp only at hc hi ⊢
      subst hc hi
      exact hf n n st2 (by omega) h2 h3
    · rintro ⟨c, n⟩ st2 ⟨hc, hi, h3⟩
      dsimp only at hc hi ⊢
      exact ⟨hc, by omega, by omega, h3⟩
    · rintro ⟨c, n⟩ st2 ⟨hc, h1, h2, h3⟩
      dsimp only at hc h1 h2 ⊢
      subst hc
      exact hR n st2 h1 h2 h3
  refine wpS_bind (asc (Nat.le_refl _) h1 h (fun i n' st3 l1 l2 h3 => ?_) fun n st1 n1 n2 h1 => ?_)
  · refine wpS_bind (wpS_ltAt2 h3 ha (by omega) (by omega) fun b => ?_)
    dsimp only
    exact wpS_if (fun _ => wpS_pure ⟨rfl, by (try dsimp only); omega, by (try dsimp only); omega, h3⟩) fun _ => wpS_pure ⟨rfl, rfl, h3⟩
  dsimp only
  refine wpS_ifb (fun e => wpS_pure (q n st1 n1 n2 h1)) fun e => ?_
  refine wpS_if (fun _ => ?_) fun _ => ?_
  · refine wpS_bind (wpS_ltAt2 h1 ha (by omega) (by omega) fun b => ?_)
    dsimp only
    refine wpS_if (fun _ => wpS_pure (q n st1 n1 n2 h1)) fun _ => ?_
    refine wpS_bind (wpS_revP h1 fun st2 h2 => ?_)
    refine wpS_bind (wpS_rule ?_)
    refine wpS_bind (wpS_mono (wpS_loop (fun i (c : Option (Option Nat) × Nat × Nat) st' => c.1 = none ∧ c.2.1 = i ∧ SK κ a₀ pend st') (Q := fun c st' => c.1 = none ∧ 1 ≤ c.2.1 ∧ c.2.1 ≤ nrem ∧ SK κ a₀ pend st') ?_ ?_ ⟨rfl, rfl, h2⟩) ?_)
    · rintro i ⟨c, n', neq⟩ st3 l1 l2 ⟨hc, hi, h3⟩
      dsimp only at hc hi ⊢
      subst hc hi
      refine wpS_bind (wpS_ltAt2 h3 ha (by omega) (by omega) fun b => ?_)
      dsimp only
      refine wpS_if (fun _ => ?_) fun _ => ?_
      · exact wpS_if (fun _ => wpS_bind (wpS_revP h3 fun st4 h4 => wpS_pure ⟨rfl, rfl, h4⟩)) fun _ => wpS_pure ⟨rfl, rfl, h3⟩
      · refine wpS_bind (wpS_ltAt2 h3 ha (by omega) (by omega) fun b => ?_)
        dsimp only
        exact wpS_if (fun _ => wpS_pure ⟨rfl, by (try dsimp only); omega, by (try dsimp only); omega, h3⟩) fun _ => wpS_pure ⟨rfl, rfl, h3⟩
    · rintro ⟨c, n', neq⟩ st3 ⟨hc, hi, h3⟩
      dsimp only at hc hi ⊢
      exact ⟨hc, by omega, by omega, h3⟩
    rintro ⟨c, n2', neq⟩ st4 ⟨hc, m1, m2, h4⟩
    dsimp only at hc m1 m2 ⊢
    subst hc
    dsimp only
    refine wpS_if (fun _ => ?_) fun _ => ?_
    · refine wpS_bind (wpS_revP h4 fun st6 h6 => ?_)
      refine wpS_bind (wpS_revP h6 fun st5 h5 => ?_)
      refine wpS_bind (asc (by omega) (by omega) h5 (fun i n' st3 l1 l2 h3 => ?_) fun n' st3 m1 m2 h3 => ?_)
      · refine wpS_bind (wpS_ltAt2 h3 ha (by omega) (by omega) fun b => ?_)
        dsimp only
        exact wpS_if (fun _ => wpS_pure ⟨rfl, by (try dsimp only); omega, by (try dsimp only); omega, h3⟩) fun _ => wpS_pure ⟨rfl, rfl, h3⟩
      dsimp only
      exact wpS_pure (q n' st3 m1 m2 h3)
    · refine wpS_bind (wpS_revP h4 fun st5 h5 => ?_)
      refine wpS_bind (asc (by omega) (by omega) h5 (fun i n' st3 l1 l2 h3 => ?_) fun n' st3 m1 m2 h3 => ?_)
      · refine wpS_bind (wpS_ltAt2 h3 ha (by omega) (by omega) fun b => ?_)
        dsimp only
        exact wpS_if (fun _ => wpS_pure ⟨rfl, by (try dsimp only); omega, by (try dsimp only); omega, h3⟩) fun _ => wpS_pure ⟨rfl, rfl, h3⟩
      dsimp only
      exact wpS_pure (q n' st3 m1 m2 h3)
  · refine wpS_bind (wpS_rule ?_)
    refine wpS_bind (wpS_mono (wpS_loop (fun i (c : Option (Option Nat) × Nat × Nat) st' => c.1 = none ∧ c.2.1 = i ∧ SK κ a₀ pend st') (Q := fun c st' => c.1 = none ∧ 1 ≤ c.2.1 ∧ c.2.1 ≤ nrem ∧ SK κ a₀ pend st') ?_ ?_ ⟨rfl, rfl, h1⟩) ?_)
    · rintro i ⟨c, n', neq⟩ st3 l1 l2 ⟨hc, hi, h3⟩
      dsimp only at hc hi ⊢
      subst hc hi
      refine wpS_bind (wpS_ltAt2 h3 ha (by omega) (by omega) fun b => ?_)
      dsimp only
      refine wpS_if (fun _ => ?_) fun _ => ?_
      · exact wpS_if (fun _ => wpS_bind (wpS_revP h3 fun st4 h4 => wpS_pure ⟨rfl, rfl, h4⟩)) fun _ => wpS_pure ⟨rfl, rfl, h3⟩
      · refine wpS_bind (wpS_ltAt2 h3 ha (by omega) (by omega) fun b => ?_)
        dsimp only
        exact wpS_if (fun _ => wpS_pure ⟨rfl, by (try dsimp only); omega, by (try dsimp only); omega, h3⟩) fun _ => wpS_pure ⟨rfl, rfl, h3⟩
    · rintro ⟨c, n', neq⟩ st3 ⟨hc, hi, h3⟩
      dsimp only at hc hi ⊢
      exact ⟨hc, by omega, by omega, h3⟩
    rintro ⟨c, n2', neq⟩ st4 ⟨hc, m1, m2, h4⟩
    dsimp only at hc m1 m2 ⊢
    subst hc
    dsimp only
    refine wpS_if (fun _ => ?_) fun _ => ?_
    · refine wpS_bind (wpS_revP h4 fun st6 h6 => ?_)
      refine wpS_bind (wpS_revP h6 fun st5 h5 => ?_)
      refine wpS_bind (asc (by omega) (by omega) h5 (fun i n' st3 l1 l2 h3 => ?_) fun n' st3 m1 m2 h3 => ?_)
      · refine wpS_bind (wpS_ltAt2 h3 ha (by omega) (by omega) fun b => ?_)
        dsimp only
        exact wpS_if (fun _ => wpS_pure ⟨rfl, by (try dsimp only); omega, by (try dsimp only); omega, h3⟩) fun _ => wpS_pure ⟨rfl, rfl, h3⟩
      dsimp only
      exact wpS_pure (q n' st3 m1 m2 h3)
    · refine wpS_bind (wpS_revP h4 fun st5 h5 => ?_)
      refine wpS_bind (asc (by omega) (by omega) h5 (fun i n' st3 l1 l2 h3 => ?_) fun n' st3 m1 m2 h3 => ?_)
      · refine wpS_bind (wpS_ltAt2 h3 ha (by omega) (by omega) fun b => ?_)
        dsimp only
        exact wpS_if (fun _ => wpS_pure ⟨rfl, by (try dsimp only); omega, by (try dsimp only); omega, h3⟩) fun _ => wpS_pure ⟨rfl, rfl, h3⟩
      dsimp only
      exact wpS_pure (q n' st3 m1 m2 h3)
end
end L2
set_option maxHeartbeats 1000000
namespace L2
open PySem PySem.Spec PyProof.Rows PySem.W
abbrev Rn := Nat × Nat × Nat
/-- runs one behind the other, from x to y -/
def RunsTo : List Rn → Nat → Nat → Prop
  | [], x, y => x = y
  | q :: r, x, y => q.1 = x ∧ 1 ≤ q.2.1 ∧ RunsTo r (x + q.2.1) y
theorem RunsTo.le : ∀ {l : List Rn} {x y : Nat}, RunsTo l x y → x ≤ y
  | [], _, _, h => Nat.le_of_eq h
  | q :: r, x, y, h => Nat.le_trans (Nat.le_add_right _ _) h.2.2.le
theorem RunsTo.snoc : ∀ {l : List Rn} {x y n p : Nat}, RunsTo l x y → 1 ≤ n → RunsTo (l ++ [(y, n, p)]) x (y + n)
  | [], x, y, n, p, h, hn => by cases h; exact ⟨rfl, hn, rfl⟩
  | q :: r, x, y, n, p, h, hn => ⟨h.1, h.2.1, h.2.2.snoc hn⟩
/-- two runs at i become one -/
theorem RunsTo.join : ∀ {l : List Rn} {x y i : Nat} {q u : Rn}, RunsTo l x y → l[i]? = some q → l[i + 1]? = some u → u.1 = q.1 + q.2.1 ∧ 1 ≤ q.2.1 ∧ 1 ≤ u.2.1 ∧ u.1 + u.2.1 ≤ y ∧ RunsTo ((l.set i (q.1, q.2.1 + u.2.1, q.2.2)).eraseIdx (i + 1)) x y
  | [], _, _, _, _, _, _, h1, _ => by simp at h1
  | [_], _, _, 0, _, _, _, _, h2 => by simp at h2
  | a :: b :: r, x, y, 0, q, u, h, h1, h2 => by
    simp at h1 h2
    subst h1 h2
    obtain ⟨e1, e2, f1, f2, f3⟩ := h
    have := f3.le
    refine ⟨by omega, e2, f2, by omega, ?_⟩
    simp only [List.set_cons_zero, List.eraseIdx_cons_succ, List.eraseIdx_cons_zero]
    refine ⟨e1, by dsimp only; omega, ?_⟩
    dsimp only
    rw [← Nat.add_assoc]
    exact f3
  | a :: r, x, y, i + 1, q, u, h, h1, h2 => by
    simp only [List.getElem?_cons_succ] at h1 h2
    obtain ⟨a1, a2, a3, a4, a5⟩ := h.2.2.join h1 h2
    refine ⟨a1, a2, a3, a4, ?_⟩
    simp only [List.set_cons_succ, List.eraseIdx_cons_succ]
    exact ⟨h.1, h.2.1, a5⟩
theorem seg_set {sa : Nat} : ∀ (l : List Keyed) (j : Nat) (arr : Array Keyed), sa + j + l.length ≤ arr.size → ((l.zipIdx j).foldl (fun a (x : Keyed × Nat) => a.setIfInBounds (sa + x.2) x.1) arr).toList = arr.toList.take (sa + j) ++ l ++ arr.toList.drop (sa + j + l.length)
  | [], j, arr, h => by simp
  | x :: l, j, arr, h => by
    rw [List.length_cons] at h
    rw [List.zipIdx_cons, List.foldl_cons, seg_set l (j + 1) _ (by rw [Array.size_setIfInBounds]; omega)]
    dsimp only
    rw [Array.toList_setIfInBounds, List.length_cons]
    have hl : sa + j < arr.toList.length := by rw [Array.length_toList]; omega
    have e1 : (arr.toList.set (sa + j) x).take (sa + (j + 1)) = arr.toList.take (sa + j) ++ [x] := by
      rw [← Nat.add_assoc, List.take_add_one, List.take_set_of_le (Nat.le_refl _), List.getElem?_set_self hl]
      rfl
    have e2 : (arr.toList.set (sa + j) x).drop (sa + (j + 1) + l.length) = arr.toList.drop (sa + j + (l.length + 1)) := by
      rw [List.drop_set_of_lt (by omega)]
      congr 1
      omega
    rw [e1, e2]
    simp
theorem seg_perm {arr : Array Keyed} {l : List Keyed} {i j : Nat} (hij : i ≤ j) (hj : j ≤ arr.size) (hp : l.Perm ((arr.toList.take j).drop i)) : ((l.zipIdx 0).foldl (fun a (x : Keyed × Nat) => a.setIfInBounds (i + x.2) x.1) arr).toList.Perm arr.toList := by
  have hl : l.length = j - i := by rw [hp.length_eq, List.length_drop, List.length_take, Array.length_toList]; omega
  rw [seg_set l 0 arr (by omega), Nat.add_zero, hl, show i + (j - i) = j by omega]
  have e : arr.toList = (arr.toList.take i ++ (arr.toList.take j).drop i) ++ arr.toList.drop j := by rw [← take_two hij, List.take_append_drop]
  conv => rhs; rw [e]
  exact List.Perm.append_right _ (List.Perm.append_left _ hp)
section
variable {prog : Program} {w : World} {A : Around} {E : Value → Shared → Prop} {s : Shared} {m : Nat} {κ : Bool} {a₀ : List Keyed} {st : SortSt}
structure SI (κ : Bool) (a₀ : List Keyed) (lo : Nat) (st : SortSt) : Prop where
  kind : kindOf st = tuples' κ
  fail : failedOf st = none
  perm : (arrOf st).toList.Perm a₀
  runs : RunsTo (pendingOf st).toList 0 lo
  hi : lo ≤ a₀.length
theorem wpS_setS {st' : SortSt} {Q : PUnit → SortSt → Prop} (h : Q ⟨⟩ st') : wpS (model prog w) A E s (set st' : StateT SortSt Sem PUnit) Q st := by
  unfold wpS
  rw [StateT.run_set]
  exact wpAny_pure ⟨rfl, h⟩
theorem AllG.ext {arr : Array Keyed} {i j : Nat} (h : AllG s m arr) : AllG s m (arr.extract i j) := fun x hx => h x (by
  rw [← Array.mem_toList_iff, ext_list] at hx
  exact Array.mem_toList_iff.mp (List.mem_of_mem_drop (List.mem_of_mem_take hx)))
theorem ext_two {arr : Array Keyed} {i b j : Nat} (h1 : i ≤ b) (h2 : b ≤ j) : (arr.extract i b).toList ++ (arr.extract b j).toList = (arr.toList.take j).drop i := by
  rw [ext_list, ext_list, List.drop_take, show j - i = (b - i) + (j - b) by omega, List.take_add, List.drop_drop, show i + (b - i) = b by omega]
theorem wpS_mergeAt {i lo : Nat} {Q : Bool → SortSt → Prop} (h : SI κ a₀ lo st) (ha : ∀ x ∈ a₀, IT s.heap m x.1) (hi : i + 1 < (pendingOf st).size) (q : ∀ st', SI κ a₀ lo st' → Q true st') : wpS (model prog w) A E s (mergeAt' i) Q st := by
  refine wpS_bind (wpS_get ?_)
  have hP : ∀ j, j < (pendingOf st).size → ∃ u, (pendingOf st)[j]? = some u := fun j hj => ⟨_, Array.getElem?_eq_getElem hj⟩
  obtain ⟨⟨sa, na, pw⟩, e1⟩ := hP i (by omega)
  obtain ⟨⟨sb, nb, pw2⟩, e2⟩ := hP (i + 1) hi
  obtain ⟨j1, j2, j3, j4, j5⟩ := h.runs.join (i := i) (by rw [Array.getElem?_toList]; exact e1) (by rw [Array.getElem?_toList]; exact e2)
  dsimp only at j1 j2 j3 j4 j5
  change wpS _ _ _ _ (match ((pendingOf st)[i]?, (pendingOf st)[i + 1]?) with | (some (sa, na, power), some (sb, nb, _)) => _ | _ => _) Q st
  rw [e1, e2]
  dsimp only
  have hz : (arrOf st).size = a₀.length := by rw [← Array.length_toList]; exact h.perm.length_eq
  have hA : AllG s m (arrOf st) := fun x hx => ha x (h.perm.mem_iff.mp (Array.mem_toList_iff.mpr hx))
  have hh := h.hi
  refine wpS_bind (wpS_setS ?_)
  have run' : RunsTo (((pendingOf st).setIfInBounds i (sa, na + nb, pw)).eraseIdxIfInBounds (i + 1)).toList 0 lo := by
    have : (((pendingOf st).setIfInBounds i (sa, na + nb, pw)).eraseIdxIfInBounds (i + 1)).toList = ((pendingOf st).toList.set i (sa, na + nb, pw)).eraseIdx (i + 1) := by
      rw [Array.eraseIdxIfInBounds, dif_pos (by rw [Array.size_setIfInBounds]; exact hi), Array.toList_eraseIdx, Array.toList_setIfInBounds]
    rw [this]
    exact j5
  have fin : ∀ st' : SortSt, kindOf st' = kindOf st → failedOf st' = failedOf st → (arrOf st').toList.Perm (arrOf st).toList → pendingOf st' = ((pendingOf st).setIfInBounds i (sa, na + nb, pw)).eraseIdxIfInBounds (i + 1) → SI κ a₀ lo st' := fun st' f1 f2 f3 f4 =>
    ⟨f1.trans h.kind, f2.trans h.fail, f3.trans h.perm, by rw [f4]; exact run', h.hi⟩
  refine wpS_bind (wpS_elemA hA (show sb < (arrOf st).size by omega) fun x hx gx => ?_)
  refine wpS_bind (wpS_gallop (m := m) (κ := κ) (show 0 < na by omega) (show sa + na ≤ (arrOf st).size by omega) gx hA h.kind fun k hk => ?_)
  dsimp only
  refine wpS_ifb (fun e => wpS_pure (q _ (fin _ rfl rfl (.refl _) rfl))) fun e => ?_
  refine wpS_bind (wpS_elemA hA (show sa + k + (na - k) - 1 < (arrOf st).size by omega) fun x' hx' gx' => ?_)
  refine wpS_bind (wpS_gallop (m := m) (κ := κ) (show nb - 1 < nb by omega) (show sb + nb ≤ (arrOf st).size by omega) gx' hA h.kind fun nb' hnb => ?_)
  dsimp only
  refine wpS_ifb (fun e => wpS_pure (q _ (fin _ rfl rfl (.refl _) rfl))) fun e3 => ?_
  have s1 : 1 ≤ ((arrOf st).extract (sa + k) sb).size := by rw [Array.size_extract]; omega
  have s2 : 1 ≤ ((arrOf st).extract sb (sb + nb')).size := by rw [Array.size_extract]; omega
  have seg : ∀ {r : Array Keyed}, r.toList.Perm (((arrOf st).extract (sa + k) sb).toList ++ ((arrOf st).extract sb (sb + nb')).toList) → (((r.toList.zipIdx 0).foldl (fun a (x : Keyed × Nat) => a.setIfInBounds (sa + k + x.2) x.1) (arrOf st)).toList.Perm (arrOf st).toList) := fun hr => by
    rw [ext_two (by omega) (by omega)] at hr
    exact seg_perm (by omega) (by omega) hr
  refine wpS_if (fun _ => ?_) fun _ => ?_
  · refine wpS_bind (wpS_mergeLo s1 s2 hA.ext hA.ext (κ := κ) h.kind fun r st' hr hG => wpS_bind (wpS_modify (wpS_bind (wpS_get ?_))))
    have : (failedOf st').isNone = true := by rw [hG.fail]; change (failedOf st).isNone = true; rw [h.fail]; rfl
    change wpS _ _ _ _ (pure (failedOf st').isNone) _ _
    rw [this]
    refine wpS_pure (q _ (fin _ hG.kind hG.fail ?_ hG.pend))
    have := seg hr
    rw [← show arrOf st' = arrOf st from hG.arr] at this
    exact this.trans (by rw [show arrOf st' = arrOf st from hG.arr])
  · refine wpS_bind (wpS_mergeHi s1 s2 hA.ext hA.ext (κ := κ) h.kind fun r st' hr hG => wpS_bind (wpS_modify (wpS_bind (wpS_get ?_))))
    have : (failedOf st').isNone = true := by rw [hG.fail]; change (failedOf st).isNone = true; rw [h.fail]; rfl
    change wpS _ _ _ _ (pure (failedOf st').isNone) _ _
    rw [this]
    refine wpS_pure (q _ (fin _ hG.kind hG.fail ?_ hG.pend))
    have := seg hr
    rw [← show arrOf st' = arrOf st from hG.arr] at this
    exact this.trans (by rw [show arrOf st' = arrOf st from hG.arr])
end
end L2
set_option maxHeartbeats 1000000
namespace L2
open PySem PySem.Spec PyProof.Rows PySem.W
theorem RunsTo.mod {f : Rn → Rn} (hf : ∀ q, (f q).1 = q.1 ∧ (f q).2.1 = q.2.1) : ∀ {l : List Rn} {x y : Nat} (i : Nat), RunsTo l x y → RunsTo (l.modify i f) x y
  | [], _, _, i, h => by cases i <;> exact h
  | q :: r, x, y, 0, h => by
    rw [List.modify_zero_cons]
    refine ⟨(hf q).1.trans h.1, by rw [(hf q).2]; exact h.2.1, by rw [(hf q).2]; exact h.2.2⟩
  | q :: r, x, y, i + 1, h => by
    rw [List.modify_succ_cons]
    exact ⟨h.1, h.2.1, h.2.2.mod hf i⟩
section
variable {prog : Program} {w : World} {A : Around} {E : Value → Shared → Prop} {s : Shared} {m : Nat} {κ : Bool} {a₀ : List Keyed} {st : SortSt}
abbrev setP (st : SortSt) (f : Array Rn → Array Rn) : SortSt := SortSt.mk' (kindOf st) (arrOf st) (f (pendingOf st)) (gallopOf st) (failedOf st)
theorem ite_lt1 {c : Prop} [Decidable c] {x y n : Nat} (h1 : x + 1 < n) (h2 : y + 1 < n) : (if c then x else y) + 1 < n := by split <;> assumption
theorem SI.mod {lo pw : Nat} (h : SI κ a₀ lo st) : SI κ a₀ lo (setP st fun p => p.modify (p.size - 1) fun q => (q.1, q.2.1, pw)) := by
  refine ⟨h.kind, h.fail, h.perm, ?_, h.hi⟩
  change RunsTo ((pendingOf st).modify _ _).toList 0 lo
  rw [Array.toList_modify]
  exact h.runs.mod (f := fun q => (q.1, q.2.1, pw)) (fun q => ⟨rfl, rfl⟩) _
theorem wpS_runs {Q : Unit → SortSt → Prop} (h : SI κ a₀ 0 st) (ha : ∀ x ∈ a₀, IT s.heap m x.1) (q : ∀ st', (arrOf st').toList.Perm a₀ → failedOf st' = none → Q () st') : wpS (model prog w) A E s sortRuns' Q st := by
  refine wpS_bind (wpS_get ?_)
  have hz : (arrOf st).size = a₀.length := by rw [← Array.length_toList]; exact h.perm.length_eq
  change wpS _ _ _ _ (forIn [0:(arrOf st).size] _ _ >>= _) _ _
  rw [hz]
  generalize hN : a₀.length = N
  refine wpS_bind (wpS_mono (wpS_loop (fun _ (c : Option Unit × Nat) st' => c.1 = none ∧ SI κ a₀ c.2 st') (Q := fun c st' => c.1 = none ∧ SI κ a₀ c.2 st') ?st ?en ⟨rfl, h⟩) ?ct)
  case en => exact fun c st' z => z
  case ct =>
    rintro ⟨c, lo⟩ st1 ⟨hc, h1⟩
    dsimp only at hc ⊢
    subst hc
    dsimp only
    refine wpS_bind (wpS_mono (wpS_loop (fun _ (c : Option Unit × Unit) st' => c.1 = none ∧ SI κ a₀ lo st') (Q := fun c st' => c.1 = none ∧ SI κ a₀ lo st') ?_ (fun c st' z => z) ⟨rfl, h1⟩) ?_)
    · rintro j ⟨c, u⟩ st3 _ hj ⟨hc, h4⟩
      refine wpS_bind (wpS_get ?_)
      refine wpS_if (fun _ => wpS_pure ⟨rfl, h4⟩) fun e => ?_
      have e' : ¬ (pendingOf st3).size ≤ 1 := e
      refine wpS_bind (wpS_mergeAt h4 ha (ite_lt1 (show (pendingOf st3).size - 2 - 1 + 1 < (pendingOf st3).size by omega) (show (pendingOf st3).size - 2 + 1 < (pendingOf st3).size by omega)) fun st4 h5 => ?_)
      exact wpS_if (fun e => absurd e (by decide)) fun _ => wpS_pure ⟨rfl, h5⟩
    · rintro ⟨c, u⟩ st3 ⟨hc, h4⟩
      dsimp only at hc ⊢
      subst hc
      exact wpS_pure (q _ h4.perm h4.fail)
  rintro i ⟨c, lo⟩ st1 _ hi ⟨hc, h1⟩
  dsimp only at hc h1 ⊢
  subst hc
  refine wpS_if (fun e => wpS_pure ⟨rfl, h1⟩) fun e => ?_
  have hlo := h1.hi
  refine wpS_bind (wpS_countP (pend := pendingOf st1) ⟨h1.kind, h1.fail, h1.perm, rfl⟩ ha (show lo + (N - lo) ≤ a₀.length by omega) (by omega) fun n st2 n1 n2 h2 => ?_)
  dsimp only
  refine wpS_if (fun e2 => ?_) fun e2 => ?_
  · refine wpS_bind (wpS_rule (wpS_bind (wpS_binP h2 ha (by omega) fun st2 h2 => ?_)))
    refine wpS_if (fun e => absurd e (by decide)) fun _ => ?_
    refine wpS_bind (wpS_get ?_)
    have h3 : SI κ a₀ lo st2 := ⟨h2.kind, h2.fail, h2.perm, by rw [h2.pend]; exact h1.runs, h1.hi⟩
    split
    · refine wpS_bind (wpS_mono (wpS_loop (fun _ (c : Option Unit × Unit) st' => c.1 = none ∧ SI κ a₀ lo st') (Q := fun c st' => c.1 = none ∧ SI κ a₀ lo st') ?_ (fun c st' z => z) ⟨rfl, h3⟩) ?_)
      · rintro j ⟨c, u⟩ st3 _ hj ⟨hc, h4⟩
        refine wpS_bind (wpS_get ?_)
        split
        · rename_i heq
          have hsz : 1 < (pendingOf st3).size := Nat.lt_of_not_le fun hle => by
            rw [if_neg (by exact Nat.not_lt.mpr hle)] at heq
            cases heq
          refine wpS_if (fun _ => wpS_pure ⟨rfl, h4⟩) fun _ => ?_
          refine wpS_bind (wpS_mergeAt h4 ha (show (pendingOf st3).size - 2 + 1 < (pendingOf st3).size by omega) fun st4 h5 => ?_)
          exact wpS_if (fun e => absurd e (by decide)) fun _ => wpS_pure ⟨rfl, h5⟩
        · exact wpS_pure ⟨rfl, h4⟩
      · rintro ⟨c, u⟩ st3 ⟨hc, h4⟩
        dsimp only at hc ⊢
        subst hc
        dsimp only
        refine wpS_bind (wpS_modify ?_)
        refine wpS_bind (wpS_modify (wpS_pure ⟨rfl, h4.kind, h4.fail, h4.perm, ?_, by (try dsimp only); omega⟩))
        change RunsTo ((pendingOf _).push _).toList 0 _
        rw [Array.toList_push]
        exact (h4.mod (pw := _)).runs.snoc (by omega)
    · have h5 := h3
      refine wpS_bind (wpS_modify (wpS_pure ⟨rfl, h5.kind, h5.fail, h5.perm, ?_, by (try dsimp only); omega⟩))
      change RunsTo ((pendingOf _).push _).toList 0 _
      rw [Array.toList_push]
      exact h5.runs.snoc (by omega)
  · refine wpS_bind (wpS_get ?_)
    have h3 : SI κ a₀ lo st2 := ⟨h2.kind, h2.fail, h2.perm, by rw [h2.pend]; exact h1.runs, h1.hi⟩
    split
    · refine wpS_bind (wpS_mono (wpS_loop (fun _ (c : Option Unit × Unit) st' => c.1 = none ∧ SI κ a₀ lo st') (Q := fun c st' => c.1 = none ∧ SI κ a₀ lo st') ?_ (fun c st' z => z) ⟨rfl, h3⟩) ?_)
      · rintro j ⟨c, u⟩ st3 _ hj ⟨hc, h4⟩
        refine wpS_bind (wpS_get ?_)
        split
        · rename_i heq
          have hsz : 1 < (pendingOf st3).size := Nat.lt_of_not_le fun hle => by
            rw [if_neg (by exact Nat.not_lt.mpr hle)] at heq
            cases heq
          refine wpS_if (fun _ => wpS_pure ⟨rfl, h4⟩) fun _ => ?_
          refine wpS_bind (wpS_mergeAt h4 ha (show (pendingOf st3).size - 2 + 1 < (pendingOf st3).size by omega) fun st4 h5 => ?_)
          exact wpS_if (fun e => absurd e (by decide)) fun _ => wpS_pure ⟨rfl, h5⟩
        · exact wpS_pure ⟨rfl, h4⟩
      · rintro ⟨c, u⟩ st3 ⟨hc, h4⟩
        dsimp only at hc ⊢
        subst hc
        dsimp only
        refine wpS_bind (wpS_modify ?_)
        refine wpS_bind (wpS_modify (wpS_pure ⟨rfl, h4.kind, h4.fail, h4.perm, ?_, by (try dsimp only); omega⟩))
        change RunsTo ((pendingOf _).push _).toList 0 _
        rw [Array.toList_push]
        exact (h4.mod (pw := _)).runs.snoc (by omega)
    · have h5 := h3
      refine wpS_bind (wpS_modify (wpS_pure ⟨rfl, h5.kind, h5.fail, h5.perm, ?_, by (try dsimp only); omega⟩))
      change RunsTo ((pendingOf _).push _).toList 0 _
      rw [Array.toList_push]
      exact h5.runs.snoc (by omega)
end
end L2
set_option maxHeartbeats 4000000
namespace L2
open PySem PySem.Spec PyProof.Rows PySem.W
section
variable {prog : Program} {w : World} {A : Around} {E : Value → Shared → Prop} {s : Shared}
theorem srtU_list {a : Addr} {m n : Nat} {vs : List Value} {P : PySem.Fin → Shared → Prop} (ho : s.heap.get? a = some (seqObj "list" vs.toArray n)) (hfew : vs.length ≤ 5000) (hv : ∀ v ∈ vs, IT s.heap m v) (hva : ∀ v ∈ vs, v ≠ .ref a)
    (h : ∀ h' (zs : List Value) c, zs.Perm vs → (∀ b o, b ≠ a → s.heap.get? b = some o → h'.get? b = some o) → h'.get? a = some (seqObj "list" zs.toArray c) → P (.done (.ret .none)) { s with heap := h' }) :
    wpAny (model prog w) A (Builtin.«list.sort» ⟨[.ref a], []⟩) P E s := by
  have ha : a < s.heap.objs.size := Heap.lt_size ho
  obtain ⟨e1, ho1⟩ : ∃ e1, (s.heap.update a (Obj.mapSeq fun _ => (#[] : Array Value))).get? a = some (seqObj "list" #[] e1) := ⟨_, get?_update_seq ho fun _ => #[]⟩
  have oth : ∀ b o, b ≠ a → s.heap.get? b = some o → (((s.heap.update a (Obj.mapSeq fun _ => (#[] : Array Value))).push (seqObj "tuple" vs.toArray 0)).push (seqObj "list" #[] 0)).get? b = some o := fun b o hb e =>
    Heap.get?_push_of_some _ (Heap.get?_push_of_some _ ((Heap.get?_update_other _ _ (Ne.symm hb)).trans e))
  have hoa : (((s.heap.update a (Obj.mapSeq fun _ => (#[] : Array Value))).push (seqObj "tuple" vs.toArray 0)).push (seqObj "list" #[] 0)).get? a = some (seqObj "list" #[] e1) := Heap.get?_push_of_some _ (Heap.get?_push_of_some _ ho1)
  rw [list_sort_plain]
  refine wpAny_bind (listItems_at ho rfl ?z1)
  refine wpAny_bind (listUpdate_at ho rfl ?z2 (by rw [List.size_toArray, sizeLine_eq]; omega) (Nat.zero_le _))
  refine wpAny_bind (seqEpoch_at ho1 rfl ?z3)
  refine wpAny_bind (wpAny_newTuple ?z4 (by change vs.length ≤ _; rw [sizeLine_eq]; omega))
  refine wpAny_bind (wpAny_newList ?z5 (Nat.zero_le _))
  refine wpAny_holding ?z6
  change wpAny (model prog w) A _ P E { s with heap := ((s.heap.update a (Obj.mapSeq fun _ => (#[] : Array Value))).push (seqObj "tuple" vs.toArray 0)).push (seqObj "list" #[] 0) }
  generalize ((s.heap.update a (Obj.mapSeq fun _ => (#[] : Array Value))).push (seqObj "tuple" vs.toArray 0)).push (seqObj "list" #[] 0) = h3 at oth hoa ⊢
  dsimp only
  by_cases hn2 : vs.toArray.size < 2
  · rw [if_pos hn2, if_pos hn2]
    refine wpAny_bind (wpAny_pure ?x1)
    rw [StateT.run_pure]
    refine wpAny_bind (wpAny_pure ?x2)
    dsimp only
    have hzz : (arrOf (SortSt.mk' general' (vs.toArray.zip vs.toArray) #[] 7 none)).map (·.2) = vs.toArray := by
      change (vs.toArray.zip vs.toArray).map (·.2) = vs.toArray
      apply Array.toList_inj.mp
      simp
      exact zip_snd vs
    obtain ⟨c2, hc2⟩ : ∃ c2, (h3.update a (Obj.mapSeq fun _ => vs.toArray)).get? a = some (seqObj "list" vs.toArray c2) := ⟨_, get?_update_seq hoa fun _ => vs.toArray⟩
    refine wpAny_bind (seqEpoch_at hoa rfl ?x3)
    rw [hzz]
    refine wpAny_bind (listUpdate_at hoa rfl ?x4 (Nat.zero_le _) (by change vs.length ≤ _; rw [sizeLine_eq]; omega))
    change wpAny _ _ _ _ _ _
    simp only [bne_self_eq_false, Bool.false_eq_true, if_false]
    exact wpAny_pure (h _ vs c2 (.refl _) (fun b o hb e => (Heap.get?_update_other _ _ (Ne.symm hb)).trans (oth b o hb e)) hc2)
  have h2 : 2 ≤ vs.length := by rw [List.size_toArray] at hn2; omega
  rw [if_neg hn2, if_neg hn2]
  have hv3 : ∀ v ∈ vs, IT h3 m v := fun v hm => (hv v hm).keep fun b o e g => oth b o (fun z => hva v hm (by rw [e, z])) g
  obtain ⟨fs, t1, t2, t3⟩ := tups_of hv3
  refine wpAny_bind (kat_kind (s := { s with heap := h3 }) (T := .type "int") t1 (by omega) (fun f hf => ?_) (by decide) ?_)
  · obtain ⟨i, t, rfl⟩ := t3 f hf
    exact .now
  have hzl : (vs.toArray.zip vs.toArray).toList = vs.zip vs := by simp
  have hzm : ∀ x ∈ vs.zip vs, IT h3 m x.1 := fun x hx => hv3 _ (List.of_mem_zip hx).1
  have run : wpS (model prog w) A E { s with heap := h3 } sortRuns' (fun _ st' => (arrOf st').toList.Perm (vs.zip vs) ∧ failedOf st' = none) (SortSt.mk' (tuples' (Value.type "int" != Value.type "tuple")) (vs.toArray.zip vs.toArray) #[] 7 none) :=
    wpS_runs (s := { s with heap := h3 }) (m := m) (κ := Value.type "int" != Value.type "tuple") (a₀ := vs.zip vs) ⟨rfl, rfl, by rw [show arrOf (SortSt.mk' (tuples' (Value.type "int" != Value.type "tuple")) (vs.toArray.zip vs.toArray) #[] 7 none) = vs.toArray.zip vs.toArray from rfl, hzl], rfl, Nat.zero_le _⟩ hzm fun st' h1 h2 => ⟨h1, h2⟩
  refine wpAny_bind (wpAny_mono run ?_ fun _ _ e => e)
  rintro ⟨⟨⟩, st'⟩ s' ⟨rfl, hP, hf⟩
  dsimp only at hP hf ⊢
  have hout : ((arrOf st').map (·.2)).toList.Perm vs := by
    rw [Array.toList_map]
    have := hP.map (·.2)
    rw [zip_snd] at this
    exact this
  generalize hzs : (arrOf st').map (·.2) = za at hout
  have hsz : za.size = vs.length := by rw [← Array.length_toList]; exact hout.length_eq
  obtain ⟨c2, hc2⟩ : ∃ c2, (h3.update a (Obj.mapSeq fun _ => za)).get? a = some (seqObj "list" za c2) := ⟨_, get?_update_seq hoa fun _ => za⟩
  refine wpAny_bind (seqEpoch_at hoa rfl ?y1)
  refine wpAny_bind (listUpdate_at hoa rfl ?y2 (Nat.zero_le _) (Nat.le_trans (Nat.le_of_eq hsz) (by rw [sizeLine_eq]; omega)))
  rw [hf]
  simp only [bne_self_eq_false, Bool.false_eq_true, if_false]
  exact wpAny_pure (h _ za.toList c2 hout (fun b o hb e => (Heap.get?_update_other _ _ (Ne.symm hb)).trans (oth b o hb e)) hc2)
theorem srtU_call {l : Addr} {m : Nat} {vs : List Value} {Q : Value → Shared → Prop} (hl : s.heap.IsList l vs.toArray) (hfew : vs.length ≤ 5000) (hv : ∀ v ∈ vs, IT s.heap m v)
    (h : ∀ h' (zs : List Value) c D, zs.Perm vs → s.heap.objs.size ≤ D → (∀ b o, s.heap.get? b = some o → h'.get? b = some o) → h'.get? D = some (seqObj "list" zs.toArray c) → Q (.ref D) { s with heap := h' }) :
    wpAny (model prog w) A (call (.builtin "sorted") [.ref l]) Q E s := by
  refine Calls.call_function_entry kind_sorted plain_sorted entry_sorted (args_sorted1 _) ?_
  unfold Builtin.«sorted»
  refine wpAny_bind (m := checkCount "sorted" 1 1 _) (wpAny_pure ?z1)
  refine wpAny_bind (collect_list hl ?z2 (by rw [sizeLine_eq]; omega))
  refine wpAny_bind (wpAny_newList ?z3 (by rw [sizeLine_eq]; omega))
  have hsz : ((s.heap.push (seqObj "list" #[] 0)).update s.heap.objs.size (Obj.mapSeq (· ++ vs.toArray))).objs.size = s.heap.objs.size + 1 := by
    rw [Heap.size_update, size_push']
  have hoL : (((s.heap.push (seqObj "list" #[] 0)).update s.heap.objs.size (Obj.mapSeq (· ++ vs.toArray))).push (seqObj "list" vs.toArray 0)).get? (s.heap.objs.size + 1) = some (seqObj "list" vs.toArray 0) := by
    rw [← hsz]; exact Heap.get?_push_size _ rfl
  have keep : ∀ b o, s.heap.get? b = some o → (((s.heap.push (seqObj "list" #[] 0)).update s.heap.objs.size (Obj.mapSeq (· ++ vs.toArray))).push (seqObj "list" vs.toArray 0)).get? b = some o := fun b o q => by
    have hlt : b < s.heap.objs.size := Heap.lt_size q
    rw [Heap.get?_push_ne _ _ _ (by rw [hsz]; exact Nat.ne_of_lt (Nat.lt_succ_of_lt hlt)), Heap.get?_update_ne _ _ _ _ (Nat.ne_of_lt hlt), Heap.get?_push_ne _ _ _ (Nat.ne_of_lt hlt)]
    exact q
  change wpAny _ _ _ _ _ { s with heap := ((s.heap.push (seqObj "list" #[] 0)).update s.heap.objs.size (Obj.mapSeq (· ++ vs.toArray))).push (seqObj "list" vs.toArray 0) }
  rw [hsz]
  generalize ((s.heap.push (seqObj "list" #[] 0)).update s.heap.objs.size (Obj.mapSeq (· ++ vs.toArray))).push (seqObj "list" vs.toArray 0) = h1 at hoL keep ⊢
  have nb : ∀ {b : Addr} {o : Obj}, s.heap.get? b = some o → b ≠ s.heap.objs.size + 1 := fun {b o} e => Nat.ne_of_lt (Nat.lt_succ_of_lt (Heap.lt_size e))
  refine wpAny_bind (wpAny_holding (wpAny_call_entry slot_list_sort ⟨_, hoL, rfl⟩ entry_list_sort ?body (args_list_sort _)))
  case body =>
    refine srtU_list (s := { s with heap := h1 }) (m := m) hoL hfew (fun v hm => (hv v hm).keep fun b o _ g => keep b o g) (fun v hm z => ?_) fun h' zs c hp hk hc => ⟨_, rfl, wpAny_pure ⟨_, rfl, h h' zs c _ hp (Nat.le_succ _) (fun b o e => hk b o (nb e) (keep b o e)) hc⟩⟩
    obtain ⟨b, o, xs, n, ns, e, g, _⟩ := hv v hm
    rw [e] at z
    exact nb g (by injection z)
end
section
variable {X : Cx}
theorem perm_pair {α γ : Type} {R : α → γ → Prop} {l l' : List γ} (h : l.Perm l') : ∀ {m : List α}, Paired R m l → ∃ m', m'.Perm m ∧ Paired R m' l' := by
  induction h with
  | nil => exact fun hm => ⟨_, .refl _, hm⟩
  | cons x _ ih =>
    intro m hm
    cases hm with
    | cons r t =>
      obtain ⟨m', h1, h2⟩ := ih t
      exact ⟨_ :: m', h1.cons _, .cons r h2⟩
  | swap x y l =>
    intro m hm
    cases hm with
    | cons r t =>
      cases t with
      | cons r' t' => exact ⟨_ :: _ :: _, .swap _ _ _, .cons r' (.cons r t')⟩
  | trans _ _ ih1 ih2 =>
    intro m hm
    obtain ⟨m1, h1, h2⟩ := ih1 hm
    obtain ⟨m2, h3, h4⟩ := ih2 h2
    exact ⟨m2, h3.trans h1, h4⟩
/-- three lists beside each other -/
theorem three {α β γ : Type} {R : α → β → Prop} {T : α → γ → Prop} : ∀ {xs : List α} {ys : List β} {zs : List γ}, Paired R xs ys → Paired T xs zs → Paired (fun (q : α × β) z => R q.1 q.2 ∧ T q.1 z) (xs.zip ys) zs
  | _, _, _, .nil, .nil => .nil
  | _, _, _, .cons r t, .cons r' t' => .cons ⟨r, r'⟩ (three t t')
theorem unzip1 {α β γ : Type} {R : α → β → Prop} {T : α → γ → Prop} : ∀ {ms : List (α × β)} {zs : List γ}, Paired (fun (q : α × β) z => R q.1 q.2 ∧ T q.1 z) ms zs → Paired R (ms.map (·.1)) (ms.map (·.2)) ∧ Paired T (ms.map (·.1)) zs
  | _, _, .nil => ⟨.nil, .nil⟩
  | _, _, .cons r t => ⟨.cons r.1 (unzip1 t).1, .cons r.2 (unzip1 t).2⟩
theorem zip_snd2 {α β : Type} : ∀ {xs : List α} {ys : List β}, xs.length = ys.length → (xs.zip ys).map (·.2) = ys
  | [], [], _ => rfl
  | x :: xs, y :: ys, h => by rw [List.zip_cons_cons, List.map_cons, zip_snd2 (by simpa using h)]
def rSortU : List V → Hp → VK → Prop := fun xs H Q => ∃ (p : Addr) (ys : List V) (ts : List Q4), xs = [.ref p] ∧ H p = some (.lst ys) ∧ Paired (Tq H) ys ts ∧ ts.length ≤ 5000 ∧ ∀ zs us, us.Perm ts → Paired (Tq H) zs us → ∀ l, H l = none → Q (.ref l) (upd H l (.lst zs))
theorem call_sortU : CallR X (.builtin "sorted") rSortU := by
  intro pins s σ H xs us Q I r h
  obtain ⟨p, ys, ts, rfl, e, hp, hfew, q⟩ := h
  obtain ⟨u, rfl, rx⟩ := vals1 r
  cases rx
  obtain ⟨z, its, n, rv, hl, eo⟩ := I.lstM e
  have hlt := hp.length
  have hIT : ∀ v ∈ its, IT s.heap 3 v := fun v hv => by
    obtain ⟨i, hi⟩ := List.mem_iff_getElem?.mp hv
    have hiy : i < ys.length := by have := (List.getElem?_eq_some_iff.mp hi).1; omega
    obtain ⟨t, ht, b, eb, hb⟩ := paired_get hp (List.getElem?_eq_getElem hiy)
    obtain ⟨v', hv', rvv⟩ := paired_get rv (List.getElem?_eq_getElem hiy)
    rw [hi] at hv'
    cases hv'
    rw [eb] at rvv
    cases rvv
    obtain ⟨_, tis, rt, ob, g1, g2, n3, g3⟩ := (show ObjOk X.prog X.w H s.heap b (.tup (q4 t)) from I.hok b _ hb)
    refine ⟨b, ob, tis.toArray, n3, [t.1, t.2.1, t.2.2.1, t.2.2.2], rfl, g1, g2, g3, ?_, rfl⟩
    exact ints_vals (ns := [t.1, t.2.1, t.2.2.1, t.2.2.2]) rt
  refine srtU_call (m := 3) ⟨_, eo, rfl, n, rfl⟩ (by omega) hIT fun h' zs c D hP hD hk hc => ?_
  obtain ⟨ms, m1, m2⟩ := perm_pair hP.symm (three hp rv)
  obtain ⟨u1, u2⟩ := unzip1 m2
  have hts : (ms.map (·.2)).Perm ts := by
    have := m1.map (·.2)
    rw [zip_snd2 hlt] at this
    exact this
  refine ⟨.ref D, _, I.laid (o := .lst (ms.map (·.1))) (t' := s.toks) hk hD ⟨?_, _, c, u2, hc⟩, rfl, q _ _ hts u1 D (I.hok.fresh hD)⟩
  have h1 := u1.length
  have h2 := hts.length_eq
  rw [sizeLine_eq]
  omega
end
end L2
/-! a test of four comparisons one behind the other. -/
namespace L2
open PySem PySem.Spec PyProof.Rows
def tChain4 (r1 r2 r3 r4 : R2) (ta tb tc td te : TE) : TT := fun σ H Q => ta σ H fun x H1 => tb σ H1 fun y H2 => r1 x y H2 fun z H3 => ∃ k, z = .bl k ∧ (if k = true then
  tc σ H3 fun u H4 => r2 y u H4 fun z H5 => ∃ k, z = .bl k ∧ (if k = true then
    td σ H5 fun v H6 => r3 u v H6 fun z H7 => ∃ k, z = .bl k ∧ (if k = true then
      te σ H7 fun w H8 => r4 v w H8 fun z H9 => ∃ k, z = .bl k ∧ Q k H9
    else Q false H7) else Q false H5) else Q false H3)
section
variable {X : Cx} {a b c d e : Expr} {ta tb tc td te : TE} {pos : Pos}
theorem pt_chain4 {o1 o2 o3 o4 : CmpOp} {r1 r2 r3 r4 : R2} (h1 : OpR X (compareOp o1) r1) (h2 : OpR X (compareOp o2) r2) (h3 : OpR X (compareOp o3) r3) (h4 : OpR X (compareOp o4) r4) (ha : PE X a ta) (hb : PE X b tb) (hc : PE X c tc) (hd : PE X d td) (he : PE X e te)
    (hm : lastMarks [o1, o2, o3, o4] [b, c, d, e] = false := by with_unfolding_all rfl) : PT X (.Compare a [o1, o2, o3, o4] [b, c, d, e] pos) (tChain4 r1 r2 r3 r4 ta tb tc td te) := by
  intro pins s σ H Q I h
  refine isTrue_chain (thn (ha pins s σ H _ I h) fun v s1 ⟨x, H1, I1, q1, g1⟩ => test_link (thn (hb pins s1 σ H1 _ I1 g1) fun u s2 ⟨y, H2, I2, q2, g2⟩ => thn (h1 pins s2 σ H2 x y v u _ I2 q1 q2 g2) fun m s3 ⟨z, H3, I3, q3, k, e3, g3⟩ => ?_)) hm
  subst e3
  cases q3
  refine wpAny_truthy_bool ?_
  cases k with
  | false => exact ite_ff ⟨H3, I3, g3⟩
  | true =>
    refine ite_tt (test_link (thn (hc pins s3 σ H3 _ I3 g3) fun u' s4 ⟨y', H4, I4, q4, g4⟩ => thn (h2 pins s4 σ H4 y y' u u' _ I4 q2 q4 g4) fun m' s5 ⟨z', H5, I5, q5, k', e5, g5⟩ => ?_))
    subst e5
    cases q5
    refine wpAny_truthy_bool ?_
    cases k' with
    | false => exact ite_ff ⟨H5, I5, g5⟩
    | true =>
      refine ite_tt (test_link (thn (hd pins s5 σ H5 _ I5 g5) fun u6 s6 ⟨y6, H6, I6, q6, g6⟩ => thn (h3 pins s6 σ H6 y' y6 u' u6 _ I6 q4 q6 g6) fun m7 s7 ⟨z7, H7, I7, q7, k7, e7, g7⟩ => ?_))
      subst e7
      cases q7
      refine wpAny_truthy_bool ?_
      cases k7 with
      | false => exact ite_ff ⟨H7, I7, g7⟩
      | true =>
        refine ite_tt (test_last (thn (he pins s7 σ H7 _ I7 g7) fun u8 s8 ⟨y8, H8, I8, q8, g8⟩ => thn (h4 pins s8 σ H8 y6 y8 u6 u8 _ I8 q6 q8 g8) fun m9 s9 ⟨z9, H9, I9, q9, k9, e9, g9⟩ => ?_))
        subst e9
        cases q9
        exact wpAny_truthy_bool ⟨H9, I9, g9⟩
end
end L2
namespace K65
open PySem L2
def top (i : Nat) : Stmt := PySem.Challenge.pw_roadnet_k65_whole_any_history.main.body.getD i (.Pass ⟨0, 0, 0, 0⟩)
section
variable {P : Program} {w : World} {K : PySem.W.Frag} {mg : Str → Option Value} {base : Heap}
abbrev s_is_text_of : Stmt := top 6
theorem sc_is_text_of : FnScope ["thing", "most", "first", "last"] ["thing", "most", "first", "last"] (defScope s_is_text_of) := ⟨rfl, rfl, rfl, by decide +kernel, rfl, by decide +kernel, by decide +kernel⟩
theorem cs_is_text_of_0 : CScope ["sign"] ["first", "last"] { kind := .function, names := [(".0", .local), ("sign", .local), ("first", .free), ("last", .free)], isGenerator := false, isCoroutine := false, more := [] } (defScope s_is_text_of) := ⟨rfl, by decide +kernel, by decide +kernel, by decide +kernel, by decide +kernel, by decide +kernel⟩
abbrev s_is_signs : Stmt := top 9
theorem sc_is_signs : FnScope ["thing"] ["thing"] (defScope s_is_signs) := ⟨rfl, rfl, rfl, by decide +kernel, rfl, by decide +kernel, by decide +kernel⟩
abbrev s_is_thing : Stmt := top 10
theorem sc_is_thing : FnScope ["thing"] ["thing"] (defScope s_is_thing) := ⟨rfl, rfl, rfl, by decide +kernel, rfl, by decide +kernel, by decide +kernel⟩
/-! ### texts of signs -/
def inB (f l c : Nat) : Bool := decide (f ≤ c) && decide (c ≤ l)
def txt (z : Str) (most f l : Nat) : Bool := decide (1 ≤ z.length) && decide (z.length ≤ most) && z.cps.toList.all (inB f l)
/-- a text of one sign -/
def one (c : Nat) : Str := ⟨#[c]⟩
theorem lt_one {a b : Nat} : decide ((one a).cps.toList < (one b).cps.toList) = decide (a < b) := by
  simp [one, List.cons_lt_cons_iff]
def sp_text : Sp := fun vs H Q _ => ∃ (v : V) (m f l : Nat) (t : String), vs = [v, .int m, .str (one f), .str (one l)] ∧ m ≤ 1000 ∧ tyX H v = some t ∧ (∀ z, v = .str z → z.length ≤ 100000) ∧
  ∀ H', Same H H' → Q (.bl (match v with | .str z => txt z m f l | _ => false)) H'
theorem own_text (D : Def K mg "is_text_of" s_is_text_of) (hb : Blt mg) : Own P w K mg base 1 "is_text_of" ["thing", "most", "first", "last"] sp_text := by
  refine D.own sc_is_text_of (fun _ _ _ _ _ _ us hl => match us, hl with | [_, _, _, _], _ => rfl) (fun vs H Q E h => ?_) (fun fn cdv A outer s H vs Q E hr h => ?_)
  · obtain ⟨v, m, f, l, t, rfl, _⟩ := h
    rfl
  · obtain ⟨v, m, f, l, t, rfl, hm, ht, hz, q⟩ := h
    have hu := hr.units
    refine ⟨_, (pss_cons (ps_if (PW.pt (pw_or (pt_not (pt_truX (pe_callB call_isiX rfl (hb _ (by decide)) bt_isinstance (pa_cons (pv 0) (pa_cons (pe_bltn (v := .ty "str") rfl (hb _ (by decide)) bt_str rfl) pa_nil))))) (pw_or1 (pt_not (pt_chain op_le op_le pe_int (pe_callB call_lenX rfl (hb _ (by decide)) bt_len (pa_cons (pv 0) pa_nil)) (pv 1))))))
      (pss_one (ps_ret pe_bl))
      pss_nil)
      (pss_one (ps_ret (pe_callB (call_allX rfl) rfl (hb _ (by decide)) bt_all (pa_cons (pe_comp ["sign"] ["first", "last"] [2, 3] rfl cs_is_text_of_0 (pi_str (pv 0)) (fun _ _ _ _ => (pg_name (i := 0) cs_is_text_of_0.nd rfl (by first | exact Or.inl rfl | exact Or.inr rfl))) (fun _ _ _ _ => pf_nil) (fun _ _ _ _ => (pe_chain op_leS op_leS (pv 1) (pv 0) (pv 2)))) pa_nil))))), ?_⟩
    by_cases hv : ∃ z, v = .str z
    · obtain ⟨z, rfl⟩ := hv
      have hz' := hz z rfl
      have hzl : z.length ≤ sizeLine := by rw [sizeLine_eq]; omega
      simp (maxSteps := 1000000) only [tComp_eq, rAllX, iStr, rIsIX, tyX_s, V.ty.injEq, kT_stst, rLenX, lenX_s', tTruX, truX_b, Nat.reduceSub, Nat.reduceAdd, V.ty.injEq, Bool.not_true, Bool.not_false, List.cons.injEq, tSeq, exists_and_left, if_false, if_true, Bool.false_eq_true, tIfS, tOr, tNot, tTest, tVar, tC, rI0, tRet, tNext, tCons, tNil, tCB, tChain, L2.start, List.map_cons, List.map_nil, List.length_cons, List.length_nil, List.replicate, List.getElem?_cons_zero, List.getElem?_cons_succ, Option.some.injEq, exists_eq_left', V.int.injEq, V.bl.injEq, V.str.injEq, and_true, and_assoc, List.append_nil, hzl]
      have e1 : decide (1 ≤ (z.length : Int)) = decide (1 ≤ z.length) := by apply decide_eq_decide.mpr; omega
      have e2 : decide ((z.length : Int) ≤ (m : Int)) = decide (z.length ≤ m) := by apply decide_eq_decide.mpr; omega
      rw [e1, e2]
      have q' := q
      simp only [txt] at q'
      by_cases h1 : 1 ≤ z.length
      · rw [decide_eq_true h1] at q' ⊢
        by_cases h2 : z.length ≤ m
        · rw [decide_eq_true h2] at q' ⊢
          refine iteT (iteF (comp_itvP (by rw [signs_len]; omega) (fun x => .bl (match x with | .str y => inB f l (y.cps.getD 0 0) | _ => false)) ?_ ?_ (gName_mono 0)))
          · intro H1 x Q' hx s1 hq
            obtain ⟨c, hc, rfl⟩ := List.mem_map.mp hx
            have ec : (⟨#[c]⟩ : Str) = one c := rfl
            simp only [ec] at hq ⊢
            simp (maxSteps := 1000000) only [rLeS, cSt, List.drop_succ_cons, List.drop_zero, exists_and_left, tVar, gName, tChain, List.map_cons, List.map_nil, List.replicate, List.cons_append, List.nil_append, List.getElem?_cons_zero, List.getElem?_cons_succ, List.set_cons_zero, Option.some.injEq, exists_eq_left', V.bl.injEq, V.str.injEq, true_and, List.map_cons, List.map_nil, Option.join_some, tChain, lt_one]
            have hq' : Q' (.bl (inB f l c)) H1 := hq
            unfold inB at hq'
            by_cases g1 : f ≤ c
            · rw [decide_eq_true g1, Bool.true_and] at hq'
              rw [decide_eq_false (by omega : ¬ c < f)]
              have : (!decide (l < c)) = decide (c ≤ l) := by by_cases g2 : c ≤ l <;> simp [g2] <;> omega
              simpa [this] using hq'
            · rw [decide_eq_false g1, Bool.false_and] at hq'
              rw [decide_eq_true (by omega : c < f)]
              simpa using hq'
          · intro D hD
            refine ⟨D, rfl, z.cps.toList.map (inB f l), ?_, ?_⟩
            · rw [upd_same]
              simp [signs]
            · have e3 : (z.cps.toList.map (inB f l)).all id = z.cps.toList.all (inB f l) := by simp [List.all_map]
              rw [e3]
              simpa using q' _ (Same.upd_new hD)
        · rw [decide_eq_false h2] at q' ⊢
          exact iteT (iteT (by simpa using q' H fun _ _ e => e))
      · rw [decide_eq_false h1] at q' ⊢
        exact iteF (by simpa using q' H fun _ _ e => e)
    · have q' := q H fun _ _ e => e
      have hk : kT t "str" = some false := by
        cases v with
        | non => cases ht; rfl
        | bl b => cases ht; rfl
        | int i => cases ht; rfl
        | str z => exact absurd ⟨z, rfl⟩ hv
        | ref p =>
          rw [tyX_r] at ht
          cases e : H p with
          | none => rw [e] at ht; cases ht
          | some o =>
            rw [e] at ht
            cases o <;> first | (cases ht; rfl) | cases ht
        | _ => cases ht
      simp (maxSteps := 1000000) only [tComp_eq, rAllX, iStr, rIsIX, V.ty.injEq, rLenX, tTruX, truX_b, Nat.reduceSub, Nat.reduceAdd, V.ty.injEq, Bool.not_false, List.cons.injEq, tSeq, exists_and_left, if_true, tIfS, tOr, tNot, tTest, tVar, tC, rI0, tRet, tNext, tCons, tNil, tCB, tChain, L2.start, List.map_cons, List.map_nil, List.length_cons, List.length_nil, List.replicate, List.getElem?_cons_zero, List.getElem?_cons_succ, Option.some.injEq, exists_eq_left', V.int.injEq, V.bl.injEq, and_true, and_assoc, List.append_nil, ht, hk]
      cases v <;> first | exact q' | exact absurd ⟨_, rfl⟩ hv
/-! ### things -/
inductive Good : PyData → Prop
  | beg : Good (.tuple [.str "begin"])
  | fin : Good (.tuple [.str "end"])
  | sgn (z : Str) (h : txt z 8 32 126 = true) (ok : PyData.strOk z = true) : Good (.tuple [.str "signs", .str z])
def word : PyData → Str
  | .tuple (.str a :: _) => a
  | _ => ""
theorem blank : Str.ofString " " = one 32 := by decide
theorem tilde : Str.ofString "~" = one 126 := by decide
def sp_signs : Sp := fun vs H Q _ => ∃ (p : Addr) (z : Str), vs = [.ref p] ∧ H p = some (.tup [.str "signs", .str z]) ∧ txt z 8 32 126 = true ∧ ∀ H', Same H H' → Q (.bl true) H'
theorem own_signs (D : Def K mg "is_signs" s_is_signs) (hb : Blt mg) (g_MOST_SIGNS : ∃ u, mg "MOST_SIGNS" = some u ∧ RelV (.int 8) u) (F_is_text_of : Own P w K mg base 1 "is_text_of" ["thing", "most", "first", "last"] sp_text) : Own P w K mg base 2 "is_signs" ["thing"] sp_signs := by
  refine D.own sc_is_signs (fun _ _ _ _ _ _ us hl => match us, hl with | [_], _ => rfl) (fun vs H Q E h => ?_) (fun fn cdv A outer s H vs Q E hr h => ?_)
  · obtain ⟨p, z, rfl, _⟩ := h
    rfl
  · obtain ⟨p, z, rfl, ep, hz, q⟩ := h
    have hu := hr.units
    have hu1 : (A.deeper (PyProof.Rows.envOfC "is_signs" (defScope s_is_signs) s.heap.objs.size fn cdv)).units + 1 < cLine := by omega
    have hl : z.length ≤ 8 := by simp [txt] at hz; omega
    refine ⟨_, (pss_one (ps_ret (pe_and (pe_cmpR op_eq (pe_callB call_lenX rfl (hb _ (by decide)) bt_len (pa_cons (pv 0) pa_nil)) pe_int (nomark _)) (pe_and (pe_cmpR op_eq (pe_ix (ix_get hu1) (pv 0) pe_int (fun _ _ => rfl)) pe_str (nomark _)) (pe_one (pe_fn F_is_text_of hr (pa_cons (pe_ix (ix_get hu1) (pv 0) pe_int (fun _ _ => rfl)) (pa_cons (pe_glb g_MOST_SIGNS) (pa_cons pe_str (pa_cons pe_str pa_nil)))))))))), ?_⟩
    simp (maxSteps := 1000000) only [rEq_ss, rGet, getO_t, rLenX, lenX_r, lenO_t, Option.bind_some, atI_0, atI_1, Nat.reduceSub, Nat.reduceAdd, decide_true, List.cons.injEq, rEq_ii, exists_and_left, if_true, tOp, tVar, tC, tRet, tAndV, tCall, tCons, tNil, tCB, L2.start, List.map_cons, List.map_nil, List.length_cons, List.length_nil, List.replicate, List.getElem?_cons_zero, Option.some.injEq, exists_eq_left', V.bl.injEq, V.ref.injEq, and_true, List.append_nil, ep]
    refine ⟨.str z, 8, 32, 126, "str", ?_, by decide, rfl, fun z' e => by cases e; omega, fun H' s' => ?_⟩
    · rw [← blank, ← tilde]
      rfl
    · show Q (.bl (txt z 8 32 126)) H'
      rw [hz]
      exact q H' s'
theorem eqX_w {H : Hp} {v : V} {d : PyData} {a : Str} {p : Addr} {Q : VK} {b : Bool} (hv : Im H v d) (hd : d.depth ≤ 60) (ok : PyData.strOk a = true) (e : H p = some (.tup [.str a])) (hb : PyData.eqv d (.tuple [.str a]) = b) (q : Q (.bl b) H) : rEqX v (.ref p) H Q :=
  ⟨_, _, hv.dt, (Im.tup e (.cons (.str ok) .nil) (by simp)).dt, hd, by simp [PyData.depth, PyData.depthAll], by rw [hb]; exact q⟩
theorem eqv_w1 {a b : Str} : PyData.eqv (.tuple [.str a]) (.tuple [.str b]) = decide (a = b) := by
  simp only [PyData.eqv, PyData.eqvAll, Bool.and_true]
  by_cases h : a = b <;> simp [h]
theorem eqv_w2 {a b c : Str} : PyData.eqv (.tuple [.str a, .str c]) (.tuple [.str b]) = false := by
  simp [PyData.eqv, PyData.eqvAll]
theorem dep1 {a : Str} : (PyData.tuple [.str a]).depth ≤ 60 := by simp [PyData.depth, PyData.depthAll]
theorem dep2 {a b : Str} : (PyData.tuple [.str a, .str b]).depth ≤ 60 := by simp [PyData.depth, PyData.depthAll]
def sp_thing : Sp := fun vs H Q _ => ∃ (v : V) (d : PyData), vs = [v] ∧ Im H v d ∧ Good d ∧ ∀ H', Same H H' → Q (.bl true) H'
theorem own_thing (D : Def K mg "is_thing" s_is_thing) (hb : Blt mg) (F_is_signs : Own P w K mg base 2 "is_signs" ["thing"] sp_signs) : Own P w K mg base 3 "is_thing" ["thing"] sp_thing := by
  refine D.own sc_is_thing (fun _ _ _ _ _ _ us hl => match us, hl with | [_], _ => rfl) (fun vs H Q E h => ?_) (fun fn cdv A outer s H vs Q E hr h => ?_)
  · obtain ⟨v, d, rfl, _⟩ := h
    rfl
  · obtain ⟨v, d, rfl, hv, hg, q⟩ := h
    have hu := hr.units
    refine ⟨_, (pss_cons (ps_if (pt_not (pt_truX (pe_callB call_isiX rfl (hb _ (by decide)) bt_isinstance (pa_cons (pv 0) (pa_cons (pe_bltn (v := .ty "tuple") rfl (hb _ (by decide)) bt_tuple rfl) pa_nil)))))
      (pss_one (ps_ret pe_bl))
      pss_nil)
      (pss_one (ps_ret (pe_or (pe_cmpR (op_eqX hu) (pv 0) (pe_tup (pa_cons pe_str pa_nil)) (nomark _)) (pe_or (pe_cmpR (op_eqX hu) (pv 0) (pe_tup (pa_cons pe_str pa_nil)) (nomark _)) (pe_one (pe_fn F_is_signs hr (pa_cons (pv 0) pa_nil)))))))), ?_⟩
    cases hv with
    | non => cases hg
    | bl b => cases hg
    | int n => cases hg
    | str ok => cases hg
    | @tup p xs ds ep m hl =>
      have hv : Im H (.ref p) (.tuple ds) := .tup ep m hl
      simp (maxSteps := 1000000) only [rIsIX, tyX_r, tyO_t, V.ty.injEq, kT_tutu, Option.bind_some, tTruX, truX_b, Nat.reduceSub, Nat.reduceAdd, V.ty.injEq, Bool.not_true, List.cons.injEq, tSeq, exists_and_left, if_false, Bool.false_eq_true, tIfS, tNot, tOp, tVar, tC, tRet, tNext, tOrV, tCall, tCons, tNil, tCB, tTup, L2.start, List.map_cons, List.map_nil, List.length_cons, List.length_nil, List.replicate, List.getElem?_cons_zero, Option.some.injEq, exists_eq_left', and_true, and_assoc, List.append_nil, ep]
      refine ⟨by decide, ?_⟩
      intro p1 n1
      generalize z1 : upd H p1 _ = H1
      have s1 := (new_same z1 n1).1
      have e1 := (new_same z1 n1).2
      cases hg with
      | beg => 
        exact eqX_w (hv.same s1) dep1 (strOk_of _) e1 (b := true) (by rw [eqv_w1]; decide) ⟨true, rfl, iteT (q _ s1)⟩
      | fin =>
        refine eqX_w (hv.same s1) dep1 (strOk_of _) e1 (b := false) (by rw [eqv_w1]; decide) ⟨false, rfl, iteF ⟨by decide, ?_⟩⟩
        intro p2 n2
        generalize z2 : upd H1 p2 _ = H2
        have s2 := (new_same z2 n2).1
        have e2 := (new_same z2 n2).2
        exact eqX_w ((hv.same s1).same s2) dep1 (strOk_of _) e2 (b := true) (by rw [eqv_w1]; decide) ⟨true, rfl, iteT (q _ (s1.trans s2))⟩
      | sgn z h ok =>
        refine eqX_w (hv.same s1) dep2 (strOk_of _) e1 (b := false) eqv_w2 ⟨false, rfl, iteF ⟨by decide, ?_⟩⟩
        intro p2 n2
        generalize z2 : upd H1 p2 _ = H2
        have s2 := (new_same z2 n2).1
        have e2 := (new_same z2 n2).2
        refine eqX_w ((hv.same s1).same s2) dep2 (strOk_of _) e2 (b := false) eqv_w2 ⟨false, rfl, iteF ?_⟩
        have ep2 := s2 _ _ (s1 _ _ ep)
        cases m with
        | cons m1 m2 =>
          cases m2 with
          | cons m3 m4 =>
            cases m4
            cases m1
            cases m3
            exact ⟨p, z, rfl, ep2, h, fun H' s' => q _ ((s1.trans s2).trans s')⟩
abbrev at_Teller : List Str := ["window", "wait", "base", "top", "state", "things", "goings"]
def fs_Teller (a0 a1 a2 a3 a4 a5 a6 : V) : List (Str × V) := [("window", a0), ("wait", a1), ("base", a2), ("top", a3), ("state", a4), ("things", a5), ("goings", a6)]
section
variable {a0 a1 a2 a3 a4 a5 a6 : V}
theorem fs_Teller_window : (fs_Teller a0 a1 a2 a3 a4 a5 a6).lookup ("window" : Str) = some a0 := rfl
theorem fs_Teller_wait : (fs_Teller a0 a1 a2 a3 a4 a5 a6).lookup ("wait" : Str) = some a1 := rfl
theorem fs_Teller_base : (fs_Teller a0 a1 a2 a3 a4 a5 a6).lookup ("base" : Str) = some a2 := rfl
theorem fs_Teller_top : (fs_Teller a0 a1 a2 a3 a4 a5 a6).lookup ("top" : Str) = some a3 := rfl
theorem fs_Teller_state : (fs_Teller a0 a1 a2 a3 a4 a5 a6).lookup ("state" : Str) = some a4 := rfl
theorem fs_Teller_things : (fs_Teller a0 a1 a2 a3 a4 a5 a6).lookup ("things" : Str) = some a5 := rfl
theorem fs_Teller_goings : (fs_Teller a0 a1 a2 a3 a4 a5 a6).lookup ("goings" : Str) = some a6 := rfl
theorem fn_Teller_stands : (fs_Teller a0 a1 a2 a3 a4 a5 a6).lookup ("stands" : Str) = none := rfl
theorem fn_Teller_put : (fs_Teller a0 a1 a2 a3 a4 a5 a6).lookup ("put" : Str) = none := rfl
theorem fn_Teller_many : (fs_Teller a0 a1 a2 a3 a4 a5 a6).lookup ("many" : Str) = none := rfl
theorem fn_Teller_go : (fs_Teller a0 a1 a2 a3 a4 a5 a6).lookup ("go" : Str) = none := rfl
theorem fn_Teller_place_to_go : (fs_Teller a0 a1 a2 a3 a4 a5 a6).lookup ("place_to_go" : Str) = none := rfl
theorem fn_Teller_heard : (fs_Teller a0 a1 a2 a3 a4 a5 a6).lookup ("heard" : Str) = none := rfl
theorem fl_Teller : ((fs_Teller a0 a1 a2 a3 a4 a5 a6).length < 1000) = True := by simp [fs_Teller]
theorem fp_Teller_base {v : V} : putF "base" v (fs_Teller a0 a1 a2 a3 a4 a5 a6) = fs_Teller a0 a1 v a3 a4 a5 a6 := by with_unfolding_all rfl
theorem fp_Teller_top {v : V} : putF "top" v (fs_Teller a0 a1 a2 a3 a4 a5 a6) = fs_Teller a0 a1 a2 v a4 a5 a6 := by with_unfolding_all rfl
theorem fp_Teller_state {v : V} : putF "state" v (fs_Teller a0 a1 a2 a3 a4 a5 a6) = fs_Teller a0 a1 a2 a3 v a5 a6 := by with_unfolding_all rfl
theorem fq_Teller_0 {v : V} : putF "window" v ([] : List (Str × V)) = ([("window", v)] : List (Str × V)) := by with_unfolding_all rfl
theorem fq_Teller_1 {v : V} : putF "wait" v ([("window", a0)] : List (Str × V)) = ([("window", a0), ("wait", v)] : List (Str × V)) := by with_unfolding_all rfl
theorem fq_Teller_2 {v : V} : putF "base" v ([("window", a0), ("wait", a1)] : List (Str × V)) = ([("window", a0), ("wait", a1), ("base", v)] : List (Str × V)) := by with_unfolding_all rfl
theorem fq_Teller_3 {v : V} : putF "top" v ([("window", a0), ("wait", a1), ("base", a2)] : List (Str × V)) = ([("window", a0), ("wait", a1), ("base", a2), ("top", v)] : List (Str × V)) := by with_unfolding_all rfl
theorem fq_Teller_4 {v : V} : putF "state" v ([("window", a0), ("wait", a1), ("base", a2), ("top", a3)] : List (Str × V)) = ([("window", a0), ("wait", a1), ("base", a2), ("top", a3), ("state", v)] : List (Str × V)) := by with_unfolding_all rfl
theorem fq_Teller_5 {v : V} : putF "things" v ([("window", a0), ("wait", a1), ("base", a2), ("top", a3), ("state", a4)] : List (Str × V)) = ([("window", a0), ("wait", a1), ("base", a2), ("top", a3), ("state", a4), ("things", v)] : List (Str × V)) := by with_unfolding_all rfl
theorem fq_Teller_6 {v : V} : putF "goings" v ([("window", a0), ("wait", a1), ("base", a2), ("top", a3), ("state", a4), ("things", a5)] : List (Str × V)) = fs_Teller a0 a1 a2 a3 a4 a5 v := by with_unfolding_all rfl
end
abbrev s_Teller___init__ : Stmt := inClass (top 11) 0
theorem sc_Teller___init__ : FnScope ["self", "window", "wait"] ["self", "window", "wait"] (defScope s_Teller___init__) := ⟨rfl, rfl, rfl, by decide +kernel, rfl, by decide +kernel, by decide +kernel⟩
abbrev s_Teller_put : Stmt := inClass (top 11) 2
theorem sc_Teller_put : FnScope ["self", "thing", "needed"] ["self", "thing"] (defScope s_Teller_put) := ⟨rfl, rfl, rfl, by decide +kernel, rfl, by decide +kernel, by decide +kernel⟩
abbrev s_Teller_many : Stmt := inClass (top 11) 3
theorem sc_Teller_many : FnScope ["self"] ["self"] (defScope s_Teller_many) := ⟨rfl, rfl, rfl, by decide +kernel, rfl, by decide +kernel, by decide +kernel⟩
abbrev s_Teller_go : Stmt := inClass (top 11) 5
theorem sc_Teller_go : FnScope ["self", "turn", "place"] ["self", "turn"] (defScope s_Teller_go) := ⟨rfl, rfl, rfl, by decide +kernel, rfl, by decide +kernel, by decide +kernel⟩
abbrev s_Teller_place_to_go : Stmt := inClass (top 11) 6
theorem sc_Teller_place_to_go : FnScope ["self", "turn"] ["self", "turn"] (defScope s_Teller_place_to_go) := ⟨rfl, rfl, rfl, by decide +kernel, rfl, by decide +kernel, by decide +kernel⟩
abbrev s_Teller_heard : Stmt := inClass (top 11) 7
theorem sc_Teller_heard : FnScope ["self", "got"] ["self", "got"] (defScope s_Teller_heard) := ⟨rfl, rfl, rfl, by decide +kernel, rfl, by decide +kernel, by decide +kernel⟩
structure TellAt (C : Addr) (H : Hp) (x dx pl pg : Addr) (W T b t : Int) (st : Str) (vs : List V) (kvs : List (Key × V)) : Prop where
  ins : H x = some (.ins C dx (fs_Teller (.int W) (.int T) (.int b) (.int t) (.str st) (.ref pl) (.ref pg)))
  lst : H pl = some (.lst vs)
  dic : H pg = some (.dK kvs)
section
variable {C : Addr}
theorem TellAt.keep {S : List Addr} {H H' : Hp} {x dx pl pg : Addr} {W T b t : Int} {st : Str} {vs : List V} {kvs : List (Key × V)} (h : TellAt C H x dx pl pg W T b t st vs kvs) (k : Keep S H H') (n1 : x ∉ S) (n2 : pl ∉ S) (n3 : pg ∉ S) : TellAt C H' x dx pl pg W T b t st vs kvs :=
  ⟨k _ _ h.ins n1, k _ _ h.lst n2, k _ _ h.dic n3⟩
theorem TellAt.same {H H' : Hp} {x dx pl pg : Addr} {W T b t : Int} {st : Str} {vs : List V} {kvs : List (Key × V)} (h : TellAt C H x dx pl pg W T b t st vs kvs) (s : Same H H') : TellAt C H' x dx pl pg W T b t st vs kvs :=
  ⟨s _ _ h.ins, s _ _ h.lst, s _ _ h.dic⟩
theorem TellAt.ne {H : Hp} {x dx pl pg : Addr} {W T b t : Int} {st : Str} {vs : List V} {kvs : List (Key × V)} (h : TellAt C H x dx pl pg W T b t st vs kvs) : x ≠ pl ∧ x ≠ pg ∧ pl ≠ pg :=
  ⟨ne_of h.ins h.lst (by intro z; cases z), ne_of h.ins h.dic (by intro z; cases z), ne_of h.lst h.dic (by intro z; cases z)⟩
def sp_tinit (C : Addr) : Sp := fun vs H Q _ => ∃ (x dx : Addr) (W T : Int), vs = [.ref x, .int W, .int T] ∧ H x = some (.ins C dx []) ∧ ∀ pl pg H', H pl = none → H pg = none → TellAt C H' x dx pl pg W T 0 0 "shut" [] [] → Keep [x] H H' → Q .non H'
theorem own_tinit (D : DefI K C "Teller.__init__" s_Teller___init__) (T_Teller : ClsD K mg "Teller" C at_Teller) : OwnI P w K mg base 1 C ["self", "window", "wait"] (sp_tinit C) := by
  refine D.own sc_Teller___init__ (fun _ _ _ _ _ _ us hl => match us, hl with | [_, _, _], _ => rfl) (fun vs H Q E h => ?_) (fun f cdv A outer s H vs Q E hr h => ?_)
  · obtain ⟨x, dx, W, T, rfl, _⟩ := h
    rfl
  · obtain ⟨x, dx, W, T, rfl, e, q⟩ := h
    refine ⟨_, (pss_cons (ps_fld (pv 0) (pv 1) rfl)
      (pss_cons (ps_fld (pv 0) (pv 2) rfl)
      (pss_cons (ps_fld (pv 0) pe_int rfl)
      (pss_cons (ps_fld (pv 0) pe_int rfl)
      (pss_cons (ps_fld (pv 0) pe_str rfl)
      (pss_cons (ps_fld (pv 0) (pe_lst pa_nil) rfl)
      (pss_one (ps_fld (pv 0) pe_dnewK rfl)))))))), ?_⟩
    simp (maxSteps := 1000000) only [tDNewK, Nat.reduceSub, upd_same, upd_upd, Nat.reduceLT, HO.ins.injEq, Nat.reduceAdd, sFld, cxOf_K, tSeq, exists_and_left, tVar, tC, tNil, tLst, L2.start, List.map_cons, List.map_nil, List.length_cons, List.length_nil, List.replicate, List.getElem?_cons_zero, List.getElem?_cons_succ, Option.some.injEq, exists_eq_left', V.ref.injEq, true_and, and_assoc, List.append_nil, e, T_Teller.cl, T_Teller.no "window" (by decide), T_Teller.no "wait" (by decide), T_Teller.no "base" (by decide), T_Teller.no "top" (by decide), T_Teller.no "state" (by decide), fq_Teller_0, fq_Teller_1, fq_Teller_2, fq_Teller_3, fq_Teller_4]
    generalize z0 : upd H x _ = H0
    have e0 := (congrFun z0.symm x).trans upd_same
    have k0 : Keep [x] H H0 := by rw [← z0]; exact Keep.refl.upd (.inl (.head _))
    refine ⟨Nat.zero_le _, ?_⟩
    intro p1 n1
    generalize z1 : upd H0 p1 _ = H1
    have s1 := (new_same z1 n1).1
    have e1 := (new_same z1 n1).2
    have ex1 := s1 _ _ e0
    simp (maxSteps := 1000000) only [Nat.reduceLT, HO.ins.injEq, Nat.reduceAdd, exists_and_left, List.length_cons, List.length_nil, Option.some.injEq, exists_eq_left', true_and, and_assoc, ex1, T_Teller.cl, T_Teller.no "things" (by decide), fq_Teller_5]
    generalize z2 : upd H1 x _ = H2
    have e2 := (congrFun z2.symm x).trans upd_same
    have nx1 : p1 ≠ x := fun z => by subst z; rw [e0] at n1; cases n1
    have l2 : H2 p1 = some (.lst []) := by rw [← z2, upd_ne nx1]; exact e1
    have k2 : Keep [x] H1 H2 := by rw [← z2]; exact Keep.refl.upd (.inl (.head _))
    intro p3 n3
    generalize z3 : upd H2 p3 _ = H3
    have s3 := (new_same z3 n3).1
    have e3 := (new_same z3 n3).2
    have ex3 := s3 _ _ e2
    simp (maxSteps := 1000000) only [Nat.reduceLT, HO.ins.injEq, Nat.reduceAdd, exists_and_left, List.length_cons, List.length_nil, Option.some.injEq, exists_eq_left', true_and, and_assoc, ex3, T_Teller.cl, T_Teller.no "goings" (by decide), fq_Teller_6]
    have nx3 : p3 ≠ x := fun z => by subst z; rw [e2] at n3; cases n3
    have n13 : p1 ≠ p3 := ne_of_none l2 n3
    have hp1 : H p1 = none := k0.free n1 (by simpa using nx1)
    have hp3 : H p3 = none := by
      have a1 := k2.free n3 (by simpa using nx3)
      cases z : H p3 with
      | none => rfl
      | some o =>
        have := s1 _ _ (k0 _ _ z (by simpa using nx3))
        rw [a1] at this; cases this
    exact q p1 p3 _ hp1 hp3 ⟨upd_same, by rw [upd_ne nx1]; exact s3 _ _ l2, by rw [upd_ne nx3]; exact e3⟩ ((((k0.same s1).trans k2).same s3).upd (.inl (.head _)))
/-- the state that a thing wants, the one that it leaves -/
def wants (d : PyData) : Str := if word d = "begin" then "shut" else "open"
def leaves (d : PyData) : Str := if word d = "end" then "shut" else "open"
theorem Good.at0 {H : Hp} {v : V} {d : PyData} (hg : Good d) (hv : Im H v d) : ∃ p xs, v = .ref p ∧ H p = some (.tup xs) ∧ atI xs 0 = some (.str (word d)) := by
  cases hg with
  | beg =>
    cases hv with
    | tup e m _ =>
      cases m with
      | cons m1 m2 => cases m1; exact ⟨_, _, rfl, e, atI_0⟩
  | fin =>
    cases hv with
    | tup e m _ =>
      cases m with
      | cons m1 m2 => cases m1; exact ⟨_, _, rfl, e, atI_0⟩
  | sgn z h ok =>
    cases hv with
    | tup e m _ =>
      cases m with
      | cons m1 m2 => cases m1; exact ⟨_, _, rfl, e, atI_0⟩
def sp_tput (C : Addr) : Sp := fun vs H Q _ => ∃ (x dx pl pg : Addr) (W T b t : Int) (st : Str) (xs : List V) (kvs : List (Key × V)) (v : V) (d : PyData), vs = [.ref x, v] ∧ TellAt C H x dx pl pg W T b t st xs kvs ∧ Im H v d ∧ Good d ∧ st = wants d ∧ xs.length ≤ 1000 ∧
  ∀ H', TellAt C H' x dx pl pg W T b t (leaves d) (xs ++ [v]) kvs → Keep [x, pl] H H' → Q (.int xs.length) H'
theorem own_tput (D : DefM K C "put" "Teller.put" s_Teller_put) (hb : Blt mg) (T_Teller : ClsD K mg "Teller" C at_Teller) (F_is_thing : Own P w K mg base 3 "is_thing" ["thing"] sp_thing) : OwnM P w K mg base 4 C "put" ["self", "thing"] (sp_tput C) := by
  refine D.own sc_Teller_put (fun _ _ _ _ _ _ us hl => match us, hl with | [_, _], _ => rfl) (fun vs H Q E h => ?_) (fun f cdv A outer s H vs Q E hr h => ?_)
  · obtain ⟨x, dx, pl, pg, W, T, b, t, st, xs, kvs, v, d, rfl, _⟩ := h
    rfl
  · obtain ⟨x, dx, pl, pg, W, T, b, t, st, xs, kvs, v, d, rfl, O, hv, hg, hst, hl, q⟩ := h
    have hu := hr.units
    have hu1 : (A.deeper (PyProof.Rows.envOfC "Teller.put" (defScope s_Teller_put) s.heap.objs.size f cdv)).units + 1 < cLine := by omega
    refine ⟨_, (pss_cons (ps_if (pt_not (pt_truX (pe_fn F_is_thing hr (pa_cons (pv 1) pa_nil))))
      (pss_one ps_never)
      pss_nil)
      (pss_cons (ps_set (i := 2) sc_Teller_put.nd rfl (by first | exact Or.inl rfl | exact Or.inr rfl) (pe_ifExp (pt_cmpR op_eq (pe_ix (ix_get hu1) (pv 1) pe_int (fun _ _ => rfl)) pe_str (nomark _)) pe_str pe_str))
      (pss_cons (ps_if (pt_cmpR op_ne (pe_fldK K (pv 0)) (pv 2) (nomark _))
      (pss_one ps_never)
      pss_nil)
      (pss_cons (ps_fld (pv 0) (pe_ifExp (pt_cmpR op_eq (pe_ix (ix_get hu1) (pv 1) pe_int (fun _ _ => rfl)) pe_str (nomark _)) pe_str pe_str) rfl)
      (pss_cons (ps_expr (pe_lm PySem.F.slot_list_append PySem.F.type_list_append mt_append (pe_fldK K (pv 0)) (pa_cons (pv 1) pa_nil)))
      (pss_one (ps_ret (pe_op op_sub (pe_callB call_lenX rfl (hb _ (by decide)) bt_len (pa_cons (pe_fldK K (pv 0)) pa_nil)) pe_int)))))))), ?_⟩
    simp (maxSteps := 1000000) only [tBL, rGet, rLenX, tTruX, Nat.reduceSub, upd_same, HO.ins.injEq, Nat.reduceAdd, tFld, sFld, tNever, cxOf_K, rAppend, List.cons.injEq, tSeq, exists_and_left, tIfS, tNot, tTest, tOp, tVar, tC, rI0, tRet, tAsg, gName, tNext, tIf, tCall, tCons, tNil, tCB, tDrop, L2.start, List.map_cons, List.map_nil, List.length_cons, List.length_nil, List.replicate, List.cons_append, List.nil_append, List.getElem?_cons_zero, List.getElem?_cons_succ, List.set_cons_zero, List.set_cons_succ, Option.some.injEq, exists_eq_left', V.int.injEq, V.ref.injEq, and_true, and_assoc, List.append_nil]
    refine ⟨v, d, rfl, hv, hg, fun H1 s1 => ?_⟩
    have O1 := O.same s1
    obtain ⟨nxl, nxg, nlg⟩ := O1.ne
    obtain ⟨p, ts, rfl, ep, e0⟩ := hg.at0 (hv.same s1)
    have ex1 := O1.ins
    have f1 : ∀ o, upd H1 x o pl = some (.lst xs) := fun o => by rw [upd_ne (Ne.symm nxl)]; exact O1.lst
    have hln : xs.length < sizeLine := by rw [sizeLine_eq]; omega
    have fin : ∀ st', st' = leaves d → Q (.int xs.length) (upd (upd H1 x (.ins C dx (fs_Teller (.int W) (.int T) (.int b) (.int t) (.str st') (.ref pl) (.ref pg)))) pl (.lst (xs ++ [.ref p]))) := fun st' e => by
      subst e
      refine q _ ⟨by rw [upd_ne nxl]; exact upd_same, upd_same, by rw [upd_ne (Ne.symm nlg), upd_ne (Ne.symm nxg)]; exact O1.dic⟩ ((s1.keep.upd (.inl (.head _))).upd (.inl (.tail _ (.head _))))
    have len1 : ((xs ++ [V.ref p]).length : Int) - 1 = (xs.length : Int) := by simp
    simp (maxSteps := 1000000) only [rEq_ss, rNe_ss, getO_t, truX_b, HO.lst.injEq, HO.ins.injEq, Bool.not_true, exists_and_left, if_false, Bool.false_eq_true, Option.some.injEq, exists_eq_left', V.bl.injEq, V.ref.injEq, true_and, and_assoc, ep, e0, ex1, T_Teller.cl, T_Teller.no "state" (by decide), T_Teller.no "things" (by decide), fs_Teller_state, fs_Teller_things, fl_Teller, fp_Teller_state, f1, hln]
    rw [hst]
    cases hg with
    | beg =>
      have w1 : (Str.ofString "begin" = Str.ofString "end") = False := eq_false (by decide)
      have := fin "open" (by decide)
      simp (maxSteps := 1000000) only [lenX_r, lenO_l, Option.bind_some, upd_same, HO.ins.injEq, decide_true, decide_false, Bool.not_true, exists_and_left, if_false, if_true, Bool.false_eq_true, Option.some.injEq, exists_eq_left', true_and, and_assoc, wants, word, w1, T_Teller.cl, T_Teller.no "things" (by decide), fs_Teller_things, len1, upd_of_ne nxl]
      exact this
    | fin =>
      have w1 : (Str.ofString "end" = Str.ofString "begin") = False := eq_false (by decide)
      have := fin "shut" (by decide)
      simp (maxSteps := 1000000) only [lenX_r, lenO_l, Option.bind_some, upd_same, HO.ins.injEq, decide_true, decide_false, Bool.not_true, exists_and_left, if_false, if_true, Bool.false_eq_true, Option.some.injEq, exists_eq_left', true_and, and_assoc, wants, word, w1, T_Teller.cl, T_Teller.no "things" (by decide), fs_Teller_things, len1, upd_of_ne nxl]
      exact this
    | sgn z h ok =>
      have w1 : (Str.ofString "signs" = Str.ofString "begin") = False := eq_false (by decide)
      have w2 : (Str.ofString "signs" = Str.ofString "end") = False := eq_false (by decide)
      have := fin "open" (by simp [leaves, word, w2])
      simp (maxSteps := 1000000) only [lenX_r, lenO_l, Option.bind_some, upd_same, HO.ins.injEq, decide_true, decide_false, Bool.not_true, exists_and_left, if_false, Bool.false_eq_true, Option.some.injEq, exists_eq_left', true_and, and_assoc, wants, word, w1, w2, T_Teller.cl, T_Teller.no "things" (by decide), fs_Teller_things, len1, upd_of_ne nxl]
      exact this
def sp_tmany (C : Addr) : Sp := fun vs H Q _ => ∃ (x dx pl pg : Addr) (W T b t : Int) (st : Str) (xs : List V) (kvs : List (Key × V)), vs = [.ref x] ∧ TellAt C H x dx pl pg W T b t st xs kvs ∧ Q (.int xs.length) H
theorem own_tmany (D : DefM K C "many" "Teller.many" s_Teller_many) (hb : Blt mg) (T_Teller : ClsD K mg "Teller" C at_Teller) : OwnM P w K mg base 1 C "many" ["self"] (sp_tmany C) := by
  refine D.own sc_Teller_many (fun _ _ _ _ _ _ us hl => match us, hl with | [_], _ => rfl) (fun vs H Q E h => ?_) (fun f cdv A outer s H vs Q E hr h => ?_)
  · obtain ⟨x, dx, pl, pg, W, T, b, t, st, xs, kvs, rfl, _⟩ := h
    rfl
  · obtain ⟨x, dx, pl, pg, W, T, b, t, st, xs, kvs, rfl, O, q⟩ := h
    refine ⟨_, (pss_one (ps_ret (pe_callB call_lenX rfl (hb _ (by decide)) bt_len (pa_cons (pe_fldK K (pv 0)) pa_nil)))), ?_⟩
    simp (maxSteps := 1000000) only [rLenX, lenX_r, lenO_l, Option.bind_some, Nat.reduceSub, HO.ins.injEq, Nat.reduceAdd, tFld, List.cons.injEq, exists_and_left, tVar, tRet, tCons, tNil, tCB, L2.start, List.map_cons, List.map_nil, List.length_cons, List.length_nil, List.replicate, List.getElem?_cons_zero, Option.some.injEq, exists_eq_left', V.ref.injEq, and_true, true_and, and_assoc, List.append_nil, T_Teller.cl, T_Teller.no "things" (by decide), fs_Teller_things, O.ins, O.lst]
    exact q
def sp_tplace (C : Addr) : Sp := fun vs H Q _ => ∃ (x dx pl pg : Addr) (W T b t turn : Int) (st : Str) (xs : List V) (kvs : List (Key × V)), vs = [.ref x, .int turn] ∧ TellAt C H x dx pl pg W T b t st xs kvs ∧ (b < t → ∃ g, valV kvs (Sum.inl b) = some (.int g)) ∧
  ((∀ g, b < t → valV kvs (Sum.inl b) = some (.int g) → turn - g ≥ T → Q (.int b) H) ∧ ((b < t → ∀ g, valV kvs (Sum.inl b) = some (.int g) → turn - g < T) → (t < xs.length → t < b + W → Q (.int t) H) ∧ ((xs.length ≤ t ∨ b + W ≤ t) → Q .non H)))
theorem own_tplace (D : DefM K C "place_to_go" "Teller.place_to_go" s_Teller_place_to_go) (hb : Blt mg) (T_Teller : ClsD K mg "Teller" C at_Teller) (M_Teller_many : OwnM P w K mg base 1 C "many" ["self"] (sp_tmany C)) : OwnM P w K mg base 2 C "place_to_go" ["self", "turn"] (sp_tplace C) := by
  refine D.own sc_Teller_place_to_go (fun _ _ _ _ _ _ us hl => match us, hl with | [_, _], _ => rfl) (fun vs H Q E h => ?_) (fun f cdv A outer s H vs Q E hr h => ?_)
  · obtain ⟨x, dx, pl, pg, W, T, b, t, turn, st, xs, kvs, rfl, _⟩ := h
    rfl
  · obtain ⟨x, dx, pl, pg, W, T, b, t, turn, st, xs, kvs, rfl, O, hg, q1, q2⟩ := h
    have hu := hr.units
    have hu1 : (A.deeper (PyProof.Rows.envOfC "Teller.place_to_go" (defScope s_Teller_place_to_go) s.heap.objs.size f cdv)).units + 1 < cLine := by omega
    refine ⟨_, (pss_cons (ps_if (PW.pt (pw_and (pt_cmpR op_lt (pe_fldK K (pv 0)) (pe_fldK K (pv 0)) (nomark _)) (pw_and1 (pt_cmpR op_ge (pe_op op_sub (pv 1) (pe_ix (ix_get hu1) (pe_fldK K (pv 0)) (pe_fldK K (pv 0)) (fun _ _ => rfl))) (pe_fldK K (pv 0)) (nomark _)))))
      (pss_one (ps_ret (pe_fldK K (pv 0))))
      pss_nil)
      (pss_cons (ps_if (pt_cmpR op_lt (pe_fldK K (pv 0)) (pe_callB (call_min2 rfl) rfl (hb _ (by decide)) bt_min (pa_cons (pe_mth0 M_Teller_many T_Teller.cl hr (pv 0)) (pa_cons (pe_op op_add (pe_fldK K (pv 0)) (pe_fldK K (pv 0))) pa_nil))) (nomark _))
      (pss_one (ps_ret (pe_fldK K (pv 0))))
      pss_nil)
      (pss_one (ps_ret pe_non)))), ?_⟩
    have ex := O.ins
    have tail : (b < t → ∀ g, valV kvs (Sum.inl b) = some (.int g) → turn - g < T) → if decide (t < if b + W < (xs.length : Int) then b + W else (xs.length : Int)) = true then Q (.int t) H else Q .non H := fun z => by
      obtain ⟨qa, qb⟩ := q2 z
      by_cases hz : t < if b + W < (xs.length : Int) then b + W else (xs.length : Int)
      · rw [decide_eq_true hz]
        exact iteT (qa (by split at hz <;> omega) (by split at hz <;> omega))
      · rw [decide_eq_false hz]
        refine iteF (qb ?_)
        split at hz
        · exact .inr (by omega)
        · exact .inl (by omega)
    simp (maxSteps := 1000000) only [rGet, getO_di, Nat.reduceSub, HO.ins.injEq, Nat.reduceAdd, tMeth, tFld, List.cons.injEq, tSeq, exists_and_left, if_false, Bool.false_eq_true, tIfS, tAnd, tTest, tOp, tVar, tC, rI0, tRet, tNext, tCons, tNil, tCB, L2.start, List.map_cons, List.map_nil, List.length_cons, List.length_nil, List.replicate, List.getElem?_cons_zero, List.getElem?_cons_succ, Option.some.injEq, exists_eq_left', V.int.injEq, V.bl.injEq, V.ref.injEq, and_true, true_and, and_assoc, List.append_nil, T_Teller.cl, T_Teller.no "wait" (by decide), T_Teller.no "base" (by decide), T_Teller.no "top" (by decide), T_Teller.no "goings" (by decide), fs_Teller_wait, fs_Teller_base, fs_Teller_top, fs_Teller_goings, fn_Teller_many, ex, O.dic]
    by_cases hbt : b < t
    · obtain ⟨g, eg⟩ := hg hbt
      simp (maxSteps := 1000000) only [decide_true, if_true, Option.some.injEq, exists_eq_left', V.int.injEq, hbt, eg]
      by_cases hT : T ≤ turn - g
      · rw [decide_eq_true hT]
        exact iteT (q1 g hbt eg hT)
      · rw [decide_eq_false hT]
        refine iteF ⟨x, dx, pl, pg, W, T, b, t, st, xs, kvs, rfl, O, ?_⟩
        simp (maxSteps := 1000000) only [HO.ins.injEq, exists_and_left, Option.some.injEq, exists_eq_left', V.int.injEq, true_and, and_assoc, T_Teller.cl, T_Teller.no "window" (by decide), T_Teller.no "base" (by decide), T_Teller.no "top" (by decide), fs_Teller_window, fs_Teller_base, fs_Teller_top, ex]
        exact tail fun _ g' e' => by rw [eg] at e'; cases e'; omega
    · simp (maxSteps := 1000000) only [decide_false, if_false, Bool.false_eq_true, hbt]
      refine ⟨x, dx, pl, pg, W, T, b, t, st, xs, kvs, rfl, O, ?_⟩
      simp (maxSteps := 1000000) only [HO.ins.injEq, exists_and_left, Option.some.injEq, exists_eq_left', V.int.injEq, true_and, and_assoc, T_Teller.cl, T_Teller.no "window" (by decide), T_Teller.no "base" (by decide), T_Teller.no "top" (by decide), fs_Teller_window, fs_Teller_base, fs_Teller_top, ex]
      exact tail fun h => absurd h hbt
def sp_tgo (C : Addr) : Sp := fun vs H Q _ => ∃ (x dx pl pg : Addr) (W T b t turn : Int) (st : Str) (xs : List V) (kvs : List (Key × V)), vs = [.ref x, .int turn] ∧ TellAt C H x dx pl pg W T b t st xs kvs ∧ (b < t → ∃ g, valV kvs (Sum.inl b) = some (.int g)) ∧ kvs.length ≤ 1000 ∧
  ((∀ g, b < t → valV kvs (Sum.inl b) = some (.int g) → turn - g ≥ T → ∀ H', TellAt C H' x dx pl pg W T b t st xs (putK kvs (Sum.inl b) (.int turn)) → Keep [x, pg] H H' → Q (.int b) H') ∧
    ((b < t → ∀ g, valV kvs (Sum.inl b) = some (.int g) → turn - g < T) → (t < xs.length → t < b + W → ∀ H', TellAt C H' x dx pl pg W T b (t + 1) st xs (putK kvs (Sum.inl t) (.int turn)) → Keep [x, pg] H H' → Q (.int t) H') ∧ ((xs.length ≤ t ∨ b + W ≤ t) → Q .non H)))
theorem own_tgo (D : DefM K C "go" "Teller.go" s_Teller_go) (hb : Blt mg) (T_Teller : ClsD K mg "Teller" C at_Teller) (M_Teller_place_to_go : OwnM P w K mg base 2 C "place_to_go" ["self", "turn"] (sp_tplace C)) : OwnM P w K mg base 3 C "go" ["self", "turn"] (sp_tgo C) := by
  refine D.own sc_Teller_go (fun _ _ _ _ _ _ us hl => match us, hl with | [_, _], _ => rfl) (fun vs H Q E h => ?_) (fun f cdv A outer s H vs Q E hr h => ?_)
  · obtain ⟨x, dx, pl, pg, W, T, b, t, turn, st, xs, kvs, rfl, _⟩ := h
    rfl
  · obtain ⟨x, dx, pl, pg, W, T, b, t, turn, st, xs, kvs, rfl, O, hg, hk, q1, q2⟩ := h
    have hu := hr.units
    have hu1 : (A.deeper (PyProof.Rows.envOfC "Teller.go" (defScope s_Teller_go) s.heap.objs.size f cdv)).units + 1 < cLine := by omega
    obtain ⟨nxl, nxg, nlg⟩ := O.ne
    have ex := O.ins
    have ed := O.dic
    have hln : kvs.length < sizeLine := by rw [sizeLine_eq]; omega
    have fin : ∀ (p : Int) (t' : Int), TellAt C (upd (upd H pg (.dK (putK kvs (Sum.inl p) (.int turn)))) x (.ins C dx (fs_Teller (.int W) (.int T) (.int b) (.int t') (.str st) (.ref pl) (.ref pg)))) x dx pl pg W T b t' st xs (putK kvs (Sum.inl p) (.int turn)) ∧
        Keep [x, pg] H (upd (upd H pg (.dK (putK kvs (Sum.inl p) (.int turn)))) x (.ins C dx (fs_Teller (.int W) (.int T) (.int b) (.int t') (.str st) (.ref pl) (.ref pg)))) := fun p t' =>
      ⟨⟨upd_same, by rw [upd_ne (Ne.symm nxl), upd_ne nlg]; exact O.lst, by rw [upd_ne (Ne.symm nxg)]; exact upd_same⟩, (Keep.refl.upd (.inl (.tail _ (.head _)))).upd (.inl (.head _))⟩
    refine ⟨_, (pss_cons (ps_set (i := 2) sc_Teller_go.nd rfl (by first | exact Or.inl rfl | exact Or.inr rfl) (pe_mth M_Teller_place_to_go T_Teller.cl hr (pv 0) (pa_cons (pv 1) pa_nil)))
      (pss_cons (ps_if (pt_cmpR op_notN (pv 2) pe_non (nomark _))
      (pss_cons (ps_asg (pv 1) (pg_sub (pe_fldK K (pv 0)) (pv 2) (set_x hu1)))
      (pss_one (ps_fld (pv 0) (pe_callB (call_max2 rfl) rfl (hb _ (by decide)) bt_max (pa_cons (pe_fldK K (pv 0)) (pa_cons (pe_op op_add (pv 2) pe_int) pa_nil))) rfl)))
      pss_nil)
      (pss_one (ps_ret (pv 2))))), ?_⟩
    simp (maxSteps := 1000000) only [rSetX, gSub, Nat.reduceSub, HO.ins.injEq, Nat.reduceAdd, tMeth, tFld, sFld, cxOf_K, List.cons.injEq, tSeq, exists_and_left, tIfS, tTest, tOp, tVar, tC, rI0, tRet, tAsg, gName, tNext, tCons, tNil, tCB, L2.start, List.map_cons, List.map_nil, List.length_cons, List.length_nil, List.replicate, List.cons_append, List.nil_append, List.getElem?_cons_zero, List.getElem?_cons_succ, List.set_cons_zero, List.set_cons_succ, Option.some.injEq, exists_eq_left', V.int.injEq, V.bl.injEq, V.ref.injEq, and_true, true_and, and_assoc, List.append_nil, fn_Teller_place_to_go, ex]
    refine ⟨x, dx, pl, pg, W, T, b, t, turn, st, xs, kvs, rfl, O, hg, fun g h1 h2 h3 => ?_, fun h => ⟨fun h1 h2 => ?_, fun h1 => ?_⟩⟩
    · simp (maxSteps := 1000000) only [setO_di', HO.ins.injEq, decide_false, Bool.not_false, exists_and_left, if_true, Option.some.injEq, exists_eq_left', V.int.injEq, V.ref.injEq, true_and, reduceCtorEq, and_assoc, T_Teller.cl, T_Teller.no "top" (by decide), T_Teller.no "goings" (by decide), fs_Teller_top, fs_Teller_goings, fl_Teller, fp_Teller_top, ex, ed, hln, upd_of_ne nxg]
      have e : (if b + 1 > t then b + 1 else t) = t := by split <;> omega
      rw [e]
      exact q1 g h1 h2 h3 _ (fin b t).1 (fin b t).2
    · simp (maxSteps := 1000000) only [setO_di', HO.ins.injEq, decide_false, Bool.not_false, exists_and_left, if_true, Option.some.injEq, exists_eq_left', V.int.injEq, V.ref.injEq, true_and, reduceCtorEq, and_assoc, T_Teller.cl, T_Teller.no "top" (by decide), T_Teller.no "goings" (by decide), fs_Teller_top, fs_Teller_goings, fl_Teller, fp_Teller_top, ex, ed, hln, upd_of_ne nxg]
      have e : (if t + 1 > t then t + 1 else t) = t + 1 := by split <;> omega
      rw [e]
      exact (q2 h).1 h1 h2 _ (fin t (t + 1)).1 (fin t (t + 1)).2
    · simp (maxSteps := 1000000) only [decide_true, Bool.not_true, if_false, Bool.false_eq_true, exists_const, reduceCtorEq, false_and]
      exact (q2 h).2 h1
def sp_theard (C : Addr) : Sp := fun vs H Q _ => ∃ (x dx pl pg : Addr) (W T b t g : Int) (st : Str) (xs : List V) (kvs : List (Key × V)), vs = [.ref x, .int g] ∧ TellAt C H x dx pl pg W T b t st xs kvs ∧ ∀ H', TellAt C H' x dx pl pg W T (max b g) t st xs kvs → Keep [x] H H' → Q .non H'
theorem own_theard (D : DefM K C "heard" "Teller.heard" s_Teller_heard) (hb : Blt mg) (T_Teller : ClsD K mg "Teller" C at_Teller) : OwnM P w K mg base 1 C "heard" ["self", "got"] (sp_theard C) := by
  refine D.own sc_Teller_heard (fun _ _ _ _ _ _ us hl => match us, hl with | [_, _], _ => rfl) (fun vs H Q E h => ?_) (fun f cdv A outer s H vs Q E hr h => ?_)
  · obtain ⟨x, dx, pl, pg, W, T, b, t, g, st, xs, kvs, rfl, _⟩ := h
    rfl
  · obtain ⟨x, dx, pl, pg, W, T, b, t, g, st, xs, kvs, rfl, O, q⟩ := h
    obtain ⟨nxl, nxg, nlg⟩ := O.ne
    refine ⟨_, (pss_one (ps_fld (pv 0) (pe_callB (call_max2 rfl) rfl (hb _ (by decide)) bt_max (pa_cons (pe_fldK K (pv 0)) (pa_cons (pv 1) pa_nil))) rfl)), ?_⟩
    simp (maxSteps := 1000000) only [Nat.reduceSub, HO.ins.injEq, Nat.reduceAdd, tFld, sFld, cxOf_K, List.cons.injEq, exists_and_left, tVar, tCons, tNil, tCB, L2.start, List.map_cons, List.map_nil, List.length_cons, List.length_nil, List.replicate, List.getElem?_cons_zero, List.getElem?_cons_succ, Option.some.injEq, exists_eq_left', V.int.injEq, V.ref.injEq, and_true, true_and, and_assoc, List.append_nil, T_Teller.cl, T_Teller.no "base" (by decide), fs_Teller_base, fl_Teller, fp_Teller_base, O.ins]
    have e : (if g > b then g else b) = max b g := by split <;> omega
    rw [e]
    exact q _ ⟨upd_same, by rw [upd_ne (Ne.symm nxl)]; exact O.lst, by rw [upd_ne (Ne.symm nxg)]; exact O.dic⟩ (Keep.refl.upd (.inl (.head _)))
end
abbrev at_Taker : List Str := ["window", "got", "owed", "first_unread", "things"]
def fs_Taker (a0 a1 a2 a3 a4 : V) : List (Str × V) := [("window", a0), ("got", a1), ("owed", a2), ("first_unread", a3), ("things", a4)]
section
variable {a0 a1 a2 a3 a4 : V}
theorem fs_Taker_window : (fs_Taker a0 a1 a2 a3 a4).lookup ("window" : Str) = some a0 := rfl
theorem fs_Taker_got : (fs_Taker a0 a1 a2 a3 a4).lookup ("got" : Str) = some a1 := rfl
theorem fs_Taker_owed : (fs_Taker a0 a1 a2 a3 a4).lookup ("owed" : Str) = some a2 := rfl
theorem fs_Taker_first_unread : (fs_Taker a0 a1 a2 a3 a4).lookup ("first_unread" : Str) = some a3 := rfl
theorem fs_Taker_things : (fs_Taker a0 a1 a2 a3 a4).lookup ("things" : Str) = some a4 := rfl
theorem fn_Taker_took : (fs_Taker a0 a1 a2 a3 a4).lookup ("took" : Str) = none := rfl
theorem fn_Taker_answered : (fs_Taker a0 a1 a2 a3 a4).lookup ("answered" : Str) = none := rfl
theorem fn_Taker_read : (fs_Taker a0 a1 a2 a3 a4).lookup ("read" : Str) = none := rfl
theorem fl_Taker : ((fs_Taker a0 a1 a2 a3 a4).length < 1000) = True := by simp [fs_Taker]
theorem fp_Taker_got {v : V} : putF "got" v (fs_Taker a0 a1 a2 a3 a4) = fs_Taker a0 v a2 a3 a4 := by with_unfolding_all rfl
theorem fp_Taker_owed {v : V} : putF "owed" v (fs_Taker a0 a1 a2 a3 a4) = fs_Taker a0 a1 v a3 a4 := by with_unfolding_all rfl
theorem fp_Taker_first_unread {v : V} : putF "first_unread" v (fs_Taker a0 a1 a2 a3 a4) = fs_Taker a0 a1 a2 v a4 := by with_unfolding_all rfl
theorem fq_Taker_0 {v : V} : putF "window" v ([] : List (Str × V)) = ([("window", v)] : List (Str × V)) := by with_unfolding_all rfl
theorem fq_Taker_1 {v : V} : putF "got" v ([("window", a0)] : List (Str × V)) = ([("window", a0), ("got", v)] : List (Str × V)) := by with_unfolding_all rfl
theorem fq_Taker_2 {v : V} : putF "owed" v ([("window", a0), ("got", a1)] : List (Str × V)) = ([("window", a0), ("got", a1), ("owed", v)] : List (Str × V)) := by with_unfolding_all rfl
theorem fq_Taker_3 {v : V} : putF "first_unread" v ([("window", a0), ("got", a1), ("owed", a2)] : List (Str × V)) = ([("window", a0), ("got", a1), ("owed", a2), ("first_unread", v)] : List (Str × V)) := by with_unfolding_all rfl
theorem fq_Taker_4 {v : V} : putF "things" v ([("window", a0), ("got", a1), ("owed", a2), ("first_unread", a3)] : List (Str × V)) = fs_Taker a0 a1 a2 a3 v := by with_unfolding_all rfl
end
abbrev s_Taker___init__ : Stmt := inClass (top 12) 0
theorem sc_Taker___init__ : FnScope ["self", "window"] ["self", "window"] (defScope s_Taker___init__) := ⟨rfl, rfl, rfl, by decide +kernel, rfl, by decide +kernel, by decide +kernel⟩
abbrev s_Taker_took : Stmt := inClass (top 12) 1
theorem sc_Taker_took : FnScope ["self", "place", "thing"] ["self", "place", "thing"] (defScope s_Taker_took) := ⟨rfl, rfl, rfl, by decide +kernel, rfl, by decide +kernel, by decide +kernel⟩
abbrev s_Taker_answered : Stmt := inClass (top 12) 2
theorem sc_Taker_answered : FnScope ["self"] ["self"] (defScope s_Taker_answered) := ⟨rfl, rfl, rfl, by decide +kernel, rfl, by decide +kernel, by decide +kernel⟩
abbrev s_Taker_read : Stmt := inClass (top 12) 3
theorem sc_Taker_read : FnScope ["self", "things"] ["self"] (defScope s_Taker_read) := ⟨rfl, rfl, rfl, by decide +kernel, rfl, by decide +kernel, by decide +kernel⟩
theorem cs_Taker_read_0 : CScope ["place"] ["self"] { kind := .function, names := [(".0", .local), ("place", .local), ("self", .free)], isGenerator := false, isCoroutine := false, more := [] } (defScope s_Taker_read) := ⟨rfl, by decide +kernel, by decide +kernel, by decide +kernel, by decide +kernel, by decide +kernel⟩
structure TakeAt (C : Addr) (H : Hp) (x dx pg : Addr) (W : Int) (g : Nat) (o : Bool) (u : Nat) (kvs : List (Key × V)) : Prop where
  ins : H x = some (.ins C dx (fs_Taker (.int W) (.int g) (.bl o) (.int u) (.ref pg)))
  dic : H pg = some (.dK kvs)
/-- all below g are there, g isn't -/
structure Till (kvs : List (Key × V)) (g : Nat) : Prop where
  below : ∀ k : Nat, k < g → valV kvs (Sum.inl (k : Int)) ≠ none
  at_ : valV kvs (Sum.inl (g : Int)) = none
theorem valV_mem {kvs : List (Key × V)} {k : Key} : valV kvs k ≠ none → k ∈ kvs.map (·.1) := by
  induction kvs with
  | nil => intro h; exact absurd valV_nil h
  | cons p r ih =>
    intro h
    by_cases e : p.1 = k
    · simp [e]
    · rw [valV_neg e] at h
      simp only [List.map_cons, List.mem_cons]
      exact .inr (ih h)
/-- so many different things can't lie in a shorter list -/
theorem pigeon : ∀ (g : Nat) (ks : List Key), (∀ k : Nat, k < g → (Sum.inl (k : Int) : Key) ∈ ks) → g ≤ ks.length
  | 0, _, _ => Nat.zero_le _
  | g + 1, ks, h => by
    have h1 := pigeon g (ks.filter fun q => decide (q ≠ (Sum.inl (g : Int) : Key))) fun k hk => List.mem_filter.mpr ⟨h k (by omega), by simp; omega⟩
    have h2 : (ks.filter fun q => decide (q ≠ (Sum.inl (g : Int) : Key))).length < ks.length := by
      have hm := h g (by omega)
      clear h h1
      induction ks with
      | nil => cases hm
      | cons a r ih =>
        by_cases e : a = (Sum.inl (g : Int) : Key)
        · subst e
          have := List.length_filter_le (fun q => decide (q ≠ (Sum.inl (g : Int) : Key))) r
          simp only [List.filter_cons, ne_eq, not_true_eq_false, decide_false, List.length_cons]
          exact Nat.lt_succ_of_le (by simpa using this)
        · have := ih (by rcases List.mem_cons.mp hm with z | z; exact absurd z.symm e; exact z)
          simp only [List.filter_cons, ne_eq, e, not_false_eq_true, decide_true, List.length_cons, if_true]
          exact Nat.succ_lt_succ (by simpa using this)
    exact Nat.lt_of_le_of_lt h1 h2
theorem Till.le {kvs : List (Key × V)} {g : Nat} (h : Till kvs g) : g ≤ kvs.length := by
  have := pigeon g (kvs.map (·.1)) fun k hk => valV_mem (h.below k hk)
  simpa using this
section
variable {C : Addr}
theorem TakeAt.same {H H' : Hp} {x dx pg : Addr} {W : Int} {g : Nat} {o : Bool} {u : Nat} {kvs : List (Key × V)} (h : TakeAt C H x dx pg W g o u kvs) (s : Same H H') : TakeAt C H' x dx pg W g o u kvs := ⟨s _ _ h.ins, s _ _ h.dic⟩
theorem TakeAt.keep {S : List Addr} {H H' : Hp} {x dx pg : Addr} {W : Int} {g : Nat} {o : Bool} {u : Nat} {kvs : List (Key × V)} (h : TakeAt C H x dx pg W g o u kvs) (k : Keep S H H') (n1 : x ∉ S) (n2 : pg ∉ S) : TakeAt C H' x dx pg W g o u kvs := ⟨k _ _ h.ins n1, k _ _ h.dic n2⟩
theorem TakeAt.ne {H : Hp} {x dx pg : Addr} {W : Int} {g : Nat} {o : Bool} {u : Nat} {kvs : List (Key × V)} (h : TakeAt C H x dx pg W g o u kvs) : x ≠ pg := ne_of h.ins h.dic (by intro z; cases z)
def sp_kinit (C : Addr) : Sp := fun vs H Q _ => ∃ (x dx : Addr) (W : Int), vs = [.ref x, .int W] ∧ H x = some (.ins C dx []) ∧ ∀ pg H', H pg = none → TakeAt C H' x dx pg W 0 false 0 [] → Keep [x] H H' → Q .non H'
theorem own_kinit (D : DefI K C "Taker.__init__" s_Taker___init__) (T_Taker : ClsD K mg "Taker" C at_Taker) : OwnI P w K mg base 1 C ["self", "window"] (sp_kinit C) := by
  refine D.own sc_Taker___init__ (fun _ _ _ _ _ _ us hl => match us, hl with | [_, _], _ => rfl) (fun vs H Q E h => ?_) (fun f cdv A outer s H vs Q E hr h => ?_)
  · obtain ⟨x, dx, W, rfl, _⟩ := h
    rfl
  · obtain ⟨x, dx, W, rfl, e, q⟩ := h
    refine ⟨_, (pss_cons (ps_fld (pv 0) (pv 1) rfl)
      (pss_cons (ps_fld (pv 0) pe_int rfl)
      (pss_cons (ps_fld (pv 0) pe_bl rfl)
      (pss_cons (ps_fld (pv 0) pe_int rfl)
      (pss_one (ps_fld (pv 0) pe_dnewK rfl)))))), ?_⟩
    simp (maxSteps := 1000000) only [tDNewK, Nat.reduceSub, upd_same, upd_upd, Nat.reduceLT, HO.ins.injEq, Nat.reduceAdd, sFld, cxOf_K, tSeq, exists_and_left, tVar, tC, L2.start, List.map_cons, List.map_nil, List.length_cons, List.length_nil, List.replicate, List.getElem?_cons_zero, List.getElem?_cons_succ, Option.some.injEq, exists_eq_left', V.ref.injEq, true_and, and_assoc, List.append_nil, e, T_Taker.cl, T_Taker.no "window" (by decide), T_Taker.no "got" (by decide), T_Taker.no "owed" (by decide), T_Taker.no "first_unread" (by decide), fq_Taker_0, fq_Taker_1, fq_Taker_2, fq_Taker_3]
    generalize z0 : upd H x _ = H0
    have e0 := (congrFun z0.symm x).trans upd_same
    have k0 : Keep [x] H H0 := by rw [← z0]; exact Keep.refl.upd (.inl (.head _))
    intro p1 n1
    generalize z1 : upd H0 p1 _ = H1
    have s1 := (new_same z1 n1).1
    have e1 := (new_same z1 n1).2
    have ex1 := s1 _ _ e0
    simp (maxSteps := 1000000) only [Nat.reduceLT, HO.ins.injEq, Nat.reduceAdd, exists_and_left, List.length_cons, List.length_nil, Option.some.injEq, exists_eq_left', true_and, and_assoc, ex1, T_Taker.cl, T_Taker.no "things" (by decide), fq_Taker_4]
    have nx1 : p1 ≠ x := fun z => by subst z; rw [e0] at n1; cases n1
    exact q p1 _ (k0.free n1 (by simpa using nx1)) ⟨upd_same, by rw [upd_ne nx1]; exact e1⟩ ((k0.same s1).upd (.inl (.head _)))
def isNew (W : Int) (g : Nat) (kvs : List (Key × V)) (p : Int) : Bool := decide ((g : Int) ≤ p) && (valV kvs (Sum.inl p)).isNone && decide (p < g + W)
def sp_took (C : Addr) : Sp := fun vs H Q _ => ∃ (x dx pg : Addr) (W : Int) (g : Nat) (o : Bool) (u : Nat) (kvs : List (Key × V)) (p : Int) (v : V), vs = [.ref x, .int p, v] ∧ TakeAt C H x dx pg W g o u kvs ∧ Till kvs g ∧ kvs.length ≤ 1000 ∧
  ((isNew W g kvs p = false → ∀ H', TakeAt C H' x dx pg W g true u kvs → Keep [x] H H' → Q (.bl false) H') ∧ (isNew W g kvs p = true → ∀ g' H', g ≤ g' → TakeAt C H' x dx pg W g' true u (putK kvs (Sum.inl p) v) → Till (putK kvs (Sum.inl p) v) g' → Keep [x, pg] H H' → Q (.bl true) H'))
def Lk (C x dx pg : Addr) (W : Int) (u g : Nat) (p : Int) (v : V) (kvs : List (Key × V)) (H : Hp) (σ : St) (H' : Hp) : Prop := ∃ g', σ = [some (.ref x), some (.int p), some v] ∧ g ≤ g' ∧ TakeAt C H' x dx pg W g' true u kvs ∧ (∀ k : Nat, k < g' → valV kvs (Sum.inl (k : Int)) ≠ none) ∧ Keep [x, pg] H H'
theorem own_took (D : DefM K C "took" "Taker.took" s_Taker_took) (hb : Blt mg) (T_Taker : ClsD K mg "Taker" C at_Taker) : OwnM P w K mg base 1 C "took" ["self", "place", "thing"] (sp_took C) := by
  refine D.own sc_Taker_took (fun _ _ _ _ _ _ us hl => match us, hl with | [_, _, _], _ => rfl) (fun vs H Q E h => ?_) (fun f cdv A outer s H vs Q E hr h => ?_)
  · obtain ⟨x, dx, pg, W, g, o, u, kvs, p, v, rfl, _⟩ := h
    rfl
  · obtain ⟨x, dx, pg, W, g, o, u, kvs, p, v, rfl, O, tl, hk, q1, q2⟩ := h
    have hu := hr.units
    have hu1 : (A.deeper (PyProof.Rows.envOfC "Taker.took" (defScope s_Taker_took) s.heap.objs.size f cdv)).units + 1 < cLine := by omega
    have nxg := O.ne
    refine ⟨_, (pss_cons (ps_fld (pv 0) pe_bl rfl)
      (pss_cons (ps_if (PW.pt (pw_or (pt_cmpR op_lt (pv 1) (pe_fldK K (pv 0)) (nomark _)) (pw_or (pt_cmpR (op_inX hu1) (pv 1) (pe_fldK K (pv 0)) rfl) (pw_or1 (pt_cmpR op_ge (pv 1) (pe_op op_add (pe_fldK K (pv 0)) (pe_fldK K (pv 0))) (nomark _))))))
      (pss_one (ps_ret pe_bl))
      pss_nil)
      (pss_cons (ps_asg (pv 2) (pg_sub (pe_fldK K (pv 0)) (pv 1) (set_x hu1)))
      (pss_cons (ps_while PassesOwn.never (pt_cmpR (op_inX hu1) (pe_fldK K (pv 0)) (pe_fldK K (pv 0)) rfl)
      (pss_one (ps_fld (pv 0) (pe_op op_add (pe_fldK K (pv 0)) pe_int) rfl)))
      (pss_one (ps_ret pe_bl)))))), ?_⟩
    simp (maxSteps := 1000000) only [rInX, rSetX, gSub, Nat.reduceSub, upd_same, HO.ins.injEq, Nat.reduceAdd, tFld, sFld, cxOf_K, tSeq, exists_and_left, if_true, tIfS, tOr, tTest, tOp, tVar, tC, rI0, tRet, tAsg, tNext, L2.start, List.map_cons, List.map_nil, List.length_cons, List.length_nil, List.replicate, List.getElem?_cons_zero, List.getElem?_cons_succ, Option.some.injEq, exists_eq_left', V.int.injEq, V.bl.injEq, V.ref.injEq, true_and, and_assoc, List.append_nil, O.ins, T_Taker.cl, T_Taker.no "window" (by decide), T_Taker.no "got" (by decide), T_Taker.no "owed" (by decide), T_Taker.no "things" (by decide), fs_Taker_window, fs_Taker_got, fs_Taker_things, fl_Taker, fp_Taker_owed]
    generalize z0 : upd H x _ = H0
    have e0 := (congrFun z0.symm x).trans upd_same
    have k0 : Keep [x] H H0 := by rw [← z0]; exact Keep.refl.upd (.inl (.head _))
    have ed := k0 _ _ O.dic (by simp; exact Ne.symm nxg)
    simp (maxSteps := 1000000) only [inO_di, setO_di', Option.some.injEq, exists_eq_left', ed]
    have no : isNew W g kvs p = false → Q (.bl false) H0 := fun z => q1 z _ ⟨e0, ed⟩ k0
    by_cases h1 : p < (g : Int)
    · rw [decide_eq_true h1]
      exact iteT (no (by simp [isNew]; intro _; omega))
    rw [decide_eq_false h1]
    refine iteF ?_
    by_cases h2 : (valV kvs (Sum.inl p)).isSome = true
    · rw [if_pos h2]
      exact no (by simp [isNew]; intro _ z; rw [z] at h2; cases h2)
    rw [if_neg h2]
    have hnone : valV kvs (Sum.inl p) = none := by cases z : valV kvs (Sum.inl p) with | none => rfl | some _ => rw [z] at h2; exact absurd rfl h2
    by_cases h3 : (g : Int) + W ≤ p
    · rw [decide_eq_true h3]
      exact iteT (no (by simp [isNew]; intro _ _; omega))
    rw [decide_eq_false h3]
    have yes : isNew W g kvs p = true := by simp [isNew, hnone]; omega
    refine iteF ⟨_, if_pos (by rw [sizeLine_eq]; omega), ?_⟩
    generalize z1 : upd H0 pg _ = H1
    have e1 := (congrFun z1.symm pg).trans upd_same
    have ex1 := (congrFun z1.symm x).trans ((upd_ne nxg).trans e0)
    have k1 : Keep [x, pg] H H1 := by rw [← z1]; exact (k0.mono (by simp)).upd (.inl (by simp))
    have hkl := length_putK kvs (Sum.inl p : Key) v
    have hput : ∀ k, valV kvs k ≠ none → valV (putK kvs (Sum.inl p) v) k ≠ none := fun k hk => by
      rw [valV_put]
      split
      · intro z; cases z
      · exact hk
    refine while_by (Lk C x dx pg W u g p v (putK kvs (Sum.inl p) v) H) (fun _ Hc => match Hc x with | some (.ins _ _ fs) => (match fs.lookup ("got" : Str) with | some (.int n) => kvs.length + 2 - n.toNat | _ => 0) | _ => 0) ⟨g, rfl, Nat.le_refl _, ⟨ex1, e1⟩, fun k hk => hput _ (tl.below k hk), k1⟩ ?_ ?_
    · rintro σ Hc ⟨g', rfl, hg, Oc, bel, kc⟩
      simp (maxSteps := 1000000) only [rInX, inO_di, upd_same, HO.ins.injEq, tFld, sFld, exists_and_left, tTest, tOp, tVar, tC, rI0, tRet, List.getElem?_cons_zero, Option.some.injEq, exists_eq_left', V.int.injEq, V.bl.injEq, V.ref.injEq, true_and, and_assoc, Oc.ins, Oc.dic, T_Taker.cl, T_Taker.no "got" (by decide), T_Taker.no "things" (by decide), fs_Taker_got, fs_Taker_things, fl_Taker, fp_Taker_got]
      by_cases hs : (valV (putK kvs (Sum.inl p) v) (Sum.inl (g' : Int))).isSome = true
      · rw [if_pos hs]
        have hne : valV (putK kvs (Sum.inl p) v) (Sum.inl (g' : Int)) ≠ none := fun z => by rw [z] at hs; cases hs
        have bel' : ∀ k : Nat, k < g' + 1 → valV (putK kvs (Sum.inl p) v) (Sum.inl (k : Int)) ≠ none := fun k hk => by
          by_cases e : k = g'
          · subst e; exact hne
          · exact bel k (by omega)
        have hpg := pigeon (g' + 1) ((putK kvs (Sum.inl p) v).map (·.1)) fun k hk => valV_mem (bel' k hk)
        rw [List.length_map] at hpg
        have ec : ((g' : Int) + 1) = ((g' + 1 : Nat) : Int) := by omega
        rw [ec]
        refine ⟨⟨g' + 1, rfl, by omega, ⟨upd_same, by rw [upd_ne (Ne.symm nxg)]; exact Oc.dic⟩, bel', kc.upd (.inl (by simp))⟩, ?_⟩
        omega
      · rw [if_neg hs]
        have hno : valV (putK kvs (Sum.inl p) v) (Sum.inl (g' : Int)) = none := by cases z : valV (putK kvs (Sum.inl p) v) (Sum.inl (g' : Int)) with | none => rfl | some _ => rw [z] at hs; exact absurd rfl hs
        exact q2 yes g' _ hg Oc ⟨bel, hno⟩ kc
    · exact mon_test (mon_op mon_inX (mon_fld mon_var) (mon_fld mon_var))
def sp_answered (C : Addr) : Sp := fun vs H Q _ => ∃ (x dx pg : Addr) (W : Int) (g : Nat) (o : Bool) (u : Nat) (kvs : List (Key × V)), vs = [.ref x] ∧ TakeAt C H x dx pg W g o u kvs ∧ ∀ H', TakeAt C H' x dx pg W g false u kvs → Keep [x] H H' → Q (.int g) H'
theorem own_answered (D : DefM K C "answered" "Taker.answered" s_Taker_answered) (hb : Blt mg) (T_Taker : ClsD K mg "Taker" C at_Taker) : OwnM P w K mg base 1 C "answered" ["self"] (sp_answered C) := by
  refine D.own sc_Taker_answered (fun _ _ _ _ _ _ us hl => match us, hl with | [_], _ => rfl) (fun vs H Q E h => ?_) (fun f cdv A outer s H vs Q E hr h => ?_)
  · obtain ⟨x, dx, pg, W, g, o, u, kvs, rfl, _⟩ := h
    rfl
  · obtain ⟨x, dx, pg, W, g, o, u, kvs, rfl, O, q⟩ := h
    refine ⟨_, (pss_cons (ps_fld (pv 0) pe_bl rfl)
      (pss_one (ps_ret (pe_fldK K (pv 0))))), ?_⟩
    simp (maxSteps := 1000000) only [Nat.reduceSub, upd_same, HO.ins.injEq, Nat.reduceAdd, tFld, sFld, cxOf_K, tSeq, exists_and_left, tVar, tC, tRet, L2.start, List.map_cons, List.map_nil, List.length_cons, List.length_nil, List.replicate, List.getElem?_cons_zero, Option.some.injEq, exists_eq_left', V.ref.injEq, true_and, and_assoc, List.append_nil, O.ins, T_Taker.cl, T_Taker.no "got" (by decide), T_Taker.no "owed" (by decide), fs_Taker_got, fl_Taker, fp_Taker_owed]
    exact q _ ⟨upd_same, by rw [upd_ne (Ne.symm O.ne)]; exact O.dic⟩ (Keep.refl.upd (.inl (by simp)))
/-- the things at the places from u to g -/
def thin (kvs : List (Key × V)) (u g : Nat) : List V := (List.range (g - u)).map fun i => ((valV kvs (Sum.inl ((u + i : Nat) : Int))).getD .non)
theorem thin_at {kvs : List (Key × V)} {u g i : Nat} (hi : i < g - u) : (thin kvs u g)[i]? = some ((valV kvs (Sum.inl ((u + i : Nat) : Int))).getD .non) := by
  simp [thin, hi]
def sp_read (C : Addr) : Sp := fun vs H Q _ => ∃ (x dx pg : Addr) (W : Int) (g : Nat) (o : Bool) (u : Nat) (kvs : List (Key × V)), vs = [.ref x] ∧ TakeAt C H x dx pg W g o u kvs ∧ Till kvs g ∧ u ≤ g ∧ kvs.length ≤ 1000 ∧ ∀ l H', H l = none → TakeAt C H' x dx pg W g o g kvs → H' l = some (.lst (thin kvs u g)) → Keep [x] H H' → Q (.ref l) H'
theorem own_read (D : DefM K C "read" "Taker.read" s_Taker_read) (hb : Blt mg) (T_Taker : ClsD K mg "Taker" C at_Taker) : OwnM P w K mg base 1 C "read" ["self"] (sp_read C) := by
  refine D.own sc_Taker_read (fun _ _ _ _ _ _ us hl => match us, hl with | [_], _ => rfl) (fun vs H Q E h => ?_) (fun f cdv A outer s H vs Q E hr h => ?_)
  · obtain ⟨x, dx, pg, W, g, o, u, kvs, rfl, _⟩ := h
    rfl
  · obtain ⟨x, dx, pg, W, g, o, u, kvs, rfl, O, tl, hug, hk, q⟩ := h
    have hu := hr.units
    have hu1 : (A.deeper (PyProof.Rows.envOfC "Taker.read" (defScope s_Taker_read) s.heap.objs.size f cdv)).units + 1 < cLine := by omega
    have hg := tl.le
    refine ⟨_, (pss_cons (ps_setC (i := 1) ["place"] ["self"] [0] rfl sc_Taker_read.nd rfl (by first | exact Or.inl rfl | exact Or.inr rfl) cs_Taker_read_0 (pi_range2 rfl (hb _ (by decide)) (pa_cons (pe_fldK K (pv 0)) (pa_cons (pe_fldK K (pv 0)) pa_nil))) (fun _ _ _ _ => (pg_name (i := 0) cs_Taker_read_0.nd rfl (by first | exact Or.inl rfl | exact Or.inr rfl))) (fun _ _ _ _ => pf_nil) (fun _ _ _ _ => (pe_ix (ix_get hu1) (pe_fldK K (pv 1)) (pv 0) (fun _ _ => rfl))) rfl)
      (pss_cons (ps_fld (pv 0) (pe_fldK K (pv 0)) rfl)
      (pss_one (ps_ret (pv 1))))), ?_⟩
    simp (maxSteps := 1000000) only [tComp_eq, Nat.reduceSub, HO.ins.injEq, Nat.reduceAdd, tFld, sFld, iRng2, cxOf_K, List.cons.injEq, tSeq, exists_and_left, tVar, tRet, tAsg, gName, tCons, tNil, L2.start, List.map_cons, List.map_nil, List.length_cons, List.length_nil, List.replicate, List.cons_append, List.nil_append, List.getElem?_cons_zero, List.getElem?_cons_succ, List.set_cons_zero, List.set_cons_succ, Option.some.injEq, exists_eq_left', V.int.injEq, V.ref.injEq, and_true, true_and, and_assoc, O.ins, T_Taker.cl, T_Taker.no "got" (by decide), T_Taker.no "first_unread" (by decide), fs_Taker_got, fs_Taker_first_unread]
    have hn : ((g : Int) - (u : Int)).toNat = g - u := by omega
    rw [hn]
    refine ⟨by omega, by omega, by omega, by omega, comp_range (by rw [sizeLine_eq]; omega) (fun D i acc H' => H' = upd H D (.lst acc) ∧ acc = (thin kvs u g).take i) (fun D hD => ⟨rfl, rfl⟩) ?_ ?_ ?_⟩
    · rintro D i acc H' hD hi ⟨rfl, rfl⟩
      exact ⟨upd_same, by rw [List.length_take]; omega⟩
    · rintro D i acc H' hD hi ⟨rfl, rfl⟩
      have nx := ne_of_none O.ins hD
      have ng := ne_of_none O.dic hD
      obtain ⟨v, hv⟩ : ∃ v, valV kvs (Sum.inl ((u + i : Nat) : Int)) = some v := by
        cases z : valV kvs (Sum.inl ((u + i : Nat) : Int)) with
        | none => exact absurd z (tl.below _ (by omega))
        | some v => exact ⟨v, rfl⟩
      have ei : (u : Int) + (i : Int) = ((u + i : Nat) : Int) := by omega
      simp (maxSteps := 1000000) only [rGet, getO_di, upd_same, upd_upd, HO.ins.injEq, tFld, tYes, cSt, List.drop_succ_cons, List.drop_zero, exists_and_left, if_true, tOp, tVar, gName, List.map_cons, List.map_nil, List.replicate, List.cons_append, List.nil_append, List.getElem?_cons_zero, List.getElem?_cons_succ, List.set_cons_zero, Option.some.injEq, exists_eq_left', V.ref.injEq, true_and, and_assoc, List.map_cons, List.map_nil, Option.join_some, upd_of_ne nx, upd_of_ne ng, O.ins, O.dic, T_Taker.cl, T_Taker.no "things" (by decide), fs_Taker_things, ei, hv]
      rw [List.take_add_one, thin_at hi, hv]
      rfl
    · rintro D acc H' hD ⟨rfl, rfl⟩
      have nx := ne_of_none O.ins hD
      have ng := ne_of_none O.dic hD
      have hl : (thin kvs u g).take (g - u) = thin kvs u g := List.take_of_length_le (by simp [thin])
      rw [hl]
      simp (maxSteps := 1000000) only [HO.ins.injEq, exists_and_left, Option.some.injEq, exists_eq_left', true_and, and_assoc, upd_of_ne nx, O.ins, T_Taker.cl, T_Taker.no "got" (by decide), T_Taker.no "first_unread" (by decide), fs_Taker_got, fl_Taker, fp_Taker_first_unread]
      exact q D _ hD ⟨upd_same, by rw [upd_ne (Ne.symm O.ne), upd_ne ng]; exact O.dic⟩ (by rw [upd_ne (Ne.symm nx)]; exact upd_same) ((Keep.refl.upd (.inr hD)).upd (.inl (by simp)))
end
abbrev s__law_mixed : Stmt := top 15
theorem sc__law_mixed : FnScope ["_law_cell", "_law_k", "_law_number"] ["_law_cell", "_law_k"] (defScope s__law_mixed) := ⟨rfl, rfl, rfl, by decide +kernel, rfl, by decide +kernel, by decide +kernel⟩
abbrev s__law_cell_at : Stmt := top 14
theorem sc__law_cell_at : FnScope ["_law_script", "_law_k"] ["_law_script", "_law_k"] (defScope s__law_cell_at) := ⟨rfl, rfl, rfl, by decide +kernel, rfl, by decide +kernel, by decide +kernel⟩
def sp_mixed : Sp := fun vs H Q _ => ∃ c k : Int, vs = [.int c, .int k] ∧ 0 ≤ k ∧ k ≤ 1000 ∧ ∀ r : Int, 0 ≤ r → r < 2147483648 → Q (.int r) H
theorem own_mixed (D : Def K mg "_law_mixed" s__law_mixed) : Own P w K mg base 1 "_law_mixed" ["_law_cell", "_law_k"] sp_mixed := by
  refine D.own sc__law_mixed (fun _ _ _ _ _ _ us hl => match us, hl with | [_, _], _ => rfl) (fun vs H Q E h => ?_) (fun f cdv A outer s H vs Q E hr h => ?_)
  · obtain ⟨c, k, rfl, _⟩ := h
    rfl
  · obtain ⟨c, k, rfl, hk0, hk1, q⟩ := h
    refine ⟨_, (pss_cons (ps_if (PW.pt (pw_and (pt_cmpR op_ge (pv 0) (pe_op op_shl pe_int pe_int) (nomark _)) (pw_and (pt_cmpR op_eq (pe_op op_mod (pv 0) pe_int) pe_int (nomark _)) (pw_and1 (pt_cmpR op_gt (pe_op op_shr (pv 0) (pe_op op_add pe_int (pe_op op_mul pe_int (pv 1)))) pe_int (nomark _))))))
      (pss_one (ps_ret (pe_op op_mod (pe_op op_shr (pv 0) (pe_op op_add pe_int (pe_op op_mul pe_int (pv 1)))) pe_int)))
      pss_nil)
      (pss_cons (ps_set (i := 2) sc__law_mixed.nd rfl (by first | exact Or.inl rfl | exact Or.inr rfl) (pe_op op_mod (pe_op op_mul (pe_op op_add (pe_op op_add (pv 0) (pe_op op_mul pe_int (pv 1))) pe_int) pe_int) pe_int))
      (pss_cons (ps_set (i := 2) sc__law_mixed.nd rfl (by first | exact Or.inl rfl | exact Or.inr rfl) (pe_op op_mod (pe_op op_mul (pv 2) (pe_op op_add (pe_op op_fdiv (pv 2) pe_int) pe_int)) pe_int))
      (pss_one (ps_ret (pe_op op_mod (pe_op op_mul (pv 2) (pe_op op_add (pe_op op_add (pe_op op_fdiv (pv 2) pe_int) pe_int) (pv 1))) pe_int)))))), ?_⟩
    have fin : ∀ a m : Int, 0 < m → m ≤ 2147483648 → Q (.int (a % m)) H := fun a m h0 h1 => q _ (Int.emod_nonneg _ (by omega)) (Int.lt_of_lt_of_le (Int.emod_lt_of_pos _ h0) h1)
    simp only [tDGs, sDPs, rIsB, rIsntB, tMeth, tMake, tDGet, sDPut, tFld, sFld, tDisp, tPairs, tNever, decide_true, decide_false, truV_bl, clsV_ty, V.ty.injEq, exists_eq', exists_eq, Bool.not_true, Bool.not_false, Bool.not_not, rLen, rListOf, rTupOf, rAny, rAll, rIsI, tTru, iRng1, iRng2, iList, tYes, cSt, List.drop_succ_cons, List.drop_zero, cxOf_K, cxC_K,  tBM, tBM0, rAppend, tSl, rSlL, tNoPart, tPart, rIxL, rIxT, rCat, List.cons.injEq, rEq_ii, rNe_ii, rEq_bb, rNe_bb, tSeq, exists_and_left, if_false, if_true, reduceIte, Bool.false_eq_true, tIfS, tAnd, tOr, tNot, tTest, tOp, tUn, tVar, tC, rI, rI0, rU, tRet, tRetN, tAsg, gName, tNext, tAndV, tOrV, tNotV, tIf, tCall, tCons, tNil, tCB, tDrop, tLst, tTup, tChain, L2.start, List.map_cons, List.map_nil, List.length_cons, List.length_nil, List.replicate, List.cons_append, List.nil_append, List.getElem?_cons_zero, List.getElem?_cons_succ, List.set_cons_zero, List.set_cons_succ, Option.some.injEq, exists_eq_left', exists_eq_left, V.int.injEq, V.bl.injEq, V.ref.injEq, V.str.injEq, exists_const, and_true, true_and, reduceCtorEq, false_and, exists_false, or_false, false_or, and_assoc, List.append_nil]
    repeat' (first | refine ⟨?_, ?_⟩ | split)
    all_goals first
      | exact fin _ _ (by decide) (by decide)
      | exact Or.inl ⟨by decide, by decide⟩
      | exact Or.inr ⟨by decide, by decide⟩
      | exact cmul_mod (by decide) (by decide)
      | decide
      | omega
def sp_cell (K : PySem.W.Frag) : Sp := fun vs H Q _ => ∃ (a : Addr) (ns : List Int) (k : Int), vs = [.ref a, .int k] ∧ 0 ≤ k ∧ SqL K H a (ns.map V.int) ∧ ∀ r : Int, Q (.int r) H
theorem own_cell (D : Def K mg "_law_cell_at" s__law_cell_at) (hb : Blt mg) : Own P w K mg base 1 "_law_cell_at" ["_law_script", "_law_k"] (sp_cell K) := by
  refine D.own sc__law_cell_at (fun _ _ _ _ _ _ us hl => match us, hl with | [_, _], _ => rfl) (fun vs H Q E h => ?_) (fun f cdv A outer s H vs Q E hr h => ?_)
  · obtain ⟨a, ns, k, rfl, _⟩ := h
    rfl
  · obtain ⟨a, ns, k, rfl, hk, hS, q⟩ := h
    refine ⟨_, (pss_cons (ps_if (pt_cmpR op_lt (pv 1) (pe_callB (call_lenK K) rfl (hb _ (by decide)) bt_len (pa_cons (pv 0) pa_nil)) (nomark _))
      (pss_one (ps_ret (pe_ix (ix_listK K) (pv 0) (pv 1) (fun _ _ => rfl))))
      pss_nil)
      (pss_one (ps_ret pe_int))), ?_⟩
    simp only [tDGs, sDPs, rIsB, rIsntB, tMeth, tMake, tDGet, sDPut, tFld, sFld, tDisp, tPairs, tNever, decide_true, decide_false, truV_bl, clsV_ty, V.ty.injEq, exists_eq', exists_eq, Bool.not_true, Bool.not_false, Bool.not_not, rLen, rListOf, rTupOf, rAny, rAll, rIsI, tTru, iRng1, iRng2, iList, tYes, cSt, List.drop_succ_cons, List.drop_zero, cxOf_K, cxC_K,  tBM, tBM0, rAppend, tSl, rSlL, tNoPart, tPart, rIxL, rIxT, rCat, List.cons.injEq, rEq_ii, rNe_ii, rEq_bb, rNe_bb, tSeq, exists_and_left, if_false, if_true, reduceIte, Bool.false_eq_true, tIfS, tAnd, tOr, tNot, tTest, tOp, tUn, tVar, tC, rI, rI0, rU, tRet, tRetN, tAsg, gName, tNext, tAndV, tOrV, tNotV, tIf, tCall, tCons, tNil, tCB, tDrop, tLst, tTup, tChain, L2.start, List.map_cons, List.map_nil, List.length_cons, List.length_nil, List.replicate, List.cons_append, List.nil_append, List.getElem?_cons_zero, List.getElem?_cons_succ, List.set_cons_zero, List.set_cons_succ, Option.some.injEq, exists_eq_left', exists_eq_left, V.int.injEq, V.bl.injEq, V.ref.injEq, V.str.injEq, exists_const, and_true, true_and, reduceCtorEq, false_and, exists_false, or_false, false_or, and_assoc, List.append_nil]
    refine ⟨_, .inl hS, ite2 (fun h => ?_) (fun _ => q 0)⟩
    have h' := of_decide_eq_true h
    obtain ⟨v, hv, ev⟩ := atI_in (xs := ns.map V.int) hk h'
    obtain ⟨z, _, rfl⟩ := List.mem_map.mp hv
    exact ⟨_, hS, _, ev, q z⟩
/-! ### deeds that are drawn -/
end
end K65
namespace K65
open PySem L2
abbrev s_Teller_stands : Stmt := inClass (top 11) 1
theorem sc_Teller_stands : FnScope ["self"] ["self"] (defScope s_Teller_stands) := ⟨rfl, rfl, rfl, by decide +kernel, rfl, by decide +kernel, by decide +kernel⟩
abbrev s__law_put : Stmt := top 16
theorem sc__law_put : FnScope ["_law_teller", "_law_put_here", "_law_number", "_law_thing"] ["_law_teller", "_law_put_here", "_law_number"] (defScope s__law_put) := ⟨rfl, rfl, rfl, by decide +kernel, rfl, by decide +kernel, by decide +kernel⟩
abbrev s__law_copies : Stmt := top 17
theorem sc__law_copies : FnScope ["_law_cell", "_law_first", "_law_turn_here", "_law_what", "_law_found", "_law_k", "_law_number", "_law_late"] ["_law_cell", "_law_first", "_law_turn_here", "_law_what"] (defScope s__law_copies) := ⟨rfl, rfl, rfl, by decide +kernel, rfl, by decide +kernel, by decide +kernel⟩
abbrev s__law_right : Stmt := top 19
theorem sc__law_right : FnScope ["_law_teller", "_law_taker", "_law_put_here", "_law_read", "_law_window"] ["_law_teller", "_law_taker", "_law_put_here", "_law_read", "_law_window"] (defScope s__law_right) := ⟨rfl, rfl, rfl, by decide +kernel, rfl, by decide +kernel, by decide +kernel⟩
section
variable {P : Program} {w : World} {K : PySem.W.Frag} {mg : Str → Option Value} {base : Heap} {C C2 : Addr}
def sp_stands (C : Addr) : Sp := fun vs H Q _ => ∃ (x dx pl pg : Addr) (W T b t : Int) (st : Str) (xs : List V) (kvs : List (Key × V)), vs = [.ref x] ∧ TellAt C H x dx pl pg W T b t st xs kvs ∧ Q (.str st) H
theorem own_stands (D : DefM K C "stands" "Teller.stands" s_Teller_stands) (T_Teller : ClsD K mg "Teller" C at_Teller) : OwnM P w K mg base 1 C "stands" ["self"] (sp_stands C) := by
  refine D.own sc_Teller_stands (fun _ _ _ _ _ _ us hl => match us, hl with | [_], _ => rfl) (fun vs H Q E h => ?_) (fun f cdv A outer s H vs Q E hr h => ?_)
  · obtain ⟨x, dx, pl, pg, W, T, b, t, st, xs, kvs, rfl, _⟩ := h
    rfl
  · obtain ⟨x, dx, pl, pg, W, T, b, t, st, xs, kvs, rfl, O, q⟩ := h
    refine ⟨_, (@pss_one _ _ _ (@ps_ret _ _ _ _ (@pe_fldK _ K _ _ _ _ (@pv _ 0 _ _ (by rfl) (by first | exact Or.inl rfl | exact Or.inr (Or.inl rfl) | exact Or.inr (Or.inr rfl)) (by decide) (by decide)) (by rfl) (by rfl)))), ?_⟩
    simp (maxSteps := 1000000) only [Nat.reduceSub, HO.ins.injEq, Nat.reduceAdd, tFld, exists_and_left, tVar, tRet, L2.start, List.map_cons, List.map_nil, List.length_cons, List.length_nil, List.replicate, List.getElem?_cons_zero, Option.some.injEq, exists_eq_left', V.ref.injEq, true_and, and_assoc, List.append_nil, O.ins, T_Teller.cl, T_Teller.no "state" (by decide), fs_Teller_state]
    exact q
theorem dig_len : ∀ (k n : Nat), n < 10 ^ (k + 1) → (Nat.toDigits 10 n).length ≤ k + 1
  | 0, n, h => by
    rw [Nat.toDigits_of_lt_base (by omega)]
    simp
  | k + 1, n, h => by
    by_cases h10 : n < 10
    · rw [Nat.toDigits_of_lt_base h10]
      simp
    · rw [Nat.toDigits_of_base_le (by decide) (by omega), List.length_append]
      have : n / 10 < 10 ^ (k + 1) := by
        rw [Nat.pow_succ] at h
        omega
      have := dig_len k (n / 10) this
      simp
      omega
theorem num_txt {n : Nat} (h : n < 1000000) : txt (Str.ofString "s" ++ Str.ofString (toString (n : Int))) 8 32 126 = true ∧ (Str.ofString (toString (n : Int))).length ≤ 6 := by
  have e : Str.ofString (toString (n : Int)) = ⟨((Nat.toDigits 10 n).map (·.toNat)).toArray⟩ := by
    have e : toString (n : Int) = n.repr := rfl
    rw [e, Str.ofString_eq_toList, Nat.toList_repr]
  have hl : (Str.ofString (toString (n : Int))).length ≤ 6 := by
    rw [e]
    change (((Nat.toDigits 10 n).map (·.toNat)).toArray).size ≤ 6
    simp
    exact dig_len 5 n h
  refine ⟨?_, hl⟩
  have e2 : (Str.ofString "s" ++ Str.ofString (toString (n : Int))) = ⟨(115 :: (Nat.toDigits 10 n).map (·.toNat)).toArray⟩ := by
    rw [e]
    have : Str.ofString "s" = ⟨#[115]⟩ := by decide
    rw [this]
    change (⟨#[115] ++ ((Nat.toDigits 10 n).map (·.toNat)).toArray⟩ : Str) = _
    rw [List.append_toArray]
    rfl
  have hl2 : (Nat.toDigits 10 n).length ≤ 6 := dig_len 5 n h
  rw [e2]
  unfold txt
  have l3 : (⟨(115 :: (Nat.toDigits 10 n).map (·.toNat)).toArray⟩ : Str).length = (Nat.toDigits 10 n).length + 1 := by
    change ((115 :: (Nat.toDigits 10 n).map (·.toNat)).toArray).size = _
    simp
  rw [l3, decide_eq_true (show 1 ≤ (Nat.toDigits 10 n).length + 1 by omega), decide_eq_true (show (Nat.toDigits 10 n).length + 1 ≤ 8 by omega)]
  simp only [Bool.true_and]
  rw [List.all_eq_true]
  intro c hc
  rcases List.mem_cons.mp hc with rfl | hc
  · decide
  · obtain ⟨d, hd, rfl⟩ := List.mem_map.mp hc
    have := Nat.isDigit_of_mem_toDigits (by decide) (by decide) hd
    unfold Char.isDigit at this
    simp only [Bool.and_eq_true, decide_eq_true_eq] at this
    have h1 : 48 ≤ d.toNat := this.1
    have h2 : d.toNat ≤ 57 := this.2
    unfold inB
    rw [decide_eq_true (show 32 ≤ d.toNat by omega), decide_eq_true (show d.toNat ≤ 126 by omega)]
    rfl
def sp_lput (C : Addr) : Sp := fun vs H Q _ => ∃ (x dx pl pg pp : Addr) (W T b t n : Int) (st : Str) (xs : List V) (ds : List PyData) (kvs : List (Key × V)), vs = [.ref x, .ref pp, .int n] ∧ TellAt C H x dx pl pg W T b t st xs kvs ∧ H pp = some (.lst xs) ∧ Ims H xs ds ∧ (∀ d ∈ ds, d.depth ≤ 3) ∧ (st = "shut" ∨ st = "open") ∧ xs.length ≤ 900 ∧ pp ≠ pl ∧
  ∀ st' v d H', TellAt C H' x dx pl pg W T b t st' (xs ++ [v]) kvs → H' pp = some (.lst (xs ++ [v])) → Ims H' (xs ++ [v]) (ds ++ [d]) → (∀ e ∈ ds ++ [d], e.depth ≤ 3) → (st' = "shut" ∨ st' = "open") → Keep [x, pl, pp] H H' → Q .non H'
set_option maxHeartbeats 4000000 in
theorem own_lput (D : Def K mg "_law_put" s__law_put) (hb : Blt mg) (T_Teller : ClsD K mg "Teller" C at_Teller) (M_Teller_stands : OwnM P w K mg base 1 C "stands" ["self"] (sp_stands C)) (M_Teller_put : OwnM P w K mg base 4 C "put" ["self", "thing"] (sp_tput C)) : Own P w K mg base 5 "_law_put" ["_law_teller", "_law_put_here", "_law_number"] (sp_lput C) := by
  refine D.own sc__law_put (fun _ _ _ _ _ _ us hl => match us, hl with | [_, _, _], _ => rfl) (fun vs H Q E h => ?_) (fun f cdv A outer s H vs Q E hr h => ?_)
  · obtain ⟨x, dx, pl, pg, pp, W, T, b, t, n, st, xs, ds, kvs, rfl, _⟩ := h
    rfl
  · obtain ⟨x, dx, pl, pg, pp, W, T, b, t, n, st, xs, ds, kvs, rfl, O, ep, hI, hdp, hst, hxl, np, q⟩ := h
    have hu := hr.units
    have hu1 : (A.deeper (PyProof.Rows.envOfC "_law_put" (defScope s__law_put) s.heap.objs.size f cdv)).units + 1 < cLine := by omega
    refine ⟨_, (@pss_cons _ _ _ _ _ (@ps_set _ _ 3 _ _ _ _ sc__law_put.nd rfl (by first | exact Or.inl rfl | exact Or.inr rfl) (@pe_tup _ _ _ _ _ (@pa_cX _ _ _ _ _ (@pe_str _ _ _ _) (@pa_cX _ _ _ _ _ (@pe_op _ _ _ _ _ _ _ _ op_add_str (@pe_str _ _ _ _) (@pe_callTy _ _ _ _ _ _ _ _ _ call_strX rfl (hb _ (by decide)) bt_str (@pa_cX _ _ _ _ _ (@pe_op _ _ _ _ _ _ _ _ op_mod (@pv _ 2 _ _ (by rfl) (by first | exact Or.inl rfl | exact Or.inr (Or.inl rfl) | exact Or.inr (Or.inr rfl)) (by decide) (by decide)) (@pe_op _ _ _ _ _ _ _ _ op_pow (@pe_int _ _ _ _) (@pe_int _ _ _ _))) (@pa_nil _) (by rfl)) (by decide) (by decide) (by rfl) (by rfl))) (@pa_nil _) (by rfl)) (by rfl))) (by rfl) (by first | exact .inl rfl | exact .inr rfl | assumption)) (@pss_cons _ _ _ _ _ (@ps_if _ _ _ _ _ _ _ _ (@pt_cmpR _ _ _ _ _ _ _ _ op_eq (@pe_mth0 _ _ _ _ _ _ _ _ _ _ _ _ M_Teller_stands T_Teller.cl hr (@pv _ 0 _ _ (by rfl) (by first | exact Or.inl rfl | exact Or.inr (Or.inl rfl) | exact Or.inr (Or.inr rfl)) (by decide) (by decide)) (by decide) (by rfl)) (@pe_str _ _ _ _) (nomark _)) (@pss_one _ _ _ (@ps_set _ _ 3 _ _ _ _ sc__law_put.nd rfl (by first | exact Or.inl rfl | exact Or.inr rfl) (@pe_tup _ _ _ _ _ (@pa_cX _ _ _ _ _ (@pe_str _ _ _ _) (@pa_nil _) (by rfl))) (by rfl) (by first | exact .inl rfl | exact .inr rfl | assumption))) (@pss_one _ _ _ (@ps_if _ _ _ _ _ _ _ _ (@pt_cmpR _ _ _ _ _ _ _ _ op_eq (@pe_op _ _ _ _ _ _ _ _ op_mod (@pv _ 2 _ _ (by rfl) (by first | exact Or.inl rfl | exact Or.inr (Or.inl rfl) | exact Or.inr (Or.inr rfl)) (by decide) (by decide)) (@pe_int _ _ _ _)) (@pe_int _ _ _ _) (nomark _)) (@pss_one _ _ _ (@ps_set _ _ 3 _ _ _ _ sc__law_put.nd rfl (by first | exact Or.inl rfl | exact Or.inr rfl) (@pe_tup _ _ _ _ _ (@pa_cX _ _ _ _ _ (@pe_str _ _ _ _) (@pa_nil _) (by rfl))) (by rfl) (by first | exact .inl rfl | exact .inr rfl | assumption))) (@pss_nil _)))) (@pss_cons _ _ _ _ _ (@ps_expr _ _ _ _ (@pe_mth _ _ _ _ _ _ _ _ _ _ _ _ _ _ _ M_Teller_put T_Teller.cl hr (@pv _ 0 _ _ (by rfl) (by first | exact Or.inl rfl | exact Or.inr (Or.inl rfl) | exact Or.inr (Or.inr rfl)) (by decide) (by decide)) (@pa_cX _ _ _ _ _ (@pv _ 3 _ _ (by rfl) (by first | exact Or.inl rfl | exact Or.inr (Or.inl rfl) | exact Or.inr (Or.inr rfl)) (by decide) (by decide)) (@pa_nil _) (by rfl)) (by decide) (by rfl) (by rfl) (by rfl)) (by rfl)) (@pss_one _ _ _ (@ps_expr _ _ _ _ (@pe_lm _ _ _ _ _ _ _ _ _ _ _ PySem.F.slot_list_append PySem.F.type_list_append mt_append (@pv _ 1 _ _ (by rfl) (by first | exact Or.inl rfl | exact Or.inr (Or.inl rfl) | exact Or.inr (Or.inr rfl)) (by decide) (by decide)) (@pa_cX _ _ _ _ _ (@pv _ 3 _ _ (by rfl) (by first | exact Or.inl rfl | exact Or.inr (Or.inl rfl) | exact Or.inr (Or.inr rfl)) (by decide) (by decide)) (@pa_nil _) (by rfl)) (by rfl) (by rfl) (by rfl) (by rfl) (by rfl)) (by rfl)))))), ?_⟩
    simp (maxSteps := 1000000) only [rStr1, tBL, Nat.reduceSub, Int.reduceLT, Nat.reduceAdd, tMeth, rAppend, List.cons.injEq, rEq_ii, tSeq, exists_and_left, tIfS, tTest, tOp, tVar, tC, rI, tAsg, gName, tNext, tCons, tNil, tCB, tDrop, tTup, L2.start, List.map_cons, List.map_nil, List.length_cons, List.length_nil, List.replicate, List.cons_append, List.nil_append, List.getElem?_cons_zero, List.getElem?_cons_succ, List.set_cons_zero, List.set_cons_succ, Option.some.injEq, exists_eq_left', V.int.injEq, V.bl.injEq, V.ref.injEq, V.str.injEq, exists_const, and_true, true_and, reduceCtorEq, false_and, or_false, List.append_nil]
    have ex := O.ins
    have put : ∀ (H4 : Hp) (p : Addr) (d : PyData), Same H H4 → Im H4 (.ref p) d → Good d → st = wants d → (leaves d = "shut" ∨ leaves d = "open") → d.depth ≤ 3 → ∀ E', sp_tput C [V.ref x, V.ref p] H4 (fun _ H1 => ∃ x_8, H1 pp = some (HO.lst x_8) ∧ ∃ x_9, H1 pp = some (HO.lst x_9) ∧ x_9.length < sizeLine ∧ Q V.non (upd H1 pp (HO.lst (x_9 ++ [V.ref p])))) E' := fun H4 p d s4 hIm hG hw hlv hd3 E' => by
      refine ⟨x, dx, pl, pg, W, T, b, t, st, xs, kvs, .ref p, d, rfl, O.same s4, hIm, hG, hw, by omega, fun H5 O5 k5 => ?_⟩
      have e24 := s4 _ _ ep
      have hnx : pp ∉ [x, pl] := fun z => by
        rcases List.mem_cons.mp z with z | z
        · rw [z, ex] at ep; cases ep
        · exact np (List.mem_singleton.mp z)
      have e5 := k5 _ _ e24 hnx
      have nT4 : ∀ b ∈ [x, pl], NoT H4 b := noT2 (.of_ins (O.same s4).ins) (.of_lst (O.same s4).lst)
      have k6 : Keep [pp] H5 (upd H5 pp (.lst (xs ++ [V.ref p]))) := Keep.refl.upd (.inl (.head _))
      have nT5 : ∀ b ∈ [pp], NoT H5 b := noT1 (.of_lst e5)
      have hnp : x ∉ [pp] ∧ pl ∉ [pp] ∧ pg ∉ [pp] := ⟨by rw [List.mem_singleton]; exact ne_of ex ep (by intro z; cases z), by rw [List.mem_singleton]; exact Ne.symm np, by rw [List.mem_singleton]; exact ne_of O.dic ep (by intro z; cases z)⟩
      refine ⟨_, e5, _, e5, by rw [sizeLine_eq]; omega, q _ _ d _ (O5.keep k6 hnp.1 hnp.2.1 hnp.2.2) upd_same ((((hI.same s4).keep k5 nT4).keep k6 nT5).app (.one ((hIm.keep k5 nT4).keep k6 nT5))) (fun d' hd' => ?_) hlv (fun b o eb hb => ?_)⟩
      · rcases List.mem_append.mp hd' with z | z
        · exact hdp d' z
        · rw [List.mem_singleton] at z
          rw [z]; exact hd3
      · have hb' := hb
        simp only [List.mem_cons, List.not_mem_nil, or_false, not_or] at hb'
        exact k6 _ _ (k5 _ _ (s4 _ _ eb) (by simp; exact ⟨hb'.1, hb'.2.1⟩)) (by simp; exact hb'.2.2)
    have e6 : (10 : Int) ^ Int.toNat 6 = 1000000 := by decide
    rw [e6]
    obtain ⟨m, hm, hm6⟩ : ∃ m : Nat, n % 1000000 = (m : Int) ∧ m < 1000000 := ⟨(n % 1000000).toNat, by omega, by omega⟩
    rw [hm]
    obtain ⟨ht, hlt⟩ := num_txt hm6
    have h1 : (Str.ofString "s").length = 1 := by decide
    refine ⟨⟨by decide, by decide, by decide⟩, by decide, ?_, by rw [sizeLine_eq]; omega, by decide, ?_⟩
    · have : ((m : Int)).natAbs = m := Int.natAbs_natCast m
      rw [this]
      have := Nat.log2_lt (n := m) (k := 20)
      by_cases z : m = 0
      · subst z; decide
      · have := (Nat.log2_lt z).mpr (show m < 2 ^ 20 by omega)
        omega
    intro p3 n3
    generalize z3 : upd H p3 _ = H3
    have s3 := (new_same z3 n3).1
    have e3 := (new_same z3 n3).2
    have ex3 := s3 _ _ ex
    simp (maxSteps := 1000000) only [HO.ins.injEq, exists_and_left, Option.some.injEq, exists_eq_left', true_and, and_assoc, ex3, fn_Teller_stands]
    refine ⟨x, dx, pl, pg, W, T, b, t, st, xs, kvs, rfl, O.same s3, ?_⟩
    rcases hst with rfl | rfl
    · simp (maxSteps := 1000000) only [rEq_ss, decide_true, if_true, exists_eq_left', V.bl.injEq]
      refine ⟨by rw [sizeLine_eq]; decide, ?_⟩
      intro p4 n4
      generalize z4 : upd H3 p4 _ = H4
      have s4 := (new_same z4 n4).1
      have e4 := (new_same z4 n4).2
      have ex4 := s4 _ _ ex3
      simp (maxSteps := 1000000) only [HO.ins.injEq, exists_and_left, Option.some.injEq, exists_eq_left', true_and, and_assoc, ex4, fn_Teller_put]
      exact put H4 p4 (.tuple [.str "begin"]) (s3.trans s4) (.tup e4 (.cons (.str (strOk_of _)) .nil) (by simp)) .beg (by decide) (by decide) (by decide) _
    · simp (maxSteps := 1000000) only [rEq_ss, exists_eq_left', V.bl.injEq]
      have hne : (Str.ofString "open" = Str.ofString "shut") = False := by simp; decide
      simp (maxSteps := 1000000) only [decide_false, if_false, Bool.false_eq_true, hne]
      refine ite2 (fun h4 => ?_) (fun h4 => ?_)
      · refine ⟨by rw [sizeLine_eq]; decide, ?_⟩
        intro p4 n4
        generalize z4 : upd H3 p4 _ = H4
        have s4 := (new_same z4 n4).1
        have e4 := (new_same z4 n4).2
        have ex4 := s4 _ _ ex3
        simp (maxSteps := 1000000) only [HO.ins.injEq, exists_and_left, Option.some.injEq, exists_eq_left', true_and, and_assoc, ex4, fn_Teller_put]
        exact put H4 p4 (.tuple [.str "end"]) (s3.trans s4) (.tup e4 (.cons (.str (strOk_of _)) .nil) (by simp)) .fin (by decide) (by decide) (by decide) _
      · simp (maxSteps := 1000000) only [HO.ins.injEq, exists_and_left, Option.some.injEq, exists_eq_left', true_and, and_assoc, ex3, fn_Teller_put]
        have okz := strOk_app (strOk_of "s") (strOk_of (toString (m : Int)))
        refine put H3 p3 (.tuple [.str "signs", .str (Str.ofString "s" ++ Str.ofString (toString (m : Int)))]) s3 (.tup e3 (.cons (.str (strOk_of _)) (.cons (.str okz) .nil)) (by simp)) (.sgn _ ht okz) ?_ (.inr ?_) (by simp [PyData.depth, PyData.depthAll]) _
        · unfold wants word
          dsimp only
          rw [if_neg (by decide)]
        · unfold leaves word
          dsimp only
          rw [if_neg (by decide)]
def sp_copies : Sp := fun vs H Q _ => ∃ (c f T : Int) (what : Nat), vs = [.int c, .int f, .int T, .int (what : Int)] ∧ 0 ≤ f ∧ f ≤ 900 ∧ ∀ p ys nw H', H p = none → H' p = some (.lst ys) → Paired (Tq H') ys nw → nw.length ≤ 3 → (∀ q ∈ nw, q.2.2.2 = (what : Int)) → Same H H' → Q (.ref p) H'
theorem Tq.keep {S : List Addr} {H H' : Hp} {v : V} {t : Q4} (k : Keep S H H') (hs : ∀ b ∈ S, NoT H b) (h : Tq H v t) : Tq H' v t := by
  obtain ⟨b, e, hb⟩ := h
  exact ⟨b, e, k _ _ hb fun z => hs _ z _ hb⟩
theorem tq_keep {S : List Addr} {H H' : Hp} {ys : List V} {ts : List Q4} (k : Keep S H H') (hs : ∀ b ∈ S, NoT H b) (h : Paired (Tq H) ys ts) : Paired (Tq H') ys ts := Paired.mapP h fun _ _ z => Tq.keep k hs z
theorem tq_same {H H' : Hp} {ys : List V} {ts : List Q4} (s : Same H H') (h : Paired (Tq H) ys ts) : Paired (Tq H') ys ts := tq_keep (S := []) s.keep (fun _ z => nomatch z) h
set_option maxHeartbeats 4000000 in
theorem own_copies (D : Def K mg "_law_copies" s__law_copies) (hb : Blt mg) (F__law_mixed : Own P w K mg base 1 "_law_mixed" ["_law_cell", "_law_k"] sp_mixed) : Own P w K mg base 2 "_law_copies" ["_law_cell", "_law_first", "_law_turn_here", "_law_what"] sp_copies := by
  refine D.own sc__law_copies (fun _ _ _ _ _ _ us hl => match us, hl with | [_, _, _, _], _ => rfl) (fun vs H Q E h => ?_) (fun f cdv A outer s H vs Q E hr h => ?_)
  · obtain ⟨c, f, T, what, rfl, _⟩ := h
    rfl
  · obtain ⟨c, fi, T, what, rfl, f0, f9, q⟩ := h
    have hu := hr.units
    have hu1 : (A.deeper (PyProof.Rows.envOfC "_law_copies" (defScope s__law_copies) s.heap.objs.size f cdv)).units + 1 < cLine := by omega
    refine ⟨_, (@pss_cons _ _ _ _ _ (@ps_set _ _ 4 _ _ _ _ sc__law_copies.nd rfl (by first | exact Or.inl rfl | exact Or.inr rfl) (@pe_lst _ _ _ _ (@pa_nil _)) (by rfl) (by first | exact .inl rfl | exact .inr rfl | assumption)) (@pss_cons _ _ _ _ _ (@ps_for _ _ _ _ _ _ _ _ PassesOwn.never rfl (@pi_range1 _ _ _ _ _ _ rfl (hb _ (by decide)) (@pa_cX _ _ _ _ _ (@pe_op _ _ _ _ _ _ _ _ op_mod (@pe_fn _ _ _ _ _ _ _ _ _ _ _ F__law_mixed hr (@pa_cX _ _ _ _ _ (@pv _ 0 _ _ (by rfl) (by first | exact Or.inl rfl | exact Or.inr (Or.inl rfl) | exact Or.inr (Or.inr rfl)) (by decide) (by decide)) (@pa_cX _ _ _ _ _ (@pv _ 1 _ _ (by rfl) (by first | exact Or.inl rfl | exact Or.inr (Or.inl rfl) | exact Or.inr (Or.inr rfl)) (by decide) (by decide)) (@pa_nil _) (by rfl)) (by rfl)) (by decide) (by rfl) (by decide) (by rfl) (by rfl)) (@pe_int _ _ _ _)) (@pa_nil _) (by rfl)) (by rfl)) (@pg_name _ _ 5 _ sc__law_copies.nd rfl (by first | exact Or.inl rfl | exact Or.inr rfl) (by first | exact .inl rfl | exact .inr rfl | assumption)) (@pss_cons _ _ _ _ _ (@ps_set _ _ 6 _ _ _ _ sc__law_copies.nd rfl (by first | exact Or.inl rfl | exact Or.inr rfl) (@pe_fn _ _ _ _ _ _ _ _ _ _ _ F__law_mixed hr (@pa_cX _ _ _ _ _ (@pv _ 0 _ _ (by rfl) (by first | exact Or.inl rfl | exact Or.inr (Or.inl rfl) | exact Or.inr (Or.inr rfl)) (by decide) (by decide)) (@pa_cX _ _ _ _ _ (@pe_op _ _ _ _ _ _ _ _ op_add (@pe_op _ _ _ _ _ _ _ _ op_add (@pv _ 1 _ _ (by rfl) (by first | exact Or.inl rfl | exact Or.inr (Or.inl rfl) | exact Or.inr (Or.inr rfl)) (by decide) (by decide)) (@pe_int _ _ _ _)) (@pv _ 5 _ _ (by rfl) (by first | exact Or.inl rfl | exact Or.inr (Or.inl rfl) | exact Or.inr (Or.inr rfl)) (by decide) (by decide))) (@pa_nil _) (by rfl)) (by rfl)) (by decide) (by rfl) (by decide) (by rfl) (by rfl)) (by rfl) (by first | exact .inl rfl | exact .inr rfl | assumption)) (@pss_cons _ _ _ _ _ (@ps_set _ _ 7 _ _ _ _ sc__law_copies.nd rfl (by first | exact Or.inl rfl | exact Or.inr rfl) (@pe_ix _ _ _ _ _ _ _ (ix_get hu1) (@pe_lst _ _ _ _ (@pa_cX _ _ _ _ _ (@pe_int _ _ _ _) (@pa_cX _ _ _ _ _ (@pe_op _ _ _ _ _ _ _ _ op_add (@pe_int _ _ _ _) (@pe_op _ _ _ _ _ _ _ _ op_mod (@pe_op _ _ _ _ _ _ _ _ op_fdiv (@pv _ 6 _ _ (by rfl) (by first | exact Or.inl rfl | exact Or.inr (Or.inl rfl) | exact Or.inr (Or.inr rfl)) (by decide) (by decide)) (@pe_int _ _ _ _)) (@pe_int _ _ _ _))) (@pa_cX _ _ _ _ _ (@pe_op _ _ _ _ _ _ _ _ op_add (@pe_int _ _ _ _) (@pe_op _ _ _ _ _ _ _ _ op_mod (@pe_op _ _ _ _ _ _ _ _ op_fdiv (@pv _ 6 _ _ (by rfl) (by first | exact Or.inl rfl | exact Or.inr (Or.inl rfl) | exact Or.inr (Or.inr rfl)) (by decide) (by decide)) (@pe_int _ _ _ _)) (@pe_int _ _ _ _))) (@pa_cX _ _ _ _ _ (@pe_int _ _ _ _) (@pa_nil _) (by rfl)) (by rfl)) (by rfl)) (by rfl))) (@pe_op _ _ _ _ _ _ _ _ op_mod (@pv _ 6 _ _ (by rfl) (by first | exact Or.inl rfl | exact Or.inr (Or.inl rfl) | exact Or.inr (Or.inr rfl)) (by decide) (by decide)) (@pe_int _ _ _ _)) (fun _ _ => rfl)) (by rfl) (by first | exact .inl rfl | exact .inr rfl | assumption)) (@pss_one _ _ _ (@ps_expr _ _ _ _ (@pe_lm _ _ _ _ _ _ _ _ _ _ _ PySem.F.slot_list_append PySem.F.type_list_append mt_append (@pv _ 4 _ _ (by rfl) (by first | exact Or.inl rfl | exact Or.inr (Or.inl rfl) | exact Or.inr (Or.inr rfl)) (by decide) (by decide)) (@pa_cX _ _ _ _ _ (@pe_tup _ _ _ _ _ (@pa_cX _ _ _ _ _ (@pe_op _ _ _ _ _ _ _ _ op_add (@pv _ 2 _ _ (by rfl) (by first | exact Or.inl rfl | exact Or.inr (Or.inl rfl) | exact Or.inr (Or.inr rfl)) (by decide) (by decide)) (@pv _ 7 _ _ (by rfl) (by first | exact Or.inl rfl | exact Or.inr (Or.inl rfl) | exact Or.inr (Or.inr rfl)) (by decide) (by decide))) (@pa_cX _ _ _ _ _ (@pe_op _ _ _ _ _ _ _ _ op_mod (@pe_op _ _ _ _ _ _ _ _ op_fdiv (@pv _ 6 _ _ (by rfl) (by first | exact Or.inl rfl | exact Or.inr (Or.inl rfl) | exact Or.inr (Or.inr rfl)) (by decide) (by decide)) (@pe_int _ _ _ _)) (@pe_int _ _ _ _)) (@pa_cX _ _ _ _ _ (@pe_callB _ _ _ _ _ _ _ _ _ call_lenX rfl (hb _ (by decide)) bt_len (@pa_cX _ _ _ _ _ (@pv _ 4 _ _ (by rfl) (by first | exact Or.inl rfl | exact Or.inr (Or.inl rfl) | exact Or.inr (Or.inr rfl)) (by decide) (by decide)) (@pa_nil _) (by rfl)) (by decide) (by decide) (by rfl) (by rfl)) (@pa_cX _ _ _ _ _ (@pv _ 3 _ _ (by rfl) (by first | exact Or.inl rfl | exact Or.inr (Or.inl rfl) | exact Or.inr (Or.inr rfl)) (by decide) (by decide)) (@pa_nil _) (by rfl)) (by rfl)) (by rfl)) (by rfl))) (@pa_nil _) (by rfl)) (by rfl) (by rfl) (by rfl) (by rfl) (by rfl)) (by rfl))))) (by intro _; rfl)) (@pss_one _ _ _ (@ps_ret _ _ _ _ (@pv _ 4 _ _ (by rfl) (by first | exact Or.inl rfl | exact Or.inr (Or.inl rfl) | exact Or.inr (Or.inr rfl)) (by decide) (by decide)))))), ?_⟩
    simp (maxSteps := 1000000) only [tFor_eq, Nat.reduceSub, Int.reduceLT, Nat.reduceAdd, iRng1, List.cons.injEq, tSeq, exists_and_left, tOp, tVar, tC, rI, tAsg, gName, tCall, tCons, tNil, tLst, L2.start, List.map_cons, List.map_nil, List.length_cons, List.length_nil, List.replicate, List.cons_append, List.nil_append, List.getElem?_cons_zero, List.getElem?_cons_succ, List.set_cons_zero, List.set_cons_succ, Option.some.injEq, exists_eq_left', V.int.injEq, and_true, true_and, List.append_nil]
    refine ⟨Nat.zero_le _, ?_⟩
    intro p1 n1
    generalize z1 : upd H p1 _ = H1
    have s1 := (new_same z1 n1).1
    have e1 := (new_same z1 n1).2
    refine ⟨c, fi, rfl, f0, by omega, fun m m0 m1 => ?_⟩
    simp (maxSteps := 1000000) only [exists_eq_left', V.int.injEq]
    refine ⟨by omega, by omega, for_range (n := (m % 4).toNat) (fun i σ H' => ∃ (ys : List V) (nw : List Q4) (v5 v6 v7 : Option V), σ = [some (.int c), some (.int fi), some (.int T), some (.int (what : Int)), some (.ref p1), v5, v6, v7] ∧ H' p1 = some (.lst ys) ∧ Paired (Tq H') ys nw ∧ nw.length = i ∧ (∀ q ∈ nw, q.2.2.2 = (what : Int)) ∧ Same H H') ⟨[], [], none, none, none, rfl, e1, .nil, rfl, (fun q hq => nomatch hq), s1⟩ ?_ ?_⟩
    · rintro i σ H2 hi ⟨ys, nw, v5, v6, v7, rfl, e2, hp2, hl2, hq2, s2⟩
      have hyl := hp2.length
      simp (maxSteps := 1000000) only [tBL, rGet, getO_l, rLenX, lenX_r, upd_same, HO.lst.injEq, Int.reduceLT, Nat.reduceAdd, rAppend, List.cons.injEq, tSeq, exists_and_left, tOp, tVar, tC, rI, rI0, tAsg, gName, tCall, tCons, tNil, tCB, tDrop, tLst, tTup, List.length_cons, List.length_nil, List.getElem?_cons_zero, List.getElem?_cons_succ, List.set_cons_zero, List.set_cons_succ, Option.some.injEq, exists_eq_left', V.int.injEq, V.ref.injEq, and_true, true_and, and_assoc, List.append_nil]
      refine ⟨c, fi + 1 + (0 + (i : Int)), rfl, by omega, by omega, fun r r0 r1 => ?_⟩
      simp (maxSteps := 1000000) only [exists_eq_left', V.int.injEq]
      obtain ⟨late, el⟩ : ∃ z : Int, atI [V.int 1, V.int (1 + r / 4 % 5), V.int (1 + r / 4 % 300), V.int 1] (r % 4) = some (.int z) := by
        obtain ⟨v, hv, ev⟩ := atI_in (xs := [V.int 1, V.int (1 + r / 4 % 5), V.int (1 + r / 4 % 300), V.int 1]) (k := r % 4) (by omega) (by simp only [List.length_cons, List.length_nil]; omega)
        simp only [List.mem_cons, List.not_mem_nil, or_false] at hv
        rcases hv with rfl | rfl | rfl | rfl <;> exact ⟨_, ev⟩
      refine ⟨⟨by decide, by decide⟩, ⟨by decide, by decide⟩, by decide, ?_⟩
      intro p3 n3
      generalize z3 : upd H2 p3 _ = H3
      have s3 := (new_same z3 n3).1
      have e3 := (new_same z3 n3).2
      have e23 := s3 _ _ e2
      refine ⟨_, el, ys, e23, late, rfl, ⟨by decide, by decide⟩, ys.length, ?_, by decide, ?_⟩
      · rw [e23]; rfl
      intro p4 n4
      generalize z4 : upd H3 p4 _ = H4
      have s4 := (new_same z4 n4).1
      have e4 := (new_same z4 n4).2
      have e24 := s4 _ _ e23
      refine ⟨ys, e24, by rw [sizeLine_eq]; omega, ?_⟩
      have k5 : Keep [p1] H4 (upd H4 p1 (.lst (ys ++ [V.ref p4]))) := Keep.refl.upd (.inl (.head _))
      have nT : ∀ b ∈ [p1], NoT H4 b := noT1 (.of_lst e24)
      refine ⟨nw ++ [(T + late, r / 4096 % 64, (ys.length : Int), (what : Int))], paired_append (tq_keep k5 nT (tq_same (s3.trans s4) hp2)) (.cons (Tq.keep k5 nT ⟨p4, rfl, e4⟩) .nil), by rw [List.length_append, hl2]; rfl, fun q hq => ?_, ((s2.trans s3).trans s4).upd n1⟩
      rcases List.mem_append.mp hq with z | z
      · exact hq2 q z
      · rw [List.mem_singleton] at z
        subst z
        rfl
    · rintro σ H2 ⟨ys, nw, v5, v6, v7, rfl, e2, hp2, hl2, hq2, s2⟩
      simp (maxSteps := 1000000) only [tVar, tRet, List.getElem?_cons_zero, List.getElem?_cons_succ, Option.some.injEq, exists_eq_left']
      exact q p1 ys nw H2 n1 e2 hp2 (by omega) hq2 s2
theorem lst_dep {n : Nat} {ds : List PyData} (h : ∀ d ∈ ds, d.depth ≤ n) : (PyData.list ds).depth ≤ n + 1 := by
  rw [PyData.depth]
  have := depthAll_le h
  omega
theorem cutV_tk {xs : List V} {n : Nat} : cutV xs none (some (n : Int)) = xs.take n := by
  unfold cutV
  have e1 : HT.sIx xs.length xs.length (some (n : Int)) = min n xs.length := HT.sIx_nat _ _ n
  have e2 : HT.sIx xs.length 0 none = 0 := rfl
  rw [e1, e2, List.drop_zero, Nat.sub_zero]
  rcases Nat.le_total n xs.length with h | h
  · rw [Nat.min_eq_left h]
  · rw [Nat.min_eq_right h, List.take_of_length_le h, List.take_of_length_le (Nat.le_refl _)]
def sp_right (C C2 : Addr) : Sp := fun vs H Q _ => ∃ (x dx pl pg y dy pk pp rd : Addr) (W wt : Int) (st : Str) (xs : List V) (ds : List PyData) (kvs tk : List (Key × V)) (b t g u : Nat) (o : Bool), vs = [.ref x, .ref y, .ref pp, .ref rd, .int W] ∧ TellAt C H x dx pl pg W wt (b : Int) (t : Int) st xs kvs ∧ TakeAt C2 H y dy pk W g o u tk ∧ H pp = some (.lst xs) ∧ H rd = some (.lst (xs.take u)) ∧ Ims H xs ds ∧ (∀ d ∈ ds, d.depth ≤ 3) ∧ b ≤ g ∧ g ≤ t ∧ t ≤ xs.length ∧ (t : Int) ≤ b + W ∧ u ≤ g ∧ xs.length ≤ 900 ∧ ∀ H', Same H H' → Q (.bl true) H'
set_option maxHeartbeats 4000000 in
theorem own_right (D : Def K mg "_law_right" s__law_right) (hb : Blt mg) (T_Teller : ClsD K mg "Teller" C at_Teller) (T_Taker : ClsD K mg "Taker" C2 at_Taker) (M_Teller_many : OwnM P w K mg base 1 C "many" ["self"] (sp_tmany C)) : Own P w K mg base 2 "_law_right" ["_law_teller", "_law_taker", "_law_put_here", "_law_read", "_law_window"] (sp_right C C2) := by
  refine D.own sc__law_right (fun _ _ _ _ _ _ us hl => match us, hl with | [_, _, _, _, _], _ => rfl) (fun vs H Q E h => ?_) (fun f cdv A outer s H vs Q E hr h => ?_)
  · obtain ⟨x, dx, pl, pg, y, dy, pk, pp, rd, W, wt, st, xs, ds, kvs, tk, b, t, g, u, o, rfl, _⟩ := h
    rfl
  · obtain ⟨x, dx, pl, pg, y, dy, pk, pp, rd, W, wt, st, xs, ds, kvs, tk, b, t, g, u, o, rfl, O, O2, ep, er, hI, hdp, h1, h2, h3, h4, h5, h9, q⟩ := h
    have hu := hr.units
    have hu1 : (A.deeper (PyProof.Rows.envOfC "_law_right" (defScope s__law_right) s.heap.objs.size f cdv)).units + 1 < cLine := by omega
    have ex := O.ins
    have ey := O2.ins
    refine ⟨_, (@pss_cons _ _ _ _ _ (@ps_if _ _ _ _ _ _ _ _ (@pt_not _ _ _ _ (@pt_chain4 _ _ _ _ _ _ _ _ _ _ _ _ _ _ _ _ _ _ _ _ op_le op_le op_le op_le (@pe_int _ _ _ _) (@pe_fldK _ K _ _ _ _ (@pv _ 0 _ _ (by rfl) (by first | exact Or.inl rfl | exact Or.inr (Or.inl rfl) | exact Or.inr (Or.inr rfl)) (by decide) (by decide)) (by rfl) (by rfl)) (@pe_fldK _ K _ _ _ _ (@pv _ 1 _ _ (by rfl) (by first | exact Or.inl rfl | exact Or.inr (Or.inl rfl) | exact Or.inr (Or.inr rfl)) (by decide) (by decide)) (by rfl) (by rfl)) (@pe_fldK _ K _ _ _ _ (@pv _ 0 _ _ (by rfl) (by first | exact Or.inl rfl | exact Or.inr (Or.inl rfl) | exact Or.inr (Or.inr rfl)) (by decide) (by decide)) (by rfl) (by rfl)) (@pe_callB _ _ _ _ _ _ _ _ _ (call_min2 rfl) rfl (hb _ (by decide)) bt_min (@pa_cX _ _ _ _ _ (@pe_callB _ _ _ _ _ _ _ _ _ call_lenX rfl (hb _ (by decide)) bt_len (@pa_cX _ _ _ _ _ (@pv _ 2 _ _ (by rfl) (by first | exact Or.inl rfl | exact Or.inr (Or.inl rfl) | exact Or.inr (Or.inr rfl)) (by decide) (by decide)) (@pa_nil _) (by rfl)) (by decide) (by decide) (by rfl) (by rfl)) (@pa_cX _ _ _ _ _ (@pe_op _ _ _ _ _ _ _ _ op_add (@pe_fldK _ K _ _ _ _ (@pv _ 0 _ _ (by rfl) (by first | exact Or.inl rfl | exact Or.inr (Or.inl rfl) | exact Or.inr (Or.inr rfl)) (by decide) (by decide)) (by rfl) (by rfl)) (@pv _ 4 _ _ (by rfl) (by first | exact Or.inl rfl | exact Or.inr (Or.inl rfl) | exact Or.inr (Or.inr rfl)) (by decide) (by decide))) (@pa_nil _) (by rfl)) (by rfl)) (by decide) (by decide) (by rfl) (by rfl)) (by with_unfolding_all rfl))) (@pss_one _ _ _ (@ps_ret _ _ _ _ (@pe_bl _ _ _ _))) (@pss_nil _)) (@pss_one _ _ _ (@ps_ret _ _ _ _ (@pe_and _ _ _ _ _ _ _ (@pe_cmpR _ _ _ _ _ _ _ _ op_eq (@pe_mth0 _ _ _ _ _ _ _ _ _ _ _ _ M_Teller_many T_Teller.cl hr (@pv _ 0 _ _ (by rfl) (by first | exact Or.inl rfl | exact Or.inr (Or.inl rfl) | exact Or.inr (Or.inr rfl)) (by decide) (by decide)) (by decide) (by rfl)) (@pe_callB _ _ _ _ _ _ _ _ _ call_lenX rfl (hb _ (by decide)) bt_len (@pa_cX _ _ _ _ _ (@pv _ 2 _ _ (by rfl) (by first | exact Or.inl rfl | exact Or.inr (Or.inl rfl) | exact Or.inr (Or.inr rfl)) (by decide) (by decide)) (@pa_nil _) (by rfl)) (by decide) (by decide) (by rfl) (by rfl)) (nomark _)) (@pe_and _ _ _ _ _ _ _ (@pe_cmpR _ _ _ _ _ _ _ _ (op_eqX hu) (@pv _ 3 _ _ (by rfl) (by first | exact Or.inl rfl | exact Or.inr (Or.inl rfl) | exact Or.inr (Or.inr rfl)) (by decide) (by decide)) (@pe_slice _ _ _ _ _ _ _ _ _ _ sl_X (@pv _ 2 _ _ (by rfl) (by first | exact Or.inl rfl | exact Or.inr (Or.inl rfl) | exact Or.inr (Or.inr rfl)) (by decide) (by decide)) (@po_none _) (@po_some _ _ _ (@pe_callB _ _ _ _ _ _ _ _ _ call_lenX rfl (hb _ (by decide)) bt_len (@pa_cX _ _ _ _ _ (@pv _ 3 _ _ (by rfl) (by first | exact Or.inl rfl | exact Or.inr (Or.inl rfl) | exact Or.inr (Or.inr rfl)) (by decide) (by decide)) (@pa_nil _) (by rfl)) (by decide) (by decide) (by rfl) (by rfl)))) (nomark _)) (@pe_one _ _ _ _ _ (@pe_cmpR _ _ _ _ _ _ _ _ op_le (@pe_callB _ _ _ _ _ _ _ _ _ call_lenX rfl (hb _ (by decide)) bt_len (@pa_cX _ _ _ _ _ (@pv _ 3 _ _ (by rfl) (by first | exact Or.inl rfl | exact Or.inr (Or.inl rfl) | exact Or.inr (Or.inr rfl)) (by decide) (by decide)) (@pa_nil _) (by rfl)) (by decide) (by decide) (by rfl) (by rfl)) (@pe_fldK _ K _ _ _ _ (@pv _ 1 _ _ (by rfl) (by first | exact Or.inl rfl | exact Or.inr (Or.inl rfl) | exact Or.inr (Or.inr rfl)) (by decide) (by decide)) (by rfl) (by rfl)) (nomark _)))))))), ?_⟩
    simp (maxSteps := 1000000) only [rLenX, lenX_r, lenO_l, Option.bind_some, rSlX, Nat.reduceSub, HO.ins.injEq, Nat.reduceAdd, tMeth, tFld, Bool.not_false, tSl, tNoPart, tPart, List.cons.injEq, tSeq, exists_and_left, if_true, tIfS, tNot, tOp, tVar, tC, rI0, tRet, tNext, tAndV, tCons, tNil, tCB, L2.start, List.map_cons, List.map_nil, List.length_cons, List.length_nil, List.replicate, List.getElem?_cons_zero, List.getElem?_cons_succ, Option.some.injEq, exists_eq_left', V.int.injEq, V.bl.injEq, V.ref.injEq, and_true, true_and, and_assoc, List.append_nil, tChain4, ex, ey, ep, T_Teller.cl, T_Teller.no "base" (by decide), T_Teller.no "top" (by decide), fs_Teller_base, fs_Teller_top, fn_Teller_many, T_Taker.cl, T_Taker.no "got" (by decide), fs_Taker_got]
    have c4 : (t : Int) ≤ if (b : Int) + W < (xs.length : Int) then (b : Int) + W else (xs.length : Int) := by split <;> omega
    rw [if_pos (decide_eq_true (show (0 : Int) ≤ (b : Int) by omega)), if_pos (decide_eq_true (show (b : Int) ≤ (g : Int) by omega)), if_pos (decide_eq_true (show (g : Int) ≤ (t : Int) by omega)), if_neg (by rw [decide_eq_true c4]; simp)]
    refine ⟨x, dx, pl, pg, W, wt, b, t, st, xs, kvs, rfl, O, ?_⟩
    have hul : (xs.take u).length = u := by rw [List.length_take]; omega
    simp (maxSteps := 1000000) only [lenO_l, Option.bind_some, HO.lst.injEq, decide_true, rEq_ii, if_true, Option.some.injEq, exists_eq_left', V.bl.injEq, ep, er, hul]
    intro p1 n1
    generalize z1 : upd H p1 _ = H1
    have s1 := (new_same z1 n1).1
    have e1 := (new_same z1 n1).2
    have e1' : H1 p1 = some (.lst (xs.take u)) := by rw [e1, cutV_tk]
    have hI1 := (hI.same s1).take u
    have er1 := s1 _ _ er
    have ey1 := s1 _ _ ey
    refine eqX_same (.l er1 hI1) (.l e1' hI1) (Nat.le_trans (lst_dep fun d hd => hdp d (List.mem_of_mem_take hd)) (by decide)) ⟨true, rfl, iteT ?_⟩
    simp (maxSteps := 1000000) only [lenO_l, Option.bind_some, HO.ins.injEq, exists_and_left, Option.some.injEq, exists_eq_left', V.int.injEq, true_and, and_assoc, er1, ey1, hul, T_Taker.cl, T_Taker.no "got" (by decide), fs_Taker_got]
    rw [decide_eq_true (show (u : Int) ≤ (g : Int) by omega)]
    exact q H1 s1
end
end K65
namespace K65
open PySem L2
abbrev s__law_come : Stmt := top 18
theorem sc__law_come : FnScope ["_law_taker", "_law_put_here", "_law_due", "_law_news", "_law_when", "_law_rank", "_law_k", "_law_place", "_law_found"] ["_law_taker", "_law_put_here", "_law_due", "_law_news"] (defScope s__law_come) := ⟨rfl, rfl, rfl, by decide +kernel, rfl, by decide +kernel, by decide +kernel⟩
structure Ad where
  x : Addr
  dx : Addr
  pl : Addr
  pg : Addr
  y : Addr
  dy : Addr
  pk : Addr
  pp : Addr
  pr : Addr
  rd : Addr
  pn : Addr
  ps : Addr
structure Ad.Ok (a : Ad) : Prop where
  xy : a.x ≠ a.y
  gk : a.pg ≠ a.pk
  gn : a.pg ≠ a.pn
  kn : a.pk ≠ a.pn
  l1 : a.pp ≠ a.pl
  l2 : a.pr ≠ a.pl
  l3 : a.rd ≠ a.pl
  l4 : a.ps ≠ a.pl
  l5 : a.pr ≠ a.pp
  l6 : a.rd ≠ a.pp
  l7 : a.ps ≠ a.pp
  l8 : a.rd ≠ a.pr
  l9 : a.ps ≠ a.pr
  l0 : a.ps ≠ a.rd
/-- places below n that are free -/
def free (kvs : List (Key × V)) : Nat → Nat
  | 0 => 0
  | n + 1 => free kvs n + if valV kvs (Sum.inl (n : Int)) = none then 1 else 0
theorem free_mono {kvs : List (Key × V)} {k : Key} {v : V} : ∀ n, free (putK kvs k v) n ≤ free kvs n
  | 0 => Nat.le_refl _
  | n + 1 => by
    have ih := free_mono (kvs := kvs) (k := k) (v := v) n
    unfold free
    rw [valV_put]
    by_cases e : (Sum.inl (n : Int) : Key) = k
    · rw [if_pos e, if_neg (by intro z; cases z)]
      omega
    · rw [if_neg e]
      omega
theorem free_put {kvs : List (Key × V)} {p : Nat} {v : V} (h : valV kvs (Sum.inl (p : Int)) = none) : ∀ n, p < n → free (putK kvs (Sum.inl (p : Int)) v) n + 1 ≤ free kvs n
  | 0, hp => absurd hp (by omega)
  | n + 1, hp => by
    unfold free
    rw [valV_put]
    by_cases e : n = p
    · subst e
      have := free_mono (kvs := kvs) (k := Sum.inl (n : Int)) (v := v) n
      rw [if_pos rfl, if_neg (by intro z; cases z), if_pos h]
      omega
    · have ih := free_put h (v := v) n (by omega)
      rw [if_neg (show ¬ (Sum.inl (n : Int) : Key) = Sum.inl (p : Int) by intro z; have := Sum.inl.inj z; omega)]
      omega
/-- the teller -/
structure TeH (C : Addr) (H : Hp) (a : Ad) (W wt : Int) (st : Str) (xs : List V) (b t n : Nat) : Prop where
  ex : ∃ kvs, TellAt C H a.x a.dx a.pl a.pg W wt (b : Int) (t : Int) st xs kvs ∧ kvs.length ≤ n ∧ ∀ p : Nat, p < t → ∃ g, valV kvs (Sum.inl (p : Int)) = some (.int g)
/-- the taker, and what is known to have come new -/
structure TaH (C2 : Addr) (H : Hp) (a : Ad) (W : Int) (xs : List V) (t g : Nat) (o : Bool) (u : Nat) : Prop where
  ex : ∃ tk nw, TakeAt C2 H a.y a.dy a.pk W g o u tk ∧ Till tk g ∧ tk.length + free tk xs.length ≤ xs.length ∧ (∀ (p : Int) v, valV tk (Sum.inl p) = some v → ∃ m : Nat, p = m ∧ m < t ∧ xs[m]? = some v) ∧ H a.pn = some (.dK nw) ∧ nw.length ≤ tk.length ∧ ∀ p : Int, valV nw (Sum.inl p) ≠ none → valV tk (Sum.inl p) ≠ none
/-- the roads -/
structure RoH (H : Hp) (a : Ad) (R0 R1 : List Q4) : Prop where
  ex : ∃ r0 r1 ys0 ys1, H a.pr = some (.lst [.ref r0, .ref r1]) ∧ H r0 = some (.lst ys0) ∧ H r1 = some (.lst ys1) ∧ Paired (Tq H) ys0 R0 ∧ Paired (Tq H) ys1 R1 ∧ r0 ∉ [a.pl, a.pp, a.pr, a.rd, a.ps] ∧ r1 ∉ [a.pl, a.pp, a.pr, a.rd, a.ps]
theorem TeH.opn {C : Addr} {H : Hp} {a : Ad} {W wt : Int} {st : Str} {xs : List V} {b t n : Nat} {G : Prop} (h : TeH C H a W wt st xs b t n) (k : ∀ kvs, TellAt C H a.x a.dx a.pl a.pg W wt (b : Int) (t : Int) st xs kvs → kvs.length ≤ n → (∀ p : Nat, p < t → ∃ g, valV kvs (Sum.inl (p : Int)) = some (.int g)) → G) : G := by
  obtain ⟨_, h1, h2, h3⟩ := h.ex
  exact k _ h1 h2 h3
theorem TaH.opn {C2 : Addr} {H : Hp} {a : Ad} {W : Int} {xs : List V} {t g : Nat} {o : Bool} {u : Nat} {G : Prop} (h : TaH C2 H a W xs t g o u) (k : ∀ tk nw, TakeAt C2 H a.y a.dy a.pk W g o u tk → Till tk g → tk.length + free tk xs.length ≤ xs.length → (∀ (p : Int) v, valV tk (Sum.inl p) = some v → ∃ m : Nat, p = m ∧ m < t ∧ xs[m]? = some v) → H a.pn = some (.dK nw) → nw.length ≤ tk.length → (∀ p : Int, valV nw (Sum.inl p) ≠ none → valV tk (Sum.inl p) ≠ none) → G) : G := by
  obtain ⟨_, _, h1, h2, h3, h4, h5, h6, h7⟩ := h.ex
  exact k _ _ h1 h2 h3 h4 h5 h6 h7
theorem RoH.opn {H : Hp} {a : Ad} {R0 R1 : List Q4} {G : Prop} (h : RoH H a R0 R1) (k : ∀ r0 r1 ys0 ys1, H a.pr = some (.lst [.ref r0, .ref r1]) → H r0 = some (.lst ys0) → H r1 = some (.lst ys1) → Paired (Tq H) ys0 R0 → Paired (Tq H) ys1 R1 → r0 ∉ [a.pl, a.pp, a.pr, a.rd, a.ps] → r1 ∉ [a.pl, a.pp, a.pr, a.rd, a.ps] → G) : G := by
  obtain ⟨_, _, _, _, h1, h2, h3, h4, h5, h6, h7⟩ := h.ex
  exact k _ _ _ _ h1 h2 h3 h4 h5 h6 h7
section
variable {C C2 : Addr} {H H' : Hp} {a : Ad} {W wt : Int} {st : Str} {xs : List V} {b t g n u : Nat} {o : Bool} {R0 R1 : List Q4} {S : List Addr}
theorem TeH.keep (h : TeH C H a W wt st xs b t n) (k : Keep S H H') (n1 : a.x ∉ S) (n2 : a.pl ∉ S) (n3 : a.pg ∉ S) : TeH C H' a W wt st xs b t n := by
  obtain ⟨kvs, O, r⟩ := h.ex
  exact ⟨kvs, O.keep k n1 n2 n3, r⟩
theorem TeH.same (h : TeH C H a W wt st xs b t n) (s : Same H H') : TeH C H' a W wt st xs b t n := h.keep (S := []) s.keep (by simp) (by simp) (by simp)
theorem TaH.keep (h : TaH C2 H a W xs t g o u) (k : Keep S H H') (n1 : a.y ∉ S) (n2 : a.pk ∉ S) (n3 : a.pn ∉ S) : TaH C2 H' a W xs t g o u := by
  obtain ⟨tk, nw, O, h1, h2, h3, h4, r⟩ := h.ex
  exact ⟨tk, nw, O.keep k n1 n2, h1, h2, h3, k _ _ h4 n3, r⟩
theorem TaH.same (h : TaH C2 H a W xs t g o u) (s : Same H H') : TaH C2 H' a W xs t g o u := h.keep (S := []) s.keep (by simp) (by simp) (by simp)
theorem RoH.keep (h : RoH H a R0 R1) (k : Keep S H H') (n1 : a.pr ∉ S) (hs : ∀ b ∈ S, NoT H b) (hl : ∀ b ∈ S, ∀ ys, H b = some (.lst ys) → b ∈ [a.pl, a.pp, a.pr, a.rd, a.ps]) : RoH H' a R0 R1 := by
  obtain ⟨r0, r1, ys0, ys1, e, e0, e1, h0, h1, m0, m1⟩ := h.ex
  exact ⟨r0, r1, ys0, ys1, k _ _ e n1, k _ _ e0 (fun z => m0 (hl _ z _ e0)), k _ _ e1 (fun z => m1 (hl _ z _ e1)), tq_keep k hs h0, tq_keep k hs h1, m0, m1⟩
theorem RoH.same (h : RoH H a R0 R1) (s : Same H H') : RoH H' a R0 R1 := h.keep (S := []) s.keep (by simp) (by simp) (by simp)
theorem TaH.le (h : TaH C2 H a W xs t g o u) : g ≤ t := by
  obtain ⟨tk, nw, O, tl, _, hv, _⟩ := h.ex
  cases g with
  | zero => exact Nat.zero_le _
  | succ g =>
    have := tl.below g (by omega)
    cases e : valV tk (Sum.inl (g : Int)) with
    | none => exact absurd e this
    | some v =>
      obtain ⟨m, e1, e2, _⟩ := hv _ _ e
      omega
theorem TaH.more {t' : Nat} (h : TaH C2 H a W xs t g o u) (ht : t ≤ t') : TaH C2 H a W xs t' g o u := by
  obtain ⟨tk, nw, O, tl, hl, hv, r⟩ := h.ex
  exact ⟨tk, nw, O, tl, hl, (fun p v e => by
    obtain ⟨m, e1, e2, e3⟩ := hv p v e
    exact ⟨m, e1, by omega, e3⟩), r⟩
/-- one more thing is put -/
theorem TaH.put {v : V} (h : TaH C2 H a W xs t g o u) (ht : t ≤ xs.length) : TaH C2 H a W (xs ++ [v]) t g o u := by
  obtain ⟨tk, nw, O, tl, hl, hv, r⟩ := h.ex
  refine ⟨tk, nw, O, tl, ?_, (fun p w e => ?_), r⟩
  · have : (xs ++ [v]).length = xs.length + 1 := by simp
    rw [this]
    unfold free
    split <;> omega
  · obtain ⟨m, e1, e2, e3⟩ := hv p w e
    exact ⟨m, e1, e2, by rw [List.getElem?_append_left (by omega)]; exact e3⟩
end
section
variable {P : Program} {w : World} {K : PySem.W.Frag} {mg : Str → Option Value} {base : Heap} {C C2 : Addr}
def sp_come (C2 : Addr) : Sp := fun vs H Q _ => ∃ (a : Ad) (W : Int) (xs : List V) (t g : Nat) (o : Bool) (u : Nat) (due : Addr) (ys : List V) (D : List Q4), vs = [.ref a.y, .ref a.pp, .ref due, .ref a.pn] ∧ TaH C2 H a W xs t g o u ∧ H a.pp = some (.lst xs) ∧ H due = some (.lst ys) ∧ Paired (Tq H) ys D ∧ D.length ≤ 5000 ∧ (∀ q ∈ D, ∃ p : Nat, q.2.2.2 = (p : Int) ∧ p < t) ∧ t ≤ xs.length ∧ xs.length ≤ 900 ∧ a.pk ≠ a.pn ∧
  ∀ g' o' H', TaH C2 H' a W xs t g' o' u → g ≤ g' → Keep [a.y, a.pk, a.pn] H H' → Q (.bl true) H'
theorem sp_come_mk {C2 : Addr} {vs : List V} {H : Hp} {Q : VK} {E : XK} {a : Ad} {W : Int} {xs : List V} {t g : Nat} {o : Bool} {u : Nat} {due : Addr} {ys : List V} {D : List Q4} (h0 : vs = [.ref a.y, .ref a.pp, .ref due, .ref a.pn]) (h1 : TaH C2 H a W xs t g o u) (h2 : H a.pp = some (.lst xs)) (h3 : H due = some (.lst ys)) (h4 : Paired (Tq H) ys D) (h5 : D.length ≤ 5000) (h6 : (∀ q ∈ D, ∃ p : Nat, q.2.2.2 = (p : Int) ∧ p < t)) (h7 : t ≤ xs.length) (h8 : xs.length ≤ 900) (h9 : a.pk ≠ a.pn) (hq : ∀ g' o' H', TaH C2 H' a W xs t g' o' u → g ≤ g' → Keep [a.y, a.pk, a.pn] H H' → Q (.bl true) H') : sp_come C2 vs H Q E := ⟨a, W, xs, t, g, o, u, due, ys, D, h0, h1, h2, h3, h4, h5, h6, h7, h8, h9, hq⟩
set_option maxHeartbeats 4000000 in
theorem own_come (D : Def K mg "_law_come" s__law_come) (hb : Blt mg) (hsorted : mg "sorted" = none) (T_Taker : ClsD K mg "Taker" C2 at_Taker) (M_Taker_took : OwnM P w K mg base 1 C2 "took" ["self", "place", "thing"] (sp_took C2)) : Own P w K mg base 2 "_law_come" ["_law_taker", "_law_put_here", "_law_due", "_law_news"] (sp_come C2) := by
  refine D.own sc__law_come (fun _ _ _ _ _ _ us hl => match us, hl with | [_, _, _, _], _ => rfl) (fun vs H Q E h => ?_) (fun f cdv A outer s H vs Q E hr h => ?_)
  · obtain ⟨a, W, xs, t, g, o, u, due, ys, D, rfl, _⟩ := h
    rfl
  · obtain ⟨a, W, xs, t, g, o, u, due, ys, D, rfl, hT, ep, ed, hP, hD5, hpl, htx, hx9, hkn, q⟩ := h
    have hu := hr.units
    have hu1 : (A.deeper (PyProof.Rows.envOfC "_law_come" (defScope s__law_come) s.heap.objs.size f cdv)).units + 1 < cLine := by omega
    refine ⟨_, (@pss_cons _ _ _ _ _ (@ps_for _ _ _ _ _ _ _ _ PassesOwn.never rfl (@pi_listK _ K _ _ _ (@pe_callB _ _ _ _ _ _ _ _ _ call_sortU rfl hsorted bt_sorted (@pa_cX _ _ _ _ _ (@pv _ 2 _ _ (by rfl) (by first | exact Or.inl rfl | exact Or.inr (Or.inl rfl) | exact Or.inr (Or.inr rfl)) (by decide) (by decide)) (@pa_nil _) (by rfl)) (by decide) (by decide) (by rfl) (by rfl)) (by rfl)) (@pg_seqX _ _ _ _ 4 _ rfl (@pgs_cons _ _ _ _ _ (@pg_name _ _ 4 _ sc__law_come.nd rfl (by first | exact Or.inl rfl | exact Or.inr rfl) (by first | exact .inl rfl | exact .inr rfl | assumption)) (@pgs_cons _ _ _ _ _ (@pg_name _ _ 5 _ sc__law_come.nd rfl (by first | exact Or.inl rfl | exact Or.inr rfl) (by first | exact .inl rfl | exact .inr rfl | assumption)) (@pgs_cons _ _ _ _ _ (@pg_name _ _ 6 _ sc__law_come.nd rfl (by first | exact Or.inl rfl | exact Or.inr rfl) (by first | exact .inl rfl | exact .inr rfl | assumption)) (@pgs_cons _ _ _ _ _ (@pg_name _ _ 7 _ sc__law_come.nd rfl (by first | exact Or.inl rfl | exact Or.inr rfl) (by first | exact .inl rfl | exact .inr rfl | assumption)) (@pgs_nil _) (by rfl)) (by rfl)) (by rfl)) (by rfl)) (by rfl) (by rfl)) (@pss_cons _ _ _ _ _ (@ps_set _ _ 8 _ _ _ _ sc__law_come.nd rfl (by first | exact Or.inl rfl | exact Or.inr rfl) (@pe_mth _ _ _ _ _ _ _ _ _ _ _ _ _ _ _ M_Taker_took T_Taker.cl hr (@pv _ 0 _ _ (by rfl) (by first | exact Or.inl rfl | exact Or.inr (Or.inl rfl) | exact Or.inr (Or.inr rfl)) (by decide) (by decide)) (@pa_cX _ _ _ _ _ (@pv _ 7 _ _ (by rfl) (by first | exact Or.inl rfl | exact Or.inr (Or.inl rfl) | exact Or.inr (Or.inr rfl)) (by decide) (by decide)) (@pa_cX _ _ _ _ _ (@pe_ix _ _ _ _ _ _ _ (ix_get hu1) (@pv _ 1 _ _ (by rfl) (by first | exact Or.inl rfl | exact Or.inr (Or.inl rfl) | exact Or.inr (Or.inr rfl)) (by decide) (by decide)) (@pv _ 7 _ _ (by rfl) (by first | exact Or.inl rfl | exact Or.inr (Or.inl rfl) | exact Or.inr (Or.inr rfl)) (by decide) (by decide)) (fun _ _ => rfl)) (@pa_nil _) (by rfl)) (by rfl)) (by decide) (by rfl) (by rfl) (by rfl)) (by rfl) (by first | exact .inl rfl | exact .inr rfl | assumption)) (@pss_cons _ _ _ _ _ (@ps_if _ _ _ _ _ _ _ _ (@PW.pt _ _ _ (@pw_and _ _ _ _ _ _ _ (@pt_truX _ _ _ (@pv _ 8 _ _ (by rfl) (by first | exact Or.inl rfl | exact Or.inr (Or.inl rfl) | exact Or.inr (Or.inr rfl)) (by decide) (by decide)) (by intro _; rfl)) (@pw_and1 _ _ _ _ (@pt_cmpR _ _ _ _ _ _ _ _ (op_inX hu1) (@pv _ 7 _ _ (by rfl) (by first | exact Or.inl rfl | exact Or.inr (Or.inl rfl) | exact Or.inr (Or.inr rfl)) (by decide) (by decide)) (@pv _ 3 _ _ (by rfl) (by first | exact Or.inl rfl | exact Or.inr (Or.inl rfl) | exact Or.inr (Or.inr rfl)) (by decide) (by decide)) rfl)))) (@pss_one _ _ _ (@ps_ret _ _ _ _ (@pe_bl _ _ _ _))) (@pss_nil _)) (@pss_one _ _ _ (@ps_if _ _ _ _ _ _ _ _ (@pt_truX _ _ _ (@pv _ 8 _ _ (by rfl) (by first | exact Or.inl rfl | exact Or.inr (Or.inl rfl) | exact Or.inr (Or.inr rfl)) (by decide) (by decide)) (by intro _; rfl)) (@pss_one _ _ _ (@ps_asg _ _ _ _ _ _ (@pe_bl _ _ _ _) (@pg_sub _ _ _ _ _ _ _ (@pv _ 3 _ _ (by rfl) (by first | exact Or.inl rfl | exact Or.inr (Or.inl rfl) | exact Or.inr (Or.inr rfl)) (by decide) (by decide)) (@pv _ 7 _ _ (by rfl) (by first | exact Or.inl rfl | exact Or.inr (Or.inl rfl) | exact Or.inr (Or.inr rfl)) (by decide) (by decide)) (@set_x _ hu1) (by intro _; rfl)) (by rfl) (by rfl) (by rfl))) (@pss_nil _))))) (by intro _; rfl)) (@pss_one _ _ _ (@ps_ret _ _ _ _ (@pe_bl _ _ _ _)))), ?_⟩
    simp (maxSteps := 1000000) only [tFor_eq, Nat.reduceSub, Nat.reduceAdd, iList, tSeq, tVar, tCons, tNil, tCB, L2.start, List.map_cons, List.map_nil, List.length_cons, List.length_nil, List.replicate, List.cons_append, List.nil_append, List.getElem?_cons_zero, List.getElem?_cons_succ, Option.some.injEq, exists_eq_left']
    refine ⟨due, ys, D, rfl, ed, hP, hD5, fun us0 us hper hp2 p2 n2 => ?_⟩
    generalize z2 : upd H p2 _ = H2
    have s2 := (new_same z2 n2).1
    have e2 := (new_same z2 n2).2
    have hp3 := tq_same s2 hp2
    have hul : us0.length = us.length := hp2.length
    have ep2 := s2 _ _ ep
    have hp2n : p2 ∉ [a.y, a.pk, a.pn] := by
      obtain ⟨tk, nw, O, _, _, _, en, _⟩ := hT.ex
      simp only [List.mem_cons, List.not_mem_nil, or_false, not_or]
      exact ⟨Ne.symm (ne_of_none O.ins n2), Ne.symm (ne_of_none O.dic n2), Ne.symm (ne_of_none en n2)⟩
    have hppn : a.pp ∉ [a.y, a.pk, a.pn] := by
      obtain ⟨tk, nw, O, _, _, _, en, _⟩ := hT.ex
      simp only [List.mem_cons, List.not_mem_nil, or_false, not_or]
      exact ⟨ne_of ep O.ins (by intro z; cases z), ne_of ep O.dic (by intro z; cases z), ne_of ep en (by intro z; cases z)⟩
    have hnT2 : ∀ b ∈ [a.y, a.pk, a.pn], NoT H2 b := fun b hb' => by
      obtain ⟨tk, nw, O, _, _, _, en, _⟩ := (hT.same s2).ex
      simp only [List.mem_cons, List.not_mem_nil, or_false] at hb'
      rcases hb' with rfl | rfl | rfl
      · exact .of_ins O.ins
      · exact .of_dK O.dic
      · exact .of_dK en
    refine ⟨p2, rfl, ⟨_, SqL.of e2⟩, for_list (xs := us0) (fun i σ H' => ∃ (g' : Nat) (o' : Bool) (v4 v5 v6 v7 v8 : Option V), σ = [some (V.ref a.y), some (V.ref a.pp), some (V.ref due), some (V.ref a.pn), v4, v5, v6, v7, v8] ∧ TaH C2 H' a W xs t g' o' u ∧ g ≤ g' ∧ Keep [a.y, a.pk, a.pn] H2 H') ⟨g, o, none, none, none, none, none, rfl, hT.same s2, Nat.le_refl _, .refl⟩ ?_ ?_ ?_⟩
    · rintro i σ H4 hi ⟨g', o', v4, v5, v6, v7, v8, rfl, _, _, k4⟩
      exact SqL.of (k4 _ _ e2 hp2n)
    · rintro i v σ H4 hv ⟨g', o', v4, v5, v6, v7, v8, rfl, hT4, hg4, k4⟩
      obtain ⟨qq, hq, hvq⟩ := paired_get hp3 hv
      obtain ⟨b, rfl, eb⟩ := Tq.keep k4 hnT2 hvq
      obtain ⟨m, em, hm⟩ := hpl qq (hper.mem_iff.mp (List.mem_of_getElem? hq))
      have eb' : H4 b = some (.tup [.int qq.1, .int qq.2.1, .int qq.2.2.1, .int (m : Int)]) := by rw [← em]; exact eb
      have ep4 := k4 _ _ ep2 hppn
      have hxm : xs[m]? = some xs[m] := List.getElem?_eq_getElem (by omega)
      have ham : atI xs (m : Int) = some xs[m] := by rw [atI_pos (by omega), Int.toNat_natCast]; exact hxm
      obtain ⟨tk, nw, O4, tl, hl, hvs, en, hnl, hnk⟩ := hT4.ex
      have ey4 := O4.ins
      simp (maxSteps := 1000000) only [gSeqX, rGet, getO_l, tTruX, rInX, rSetX, seqO_t, gCons, gNil, gSub, HO.ins.injEq, Nat.reduceAdd, tMeth, List.cons.injEq, tSeq, exists_and_left, if_false, Bool.false_eq_true, tIfS, tAnd, tTest, tOp, tVar, tC, tRet, tAsg, gName, tNext, tCons, tNil, List.length_cons, List.length_nil, List.getElem?_cons_zero, List.getElem?_cons_succ, List.set_cons_zero, List.set_cons_succ, Option.some.injEq, exists_eq_left', V.bl.injEq, V.ref.injEq, and_true, true_and, and_assoc, List.append_nil, eb', ey4, fn_Taker_took, ep4, ham]
      refine ⟨a.y, a.dy, a.pk, W, g', o', u, tk, (m : Int), xs[m], rfl, O4, tl, by omega, fun hn H5 O5 k5 => ?_, fun hn g5 H5 hg5 O5 tl5 k5 => ?_⟩
      · simp (maxSteps := 1000000) only [truX_b, if_false, Bool.false_eq_true, Option.some.injEq, exists_eq_left']
        exact ⟨g', true, ⟨tk, nw, O5, tl, hl, hvs, k5 _ _ en (by simp; exact ne_of en O4.ins (by intro z; cases z)), hnl, hnk⟩, hg4, k4.trans (k5.mono (by simp))⟩
      · have hnn : valV tk (Sum.inl (m : Int)) = none := by
          unfold isNew at hn
          simp only [Bool.and_eq_true, decide_eq_true_eq, Option.isNone_iff_eq_none] at hn
          exact hn.1.2
        have en5 := k5 _ _ en (by simp; exact ⟨ne_of en O4.ins (by intro z; cases z), Ne.symm hkn⟩)
        have hnw : valV nw (Sum.inl (m : Int)) = none := by
          cases z : valV nw (Sum.inl (m : Int)) with
          | none => rfl
          | some v => exact absurd hnn (hnk (m : Int) (by rw [z]; simp))
        simp (maxSteps := 1000000) only [truX_b, inO_di, setO_di', if_true, Option.some.injEq, exists_eq_left', en5, hnw]
        have hnz : nw.length < sizeLine := by rw [sizeLine_eq]; omega
        refine iteF ⟨_, if_pos hnz, g5, true, ?_, by omega, ?_⟩
        · have kU : Keep [a.pn] H5 (upd H5 a.pn (.dK (putK nw (Sum.inl (m : Int)) (.bl true)))) := Keep.refl.upd (.inl (.head _))
          have hf := free_put hnn (v := xs[m]) xs.length (by omega)
          have hlp : (putK tk (Sum.inl (m : Int) : Key) xs[m]).length = tk.length + 1 := by rw [putK_new _ hnn]; simp
          have hlq := length_putK nw (Sum.inl (m : Int) : Key) (.bl true)
          refine ⟨_, _, O5.keep kU (by simp; exact ne_of O5.ins en5 (by intro z; cases z)) (by simp; exact hkn), tl5, by omega, fun p v' e => ?_, upd_same, by omega, fun p hne => ?_⟩
          · rw [valV_put] at e
            by_cases z : (Sum.inl p : Key) = Sum.inl (m : Int)
            · rw [if_pos z] at e
              have e1 := Sum.inl.inj z
              have e2 := Option.some.inj e
              subst e2
              exact ⟨m, e1, hm, hxm⟩
            · rw [if_neg z] at e
              exact hvs p v' e
          · rw [valV_put] at hne ⊢
            by_cases z : (Sum.inl p : Key) = Sum.inl (m : Int)
            · rw [if_pos z]; simp
            · rw [if_neg z] at hne ⊢
              exact hnk p hne
        · intro b' o2 e hb'
          have hb2 := hb'
          simp only [List.mem_cons, List.not_mem_nil, or_false, not_or] at hb2
          rw [upd_ne hb2.2.2]
          exact k5 _ _ (k4 _ _ e hb') (by simp; exact ⟨hb2.1, hb2.2.1⟩)
    · rintro σ H4 ⟨g', o', v4, v5, v6, v7, v8, rfl, hT4, hg4, k4⟩
      simp (maxSteps := 1000000) only [tC, tRet]
      exact q g' o' H4 hT4 hg4 fun b o e hb => k4 _ _ (s2 _ _ e) hb
end
end K65
namespace K65
open PySem L2
/-- the copies that are picked -/
theorem comp_q4 {n : Nat} {js : List Nat} {g : TG} {tc : TT} {te : TE} {σ : St} {Q : VK} {H1 : Hp} {K : PySem.W.Frag} {a : Addr} {ys : List V} {R : List Q4} (p : Q4 → Bool) (ha : H1 a = some (.lst ys)) (hp : Paired (Tq H1) ys R) (hz : R.length ≤ 1000)
    (hs : ∀ v q H (A : V → Hp → Prop) (B : Hp → Prop), Tq H v q → (p q = true → A v H) → (p q = false → B H) → g v (cSt n js σ) H fun σ2 H2 => σ2.drop n = (cSt n js σ).drop n ∧ tc σ2 H2 fun b H3 => if b = true then te σ2 H3 A else B H3)
    (hq : ∀ D zs H', H1 D = none → H' D = some (.lst zs) → Paired (Tq H') zs (R.filter p) → Same H1 H' → Q (.ref D) H') : CompW n js g tc te σ Q (Itl K a) H1 := by
  have hlen := hp.length
  refine comp_list (xs := ys) (by rw [sizeLine_eq]; omega) (fun D i acc H' => H' D = some (.lst acc) ∧ acc.length ≤ i ∧ Paired (Tq H') acc ((R.take i).filter p) ∧ Same H1 H') (fun D hD => ⟨upd_same, Nat.le_refl _, .nil, Same.upd_new hD⟩) ?_ ?_ ?_
  · rintro D i acc H2 hD hi ⟨eD, hl, hI, s2⟩
    exact ⟨eD, SqL.of (s2 _ _ ha), hl⟩
  · rintro D i v acc H2 hD hx ⟨eD, hl, hI, s2⟩
    obtain ⟨q, hk, hv⟩ := paired_get hp hx
    have hv2 : Tq H2 v q := Tq.keep (S := []) s2.keep (fun _ z => nomatch z) hv
    rw [List.take_add_one, hk, Option.toList_some, List.filter_append]
    refine hs v q H2 _ _ hv2 (fun h => ?_) (fun h => ?_)
    · have kD : Keep [D] H2 (upd H2 D (.lst (acc ++ [v]))) := Keep.refl.upd (.inl (.head _))
      have nT := noT1 (NoT.of_lst eD)
      refine ⟨eD, upd_same, by rw [List.length_append]; exact Nat.add_le_add_right hl 1, ?_, s2.upd hD⟩
      rw [List.filter_cons, if_pos h, List.filter_nil]
      exact paired_append (tq_keep kD nT hI) (.cons (Tq.keep kD nT hv2) .nil)
    · refine ⟨eD, eD, Nat.le_succ_of_le hl, ?_, s2⟩
      rw [List.filter_cons, if_neg (by rw [h]; decide), List.filter_nil, List.append_nil]
      exact hI
  · rintro D acc H2 hD ⟨eD, hl, hI, s2⟩
    rw [List.take_of_length_le (by omega)] at hI
    exact hq D acc H2 hD eD hI s2

def KI (H : Hp) (b : Addr) : Prop := ∃ C dx fs, H b = some (.ins C dx fs)
def KD (H : Hp) (b : Addr) : Prop := ∃ kvs, H b = some (.dK kvs)
def KL (H : Hp) (b : Addr) : Prop := ∃ xs, H b = some (.lst xs)
section
variable {H : Hp} {a b : Addr}
theorem ne_id (h1 : KI H a) (h2 : KD H b) : a ≠ b := by
  obtain ⟨_, _, _, e1⟩ := h1
  obtain ⟨_, e2⟩ := h2
  exact ne_of e1 e2 (by intro z; cases z)
theorem ne_il (h1 : KI H a) (h2 : KL H b) : a ≠ b := by
  obtain ⟨_, _, _, e1⟩ := h1
  obtain ⟨_, e2⟩ := h2
  exact ne_of e1 e2 (by intro z; cases z)
theorem ne_dl (h1 : KD H a) (h2 : KL H b) : a ≠ b := by
  obtain ⟨_, e1⟩ := h1
  obtain ⟨_, e2⟩ := h2
  exact ne_of e1 e2 (by intro z; cases z)
theorem KI.t (h : KI H a) : NoT H a := by obtain ⟨_, _, _, e⟩ := h; exact .of_ins e
theorem KD.t (h : KD H a) : NoT H a := by obtain ⟨_, e⟩ := h; exact .of_dK e
theorem KL.t (h : KL H a) : NoT H a := by obtain ⟨_, e⟩ := h; exact .of_lst e
end
structure Wd (C C2 : Addr) (H : Hp) (a : Ad) (W wt : Int) (st : Str) (xs : List V) (ds : List PyData) (b t g : Nat) (o : Bool) (u : Nat) (R0 R1 : List Q4) (T : Int) (n k : Nat) : Prop where
  ok : a.Ok
  te : TeH C H a W wt st xs b t n
  ta : TaH C2 H a W xs t g o u
  ro : RoH H a R0 R1
  put : H a.pp = some (.lst xs)
  rd : H a.rd = some (.lst (xs.take u))
  sta : H a.ps = some (.lst [.ref a.pp, .ref a.pr, .ref a.rd, .ref a.pn, .int T])
  im : Ims H xs ds
  dp : ∀ d ∈ ds, d.depth ≤ 3
  fst : st = "shut" ∨ st = "open"
  o1 : b ≤ g
  o3 : t ≤ xs.length
  o4 : (t : Int) ≤ b + W
  o5 : u ≤ g
  W1 : 1 ≤ W
  x9 : xs.length ≤ 900
  p0 : ∀ q ∈ R0, ∃ p : Nat, q.2.2.2 = (p : Int) ∧ p < t
  p1 : ∀ q ∈ R1, ∃ p : Nat, q.2.2.2 = (p : Int) ∧ p ≤ g
  l0 : R0.length ≤ k
  l1 : R1.length ≤ k
section
variable {C C2 : Addr} {H H' : Hp} {a : Ad} {W wt T : Int} {st : Str} {xs : List V} {ds : List PyData} {b t g n u k : Nat} {o : Bool} {R0 R1 : List Q4} {S : List Addr}
structure Kn (H : Hp) (a : Ad) : Prop where
  x : KI H a.x
  y : KI H a.y
  pg : KD H a.pg
  pk : KD H a.pk
  pn : KD H a.pn
  pl : KL H a.pl
  pp : KL H a.pp
  pr : KL H a.pr
  rd : KL H a.rd
  ps : KL H a.ps
theorem Wd.kn (h : Wd C C2 H a W wt st xs ds b t g o u R0 R1 T n k) : Kn H a := by
  obtain ⟨kvs, O, _⟩ := h.te.ex
  obtain ⟨tk, nw, O2, _, _, _, en, _⟩ := h.ta.ex
  obtain ⟨r0, r1, ys0, ys1, er, _⟩ := h.ro.ex
  exact ⟨⟨_, _, _, O.ins⟩, ⟨_, _, _, O2.ins⟩, ⟨_, O.dic⟩, ⟨_, O2.dic⟩, ⟨_, en⟩, ⟨_, O.lst⟩, ⟨_, h.put⟩, ⟨_, er⟩, ⟨_, h.rd⟩, ⟨_, h.sta⟩⟩
theorem Wd.same (h : Wd C C2 H a W wt st xs ds b t g o u R0 R1 T n k) (s : Same H H') : Wd C C2 H' a W wt st xs ds b t g o u R0 R1 T n k :=
  ⟨h.ok, h.te.same s, h.ta.same s, h.ro.same s, s _ _ h.put, s _ _ h.rd, s _ _ h.sta, h.im.same s, h.dp, h.fst, h.o1, h.o3, h.o4, h.o5, h.W1, h.x9, h.p0, h.p1, h.l0, h.l1⟩
theorem Wd.o2 (h : Wd C C2 H a W wt st xs ds b t g o u R0 R1 T n k) : g ≤ t := h.ta.le
theorem Wd.upk {k' : Nat} (h : Wd C C2 H a W wt st xs ds b t g o u R0 R1 T n k) (hk : k ≤ k') : Wd C C2 H a W wt st xs ds b t g o u R0 R1 T n k' :=
  ⟨h.ok, h.te, h.ta, h.ro, h.put, h.rd, h.sta, h.im, h.dp, h.fst, h.o1, h.o3, h.o4, h.o5, h.W1, h.x9, h.p0, h.p1, Nat.le_trans h.l0 hk, Nat.le_trans h.l1 hk⟩
theorem thin_take {tk : List (Key × V)} (tl : Till tk g) (hv : ∀ (p : Int) v, valV tk (Sum.inl p) = some v → ∃ m : Nat, p = m ∧ m < t ∧ xs[m]? = some v) (hu : u ≤ g) (hg : g ≤ xs.length) : xs.take u ++ thin tk u g = xs.take g := by
  apply List.ext_getElem?
  intro i
  have hl : (xs.take u).length = u := by rw [List.length_take]; omega
  rcases Nat.lt_or_ge i u with h | h
  · rw [List.getElem?_append_left (by omega), List.getElem?_take, List.getElem?_take, if_pos h, if_pos (by omega)]
  · rw [List.getElem?_append_right (by omega), hl, List.getElem?_take]
    rcases Nat.lt_or_ge i g with h2 | h2
    · rw [if_pos h2, thin_at (by omega), show u + (i - u) = i by omega]
      cases e : valV tk (Sum.inl (i : Int)) with
      | none => exact absurd e (tl.below i h2)
      | some v =>
        obtain ⟨m, e1, _, e3⟩ := hv _ _ e
        have : m = i := by omega
        subst this
        rw [e3]
        rfl
    · rw [if_neg (by omega), List.getElem?_eq_none (by simp [thin]; omega)]
/-- copies come -/
theorem Wd.come {g' : Nat} {o' : Bool} (h : Wd C C2 H a W wt st xs ds b t g o u R0 R1 T n k) (kk : Keep [a.y, a.pk, a.pn] H H') (ta : TaH C2 H' a W xs t g' o' u) (hg : g ≤ g') : Wd C C2 H' a W wt st xs ds b t g' o' u R0 R1 T n k := by
  have K := h.kn
  have ok := h.ok
  have lst : ∀ {c : Addr}, KL H c → c ∉ [a.y, a.pk, a.pn] := fun hc => by
    simp only [List.mem_cons, List.not_mem_nil, or_false, not_or]
    exact ⟨Ne.symm (ne_il K.y hc), Ne.symm (ne_dl K.pk hc), Ne.symm (ne_dl K.pn hc)⟩
  have hT : ∀ c ∈ [a.y, a.pk, a.pn], NoT H c := fun c hc => by
    simp only [List.mem_cons, List.not_mem_nil, or_false] at hc
    rcases hc with rfl | rfl | rfl
    · exact K.y.t
    · exact K.pk.t
    · exact K.pn.t
  refine ⟨ok, h.te.keep kk ?_ (lst K.pl) ?_, ta, h.ro.keep kk (lst K.pr) hT (fun c hc ys e => absurd hc (lst ⟨_, e⟩)), kk _ _ h.put (lst K.pp), kk _ _ h.rd (lst K.rd), kk _ _ h.sta (lst K.ps), h.im.keep kk hT, h.dp, h.fst, by have := h.o1; omega, h.o3, h.o4, by have := h.o5; omega, h.W1, h.x9, h.p0, fun q hq => ?_, h.l0, h.l1⟩
  · simp only [List.mem_cons, List.not_mem_nil, or_false, not_or]
    exact ⟨ok.xy, ne_id K.x K.pk, ne_id K.x K.pn⟩
  · simp only [List.mem_cons, List.not_mem_nil, or_false, not_or]
    exact ⟨Ne.symm (ne_id K.y K.pg), ok.gk, ok.gn⟩
  · obtain ⟨p, e, hp⟩ := h.p1 q hq
    exact ⟨p, e, by omega⟩
/-- the teller hears, or lets one go -/
theorem Wd.tell {b' t' n' : Nat} (h : Wd C C2 H a W wt st xs ds b t g o u R0 R1 T n k) (kk : Keep [a.x, a.pg] H H') (te : TeH C H' a W wt st xs b' t' n') (hb1 : b' ≤ g) (ht : t ≤ t') (ht2 : t' ≤ xs.length) (ht3 : (t' : Int) ≤ b' + W) : Wd C C2 H' a W wt st xs ds b' t' g o u R0 R1 T n' k := by
  have K := h.kn
  have ok := h.ok
  have lst : ∀ {c : Addr}, KL H c → c ∉ [a.x, a.pg] := fun hc => by
    simp only [List.mem_cons, List.not_mem_nil, or_false, not_or]
    exact ⟨Ne.symm (ne_il K.x hc), Ne.symm (ne_dl K.pg hc)⟩
  have hT : ∀ c ∈ [a.x, a.pg], NoT H c := fun c hc => by
    simp only [List.mem_cons, List.not_mem_nil, or_false] at hc
    rcases hc with rfl | rfl
    · exact K.x.t
    · exact K.pg.t
  refine ⟨ok, te, (h.ta.keep kk ?_ ?_ ?_).more ht, h.ro.keep kk (lst K.pr) hT (fun c hc ys e => absurd hc (lst ⟨_, e⟩)), kk _ _ h.put (lst K.pp), kk _ _ h.rd (lst K.rd), kk _ _ h.sta (lst K.ps), h.im.keep kk hT, h.dp, h.fst, hb1, ht2, ht3, h.o5, h.W1, h.x9, fun q hq => ?_, h.p1, h.l0, h.l1⟩
  · simp only [List.mem_cons, List.not_mem_nil, or_false, not_or]
    exact ⟨Ne.symm ok.xy, ne_id K.y K.pg⟩
  · simp only [List.mem_cons, List.not_mem_nil, or_false, not_or]
    exact ⟨Ne.symm (ne_id K.x K.pk), Ne.symm ok.gk⟩
  · simp only [List.mem_cons, List.not_mem_nil, or_false, not_or]
    exact ⟨Ne.symm (ne_id K.x K.pn), Ne.symm ok.gn⟩
  · obtain ⟨p, e, hp⟩ := h.p0 q hq
    exact ⟨p, e, by omega⟩
/-- a list of the state is written (not that of the roads) -/
theorem Wd.lists {u' : Nat} {T' : Int} (h : Wd C C2 H a W wt st xs ds b t g o u R0 R1 T n k) (kk : Keep [a.y, a.rd, a.ps] H H') (ta : TaH C2 H' a W xs t g o u') (rd : H' a.rd = some (.lst (xs.take u'))) (sta : H' a.ps = some (.lst [.ref a.pp, .ref a.pr, .ref a.rd, .ref a.pn, .int T'])) (hu : u' ≤ g) : Wd C C2 H' a W wt st xs ds b t g o u' R0 R1 T' n k := by
  have K := h.kn
  have ok := h.ok
  have hT : ∀ c ∈ [a.y, a.rd, a.ps], NoT H c := fun c hc => by
    simp only [List.mem_cons, List.not_mem_nil, or_false] at hc
    rcases hc with rfl | rfl | rfl
    · exact K.y.t
    · exact K.rd.t
    · exact K.ps.t
  refine ⟨ok, h.te.keep kk ?_ ?_ ?_, ta, h.ro.keep kk ?_ hT (fun c hc ys e => ?_), kk _ _ h.put ?_, rd, sta, h.im.keep kk hT, h.dp, h.fst, h.o1, h.o3, h.o4, hu, h.W1, h.x9, h.p0, h.p1, h.l0, h.l1⟩
  · simp only [List.mem_cons, List.not_mem_nil, or_false, not_or]
    exact ⟨ok.xy, ne_il K.x K.rd, ne_il K.x K.ps⟩
  · simp only [List.mem_cons, List.not_mem_nil, or_false, not_or]
    exact ⟨Ne.symm (ne_il K.y K.pl), Ne.symm ok.l3, Ne.symm ok.l4⟩
  · simp only [List.mem_cons, List.not_mem_nil, or_false, not_or]
    exact ⟨Ne.symm (ne_id K.y K.pg), ne_dl K.pg K.rd, ne_dl K.pg K.ps⟩
  · simp only [List.mem_cons, List.not_mem_nil, or_false, not_or]
    exact ⟨Ne.symm (ne_il K.y K.pr), Ne.symm ok.l8, Ne.symm ok.l9⟩
  · simp only [List.mem_cons, List.not_mem_nil, or_false] at hc
    rcases hc with rfl | rfl | rfl
    · exact absurd rfl (ne_il K.y ⟨_, e⟩)
    · simp
    · simp
  · simp only [List.mem_cons, List.not_mem_nil, or_false, not_or]
    exact ⟨Ne.symm (ne_il K.y K.pp), Ne.symm ok.l6, Ne.symm ok.l7⟩
/-- other copies are under way -/
theorem Wd.roads {R0' R1' : List Q4} {k' : Nat} {zs : List V} (h : Wd C C2 H a W wt st xs ds b t g o u R0 R1 T n k) (e : H' = upd H a.pr (.lst zs)) (ro : RoH H' a R0' R1') (p0 : ∀ q ∈ R0', ∃ p : Nat, q.2.2.2 = (p : Int) ∧ p < t) (p1 : ∀ q ∈ R1', ∃ p : Nat, q.2.2.2 = (p : Int) ∧ p ≤ g) (l0 : R0'.length ≤ k') (l1 : R1'.length ≤ k') : Wd C C2 H' a W wt st xs ds b t g o u R0' R1' T n k' := by
  have K := h.kn
  have ok := h.ok
  have kk : Keep [a.pr] H H' := by rw [e]; exact Keep.refl.upd (.inl (.head _))
  have hT : ∀ c ∈ [a.pr], NoT H c := noT1 K.pr.t
  refine ⟨ok, h.te.keep kk (by simp; exact ne_il K.x K.pr) (by simp; exact Ne.symm ok.l2) (by simp; exact ne_dl K.pg K.pr), h.ta.keep kk (by simp; exact ne_il K.y K.pr) (by simp; exact ne_dl K.pk K.pr) (by simp; exact ne_dl K.pn K.pr), ro, kk _ _ h.put (by simp; exact Ne.symm ok.l5), kk _ _ h.rd (by simp; exact ok.l8), kk _ _ h.sta (by simp; exact ok.l9), h.im.keep kk hT, h.dp, h.fst, h.o1, h.o3, h.o4, h.o5, h.W1, h.x9, p0, p1, l0, l1⟩
theorem road_mk {p0 p1 : Addr} {zs0 zs1 l : List V} (er : H a.pr = some (.lst l)) (e0 : H p0 = some (.lst zs0)) (e1 : H p1 = some (.lst zs1)) (h0 : Paired (Tq H) zs0 R0) (h1 : Paired (Tq H) zs1 R1) (n0 : p0 ∉ [a.pl, a.pp, a.pr, a.rd, a.ps]) (n1 : p1 ∉ [a.pl, a.pp, a.pr, a.rd, a.ps]) : RoH (upd H a.pr (.lst [.ref p0, .ref p1])) a R0 R1 := by
  have kk : Keep [a.pr] H (upd H a.pr (.lst [.ref p0, .ref p1])) := Keep.refl.upd (.inl (.head _))
  have hT : ∀ c ∈ [a.pr], NoT H c := noT1 (.of_lst er)
  have f : ∀ {p : Addr}, p ∉ [a.pl, a.pp, a.pr, a.rd, a.ps] → p ∉ [a.pr] := fun h z => h (by rw [List.mem_singleton.mp z]; simp)
  exact ⟨p0, p1, zs0, zs1, upd_same, kk _ _ e0 (f n0), kk _ _ e1 (f n1), tq_keep kk hT h0, tq_keep kk hT h1, n0, n1⟩
theorem Kn.fresh {p : Addr} (K : Kn H a) (h : H p = none) : p ∉ [a.pl, a.pp, a.pr, a.rd, a.ps] := by
  obtain ⟨_, _, _, _, _, ⟨_, e1⟩, ⟨_, e2⟩, ⟨_, e3⟩, ⟨_, e4⟩, ⟨_, e5⟩⟩ := K
  simp only [List.mem_cons, List.not_mem_nil, or_false, not_or]
  exact ⟨Ne.symm (ne_of_none e1 h), Ne.symm (ne_of_none e2 h), Ne.symm (ne_of_none e3 h), Ne.symm (ne_of_none e4 h), Ne.symm (ne_of_none e5 h)⟩
end
end K65
namespace K65
open PySem L2
abbrev s__law_turn : Stmt := top 20
theorem sc__law_turn : FnScope ["_law_teller", "_law_taker", "_law_state", "_law_cell", "_law_first", "_law_window", "_law_put_here", "_law_roads", "_law_read", "_law_news", "_law_turn_here", "_law_due", "_law_when", "_law_rank", "_law_k", "_law_got", "_law_place", "_law_number"] ["_law_teller", "_law_taker", "_law_state", "_law_cell", "_law_first", "_law_window"] (defScope s__law_turn) := ⟨rfl, rfl, rfl, by decide +kernel, rfl, by decide +kernel, by decide +kernel⟩
theorem cs__law_turn_0 : CScope ["_law_copy"] ["_law_turn_here"] { kind := .function, names := [(".0", .local), ("_law_copy", .local), ("_law_turn_here", .free)], isGenerator := false, isCoroutine := false, more := [] } (defScope s__law_turn) := ⟨rfl, by decide +kernel, by decide +kernel, by decide +kernel, by decide +kernel, by decide +kernel⟩
theorem cs__law_turn_1 : CScope ["_law_copy"] ["_law_turn_here"] { kind := .function, names := [(".0", .local), ("_law_copy", .local), ("_law_turn_here", .free)], isGenerator := false, isCoroutine := false, more := [] } (defScope s__law_turn) := ⟨rfl, by decide +kernel, by decide +kernel, by decide +kernel, by decide +kernel, by decide +kernel⟩
theorem cs__law_turn_2 : CScope ["_law_copy"] ["_law_turn_here"] { kind := .function, names := [(".0", .local), ("_law_copy", .local), ("_law_turn_here", .free)], isGenerator := false, isCoroutine := false, more := [] } (defScope s__law_turn) := ⟨rfl, by decide +kernel, by decide +kernel, by decide +kernel, by decide +kernel, by decide +kernel⟩
theorem cs__law_turn_3 : CScope ["_law_copy"] ["_law_turn_here"] { kind := .function, names := [(".0", .local), ("_law_copy", .local), ("_law_turn_here", .free)], isGenerator := false, isCoroutine := false, more := [] } (defScope s__law_turn) := ⟨rfl, by decide +kernel, by decide +kernel, by decide +kernel, by decide +kernel, by decide +kernel⟩
section
variable {P : Program} {w : World} {K : PySem.W.Frag} {mg : Str → Option Value} {base : Heap} {C C2 : Addr}
def tch (a : Ad) : List Addr := [a.x, a.pg, a.y, a.pk, a.pn, a.pr, a.rd, a.ps]
theorem opk0 {f : St} {p : Hp → Prop} {R : St → Hp → Prop} (h : ∀ H, p  H → R f H) : ∀ σ H, (σ = f ∧ p  H) → R σ H := by
  rintro τ H ⟨rfl, y⟩
  exact h _ y
theorem opk1 {α0 : Type} {f : α0 → St} {p : α0 → Hp → Prop} {R : St → Hp → Prop} (h : ∀ a H, p a H → R (f a) H) : ∀ σ H, (∃ a, σ = f a ∧ p a H) → R σ H := by
  rintro τ H ⟨a, rfl, y⟩
  exact h _ _ y
theorem opk2 {α0 α1 : Type} {f : α0 → α1 → St} {p : α0 → α1 → Hp → Prop} {R : St → Hp → Prop} (h : ∀ a b H, p a b H → R (f a b) H) : ∀ σ H, (∃ a b, σ = f a b ∧ p a b H) → R σ H := by
  rintro τ H ⟨a, b, rfl, y⟩
  exact h _ _ _ y
theorem opk3 {α0 α1 α2 : Type} {f : α0 → α1 → α2 → St} {p : α0 → α1 → α2 → Hp → Prop} {R : St → Hp → Prop} (h : ∀ a b c H, p a b c H → R (f a b c) H) : ∀ σ H, (∃ a b c, σ = f a b c ∧ p a b c H) → R σ H := by
  rintro τ H ⟨a, b, c, rfl, y⟩
  exact h _ _ _ _ y
theorem opk4 {α0 α1 α2 α3 : Type} {f : α0 → α1 → α2 → α3 → St} {p : α0 → α1 → α2 → α3 → Hp → Prop} {R : St → Hp → Prop} (h : ∀ a b c d H, p a b c d H → R (f a b c d) H) : ∀ σ H, (∃ a b c d, σ = f a b c d ∧ p a b c d H) → R σ H := by
  rintro τ H ⟨a, b, c, d, rfl, y⟩
  exact h _ _ _ _ _ y
theorem opk5 {α0 α1 α2 α3 α4 : Type} {f : α0 → α1 → α2 → α3 → α4 → St} {p : α0 → α1 → α2 → α3 → α4 → Hp → Prop} {R : St → Hp → Prop} (h : ∀ a b c d e H, p a b c d e H → R (f a b c d e) H) : ∀ σ H, (∃ a b c d e, σ = f a b c d e ∧ p a b c d e H) → R σ H := by
  rintro τ H ⟨a, b, c, d, e, rfl, y⟩
  exact h _ _ _ _ _ _ y
theorem opk6 {α0 α1 α2 α3 α4 α5 : Type} {f : α0 → α1 → α2 → α3 → α4 → α5 → St} {p : α0 → α1 → α2 → α3 → α4 → α5 → Hp → Prop} {R : St → Hp → Prop} (h : ∀ a b c d e g H, p a b c d e g H → R (f a b c d e g) H) : ∀ σ H, (∃ a b c d e g, σ = f a b c d e g ∧ p a b c d e g H) → R σ H := by
  rintro τ H ⟨a, b, c, d, e, g, rfl, y⟩
  exact h _ _ _ _ _ _ _ y
def sp_turn (C C2 : Addr) : Sp := fun vs H Q _ => ∃ (a : Ad) (W wt : Int) (st : Str) (xs : List V) (ds : List PyData) (b t g : Nat) (o : Bool) (u : Nat) (R0 R1 : List Q4) (T : Int) (n k : Nat) (cell fi : Int), vs = [.ref a.x, .ref a.y, .ref a.ps, .int cell, .int fi, .int W] ∧ Wd C C2 H a W wt st xs ds b t g o u R0 R1 T n k ∧ 0 ≤ fi ∧ fi ≤ 800 ∧ n ≤ 900 ∧ k ≤ 900 ∧
  ∀ b' t' g' o' u' R0' R1' H', Wd C C2 H' a W wt st xs ds b' t' g' o' u' R0' R1' (T + 1) (n + 1) (k + 3) → Keep (tch a) H H' → Q (.bl true) H'
theorem sp_turn_mk {C C2 : Addr} {vs : List V} {H : Hp} {Q : VK} {E : XK} {a : Ad} {W wt : Int} {st : Str} {xs : List V} {ds : List PyData} {b t g : Nat} {o : Bool} {u : Nat} {R0 R1 : List Q4} {T : Int} {n k : Nat} (cell fi : Int) (hv : vs = [.ref a.x, .ref a.y, .ref a.ps, .int cell, .int fi, .int W]) (hW : Wd C C2 H a W wt st xs ds b t g o u R0 R1 T n k) (h1 : 0 ≤ fi) (h2 : fi ≤ 800) (h3 : n ≤ 900) (h4 : k ≤ 900) (hq : ∀ b' t' g' o' u' R0' R1' H', Wd C C2 H' a W wt st xs ds b' t' g' o' u' R0' R1' (T + 1) (n + 1) (k + 3) → Keep (tch a) H H' → Q (.bl true) H') : sp_turn C C2 vs H Q E := ⟨a, W, wt, st, xs, ds, b, t, g, o, u, R0, R1, T, n, k, cell, fi, hv, hW, h1, h2, h3, h4, hq⟩
def tσ (a : Ad) (cell fi W T : Int) (v11 v12 v13 v14 v15 v16 v17 : Option V) : St := [some (.ref a.x), some (.ref a.y), some (.ref a.ps), some (.int cell), some (.int fi), some (.int W), some (.ref a.pp), some (.ref a.pr), some (.ref a.rd), some (.ref a.pn), some (.int T), v11, v12, v13, v14, v15, v16, v17]
def opV : Option Nat → V
  | none => .non
  | some p => .int (p : Int)
set_option maxHeartbeats 8000000 in
theorem own_turn (D : Def K mg "_law_turn" s__law_turn) (hb : Blt mg) (hsorted : mg "sorted" = none) (T_Teller : ClsD K mg "Teller" C at_Teller) (T_Taker : ClsD K mg "Taker" C2 at_Taker) (M_Teller_heard : OwnM P w K mg base 1 C "heard" ["self", "got"] (sp_theard C)) (M_Teller_go : OwnM P w K mg base 3 C "go" ["self", "turn"] (sp_tgo C)) (M_Taker_answered : OwnM P w K mg base 1 C2 "answered" ["self"] (sp_answered C2)) (M_Taker_read : OwnM P w K mg base 1 C2 "read" ["self"] (sp_read C2))
    (F__law_come : Own P w K mg base 2 "_law_come" ["_law_taker", "_law_put_here", "_law_due", "_law_news"] (sp_come C2)) (F__law_copies : Own P w K mg base 2 "_law_copies" ["_law_cell", "_law_first", "_law_turn_here", "_law_what"] sp_copies) (F__law_mixed : Own P w K mg base 1 "_law_mixed" ["_law_cell", "_law_k"] sp_mixed) (F__law_right : Own P w K mg base 2 "_law_right" ["_law_teller", "_law_taker", "_law_put_here", "_law_read", "_law_window"] (sp_right C C2)) :
    Own P w K mg base 4 "_law_turn" ["_law_teller", "_law_taker", "_law_state", "_law_cell", "_law_first", "_law_window"] (sp_turn C C2) := by
  refine D.own sc__law_turn (fun _ _ _ _ _ _ us hl => match us, hl with | [_, _, _, _, _, _], _ => rfl) (fun vs H Q E h => ?_) (fun f cdv A outer s H vs Q E hr h => ?_)
  · obtain ⟨a, W, wt, st, xs, ds, b, t, g, o, u, R0, R1, T, n, k, cell, fi, rfl, _⟩ := h
    rfl
  · obtain ⟨a, W, wt, st, xs, ds, b, t, g, o, u, R0, R1, T, n, k, cell, fi, rfl, hW, f0, f8, hn9, hk9, q⟩ := h
    have hu := hr.units
    have hu1 : (A.deeper (PyProof.Rows.envOfC "_law_turn" (defScope s__law_turn) s.heap.objs.size f cdv)).units + 1 < cLine := by omega
    have hl0 := hW.l0
    have hl1 := hW.l1
    refine ⟨_, (@pss_cons _ _ _ _ _ (@ps_asg _ _ _ _ _ _ (@pv _ 2 _ _ (by rfl) (by first | exact Or.inl rfl | exact Or.inr (Or.inl rfl) | exact Or.inr (Or.inr rfl)) (by decide) (by decide)) (@pg_seqX _ _ _ _ 5 _ rfl (@pgs_cons _ _ _ _ _ (@pg_name _ _ 6 _ sc__law_turn.nd rfl (by first | exact Or.inl rfl | exact Or.inr rfl) (by first | exact .inl rfl | exact .inr rfl | assumption)) (@pgs_cons _ _ _ _ _ (@pg_name _ _ 7 _ sc__law_turn.nd rfl (by first | exact Or.inl rfl | exact Or.inr rfl) (by first | exact .inl rfl | exact .inr rfl | assumption)) (@pgs_cons _ _ _ _ _ (@pg_name _ _ 8 _ sc__law_turn.nd rfl (by first | exact Or.inl rfl | exact Or.inr rfl) (by first | exact .inl rfl | exact .inr rfl | assumption)) (@pgs_cons _ _ _ _ _ (@pg_name _ _ 9 _ sc__law_turn.nd rfl (by first | exact Or.inl rfl | exact Or.inr rfl) (by first | exact .inl rfl | exact .inr rfl | assumption)) (@pgs_cons _ _ _ _ _ (@pg_name _ _ 10 _ sc__law_turn.nd rfl (by first | exact Or.inl rfl | exact Or.inr rfl) (by first | exact .inl rfl | exact .inr rfl | assumption)) (@pgs_nil _) (by rfl)) (by rfl)) (by rfl)) (by rfl)) (by rfl)) (by rfl) (by rfl)) (by rfl) (by rfl) (by rfl)) (@pss_cons _ _ _ _ _ (@ps_setC _ _ _ _ _ _ _ _ _ _ _ 11 _ _ _ ["_law_copy"] ["_law_turn_here"] [10] rfl sc__law_turn.nd rfl (by first | exact Or.inl rfl | exact Or.inr rfl) _ cs__law_turn_0 (@pi_listK _ K _ _ _ (@pe_ix _ _ _ _ _ _ _ (ix_get hu1) (@pv _ 7 _ _ (by rfl) (by first | exact Or.inl rfl | exact Or.inr (Or.inl rfl) | exact Or.inr (Or.inr rfl)) (by decide) (by decide)) (@pe_int _ _ _ _) (fun _ _ => rfl)) (by rfl)) (fun _ _ _ _ => (@pg_name _ _ 0 _ cs__law_turn_0.nd rfl (by first | exact Or.inl rfl | exact Or.inr rfl) (by first | exact .inl rfl | exact .inr rfl | assumption))) (fun _ _ _ _ => (@pf_one _ _ _ (@pt_cmpR _ _ _ _ _ _ _ _ op_eq (@pe_ix _ _ _ _ _ _ _ (ix_get hu1) (@pv _ 0 _ _ (by rfl) (by first | exact Or.inl rfl | exact Or.inr (Or.inl rfl) | exact Or.inr (Or.inr rfl)) (by decide) (by decide)) (@pe_int _ _ _ _) (fun _ _ => rfl)) (@pv _ 1 _ _ (by rfl) (by first | exact Or.inl rfl | exact Or.inr (Or.inl rfl) | exact Or.inr (Or.inr rfl)) (by decide) (by decide)) (nomark _)))) (fun _ _ _ _ => (@pv _ 0 _ _ (by rfl) (by first | exact Or.inl rfl | exact Or.inr (Or.inl rfl) | exact Or.inr (Or.inr rfl)) (by decide) (by decide))) rfl (by rfl) (by rfl) (by rfl) (by first | exact .inl rfl | exact .inr rfl | assumption) (by intro _; rfl)) (@pss_cons _ _ _ _ _ (@ps_if _ _ _ _ _ _ _ _ (@pt_not _ _ _ _ (@pt_truX _ _ _ (@pe_fn _ _ _ _ _ _ _ _ _ _ _ F__law_come hr (@pa_cX _ _ _ _ _ (@pv _ 1 _ _ (by rfl) (by first | exact Or.inl rfl | exact Or.inr (Or.inl rfl) | exact Or.inr (Or.inr rfl)) (by decide) (by decide)) (@pa_cX _ _ _ _ _ (@pv _ 6 _ _ (by rfl) (by first | exact Or.inl rfl | exact Or.inr (Or.inl rfl) | exact Or.inr (Or.inr rfl)) (by decide) (by decide)) (@pa_cX _ _ _ _ _ (@pv _ 11 _ _ (by rfl) (by first | exact Or.inl rfl | exact Or.inr (Or.inl rfl) | exact Or.inr (Or.inr rfl)) (by decide) (by decide)) (@pa_cX _ _ _ _ _ (@pv _ 9 _ _ (by rfl) (by first | exact Or.inl rfl | exact Or.inr (Or.inl rfl) | exact Or.inr (Or.inr rfl)) (by decide) (by decide)) (@pa_nil _) (by rfl)) (by rfl)) (by rfl)) (by rfl)) (by decide) (by rfl) (by decide) (by rfl) (by rfl)) (by intro _; rfl))) (@pss_one _ _ _ (@ps_ret _ _ _ _ (@pe_bl _ _ _ _))) (@pss_nil _)) (@pss_cons _ _ _ _ _ (@ps_for _ _ _ _ _ _ _ _ PassesOwn.never rfl (@pi_listK _ K _ _ _ (@pe_callB _ _ _ _ _ _ _ _ _ call_sortU rfl hsorted bt_sorted (@pa_cX _ _ _ _ _ (@pe_comp _ _ _ _ _ _ _ _ _ _ _ ["_law_copy"] ["_law_turn_here"] [10] rfl _ cs__law_turn_1 (@pi_listK _ K _ _ _ (@pe_ix _ _ _ _ _ _ _ (ix_get hu1) (@pv _ 7 _ _ (by rfl) (by first | exact Or.inl rfl | exact Or.inr (Or.inl rfl) | exact Or.inr (Or.inr rfl)) (by decide) (by decide)) (@pe_int _ _ _ _) (fun _ _ => rfl)) (by rfl)) (fun _ _ _ _ => (@pg_name _ _ 0 _ cs__law_turn_1.nd rfl (by first | exact Or.inl rfl | exact Or.inr rfl) (by first | exact .inl rfl | exact .inr rfl | assumption))) (fun _ _ _ _ => (@pf_one _ _ _ (@pt_cmpR _ _ _ _ _ _ _ _ op_eq (@pe_ix _ _ _ _ _ _ _ (ix_get hu1) (@pv _ 0 _ _ (by rfl) (by first | exact Or.inl rfl | exact Or.inr (Or.inl rfl) | exact Or.inr (Or.inr rfl)) (by decide) (by decide)) (@pe_int _ _ _ _) (fun _ _ => rfl)) (@pv _ 1 _ _ (by rfl) (by first | exact Or.inl rfl | exact Or.inr (Or.inl rfl) | exact Or.inr (Or.inr rfl)) (by decide) (by decide)) (nomark _)))) (fun _ _ _ _ => (@pv _ 0 _ _ (by rfl) (by first | exact Or.inl rfl | exact Or.inr (Or.inl rfl) | exact Or.inr (Or.inr rfl)) (by decide) (by decide))) (by rfl) (by rfl) (by rfl) (by intro _; rfl)) (@pa_nil _) (by rfl)) (by decide) (by decide) (by rfl) (by rfl)) (by rfl)) (@pg_seqX _ _ _ _ 4 _ rfl (@pgs_cons _ _ _ _ _ (@pg_name _ _ 12 _ sc__law_turn.nd rfl (by first | exact Or.inl rfl | exact Or.inr rfl) (by first | exact .inl rfl | exact .inr rfl | assumption)) (@pgs_cons _ _ _ _ _ (@pg_name _ _ 13 _ sc__law_turn.nd rfl (by first | exact Or.inl rfl | exact Or.inr rfl) (by first | exact .inl rfl | exact .inr rfl | assumption)) (@pgs_cons _ _ _ _ _ (@pg_name _ _ 14 _ sc__law_turn.nd rfl (by first | exact Or.inl rfl | exact Or.inr rfl) (by first | exact .inl rfl | exact .inr rfl | assumption)) (@pgs_cons _ _ _ _ _ (@pg_name _ _ 15 _ sc__law_turn.nd rfl (by first | exact Or.inl rfl | exact Or.inr rfl) (by first | exact .inl rfl | exact .inr rfl | assumption)) (@pgs_nil _) (by rfl)) (by rfl)) (by rfl)) (by rfl)) (by rfl) (by rfl)) (@pss_one _ _ _ (@ps_expr _ _ _ _ (@pe_mth _ _ _ _ _ _ _ _ _ _ _ _ _ _ _ M_Teller_heard T_Teller.cl hr (@pv _ 0 _ _ (by rfl) (by first | exact Or.inl rfl | exact Or.inr (Or.inl rfl) | exact Or.inr (Or.inr rfl)) (by decide) (by decide)) (@pa_cX _ _ _ _ _ (@pv _ 15 _ _ (by rfl) (by first | exact Or.inl rfl | exact Or.inr (Or.inl rfl) | exact Or.inr (Or.inr rfl)) (by decide) (by decide)) (@pa_nil _) (by rfl)) (by decide) (by rfl) (by rfl) (by rfl)) (by rfl))) (by intro _; rfl)) (@pss_cons _ _ _ _ _ (@ps_set _ _ 16 _ _ _ _ sc__law_turn.nd rfl (by first | exact Or.inl rfl | exact Or.inr rfl) (@pe_mth _ _ _ _ _ _ _ _ _ _ _ _ _ _ _ M_Teller_go T_Teller.cl hr (@pv _ 0 _ _ (by rfl) (by first | exact Or.inl rfl | exact Or.inr (Or.inl rfl) | exact Or.inr (Or.inr rfl)) (by decide) (by decide)) (@pa_cX _ _ _ _ _ (@pv _ 10 _ _ (by rfl) (by first | exact Or.inl rfl | exact Or.inr (Or.inl rfl) | exact Or.inr (Or.inr rfl)) (by decide) (by decide)) (@pa_nil _) (by rfl)) (by decide) (by rfl) (by rfl) (by rfl)) (by rfl) (by first | exact .inl rfl | exact .inr rfl | assumption)) (@pss_cons _ _ _ _ _ (@ps_if _ _ _ _ _ _ _ _ (@pt_cmpR _ _ _ _ _ _ _ _ op_notN (@pv _ 16 _ _ (by rfl) (by first | exact Or.inl rfl | exact Or.inr (Or.inl rfl) | exact Or.inr (Or.inr rfl)) (by decide) (by decide)) (@pe_non _ _ _) (nomark _)) (@pss_one _ _ _ (@ps_asg _ _ _ _ _ _ (@pe_op _ _ _ _ _ _ _ _ op_cat (@pe_comp _ _ _ _ _ _ _ _ _ _ _ ["_law_copy"] ["_law_turn_here"] [10] rfl _ cs__law_turn_2 (@pi_listK _ K _ _ _ (@pe_ix _ _ _ _ _ _ _ (ix_get hu1) (@pv _ 7 _ _ (by rfl) (by first | exact Or.inl rfl | exact Or.inr (Or.inl rfl) | exact Or.inr (Or.inr rfl)) (by decide) (by decide)) (@pe_int _ _ _ _) (fun _ _ => rfl)) (by rfl)) (fun _ _ _ _ => (@pg_name _ _ 0 _ cs__law_turn_2.nd rfl (by first | exact Or.inl rfl | exact Or.inr rfl) (by first | exact .inl rfl | exact .inr rfl | assumption))) (fun _ _ _ _ => (@pf_one _ _ _ (@pt_cmpR _ _ _ _ _ _ _ _ op_gt (@pe_ix _ _ _ _ _ _ _ (ix_get hu1) (@pv _ 0 _ _ (by rfl) (by first | exact Or.inl rfl | exact Or.inr (Or.inl rfl) | exact Or.inr (Or.inr rfl)) (by decide) (by decide)) (@pe_int _ _ _ _) (fun _ _ => rfl)) (@pv _ 1 _ _ (by rfl) (by first | exact Or.inl rfl | exact Or.inr (Or.inl rfl) | exact Or.inr (Or.inr rfl)) (by decide) (by decide)) (nomark _)))) (fun _ _ _ _ => (@pv _ 0 _ _ (by rfl) (by first | exact Or.inl rfl | exact Or.inr (Or.inl rfl) | exact Or.inr (Or.inr rfl)) (by decide) (by decide))) (by rfl) (by rfl) (by rfl) (by intro _; rfl)) (@pe_fn _ _ _ _ _ _ _ _ _ _ _ F__law_copies hr (@pa_cX _ _ _ _ _ (@pv _ 3 _ _ (by rfl) (by first | exact Or.inl rfl | exact Or.inr (Or.inl rfl) | exact Or.inr (Or.inr rfl)) (by decide) (by decide)) (@pa_cX _ _ _ _ _ (@pe_op _ _ _ _ _ _ _ _ op_add (@pv _ 4 _ _ (by rfl) (by first | exact Or.inl rfl | exact Or.inr (Or.inl rfl) | exact Or.inr (Or.inr rfl)) (by decide) (by decide)) (@pe_int _ _ _ _)) (@pa_cX _ _ _ _ _ (@pv _ 10 _ _ (by rfl) (by first | exact Or.inl rfl | exact Or.inr (Or.inl rfl) | exact Or.inr (Or.inr rfl)) (by decide) (by decide)) (@pa_cX _ _ _ _ _ (@pv _ 16 _ _ (by rfl) (by first | exact Or.inl rfl | exact Or.inr (Or.inl rfl) | exact Or.inr (Or.inr rfl)) (by decide) (by decide)) (@pa_nil _) (by rfl)) (by rfl)) (by rfl)) (by rfl)) (by decide) (by rfl) (by decide) (by rfl) (by rfl))) (@pg_sub _ _ _ _ _ _ _ (@pv _ 7 _ _ (by rfl) (by first | exact Or.inl rfl | exact Or.inr (Or.inl rfl) | exact Or.inr (Or.inr rfl)) (by decide) (by decide)) (@pe_int _ _ _ _) (@set_x _ hu1) (by intro _; rfl)) (by rfl) (by rfl) (by rfl))) (@pss_nil _)) (@pss_cons _ _ _ _ _ (@ps_set _ _ 17 _ _ _ _ sc__law_turn.nd rfl (by first | exact Or.inl rfl | exact Or.inr rfl) (@pe_fn _ _ _ _ _ _ _ _ _ _ _ F__law_mixed hr (@pa_cX _ _ _ _ _ (@pv _ 3 _ _ (by rfl) (by first | exact Or.inl rfl | exact Or.inr (Or.inl rfl) | exact Or.inr (Or.inr rfl)) (by decide) (by decide)) (@pa_cX _ _ _ _ _ (@pv _ 4 _ _ (by rfl) (by first | exact Or.inl rfl | exact Or.inr (Or.inl rfl) | exact Or.inr (Or.inr rfl)) (by decide) (by decide)) (@pa_nil _) (by rfl)) (by rfl)) (by decide) (by rfl) (by decide) (by rfl) (by rfl)) (by rfl) (by first | exact .inl rfl | exact .inr rfl | assumption)) (@pss_cons _ _ _ _ _ (@ps_if _ _ _ _ _ _ _ _ (@PW.pt _ _ _ (@pw_and _ _ _ _ _ _ _ (@pt_truX _ _ _ (@pe_fldK _ K _ _ _ _ (@pv _ 1 _ _ (by rfl) (by first | exact Or.inl rfl | exact Or.inr (Or.inl rfl) | exact Or.inr (Or.inr rfl)) (by decide) (by decide)) (by rfl) (by rfl)) (by intro _; rfl)) (@pw_and1 _ _ _ _ (@pt_cmpR _ _ _ _ _ _ _ _ op_eq (@pe_op _ _ _ _ _ _ _ _ op_mod (@pv _ 17 _ _ (by rfl) (by first | exact Or.inl rfl | exact Or.inr (Or.inl rfl) | exact Or.inr (Or.inr rfl)) (by decide) (by decide)) (@pe_int _ _ _ _)) (@pe_int _ _ _ _) (nomark _))))) (@pss_cons _ _ _ _ _ (@ps_set _ _ 15 _ _ _ _ sc__law_turn.nd rfl (by first | exact Or.inl rfl | exact Or.inr rfl) (@pe_mth0 _ _ _ _ _ _ _ _ _ _ _ _ M_Taker_answered T_Taker.cl hr (@pv _ 1 _ _ (by rfl) (by first | exact Or.inl rfl | exact Or.inr (Or.inl rfl) | exact Or.inr (Or.inr rfl)) (by decide) (by decide)) (by decide) (by rfl)) (by rfl) (by first | exact .inl rfl | exact .inr rfl | assumption)) (@pss_one _ _ _ (@ps_asg _ _ _ _ _ _ (@pe_op _ _ _ _ _ _ _ _ op_cat (@pe_comp _ _ _ _ _ _ _ _ _ _ _ ["_law_copy"] ["_law_turn_here"] [10] rfl _ cs__law_turn_3 (@pi_listK _ K _ _ _ (@pe_ix _ _ _ _ _ _ _ (ix_get hu1) (@pv _ 7 _ _ (by rfl) (by first | exact Or.inl rfl | exact Or.inr (Or.inl rfl) | exact Or.inr (Or.inr rfl)) (by decide) (by decide)) (@pe_int _ _ _ _) (fun _ _ => rfl)) (by rfl)) (fun _ _ _ _ => (@pg_name _ _ 0 _ cs__law_turn_3.nd rfl (by first | exact Or.inl rfl | exact Or.inr rfl) (by first | exact .inl rfl | exact .inr rfl | assumption))) (fun _ _ _ _ => (@pf_one _ _ _ (@pt_cmpR _ _ _ _ _ _ _ _ op_gt (@pe_ix _ _ _ _ _ _ _ (ix_get hu1) (@pv _ 0 _ _ (by rfl) (by first | exact Or.inl rfl | exact Or.inr (Or.inl rfl) | exact Or.inr (Or.inr rfl)) (by decide) (by decide)) (@pe_int _ _ _ _) (fun _ _ => rfl)) (@pv _ 1 _ _ (by rfl) (by first | exact Or.inl rfl | exact Or.inr (Or.inl rfl) | exact Or.inr (Or.inr rfl)) (by decide) (by decide)) (nomark _)))) (fun _ _ _ _ => (@pv _ 0 _ _ (by rfl) (by first | exact Or.inl rfl | exact Or.inr (Or.inl rfl) | exact Or.inr (Or.inr rfl)) (by decide) (by decide))) (by rfl) (by rfl) (by rfl) (by intro _; rfl)) (@pe_fn _ _ _ _ _ _ _ _ _ _ _ F__law_copies hr (@pa_cX _ _ _ _ _ (@pv _ 3 _ _ (by rfl) (by first | exact Or.inl rfl | exact Or.inr (Or.inl rfl) | exact Or.inr (Or.inr rfl)) (by decide) (by decide)) (@pa_cX _ _ _ _ _ (@pe_op _ _ _ _ _ _ _ _ op_add (@pv _ 4 _ _ (by rfl) (by first | exact Or.inl rfl | exact Or.inr (Or.inl rfl) | exact Or.inr (Or.inr rfl)) (by decide) (by decide)) (@pe_int _ _ _ _)) (@pa_cX _ _ _ _ _ (@pv _ 10 _ _ (by rfl) (by first | exact Or.inl rfl | exact Or.inr (Or.inl rfl) | exact Or.inr (Or.inr rfl)) (by decide) (by decide)) (@pa_cX _ _ _ _ _ (@pv _ 15 _ _ (by rfl) (by first | exact Or.inl rfl | exact Or.inr (Or.inl rfl) | exact Or.inr (Or.inr rfl)) (by decide) (by decide)) (@pa_nil _) (by rfl)) (by rfl)) (by rfl)) (by rfl)) (by decide) (by rfl) (by decide) (by rfl) (by rfl))) (@pg_sub _ _ _ _ _ _ _ (@pv _ 7 _ _ (by rfl) (by first | exact Or.inl rfl | exact Or.inr (Or.inl rfl) | exact Or.inr (Or.inr rfl)) (by decide) (by decide)) (@pe_int _ _ _ _) (@set_x _ hu1) (by intro _; rfl)) (by rfl) (by rfl) (by rfl)))) (@pss_nil _)) (@pss_cons _ _ _ _ _ (@ps_if _ _ _ _ _ _ _ _ (@pt_cmpR _ _ _ _ _ _ _ _ op_eq (@pe_op _ _ _ _ _ _ _ _ op_mod (@pe_op _ _ _ _ _ _ _ _ op_fdiv (@pv _ 17 _ _ (by rfl) (by first | exact Or.inl rfl | exact Or.inr (Or.inl rfl) | exact Or.inr (Or.inr rfl)) (by decide) (by decide)) (@pe_int _ _ _ _)) (@pe_int _ _ _ _)) (@pe_int _ _ _ _) (nomark _)) (@pss_one _ _ _ (@ps_expr _ _ _ _ (@pe_lm _ _ _ _ _ _ _ _ _ _ _ PySem.F.slot_list_extend PySem.F.type_list_extend mt_extend (@pv _ 8 _ _ (by rfl) (by first | exact Or.inl rfl | exact Or.inr (Or.inl rfl) | exact Or.inr (Or.inr rfl)) (by decide) (by decide)) (@pa_cX _ _ _ _ _ (@pe_mth0 _ _ _ _ _ _ _ _ _ _ _ _ M_Taker_read T_Taker.cl hr (@pv _ 1 _ _ (by rfl) (by first | exact Or.inl rfl | exact Or.inr (Or.inl rfl) | exact Or.inr (Or.inr rfl)) (by decide) (by decide)) (by decide) (by rfl)) (@pa_nil _) (by rfl)) (by rfl) (by rfl) (by rfl) (by rfl) (by rfl)) (by rfl))) (@pss_nil _)) (@pss_cons _ _ _ _ _ (@ps_asg _ _ _ _ _ _ (@pe_op _ _ _ _ _ _ _ _ op_add (@pv _ 10 _ _ (by rfl) (by first | exact Or.inl rfl | exact Or.inr (Or.inl rfl) | exact Or.inr (Or.inr rfl)) (by decide) (by decide)) (@pe_int _ _ _ _)) (@pg_sub _ _ _ _ _ _ _ (@pv _ 2 _ _ (by rfl) (by first | exact Or.inl rfl | exact Or.inr (Or.inl rfl) | exact Or.inr (Or.inr rfl)) (by decide) (by decide)) (@pe_int _ _ _ _) (@set_x _ hu1) (by intro _; rfl)) (by rfl) (by rfl) (by rfl)) (@pss_one _ _ _ (@ps_ret _ _ _ _ (@pe_fn _ _ _ _ _ _ _ _ _ _ _ F__law_right hr (@pa_cX _ _ _ _ _ (@pv _ 0 _ _ (by rfl) (by first | exact Or.inl rfl | exact Or.inr (Or.inl rfl) | exact Or.inr (Or.inr rfl)) (by decide) (by decide)) (@pa_cX _ _ _ _ _ (@pv _ 1 _ _ (by rfl) (by first | exact Or.inl rfl | exact Or.inr (Or.inl rfl) | exact Or.inr (Or.inr rfl)) (by decide) (by decide)) (@pa_cX _ _ _ _ _ (@pv _ 6 _ _ (by rfl) (by first | exact Or.inl rfl | exact Or.inr (Or.inl rfl) | exact Or.inr (Or.inr rfl)) (by decide) (by decide)) (@pa_cX _ _ _ _ _ (@pv _ 8 _ _ (by rfl) (by first | exact Or.inl rfl | exact Or.inr (Or.inl rfl) | exact Or.inr (Or.inr rfl)) (by decide) (by decide)) (@pa_cX _ _ _ _ _ (@pv _ 5 _ _ (by rfl) (by first | exact Or.inl rfl | exact Or.inr (Or.inl rfl) | exact Or.inr (Or.inr rfl)) (by decide) (by decide)) (@pa_nil _) (by rfl)) (by rfl)) (by rfl)) (by rfl)) (by rfl)) (by decide) (by rfl) (by decide) (by rfl) (by rfl)))))))))))))), ?_⟩
    -- what comes to the taker
    refine use3 (fun σ H' => ∃ (g' : Nat) (o' : Bool) (v11 : Option V), σ = tσ a cell fi W T v11 none none none none none none ∧ Wd C C2 H' a W wt st xs ds b t g' o' u R0 R1 T n k ∧ Keep (tch a) H H') ?key1 ?go1
    case go1 =>
      intro R' hR
      have es := hW.sta
      refine hW.ro.opn fun r0 r1 ys0 ys1 er er0 er1 hR0 hR1 m0 m1 => ?_
      simp (maxSteps := 1000000) only [tComp_eq, gSeqX, rGet, getO_l, tTruX, seqO_l, gCons, gNil, atI_0, Nat.reduceSub, Nat.reduceAdd, iList, List.cons.injEq, tSeq, exists_and_left, tIfS, tNot, tOp, tVar, tC, tRet, tAsg, gName, tNext, tCall, tCons, tNil, L2.start, List.map_cons, List.map_nil, List.length_cons, List.length_nil, List.replicate, List.cons_append, List.nil_append, List.getElem?_cons_zero, List.getElem?_cons_succ, List.set_cons_zero, List.set_cons_succ, Option.some.injEq, exists_eq_left', V.ref.injEq, true_and, and_assoc, List.append_nil, es, er]
      refine ⟨⟨_, SqL.of er0⟩, comp_q4 (fun q => decide (q.1 = T)) er0 hR0 (by omega) (fun v q H2 A B hv yes no => ?_) (fun p1 zs H2 n1 e1 hp1 s1 => ?_)⟩
      · obtain ⟨b, rfl, eb⟩ := hv
        have eb' : H2 b = some (.tup [.int q.1, .int q.2.1, .int q.2.2.1, .int q.2.2.2]) := eb
        simp (maxSteps := 1000000) only [rGet, getO_t, atI_0, cSt, List.drop_succ_cons, List.drop_zero, rEq_ii, exists_and_left, tTest, tOp, tVar, tC, gName, List.map_cons, List.map_nil, List.replicate, List.cons_append, List.nil_append, List.getElem?_cons_zero, List.getElem?_cons_succ, List.set_cons_zero, Option.some.injEq, exists_eq_left', V.bl.injEq, V.ref.injEq, true_and, Option.join_some, eb']
        exact ite2 (fun h => yes h) (fun h => no (by simpa using h))
      have hfl := List.length_filter_le (fun q : Q4 => decide (q.1 = T)) R0
      have W2 := hW.same s1
      refine sp_come_mk (due := p1) rfl W2.ta W2.put e1 hp1 (by omega) (fun q hq => hW.p0 q (List.mem_filter.mp hq).1) W2.o3 W2.x9 hW.ok.kn fun g' o' H3 ta3 hg k3 => ?_
      have k3' : Keep (tch a) H2 H3 := k3.mono (by simp [tch])
      exact ⟨true, rfl, iteF (hR _ _ ⟨g', o', _, rfl, W2.come k3 ta3 hg, fun b o e hb => k3' _ _ (s1 _ _ e) hb⟩)⟩
    case key1 =>
      refine opk3 fun g1 o1 v11 H1 hh_ => ?_
      have W1 := hh_.1
      have k1 := hh_.2
      clear hh_
      -- what comes to the teller
      refine use1 (fun σ H' => ∃ (b' : Nat) (v12 v13 v14 v15 : Option V), σ = tσ a cell fi W T v11 v12 v13 v14 v15 none none ∧ Wd C C2 H' a W wt st xs ds b' t g1 o1 u R0 R1 T n k ∧ Keep (tch a) H H') ?key2 ?go2
      case go2 =>
        intro R' hR
        refine W1.ro.opn fun r0 r1 ys0 ys1 er er0 er1 hR0 hR1 m0 m1 => ?_
        simp (maxSteps := 1000000) only [tFor_eq, tComp_eq, rGet, getO_l, atI_1, Nat.reduceAdd, iList, tSeq, exists_and_left, tOp, tVar, tC, tCons, tNil, tCB, List.length_cons, List.length_nil, List.getElem?_cons_zero, List.getElem?_cons_succ, Option.some.injEq, exists_eq_left', V.ref.injEq, tσ, er]
        refine ⟨⟨_, SqL.of er1⟩, comp_q4 (fun q => decide (q.1 = T)) er1 hR1 (by omega) (fun v q H2 A B hv yes no => ?_) (fun p1 zs H2 n1 e1 hp1 s1 => ?_)⟩
        · obtain ⟨b, rfl, eb⟩ := hv
          have eb' : H2 b = some (.tup [.int q.1, .int q.2.1, .int q.2.2.1, .int q.2.2.2]) := eb
          simp (maxSteps := 1000000) only [rGet, getO_t, atI_0, cSt, List.drop_succ_cons, List.drop_zero, rEq_ii, exists_and_left, tTest, tOp, tVar, tC, gName, List.map_cons, List.map_nil, List.replicate, List.cons_append, List.nil_append, List.getElem?_cons_zero, List.getElem?_cons_succ, List.set_cons_zero, Option.some.injEq, exists_eq_left', V.bl.injEq, V.ref.injEq, true_and, Option.join_some, eb']
          exact ite2 (fun h => yes h) (fun h => no (by simpa using h))
        have hfl := List.length_filter_le (fun q : Q4 => decide (q.1 = T)) R1
        refine ⟨p1, zs, _, rfl, e1, hp1, by omega, fun us0 us hper hp2 p2 n2 => ?_⟩
        generalize z2 : upd H2 p2 _ = H3
        have s2 := (new_same z2 n2).1
        have e2 := (new_same z2 n2).2
        have s12 := s1.trans s2
        have hp3 := tq_same s2 hp2
        have W3 := W1.same s12
        refine W3.te.opn fun kvs Ot hkl hkg => ?_
        have hp2n : p2 ∉ [a.x] := fun z => ne_of Ot.ins e2 (by intro z; cases z) (List.mem_singleton.mp z).symm
        have hnT : ∀ b ∈ [a.x], NoT H3 b := noT1 (.of_ins Ot.ins)
        have ob1 := W1.o1
        refine ⟨p2, rfl, ⟨_, SqL.of e2⟩, for_list (xs := us0) (fun i σ H' => ∃ (b' : Nat) (v12 v13 v14 v15 : Option V), σ = tσ a cell fi W T v11 v12 v13 v14 v15 none none ∧ TellAt C H' a.x a.dx a.pl a.pg W wt (b' : Int) (t : Int) st xs kvs ∧ b ≤ b' ∧ b' ≤ g1 ∧ Keep [a.x] H3 H') ⟨b, none, none, none, none, rfl, Ot, Nat.le_refl _, ob1, .refl⟩ ?_ ?_ ?_⟩
        · rintro i σ H4 hi ⟨b', v12, v13, v14, v15, rfl, _, _, _, k4⟩
          exact SqL.of (k4 _ _ e2 hp2n)
        · rintro i v σ H4 hv ⟨b', v12, v13, v14, v15, rfl, hT4, hb4, hg4, k4⟩
          obtain ⟨qq, hq, hvq⟩ := paired_get hp3 hv
          obtain ⟨bb, rfl, eb⟩ := Tq.keep k4 hnT hvq
          obtain ⟨gn, em, hm⟩ := W1.p1 qq (List.mem_filter.mp (hper.mem_iff.mp (List.mem_of_getElem? hq))).1
          have eb' : H4 bb = some (.tup [.int qq.1, .int qq.2.1, .int qq.2.2.1, .int (gn : Int)]) := by rw [← em]; exact eb
          have ex4 := hT4.ins
          simp (maxSteps := 1000000) only [gSeqX, seqO_t, gCons, gNil, HO.ins.injEq, Nat.reduceAdd, tMeth, List.cons.injEq, exists_and_left, tVar, gName, tCons, tNil, tDrop, List.length_cons, List.length_nil, List.getElem?_cons_zero, List.getElem?_cons_succ, List.set_cons_zero, List.set_cons_succ, Option.some.injEq, exists_eq_left', V.ref.injEq, and_true, true_and, and_assoc, List.append_nil, tσ, eb', ex4, fn_Teller_heard]
          refine ⟨a.x, a.dx, a.pl, a.pg, W, wt, b', t, (gn : Int), st, xs, kvs, rfl, hT4, fun H5 O5 k5 => ?_⟩
          have emx : max (b' : Int) (gn : Int) = ((max b' gn : Nat) : Int) := by omega
          rw [emx] at O5
          exact ⟨max b' gn, O5, by omega, by omega, k4.trans k5⟩
        · rintro σ H4 ⟨b', v12, v13, v14, v15, rfl, hT4, hb4, hg4, k4⟩
          have k4' : Keep [a.x, a.pg] H3 H4 := k4.mono (by simp)
          have k4'' : Keep (tch a) H3 H4 := k4.mono (by simp [tch])
          have := W1.o4
          exact hR _ _ ⟨b', _, _, _, _, rfl, W3.tell k4' ⟨kvs, hT4, hkl, hkg⟩ hg4 (Nat.le_refl _) W1.o3 (by omega), fun b o e hb => k4'' _ _ (s12 _ _ (k1 _ _ e hb)) hb⟩
      case key2 =>
        refine opk5 fun b2 v12 v13 v14 v15 H2 hh_ => ?_
        have W2 := hh_.1
        have k2 := hh_.2
        clear hh_
        -- one goes
        refine use1 (fun σ H' => ∃ (op : Option Nat) (t' : Nat), σ = tσ a cell fi W T v11 v12 v13 v14 v15 (some (opV op)) none ∧ Wd C C2 H' a W wt st xs ds b2 t' g1 o1 u R0 R1 T (n + 1) k ∧ (∀ p, op = some p → p < t') ∧ Keep (tch a) H H') ?key3 ?go3
        case go3 =>
          intro R' hR
          refine W2.te.opn fun kvs Ot hkl hkg => ?_
          have ex2 := Ot.ins
          have o3 := W2.o3
          have o4 := W2.o4
          simp (maxSteps := 1000000) only [HO.ins.injEq, tMeth, tSeq, exists_and_left, tVar, tAsg, gName, tCons, tNil, List.getElem?_cons_zero, List.getElem?_cons_succ, List.set_cons_zero, List.set_cons_succ, Option.some.injEq, exists_eq_left', V.ref.injEq, true_and, and_assoc, List.append_nil, tσ, ex2, fn_Teller_go]
          refine ⟨a.x, a.dx, a.pl, a.pg, W, wt, b2, t, T, st, xs, kvs, rfl, Ot, fun hb => hkg b2 (by omega), by omega, fun gg hb e hT H' O' k' => ?_, fun hno => ⟨fun h1 h2 H' O' k' => ?_, fun h1 => ?_⟩⟩
          · have k'' : Keep (tch a) H2 H' := k'.mono (by simp [tch])
            refine hR _ _ ⟨some b2, t, rfl, W2.tell k' ⟨_, O', by have := length_putK kvs (Sum.inl (b2 : Int) : Key) (.int T); omega, fun p hp => ?_⟩ W2.o1 (Nat.le_refl _) o3 o4, (fun p e => by cases e; omega), k2.trans k''⟩
            rw [valV_put]
            by_cases z : (Sum.inl (p : Int) : Key) = Sum.inl (b2 : Int)
            · rw [if_pos z]; exact ⟨T, rfl⟩
            · rw [if_neg z]; exact hkg p hp
          · have k'' : Keep (tch a) H2 H' := k'.mono (by simp [tch])
            have ec : ((t : Int) + 1) = ((t + 1 : Nat) : Int) := by omega
            rw [ec] at O'
            refine hR _ _ ⟨some t, t + 1, rfl, W2.tell k' ⟨_, O', by have := length_putK kvs (Sum.inl (t : Int) : Key) (.int T); omega, fun p hp => ?_⟩ W2.o1 (Nat.le_succ _) (by omega) (by omega), (fun p e => by cases e; omega), k2.trans k''⟩
            rw [valV_put]
            by_cases z : (Sum.inl (p : Int) : Key) = Sum.inl (t : Int)
            · rw [if_pos z]; exact ⟨T, rfl⟩
            · rw [if_neg z]; exact hkg p (by have : (p : Int) ≠ (t : Int) := fun y => z (by rw [y]); omega)
          · exact hR _ _ ⟨none, t, rfl, W2.tell .refl ⟨kvs, Ot, by omega, hkg⟩ W2.o1 (Nat.le_refl _) o3 o4, (fun p e => by cases e), k2⟩
        case key3 =>
          refine opk2 fun op t3 H3 hh_ => ?_
          have W3 := hh_.1
          have hop := hh_.2.1
          have k3 := hh_.2.2
          clear hh_
          have L0 := W3.l0
          have L1 := W3.l1
          refine use1 (fun σ H' => ∃ (R0' : List Q4), σ = tσ a cell fi W T v11 v12 v13 v14 v15 (some (opV op)) none ∧ Wd C C2 H' a W wt st xs ds b2 t3 g1 o1 u R0' R1 T (n + 1) (k + 3) ∧ R1.length ≤ k ∧ Keep (tch a) H H') ?key4 ?go4
          case go4 =>
            intro R' hR
            cases op with
            | none =>
              simp (maxSteps := 1000000) only [tComp_eq, rGet, rSetX, gSub, Nat.reduceAdd, decide_true, Bool.not_true, iList, rCat, tSeq, exists_and_left, if_false, Bool.false_eq_true, tIfS, tTest, tOp, tVar, tC, rI0, tAsg, tNext, tCall, tCons, tNil, List.length_cons, List.length_nil, List.getElem?_cons_zero, List.getElem?_cons_succ, Option.some.injEq, exists_eq_left', V.int.injEq, V.bl.injEq, V.ref.injEq, true_and, List.append_nil, tσ, opV]
              exact hR _ _ ⟨R0, rfl, W3.upk (by omega), L1, k3⟩
            | some p =>
              refine W3.ro.opn fun r0 r1 ys0 ys1 er er0 er1 hR0 hR1 m0 m1 => ?_
              simp (maxSteps := 1000000) only [tComp_eq, rGet, getO_l, rSetX, gSub, atI_0, Nat.reduceAdd, decide_false, Bool.not_false, iList, rCat, tSeq, exists_and_left, if_true, tIfS, tTest, tOp, tVar, tC, rI0, tAsg, tNext, tCall, tCons, tNil, List.length_cons, List.length_nil, List.getElem?_cons_zero, List.getElem?_cons_succ, Option.some.injEq, exists_eq_left', V.int.injEq, V.bl.injEq, V.ref.injEq, true_and, reduceCtorEq, List.append_nil, tσ, opV, er]
              refine ⟨⟨_, SqL.of er0⟩, comp_q4 (fun q => decide (T < q.1)) er0 hR0 (by omega) (fun v q H2 A B hv yes no => ?_) (fun p5 zs H5 n5 e5 hp5 s5 => ?_)⟩
              · obtain ⟨b, rfl, eb⟩ := hv
                have eb' : H2 b = some (.tup [.int q.1, .int q.2.1, .int q.2.2.1, .int q.2.2.2]) := eb
                simp (maxSteps := 1000000) only [rGet, getO_t, atI_0, cSt, List.drop_succ_cons, List.drop_zero, exists_and_left, tTest, tOp, tVar, tC, rI0, gName, List.map_cons, List.map_nil, List.replicate, List.cons_append, List.nil_append, List.getElem?_cons_zero, List.getElem?_cons_succ, List.set_cons_zero, Option.some.injEq, exists_eq_left', V.int.injEq, V.bl.injEq, V.ref.injEq, true_and, Option.join_some, eb']
                exact ite2 (fun h => yes h) (fun h => no (by simpa using h))
              refine ⟨cell, fi + 1, T, p, rfl, by omega, by omega, fun p6 ys nw H6 n6 e6 hp6 hnl hnw s6 => ?_⟩
              have e56 := s6 _ _ e5
              have er6 := s6 _ _ (s5 _ _ er)
              simp (maxSteps := 1000000) only [HO.lst.injEq, Option.some.injEq, exists_eq_left', V.ref.injEq, e56, e6]
              have hfl := List.length_filter_le (fun q : Q4 => decide (T < q.1)) R0
              have hz5 := hp5.length
              have hz6 := hp6.length
              refine ⟨by rw [sizeLine_eq]; omega, ?_⟩
              intro p7 n7
              generalize z7 : upd H6 p7 _ = H7
              have s7 := (new_same z7 n7).1
              have e7 := (new_same z7 n7).2
              have er7 := s7 _ _ er6
              simp (maxSteps := 1000000) only [ixN_20, setO_l, Option.map_some, Nat.reduceAdd, List.length_cons, List.length_nil, List.set_cons_zero, Option.some.injEq, exists_eq_left', er7]
              have s57 := (s5.trans s6).trans s7
              have W7 := W3.same s57
              have fr := (W3.same (s5.trans s6)).kn.fresh n7
              refine hR _ _ ⟨R0.filter (fun q => decide (T < q.1)) ++ nw, rfl, W7.roads rfl (road_mk er7 e7 (s57 _ _ er1) (paired_append (tq_same (s6.trans s7) hp5) (tq_same s7 hp6)) (tq_same s57 hR1) fr m1) (fun q hq => ?_) W3.p1 (by rw [List.length_append]; omega) (by omega), L1, fun b o e hb => ?_⟩
              · rcases List.mem_append.mp hq with z | z
                · exact W3.p0 q (List.mem_filter.mp z).1
                · exact ⟨p, hnw q z, hop p rfl⟩
              · rw [upd_ne (fun z => hb (by rw [z]; simp [tch]))]
                exact s57 _ _ (k3 _ _ e hb)
          case key4 =>
            refine opk1 fun R0' H4 hh_ => ?_
            have W4 := hh_.1
            have L1' := hh_.2.1
            have k4 := hh_.2.2
            clear hh_
            refine use1 (fun σ H' => ∃ (r : Int), 0 ≤ r ∧ σ = tσ a cell fi W T v11 v12 v13 v14 v15 (some (opV op)) (some (.int r)) ∧ H4 = H') ?key5 ?go5
            case go5 =>
              intro R' hR
              simp (maxSteps := 1000000) only [tSeq, tVar, tAsg, gName, tCall, tCons, tNil, List.getElem?_cons_zero, List.getElem?_cons_succ, List.set_cons_zero, List.set_cons_succ, Option.some.injEq, exists_eq_left', List.append_nil, tσ]
              exact ⟨cell, fi, rfl, f0, by omega, fun r r0 _ => hR _ _ ⟨r, r0, rfl, rfl⟩⟩
            case key5 =>
              rintro σ _ ⟨r, rr0, rfl, rfl⟩
              refine use1 (fun σ H' => ∃ (o5 : Bool) (R1' : List Q4) (v15 : Option V), σ = tσ a cell fi W T v11 v12 v13 v14 v15 (some (opV op)) (some (.int r)) ∧ Wd C C2 H' a W wt st xs ds b2 t3 g1 o5 u R0' R1' T (n + 1) (k + 3) ∧ Keep (tch a) H H') ?key6 ?go6
              case go6 =>
                intro R' hR
                refine W4.ta.opn fun tk nw0 O4 tl hl hvs en hnl hnk => ?_
                have ey4 := O4.ins
                cases o1 with
                | false =>
                  simp (maxSteps := 1000000) only [tComp_eq, rGet, tTruX, truX_b, rSetX, gSub, HO.ins.injEq, Int.reduceLT, Nat.reduceAdd, tMeth, tFld, iList, rCat, rEq_ii, tSeq, exists_and_left, if_false, Bool.false_eq_true, tIfS, tAnd, tTest, tOp, tVar, tC, rI, rI0, tAsg, gName, tNext, tCall, tCons, tNil, List.length_cons, List.length_nil, List.getElem?_cons_zero, List.getElem?_cons_succ, List.set_cons_zero, List.set_cons_succ, Option.some.injEq, exists_eq_left', V.int.injEq, V.bl.injEq, V.ref.injEq, true_and, and_assoc, List.append_nil, tσ, ey4, T_Taker.cl, T_Taker.no "owed" (by decide), fs_Taker_owed, fn_Taker_answered]
                  exact hR _ _ ⟨false, R1, _, rfl, W4, k4⟩
                | true =>
                  simp (maxSteps := 1000000) only [tComp_eq, rGet, tTruX, truX_b, rSetX, gSub, HO.ins.injEq, Int.reduceLT, Nat.reduceAdd, tMeth, tFld, iList, rCat, rEq_ii, tSeq, exists_and_left, if_false, if_true, Bool.false_eq_true, tIfS, tAnd, tTest, tOp, tVar, tC, rI, rI0, tAsg, gName, tNext, tCall, tCons, tNil, List.length_cons, List.length_nil, List.getElem?_cons_zero, List.getElem?_cons_succ, List.set_cons_zero, List.set_cons_succ, Option.some.injEq, exists_eq_left', V.int.injEq, V.bl.injEq, V.ref.injEq, true_and, and_assoc, List.append_nil, tσ, ey4, T_Taker.cl, T_Taker.no "owed" (by decide), fs_Taker_owed, fn_Taker_answered]
                  refine ite2 (fun _ => ?_) (fun _ => hR _ _ ⟨true, R1, _, rfl, W4, k4⟩)
                  refine ⟨a.y, a.dy, a.pk, W, g1, true, u, tk, rfl, O4, fun H5 O5 k5 => ?_⟩
                  have en5 := k5 _ _ en (by simp; exact Ne.symm (ne_id W4.kn.y W4.kn.pn))
                  have k5' : Keep [a.y, a.pk, a.pn] H4 H5 := k5.mono (by simp)
                  have k5'' : Keep (tch a) H4 H5 := k5.mono (by simp [tch])
                  have W5 := W4.come k5' ⟨tk, nw0, O5, tl, hl, hvs, en5, hnl, hnk⟩ (Nat.le_refl _)
                  refine W5.ro.opn fun r0 r1 ys0 ys1 er er0 er1 hR0 hR1 m0 m1 => ?_
                  simp (maxSteps := 1000000) only [getO_l, atI_1, Option.some.injEq, exists_eq_left', V.ref.injEq, er]
                  refine ⟨⟨_, SqL.of er1⟩, comp_q4 (fun q => decide (T < q.1)) er1 hR1 (by omega) (fun v q H2 A B hv yes no => ?_) (fun p6 zs H6 n6 e6 hp6 s6 => ?_)⟩
                  · obtain ⟨b, rfl, eb⟩ := hv
                    have eb' : H2 b = some (.tup [.int q.1, .int q.2.1, .int q.2.2.1, .int q.2.2.2]) := eb
                    simp (maxSteps := 1000000) only [rGet, getO_t, atI_0, cSt, List.drop_succ_cons, List.drop_zero, exists_and_left, tTest, tOp, tVar, tC, rI0, gName, List.map_cons, List.map_nil, List.replicate, List.cons_append, List.nil_append, List.getElem?_cons_zero, List.getElem?_cons_succ, List.set_cons_zero, Option.some.injEq, exists_eq_left', V.int.injEq, V.bl.injEq, V.ref.injEq, true_and, Option.join_some, eb']
                    exact ite2 (fun h => yes h) (fun h => no (by simpa using h))
                  refine ⟨cell, fi + 5, T, g1, rfl, by omega, by omega, fun p7 ys nw H7 n7 e7 hp7 hnl7 hnw s7 => ?_⟩
                  have e67 := s7 _ _ e6
                  have er7 := s7 _ _ (s6 _ _ er)
                  simp (maxSteps := 1000000) only [HO.lst.injEq, Option.some.injEq, exists_eq_left', V.ref.injEq, e67, e7]
                  have hfl := List.length_filter_le (fun q : Q4 => decide (T < q.1)) R1
                  have hz6 := hp6.length
                  have hz7 := hp7.length
                  refine ⟨by rw [sizeLine_eq]; omega, ?_⟩
                  intro p8 n8
                  generalize z8 : upd H7 p8 _ = H8
                  have s8 := (new_same z8 n8).1
                  have e8 := (new_same z8 n8).2
                  have er8 := s8 _ _ er7
                  simp (maxSteps := 1000000) only [ixN_21, setO_l, Option.map_some, Nat.reduceAdd, List.length_cons, List.length_nil, List.set_cons_zero, List.set_cons_succ, Option.some.injEq, exists_eq_left', er8]
                  have s68 := (s6.trans s7).trans s8
                  have W8 := W5.same s68
                  have fr := (W5.same (s6.trans s7)).kn.fresh n8
                  refine hR _ _ ⟨false, R1.filter (fun q => decide (T < q.1)) ++ nw, _, rfl, W8.roads rfl (road_mk er8 (s68 _ _ er0) e8 (tq_same s68 hR0) (paired_append (tq_same (s7.trans s8) hp6) (tq_same s8 hp7)) m0 fr) W5.p0 (fun q hq => ?_) W5.l0 (by rw [List.length_append]; omega), fun b o e hb => ?_⟩
                  · rcases List.mem_append.mp hq with z | z
                    · exact W5.p1 q (List.mem_filter.mp z).1
                    · exact ⟨g1, hnw q z, Nat.le_refl _⟩
                  · rw [upd_ne (fun z => hb (by rw [z]; simp [tch]))]
                    exact s68 _ _ (k5'' _ _ (k4 _ _ e hb) hb)
              case key6 =>
                clear v15
                refine opk3 fun o5 R1' v15 H5 hh_ => ?_
                have W5 := hh_.1
                have k5 := hh_.2
                clear hh_
                refine use1 (fun σ H' => ∃ (u' : Nat), σ = tσ a cell fi W T v11 v12 v13 v14 v15 (some (opV op)) (some (.int r)) ∧ Wd C C2 H' a W wt st xs ds b2 t3 g1 o5 u' R0' R1' T (n + 1) (k + 3) ∧ Keep (tch a) H H') ?key7 ?go7
                case go7 =>
                  intro R' hR
                  refine W5.ta.opn fun tk nw0 O5 tl hl hvs en hnl hnk => ?_
                  have ey5 := O5.ins
                  have x9 := W5.x9
                  simp (maxSteps := 1000000) only [tBL, rExtend, HO.ins.injEq, Int.reduceLT, tMeth, List.cons.injEq, rEq_ii, tSeq, exists_and_left, tIfS, tTest, tOp, tVar, tC, rI, tNext, tCons, tNil, tDrop, List.getElem?_cons_zero, List.getElem?_cons_succ, Option.some.injEq, exists_eq_left', V.int.injEq, V.bl.injEq, V.ref.injEq, and_true, true_and, and_assoc, List.append_nil, tσ, ey5, fn_Taker_read]
                  refine ⟨⟨by decide, by decide⟩, ite2 (fun _ => ?_) (fun _ => hR _ _ ⟨u, rfl, W5, k5⟩)⟩
                  refine ⟨_, W5.rd, a.y, a.dy, a.pk, W, g1, o5, u, tk, rfl, O5, tl, W5.o5, by omega, fun l H6 nl O6 el k6 => ?_⟩
                  have KN := W5.kn
                  have rd6 := k6 _ _ W5.rd (by simp; exact Ne.symm (ne_il KN.y KN.rd))
                  have ps6 := k6 _ _ W5.sta (by simp; exact Ne.symm (ne_il KN.y KN.ps))
                  have en6 := k6 _ _ en (by simp; exact Ne.symm (ne_id KN.y KN.pn))
                  have hgt := W5.o2
                  have htx := W5.o3
                  have e1 := thin_take (u := u) tl hvs W5.o5 (by omega)
                  have e2 : (xs.take u).length + (thin tk u g1).length ≤ sizeLine := by
                    have := congrArg List.length e1
                    simp only [List.length_append, List.length_take] at this
                    rw [sizeLine_eq, List.length_take]
                    omega
                  refine ⟨l, rfl, _, rd6, _, el, e2, ?_⟩
                  rw [e1]
                  have kU : Keep [a.rd] H6 (upd H6 a.rd (.lst (xs.take g1))) := Keep.refl.upd (.inl (.head _))
                  refine hR _ _ ⟨g1, rfl, W5.lists (fun b o e hb => ?_) ⟨tk, nw0, O6.keep kU (by simp; exact ne_il KN.y KN.rd) (by simp; exact ne_dl KN.pk KN.rd), tl, hl, hvs, kU _ _ en6 (by simp; exact ne_dl KN.pn KN.rd), hnl, hnk⟩ upd_same (kU _ _ ps6 (by simp; exact W5.ok.l0)) (Nat.le_refl _), fun b o e hb => ?_⟩
                  · simp only [List.mem_cons, List.not_mem_nil, or_false, not_or] at hb
                    exact kU _ _ (k6 _ _ e (by simp; exact hb.1)) (by simp; exact hb.2.1)
                  · have e' := k5 _ _ e hb
                    rw [upd_ne (fun z => hb (by rw [z]; simp [tch]))]
                    exact k6 _ _ e' (fun z => hb (by rw [List.mem_singleton.mp z]; simp [tch]))
                case key7 =>
                  refine opk1 fun u6 H6 hh_ => ?_
                  have W6 := hh_.1
                  have k6 := hh_.2
                  clear hh_
                  have es := W6.sta
                  simp (maxSteps := 1000000) only [ixN_54, rSetX, setO_l, gSub, Option.map_some, Nat.reduceAdd, tSeq, exists_and_left, tOp, tVar, tC, rI0, tRet, tAsg, tCall, tCons, tNil, List.length_cons, List.length_nil, List.getElem?_cons_zero, List.getElem?_cons_succ, List.set_cons_zero, List.set_cons_succ, Option.some.injEq, exists_eq_left', V.int.injEq, V.ref.injEq, List.append_nil, tσ, es]
                  have KN := W6.kn
                  generalize zU : upd H6 a.ps _ = H7
                  have kU : Keep [a.ps] H6 H7 := by rw [← zU]; exact Keep.refl.upd (.inl (.head _))
                  have es7 : H7 a.ps = some (.lst [.ref a.pp, .ref a.pr, .ref a.rd, .ref a.pn, .int (T + 1)]) := (congrFun zU.symm a.ps).trans upd_same
                  have W7 := W6.lists (kU.mono (by simp)) (W6.ta.keep kU (by simp; exact ne_il KN.y KN.ps) (by simp; exact ne_dl KN.pk KN.ps) (by simp; exact ne_dl KN.pn KN.ps)) (kU _ _ W6.rd (by simp; exact Ne.symm W6.ok.l0)) es7 W6.o5
                  obtain ⟨kvs, Ot, _⟩ := W7.te.ex
                  obtain ⟨tk, nw0, O2, _⟩ := W7.ta.ex
                  have kU' : Keep (tch a) H6 H7 := kU.mono (by simp [tch])
                  exact ⟨a.x, a.dx, a.pl, a.pg, a.y, a.dy, a.pk, a.pp, a.rd, W, wt, st, xs, ds, kvs, tk, b2, t3, g1, u6, o5, rfl, Ot, O2, W7.put, W7.rd, W7.im, W7.dp, W7.o1, W7.o2, W7.o3, W7.o4, W7.o5, W7.x9, fun H8 s8 => q b2 t3 g1 o5 u6 R0' R1' H8 (W7.same s8) fun b o e hb => s8 _ _ (kU' _ _ (k6 _ _ e hb) hb)⟩
end
end K65
namespace K65
open PySem L2
abbrev s_law : Stmt := top 21
theorem sc_law : FnScope ["_law_script", "_law_first", "_law_window", "_law_wait", "_law_teller", "_law_taker", "_law_state", "_law_k", "_law_cell", "_law_number", "_law_again", "_law_due", "_law_when", "_law_rank", "_law_j", "_law_got"] ["_law_script"] (defScope s_law) := ⟨rfl, rfl, rfl, by decide +kernel, rfl, by decide +kernel, by decide +kernel⟩
theorem cs_law_0 : CScope ["_law_copy"] ["_law_state"] { kind := .function, names := [(".0", .local), ("_law_copy", .local), ("_law_state", .free)], isGenerator := false, isCoroutine := false, more := [] } (defScope s_law) := ⟨rfl, by decide +kernel, by decide +kernel, by decide +kernel, by decide +kernel, by decide +kernel⟩
theorem cs_law_1 : CScope ["_law_copy"] ["_law_state"] { kind := .function, names := [(".0", .local), ("_law_copy", .local), ("_law_state", .free)], isGenerator := false, isCoroutine := false, more := [] } (defScope s_law) := ⟨rfl, by decide +kernel, by decide +kernel, by decide +kernel, by decide +kernel, by decide +kernel⟩
theorem cs_law_2 : CScope ["_law_copy"] ["_law_state"] { kind := .function, names := [(".0", .local), ("_law_copy", .local), ("_law_state", .free)], isGenerator := false, isCoroutine := false, more := [] } (defScope s_law) := ⟨rfl, by decide +kernel, by decide +kernel, by decide +kernel, by decide +kernel, by decide +kernel⟩
theorem cs_law_3 : CScope ["_law_copy"] ["_law_state"] { kind := .function, names := [(".0", .local), ("_law_copy", .local), ("_law_state", .free)], isGenerator := false, isCoroutine := false, more := [] } (defScope s_law) := ⟨rfl, by decide +kernel, by decide +kernel, by decide +kernel, by decide +kernel, by decide +kernel⟩
def sp_law (K : PySem.W.Frag) : Sp := fun vs H Q _ => ∃ (a : Addr) (ns : List Int), vs = [.ref a] ∧ SqL K H a (ns.map V.int) ∧ ns.length ≤ 63 ∧ ∀ H', Q (.bl true) H'
def tchL (a : Ad) : List Addr := a.pl :: a.pp :: tch a
def Al (C C2 : Addr) (H : Hp) (a : Ad) (W wt : Int) (N n k : Nat) : Prop := ∃ st xs ds b t g o u R0 R1 T, Wd C C2 H a W wt st xs ds b t g o u R0 R1 T n k ∧ xs.length ≤ N
theorem Al.opn {C C2 : Addr} {H : Hp} {a : Ad} {W wt : Int} {N n k : Nat} {G : Prop} (h : Al C C2 H a W wt N n k) (f : ∀ st xs ds b t g o u R0 R1 T, Wd C C2 H a W wt st xs ds b t g o u R0 R1 T n k → xs.length ≤ N → G) : G := by
  obtain ⟨_, _, _, _, _, _, _, _, _, _, _, h1, h2⟩ := h
  exact f _ _ _ _ _ _ _ _ _ _ _ h1 h2
def lσ (sc : Addr) (r W wt : Int) (a : Ad) (v7 v8 v9 v10 v11 v12 v13 v14 v15 : Option V) : St := [some (.ref sc), some (.int r), some (.int W), some (.int wt), some (.ref a.x), some (.ref a.y), some (.ref a.ps), v7, v8, v9, v10, v11, v12, v13, v14, v15]
theorem upd_none {H : Hp} {a b : Addr} {o : HO} (h : upd H a o b = none) : H b = none := by
  by_cases e : b = a
  · subst e; rw [upd_same] at h; cases h
  · rw [upd_ne e] at h; exact h
theorem _root_.L2.Same.fr {H H' : Hp} {b : Addr} (s : Same H H') (h : H' b = none) : H b = none := by
  cases z : H b with
  | none => rfl
  | some o => rw [s _ _ z] at h; cases h
section
variable {C C2 : Addr} {H H' : Hp} {a : Ad} {W wt T : Int} {st : Str} {xs : List V} {ds : List PyData} {b t g n u k N : Nat} {o : Bool} {R0 R1 : List Q4} {S : List Addr}
theorem Al.same (h : Al C C2 H a W wt N n k) (s : Same H H') : Al C C2 H' a W wt N n k := by
  obtain ⟨st, xs, ds, b, t, g, o, u, R0, R1, T, hW, hN⟩ := h
  exact ⟨st, xs, ds, b, t, g, o, u, R0, R1, T, hW.same s, hN⟩
theorem Wd.up {n' k' : Nat} (h : Wd C C2 H a W wt st xs ds b t g o u R0 R1 T n k) (hn : n ≤ n') (hk : k ≤ k') : Wd C C2 H a W wt st xs ds b t g o u R0 R1 T n' k' := by
  refine h.te.opn fun kvs O h1 h2 => ?_
  exact ⟨h.ok, ⟨kvs, O, Nat.le_trans h1 hn, h2⟩, h.ta, h.ro, h.put, h.rd, h.sta, h.im, h.dp, h.fst, h.o1, h.o3, h.o4, h.o5, h.W1, h.x9, h.p0, h.p1, Nat.le_trans h.l0 hk, Nat.le_trans h.l1 hk⟩
theorem Al.up {N' n' k' : Nat} (h : Al C C2 H a W wt N n k) (hN : N ≤ N') (hn : n ≤ n') (hk : k ≤ k') : Al C C2 H a W wt N' n' k' := by
  obtain ⟨st, xs, ds, b, t, g, o, u, R0, R1, T, hW, h1⟩ := h
  exact ⟨st, xs, ds, b, t, g, o, u, R0, R1, T, hW.up hn hk, Nat.le_trans h1 hN⟩
theorem Al.fresh {p : Addr} (h : Al C C2 H a W wt N n k) (hp : H p = none) : p ∉ tchL a := by
  obtain ⟨st, xs, ds, b, t, g, o, u, R0, R1, T, hW, hN⟩ := h
  obtain ⟨⟨_, _, _, e1⟩, ⟨_, _, _, e2⟩, ⟨_, e3⟩, ⟨_, e4⟩, ⟨_, e5⟩, ⟨_, e6⟩, ⟨_, e7⟩, ⟨_, e8⟩, ⟨_, e9⟩, ⟨_, e0⟩⟩ := hW.kn
  unfold tchL tch
  simp only [List.mem_cons, List.not_mem_nil, or_false, not_or]
  exact ⟨Ne.symm (ne_of_none e6 hp), Ne.symm (ne_of_none e7 hp), Ne.symm (ne_of_none e1 hp), Ne.symm (ne_of_none e3 hp), Ne.symm (ne_of_none e2 hp), Ne.symm (ne_of_none e4 hp), Ne.symm (ne_of_none e5 hp), Ne.symm (ne_of_none e8 hp), Ne.symm (ne_of_none e9 hp), Ne.symm (ne_of_none e0 hp)⟩
theorem cutV_60 (xs : List V) : (cutV xs (some 1) (some 61)).length ≤ 60 := by
  unfold cutV
  rw [List.length_take]
  have e1 : HT.sIx xs.length xs.length (some 61) = min 61 xs.length := HT.sIx_nat _ _ 61
  have e2 : HT.sIx xs.length 0 (some 1) = min 1 xs.length := HT.sIx_nat _ _ 1
  rw [e1, e2]
  omega
theorem useJ0 {t u : TS} {c : TT} {D : Ends} {σ : St} {H : Hp} (Pm : St → Hp → Prop) (key : ∀ σ' H', Pm σ' H' → t D σ' H') (go : ∀ t' : TS, (∀ σ' H', Pm σ' H' → t' D σ' H') → tIfS c t' u D σ H) : tIfS c t u D σ H := go t key
theorem at4 {a b c d e : V} : atI [a, b, c, d, e] 4 = some e := rfl
def dq (q : Q4) : PyData := .tuple [.int q.1, .int q.2.1, .int q.2.2.1, .int q.2.2.2]
theorem ims_tq {G : Hp} : ∀ {ys : List V} {R : List Q4}, Paired (Tq G) ys R → Ims G ys (R.map dq)
  | _, _, .nil => .nil
  | _, _, .cons r t => by
    obtain ⟨p, rfl, e⟩ := r
    exact .cons (.tup e (.cons (.int _) (.cons (.int _) (.cons (.int _) (.cons (.int _) .nil)))) (by simp [q4])) (ims_tq t)
theorem dq_dep {R : List Q4} : (PyData.list (R.map dq)).depth ≤ 5 := lst_dep fun d hd => by
  obtain ⟨q, _, rfl⟩ := List.mem_map.mp hd
  simp [dq, PyData.depth, PyData.depthAll]
theorem two_dep {x y : List PyData} (h1 : (PyData.list x).depth ≤ 5) (h2 : (PyData.list y).depth ≤ 5) : (PyData.list [.list x, .list y]).depth ≤ 60 := by
  refine Nat.le_trans (lst_dep (n := 5) fun d hd => ?_) (by decide)
  simp only [List.mem_cons, List.not_mem_nil, or_false] at hd
  rcases hd with rfl | rfl
  · exact h1
  · exact h2
/-- the copies that are picked, by what stands in the memory -/
theorem comp_q4s {n : Nat} {js : List Nat} {g : TG} {tc : TT} {te : TE} {σ : St} {Q : VK} {H1 : Hp} {K : PySem.W.Frag} {a : Addr} {ys : List V} {R : List Q4} (p : Q4 → Bool) (ha : H1 a = some (.lst ys)) (hp : Paired (Tq H1) ys R) (hz : R.length ≤ 1000)
    (hs : ∀ v q H (A : V → Hp → Prop) (B : Hp → Prop), Same H1 H → Tq H v q → (p q = true → A v H) → (p q = false → B H) → g v (cSt n js σ) H fun σ2 H2 => σ2.drop n = (cSt n js σ).drop n ∧ tc σ2 H2 fun b H3 => if b = true then te σ2 H3 A else B H3)
    (hq : ∀ D zs H', H1 D = none → H' D = some (.lst zs) → Paired (Tq H') zs (R.filter p) → Same H1 H' → Q (.ref D) H') : CompW n js g tc te σ Q (Itl K a) H1 := by
  have hlen := hp.length
  refine comp_list (xs := ys) (by rw [sizeLine_eq]; omega) (fun D i acc H' => H' D = some (.lst acc) ∧ acc.length ≤ i ∧ Paired (Tq H') acc ((R.take i).filter p) ∧ Same H1 H') (fun D hD => ⟨upd_same, Nat.le_refl _, .nil, Same.upd_new hD⟩) ?_ ?_ ?_
  · rintro D i acc H2 hD hi ⟨eD, hl, hI, s2⟩
    exact ⟨eD, SqL.of (s2 _ _ ha), hl⟩
  · rintro D i v acc H2 hD hx ⟨eD, hl, hI, s2⟩
    obtain ⟨q, hk, hv⟩ := paired_get hp hx
    have hv2 : Tq H2 v q := Tq.keep (S := []) s2.keep (fun _ z => nomatch z) hv
    rw [List.take_add_one, hk, Option.toList_some, List.filter_append]
    refine hs v q H2 _ _ s2 hv2 (fun h => ?_) (fun h => ?_)
    · have kD : Keep [D] H2 (upd H2 D (.lst (acc ++ [v]))) := Keep.refl.upd (.inl (.head _))
      have nT := noT1 (NoT.of_lst eD)
      refine ⟨eD, upd_same, by rw [List.length_append]; exact Nat.add_le_add_right hl 1, ?_, s2.upd hD⟩
      rw [List.filter_cons, if_pos h, List.filter_nil]
      exact paired_append (tq_keep kD nT hI) (.cons (Tq.keep kD nT hv2) .nil)
    · refine ⟨eD, eD, Nat.le_succ_of_le hl, ?_, s2⟩
      rw [List.filter_cons, if_neg (by rw [h]; decide), List.filter_nil, List.append_nil]
      exact hI
  · rintro D acc H2 hD ⟨eD, hl, hI, s2⟩
    rw [List.take_of_length_le (by omega)] at hI
    exact hq D acc H2 hD eD hI s2
/-- a thing is put -/
theorem Wd.putt {st' : Str} {v : V} {d : PyData} {kvs : List (Key × V)} (h : Wd C C2 H a W wt st xs ds b t g o u R0 R1 T n k) (kk : Keep [a.x, a.pl, a.pp] H H') (O : TellAt C H' a.x a.dx a.pl a.pg W wt (b : Int) (t : Int) st' (xs ++ [v]) kvs) (hl : kvs.length ≤ n) (hg : ∀ p : Nat, p < t → ∃ g, valV kvs (Sum.inl (p : Int)) = some (.int g)) (ep : H' a.pp = some (.lst (xs ++ [v]))) (im : Ims H' (xs ++ [v]) (ds ++ [d])) (dp : ∀ e ∈ ds ++ [d], e.depth ≤ 3) (fst : st' = "shut" ∨ st' = "open") (x9 : xs.length < 900) : Wd C C2 H' a W wt st' (xs ++ [v]) (ds ++ [d]) b t g o u R0 R1 T n k := by
  have K := h.kn
  have ok := h.ok
  have hT : ∀ c ∈ [a.x, a.pl, a.pp], NoT H c := fun c hc => by
    simp only [List.mem_cons, List.not_mem_nil, or_false] at hc
    rcases hc with rfl | rfl | rfl
    · exact K.x.t
    · exact K.pl.t
    · exact K.pp.t
  have hl9 : (xs ++ [v]).length = xs.length + 1 := by simp
  have hu : (xs ++ [v]).take u = xs.take u := by
    rw [List.take_append_of_le_length]
    have := h.o5
    have := h.o2
    have := h.o3
    omega
  refine ⟨ok, ⟨kvs, O, hl, hg⟩, (h.ta.keep kk ?_ ?_ ?_).put h.o3, h.ro.keep kk ?_ hT (fun c hc ys e => ?_), ep, by rw [hu]; exact kk _ _ h.rd (by simp only [List.mem_cons, List.not_mem_nil, or_false, not_or]; exact ⟨Ne.symm (ne_il K.x K.rd), ok.l3, ok.l6⟩), kk _ _ h.sta (by simp only [List.mem_cons, List.not_mem_nil, or_false, not_or]; exact ⟨Ne.symm (ne_il K.x K.ps), ok.l4, ok.l7⟩), im, dp, fst, h.o1, by have := h.o3; omega, h.o4, h.o5, h.W1, by omega, h.p0, h.p1, h.l0, h.l1⟩
  · simp only [List.mem_cons, List.not_mem_nil, or_false, not_or]
    exact ⟨Ne.symm ok.xy, ne_il K.y K.pl, ne_il K.y K.pp⟩
  · simp only [List.mem_cons, List.not_mem_nil, or_false, not_or]
    exact ⟨Ne.symm (ne_id K.x K.pk), ne_dl K.pk K.pl, ne_dl K.pk K.pp⟩
  · simp only [List.mem_cons, List.not_mem_nil, or_false, not_or]
    exact ⟨Ne.symm (ne_id K.x K.pn), ne_dl K.pn K.pl, ne_dl K.pn K.pp⟩
  · simp only [List.mem_cons, List.not_mem_nil, or_false, not_or]
    exact ⟨Ne.symm (ne_il K.x K.pr), ok.l2, ok.l5⟩
  · simp only [List.mem_cons, List.not_mem_nil, or_false] at hc
    rcases hc with rfl | rfl | rfl
    · exact absurd rfl (ne_il K.x ⟨_, e⟩)
    · simp
    · simp
end
section
variable {P : Program} {w : World} {K : PySem.W.Frag} {mg : Str → Option Value} {base : Heap} {C C2 : Addr}
def Pm0 (C C2 sc : Addr) (H : Hp) (σ : St) (H' : Hp) : Prop := ∃ (r W wt : Int) (a : Ad), σ = lσ sc r W wt a none none none none none none none none none ∧ 0 ≤ r ∧ (∀ c ∈ tchL a, H c = none) ∧ Al C C2 H' a W wt 0 0 0 ∧ Same H H'
set_option maxHeartbeats 8000000 in
theorem law_fn {f : Addr} {fd : FuncData} (F : Fun K "law" "law" s_law f fd) (hb : Blt mg) (hsorted : mg "sorted" = none) (T_Teller : ClsD K mg "Teller" C at_Teller) (T_Taker : ClsD K mg "Taker" C2 at_Taker) (I_Teller : OwnI P w K mg base 1 C ["self", "window", "wait"] (sp_tinit C)) (I_Taker : OwnI P w K mg base 1 C2 ["self", "window"] (sp_kinit C2)) (M_Teller_heard : OwnM P w K mg base 1 C "heard" ["self", "got"] (sp_theard C)) (M_Taker_read : OwnM P w K mg base 1 C2 "read" ["self"] (sp_read C2))
    (F__law_mixed : Own P w K mg base 1 "_law_mixed" ["_law_cell", "_law_k"] sp_mixed) (F__law_cell_at : Own P w K mg base 1 "_law_cell_at" ["_law_script", "_law_k"] (sp_cell K)) (F__law_put : Own P w K mg base 5 "_law_put" ["_law_teller", "_law_put_here", "_law_number"] (sp_lput C)) (F__law_come : Own P w K mg base 2 "_law_come" ["_law_taker", "_law_put_here", "_law_due", "_law_news"] (sp_come C2))
    (F__law_right : Own P w K mg base 2 "_law_right" ["_law_teller", "_law_taker", "_law_put_here", "_law_read", "_law_window"] (sp_right C C2)) (F__law_turn : Own P w K mg base 4 "_law_turn" ["_law_teller", "_law_taker", "_law_state", "_law_cell", "_law_first", "_law_window"] (sp_turn C C2)) : FnOk P w K mg base CX0 6 f fd ["_law_script"] (sp_law K) := by
  refine F.ok sc_law (fun vs H Q E h => ?_) (fun cdv A outer s H vs Q E hr h => ?_)
  · obtain ⟨a, ns, rfl, _⟩ := h
    rfl
  · obtain ⟨sc, ns, rfl, hS, h63, q⟩ := h
    have hu := hr.units
    have hu1 : (A.deeper (PyProof.Rows.envOfC "law" (defScope s_law) s.heap.objs.size f cdv)).units + 1 < cLine := by omega
    refine ⟨_, (@pss_cons _ _ _ _ _ (@ps_set _ _ 1 _ _ _ _ sc_law.nd rfl (by first | exact Or.inl rfl | exact Or.inr rfl) (@pe_fn _ _ _ _ _ _ _ _ _ _ _ F__law_mixed hr (@pa_cX _ _ _ _ _ (@pe_fn _ _ _ _ _ _ _ _ _ _ _ F__law_cell_at hr (@pa_cX _ _ _ _ _ (@pv _ 0 _ _ (by rfl) (by first | exact Or.inl rfl | exact Or.inr (Or.inl rfl) | exact Or.inr (Or.inr rfl)) (by decide) (by decide)) (@pa_cX _ _ _ _ _ (@pe_int _ _ _ _) (@pa_nil _) (by rfl)) (by rfl)) (by decide) (by rfl) (by decide) (by rfl) (by rfl)) (@pa_cX _ _ _ _ _ (@pe_int _ _ _ _) (@pa_nil _) (by rfl)) (by rfl)) (by decide) (by rfl) (by decide) (by rfl) (by rfl)) (by rfl) (by first | exact .inl rfl | exact .inr rfl | assumption)) (@pss_cons _ _ _ _ _ (@ps_set _ _ 2 _ _ _ _ sc_law.nd rfl (by first | exact Or.inl rfl | exact Or.inr rfl) (@pe_op _ _ _ _ _ _ _ _ op_add (@pe_int _ _ _ _) (@pe_op _ _ _ _ _ _ _ _ op_mod (@pe_op _ _ _ _ _ _ _ _ op_fdiv (@pv _ 1 _ _ (by rfl) (by first | exact Or.inl rfl | exact Or.inr (Or.inl rfl) | exact Or.inr (Or.inr rfl)) (by decide) (by decide)) (@pe_int _ _ _ _)) (@pe_ix _ _ _ _ _ _ _ (ix_get hu1) (@pe_lst _ _ _ _ (@pa_cX _ _ _ _ _ (@pe_int _ _ _ _) (@pa_cX _ _ _ _ _ (@pe_int _ _ _ _) (@pa_cX _ _ _ _ _ (@pe_int _ _ _ _) (@pa_cX _ _ _ _ _ (@pe_int _ _ _ _) (@pa_nil _) (by rfl)) (by rfl)) (by rfl)) (by rfl))) (@pe_op _ _ _ _ _ _ _ _ op_mod (@pv _ 1 _ _ (by rfl) (by first | exact Or.inl rfl | exact Or.inr (Or.inl rfl) | exact Or.inr (Or.inr rfl)) (by decide) (by decide)) (@pe_int _ _ _ _)) (fun _ _ => rfl)))) (by rfl) (by first | exact .inl rfl | exact .inr rfl | assumption)) (@pss_cons _ _ _ _ _ (@ps_set _ _ 3 _ _ _ _ sc_law.nd rfl (by first | exact Or.inl rfl | exact Or.inr rfl) (@pe_op _ _ _ _ _ _ _ _ op_add (@pe_int _ _ _ _) (@pe_op _ _ _ _ _ _ _ _ op_mod (@pe_op _ _ _ _ _ _ _ _ op_fdiv (@pv _ 1 _ _ (by rfl) (by first | exact Or.inl rfl | exact Or.inr (Or.inl rfl) | exact Or.inr (Or.inr rfl)) (by decide) (by decide)) (@pe_int _ _ _ _)) (@pe_ix _ _ _ _ _ _ _ (ix_get hu1) (@pe_lst _ _ _ _ (@pa_cX _ _ _ _ _ (@pe_int _ _ _ _) (@pa_cX _ _ _ _ _ (@pe_int _ _ _ _) (@pa_cX _ _ _ _ _ (@pe_int _ _ _ _) (@pa_cX _ _ _ _ _ (@pe_int _ _ _ _) (@pa_nil _) (by rfl)) (by rfl)) (by rfl)) (by rfl))) (@pe_op _ _ _ _ _ _ _ _ op_mod (@pe_op _ _ _ _ _ _ _ _ op_fdiv (@pv _ 1 _ _ (by rfl) (by first | exact Or.inl rfl | exact Or.inr (Or.inl rfl) | exact Or.inr (Or.inr rfl)) (by decide) (by decide)) (@pe_int _ _ _ _)) (@pe_int _ _ _ _)) (fun _ _ => rfl)))) (by rfl) (by first | exact .inl rfl | exact .inr rfl | assumption)) (@pss_cons _ _ _ _ _ (@ps_set _ _ 4 _ _ _ _ sc_law.nd rfl (by first | exact Or.inl rfl | exact Or.inr rfl) (@pe_mak _ _ _ _ _ _ _ _ _ _ _ _ I_Teller hr T_Teller.mgC (@pa_cX _ _ _ _ _ (@pv _ 2 _ _ (by rfl) (by first | exact Or.inl rfl | exact Or.inr (Or.inl rfl) | exact Or.inr (Or.inr rfl)) (by decide) (by decide)) (@pa_cX _ _ _ _ _ (@pv _ 3 _ _ (by rfl) (by first | exact Or.inl rfl | exact Or.inr (Or.inl rfl) | exact Or.inr (Or.inr rfl)) (by decide) (by decide)) (@pa_nil _) (by rfl)) (by rfl)) (by decide) (by rfl) (by decide) (by rfl) (by rfl)) (by rfl) (by first | exact .inl rfl | exact .inr rfl | assumption)) (@pss_cons _ _ _ _ _ (@ps_set _ _ 5 _ _ _ _ sc_law.nd rfl (by first | exact Or.inl rfl | exact Or.inr rfl) (@pe_mak _ _ _ _ _ _ _ _ _ _ _ _ I_Taker hr T_Taker.mgC (@pa_cX _ _ _ _ _ (@pv _ 2 _ _ (by rfl) (by first | exact Or.inl rfl | exact Or.inr (Or.inl rfl) | exact Or.inr (Or.inr rfl)) (by decide) (by decide)) (@pa_nil _) (by rfl)) (by decide) (by rfl) (by decide) (by rfl) (by rfl)) (by rfl) (by first | exact .inl rfl | exact .inr rfl | assumption)) (@pss_cons _ _ _ _ _ (@ps_set _ _ 6 _ _ _ _ sc_law.nd rfl (by first | exact Or.inl rfl | exact Or.inr rfl) (@pe_lst _ _ _ _ (@pa_cX _ _ _ _ _ (@pe_lst _ _ _ _ (@pa_nil _)) (@pa_cX _ _ _ _ _ (@pe_lst _ _ _ _ (@pa_cX _ _ _ _ _ (@pe_lst _ _ _ _ (@pa_nil _)) (@pa_cX _ _ _ _ _ (@pe_lst _ _ _ _ (@pa_nil _)) (@pa_nil _) (by rfl)) (by rfl))) (@pa_cX _ _ _ _ _ (@pe_lst _ _ _ _ (@pa_nil _)) (@pa_cX _ _ _ _ _ (@pe_dnewK _ _) (@pa_cX _ _ _ _ _ (@pe_int _ _ _ _) (@pa_nil _) (by rfl)) (by rfl)) (by rfl)) (by rfl)) (by rfl))) (by rfl) (by first | exact .inl rfl | exact .inr rfl | assumption)) (@pss_cons _ _ _ _ _ (@ps_for _ _ _ _ _ _ _ _ PassesOwn.never rfl (@pi_range1 _ _ _ _ _ _ rfl (hb _ (by decide)) (@pa_cX _ _ _ _ _ (@pe_op _ _ _ _ _ _ _ _ op_mod (@pe_op _ _ _ _ _ _ _ _ op_fdiv (@pv _ 1 _ _ (by rfl) (by first | exact Or.inl rfl | exact Or.inr (Or.inl rfl) | exact Or.inr (Or.inr rfl)) (by decide) (by decide)) (@pe_int _ _ _ _)) (@pe_int _ _ _ _)) (@pa_nil _) (by rfl)) (by rfl)) (@pg_name _ _ 7 _ sc_law.nd rfl (by first | exact Or.inl rfl | exact Or.inr rfl) (by first | exact .inl rfl | exact .inr rfl | assumption)) (@pss_one _ _ _ (@ps_expr _ _ _ _ (@pe_fn _ _ _ _ _ _ _ _ _ _ _ F__law_put hr (@pa_cX _ _ _ _ _ (@pv _ 4 _ _ (by rfl) (by first | exact Or.inl rfl | exact Or.inr (Or.inl rfl) | exact Or.inr (Or.inr rfl)) (by decide) (by decide)) (@pa_cX _ _ _ _ _ (@pe_ix _ _ _ _ _ _ _ (ix_get hu1) (@pv _ 6 _ _ (by rfl) (by first | exact Or.inl rfl | exact Or.inr (Or.inl rfl) | exact Or.inr (Or.inr rfl)) (by decide) (by decide)) (@pe_int _ _ _ _) (fun _ _ => rfl)) (@pa_cX _ _ _ _ _ (@pe_op _ _ _ _ _ _ _ _ op_fdiv (@pv _ 1 _ _ (by rfl) (by first | exact Or.inl rfl | exact Or.inr (Or.inl rfl) | exact Or.inr (Or.inr rfl)) (by decide) (by decide)) (@pe_op _ _ _ _ _ _ _ _ op_add (@pv _ 7 _ _ (by rfl) (by first | exact Or.inl rfl | exact Or.inr (Or.inl rfl) | exact Or.inr (Or.inr rfl)) (by decide) (by decide)) (@pe_int _ _ _ _))) (@pa_nil _) (by rfl)) (by rfl)) (by rfl)) (by decide) (by rfl) (by decide) (by rfl) (by rfl)) (by rfl))) (by intro _; rfl)) (@pss_cons _ _ _ _ _ (@ps_for _ _ _ _ _ _ _ _ PassesOwn.never rfl (@pi_listK _ K _ _ _ (@pe_op _ _ _ _ _ _ _ _ op_cat (@pe_slice _ _ _ _ _ _ _ _ _ _ (sl_listK K) (@pv _ 0 _ _ (by rfl) (by first | exact Or.inl rfl | exact Or.inr (Or.inl rfl) | exact Or.inr (Or.inr rfl)) (by decide) (by decide)) (@po_some _ _ _ (@pe_int _ _ _ _)) (@po_some _ _ _ (@pe_int _ _ _ _))) (@pe_lst _ _ _ _ (@pa_cX _ _ _ _ _ (@pe_int _ _ _ _) (@pa_cX _ _ _ _ _ (@pe_int _ _ _ _) (@pa_nil _) (by rfl)) (by rfl)))) (by rfl)) (@pg_name _ _ 8 _ sc_law.nd rfl (by first | exact Or.inl rfl | exact Or.inr rfl) (by first | exact .inl rfl | exact .inr rfl | assumption)) (@pss_cons _ _ _ _ _ (@ps_set _ _ 9 _ _ _ _ sc_law.nd rfl (by first | exact Or.inl rfl | exact Or.inr rfl) (@pe_fn _ _ _ _ _ _ _ _ _ _ _ F__law_mixed hr (@pa_cX _ _ _ _ _ (@pv _ 8 _ _ (by rfl) (by first | exact Or.inl rfl | exact Or.inr (Or.inl rfl) | exact Or.inr (Or.inr rfl)) (by decide) (by decide)) (@pa_cX _ _ _ _ _ (@pe_int _ _ _ _) (@pa_nil _) (by rfl)) (by rfl)) (by decide) (by rfl) (by decide) (by rfl) (by rfl)) (by rfl) (by first | exact .inl rfl | exact .inr rfl | assumption)) (@pss_cons _ _ _ _ _ (@ps_for _ _ _ _ _ _ _ _ PassesOwn.never rfl (@pi_range1 _ _ _ _ _ _ rfl (hb _ (by decide)) (@pa_cX _ _ _ _ _ (@pe_op _ _ _ _ _ _ _ _ op_mod (@pv _ 9 _ _ (by rfl) (by first | exact Or.inl rfl | exact Or.inr (Or.inl rfl) | exact Or.inr (Or.inr rfl)) (by decide) (by decide)) (@pe_int _ _ _ _)) (@pa_nil _) (by rfl)) (by rfl)) (@pg_name _ _ 7 _ sc_law.nd rfl (by first | exact Or.inl rfl | exact Or.inr rfl) (by first | exact .inl rfl | exact .inr rfl | assumption)) (@pss_one _ _ _ (@ps_expr _ _ _ _ (@pe_fn _ _ _ _ _ _ _ _ _ _ _ F__law_put hr (@pa_cX _ _ _ _ _ (@pv _ 4 _ _ (by rfl) (by first | exact Or.inl rfl | exact Or.inr (Or.inl rfl) | exact Or.inr (Or.inr rfl)) (by decide) (by decide)) (@pa_cX _ _ _ _ _ (@pe_ix _ _ _ _ _ _ _ (ix_get hu1) (@pv _ 6 _ _ (by rfl) (by first | exact Or.inl rfl | exact Or.inr (Or.inl rfl) | exact Or.inr (Or.inr rfl)) (by decide) (by decide)) (@pe_int _ _ _ _) (fun _ _ => rfl)) (@pa_cX _ _ _ _ _ (@pe_fn _ _ _ _ _ _ _ _ _ _ _ F__law_mixed hr (@pa_cX _ _ _ _ _ (@pv _ 8 _ _ (by rfl) (by first | exact Or.inl rfl | exact Or.inr (Or.inl rfl) | exact Or.inr (Or.inr rfl)) (by decide) (by decide)) (@pa_cX _ _ _ _ _ (@pe_op _ _ _ _ _ _ _ _ op_add (@pe_int _ _ _ _) (@pv _ 7 _ _ (by rfl) (by first | exact Or.inl rfl | exact Or.inr (Or.inl rfl) | exact Or.inr (Or.inr rfl)) (by decide) (by decide))) (@pa_nil _) (by rfl)) (by rfl)) (by decide) (by rfl) (by decide) (by rfl) (by rfl)) (@pa_nil _) (by rfl)) (by rfl)) (by rfl)) (by decide) (by rfl) (by decide) (by rfl) (by rfl)) (by rfl))) (by intro _; rfl)) (@pss_one _ _ _ (@ps_for _ _ _ _ _ _ _ _ PassesOwn.never rfl (@pi_range1 _ _ _ _ _ _ rfl (hb _ (by decide)) (@pa_cX _ _ _ _ _ (@pe_op _ _ _ _ _ _ _ _ op_add (@pe_int _ _ _ _) (@pe_op _ _ _ _ _ _ _ _ op_mod (@pe_op _ _ _ _ _ _ _ _ op_fdiv (@pv _ 9 _ _ (by rfl) (by first | exact Or.inl rfl | exact Or.inr (Or.inl rfl) | exact Or.inr (Or.inr rfl)) (by decide) (by decide)) (@pe_int _ _ _ _)) (@pe_int _ _ _ _))) (@pa_nil _) (by rfl)) (by rfl)) (@pg_name _ _ 10 _ sc_law.nd rfl (by first | exact Or.inl rfl | exact Or.inr rfl) (by first | exact .inl rfl | exact .inr rfl | assumption)) (@pss_one _ _ _ (@ps_if _ _ _ _ _ _ _ _ (@pt_not _ _ _ _ (@pt_truX _ _ _ (@pe_fn _ _ _ _ _ _ _ _ _ _ _ F__law_turn hr (@pa_cX _ _ _ _ _ (@pv _ 4 _ _ (by rfl) (by first | exact Or.inl rfl | exact Or.inr (Or.inl rfl) | exact Or.inr (Or.inr rfl)) (by decide) (by decide)) (@pa_cX _ _ _ _ _ (@pv _ 5 _ _ (by rfl) (by first | exact Or.inl rfl | exact Or.inr (Or.inl rfl) | exact Or.inr (Or.inr rfl)) (by decide) (by decide)) (@pa_cX _ _ _ _ _ (@pv _ 6 _ _ (by rfl) (by first | exact Or.inl rfl | exact Or.inr (Or.inl rfl) | exact Or.inr (Or.inr rfl)) (by decide) (by decide)) (@pa_cX _ _ _ _ _ (@pv _ 8 _ _ (by rfl) (by first | exact Or.inl rfl | exact Or.inr (Or.inl rfl) | exact Or.inr (Or.inr rfl)) (by decide) (by decide)) (@pa_cX _ _ _ _ _ (@pe_op _ _ _ _ _ _ _ _ op_add (@pe_int _ _ _ _) (@pe_op _ _ _ _ _ _ _ _ op_mul (@pe_int _ _ _ _) (@pv _ 10 _ _ (by rfl) (by first | exact Or.inl rfl | exact Or.inr (Or.inl rfl) | exact Or.inr (Or.inr rfl)) (by decide) (by decide)))) (@pa_cX _ _ _ _ _ (@pv _ 2 _ _ (by rfl) (by first | exact Or.inl rfl | exact Or.inr (Or.inl rfl) | exact Or.inr (Or.inr rfl)) (by decide) (by decide)) (@pa_nil _) (by rfl)) (by rfl)) (by rfl)) (by rfl)) (by rfl)) (by rfl)) (by decide) (by rfl) (by decide) (by rfl) (by rfl)) (by intro _; rfl))) (@pss_one _ _ _ (@ps_ret _ _ _ _ (@pe_bl _ _ _ _))) (@pss_nil _))) (by intro _; rfl))))) (by intro _; rfl)) (@pss_cons _ _ _ _ _ (@ps_for _ _ _ _ _ _ _ _ PassesOwn.never rfl (@pi_range1 _ _ _ _ _ _ rfl (hb _ (by decide)) (@pa_cX _ _ _ _ _ (@pe_int _ _ _ _) (@pa_nil _) (by rfl)) (by rfl)) (@pg_name _ _ 7 _ sc_law.nd rfl (by first | exact Or.inl rfl | exact Or.inr rfl) (by first | exact .inl rfl | exact .inr rfl | assumption)) (@pss_one _ _ _ (@ps_if _ _ _ _ _ _ _ _ (@pt_cmpR _ _ _ _ _ _ _ _ (op_neX hu) (@pe_ix _ _ _ _ _ _ _ (ix_get hu1) (@pv _ 6 _ _ (by rfl) (by first | exact Or.inl rfl | exact Or.inr (Or.inl rfl) | exact Or.inr (Or.inr rfl)) (by decide) (by decide)) (@pe_int _ _ _ _) (fun _ _ => rfl)) (@pe_lst _ _ _ _ (@pa_cX _ _ _ _ _ (@pe_lst _ _ _ _ (@pa_nil _)) (@pa_cX _ _ _ _ _ (@pe_lst _ _ _ _ (@pa_nil _)) (@pa_nil _) (by rfl)) (by rfl))) (nomark _)) (@pss_cons _ _ _ _ _ (@ps_asg _ _ _ _ _ _ (@pe_comp _ _ _ _ _ _ _ _ _ _ _ ["_law_copy"] ["_law_state"] [6] rfl _ cs_law_0 (@pi_listK _ K _ _ _ (@pe_ix _ _ _ _ _ _ _ (ix_get hu1) (@pe_ix _ _ _ _ _ _ _ (ix_get hu1) (@pv _ 6 _ _ (by rfl) (by first | exact Or.inl rfl | exact Or.inr (Or.inl rfl) | exact Or.inr (Or.inr rfl)) (by decide) (by decide)) (@pe_int _ _ _ _) (fun _ _ => rfl)) (@pe_int _ _ _ _) (fun _ _ => rfl)) (by rfl)) (fun _ _ _ _ => (@pg_name _ _ 0 _ cs_law_0.nd rfl (by first | exact Or.inl rfl | exact Or.inr rfl) (by first | exact .inl rfl | exact .inr rfl | assumption))) (fun _ _ _ _ => (@pf_one _ _ _ (@pt_cmpR _ _ _ _ _ _ _ _ op_ge (@pe_ix _ _ _ _ _ _ _ (ix_get hu1) (@pv _ 0 _ _ (by rfl) (by first | exact Or.inl rfl | exact Or.inr (Or.inl rfl) | exact Or.inr (Or.inr rfl)) (by decide) (by decide)) (@pe_int _ _ _ _) (fun _ _ => rfl)) (@pe_ix _ _ _ _ _ _ _ (ix_get hu1) (@pv _ 1 _ _ (by rfl) (by first | exact Or.inl rfl | exact Or.inr (Or.inl rfl) | exact Or.inr (Or.inr rfl)) (by decide) (by decide)) (@pe_int _ _ _ _) (fun _ _ => rfl)) (nomark _)))) (fun _ _ _ _ => (@pv _ 0 _ _ (by rfl) (by first | exact Or.inl rfl | exact Or.inr (Or.inl rfl) | exact Or.inr (Or.inr rfl)) (by decide) (by decide))) (by rfl) (by rfl) (by rfl) (by intro _; rfl)) (@pg_sub _ _ _ _ _ _ _ (@pe_ix _ _ _ _ _ _ _ (ix_get hu1) (@pv _ 6 _ _ (by rfl) (by first | exact Or.inl rfl | exact Or.inr (Or.inl rfl) | exact Or.inr (Or.inr rfl)) (by decide) (by decide)) (@pe_int _ _ _ _) (fun _ _ => rfl)) (@pe_int _ _ _ _) (@set_x _ hu1) (by intro _; rfl)) (by rfl) (by rfl) (by rfl)) (@pss_cons _ _ _ _ _ (@ps_asg _ _ _ _ _ _ (@pe_comp _ _ _ _ _ _ _ _ _ _ _ ["_law_copy"] ["_law_state"] [6] rfl _ cs_law_1 (@pi_listK _ K _ _ _ (@pe_ix _ _ _ _ _ _ _ (ix_get hu1) (@pe_ix _ _ _ _ _ _ _ (ix_get hu1) (@pv _ 6 _ _ (by rfl) (by first | exact Or.inl rfl | exact Or.inr (Or.inl rfl) | exact Or.inr (Or.inr rfl)) (by decide) (by decide)) (@pe_int _ _ _ _) (fun _ _ => rfl)) (@pe_int _ _ _ _) (fun _ _ => rfl)) (by rfl)) (fun _ _ _ _ => (@pg_name _ _ 0 _ cs_law_1.nd rfl (by first | exact Or.inl rfl | exact Or.inr rfl) (by first | exact .inl rfl | exact .inr rfl | assumption))) (fun _ _ _ _ => (@pf_one _ _ _ (@pt_cmpR _ _ _ _ _ _ _ _ op_ge (@pe_ix _ _ _ _ _ _ _ (ix_get hu1) (@pv _ 0 _ _ (by rfl) (by first | exact Or.inl rfl | exact Or.inr (Or.inl rfl) | exact Or.inr (Or.inr rfl)) (by decide) (by decide)) (@pe_int _ _ _ _) (fun _ _ => rfl)) (@pe_ix _ _ _ _ _ _ _ (ix_get hu1) (@pv _ 1 _ _ (by rfl) (by first | exact Or.inl rfl | exact Or.inr (Or.inl rfl) | exact Or.inr (Or.inr rfl)) (by decide) (by decide)) (@pe_int _ _ _ _) (fun _ _ => rfl)) (nomark _)))) (fun _ _ _ _ => (@pv _ 0 _ _ (by rfl) (by first | exact Or.inl rfl | exact Or.inr (Or.inl rfl) | exact Or.inr (Or.inr rfl)) (by decide) (by decide))) (by rfl) (by rfl) (by rfl) (by intro _; rfl)) (@pg_sub _ _ _ _ _ _ _ (@pe_ix _ _ _ _ _ _ _ (ix_get hu1) (@pv _ 6 _ _ (by rfl) (by first | exact Or.inl rfl | exact Or.inr (Or.inl rfl) | exact Or.inr (Or.inr rfl)) (by decide) (by decide)) (@pe_int _ _ _ _) (fun _ _ => rfl)) (@pe_int _ _ _ _) (@set_x _ hu1) (by intro _; rfl)) (by rfl) (by rfl) (by rfl)) (@pss_cons _ _ _ _ _ (@ps_setC _ _ _ _ _ _ _ _ _ _ _ 11 _ _ _ ["_law_copy"] ["_law_state"] [6] rfl sc_law.nd rfl (by first | exact Or.inl rfl | exact Or.inr rfl) _ cs_law_2 (@pi_listK _ K _ _ _ (@pe_ix _ _ _ _ _ _ _ (ix_get hu1) (@pe_ix _ _ _ _ _ _ _ (ix_get hu1) (@pv _ 6 _ _ (by rfl) (by first | exact Or.inl rfl | exact Or.inr (Or.inl rfl) | exact Or.inr (Or.inr rfl)) (by decide) (by decide)) (@pe_int _ _ _ _) (fun _ _ => rfl)) (@pe_int _ _ _ _) (fun _ _ => rfl)) (by rfl)) (fun _ _ _ _ => (@pg_name _ _ 0 _ cs_law_2.nd rfl (by first | exact Or.inl rfl | exact Or.inr rfl) (by first | exact .inl rfl | exact .inr rfl | assumption))) (fun _ _ _ _ => (@pf_one _ _ _ (@pt_cmpR _ _ _ _ _ _ _ _ op_eq (@pe_ix _ _ _ _ _ _ _ (ix_get hu1) (@pv _ 0 _ _ (by rfl) (by first | exact Or.inl rfl | exact Or.inr (Or.inl rfl) | exact Or.inr (Or.inr rfl)) (by decide) (by decide)) (@pe_int _ _ _ _) (fun _ _ => rfl)) (@pe_ix _ _ _ _ _ _ _ (ix_get hu1) (@pv _ 1 _ _ (by rfl) (by first | exact Or.inl rfl | exact Or.inr (Or.inl rfl) | exact Or.inr (Or.inr rfl)) (by decide) (by decide)) (@pe_int _ _ _ _) (fun _ _ => rfl)) (nomark _)))) (fun _ _ _ _ => (@pv _ 0 _ _ (by rfl) (by first | exact Or.inl rfl | exact Or.inr (Or.inl rfl) | exact Or.inr (Or.inr rfl)) (by decide) (by decide))) rfl (by rfl) (by rfl) (by rfl) (by first | exact .inl rfl | exact .inr rfl | assumption) (by intro _; rfl)) (@pss_cons _ _ _ _ _ (@ps_if _ _ _ _ _ _ _ _ (@pt_not _ _ _ _ (@pt_truX _ _ _ (@pe_fn _ _ _ _ _ _ _ _ _ _ _ F__law_come hr (@pa_cX _ _ _ _ _ (@pv _ 5 _ _ (by rfl) (by first | exact Or.inl rfl | exact Or.inr (Or.inl rfl) | exact Or.inr (Or.inr rfl)) (by decide) (by decide)) (@pa_cX _ _ _ _ _ (@pe_ix _ _ _ _ _ _ _ (ix_get hu1) (@pv _ 6 _ _ (by rfl) (by first | exact Or.inl rfl | exact Or.inr (Or.inl rfl) | exact Or.inr (Or.inr rfl)) (by decide) (by decide)) (@pe_int _ _ _ _) (fun _ _ => rfl)) (@pa_cX _ _ _ _ _ (@pv _ 11 _ _ (by rfl) (by first | exact Or.inl rfl | exact Or.inr (Or.inl rfl) | exact Or.inr (Or.inr rfl)) (by decide) (by decide)) (@pa_cX _ _ _ _ _ (@pe_ix _ _ _ _ _ _ _ (ix_get hu1) (@pv _ 6 _ _ (by rfl) (by first | exact Or.inl rfl | exact Or.inr (Or.inl rfl) | exact Or.inr (Or.inr rfl)) (by decide) (by decide)) (@pe_int _ _ _ _) (fun _ _ => rfl)) (@pa_nil _) (by rfl)) (by rfl)) (by rfl)) (by rfl)) (by decide) (by rfl) (by decide) (by rfl) (by rfl)) (by intro _; rfl))) (@pss_one _ _ _ (@ps_ret _ _ _ _ (@pe_bl _ _ _ _))) (@pss_nil _)) (@pss_cons _ _ _ _ _ (@ps_for _ _ _ _ _ _ _ _ PassesOwn.never rfl (@pi_listK _ K _ _ _ (@pe_callB _ _ _ _ _ _ _ _ _ call_sortU rfl hsorted bt_sorted (@pa_cX _ _ _ _ _ (@pe_comp _ _ _ _ _ _ _ _ _ _ _ ["_law_copy"] ["_law_state"] [6] rfl _ cs_law_3 (@pi_listK _ K _ _ _ (@pe_ix _ _ _ _ _ _ _ (ix_get hu1) (@pe_ix _ _ _ _ _ _ _ (ix_get hu1) (@pv _ 6 _ _ (by rfl) (by first | exact Or.inl rfl | exact Or.inr (Or.inl rfl) | exact Or.inr (Or.inr rfl)) (by decide) (by decide)) (@pe_int _ _ _ _) (fun _ _ => rfl)) (@pe_int _ _ _ _) (fun _ _ => rfl)) (by rfl)) (fun _ _ _ _ => (@pg_name _ _ 0 _ cs_law_3.nd rfl (by first | exact Or.inl rfl | exact Or.inr rfl) (by first | exact .inl rfl | exact .inr rfl | assumption))) (fun _ _ _ _ => (@pf_one _ _ _ (@pt_cmpR _ _ _ _ _ _ _ _ op_eq (@pe_ix _ _ _ _ _ _ _ (ix_get hu1) (@pv _ 0 _ _ (by rfl) (by first | exact Or.inl rfl | exact Or.inr (Or.inl rfl) | exact Or.inr (Or.inr rfl)) (by decide) (by decide)) (@pe_int _ _ _ _) (fun _ _ => rfl)) (@pe_ix _ _ _ _ _ _ _ (ix_get hu1) (@pv _ 1 _ _ (by rfl) (by first | exact Or.inl rfl | exact Or.inr (Or.inl rfl) | exact Or.inr (Or.inr rfl)) (by decide) (by decide)) (@pe_int _ _ _ _) (fun _ _ => rfl)) (nomark _)))) (fun _ _ _ _ => (@pv _ 0 _ _ (by rfl) (by first | exact Or.inl rfl | exact Or.inr (Or.inl rfl) | exact Or.inr (Or.inr rfl)) (by decide) (by decide))) (by rfl) (by rfl) (by rfl) (by intro _; rfl)) (@pa_nil _) (by rfl)) (by decide) (by decide) (by rfl) (by rfl)) (by rfl)) (@pg_seqX _ _ _ _ 4 _ rfl (@pgs_cons _ _ _ _ _ (@pg_name _ _ 12 _ sc_law.nd rfl (by first | exact Or.inl rfl | exact Or.inr rfl) (by first | exact .inl rfl | exact .inr rfl | assumption)) (@pgs_cons _ _ _ _ _ (@pg_name _ _ 13 _ sc_law.nd rfl (by first | exact Or.inl rfl | exact Or.inr rfl) (by first | exact .inl rfl | exact .inr rfl | assumption)) (@pgs_cons _ _ _ _ _ (@pg_name _ _ 14 _ sc_law.nd rfl (by first | exact Or.inl rfl | exact Or.inr rfl) (by first | exact .inl rfl | exact .inr rfl | assumption)) (@pgs_cons _ _ _ _ _ (@pg_name _ _ 15 _ sc_law.nd rfl (by first | exact Or.inl rfl | exact Or.inr rfl) (by first | exact .inl rfl | exact .inr rfl | assumption)) (@pgs_nil _) (by rfl)) (by rfl)) (by rfl)) (by rfl)) (by rfl) (by rfl)) (@pss_one _ _ _ (@ps_expr _ _ _ _ (@pe_mth _ _ _ _ _ _ _ _ _ _ _ _ _ _ _ M_Teller_heard T_Teller.cl hr (@pv _ 4 _ _ (by rfl) (by first | exact Or.inl rfl | exact Or.inr (Or.inl rfl) | exact Or.inr (Or.inr rfl)) (by decide) (by decide)) (@pa_cX _ _ _ _ _ (@pv _ 15 _ _ (by rfl) (by first | exact Or.inl rfl | exact Or.inr (Or.inl rfl) | exact Or.inr (Or.inr rfl)) (by decide) (by decide)) (@pa_nil _) (by rfl)) (by decide) (by rfl) (by rfl) (by rfl)) (by rfl))) (by intro _; rfl)) (@pss_one _ _ _ (@ps_asg _ _ _ _ _ _ (@pe_op _ _ _ _ _ _ _ _ op_add (@pe_ix _ _ _ _ _ _ _ (ix_get hu1) (@pv _ 6 _ _ (by rfl) (by first | exact Or.inl rfl | exact Or.inr (Or.inl rfl) | exact Or.inr (Or.inr rfl)) (by decide) (by decide)) (@pe_int _ _ _ _) (fun _ _ => rfl)) (@pe_int _ _ _ _)) (@pg_sub _ _ _ _ _ _ _ (@pv _ 6 _ _ (by rfl) (by first | exact Or.inl rfl | exact Or.inr (Or.inl rfl) | exact Or.inr (Or.inr rfl)) (by decide) (by decide)) (@pe_int _ _ _ _) (@set_x _ hu1) (by intro _; rfl)) (by rfl) (by rfl) (by rfl)))))))) (@pss_nil _))) (by intro _; rfl)) (@pss_cons _ _ _ _ _ (@ps_expr _ _ _ _ (@pe_lm _ _ _ _ _ _ _ _ _ _ _ PySem.F.slot_list_extend PySem.F.type_list_extend mt_extend (@pe_ix _ _ _ _ _ _ _ (ix_get hu1) (@pv _ 6 _ _ (by rfl) (by first | exact Or.inl rfl | exact Or.inr (Or.inl rfl) | exact Or.inr (Or.inr rfl)) (by decide) (by decide)) (@pe_int _ _ _ _) (fun _ _ => rfl)) (@pa_cX _ _ _ _ _ (@pe_mth0 _ _ _ _ _ _ _ _ _ _ _ _ M_Taker_read T_Taker.cl hr (@pv _ 5 _ _ (by rfl) (by first | exact Or.inl rfl | exact Or.inr (Or.inl rfl) | exact Or.inr (Or.inr rfl)) (by decide) (by decide)) (by decide) (by rfl)) (@pa_nil _) (by rfl)) (by rfl) (by rfl) (by rfl) (by rfl) (by rfl)) (by rfl)) (@pss_one _ _ _ (@ps_ret _ _ _ _ (@pe_and _ _ _ _ _ _ _ (@pe_fn _ _ _ _ _ _ _ _ _ _ _ F__law_right hr (@pa_cX _ _ _ _ _ (@pv _ 4 _ _ (by rfl) (by first | exact Or.inl rfl | exact Or.inr (Or.inl rfl) | exact Or.inr (Or.inr rfl)) (by decide) (by decide)) (@pa_cX _ _ _ _ _ (@pv _ 5 _ _ (by rfl) (by first | exact Or.inl rfl | exact Or.inr (Or.inl rfl) | exact Or.inr (Or.inr rfl)) (by decide) (by decide)) (@pa_cX _ _ _ _ _ (@pe_ix _ _ _ _ _ _ _ (ix_get hu1) (@pv _ 6 _ _ (by rfl) (by first | exact Or.inl rfl | exact Or.inr (Or.inl rfl) | exact Or.inr (Or.inr rfl)) (by decide) (by decide)) (@pe_int _ _ _ _) (fun _ _ => rfl)) (@pa_cX _ _ _ _ _ (@pe_ix _ _ _ _ _ _ _ (ix_get hu1) (@pv _ 6 _ _ (by rfl) (by first | exact Or.inl rfl | exact Or.inr (Or.inl rfl) | exact Or.inr (Or.inr rfl)) (by decide) (by decide)) (@pe_int _ _ _ _) (fun _ _ => rfl)) (@pa_cX _ _ _ _ _ (@pv _ 2 _ _ (by rfl) (by first | exact Or.inl rfl | exact Or.inr (Or.inl rfl) | exact Or.inr (Or.inr rfl)) (by decide) (by decide)) (@pa_nil _) (by rfl)) (by rfl)) (by rfl)) (by rfl)) (by rfl)) (by decide) (by rfl) (by decide) (by rfl) (by rfl)) (@pe_one _ _ _ _ _ (@pe_cmpR _ _ _ _ _ _ _ _ op_eq (@pe_callB _ _ _ _ _ _ _ _ _ call_lenX rfl (hb _ (by decide)) bt_len (@pa_cX _ _ _ _ _ (@pe_ix _ _ _ _ _ _ _ (ix_get hu1) (@pv _ 6 _ _ (by rfl) (by first | exact Or.inl rfl | exact Or.inr (Or.inl rfl) | exact Or.inr (Or.inr rfl)) (by decide) (by decide)) (@pe_int _ _ _ _) (fun _ _ => rfl)) (@pa_nil _) (by rfl)) (by decide) (by decide) (by rfl) (by rfl)) (@pe_fldK _ K _ _ _ _ (@pv _ 5 _ _ (by rfl) (by first | exact Or.inl rfl | exact Or.inr (Or.inl rfl) | exact Or.inr (Or.inr rfl)) (by decide) (by decide)) (by rfl) (by rfl)) (nomark _)))))))))))))))), ?_⟩
    refine use6 (Pm0 C C2 sc H) ?key ?go
    case go =>
      intro R' hR
      simp (maxSteps := 1000000) only [rGet, getO_l, tDNewK, Nat.reduceSub, upd_same, Int.reduceLT, Int.reduceLE, Nat.reduceAdd, ne_eq, tMake, List.cons.injEq, tSeq, exists_and_left, tOp, tVar, tC, rI, rI0, tAsg, gName, tCall, tCons, tNil, tLst, L2.start, List.map_cons, List.map_nil, List.length_cons, List.length_nil, List.replicate, List.cons_append, List.nil_append, List.getElem?_cons_zero, List.getElem?_cons_succ, List.set_cons_zero, List.set_cons_succ, Option.some.injEq, exists_eq_left', V.int.injEq, V.ref.injEq, and_true, true_and, and_assoc, List.append_nil, sp_cell, sp_mixed]
      refine ⟨ns, hS, fun _ r r0 r1 => ⟨⟨by decide, by decide⟩, by decide, ?_⟩⟩
      obtain ⟨zw, ez, zw0⟩ : ∃ zw : Int, atI [V.int 3, V.int 8, V.int 60, V.int 3] (r % 4) = some (.int zw) ∧ 0 < zw := by
        obtain ⟨v, hv, ev⟩ := atI_in (xs := [V.int 3, V.int 8, V.int 60, V.int 3]) (k := r % 4) (by omega) (by simp only [List.length_cons, List.length_nil]; omega)
        simp only [List.mem_cons, List.not_mem_nil, or_false] at hv
        rcases hv with rfl | rfl | rfl | rfl <;> exact ⟨_, ev, by decide⟩
      obtain ⟨zt, ez2, zt0⟩ : ∃ zw : Int, atI [V.int 2, V.int 5, V.int 99, V.int 1] (r / 4096 % 4) = some (.int zw) ∧ 0 < zw := by
        obtain ⟨v, hv, ev⟩ := atI_in (xs := [V.int 2, V.int 5, V.int 99, V.int 1]) (k := r / 4096 % 4) (by omega) (by simp only [List.length_cons, List.length_nil]; omega)
        simp only [List.mem_cons, List.not_mem_nil, or_false] at hv
        rcases hv with rfl | rfl | rfl | rfl <;> exact ⟨_, ev, by decide⟩
      have hz1 := Int.emod_nonneg (r / 4) (show zw ≠ 0 by omega)
      intro p1 n1
      generalize z1 : upd H p1 _ = H1
      have s1 := (new_same z1 n1).1
      have e1 := (new_same z1 n1).2
      refine ⟨_, ez, zw, rfl, zw0, ⟨by decide, by decide⟩, by decide, ?_⟩
      intro p2 n2
      generalize z2 : upd H1 p2 _ = H2
      have s2 := (new_same z2 n2).1
      have e2 := (new_same z2 n2).2
      refine ⟨⟨by decide, by decide⟩, _, ez2, zt, rfl, zt0, fun x dx hx hdx hne => ?_⟩
      refine ⟨x, dx, _, _, rfl, upd_same, fun pl pg H3 hpl hpg O3 k3 => ⟨rfl, fun y dy hy hdy hne2 => ⟨y, dy, _, rfl, upd_same, fun pk H4 hpk O4 k4 => ⟨rfl, by decide, ?_⟩⟩⟩⟩
      have s3 : Same H2 H3 := make_same hx hdx k3
      have s4 : Same H3 H4 := make_same hy hdy k4
      have hpl' := upd_none (upd_none hpl)
      have hpg' := upd_none (upd_none hpg)
      have hpk' := upd_none (upd_none hpk)
      intro p5 n5
      generalize z5 : upd H4 p5 _ = H5
      have s5 := (new_same z5 n5).1
      have e5 := (new_same z5 n5).2
      refine ⟨by decide, ?_⟩
      intro p6 n6
      generalize z6 : upd H5 p6 _ = H6
      have s6 := (new_same z6 n6).1
      have e6 := (new_same z6 n6).2
      refine ⟨by decide, ?_⟩
      intro p7 n7
      generalize z7 : upd H6 p7 _ = H7
      have s7 := (new_same z7 n7).1
      have e7 := (new_same z7 n7).2
      refine ⟨by decide, ?_⟩
      intro p8 n8
      generalize z8 : upd H7 p8 _ = H8
      have s8 := (new_same z8 n8).1
      have e8 := (new_same z8 n8).2
      refine ⟨by decide, ?_⟩
      intro p9 n9
      generalize z9 : upd H8 p9 _ = H9
      have s9 := (new_same z9 n9).1
      have e9 := (new_same z9 n9).2
      intro p10 n10
      generalize z10 : upd H9 p10 _ = H10
      have s10 := (new_same z10 n10).1
      have e10 := (new_same z10 n10).2
      refine ⟨by decide, ?_⟩
      intro p11 n11
      generalize z11 : upd H10 p11 _ = H11
      have s11 := (new_same z11 n11).1
      have e11 := (new_same z11 n11).2
      have s311 : Same H3 H11 := (((((((s4.trans s5).trans s6).trans s7).trans s8).trans s9).trans s10).trans s11)
      have s411 : Same H4 H11 := ((((((s5.trans s6).trans s7).trans s8).trans s9).trans s10).trans s11)
      have s011 : Same H H11 := (((s1.trans s2).trans s3).trans s311)
      have aok : Ad.Ok ⟨x, dx, pl, pg, y, dy, pk, p5, p8, p9, p10, p11⟩ := ⟨(ne_of_none O3.ins hy), (ne_of_none O3.dic hpk'), (ne_of_none (s9 _ _ (s8 _ _ (s7 _ _ (s6 _ _ (s5 _ _ (s4 _ _ O3.dic)))))) n10), (ne_of_none (s9 _ _ (s8 _ _ (s7 _ _ (s6 _ _ (s5 _ _ O4.dic))))) n10), (Ne.symm (ne_of_none (s4 _ _ O3.lst) n5)), (Ne.symm (ne_of_none (s7 _ _ (s6 _ _ (s5 _ _ (s4 _ _ O3.lst)))) n8)), (Ne.symm (ne_of_none (s8 _ _ (s7 _ _ (s6 _ _ (s5 _ _ (s4 _ _ O3.lst))))) n9)), (Ne.symm (ne_of_none (s10 _ _ (s9 _ _ (s8 _ _ (s7 _ _ (s6 _ _ (s5 _ _ (s4 _ _ O3.lst))))))) n11)), (Ne.symm (ne_of_none (s7 _ _ (s6 _ _ e5)) n8)), (Ne.symm (ne_of_none (s8 _ _ (s7 _ _ (s6 _ _ e5))) n9)), (Ne.symm (ne_of_none (s10 _ _ (s9 _ _ (s8 _ _ (s7 _ _ (s6 _ _ e5))))) n11)), (Ne.symm (ne_of_none e8 n9)), (Ne.symm (ne_of_none (s10 _ _ (s9 _ _ e8)) n11)), (Ne.symm (ne_of_none (s10 _ _ e9) n11))⟩
      have W0 : Wd C C2 H11 ⟨x, dx, pl, pg, y, dy, pk, p5, p8, p9, p10, p11⟩ (1 + r / 4 % zw) (1 + r / 256 % zt) "shut" [] [] 0 0 0 false 0 [] [] 0 0 0 := by
        refine ⟨aok, ⟨[], O3.same s311, Nat.le_refl _, (fun p hp => absurd hp (by omega))⟩, ⟨[], [], O4.same s411, ⟨(fun k hk => absurd hk (by omega)), rfl⟩, Nat.le_refl _, (fun p v e => by cases e), (s11 _ _ e10), Nat.le_refl _, (fun p e => absurd rfl e)⟩, ⟨p6, p7, [], [], (s11 _ _ (s10 _ _ (s9 _ _ e8))), (s11 _ _ (s10 _ _ (s9 _ _ (s8 _ _ (s7 _ _ e6))))), (s11 _ _ (s10 _ _ (s9 _ _ (s8 _ _ e7)))), .nil, .nil, (by simp only [List.mem_cons, List.not_mem_nil, or_false, not_or]; exact ⟨(Ne.symm (ne_of_none (s5 _ _ (s4 _ _ O3.lst)) n6)), (Ne.symm (ne_of_none e5 n6)), (ne_of_none (s7 _ _ e6) n8), (ne_of_none (s8 _ _ (s7 _ _ e6)) n9), (ne_of_none (s10 _ _ (s9 _ _ (s8 _ _ (s7 _ _ e6)))) n11)⟩), (by simp only [List.mem_cons, List.not_mem_nil, or_false, not_or]; exact ⟨(Ne.symm (ne_of_none (s6 _ _ (s5 _ _ (s4 _ _ O3.lst))) n7)), (Ne.symm (ne_of_none (s6 _ _ e5) n7)), (ne_of_none e7 n8), (ne_of_none (s8 _ _ e7) n9), (ne_of_none (s10 _ _ (s9 _ _ (s8 _ _ e7))) n11)⟩)⟩, (s11 _ _ (s10 _ _ (s9 _ _ (s8 _ _ (s7 _ _ (s6 _ _ e5)))))), (s11 _ _ (s10 _ _ e9)), e11, .nil, (fun d hd => nomatch hd), .inl rfl, Nat.le_refl _, Nat.le_refl _, ?_, Nat.le_refl _, ?_, by simp, (fun q hq => nomatch hq), (fun q hq => nomatch hq), Nat.le_refl _, Nat.le_refl _⟩
        · change ((0 : Nat) : Int) ≤ ((0 : Nat) : Int) + (1 + r / 4 % zw)
          omega
        · omega
      have hfr : ∀ c ∈ tchL ⟨x, dx, pl, pg, y, dy, pk, p5, p8, p9, p10, p11⟩, H c = none := fun c hc => by
        unfold tchL tch at hc
        simp only [List.mem_cons, List.not_mem_nil, or_false] at hc
        have t2 := s1.trans s2
        have t3 := t2.trans s3
        have t4 := t3.trans s4
        have t5 := t4.trans s5
        have t7 := (t5.trans s6).trans s7
        have t8 := t7.trans s8
        have t10 := (t8.trans s9).trans s10
        rcases hc with rfl | rfl | rfl | rfl | rfl | rfl | rfl | rfl | rfl | rfl
        · exact (t2.fr hpl')
        · exact (t4.fr n5)
        · exact (t2.fr hx)
        · exact (t2.fr hpg')
        · exact (t3.fr hy)
        · exact (t3.fr hpk')
        · exact ((t8.trans s9).fr n10)
        · exact (t7.fr n8)
        · exact (t8.fr n9)
        · exact (t10.fr n11)
      exact hR _ _ ⟨r, 1 + r / 4 % zw, 1 + r / 256 % zt, _, rfl, r0, hfr, ⟨_, _, _, _, _, _, _, _, _, _, _, W0, Nat.le_refl _⟩, s011⟩
    case key =>
      refine opk4 fun r W wt a H1 hh_ => ?_
      have r0 := hh_.1
      have hfr := hh_.2.1
      have l1 := hh_.2.2.1
      have s1 := hh_.2.2.2
      clear hh_
      have tS : ∀ {G1 G2 : Hp}, Same H G1 → Keep (tchL a) G1 G2 → Same H G2 := fun s k b o e => k _ _ (s _ _ e) (fun z => by rw [hfr b z] at e; cases e)
      have aPut : ∀ {G : Hp} {m : Int} {N n k : Nat} {Q' : VK} {E' : XK}, Al C C2 G a W wt N n k → N < 900 → (∀ G', Al C C2 G' a W wt (N + 1) n k → Keep (tchL a) G G' → Q' .non G') → sp_lput C [.ref a.x, .ref a.pp, .int m] G Q' E' := fun {G m N n k Q' E'} l hN hq => by
        obtain ⟨st, xs, ds, b, t, g, o, u, R0, R1, T, hW, hxN⟩ := l
        refine hW.te.opn fun kvs O hl hg => ?_
        refine ⟨a.x, a.dx, a.pl, a.pg, a.pp, W, wt, b, t, m, st, xs, ds, kvs, rfl, O, hW.put, hW.im, hW.dp, hW.fst, hW.x9, hW.ok.l1, fun st' v d G' O' ep' im' dp' fst' k' => hq G' ⟨st', _, _, b, t, g, o, u, R0, R1, T, hW.putt k' O' hl hg ep' im' dp' fst' (by omega), by simp; omega⟩ (k'.mono (by simp [tchL, tch]))⟩
      refine use1 (fun σ H' => ∃ v7, σ = lσ sc r W wt a v7 none none none none none none none none ∧ Al C C2 H' a W wt 20 0 0 ∧ Same H H') ?key1 ?go1
      case go1 =>
        intro R' hR
        simp (maxSteps := 1000000) only [tFor_eq, Int.reduceLT, iRng1, List.cons.injEq, tSeq, exists_and_left, tOp, tVar, tC, rI, tCons, tNil, List.getElem?_cons_zero, List.getElem?_cons_succ, Option.some.injEq, exists_eq_left', V.int.injEq, and_true, true_and, lσ]
        refine ⟨⟨by decide, by decide⟩, by omega, by omega, for_range (n := (r / 16384 % 20).toNat) (fun i σ H' => ∃ v7, σ = lσ sc r W wt a v7 none none none none none none none none ∧ Al C C2 H' a W wt i 0 0 ∧ Same H H') ⟨none, rfl, l1, s1⟩ ?_ ?_⟩
        · rintro i σ H2 hi ⟨v7, rfl, l2, s2⟩
          refine l2.opn fun st xs ds b t g o u R0 R1 T hW hxN => ?_
          have es := hW.sta
          simp (maxSteps := 1000000) only [rGet, getO_l, atI_0, List.cons.injEq, exists_and_left, tOp, tVar, tC, rI, rI0, gName, tCall, tCons, tNil, tDrop, List.getElem?_cons_zero, List.getElem?_cons_succ, List.set_cons_zero, List.set_cons_succ, Option.some.injEq, exists_eq_left', V.int.injEq, V.ref.injEq, and_true, true_and, List.append_nil, lσ, es]
          refine ⟨⟨by omega, by omega⟩, aPut l2 (by omega) fun H3 l3 k3 => ⟨l3, tS s2 k3⟩⟩
        · rintro σ H2 ⟨v7, rfl, l2, s2⟩
          exact hR _ _ ⟨v7, rfl, l2.up (by omega) (Nat.le_refl _) (Nat.le_refl _), s2⟩
      case key1 =>
        refine opk1 fun v7 H2 hh_ => ?_
        have l2 := hh_.1
        have s2 := hh_.2
        clear hh_
        have hS2 := s2.seq hS
        refine use1 (fun σ H' => ∃ v7 v8 v9 v10, σ = lσ sc r W wt a v7 v8 v9 v10 none none none none none ∧ Al C C2 H' a W wt 200 200 400 ∧ Same H H') ?key2 ?go2
        case go2 =>
          intro R' hR
          simp (maxSteps := 1000000) only [tFor_eq, upd_same, HO.lst.injEq, Nat.reduceAdd, iList, tSl, rSlL, tPart, rCat, tSeq, exists_and_left, tOp, tVar, tC, tCons, tNil, tLst, List.length_cons, List.length_nil, List.getElem?_cons_zero, Option.some.injEq, exists_eq_left', V.int.injEq, V.ref.injEq, lσ]
          refine ⟨_, hS2, ?_⟩
          obtain ⟨cs, hcs⟩ := cutV_map ns (some 1) (some 61)
          have lcs : cs.length ≤ 60 := by
            have h1 := congrArg List.length hcs
            have := cutV_60 (ns.map V.int)
            rw [List.length_map] at h1
            omega
          rw [hcs]
          intro p3 n3
          generalize z3 : upd H2 p3 _ = H3
          have s3 := (new_same z3 n3).1
          have e3 := (new_same z3 n3).2
          refine ⟨by decide, ?_⟩
          intro p4 n4
          generalize z4 : upd H3 p4 _ = H4
          have s4 := (new_same z4 n4).1
          have e4 := (new_same z4 n4).2
          have e34 := s4 _ _ e3
          simp (maxSteps := 1000000) only [HO.lst.injEq, Option.some.injEq, exists_eq_left', e34]
          refine ⟨by rw [sizeLine_eq, List.length_map]; omega, ?_⟩
          have ecl : cs.map V.int ++ [V.int 6, V.int 9] = (cs ++ [6, 9]).map V.int := by simp
          rw [ecl]
          intro p5 n5
          generalize z5 : upd H4 p5 _ = H5
          have s5 := (new_same z5 n5).1
          have e5 := (new_same z5 n5).2
          have l5 := ((l2.same s3).same s4).same s5
          have np5 := ((l2.same s3).same s4).fresh n5
          refine ⟨⟨_, SqL.of e5⟩, for_list (xs := (cs ++ [6, 9]).map V.int) (fun i σ H' => ∃ v7 v8 v9 v10, σ = lσ sc r W wt a v7 v8 v9 v10 none none none none none ∧ Al C C2 H' a W wt (20 + 2 * i) (2 * i) (6 * i) ∧ Same H H' ∧ H' p5 = some (.lst ((cs ++ [6, 9]).map V.int))) ⟨v7, none, none, none, rfl, l5, ((s2.trans s3).trans s4).trans s5, e5⟩ ?_ ?_ ?_⟩
          · rintro i σ H' hi ⟨_, _, _, _, rfl, _, _, e'⟩
            exact SqL.of e'
          · rintro i cv σ H6 hcv ⟨v7, v8, v9, v10, rfl, l6, s6, e6⟩
            rw [List.getElem?_map] at hcv
            obtain ⟨cc, hc, rfl⟩ := Option.map_eq_some_iff.mp hcv
            have hi62 : i < (cs ++ [6, 9]).length := (List.getElem?_eq_some_iff.mp hc).1
            rw [List.length_append, List.length_cons, List.length_singleton] at hi62
            refine use1 (fun σ H' => ∃ m : Int, 0 ≤ m ∧ σ = lσ sc r W wt a v7 (some (.int cc)) (some (.int m)) v10 none none none none none ∧ H6 = H') ?keyA ?goA
            case goA =>
              intro R'' hR''
              simp (maxSteps := 1000000) only [tSeq, tVar, tC, tAsg, gName, tCall, tCons, tNil, List.getElem?_cons_zero, List.getElem?_cons_succ, List.set_cons_zero, List.set_cons_succ, Option.some.injEq, exists_eq_left', List.append_nil, lσ]
              exact ⟨cc, 0, rfl, by decide, by decide, fun m m0 _ => hR'' _ _ ⟨m, m0, rfl, rfl⟩⟩
            case keyA =>
              rintro σ _ ⟨m, m0, rfl, rfl⟩
              refine use1 (fun σ H' => ∃ v7, σ = lσ sc r W wt a v7 (some (.int cc)) (some (.int m)) v10 none none none none none ∧ Al C C2 H' a W wt (20 + 2 * (i + 1)) (2 * i) (6 * i) ∧ Same H H' ∧ H' p5 = some (.lst ((cs ++ [6, 9]).map V.int))) ?keyB ?goB
              case goB =>
                intro R'' hR''
                simp (maxSteps := 1000000) only [tFor_eq, Int.reduceLT, iRng1, List.cons.injEq, tSeq, exists_and_left, tOp, tVar, tC, rI, tCons, tNil, List.getElem?_cons_zero, List.getElem?_cons_succ, Option.some.injEq, exists_eq_left', V.int.injEq, and_true, true_and, lσ]
                refine ⟨by omega, by omega, for_range (n := (m % 3).toNat) (fun j σ H' => ∃ v7, σ = lσ sc r W wt a v7 (some (.int cc)) (some (.int m)) v10 none none none none none ∧ Al C C2 H' a W wt (20 + 2 * i + j) (2 * i) (6 * i) ∧ Same H H' ∧ H' p5 = some (.lst ((cs ++ [6, 9]).map V.int))) ⟨v7, rfl, l6, s6, e6⟩ ?_ ?_⟩
                · rintro j σ H7 hj ⟨v7, rfl, l7, s7, e7⟩
                  refine l7.opn fun st xs ds b t g o u R0 R1 T hW hxN => ?_
                  have es := hW.sta
                  simp (maxSteps := 1000000) only [rGet, getO_l, atI_0, List.cons.injEq, exists_and_left, tOp, tVar, tC, rI0, gName, tCall, tCons, tNil, tDrop, List.getElem?_cons_zero, List.getElem?_cons_succ, List.set_cons_zero, List.set_cons_succ, Option.some.injEq, exists_eq_left', V.int.injEq, V.ref.injEq, and_true, true_and, List.append_nil, lσ, es]
                  refine ⟨cc, 1 + (0 + (j : Int)), rfl, by omega, by omega, fun mm _ _ => aPut l7 (by omega) fun H8 l8 k8 => ⟨l8, tS s7 k8, k8 _ _ e7 np5⟩⟩
                · rintro σ H7 ⟨v7, rfl, l7, s7, e7⟩
                  exact hR'' _ _ ⟨v7, rfl, l7.up (by omega) (Nat.le_refl _) (Nat.le_refl _), s7, e7⟩
              case keyB =>
                refine opk1 fun v7 H7 hh_ => ?_
                have l7 := hh_.1
                have s7 := hh_.2.1
                have e7 := hh_.2.2
                clear hh_
                simp (maxSteps := 1000000) only [tFor_eq, Int.reduceLT, iRng1, List.cons.injEq, exists_and_left, tOp, tVar, tC, rI, rI0, tCons, tNil, List.getElem?_cons_zero, List.getElem?_cons_succ, Option.some.injEq, exists_eq_left', V.int.injEq, and_true, true_and, lσ]
                refine ⟨⟨by decide, by decide⟩, by omega, by omega, for_range (n := (1 + m / 3 % 2).toNat) (fun j σ H' => ∃ v10, σ = lσ sc r W wt a v7 (some (.int cc)) (some (.int m)) v10 none none none none none ∧ Al C C2 H' a W wt (20 + 2 * (i + 1)) (2 * i + j) (6 * i + 3 * j) ∧ Same H H' ∧ H' p5 = some (.lst ((cs ++ [6, 9]).map V.int))) ⟨v10, rfl, l7, s7, e7⟩ ?_ ?_⟩
                · rintro j σ H8 hj ⟨v10, rfl, l8, s8, e8⟩
                  refine l8.opn fun st xs ds b t g o u R0 R1 T hW hxN => ?_
                  simp (maxSteps := 1000000) only [tTruX, List.cons.injEq, exists_and_left, tIfS, tNot, tOp, tVar, tC, rI, rI0, tRet, gName, tNext, tCall, tCons, tNil, List.getElem?_cons_zero, List.getElem?_cons_succ, List.set_cons_zero, List.set_cons_succ, Option.some.injEq, exists_eq_left', V.int.injEq, and_true, true_and, List.append_nil, lσ]
                  refine ⟨.inl ⟨by decide, by decide⟩, sp_turn_mk cc (3 + 9 * (0 + (j : Int))) rfl hW (by omega) (by omega) (by omega) (by omega) fun b' t' g' o' u' R0' R1' H9 W9 k9 => ⟨true, rfl, iteF ?_⟩⟩
                  have k9' : Keep (tchL a) H8 H9 := k9.mono (by simp [tchL, tch])
                  exact ⟨⟨st, xs, ds, b', t', g', o', u', R0', R1', T + 1, W9.up (by omega) (by omega), hxN⟩, tS s8 k9', k9' _ _ e8 np5⟩
                · rintro σ H8 ⟨v10, rfl, l8, s8, e8⟩
                  exact ⟨_, _, _, _, rfl, l8.up (by omega) (by omega) (by omega), s8, e8⟩
          · rintro σ H6 ⟨v7, v8, v9, v10, rfl, l6, s6, e6⟩
            rw [List.length_map, List.length_append, List.length_cons, List.length_singleton] at l6
            exact hR _ _ ⟨v7, v8, v9, v10, rfl, l6.up (by omega) (by omega) (by omega), s6⟩
        case key2 =>
          clear v7
          refine opk4 fun v7 v8 v9 v10 H3 hh_ => ?_
          have l3 := hh_.1
          have s3 := hh_.2
          clear hh_
          refine use1 (fun σ H' => ∃ v7 v11 v12 v13 v14 v15, σ = lσ sc r W wt a v7 v8 v9 v10 v11 v12 v13 v14 v15 ∧ Al C C2 H' a W wt 200 200 400 ∧ Same H H') ?key3 ?go3
          case go3 =>
            intro R' hR
            simp (maxSteps := 1000000) only [tFor_eq, Nat.reduceAdd, iRng1, List.cons.injEq, tSeq, tC, tCons, tNil, List.length_cons, List.length_nil, exists_eq_left', V.int.injEq, and_true]
            refine ⟨by decide, by decide, for_range (n := 302) (fun j σ H' => ∃ v7 v11 v12 v13 v14 v15, σ = lσ sc r W wt a v7 v8 v9 v10 v11 v12 v13 v14 v15 ∧ Al C C2 H' a W wt 200 200 400 ∧ Same H H') ⟨v7, none, none, none, none, none, rfl, l3, s3⟩ ?_ ?_⟩
            · rintro j σ H4 hj ⟨v7, v11, v12, v13, v14, v15, rfl, l4, s4⟩
              refine useJ0 (fun σ' H' => σ' = lσ sc r W wt a (some (.int (0 + (j : Int)))) v8 v9 v10 v11 v12 v13 v14 v15 ∧ Al C C2 H' a W wt 200 200 400 ∧ Same H H') ?keyA ?goA
              case goA =>
                intro t' ht'
                refine l4.opn fun st xs ds b t g o u R0 R1 T hW hxN => ?_
                have es := hW.sta
                refine hW.ro.opn fun q0 q1 ys0 ys1 er er0 er1 hR0 hR1 m0 m1 => ?_
                simp (maxSteps := 1000000) only [rGet, getO_l, atI_1, Nat.reduceAdd, List.cons.injEq, exists_and_left, tIfS, tTest, tOp, tVar, tC, tNext, tCons, tNil, tLst, List.length_cons, List.length_nil, List.getElem?_cons_zero, List.getElem?_cons_succ, List.set_cons_zero, List.set_cons_succ, Option.some.injEq, exists_eq_left', V.ref.injEq, and_true, true_and, and_assoc, lσ, es]
                refine ⟨by decide, ?_⟩
                intro p5 n5
                generalize z5 : upd H4 p5 _ = H5
                have s5 := (new_same z5 n5).1
                have e5 := (new_same z5 n5).2
                refine ⟨by decide, ?_⟩
                intro p6 n6
                generalize z6 : upd H5 p6 _ = H6
                have s6 := (new_same z6 n6).1
                have e6 := (new_same z6 n6).2
                refine ⟨by decide, ?_⟩
                intro p7 n7
                generalize z7 : upd H6 p7 _ = H7
                have s7 := (new_same z7 n7).1
                have e7 := (new_same z7 n7).2
                have s47 := (s5.trans s6).trans s7
                refine ⟨_, _, Dt.ls (s47 _ _ er) (Dts.cons (Dt.l (s47 _ _ er0) ((ims_tq hR0).same s47)) (Dts.cons (Dt.l (s47 _ _ er1) ((ims_tq hR1).same s47)) Dts.nil)), Dt.ls e7 (Dts.cons (Dt.l (s7 _ _ (s6 _ _ e5)) .nil) (Dts.cons (Dt.l (s7 _ _ e6) .nil) Dts.nil)), two_dep dq_dep dq_dep, by simp [PyData.depth, PyData.depthAll], ?_⟩
                exact ⟨_, rfl, ite2 (fun _ => ht' _ _ ⟨rfl, l4.same s47, s4.trans s47⟩) (fun _ => ⟨l4.same s47, s4.trans s47⟩)⟩
              case keyA =>
                refine opk0 fun H5 hh_ => ?_
                have l5 := hh_.1
                have s5 := hh_.2
                clear hh_
                refine use1 (fun σ' H' => σ' = lσ sc r W wt a (some (.int (0 + (j : Int)))) v8 v9 v10 v11 v12 v13 v14 v15 ∧ Al C C2 H' a W wt 200 200 400 ∧ Same H H') ?keyB ?goB
                case goB =>
                  intro t' ht'
                  refine l5.opn fun st xs ds b t g o u R0 R1 T hW hxN => ?_
                  have es := hW.sta
                  have L0 := hW.l0
                  have L1 := hW.l1
                  refine hW.ro.opn fun q0 q1 ys0 ys1 er er0 er1 hR0 hR1 m0 m1 => ?_
                  simp (maxSteps := 1000000) only [tComp_eq, rGet, getO_l, rSetX, gSub, atI_0, atI_1, iList, tSeq, exists_and_left, tOp, tVar, tC, tAsg, List.getElem?_cons_zero, List.getElem?_cons_succ, Option.some.injEq, exists_eq_left', V.ref.injEq, lσ, es, er]
                  refine ⟨⟨_, SqL.of er0⟩, comp_q4s (fun q => decide (T ≤ q.1)) er0 hR0 (by omega) (fun v q G A B sG hv yes no => ?_) (fun p6 zs H6 n6 e6 hp6 s6 => ?_)⟩
                  · obtain ⟨bb, rfl, eb⟩ := hv
                    have eb' : G bb = some (.tup [.int q.1, .int q.2.1, .int q.2.2.1, .int q.2.2.2]) := eb
                    have esG := sG _ _ es
                    simp (maxSteps := 1000000) only [rGet, getO_l, getO_t, atI_0, cSt, List.drop_succ_cons, List.drop_zero, exists_and_left, tTest, tOp, tVar, tC, rI0, gName, List.map_cons, List.map_nil, List.replicate, List.cons_append, List.nil_append, List.getElem?_cons_zero, List.getElem?_cons_succ, List.set_cons_zero, Option.some.injEq, exists_eq_left', V.int.injEq, V.bl.injEq, V.ref.injEq, true_and, Option.join_some, eb', esG, at4]
                    exact ite2 (fun h => yes h) (fun h => no (by simpa using h))
                  have es6 := s6 _ _ es
                  have er6 := s6 _ _ er
                  simp (maxSteps := 1000000) only [ixN_20, getO_l, setO_l, atI_1, Option.map_some, Nat.reduceAdd, List.length_cons, List.length_nil, List.set_cons_zero, Option.some.injEq, exists_eq_left', V.ref.injEq, es6, er6]
                  have fr := hW.kn.fresh n6
                  have W6 := hW.same s6
                  refine ht' _ _ ⟨rfl, ⟨st, xs, ds, b, t, g, o, u, R0.filter (fun q => decide (T ≤ q.1)), R1, T, W6.roads rfl (road_mk er6 e6 (s6 _ _ er1) hp6 (tq_same s6 hR1) fr m1) (fun q hq => hW.p0 q (List.mem_filter.mp hq).1) hW.p1 (Nat.le_trans (List.length_filter_le _ _) L0) L1, hxN⟩, tS (s5.trans s6) (Keep.refl.upd (.inl (by simp [tchL, tch])))⟩
                case keyB =>
                  clear l5 s5
                  refine opk0 fun H5 hh_ => ?_
                  have l5 := hh_.1
                  have s5 := hh_.2
                  clear hh_
                  refine use1 (fun σ' H' => σ' = lσ sc r W wt a (some (.int (0 + (j : Int)))) v8 v9 v10 v11 v12 v13 v14 v15 ∧ Al C C2 H' a W wt 200 200 400 ∧ Same H H') ?keyC ?goC
                  case goC =>
                    intro t' ht'
                    refine l5.opn fun st xs ds b t g o u R0 R1 T hW hxN => ?_
                    have es := hW.sta
                    have L0 := hW.l0
                    have L1 := hW.l1
                    refine hW.ro.opn fun q0 q1 ys0 ys1 er er0 er1 hR0 hR1 m0 m1 => ?_
                    simp (maxSteps := 1000000) only [tComp_eq, rGet, getO_l, rSetX, gSub, atI_1, iList, tSeq, exists_and_left, tOp, tVar, tC, tAsg, List.getElem?_cons_zero, List.getElem?_cons_succ, Option.some.injEq, exists_eq_left', V.ref.injEq, lσ, es, er]
                    refine ⟨⟨_, SqL.of er1⟩, comp_q4s (fun q => decide (T ≤ q.1)) er1 hR1 (by omega) (fun v q G A B sG hv yes no => ?_) (fun p6 zs H6 n6 e6 hp6 s6 => ?_)⟩
                    · obtain ⟨bb, rfl, eb⟩ := hv
                      have eb' : G bb = some (.tup [.int q.1, .int q.2.1, .int q.2.2.1, .int q.2.2.2]) := eb
                      have esG := sG _ _ es
                      simp (maxSteps := 1000000) only [rGet, getO_l, getO_t, atI_0, cSt, List.drop_succ_cons, List.drop_zero, exists_and_left, tTest, tOp, tVar, tC, rI0, gName, List.map_cons, List.map_nil, List.replicate, List.cons_append, List.nil_append, List.getElem?_cons_zero, List.getElem?_cons_succ, List.set_cons_zero, Option.some.injEq, exists_eq_left', V.int.injEq, V.bl.injEq, V.ref.injEq, true_and, Option.join_some, eb', esG, at4]
                      exact ite2 (fun h => yes h) (fun h => no (by simpa using h))
                    have es6 := s6 _ _ es
                    have er6 := s6 _ _ er
                    simp (maxSteps := 1000000) only [ixN_21, getO_l, setO_l, atI_1, Option.map_some, Nat.reduceAdd, List.length_cons, List.length_nil, List.set_cons_zero, List.set_cons_succ, Option.some.injEq, exists_eq_left', V.ref.injEq, es6, er6]
                    have fr := hW.kn.fresh n6
                    have W6 := hW.same s6
                    refine ht' _ _ ⟨rfl, ⟨st, xs, ds, b, t, g, o, u, R0, R1.filter (fun q => decide (T ≤ q.1)), T, W6.roads rfl (road_mk er6 (s6 _ _ er0) e6 (tq_same s6 hR0) hp6 m0 fr) hW.p0 (fun q hq => hW.p1 q (List.mem_filter.mp hq).1) L0 (Nat.le_trans (List.length_filter_le _ _) L1), hxN⟩, tS (s5.trans s6) (Keep.refl.upd (.inl (by simp [tchL, tch])))⟩
                  case keyC =>
                    clear l5 s5
                    refine opk0 fun H5 hh_ => ?_
                    have l5 := hh_.1
                    have s5 := hh_.2
                    clear hh_
                    refine use2 (fun σ' H' => ∃ v11, σ' = lσ sc r W wt a (some (.int (0 + (j : Int)))) v8 v9 v10 v11 v12 v13 v14 v15 ∧ Al C C2 H' a W wt 200 200 400 ∧ Same H H') ?keyD ?goD
                    case goD =>
                      intro t' ht'
                      refine l5.opn fun st xs ds b t g o u R0 R1 T hW hxN => ?_
                      have es := hW.sta
                      have L0 := hW.l0
                      refine hW.ro.opn fun q0 q1 ys0 ys1 er er0 er1 hR0 hR1 m0 m1 => ?_
                      simp (maxSteps := 1000000) only [tComp_eq, rGet, getO_l, tTruX, atI_0, atI_1, iList, tSeq, exists_and_left, tIfS, tNot, tOp, tVar, tC, tRet, tAsg, gName, tNext, tCall, tCons, tNil, List.getElem?_cons_zero, List.getElem?_cons_succ, List.set_cons_zero, List.set_cons_succ, Option.some.injEq, exists_eq_left', V.ref.injEq, List.append_nil, lσ, es, er]
                      refine ⟨⟨_, SqL.of er0⟩, comp_q4s (fun q => decide (q.1 = T)) er0 hR0 (by omega) (fun v q G A B sG hv yes no => ?_) (fun p6 zs H6 n6 e6 hp6 s6 => ?_)⟩
                      · obtain ⟨bb, rfl, eb⟩ := hv
                        have eb' : G bb = some (.tup [.int q.1, .int q.2.1, .int q.2.2.1, .int q.2.2.2]) := eb
                        have esG := sG _ _ es
                        simp (maxSteps := 1000000) only [rGet, getO_l, getO_t, atI_0, cSt, List.drop_succ_cons, List.drop_zero, rEq_ii, exists_and_left, tTest, tOp, tVar, tC, gName, List.map_cons, List.map_nil, List.replicate, List.cons_append, List.nil_append, List.getElem?_cons_zero, List.getElem?_cons_succ, List.set_cons_zero, Option.some.injEq, exists_eq_left', V.bl.injEq, V.ref.injEq, true_and, Option.join_some, eb', esG, at4]
                        exact ite2 (fun h => yes h) (fun h => no (by simpa using h))
                      have es6 := s6 _ _ es
                      have W6 := hW.same s6
                      simp (maxSteps := 1000000) only [getO_l, atI_0, atI_3, Option.some.injEq, exists_eq_left', es6]
                      have hfl := List.length_filter_le (fun q : Q4 => decide (q.1 = T)) R0
                      refine sp_come_mk (due := p6) rfl W6.ta W6.put e6 hp6 (by omega) (fun q hq => hW.p0 q (List.mem_filter.mp hq).1) W6.o3 W6.x9 hW.ok.kn fun g' o' H7 ta7 hg k7 => ⟨true, rfl, iteF (ht' _ _ ⟨_, rfl, ⟨st, xs, ds, b, t, g', o', u, R0, R1, T, W6.come k7 ta7 hg, hxN⟩, tS (s5.trans s6) (k7.mono (by simp [tchL, tch]))⟩)⟩
                    case keyD =>
                      clear l5 s5 v11
                      refine opk1 fun v11 H5 hh_ => ?_
                      have l5 := hh_.1
                      have s5 := hh_.2
                      clear hh_
                      refine use1 (fun σ' H' => ∃ v12 v13 v14 v15, σ' = lσ sc r W wt a (some (.int (0 + (j : Int)))) v8 v9 v10 v11 v12 v13 v14 v15 ∧ Al C C2 H' a W wt 200 200 400 ∧ Same H H') ?keyE ?goE
                      case goE =>
                        intro t' ht'
                        refine l5.opn fun st xs ds b t g o u R0 R1 T hW hxN => ?_
                        have es := hW.sta
                        have L1 := hW.l1
                        refine hW.ro.opn fun q0 q1 ys0 ys1 er er0 er1 hR0 hR1 m0 m1 => ?_
                        simp (maxSteps := 1000000) only [tFor_eq, tComp_eq, rGet, getO_l, atI_1, iList, tSeq, exists_and_left, tOp, tVar, tC, tCons, tNil, tCB, List.getElem?_cons_zero, List.getElem?_cons_succ, Option.some.injEq, exists_eq_left', V.ref.injEq, lσ, es, er]
                        refine ⟨⟨_, SqL.of er1⟩, comp_q4s (fun q => decide (q.1 = T)) er1 hR1 (by omega) (fun v q G A B sG hv yes no => ?_) (fun p1 zs H6 n1 e1 hp1 s6 => ?_)⟩
                        · obtain ⟨bb, rfl, eb⟩ := hv
                          have eb' : G bb = some (.tup [.int q.1, .int q.2.1, .int q.2.2.1, .int q.2.2.2]) := eb
                          have esG := sG _ _ es
                          simp (maxSteps := 1000000) only [rGet, getO_l, getO_t, atI_0, cSt, List.drop_succ_cons, List.drop_zero, rEq_ii, exists_and_left, tTest, tOp, tVar, tC, gName, List.map_cons, List.map_nil, List.replicate, List.cons_append, List.nil_append, List.getElem?_cons_zero, List.getElem?_cons_succ, List.set_cons_zero, Option.some.injEq, exists_eq_left', V.bl.injEq, V.ref.injEq, true_and, Option.join_some, eb', esG, at4]
                          exact ite2 (fun h => yes h) (fun h => no (by simpa using h))
                        have hfl := List.length_filter_le (fun q : Q4 => decide (q.1 = T)) R1
                        refine ⟨p1, zs, _, rfl, e1, hp1, by omega, fun us0 us hper hp2 p2 n2 => ?_⟩
                        generalize zz : upd H6 p2 _ = H7
                        have s7 := (new_same zz n2).1
                        have e7 := (new_same zz n2).2
                        have s67 := s6.trans s7
                        have hp3 := tq_same s7 hp2
                        have W7 := hW.same s67
                        refine W7.te.opn fun kvs Ot hkl hkg => ?_
                        have hp2n : p2 ∉ [a.x] := fun z => ne_of Ot.ins e7 (by intro z; cases z) (List.mem_singleton.mp z).symm
                        have hnT : ∀ b ∈ [a.x], NoT H7 b := noT1 (.of_ins Ot.ins)
                        have ob1 := hW.o1
                        have ob4 := hW.o4
                        refine ⟨p2, rfl, ⟨_, SqL.of e7⟩, for_list (xs := us0) (fun i σ H' => ∃ (b' : Nat) (v12 v13 v14 v15 : Option V), σ = lσ sc r W wt a (some (.int (0 + (j : Int)))) v8 v9 v10 v11 v12 v13 v14 v15 ∧ TellAt C H' a.x a.dx a.pl a.pg W wt (b' : Int) (t : Int) st xs kvs ∧ b ≤ b' ∧ b' ≤ g ∧ Keep [a.x] H7 H') ⟨b, v12, v13, v14, v15, rfl, Ot, Nat.le_refl _, ob1, .refl⟩ ?_ ?_ ?_⟩
                        · rintro i σ H8 hi ⟨b', v12, v13, v14, v15, rfl, _, _, _, k8⟩
                          exact SqL.of (k8 _ _ e7 hp2n)
                        · rintro i v σ H8 hv ⟨b', v12, v13, v14, v15, rfl, hT8, hb8, hg8, k8⟩
                          obtain ⟨qq, hq, hvq⟩ := paired_get hp3 hv
                          obtain ⟨bb, rfl, eb⟩ := Tq.keep k8 hnT hvq
                          obtain ⟨gn, em, hm⟩ := hW.p1 qq (List.mem_filter.mp (hper.mem_iff.mp (List.mem_of_getElem? hq))).1
                          have eb' : H8 bb = some (.tup [.int qq.1, .int qq.2.1, .int qq.2.2.1, .int (gn : Int)]) := by rw [← em]; exact eb
                          have ex8 := hT8.ins
                          simp (maxSteps := 1000000) only [gSeqX, seqO_t, gCons, gNil, HO.ins.injEq, Nat.reduceAdd, tMeth, List.cons.injEq, exists_and_left, tVar, gName, tCons, tNil, tDrop, List.length_cons, List.length_nil, List.getElem?_cons_zero, List.getElem?_cons_succ, List.set_cons_zero, List.set_cons_succ, Option.some.injEq, exists_eq_left', V.ref.injEq, and_true, true_and, and_assoc, List.append_nil, lσ, eb', ex8, fn_Teller_heard]
                          refine ⟨a.x, a.dx, a.pl, a.pg, W, wt, b', t, (gn : Int), st, xs, kvs, rfl, hT8, fun H9 O9 k9 => ?_⟩
                          have emx : max (b' : Int) (gn : Int) = ((max b' gn : Nat) : Int) := by omega
                          rw [emx] at O9
                          exact ⟨max b' gn, O9, by omega, by omega, k8.trans k9⟩
                        · rintro σ H8 ⟨b', v12, v13, v14, v15, rfl, hT8, hb8, hg8, k8⟩
                          have k8' : Keep [a.x, a.pg] H7 H8 := k8.mono (by simp)
                          exact ht' _ _ ⟨_, _, _, _, rfl, ⟨st, xs, ds, b', t, g, o, u, R0, R1, T, W7.tell k8' ⟨kvs, hT8, hkl, hkg⟩ hg8 (Nat.le_refl _) hW.o3 (by omega), hxN⟩, tS (s5.trans s67) (k8.mono (by simp [tchL, tch]))⟩
                      case keyE =>
                        clear l5 s5 v12 v13 v14 v15
                        refine opk4 fun v12 v13 v14 v15 H5 hh_ => ?_
                        have l5 := hh_.1
                        have s5 := hh_.2
                        clear hh_
                        refine l5.opn fun st xs ds b t g o u R0 R1 T hW hxN => ?_
                        have es := hW.sta
                        simp (maxSteps := 1000000) only [ixN_54, rGet, getO_l, rSetX, setO_l, gSub, Option.map_some, Nat.reduceAdd, List.cons.injEq, exists_and_left, tOp, tVar, tC, rI0, tAsg, List.length_cons, List.length_nil, List.getElem?_cons_zero, List.getElem?_cons_succ, List.set_cons_zero, List.set_cons_succ, Option.some.injEq, exists_eq_left', V.int.injEq, V.ref.injEq, and_true, true_and, and_assoc, lσ, es, at4]
                        have KN := hW.kn
                        generalize zU : upd H5 a.ps _ = H7
                        have kU : Keep [a.ps] H5 H7 := by rw [← zU]; exact Keep.refl.upd (.inl (.head _))
                        have es7 : H7 a.ps = some (.lst [.ref a.pp, .ref a.pr, .ref a.rd, .ref a.pn, .int (T + 1)]) := (congrFun zU.symm a.ps).trans upd_same
                        have W7 := hW.lists (kU.mono (by simp)) (hW.ta.keep kU (by simp; exact ne_il KN.y KN.ps) (by simp; exact ne_dl KN.pk KN.ps) (by simp; exact ne_dl KN.pn KN.ps)) (kU _ _ hW.rd (by simp; exact Ne.symm hW.ok.l0)) es7 hW.o5
                        exact ⟨⟨st, xs, ds, b, t, g, o, u, R0, R1, T + 1, W7, hxN⟩, tS s5 (kU.mono (by simp [tchL, tch]))⟩
            · rintro σ H4 ⟨v7, v11, v12, v13, v14, v15, rfl, l4, s4⟩
              exact hR _ _ ⟨v7, v11, v12, v13, v14, v15, rfl, l4, s4⟩
          case key3 =>
            clear v7
            refine opk6 fun v7 v11 v12 v13 v14 v15 H4 hh_ => ?_
            have l4 := hh_.1
            have s4 := hh_.2
            clear hh_
            refine l4.opn fun st xs ds b t g o u R0 R1 T hW hxN => ?_
            have es := hW.sta
            refine hW.ta.opn fun tk nw0 O5 tl hl hvs en hnl hnk => ?_
            have ey5 := O5.ins
            have x9 := hW.x9
            simp (maxSteps := 1000000) only [tBL, rExtend, rGet, getO_l, rLenX, atI_2, HO.ins.injEq, tMeth, tFld, List.cons.injEq, tSeq, exists_and_left, tOp, tVar, tC, tRet, tAndV, tCall, tCons, tNil, tCB, tDrop, List.getElem?_cons_zero, List.getElem?_cons_succ, Option.some.injEq, exists_eq_left', V.ref.injEq, and_true, true_and, and_assoc, List.append_nil, lσ, es, ey5, fn_Taker_read]
            refine ⟨_, hW.rd, a.y, a.dy, a.pk, W, g, o, u, tk, rfl, O5, tl, hW.o5, by omega, fun l H6 nl O6 el k6 => ?_⟩
            have KN := hW.kn
            have rd6 := k6 _ _ hW.rd (by simp; exact Ne.symm (ne_il KN.y KN.rd))
            have ps6 := k6 _ _ hW.sta (by simp; exact Ne.symm (ne_il KN.y KN.ps))
            have en6 := k6 _ _ en (by simp; exact Ne.symm (ne_id KN.y KN.pn))
            have hgt := hW.o2
            have htx := hW.o3
            have e1 := thin_take (u := u) tl hvs hW.o5 (by omega)
            have e2 : (xs.take u).length + (thin tk u g).length ≤ sizeLine := by
              have := congrArg List.length e1
              simp only [List.length_append, List.length_take] at this
              rw [sizeLine_eq, List.length_take]
              omega
            refine ⟨l, rfl, _, rd6, _, el, e2, ?_⟩
            rw [e1]
            have kU : Keep [a.rd] H6 (upd H6 a.rd (.lst (xs.take g))) := Keep.refl.upd (.inl (.head _))
            have W7 := hW.lists (H' := upd H6 a.rd (.lst (xs.take g))) (T' := T) (u' := g) (fun b o e hb => by
              simp only [List.mem_cons, List.not_mem_nil, or_false, not_or] at hb
              exact kU _ _ (k6 _ _ e (by simp; exact hb.1)) (by simp; exact hb.2.1)) ⟨tk, nw0, O6.keep kU (by simp; exact ne_il KN.y KN.rd) (by simp; exact ne_dl KN.pk KN.rd), tl, hl, hvs, kU _ _ en6 (by simp; exact ne_dl KN.pn KN.rd), hnl, hnk⟩ upd_same (kU _ _ ps6 (by simp; exact hW.ok.l0)) (Nat.le_refl _)
            generalize upd H6 a.rd (.lst (xs.take g)) = H7 at W7 ⊢
            obtain ⟨kvs, Ot, _⟩ := W7.te.ex
            obtain ⟨tk7, nw7, O7, _⟩ := W7.ta.ex
            refine ⟨_, W7.sta, _, rfl, _, W7.sta, _, rfl, a.x, a.dx, a.pl, a.pg, a.y, a.dy, a.pk, a.pp, a.rd, W, wt, st, xs, ds, kvs, tk7, b, t, g, g, o, rfl, Ot, O7, W7.put, W7.rd, W7.im, W7.dp, W7.o1, W7.o2, W7.o3, W7.o4, W7.o5, W7.x9, fun H8 s8 => ⟨true, rfl, iteT ?_⟩⟩
            have es8 := s8 _ _ W7.sta
            have rd8 := s8 _ _ W7.rd
            have ey8 := s8 _ _ O7.ins
            have hgl : (xs.take g).length = g := by rw [List.length_take]; omega
            simp (maxSteps := 1000000) only [getO_l, lenX_r, lenO_l, Option.bind_some, atI_2, HO.ins.injEq, decide_true, rEq_ii, exists_and_left, Option.some.injEq, exists_eq_left', true_and, and_assoc, es8, rd8, ey8, T_Taker.cl, T_Taker.no "got" (by decide), fs_Taker_got, hgl]
            exact q H8
end
end K65
namespace K65
open PySem L2
section
variable {P : Program} {w : World} {K : PySem.W.Frag} {mg : Str → Option Value} {C C2 : Addr}
theorem mk_Teller {h : Heap} (X : K.In h) (G : h.Ns mainGlobals mg) {C f0 f1 f2 f3 f4 f5 f6 : Addr} {od0 an0 od1 an1 od2 an2 od3 an3 od4 an4 od5 an5 od6 an6 : Option Addr} {sl0 sl1 sl2 sl3 sl4 sl5 sl6 : Array (Option Value)} {oc0 kV0 dc0 pm0 cd0 ct0 oc1 kV1 dc1 pm1 cd1 ct1 oc2 kV2 dc2 pm2 cd2 ct2 oc3 kV3 dc3 pm3 cd3 ct3 oc4 kV4 dc4 pm4 cd4 ct4 oc5 kV5 dc5 pm5 cd5 ct5 oc6 kV6 dc6 pm6 cd6 ct6 : Value}
    (aC : PySem.W.nsIn K mainGlobals "Teller" = some (some (.ref C))) (pg : PySem.W.plainGet K C Str.empty = true) (hd : PySem.W.hasDictIn K C = true) (po : PySem.W.plainOver K C = true) (sa : PySem.W.findIn K (.ref C) "__setattr__" = some (some (.builtin "object.__setattr__")))
    (n0 : PySem.W.findIn K (.ref C) "window" = some none) (n1 : PySem.W.findIn K (.ref C) "wait" = some none) (n2 : PySem.W.findIn K (.ref C) "base" = some none) (n3 : PySem.W.findIn K (.ref C) "top" = some none) (n4 : PySem.W.findIn K (.ref C) "state" = some none) (n5 : PySem.W.findIn K (.ref C) "things" = some none) (n6 : PySem.W.findIn K (.ref C) "goings" = some none) (mk : PySem.W.makesIn K C = true) (kc : PySem.W.keepIn K (.ref C) = true)
    (a0 : PySem.W.findIn K (.ref C) "__init__" = some (some (.ref f0))) (i0 : PySem.W.isFn K (.ref f0) = true) (l0 : K.lookup f0 = some ⟨oc0, od0, .func (PySem.W.fnOf "__init__" "Teller.__init__" (defArgs s_Teller___init__) (defBody s_Teller___init__) (defScope s_Teller___init__) .none kV0 dc0 pm0 an0 cd0 ct0), sl0⟩) (c0 : PySem.W.codeIn K cd0 "Teller.__init__" = true) (k0 : PySem.W.keepIn K (.ref f0) = true)
    (a1 : PySem.W.findIn K (.ref C) "stands" = some (some (.ref f1))) (i1 : PySem.W.isFn K (.ref f1) = true) (l1 : K.lookup f1 = some ⟨oc1, od1, .func (PySem.W.fnOf "stands" "Teller.stands" (defArgs s_Teller_stands) (defBody s_Teller_stands) (defScope s_Teller_stands) .none kV1 dc1 pm1 an1 cd1 ct1), sl1⟩) (c1 : PySem.W.codeIn K cd1 "Teller.stands" = true) (k1 : PySem.W.keepIn K (.ref f1) = true)
    (a2 : PySem.W.findIn K (.ref C) "put" = some (some (.ref f2))) (i2 : PySem.W.isFn K (.ref f2) = true) (l2 : K.lookup f2 = some ⟨oc2, od2, .func (PySem.W.fnOf "put" "Teller.put" (defArgs s_Teller_put) (defBody s_Teller_put) (defScope s_Teller_put) .none kV2 dc2 pm2 an2 cd2 ct2), sl2⟩) (c2 : PySem.W.codeIn K cd2 "Teller.put" = true) (k2 : PySem.W.keepIn K (.ref f2) = true)
    (a3 : PySem.W.findIn K (.ref C) "many" = some (some (.ref f3))) (i3 : PySem.W.isFn K (.ref f3) = true) (l3 : K.lookup f3 = some ⟨oc3, od3, .func (PySem.W.fnOf "many" "Teller.many" (defArgs s_Teller_many) (defBody s_Teller_many) (defScope s_Teller_many) .none kV3 dc3 pm3 an3 cd3 ct3), sl3⟩) (c3 : PySem.W.codeIn K cd3 "Teller.many" = true) (k3 : PySem.W.keepIn K (.ref f3) = true)
    (a4 : PySem.W.findIn K (.ref C) "go" = some (some (.ref f4))) (i4 : PySem.W.isFn K (.ref f4) = true) (l4 : K.lookup f4 = some ⟨oc4, od4, .func (PySem.W.fnOf "go" "Teller.go" (defArgs s_Teller_go) (defBody s_Teller_go) (defScope s_Teller_go) .none kV4 dc4 pm4 an4 cd4 ct4), sl4⟩) (c4 : PySem.W.codeIn K cd4 "Teller.go" = true) (k4 : PySem.W.keepIn K (.ref f4) = true)
    (a5 : PySem.W.findIn K (.ref C) "place_to_go" = some (some (.ref f5))) (i5 : PySem.W.isFn K (.ref f5) = true) (l5 : K.lookup f5 = some ⟨oc5, od5, .func (PySem.W.fnOf "place_to_go" "Teller.place_to_go" (defArgs s_Teller_place_to_go) (defBody s_Teller_place_to_go) (defScope s_Teller_place_to_go) .none kV5 dc5 pm5 an5 cd5 ct5), sl5⟩) (c5 : PySem.W.codeIn K cd5 "Teller.place_to_go" = true) (k5 : PySem.W.keepIn K (.ref f5) = true)
    (a6 : PySem.W.findIn K (.ref C) "heard" = some (some (.ref f6))) (i6 : PySem.W.isFn K (.ref f6) = true) (l6 : K.lookup f6 = some ⟨oc6, od6, .func (PySem.W.fnOf "heard" "Teller.heard" (defArgs s_Teller_heard) (defBody s_Teller_heard) (defScope s_Teller_heard) .none kV6 dc6 pm6 an6 cd6 ct6), sl6⟩) (c6 : PySem.W.codeIn K cd6 "Teller.heard" = true) (k6 : PySem.W.keepIn K (.ref f6) = true)
    : ∃ C, ClsD K mg "Teller" C at_Teller ∧ DefI K C "Teller.__init__" s_Teller___init__ ∧ DefM K C "stands" "Teller.stands" s_Teller_stands ∧ DefM K C "put" "Teller.put" s_Teller_put ∧ DefM K C "many" "Teller.many" s_Teller_many ∧ DefM K C "go" "Teller.go" s_Teller_go ∧ DefM K C "place_to_go" "Teller.place_to_go" s_Teller_place_to_go ∧ DefM K C "heard" "Teller.heard" s_Teller_heard := by
  refine ⟨C, ⟨PySem.W.mg_of X G aC, ⟨pg, hd, po, sa⟩, fun f hf => ?_⟩, defI_mk a0 i0 l0 c0 k0 mk kc, defM_mk a1 i1 l1 c1 k1, defM_mk a2 i2 l2 c2 k2, defM_mk a3 i3 l3 c3 k3, defM_mk a4 i4 l4 c4 k4, defM_mk a5 i5 l5 c5 k5, defM_mk a6 i6 l6 c6 k6⟩
  simp only [List.mem_cons, List.not_mem_nil, or_false] at hf
  rcases hf with rfl | rfl | rfl | rfl | rfl | rfl | rfl
  · exact n0
  · exact n1
  · exact n2
  · exact n3
  · exact n4
  · exact n5
  · exact n6
theorem mk_Taker {h : Heap} (X : K.In h) (G : h.Ns mainGlobals mg) {C f0 f1 f2 f3 : Addr} {od0 an0 od1 an1 od2 an2 od3 an3 : Option Addr} {sl0 sl1 sl2 sl3 : Array (Option Value)} {oc0 kV0 dc0 pm0 cd0 ct0 oc1 kV1 dc1 pm1 cd1 ct1 oc2 kV2 dc2 pm2 cd2 ct2 oc3 kV3 dc3 pm3 cd3 ct3 : Value}
    (aC : PySem.W.nsIn K mainGlobals "Taker" = some (some (.ref C))) (pg : PySem.W.plainGet K C Str.empty = true) (hd : PySem.W.hasDictIn K C = true) (po : PySem.W.plainOver K C = true) (sa : PySem.W.findIn K (.ref C) "__setattr__" = some (some (.builtin "object.__setattr__")))
    (n0 : PySem.W.findIn K (.ref C) "window" = some none) (n1 : PySem.W.findIn K (.ref C) "got" = some none) (n2 : PySem.W.findIn K (.ref C) "owed" = some none) (n3 : PySem.W.findIn K (.ref C) "first_unread" = some none) (n4 : PySem.W.findIn K (.ref C) "things" = some none) (mk : PySem.W.makesIn K C = true) (kc : PySem.W.keepIn K (.ref C) = true)
    (a0 : PySem.W.findIn K (.ref C) "__init__" = some (some (.ref f0))) (i0 : PySem.W.isFn K (.ref f0) = true) (l0 : K.lookup f0 = some ⟨oc0, od0, .func (PySem.W.fnOf "__init__" "Taker.__init__" (defArgs s_Taker___init__) (defBody s_Taker___init__) (defScope s_Taker___init__) .none kV0 dc0 pm0 an0 cd0 ct0), sl0⟩) (c0 : PySem.W.codeIn K cd0 "Taker.__init__" = true) (k0 : PySem.W.keepIn K (.ref f0) = true)
    (a1 : PySem.W.findIn K (.ref C) "took" = some (some (.ref f1))) (i1 : PySem.W.isFn K (.ref f1) = true) (l1 : K.lookup f1 = some ⟨oc1, od1, .func (PySem.W.fnOf "took" "Taker.took" (defArgs s_Taker_took) (defBody s_Taker_took) (defScope s_Taker_took) .none kV1 dc1 pm1 an1 cd1 ct1), sl1⟩) (c1 : PySem.W.codeIn K cd1 "Taker.took" = true) (k1 : PySem.W.keepIn K (.ref f1) = true)
    (a2 : PySem.W.findIn K (.ref C) "answered" = some (some (.ref f2))) (i2 : PySem.W.isFn K (.ref f2) = true) (l2 : K.lookup f2 = some ⟨oc2, od2, .func (PySem.W.fnOf "answered" "Taker.answered" (defArgs s_Taker_answered) (defBody s_Taker_answered) (defScope s_Taker_answered) .none kV2 dc2 pm2 an2 cd2 ct2), sl2⟩) (c2 : PySem.W.codeIn K cd2 "Taker.answered" = true) (k2 : PySem.W.keepIn K (.ref f2) = true)
    (a3 : PySem.W.findIn K (.ref C) "read" = some (some (.ref f3))) (i3 : PySem.W.isFn K (.ref f3) = true) (l3 : K.lookup f3 = some ⟨oc3, od3, .func (PySem.W.fnOf "read" "Taker.read" (defArgs s_Taker_read) (defBody s_Taker_read) (defScope s_Taker_read) .none kV3 dc3 pm3 an3 cd3 ct3), sl3⟩) (c3 : PySem.W.codeIn K cd3 "Taker.read" = true) (k3 : PySem.W.keepIn K (.ref f3) = true)
    : ∃ C, ClsD K mg "Taker" C at_Taker ∧ DefI K C "Taker.__init__" s_Taker___init__ ∧ DefM K C "took" "Taker.took" s_Taker_took ∧ DefM K C "answered" "Taker.answered" s_Taker_answered ∧ DefM K C "read" "Taker.read" s_Taker_read := by
  refine ⟨C, ⟨PySem.W.mg_of X G aC, ⟨pg, hd, po, sa⟩, fun f hf => ?_⟩, defI_mk a0 i0 l0 c0 k0 mk kc, defM_mk a1 i1 l1 c1 k1, defM_mk a2 i2 l2 c2 k2, defM_mk a3 i3 l3 c3 k3⟩
  simp only [List.mem_cons, List.not_mem_nil, or_false] at hf
  rcases hf with rfl | rfl | rfl | rfl | rfl
  · exact n0
  · exact n1
  · exact n2
  · exact n3
  · exact n4
theorem last {fa : Addr} (D1 : Def K mg "is_text_of" s_is_text_of) (D2 : Def K mg "is_signs" s_is_signs) (D3 : Def K mg "is_thing" s_is_thing) (D4 : DefI K C "Teller.__init__" s_Teller___init__) (DS : DefM K C "stands" "Teller.stands" s_Teller_stands) (D5 : DefM K C "put" "Teller.put" s_Teller_put) (D6 : DefM K C "many" "Teller.many" s_Teller_many) (D8 : DefM K C "go" "Teller.go" s_Teller_go)
    (D9 : DefM K C "place_to_go" "Teller.place_to_go" s_Teller_place_to_go) (DA : DefM K C "heard" "Teller.heard" s_Teller_heard) (E4 : DefI K C2 "Taker.__init__" s_Taker___init__) (E5 : DefM K C2 "took" "Taker.took" s_Taker_took) (E6 : DefM K C2 "answered" "Taker.answered" s_Taker_answered) (E7 : DefM K C2 "read" "Taker.read" s_Taker_read)
    (DB : Def K mg "_law_cell_at" s__law_cell_at) (DC : Def K mg "_law_mixed" s__law_mixed) (DP : Def K mg "_law_put" s__law_put) (DQ : Def K mg "_law_copies" s__law_copies) (DV : Def K mg "_law_come" s__law_come) (DR : Def K mg "_law_right" s__law_right) (DU : Def K mg "_law_turn" s__law_turn) (DE : Def K mg "law" s_law)
    (T : ClsD K mg "Teller" C at_Teller) (T2 : ClsD K mg "Taker" C2 at_Taker) (g : ∃ u, mg "MOST_SIGNS" = some u ∧ RelV (.int 8) u) (hb : Blt mg) (hs : mg "sorted" = none) (hmg : mg "law" = some (.ref fa)) :
    ∃ fd : FuncData, (∀ (s : Shared) (u : Value), BindsTo s fd ⟨[u], []⟩ [("_law_script", u)]) ∧ ∀ base : Heap, K.In base → base.Ns mainGlobals mg → FnOk P w K mg base CX0 6 fa fd ["_law_script"] (sp_law K) := by
  obtain ⟨f, fd, hm, F⟩ := DE
  have e := hmg.symm.trans hm
  cases e
  refine ⟨fd, ?_, fun base _ _ => ?_⟩
  · obtain ⟨oc, od, kV, doc, pm, an, cdv, ct, osl, rfl, lk, hcd⟩ := F.ex
    exact fun s u => .of_eq rfl
  · have many := own_tmany (P := P) (w := w) (base := base) D6 hb T
    have go := own_tgo (P := P) (w := w) (base := base) D8 hb T (own_tplace D9 hb T many)
    have mx := own_mixed (P := P) (w := w) (base := base) DC
    have come := own_come (P := P) (w := w) (base := base) DV hb hs T2 (own_took E5 hb T2)
    have right := own_right (P := P) (w := w) (base := base) DR hb T T2 many
    have heard := own_theard (P := P) (w := w) (base := base) DA hb T
    have rd := own_read (P := P) (w := w) (base := base) E7 hb T2
    exact law_fn F hb hs T T2 (own_tinit D4 T) (own_kinit E4 T2) heard rd mx (own_cell DB hb) (own_lput DP hb T (own_stands DS T) (own_tput D5 hb T (own_thing D3 hb (own_signs D2 hb g (own_text D1 hb))))) come right (own_turn DU hb hs T T2 heard go (own_answered E6 hb T2) rd come (own_copies DQ hb mx) mx right)
end
end K65
open PySem PySem.W PyProof.Rows
set_option maxHeartbeats 0 in
theorem PySem.Challenge.cw_roadnet_k65_whole_any_history_holds : PySem.Challenge.rw_roadnet_k65_whole_any_history.Holds := by
  w_on; o_law; k_head; (case hw => w_witness2)
  k_fill
  refine L2.walk_ofK (l := PySem.Challenge.rw_roadnet_k65_whole_any_history) (n := 63) (k := 6) (x := "_law_script") (CX := L2.CX0) (sp := K65.sp_law) rfl (by decide) rfl ⟨rfl, by decide, by decide⟩ (fun w h Y => PySem.W.kIn_of Y) ?F (fun _ _ a ns hl _ hS => ⟨a, ns, rfl, hS, hl, fun _ => rfl⟩) fun _ _ _ _ z => z
  case F =>
    intro w mg fa h KX G hmg
    have D_is_text_of : L2.Def (L2.KOf KX) mg "is_text_of" K65.s_is_text_of := by
      dsimp only [L2.KOf]
      refine' L2.def_mk KX G ?a ?l ?c ?k
      (case a => k_is); (case l => k_is); (case c => k_is); (case k => k_is)
    have D_is_signs : L2.Def (L2.KOf KX) mg "is_signs" K65.s_is_signs := by
      dsimp only [L2.KOf]
      refine' L2.def_mk KX G ?a ?l ?c ?k
      (case a => k_is); (case l => k_is); (case c => k_is); (case k => k_is)
    have D_is_thing : L2.Def (L2.KOf KX) mg "is_thing" K65.s_is_thing := by
      dsimp only [L2.KOf]
      refine' L2.def_mk KX G ?a ?l ?c ?k
      (case a => k_is); (case l => k_is); (case c => k_is); (case k => k_is)
    have D__law_cell_at : L2.Def (L2.KOf KX) mg "_law_cell_at" K65.s__law_cell_at := by
      dsimp only [L2.KOf]
      refine' L2.def_mk KX G ?a ?l ?c ?k
      (case a => k_is); (case l => k_is); (case c => k_is); (case k => k_is)
    have D__law_mixed : L2.Def (L2.KOf KX) mg "_law_mixed" K65.s__law_mixed := by
      dsimp only [L2.KOf]
      refine' L2.def_mk KX G ?a ?l ?c ?k
      (case a => k_is); (case l => k_is); (case c => k_is); (case k => k_is)
    have D__law_put : L2.Def (L2.KOf KX) mg "_law_put" K65.s__law_put := by
      dsimp only [L2.KOf]
      refine' L2.def_mk KX G ?a ?l ?c ?k
      (case a => k_is); (case l => k_is); (case c => k_is); (case k => k_is)
    have D__law_copies : L2.Def (L2.KOf KX) mg "_law_copies" K65.s__law_copies := by
      dsimp only [L2.KOf]
      refine' L2.def_mk KX G ?a ?l ?c ?k
      (case a => k_is); (case l => k_is); (case c => k_is); (case k => k_is)
    have D__law_come : L2.Def (L2.KOf KX) mg "_law_come" K65.s__law_come := by
      dsimp only [L2.KOf]
      refine' L2.def_mk KX G ?a ?l ?c ?k
      (case a => k_is); (case l => k_is); (case c => k_is); (case k => k_is)
    have D__law_right : L2.Def (L2.KOf KX) mg "_law_right" K65.s__law_right := by
      dsimp only [L2.KOf]
      refine' L2.def_mk KX G ?a ?l ?c ?k
      (case a => k_is); (case l => k_is); (case c => k_is); (case k => k_is)
    have D__law_turn : L2.Def (L2.KOf KX) mg "_law_turn" K65.s__law_turn := by
      dsimp only [L2.KOf]
      refine' L2.def_mk KX G ?a ?l ?c ?k
      (case a => k_is); (case l => k_is); (case c => k_is); (case k => k_is)
    have D_law : L2.Def (L2.KOf KX) mg "law" K65.s_law := by
      dsimp only [L2.KOf]
      refine' L2.def_mk KX G ?a ?l ?c ?k
      (case a => k_is); (case l => k_is); (case c => k_is); (case k => k_is)
    have Z_Teller : ∃ C, L2.ClsD (L2.KOf KX) mg "Teller" C K65.at_Teller ∧ L2.DefI (L2.KOf KX) C "Teller.__init__" K65.s_Teller___init__ ∧ L2.DefM (L2.KOf KX) C "stands" "Teller.stands" K65.s_Teller_stands ∧ L2.DefM (L2.KOf KX) C "put" "Teller.put" K65.s_Teller_put ∧ L2.DefM (L2.KOf KX) C "many" "Teller.many" K65.s_Teller_many ∧ L2.DefM (L2.KOf KX) C "go" "Teller.go" K65.s_Teller_go ∧ L2.DefM (L2.KOf KX) C "place_to_go" "Teller.place_to_go" K65.s_Teller_place_to_go ∧ L2.DefM (L2.KOf KX) C "heard" "Teller.heard" K65.s_Teller_heard := by
      dsimp only [L2.KOf]
      refine' K65.mk_Teller KX G ?aC ?pg ?hd ?po ?sa ?n0 ?n1 ?n2 ?n3 ?n4 ?n5 ?n6 ?mk ?kc ?a0 ?i0 ?l0 ?c0 ?k0 ?a1 ?i1 ?l1 ?c1 ?k1 ?a2 ?i2 ?l2 ?c2 ?k2 ?a3 ?i3 ?l3 ?c3 ?k3 ?a4 ?i4 ?l4 ?c4 ?k4 ?a5 ?i5 ?l5 ?c5 ?k5 ?a6 ?i6 ?l6 ?c6 ?k6
      (case aC => k_is)
      (case pg => k_is)
      (case hd => k_is)
      (case po => k_is)
      (case sa => k_is)
      (case n0 => k_is)
      (case n1 => k_is)
      (case n2 => k_is)
      (case n3 => k_is)
      (case n4 => k_is)
      (case n5 => k_is)
      (case n6 => k_is)
      (case mk => k_is)
      (case kc => k_is)
      (case a0 => k_is)
      (case i0 => k_is)
      (case l0 => k_is)
      (case c0 => k_is)
      (case k0 => k_is)
      (case a1 => k_is)
      (case i1 => k_is)
      (case l1 => k_is)
      (case c1 => k_is)
      (case k1 => k_is)
      (case a2 => k_is)
      (case i2 => k_is)
      (case l2 => k_is)
      (case c2 => k_is)
      (case k2 => k_is)
      (case a3 => k_is)
      (case i3 => k_is)
      (case l3 => k_is)
      (case c3 => k_is)
      (case k3 => k_is)
      (case a4 => k_is)
      (case i4 => k_is)
      (case l4 => k_is)
      (case c4 => k_is)
      (case k4 => k_is)
      (case a5 => k_is)
      (case i5 => k_is)
      (case l5 => k_is)
      (case c5 => k_is)
      (case k5 => k_is)
      (case a6 => k_is)
      (case i6 => k_is)
      (case l6 => k_is)
      (case c6 => k_is)
      (case k6 => k_is)
    obtain ⟨C_Teller, T_Teller, DI_Teller, DM_Teller_stands, DM_Teller_put, DM_Teller_many, DM_Teller_go, DM_Teller_place_to_go, DM_Teller_heard⟩ := Z_Teller
    have Z_Taker : ∃ C, L2.ClsD (L2.KOf KX) mg "Taker" C K65.at_Taker ∧ L2.DefI (L2.KOf KX) C "Taker.__init__" K65.s_Taker___init__ ∧ L2.DefM (L2.KOf KX) C "took" "Taker.took" K65.s_Taker_took ∧ L2.DefM (L2.KOf KX) C "answered" "Taker.answered" K65.s_Taker_answered ∧ L2.DefM (L2.KOf KX) C "read" "Taker.read" K65.s_Taker_read := by
      dsimp only [L2.KOf]
      refine' K65.mk_Taker KX G ?aC ?pg ?hd ?po ?sa ?n0 ?n1 ?n2 ?n3 ?n4 ?mk ?kc ?a0 ?i0 ?l0 ?c0 ?k0 ?a1 ?i1 ?l1 ?c1 ?k1 ?a2 ?i2 ?l2 ?c2 ?k2 ?a3 ?i3 ?l3 ?c3 ?k3
      (case aC => k_is)
      (case pg => k_is)
      (case hd => k_is)
      (case po => k_is)
      (case sa => k_is)
      (case n0 => k_is)
      (case n1 => k_is)
      (case n2 => k_is)
      (case n3 => k_is)
      (case n4 => k_is)
      (case mk => k_is)
      (case kc => k_is)
      (case a0 => k_is)
      (case i0 => k_is)
      (case l0 => k_is)
      (case c0 => k_is)
      (case k0 => k_is)
      (case a1 => k_is)
      (case i1 => k_is)
      (case l1 => k_is)
      (case c1 => k_is)
      (case k1 => k_is)
      (case a2 => k_is)
      (case i2 => k_is)
      (case l2 => k_is)
      (case c2 => k_is)
      (case k2 => k_is)
      (case a3 => k_is)
      (case i3 => k_is)
      (case l3 => k_is)
      (case c3 => k_is)
      (case k3 => k_is)
    obtain ⟨C_Taker, T_Taker, DI_Taker, DM_Taker_took, DM_Taker_answered, DM_Taker_read⟩ := Z_Taker
    have hb : L2.Blt mg := by
      refine' L2.blt_mk (K := L2.KOf KX) KX G ?b1 ?b2 ?b3 ?b4 ?b5 ?b6 ?b7 ?b8 ?b9 ?b10 ?b11 ?b12 ?b13
      all_goals (dsimp only [L2.KOf]; k_is)
    have hs : mg "sorted" = none := by
      have z : PySem.W.nsIn (L2.KOf KX) mainGlobals "sorted" = some none := by
        dsimp only [L2.KOf]
        k_is
      exact PySem.W.mg_none_of KX G z
    have g : ∃ u, mg "MOST_SIGNS" = some u ∧ L2.RelV (.int 8) u := by
      refine' L2.glb_mk KX G ?a
      (case a => k_is)
    exact K65.last D_is_text_of D_is_signs D_is_thing DI_Teller DM_Teller_stands DM_Teller_put DM_Teller_many DM_Teller_go DM_Teller_place_to_go DM_Teller_heard DI_Taker DM_Taker_took DM_Taker_answered DM_Taker_read D__law_cell_at D__law_mixed D__law_put D__law_copies D__law_come D__law_right D__law_turn D_law T_Teller T_Taker g hb hs hmg
#print axioms PySem.Challenge.cw_roadnet_k65_whole_any_history_holds
