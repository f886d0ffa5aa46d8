import PyProof.Rows.All
import Wide.All
import OpenK.AllK
import Wide.FinOn
import Lean
import PyProof.EqAt
import PyProof.EqKinds
import PyProof.TupleCall
import PyProof.NeData
import PyProof.EqLayable
import PyProof.ConsumeWalk
import PyProof.StrWalks
import PyProof.FString5
import PyProof.CallStr
import KE.KDictList
import KE.KDictSum
import PyProof.Rows.SortWalk
import PyProof.ListRange
import PyProof.EnumFor
import PyProof.EnumMake
import PyProof.EnumStmt
import PyProof.DictWalks
import PyProof.DictItems
import KE.KEqDict
import PyProof.Claim2Refuses
import KE.KDictLaws
import PyProof.TupleKey
import PyProof.DictRoadsH
import PySem.Challenge.RW_roadnet_k31_what_waits_at_a_gate
set_option Elab.async false
set_option linter.all false
set_option maxRecDepth 100000
/-! THE HAND LAYER, for ints, bools, texts, own classes, LISTS and tuples (index, slices, in, append, pop ..), calls, loops. Paste it whole ahead of your own text; what your proof does not reach may be deleted. -/
namespace L2
open PySem PySem.Spec PyProof.Rows

/-- a key: an int or a str -/
abbrev Key := Sum Int Str
def keyIs : Key → Value → Bool
  | .inl k, v => Value.isInt k v
  | .inr x, v => Value.isStrOf x v
def keyH (w : World) : Key → Int
  | .inl k => hashInt k
  | .inr x => hashStr w x
theorem keyIs_shape : ∀ {k : Key} {v : Value}, keyIs k v = true → (∃ i t, k = Sum.inl i ∧ v = Value.int i t) ∨ (∃ x t, k = Sum.inr x ∧ v = Value.str x t)
  | .inl i, v, h => by
    obtain ⟨t, e⟩ := Value.isInt_shape (k := i) (v := v) h
    exact .inl ⟨i, t, rfl, e⟩
  | .inr x, v, h => by
    obtain ⟨t, e⟩ := Value.isStrOf_shape (x := x) (v := v) h
    exact .inr ⟨x, t, rfl, e⟩
theorem keyIs_int (i : Int) (t : Tok) : keyIs (.inl i) (.int i t) = true := by simp [keyIs, Value.isInt]
theorem keyIs_str (x : Str) (t : Tok) : keyIs (.inr x) (.str x t) = true := by simp [keyIs, Value.isStrOf]
theorem key_ll (a b : Int) : decide ((Sum.inl a : Key) = Sum.inl b) = (a == b) := by
  by_cases e : a = b
  · subst e; simp
  · have h : ¬ (Sum.inl a : Key) = Sum.inl b := fun q => e (Sum.inl.inj q)
    rw [decide_eq_false h]
    exact (beq_eq_false_iff_ne.mpr e).symm
theorem key_rr (a b : Str) : decide ((Sum.inr a : Key) = Sum.inr b) = decide (a = b) := by
  by_cases e : a = b
  · subst e; simp
  · have h : ¬ (Sum.inr a : Key) = Sum.inr b := fun q => e (Sum.inr.inj q)
    rw [decide_eq_false h, decide_eq_false e]
theorem key_lr (a : Int) (b : Str) : decide ((Sum.inl a : Key) = Sum.inr b) = false := decide_eq_false (fun q => nomatch q)
theorem key_rl (a : Str) (b : Int) : decide ((Sum.inr a : Key) = Sum.inl b) = false := decide_eq_false (fun q => nomatch q)

def mixKind (prog : Program) (w : World) : PySem.KeyKind prog w Key where
  is := keyIs
  hash := keyH w
  inj := fun v a b ha hb => by
    rcases keyIs_shape ha with ⟨i, t, rfl, rfl⟩ | ⟨x, t, rfl, rfl⟩
    · rcases keyIs_shape hb with ⟨j, u, rfl, e⟩ | ⟨y, u, rfl, e⟩
      · injection e with e1 _; rw [e1]
      · exact nomatch e
    · rcases keyIs_shape hb with ⟨j, u, rfl, e⟩ | ⟨y, u, rfl, e⟩
      · exact nomatch e
      · injection e with e1 _; rw [e1]
  byValue := fun k v h => by
    rcases keyIs_shape h with ⟨i, t, rfl, rfl⟩ | ⟨x, t, rfl, rfl⟩ <;> rfl
  pyHash := fun hv h => by
    rcases keyIs_shape hv with ⟨i, t, rfl, rfl⟩ | ⟨x, t, rfl, rfl⟩
    · exact wpAny_pyHash_int h
    · exact wpAny_pyHash_str h
  eqBool := fun hu hv h => by
    rcases keyIs_shape hu with ⟨i, t, rfl, rfl⟩ | ⟨x, t, rfl, rfl⟩
    · rcases keyIs_shape hv with ⟨j, u, rfl, rfl⟩ | ⟨y, u, rfl, rfl⟩
      · rw [key_ll] at h; exact wpAny_eqBool_int h
      · rw [key_lr] at h; exact SeqAt.EqAt.int_str i t y u _ _ _ _ h
    · rcases keyIs_shape hv with ⟨j, u, rfl, rfl⟩ | ⟨y, u, rfl, rfl⟩
      · rw [key_rl] at h; exact SeqAt.EqAt.str_int x t j u _ _ _ _ h
      · rw [key_rr] at h; exact wpAny_eqBool_str h
  «strs» := fun k x t v h => by
    rcases keyIs_shape h with ⟨i, u, rfl, e⟩ | ⟨y, u, rfl, e⟩
    · exact nomatch e
    · injection e with e1 _
      subst e1
      cases v <;> rfl

theorem mixKind_int (prog : Program) (w : World) (i : Int) (t : Tok) : (mixKind prog w).is (.inl i) (.int i t) = true := keyIs_int i t
theorem mixKind_str (prog : Program) (w : World) (x : Str) (t : Tok) : (mixKind prog w).is (.inr x) (.str x t) = true := keyIs_str x t
end L2

namespace L2
open PySem PySem.Spec PyProof.Rows

/-- a value, without the heap -/
inductive V where
  | non | bl (b : Bool) | int (i : Int) | str (x : Str) | byt (b : Array UInt8) | flt (b : UInt64) | ref (a : Addr) | ty (n : String)
  deriving DecidableEq

def RelV : V → Value → Prop
  | .non, u => u = Value.none
  | .bl b, u => u = Value.bool b
  | .int i, u => ∃ t, u = Value.int i t
  | .str x, u => ∃ t, u = Value.str x t
  | .byt b, u => ∃ t, u = Value.bytes b t
  | .flt b, u => ∃ t, u = Value.float b t
  | .ref a, u => u = Value.ref a
  | .ty n, u => u = Value.type n

abbrev Vals : List V → List Value → Prop := Paired RelV
theorem Vals.length {xs : List V} {us : List Value} (r : Vals xs us) : xs.length = us.length := Paired.length r
theorem Vals.get : ∀ {xs : List V} {us : List Value} {i : Nat} {x : V}, Vals xs us → xs[i]? = some x → ∃ u, us[i]? = some u ∧ RelV x u
  | _, _, _, _, .nil, e => by simp at e
  | _, _, 0, _, .cons r _, e => by simp at e; subst e; exact ⟨_, rfl, r⟩
  | _, _, i + 1, x, .cons _ t, e => by
    obtain ⟨u, h1, h2⟩ := Vals.get (i := i) (x := x) t (by simpa using e)
    exact ⟨u, by simpa using h1, h2⟩
theorem Vals.set {x : V} {u : Value} (r : RelV x u) : ∀ {xs : List V} {us : List Value} (i : Nat), Vals xs us → Vals (xs.set i x) (us.set i u)
  | _, _, _, .nil => .nil
  | _, _, 0, .cons _ t => .cons r t
  | _, _, i + 1, .cons q t => .cons q (Vals.set r i t)
theorem Vals.append : ∀ {xs ys : List V} {us ws : List Value}, Vals xs us → Vals ys ws → Vals (xs ++ ys) (us ++ ws)
  | _, _, _, _, .nil, s => s
  | _, _, _, _, .cons r t, s => .cons r (Vals.append t s)
theorem Vals.take : ∀ {xs : List V} {us : List Value} (n : Nat), Vals xs us → Vals (xs.take n) (us.take n)
  | _, _, 0, _ => .nil
  | _, _, _ + 1, .nil => .nil
  | _, _, n + 1, .cons r t => .cons r (Vals.take n t)
theorem Vals.drop : ∀ {xs : List V} {us : List Value} (n : Nat), Vals xs us → Vals (xs.drop n) (us.drop n)
  | _, _, 0, r => r
  | _, _, _ + 1, .nil => .nil
  | _, _, n + 1, .cons _ t => Vals.drop n t
theorem Vals.none_of : ∀ {xs : List V} {us : List Value} {i : Nat}, Vals xs us → xs[i]? = none → us[i]? = none := fun {xs us i} r e => by
  have h1 := r.length
  have h2 : xs.length ≤ i := List.getElem?_eq_none_iff.mp e
  exact List.getElem?_eq_none_iff.mpr (by omega)

def RelO : Option V → Option Value → Prop
  | some v, some u => RelV v u
  | none, none => True
  | _, _ => False
def KV {κ : Type} : List (κ × V) → List (κ × Value) → Prop := Paired fun (p : κ × V) (q : κ × Value) => p.1 = q.1 ∧ RelV p.2 q.2

/-- a key of a dict (00_mix): an int or a text -/
def kV : Key → V
  | .inl i => .int i
  | .inr x => .str x

/-- what stands at a tracked address -/
inductive HO where
  /-- a list -/
  | lst (xs : List V)
  /-- a tuple (never changes) -/
  | tup (xs : List V)
  /-- a dict whose keys are ints and texts; one whose keys are tuples of ints and texts (the empty one is both) -/
  | dK (kvs : List (Key × V)) | dT (kvs : List (List Key × V))
  /-- a set of ints: its members, its size -/
  | set (S : Int → Bool) (n : Nat)
  /-- an instance of the class at C, its dict at dx, its attributes -/
  | ins (C dx : Addr) (fs : List (Str × V))
  /-- the dict of the instance at x -/
  | own (x : Addr)
  /-- the dict of an exception -/
  | xd (fs : List (Str × V))
  /-- a bound method, f of x -/
  | met (f x : Addr)
  /-- a range object lo, lo + 1, .. below hi -/
  | rng (lo hi : Int)
  /-- a thing that is known to the object (the script; a dict while a loop walks it): read, never written while it is so -/
  | frz (o : Obj) (u : HO)
  /-- a code object's table -/
  | tbl (ps : Array Value)
  /-- any other thing, by what is true of its one object (a def of one's own: SetO a S n := HO.ext fun h => ..) -/
  | ext (φ : Heap → Prop)

abbrev Hp := Addr → Option HO
def upd (H : Hp) (a : Addr) (o : HO) : Hp := fun b => if b = a then some o else H b
theorem upd_same {H : Hp} {a : Addr} {o : HO} : upd H a o a = some o := by unfold upd; rw [if_pos rfl]
theorem upd_ne {H : Hp} {a b : Addr} {o : HO} (h : b ≠ a) : upd H a o b = H b := by unfold upd; rw [if_neg h]
theorem upd_upd {H : Hp} {a : Addr} {o u : HO} : upd (upd H a o) a u = upd H a u := by
  funext b; unfold upd; split <;> rfl
/-- two objects of different content stand apart -/
theorem ne_of {H : Hp} {a b : Addr} {o u : HO} (h : H a = some o) (h' : H b = some u) (d : o ≠ u) : a ≠ b := by
  intro e; subst e; rw [h] at h'; exact d (Option.some.inj h')
theorem ne_of_none {H : Hp} {a b : Addr} {o : HO} (h : H a = some o) (h' : H b = none) : a ≠ b := by
  intro e; subst e; rw [h] at h'; cases h'

section
variable (P : Program) (w : World)
def ObjOk (H : Hp) (h : Heap) (a : Addr) : HO → Prop
  | .lst xs => xs.length ≤ sizeLine ∧ ∃ (its : List Value) (n : Nat), Vals xs its ∧ h.get? a = some { cls := .type "list", data := .seq its.toArray n }
  | .tup xs => xs.length ≤ sizeLine ∧ ∃ its : List Value, Vals xs its ∧ IsTup h a its.toArray
  | .dK kvs => kvs.length ≤ sizeLine ∧ (a == sysModules) = false ∧ ∃ vs, KV kvs vs ∧ h.DictOf (mixKind P w) a vs
  | .dT kvs => kvs.length ≤ sizeLine ∧ (a == sysModules) = false ∧ ∃ xs : List (List Key × Addr × Value),
      Paired (fun (p : List Key × V) (q : List Key × Addr × Value) => p.1 = q.1 ∧ H q.2.1 = some (.tup (p.1.map kV)) ∧ RelV p.2 q.2.2) kvs xs ∧
      ∃ o es ep, h.get? a = some o ∧ o.ExactDict ∧ o.data = .dict es ep ∧ es.toList = xs.map (entryOfKey (tupleKind (mixKind P w))) ∧ (xs.map (·.1)).Nodup
  | .set S n => h.SetOf (intKind P w) a S n
  | .ins C dx fs => H dx = some (.own a) ∧ fs.length ≤ 1000 ∧ dx ≠ a ∧ h.get? a = some (PySem.W.instObj C dx) ∧
      ∃ mA, h.Ns1 dx mA ∧ (∀ f, RelO (fs.lookup f) (mA f)) ∧ PySem.Within mA (fs.map (·.1))
  | .own _ => ∃ o, h.get? a = some o
  | .xd fs => ∃ mA, h.Ns1 a mA ∧ ∀ f, RelO (fs.lookup f) (mA f)
  | .rng lo hi => ∃ t u v, h.get? a = some { cls := .type "range", data := .fields #[.int lo t, .int hi u, .int 1 v] }
  | .frz o u => h.get? a = some o ∧ ObjOk H h a u
  | .tbl ps => h.get? a = some { cls := .none, data := .fields ps }
  | .met f x => h.get? a = some (PySem.W.methodObj (.ref f) (.ref x))
  | .ext φ => φ h ∧ (∃ o, h.get? a = some o) ∧ ∀ h1 h2 : Heap, φ h1 → (∀ o, h1.get? a = some o → h2.get? a = some o) → φ h2
/-- the abstract heap is held -/
def HOk (H : Hp) (h : Heap) : Prop := ∀ a o, H a = some o → ObjOk P w H h a o
end

section
variable {P : Program} {w : World} {H H' : Hp} {h h' : Heap} {a : Addr} {o : HO}
theorem ObjOk.lt (x : ObjOk P w H h a o) : a < h.objs.size := by
  cases o with
  | lst xs => obtain ⟨_, _, _, _, e⟩ := x; exact Heap.lt_size e
  | tup xs => obtain ⟨_, _, _, p⟩ := x; exact p.lt
  | dK kvs => obtain ⟨_, _, _, _, o, _, _, e, _⟩ := x; exact Heap.lt_size e
  | dT kvs => obtain ⟨_, _, _, _, o, _, _, e, _⟩ := x; exact Heap.lt_size e
  | set S n => obtain ⟨o, _, _, _, e, _⟩ := x; exact Heap.lt_size e
  | ins C dx fs => obtain ⟨_, _, _, e, _⟩ := x; exact Heap.lt_size e
  | own y => obtain ⟨_, e⟩ := x; exact Heap.lt_size e
  | xd fs => obtain ⟨_, ⟨_, _, _, e, _⟩, _⟩ := x; exact Heap.lt_size e
  | rng lo hi => obtain ⟨_, _, _, e⟩ := x; exact Heap.lt_size e
  | frz ob u => obtain ⟨e, _⟩ := x; exact Heap.lt_size e
  | tbl ps => exact Heap.lt_size (show h.get? a = some _ from x)
  | met f y => exact Heap.lt_size (show h.get? a = some _ from x)
  | ext φ => obtain ⟨_, ⟨_, e⟩, _⟩ := x; exact Heap.lt_size e
theorem Paired.mapP {α β : Type} {F G : α → β → Prop} : ∀ {l₁ : List α} {l₂ : List β}, Paired F l₁ l₂ → (∀ a b, F a b → G a b) → Paired G l₁ l₂
  | _, _, .nil, _ => .nil
  | _, _, .cons r t, f => .cons (f _ _ r) (Paired.mapP t f)
/-- what an object's description leans on: its own object, its own dict, the tuples -/
theorem ObjOk.stay (x : ObjOk P w H h a o) (k : ∀ b u, (b = a ∨ H b = some (.own a)) → h.get? b = some u → h'.get? b = some u)
    (ho : ∀ b, H b = some (.own a) → H' b = some (.own a)) (ht : ∀ b xs, H b = some (.tup xs) → H' b = some (.tup xs)) : ObjOk P w H' h' a o := by
  induction o with
  | lst xs => obtain ⟨z, its, n, r, e⟩ := x; exact ⟨z, its, n, r, k _ _ (.inl rfl) e⟩
  | tup xs => obtain ⟨z, its, r, ob, e, c⟩ := x; exact ⟨z, its, r, ob, k _ _ (.inl rfl) e, c⟩
  | dK kvs => obtain ⟨z, y, vs, r, ob, es, ep, e, c⟩ := x; exact ⟨z, y, vs, r, ob, es, ep, k _ _ (.inl rfl) e, c⟩
  | dT kvs =>
    obtain ⟨z, y, xs, r, ob, es, ep, e, c⟩ := x
    exact ⟨z, y, xs, Paired.mapP r fun p q z => ⟨z.1, ht _ _ z.2.1, z.2.2⟩, ob, es, ep, k _ _ (.inl rfl) e, c⟩
  | set S n => obtain ⟨ob, es, ep, t, e, c⟩ := x; exact ⟨ob, es, ep, t, k _ _ (.inl rfl) e, c⟩
  | ins C dx fs =>
    obtain ⟨d, z, ne, e, mA, ⟨od, es, ep, e2, c⟩, r⟩ := x
    exact ⟨ho _ d, z, ne, k _ _ (.inl rfl) e, mA, ⟨od, es, ep, k _ _ (.inr d) e2, c⟩, r⟩
  | own y => obtain ⟨ob, e⟩ := x; exact ⟨ob, k _ _ (.inl rfl) e⟩
  | xd fs => obtain ⟨mA, ⟨od, es, ep, e, c⟩, r⟩ := x; exact ⟨mA, ⟨od, es, ep, k _ _ (.inl rfl) e, c⟩, r⟩
  | rng lo hi => obtain ⟨t, u, v, e⟩ := x; exact ⟨t, u, v, k _ _ (.inl rfl) e⟩
  | frz ob u ih => obtain ⟨e, q⟩ := x; exact ⟨k _ _ (.inl rfl) e, ih q⟩
  | tbl ps =>
    have e : h.get? a = some { cls := .none, data := .fields ps } := x
    show h'.get? a = some { cls := .none, data := .fields ps }
    exact k a _ (.inl rfl) e
  | met f y =>
    have e : h.get? a = some (PySem.W.methodObj (.ref f) (.ref y)) := x
    show h'.get? a = some (PySem.W.methodObj (.ref f) (.ref y))
    exact k a _ (.inl rfl) e
  | ext φ => obtain ⟨p, ⟨o, e⟩, st⟩ := x; exact ⟨st _ _ p fun o q => k _ _ (.inl rfl) q, ⟨o, k _ _ (.inl rfl) e⟩, st⟩
theorem HOk.lt (x : HOk P w H h) (e : H a = some o) : a < h.objs.size := (x a o e).lt
theorem HOk.fresh (x : HOk P w H h) (e : h.objs.size ≤ a) : H a = none := by
  cases q : H a with
  | none => rfl
  | some u => exact absurd (Nat.lt_of_lt_of_le (x.lt q) e) (Nat.lt_irrefl _)
/-- every object of the heap is kept -/
theorem HOk.kept (x : HOk P w H h) (k : ∀ b u, h.get? b = some u → h'.get? b = some u) : HOk P w H h' := fun a o e =>
  (x a o e).stay (fun b u _ q => k b u q) (fun _ q => q) fun _ _ q => q
/-- a new object is laid and tracked -/
theorem HOk.laid (x : HOk P w H h) (k : ∀ b u, h.get? b = some u → h'.get? b = some u) (hp : h.objs.size ≤ a) (new : ObjOk P w (upd H a o) h' a o) : HOk P w (upd H a o) h' := fun b u e => by
  have hn := x.fresh hp
  by_cases hb : b = a
  · subst hb; rw [upd_same] at e; cases e; exact new
  · rw [upd_ne hb] at e
    exact (x b u e).stay (fun c v _ q => k c v q) (fun c q => by rw [upd_ne (ne_of_none q hn)]; exact q) fun c xs q => by rw [upd_ne (ne_of_none q hn)]; exact q
end

/-- what may be read as u: it is u, or a known u -/
def Rd (H : Hp) (a : Addr) (u : HO) : Prop := H a = some u ∨ ∃ o, H a = some (.frz o u)
theorem Rd.of {H : Hp} {a : Addr} {u : HO} (h : H a = some u) : Rd H a u := .inl h
theorem Rd.ok {P : Program} {w : World} {H : Hp} {h : Heap} {a : Addr} {u : HO} (r : Rd H a u) (x : HOk P w H h) : ObjOk P w H h a u := by
  rcases r with r | ⟨o, r⟩
  · exact x a u r
  · obtain ⟨_, q⟩ := x a _ r
    exact q
/-- what may be written -/
def Mut : Option HO → Prop
  | some (.lst _) => True
  | some (.dK _) => True
  | some (.dT _) => True
  | some (.set _ _) => True
  | some (.ins _ _ _) => True
  | some (.ext _) => True
  | _ => False
section
variable {P : Program} {w : World} {H : Hp} {h h' : Heap} {x e : Addr} {o' : HO}
/-- the object at e is changed: x itself, or the dict of the instance x -/
theorem HOk.write (ok : HOk P w H h) (mu : Mut (H x)) (he : e = x ∨ H e = some (.own x)) (k : ∀ b u, b ≠ e → h.get? b = some u → h'.get? b = some u) (heo : ∃ u, h'.get? e = some u)
    (new : ObjOk P w (upd H x o') h' x o') : HOk P w (upd H x o') h' := fun b u q => by
  have nown : ∀ c y, H c = some (.own y) → c ≠ x := fun c y r z => by subst z; rw [r] at mu; exact mu
  have ntup : ∀ c xs, H c = some (.tup xs) → c ≠ x := fun c xs r z => by subst z; rw [r] at mu; exact mu
  by_cases hb : b = x
  · subst hb; rw [upd_same] at q; cases q; exact new
  · rw [upd_ne hb] at q
    by_cases hbe : b = e
    · have q' : H b = some (.own x) := by
        rcases he with z | z
        · exact absurd (hbe.trans z) hb
        · rw [hbe]; exact z
      rw [q] at q'; cases q'
      obtain ⟨v, hv⟩ := heo
      exact ⟨v, by rw [hbe]; exact hv⟩
    · refine (ok b u q).stay (fun c v hc r => k c v ?_ r) (fun c r => by rw [upd_ne (nown c b r)]; exact r) fun c xs r => by rw [upd_ne (ntup c xs r)]; exact r
      rcases hc with rfl | hc
      · exact hbe
      · rintro rfl
        rcases he with z | z
        · exact nown c b hc z
        · rw [hc] at z; cases z; exact hb rfl
end

/-! ### kept unless tracked; of the frames at fs (the callers') the slots may change (an exception that passes writes there); of the records at ex (iterators) nothing is said -/
structure Un (fs ex : List Addr) (H H' : Hp) (h h' : Heap) : Prop where
  keep : ∀ b o, h.get? b = some o → H b = none → b ∉ fs → b ∉ ex → h'.get? b = some o
  slot : ∀ b o, h.get? b = some o → H b = none → b ∈ fs → b ∉ ex → ∃ sl, h'.get? b = some { o with slots := sl }
  free : ∀ b o, h.get? b = some o → H b = none → b ∉ ex → H' b = none
  there : ∀ b o, h.get? b = some o → b ∉ ex → ∃ o', h'.get? b = some o'
  tups : ∀ b xs, H b = some (.tup xs) → H' b = some (.tup xs)
  frzs : ∀ b o u, H b = some (.frz o u) → H' b = some (.frz o u)
  tbls : ∀ b ps, H b = some (.tbl ps) → ∃ more, H' b = some (.tbl (ps ++ more))
section
variable {fs fs' ex ex' : List Addr} {H H1 H2 : Hp} {h h1 h2 h' : Heap} {a x e : Addr} {o : HO}
theorem Un.any (u : Un fs ex H H1 h h1) {b : Addr} {ob : Obj} (q : h.get? b = some ob) (n : H b = none) (hx : b ∉ ex) : ∃ sl, h1.get? b = some { ob with slots := sl } := by
  by_cases hb : b ∈ fs
  · exact u.slot b ob q n hb hx
  · exact ⟨ob.slots, u.keep b ob q n hb hx⟩
theorem Un.trans (a : Un fs ex H H1 h h1) (b : Un fs ex H1 H2 h1 h2) : Un fs ex H H2 h h2 where
  keep := fun c ob q n hc hx => b.keep c ob (a.keep c ob q n hc hx) (a.free c ob q n hx) hc hx
  slot := fun c ob q n hc hx => by
    obtain ⟨sl, e1⟩ := a.slot c ob q n hc hx
    obtain ⟨sl', e2⟩ := b.slot c _ e1 (a.free c ob q n hx) hc hx
    exact ⟨sl', e2⟩
  free := fun c ob q n hx => by
    obtain ⟨o', e1⟩ := a.there c ob q hx
    exact b.free c o' e1 (a.free c ob q n hx) hx
  there := fun c ob q hx => by
    obtain ⟨o', e1⟩ := a.there c ob q hx
    exact b.there c o' e1 hx
  tups := fun c xs q => b.tups c xs (a.tups c xs q)
  frzs := fun c ob xs q => b.frzs c ob xs (a.frzs c ob xs q)
  tbls := fun c ps q => by
    obtain ⟨m1, e1⟩ := a.tbls c ps q
    obtain ⟨m2, e2⟩ := b.tbls c _ e1
    exact ⟨m1 ++ m2, by rw [e2, Array.append_assoc]⟩
theorem Un.kept (k : ∀ b u, h.get? b = some u → h'.get? b = some u) : Un fs ex H H h h' :=
  ⟨fun b ob q _ _ _ => k b ob q, fun b ob q _ _ _ => ⟨ob.slots, k b ob q⟩, fun _ _ _ n _ => n, fun b ob q _ => ⟨ob, k b ob q⟩, fun _ _ q => q, fun _ _ _ q => q, fun _ ps q => ⟨#[], by rw [q]; simp⟩⟩
theorem Un.refl : Un fs ex H H h h := Un.kept fun _ _ q => q
theorem Un.laid (k : ∀ b u, h.get? b = some u → h'.get? b = some u) (hp : h.objs.size ≤ a) (hn : H a = none) : Un fs ex H (upd H a o) h h' where
  keep := fun b u q _ _ _ => k b u q
  slot := fun b u q _ _ _ => ⟨u.slots, k b u q⟩
  free := fun b u q n _ => by rw [upd_ne (Nat.ne_of_lt (Nat.lt_of_lt_of_le (Heap.lt_size q) hp))]; exact n
  there := fun b u q _ => ⟨u, k b u q⟩
  tups := fun b xs q => by rw [upd_ne (ne_of_none q hn)]; exact q
  frzs := fun b u xs q => by rw [upd_ne (ne_of_none q hn)]; exact q
  tbls := fun b ps q => ⟨#[], by rw [upd_ne (ne_of_none q hn), q]; simp⟩
theorem Un.write (mu : Mut (H x)) (he : e = x ∨ H e = some (.own x)) (k : ∀ b u, b ≠ e → h.get? b = some u → h'.get? b = some u) (heo : ∃ u, h'.get? e = some u) : Un fs ex H (upd H x o) h h' := by
  have hx : ∀ b, H b = none → b ≠ x := fun b n z => by subst z; rw [n] at mu; exact mu
  have hb : ∀ b, H b = none → b ≠ e := fun b n z => by
    subst z
    rcases he with r | r
    · exact hx b n r
    · rw [n] at r; cases r
  have hm : ∀ b u, H b = some u → ¬ Mut (some u) → b ≠ x := fun b u q nm z => by subst z; rw [q] at mu; exact nm mu
  refine ⟨fun b u q n _ _ => k b u (hb b n) q, fun b u q n _ _ => ⟨u.slots, k b u (hb b n) q⟩, fun b u q n _ => by rw [upd_ne (hx b n)]; exact n, fun b u q _ => ?_,
    fun b xs q => by rw [upd_ne (hm b _ q fun z => z)]; exact q, fun b u xs q => by rw [upd_ne (hm b _ q fun z => z)]; exact q, fun b ps q => ⟨#[], by rw [upd_ne (hm b _ q fun z => z), q]; simp⟩⟩
  by_cases hbe : b = e
  · subst hbe; exact heo
  · exact ⟨u, k b u hbe q⟩
theorem Un.mono (u : Un fs ex H H1 h h1) (hs : ∀ b ∈ fs, b ∈ fs') (hx : ∀ b ∈ ex, b ∈ ex') : Un fs' ex' H H1 h h1 :=
  ⟨fun b ob q n hb he => u.keep b ob q n (fun z => hb (hs b z)) fun z => he (hx b z), fun _ _ q n _ he => u.any q n fun z => he (hx _ z), fun b ob q n he => u.free b ob q n fun z => he (hx b z), fun b ob q he => u.there b ob q fun z => he (hx b z), u.tups, u.frzs, u.tbls⟩
end

/-! ### the heap without what is tracked -/
def trk (h : Heap) (H : Hp) : List Addr := (List.range h.objs.size).filter fun a => (H a).isSome
def hidT (h : Heap) (H : Hp) : Heap := PySem.W.hideAll h (trk h H)
theorem hidT_size (h : Heap) (H : Hp) : (hidT h H).objs.size = h.objs.size := PySem.W.hideAll_size _ _
theorem hidT_get {h : Heap} {H : Hp} {b : Addr} {o : Obj} (e : h.get? b = some o) (n : H b = none) : (hidT h H).get? b = some o :=
  PySem.W.hideAll_get _ e fun hm => by
    have q : (H b).isSome = true := (List.mem_filter.mp hm).2
    rw [n] at q; simp at q
theorem of_hidT {h : Heap} {H : Hp} {b : Addr} {o : Obj} (e : (hidT h H).get? b = some o) : h.get? b = some o ∧ H b = none := by
  have e' : h.get? b = some o := PySem.W.of_hideAll (trk h H) e
  refine ⟨e', ?_⟩
  cases q : H b with
  | none => rfl
  | some x =>
    have hm : b ∈ trk h H := List.mem_filter.mpr ⟨List.mem_range.mpr (Heap.lt_size e'), by simp [q]⟩
    have z : (hidT h H).get? b = none := PySem.W.hideAll_none (trk h H) hm
    rw [z] at e; cases e

/-! ### OpenK's ledger, filled with every new object but one -/
def allNews (g h : Heap) (L : Addr) : List (Addr × Obj) := (List.range h.objs.size).filterMap fun a => if a = L ∨ (g.get? a).isSome = true then none else (h.get? a).map fun o => (a, o)
def rest (g h : Heap) (L d : Addr) : List (Addr × Obj) := (allNews g h L).filter fun p => decide (p.1 ≠ d)
end L2

namespace L2
open PySem PySem.Spec PyProof.Rows

/-- the module's facts, over the base: the heap at the law's entry without what is tracked there -/
structure Mod (K : PySem.W.Frag) (mg : Str → Option Value) (base : Heap) : Prop where
  kin : K.In base
  glob : base.Ns mainGlobals mg
  blt : ∃ mb, base.Ns builtinsNs mb ∧ ∀ x : Str, x ≠ "__name__" → mb x = bootBuiltins x
  nolimit : base.NoLimit

/-- the context: a def's body (or a comprehension's block) running. base: fixed through the whole law; s₀, H₀: the entry; outer: the frames whose slots others may change (a def's callers); stack: all frames that run;
   ex: iterators that were made ahead of the entry and are walked here (a comprehension's); fn: the names whose cells were made at the entry (a def: all; a comprehension's block: its own); calm: not within an except suite; pn: pins that every state bears; xe: what is wanted of an exception that leaves the code -/
structure Cx where
  prog : Program
  w : World
  K : PySem.W.Frag
  mg : Str → Option Value
  base : Heap
  A : Around
  N : List Str
  s₀ : Shared
  H₀ : Hp
  env : Env
  outer : List Env
  stack : List Env
  ex : List Addr
  fn : Str → Bool
  calm : Bool
  pn : List (Addr × Obj)
  xe : Value → Shared → Prop
/-- the callers' frames -/
def frs (l : List Env) : List Addr := l.filterMap (·.frame)
abbrev Cx.fs (X : Cx) : List Addr := frs X.outer

def Vis (sc : Scope) (x : Str) : Prop := sc.names.lookup x = some .local ∨ sc.names.lookup x = some .cell ∨ sc.names.lookup x = some .free
def Loc (sc : Scope) (x : Str) : Prop := sc.names.lookup x = some .local ∨ sc.names.lookup x = some .cell
def Look (env : Env) (h : Heap) (m : Str → Option Value) (x : Str) (u : Value) : Prop :=
  (env.kindOf x = some .local ∧ m x = some u) ∨ ((env.kindOf x = some .cell ∨ env.kindOf x = some .free) ∧ ∃ c, env.cells.lookup x = some c ∧ h.IsCell c (some u))

structure Cx.Ok (X : Cx) : Prop where
  mod : Mod X.K X.mg X.base
  kind : X.env.scope.kind = .function
  glob : X.env.globals = mainGlobals
  blt : X.env.builtins = builtinsNs
  above : X.s₀.heap.objs.size ≤ X.env.locals
  inj : ∀ x y c, X.env.cells.lookup x = some c → X.env.cells.lookup y = some c → x = y
  has : ∀ x, (X.env.kindOf x = some .cell ∨ X.env.kindOf x = some .free) → ∃ c, X.env.cells.lookup x = some c
  cab : ∀ x c, X.fn x = true → X.env.cells.lookup x = some c → X.s₀.heap.objs.size ≤ c
  hd : X.calm = true → X.A.handled = none
  frames : X.A.frames = some X.stack
  stk : X.stack = X.outer ∨ (X.stack = X.env :: X.outer ∧ X.env.frame = some X.env.locals)
  exf : ∀ b ∈ X.ex, b ≠ X.env.locals ∧ ∀ x c, X.env.cells.lookup x = some c → c ≠ b
  bs : ∀ b o, X.base.get? b = some o → X.s₀.heap.get? b = some o ∧ X.H₀ b = none
  bsz : X.base.objs.size ≤ X.s₀.heap.objs.size
  noex : ∀ b o, X.base.get? b = some o → b ∉ X.ex
  exfs : ∀ b ∈ X.ex, b ∉ X.fs
  funs : X.s₀.heap.FunFrames X.base X.outer
  frf : ∀ b ∈ X.fs, X.H₀ b = none

structure Inv (X : Cx) (pins : List (Addr × Obj)) (σ : List (Option V)) (H : Hp) (s : Shared) : Prop where
  ok : X.Ok
  os : s.os = X.s₀.os
  bare : AllBare s.gens
  base : Un X.fs X.ex X.H₀ H X.s₀.heap s.heap
  loc : ∃ m, s.heap.Ns X.env.locals m ∧ ∀ (i : Nat) (x : Str) (v : V), X.N[i]? = some x → σ[i]? = some (some v) → Vis X.env.scope x → ∃ u, RelV v u ∧ Look X.env s.heap m x u
  cell : ∀ x c, X.env.cells.lookup x = some c → ∃ v, s.heap.IsCell c v
  free : H X.env.locals = none
  freeC : ∀ x c, X.env.cells.lookup x = some c → H c = none
  pin : ∀ p ∈ X.pn ++ pins, s.heap.get? p.1 = some p.2 ∧ H p.1 = none ∧ p.1 ≠ X.env.locals ∧ p.1 ∉ X.fs ∧ ∀ v, p.2.data ≠ .cell v
  hok : HOk X.prog X.w H s.heap
  len : σ.length = X.N.length

section
variable {X : Cx} {pins : List (Addr × Obj)} {σ : List (Option V)} {H H' : Hp} {s : Shared} {h' : Heap}

theorem Cx.Ok.nofr (ok : X.Ok) {b : Addr} {o : Obj} (e : X.base.get? b = some o) : b ∉ X.fs := fun hb => by
  have := (ok.funs.mem hb).1
  rw [e] at this; cases this
theorem Inv.bs (I : Inv X pins σ H s) : ∀ b o, X.base.get? b = some o → s.heap.get? b = some o ∧ H b = none := fun b o e =>
  ⟨I.base.keep b o (I.ok.bs b o e).1 (I.ok.bs b o e).2 (I.ok.nofr e) (I.ok.noex b o e), I.base.free b o (I.ok.bs b o e).1 (I.ok.bs b o e).2 (I.ok.noex b o e)⟩
theorem Inv.bk (I : Inv X pins σ H s) : ∀ b o, X.base.get? b = some o → s.heap.get? b = some o := fun b o e => (I.bs b o e).1
theorem Inv.mod (I : Inv X pins σ H s) : Mod X.K X.mg X.base := I.ok.mod
theorem Inv.kIn (I : Inv X pins σ H s) : X.K.In s.heap := I.ok.mod.kin.keeps I.bk
theorem Inv.nolimit (I : Inv X pins σ H s) : s.heap.NoLimit := I.ok.mod.nolimit.keeps I.bk
/-- the frame over the base: for OpenK's rules (K.In X.base is I.mod.kin) -/
theorem Inv.fr (I : Inv X pins σ H s) : ∃ m, Fr X.base X.env.locals s.heap m :=
  let ⟨m, hn, _⟩ := I.loc
  ⟨m, hn, I.bk, Nat.le_trans I.ok.bsz I.ok.above⟩
theorem Inv.lt (I : Inv X pins σ H s) : X.env.locals < s.heap.objs.size := let ⟨_, hn, _⟩ := I.loc; hn.lt
theorem Inv.sz (I : Inv X pins σ H s) : X.s₀.heap.objs.size ≤ s.heap.objs.size := Nat.le_trans I.ok.above (Nat.le_of_lt I.lt)
theorem Inv.nofs (I : Inv X pins σ H s) {a : Addr} (h : s.heap.objs.size ≤ a) : a ∉ X.fs := fun hb => by
  obtain ⟨_, o, ho, _⟩ := I.ok.funs.mem hb
  exact absurd (Nat.lt_of_lt_of_le (Heap.lt_size ho) (Nat.le_trans I.sz h)) (Nat.lt_irrefl _)
theorem Inv.cne (I : Inv X pins σ H s) : ∀ x c, X.env.cells.lookup x = some c → c ≠ X.env.locals := fun x c e z => by
  obtain ⟨v, o, ho, hd⟩ := I.cell x c e
  obtain ⟨m, ⟨o', es, ep, ho', hd', _⟩, _⟩ := I.loc
  rw [z, ho'] at ho; cases ho; rw [hd'] at hd; cases hd
theorem Inv.funs (I : Inv X pins σ H s) : s.heap.FunFrames X.base X.outer := by
  have all : ∀ (l : List Env), (∀ b ∈ frs l, b ∈ X.fs) → X.s₀.heap.FunFrames X.base l → s.heap.FunFrames X.base l := by
    intro l
    induction l with
    | nil => intro _ _; trivial
    | cons env r ih =>
      intro hs hl
      obtain ⟨hk, ⟨L, o, hf, hn, ho, hd⟩, hr⟩ := hl
      have hL : L ∈ X.fs := hs L (by unfold frs; rw [List.filterMap_cons, hf]; exact List.mem_cons_self)
      obtain ⟨sl, e⟩ := I.base.slot L o ho (I.ok.frf L hL) hL fun z => I.ok.exfs L z hL
      exact ⟨hk, ⟨L, _, hf, hn, e, hd⟩, ih (fun b hb => hs b (by unfold frs; rw [List.filterMap_cons, hf]; exact List.mem_cons_of_mem _ hb)) hr⟩
  exact all X.outer (fun _ hb => hb) I.ok.funs

/-- the frames that run, for a call -/
theorem Inv.stack (I : Inv X pins σ H s) : s.heap.FunFrames X.base X.stack := by
  rcases I.ok.stk with e | ⟨e, hf⟩
  · rw [e]; exact I.funs
  · rw [e]
    obtain ⟨m, hn, _⟩ := I.loc
    refine .cons (by rw [I.ok.kind]; decide) hf hn ?_ I.funs
    exact Heap.get?_none_of_le (Nat.le_trans I.ok.bsz I.ok.above)
theorem Inv.stkSub (I : Inv X pins σ H s) : ∀ b ∈ frs X.stack, b ∈ X.env.locals :: X.fs := fun b hb => by
  rcases I.ok.stk with e | ⟨e, hf⟩
  · rw [e] at hb; exact List.mem_cons_of_mem _ hb
  · rw [e] at hb
    unfold frs at hb
    rw [List.filterMap_cons, hf] at hb
    exact hb
theorem Inv.stkFree (I : Inv X pins σ H s) : ∀ b ∈ frs X.stack, H b = none := fun b hb => by
  rcases List.mem_cons.mp (I.stkSub b hb) with e | hb
  · rw [e]; exact I.free
  · obtain ⟨_, o, ho, _⟩ := I.ok.funs.mem hb
    exact I.base.free b o ho (I.ok.frf b hb) fun z => I.ok.exfs b z hb

/-- THE STEP: the untracked objects but the frame and the records at ch are kept (the callers' frames up to slots), the frame's map is kept, the new abstract heap is held -/
theorem Inv.step {g' : Array GenState} {t' : Nat} {d' : Drawn} {ch : List Addr} (I : Inv X pins σ H s)
    (hch : ∀ b ∈ ch, (b ∈ X.ex ∨ X.s₀.heap.objs.size ≤ b) ∧ b ≠ X.env.locals ∧ (∀ x c, X.env.cells.lookup x = some c → c ≠ b) ∧ ∀ p ∈ X.pn ++ pins, p.1 ≠ b)
    (keep : ∀ b o, b ≠ X.env.locals → b ∉ X.fs → b ∉ ch → s.heap.get? b = some o → H b = none → h'.get? b = some o)
    (slot : ∀ b o, b ≠ X.env.locals → b ∈ X.fs → b ∉ ch → s.heap.get? b = some o → H b = none → ∃ sl, h'.get? b = some { o with slots := sl }) (free : ∀ b o, b ∉ ch → s.heap.get? b = some o → H b = none → H' b = none)
    (there : ∀ b o, b ∉ ch → s.heap.get? b = some o → ∃ o', h'.get? b = some o')
    (tups : ∀ b xs, H b = some (.tup xs) → H' b = some (.tup xs)) (frzs : ∀ b o u, H b = some (.frz o u) → H' b = some (.frz o u)) (tbls : ∀ b ps, H b = some (.tbl ps) → ∃ more, H' b = some (.tbl (ps ++ more)))
    (ns : ∀ m, s.heap.Ns X.env.locals m → h'.Ns X.env.locals m) (hok : HOk X.prog X.w H' h') (hg : AllBare g') :
    Inv X pins σ H' { s with heap := h', gens := g', drawn := d', toks := t' } := by
  have neL : ∀ b o, X.s₀.heap.get? b = some o → b ≠ X.env.locals := fun b o e => Nat.ne_of_lt (Nat.lt_of_lt_of_le (Heap.lt_size e) I.ok.above)
  have neC : ∀ b o, X.s₀.heap.get? b = some o → b ∉ X.ex → b ∉ ch := fun b o e hx hb => by
    rcases (hch b hb).1 with z | z
    · exact hx z
    · exact absurd (Nat.lt_of_lt_of_le (Heap.lt_size e) z) (Nat.lt_irrefl _)
  have cellK : ∀ x c, X.env.cells.lookup x = some c → ∀ v, s.heap.IsCell c v → h'.IsCell c v := fun x c e v ⟨o, ho, hd⟩ => by
    have nch : c ∉ ch := fun z => (hch c z).2.2.1 x c e rfl
    by_cases hc : c ∈ X.fs
    · obtain ⟨sl, q⟩ := slot c o (I.cne x c e) hc nch ho (I.freeC x c e)
      exact ⟨_, q, hd⟩
    · exact ⟨o, keep c o (I.cne x c e) hc nch ho (I.freeC x c e), hd⟩
  refine ⟨I.ok, I.os, hg, ⟨fun b o e n hb hx => ?_, fun b o e n hb hx => ?_, fun b o e n hx => ?_, fun b o e hx => ?_, fun b xs e => tups b xs (I.base.tups b xs e), fun b o xs e => frzs b o xs (I.base.frzs b o xs e), fun b ps e => ?_⟩, ?_, fun x c e => ?_, ?_, fun x c e => ?_, fun p hp => ?_, hok, I.len⟩
  · exact keep b o (neL b o e) hb (neC b o e hx) (I.base.keep b o e n hb hx) (I.base.free b o e n hx)
  · obtain ⟨sl, e1⟩ := I.base.slot b o e n hb hx
    obtain ⟨sl', e2⟩ := slot b _ (neL b o e) hb (neC b o e hx) e1 (I.base.free b o e n hx)
    exact ⟨sl', e2⟩
  · obtain ⟨o', e1⟩ := I.base.there b o e hx
    exact free b o' (neC b o e hx) e1 (I.base.free b o e n hx)
  · obtain ⟨o', e1⟩ := I.base.there b o e hx
    exact there b o' (neC b o e hx) e1
  · obtain ⟨m1, e1⟩ := I.base.tbls b ps e
    obtain ⟨m2, e2⟩ := tbls b _ e1
    exact ⟨m1 ++ m2, by rw [e2, Array.append_assoc]⟩
  · obtain ⟨m, hn, hl⟩ := I.loc
    refine ⟨m, ns m hn, fun i x v e1 e2 e3 => ?_⟩
    obtain ⟨u, r, l⟩ := hl i x v e1 e2 e3
    refine ⟨u, r, ?_⟩
    rcases l with l | ⟨k, c, e, z⟩
    · exact .inl l
    · exact .inr ⟨k, c, e, cellK x c e _ z⟩
  · obtain ⟨v, z⟩ := I.cell x c e
    exact ⟨v, cellK x c e v z⟩
  · obtain ⟨m, ⟨o, _, _, ho, _⟩, _⟩ := I.loc
    exact free _ o (fun z => (hch _ z).2.1 rfl) ho I.free
  · obtain ⟨v, o, ho, hd⟩ := I.cell x c e
    exact free c o (fun z => (hch c z).2.2.1 x c e rfl) ho (I.freeC x c e)
  · obtain ⟨e, n, ne, nf, d⟩ := I.pin p hp
    have nch : p.1 ∉ ch := fun z => (hch p.1 z).2.2.2 p hp rfl
    exact ⟨keep p.1 p.2 ne nf nch e n, free p.1 p.2 nch e n, ne, nf, d⟩
/-- .. where the frame's own object is kept too -/
theorem Inv.un {t' : Nat} (I : Inv X pins σ H s) (u : Un X.fs [] H H' s.heap h') (hok : HOk X.prog X.w H' h') : Inv X pins σ H' { s with heap := h', toks := t' } := by
  obtain ⟨m, ⟨o, es, ep, ho, r⟩, _⟩ := id I.loc
  obtain ⟨sl, hL⟩ := u.any ho I.free (by simp)
  exact I.step (g' := s.gens) (d' := s.drawn) (ch := []) (fun _ z => nomatch z) (fun b o _ hb _ e n => u.keep b o e n hb (by simp)) (fun b o _ hb _ e n => u.slot b o e n hb (by simp)) (fun b o _ e n => u.free b o e n (by simp)) (fun b o _ e => u.there b o e (by simp)) u.tups u.frzs u.tbls (fun m' hm => by
    obtain ⟨o', es', ep', ho', r'⟩ := hm
    rw [ho] at ho'; cases ho'
    exact ⟨_, es', ep', hL, r'⟩) hok I.bare
/-- behind a call (or a comprehension's block): the slots of this frame may have changed too, the records at ch may have turned -/
theorem Inv.call {g' : Array GenState} {t' : Nat} {d' : Drawn} {ch : List Addr} (I : Inv X pins σ H s) (u : Un (frs X.stack) ch H H' s.heap h') (hok : HOk X.prog X.w H' h') (hg : AllBare g')
    (hch : ∀ b ∈ ch, (b ∈ X.ex ∨ X.s₀.heap.objs.size ≤ b) ∧ b ≠ X.env.locals ∧ (∀ x c, X.env.cells.lookup x = some c → c ≠ b) ∧ ∀ p ∈ X.pn ++ pins, p.1 ≠ b) :
    Inv X pins σ H' { s with heap := h', gens := g', drawn := d', toks := t' } := by
  obtain ⟨m, ⟨o, es, ep, ho, r⟩, _⟩ := id I.loc
  obtain ⟨sl, hL⟩ := u.any ho I.free fun z => (hch _ z).2.1 rfl
  exact I.step (ch := ch) hch (fun b o hL hb hc e n => u.keep b o e n (fun z => (List.mem_cons.mp (I.stkSub b z)).elim hL hb) hc) (fun b o _ _ hc e n => u.any e n hc) (fun b o hc e n => u.free b o e n hc) (fun b o hc e => u.there b o e hc) u.tups u.frzs u.tbls (fun m' hm => by
    obtain ⟨o', es', ep', ho', r'⟩ := hm
    rw [ho] at ho'; cases ho'
    exact ⟨_, es', ep', hL, r'⟩) hok hg
/-- an untracked record of ours (an iterator) has turned -/
theorem Inv.turned {t' : Nat} {it : Addr} (I : Inv X pins σ H s) (k : ∀ b o, b ≠ it → s.heap.get? b = some o → h'.get? b = some o) (hn : H it = none) (hL : it ≠ X.env.locals)
    (h1 : it ∈ X.ex ∨ X.s₀.heap.objs.size ≤ it) (h2 : ∀ x c, X.env.cells.lookup x = some c → c ≠ it) (h3 : ∀ p ∈ X.pn ++ pins, p.1 ≠ it) : Inv X pins σ H { s with heap := h', toks := t' } := by
  have nit : ∀ b u, H b = some u → b ≠ it := fun b u e z => by rw [z, hn] at e; cases e
  refine I.step (g' := s.gens) (d' := s.drawn) (ch := [it]) (fun b hb => ?_) (fun b o _ _ hc e _ => k b o (fun z => hc (by simp [z])) e) (fun b o _ _ hc e _ => ⟨o.slots, k b o (fun z => hc (by simp [z])) e⟩) (fun _ _ _ _ n => n)
    (fun b o hc e => ⟨o, k b o (fun z => hc (by simp [z])) e⟩) (fun _ _ e => e) (fun _ _ _ e => e) (fun b ps e => ⟨#[], by rw [e]; simp⟩) (fun m hm => ?_) (fun b u e => ?_) I.bare
  · have e : b = it := by simpa using hb
    subst e
    exact ⟨h1, hL, h2, h3⟩
  · obtain ⟨o, es, ep, ho, r⟩ := hm
    exact ⟨o, es, ep, k _ o (Ne.symm hL) ho, r⟩
  · refine (I.hok b u e).stay (fun c v hc q => k c v ?_ q) (fun _ q => q) fun _ _ q => q
    rcases hc with z | z
    · rw [z]; exact nit b u e
    · exact nit c _ z
theorem Inv.tok (I : Inv X pins σ H s) (t : Nat) : Inv X pins σ H { s with toks := t } := I.un (h' := s.heap) (t' := t) Un.refl I.hok
/-- all objects kept -/
theorem Inv.kept {t' : Nat} (I : Inv X pins σ H s) (k : ∀ b u, s.heap.get? b = some u → h'.get? b = some u) : Inv X pins σ H { s with heap := h', toks := t' } := I.un (Un.kept k) (I.hok.kept k)
/-- a new object laid and tracked -/
theorem Inv.laid {a : Addr} {o : HO} {t' : Nat} (I : Inv X pins σ H s) (k : ∀ b u, s.heap.get? b = some u → h'.get? b = some u) (hp : s.heap.objs.size ≤ a) (new : ObjOk X.prog X.w (upd H a o) h' a o) :
    Inv X pins σ (upd H a o) { s with heap := h', toks := t' } := I.un (Un.laid k hp (I.hok.fresh hp)) (I.hok.laid k hp new)
/-- an object written -/
theorem Inv.write {x e : Addr} {o : HO} {t' : Nat} (I : Inv X pins σ H s) (mu : Mut (H x)) (he : e = x ∨ H e = some (.own x)) (k : ∀ b u, b ≠ e → s.heap.get? b = some u → h'.get? b = some u) (heo : ∃ u, h'.get? e = some u)
    (new : ObjOk X.prog X.w (upd H x o) h' x o) : Inv X pins σ (upd H x o) { s with heap := h', toks := t' } := I.un (Un.write mu he k heo) (I.hok.write mu he k heo new)
/-- forgetting slots, pins -/
theorem Inv.weak {σ' : List (Option V)} (I : Inv X pins σ H s) (hl : σ'.length = σ.length) (w : ∀ (i : Nat) v, σ'[i]? = some (some v) → σ[i]? = some (some v)) : Inv X pins σ' H s :=
  ⟨I.ok, I.os, I.bare, I.base, let ⟨m, hn, hl'⟩ := I.loc; ⟨m, hn, fun i x v e1 e2 e3 => hl' i x v e1 (w i v e2) e3⟩, I.cell, I.free, I.freeC, I.pin, I.hok, hl.trans I.len⟩
theorem Inv.pins_of {pins' : List (Addr × Obj)} (I : Inv X pins σ H s) (h : ∀ p ∈ pins', s.heap.get? p.1 = some p.2 ∧ H p.1 = none ∧ p.1 ≠ X.env.locals ∧ p.1 ∉ X.fs ∧ ∀ v, p.2.data ≠ .cell v) : Inv X pins' σ H s :=
  ⟨I.ok, I.os, I.bare, I.base, I.loc, I.cell, I.free, I.freeC, fun p hp => (List.mem_append.mp hp).elim (fun z => I.pin p (List.mem_append_left _ z)) (h p), I.hok, I.len⟩

theorem nodup_ix {N : List Str} (hN : N.Nodup) {i j : Nat} {x : Str} (a : N[i]? = some x) (b : N[j]? = some x) : i = j := by
  obtain ⟨h1, e1⟩ := List.getElem?_eq_some_iff.mp a
  obtain ⟨h2, e2⟩ := List.getElem?_eq_some_iff.mp b
  exact (List.getElem_inj hN).mp (e1.trans e2.symm)

/-- a name is stored; what changed -/
theorem store_ok2 {M : Model} {A : Around} {E : Value → Shared → Prop} {i : Nat} {x : Str} {v : V} {u : Value} {Q : Unit → Shared → Prop} (I : Inv X pins σ H s) (hN : X.N.Nodup) (hi : X.N[i]? = some x) (hx : Loc X.env.scope x) (r : RelV v u)
    (h : ∀ s', Inv X pins (σ.set i (some v)) H s' → (∃ a, Heap.SameBut a s.heap s'.heap ∧ (a = X.env.locals ∨ X.env.cells.lookup x = some a)) → Q () s') (hf : X.fn x = true ∨ X.env.scope.names.lookup x = some .local := by first | exact .inl rfl | exact .inr rfl | assumption) : wpAny M A (storeName X.env x u) Q E s := by
  obtain ⟨m, hn, hl⟩ := id I.loc
  have hcls : (X.env.scope.kind == .class || (X.env.scope.kind == .module && X.env.locals != X.env.globals)) = false := by rw [I.ok.kind]; rfl
  have hiσ : i < σ.length := by rw [I.len]; exact (List.getElem?_eq_some_iff.mp hi).1
  have cne := I.cne
  have tracked : ∀ {a : Addr} {h' : Heap}, (∃ o, s.heap.get? a = some o ∧ H a = none) → Heap.SameBut a s.heap h' → HOk X.prog X.w H h' := fun {a h'} ha hs b ob e => by
    obtain ⟨_, _, hfree⟩ := ha
    refine (I.hok b ob e).stay (fun c w' hc q => (hs.2 c ?_).trans q) (fun _ q => q) fun _ _ q => q
    rintro rfl
    rcases hc with rfl | hc
    · rw [hfree] at e; cases e
    · rw [hfree] at hc; cases hc
  rcases hx with hk | hk
  · refine wpAny_storeName_local hk hn (fun h' hn' hs => ?_) hcls
    obtain ⟨oL, _, _, hoL, _⟩ := id hn
    refine h _ ⟨I.ok, I.os, I.bare, ⟨fun b o e n hb hx => ?_, fun b o e n hb hx => ?_, I.base.free, fun b o e hx => ?_, I.base.tups, I.base.frzs, I.base.tbls⟩, ⟨_, hn', fun j y v' e1 e2 e3 => ?_⟩, fun y c e => ?_, I.free, I.freeC, fun p hp => ?_, tracked ⟨oL, hoL, I.free⟩ hs, by simpa using I.len⟩ ⟨_, hs, .inl rfl⟩
    · exact (hs.2 b (Nat.ne_of_lt (Nat.lt_of_lt_of_le (Heap.lt_size e) I.ok.above))).trans (I.base.keep b o e n hb hx)
    · obtain ⟨sl, e1⟩ := I.base.slot b o e n hb hx
      exact ⟨sl, (hs.2 b (Nat.ne_of_lt (Nat.lt_of_lt_of_le (Heap.lt_size e) I.ok.above))).trans e1⟩
    · obtain ⟨o', e1⟩ := I.base.there b o e hx
      exact ⟨o', (hs.2 b (Nat.ne_of_lt (Nat.lt_of_lt_of_le (Heap.lt_size e) I.ok.above))).trans e1⟩
    · by_cases hj : j = i
      · subst hj
        rw [hi] at e1; cases e1
        rw [List.getElem?_set_self hiσ] at e2
        cases e2
        exact ⟨u, r, .inl ⟨hk, by simp⟩⟩
      · rw [List.getElem?_set_ne (Ne.symm hj)] at e2
        obtain ⟨u', r', q⟩ := hl j y v' e1 e2 e3
        refine ⟨u', r', ?_⟩
        rcases q with ⟨k, e⟩ | ⟨k, c, e, z⟩
        · refine .inl ⟨k, ?_⟩
          have : y ≠ x := fun e => hj (nodup_ix hN e1 (e ▸ hi))
          simp [this, e]
        · exact .inr ⟨k, c, e, z.sameBut hs (cne y c e)⟩
    · obtain ⟨w', z⟩ := I.cell y c e
      exact ⟨w', z.sameBut hs (cne y c e)⟩
    · obtain ⟨e, n, ne, nf, d⟩ := I.pin p hp
      exact ⟨(hs.2 p.1 ne).trans e, n, ne, nf, d⟩
  · have hfn : X.fn x = true := by
      rcases hf with z | z
      · exact z
      · rw [z] at hk; cases hk
    obtain ⟨c, hc⟩ := I.ok.has x (.inl hk)
    obtain ⟨w', z⟩ := I.cell x c hc
    refine wpAny_storeName_cell I.ok.kind hk hc z (fun h' hc' hs => ?_)
    obtain ⟨oc, hoc, hocd⟩ := id z
    refine h { s with heap := h' } ⟨I.ok, I.os, I.bare, ⟨fun b o e n hb hx => ?_, fun b o e n hb hx => ?_, I.base.free, fun b o e hx => ?_, I.base.tups, I.base.frzs, I.base.tbls⟩, ⟨m, hn.sameBut hs (Ne.symm (cne x c hc)), fun j y v' e1 e2 e3 => ?_⟩, fun y c' e => ?_, I.free, I.freeC, fun p hp => ?_, tracked ⟨oc, hoc, I.freeC x c hc⟩ hs, by simpa using I.len⟩ ⟨c, hs, .inr hc⟩
    · exact (hs.2 b (Nat.ne_of_lt (Nat.lt_of_lt_of_le (Heap.lt_size e) (I.ok.cab x c hfn hc)))).trans (I.base.keep b o e n hb hx)
    · obtain ⟨sl, e1⟩ := I.base.slot b o e n hb hx
      exact ⟨sl, (hs.2 b (Nat.ne_of_lt (Nat.lt_of_lt_of_le (Heap.lt_size e) (I.ok.cab x c hfn hc)))).trans e1⟩
    · obtain ⟨o', e1⟩ := I.base.there b o e hx
      exact ⟨o', (hs.2 b (Nat.ne_of_lt (Nat.lt_of_lt_of_le (Heap.lt_size e) (I.ok.cab x c hfn hc)))).trans e1⟩
    · by_cases hj : j = i
      · subst hj
        rw [hi] at e1; cases e1
        rw [List.getElem?_set_self hiσ] at e2
        cases e2
        exact ⟨u, r, .inr ⟨.inl hk, c, hc, hc'⟩⟩
      · rw [List.getElem?_set_ne (Ne.symm hj)] at e2
        obtain ⟨u', r', q⟩ := hl j y v' e1 e2 e3
        refine ⟨u', r', ?_⟩
        rcases q with q | ⟨k, c', e, z'⟩
        · exact .inl q
        · refine .inr ⟨k, c', e, z'.sameBut hs ?_⟩
          rintro rfl
          exact hj (nodup_ix hN e1 (I.ok.inj _ _ _ e hc ▸ hi))
    · by_cases hcc : c' = c
      · subst hcc; exact ⟨_, hc'⟩
      · obtain ⟨w2, z2⟩ := I.cell y c' e
        exact ⟨w2, z2.sameBut hs hcc⟩
    · obtain ⟨e, n, ne, nf, d⟩ := I.pin p hp
      refine ⟨(hs.2 p.1 ?_).trans e, n, ne, nf, d⟩
      intro q
      rw [q, hoc] at e
      have q' : oc = p.2 := Option.some.inj e
      exact d w' (by rw [← q']; exact hocd)
theorem store_ok {M : Model} {A : Around} {E : Value → Shared → Prop} {i : Nat} {x : Str} {v : V} {u : Value} {Q : Unit → Shared → Prop} (I : Inv X pins σ H s) (hN : X.N.Nodup) (hi : X.N[i]? = some x) (hx : Loc X.env.scope x) (r : RelV v u)
    (h : ∀ s', Inv X pins (σ.set i (some v)) H s' → Q () s') (hf : X.fn x = true ∨ X.env.scope.names.lookup x = some .local := by first | exact .inl rfl | exact .inr rfl | assumption) : wpAny M A (storeName X.env x u) Q E s :=
  store_ok2 I hN hi hx r (fun s' I' _ => h s' I') hf
/-- behind a call or a block, the state as it is -/
theorem Inv.call' {s' : Shared} {ch : List Addr} (I : Inv X pins σ H s) (ho : s'.os = s.os) (u : Un (frs X.stack) ch H H' s.heap s'.heap) (hok : HOk X.prog X.w H' s'.heap) (hg : AllBare s'.gens)
    (hch : ∀ b ∈ ch, (b ∈ X.ex ∨ X.s₀.heap.objs.size ≤ b) ∧ b ≠ X.env.locals ∧ (∀ x c, X.env.cells.lookup x = some c → c ≠ b) ∧ ∀ p ∈ X.pn ++ pins, p.1 ≠ b) : Inv X pins σ H' s' := by
  obtain ⟨h', g', d', t', o'⟩ := s'
  have e : o' = s.os := ho
  subst e
  exact I.call (g' := g') (t' := t') (d' := d') u hok hg hch
end

/-! ### the judgements -/
/-- an exception: its class, its own dict's address (where it has one), the abstract heap behind it -/
abbrev XK := Value → Option Addr → Hp → Prop
abbrev St := List (Option V)
abbrev VK := V → Hp → Prop
/-- an expression's reading; a test's; an argument list's -/
abbrev TE := St → Hp → VK → Prop
abbrev TT := St → Hp → (Bool → Hp → Prop) → Prop
abbrev TA := St → Hp → (List V → Hp → Prop) → Prop
/-- what is wanted behind a statement -/
structure Ends where
  nx : St → Hp → Prop
  rt : VK
  bk : St → Hp → Prop := fun _ _ => False
  ct : St → Hp → Prop := fun _ _ => False
abbrev TS := Ends → St → Hp → Prop

def EP (X : Cx) (pins : List (Addr × Obj)) (σ : St) (Q : VK) (u : Value) (s' : Shared) : Prop := ∃ v H', Inv X pins σ H' s' ∧ RelV v u ∧ Q v H'
def TP (X : Cx) (pins : List (Addr × Obj)) (σ : St) (Q : Bool → Hp → Prop) (b : Bool) (s' : Shared) : Prop := ∃ H', Inv X pins σ H' s' ∧ Q b H'
def AP (X : Cx) (pins : List (Addr × Obj)) (σ : St) (Q : List V → Hp → Prop) (us : List Value) (s' : Shared) : Prop := ∃ vs H', Inv X pins σ H' s' ∧ Vals vs us ∧ Q vs H'
def SP (X : Cx) (pins : List (Addr × Obj)) (D : Ends) (f : Flow) (s' : Shared) : Prop :=
  match f with
  | .next => ∃ σ' H', Inv X pins σ' H' s' ∧ D.nx σ' H'
  | .brk => ∃ σ' H', Inv X pins σ' H' s' ∧ D.bk σ' H'
  | .cont => ∃ σ' H', Inv X pins σ' H' s' ∧ D.ct σ' H'
  | .ret u => ∃ v σ' H', Inv X pins σ' H' s' ∧ RelV v u ∧ D.rt v H'

def PE (X : Cx) (e : Expr) (t : TE) : Prop :=
  ∀ (pins : List (Addr × Obj)) (s : Shared) (σ : St) (H : Hp) (Q : VK), Inv X pins σ H s → t σ H Q → wpAny (model X.prog X.w) X.A (eval e X.env) (EP X pins σ Q) X.xe s
def PT (X : Cx) (e : Expr) (t : TT) : Prop :=
  ∀ (pins : List (Addr × Obj)) (s : Shared) (σ : St) (H : Hp) (Q : Bool → Hp → Prop), Inv X pins σ H s → t σ H Q → wpAny (model X.prog X.w) X.A (isTrue e X.env (eval e X.env)) (TP X pins σ Q) X.xe s
/-- a test whatever its 'whole' is (and, or) -/
def PW (X : Cx) (e : Expr) (t : TT) : Prop :=
  ∀ (whole : Sem Value) (pins : List (Addr × Obj)) (s : Shared) (σ : St) (H : Hp) (Q : Bool → Hp → Prop), Inv X pins σ H s → t σ H Q → wpAny (model X.prog X.w) X.A (isTrue e X.env whole) (TP X pins σ Q) X.xe s
theorem PW.pt {X : Cx} {e : Expr} {t : TT} (h : PW X e t) : PT X e t := h _
/-- an argument list (no star), from the left -/
def PA (X : Cx) (es : List Expr) (t : TA) : Prop :=
  ∀ (pos : Pos) (pins : List (Addr × Obj)) (s : Shared) (σ : St) (H : Hp) (Q : List V → Hp → Prop), Inv X pins σ H s → t σ H Q → wpAny (model X.prog X.w) X.A (spliced (backTo pos (starEach es X.env))) (AP X pins σ Q) X.xe s
def PS (X : Cx) (st : Stmt) (t : TS) : Prop :=
  ∀ (pins : List (Addr × Obj)) (s : Shared) (σ : St) (H : Hp) (D : Ends), Inv X pins σ H s → t D σ H → wpAny (model X.prog X.w) X.A (exec st X.env) (SP X pins D) X.xe s
def PSs (X : Cx) (st : List Stmt) (t : TS) : Prop :=
  ∀ (pins : List (Addr × Obj)) (s : Shared) (σ : St) (H : Hp) (D : Ends), Inv X pins σ H s → t D σ H → wpAny (model X.prog X.w) X.A (execs st X.env) (SP X pins D) X.xe s
/-- weaken the end -/
theorem thn {α : Type} {t : Sem α} {Q Q' : α → Shared → Prop} {M : Model} {A : Around} {E : Value → Shared → Prop} {s : Shared} (h : wpAny M A t Q E s) (hQ : ∀ a s, Q a s → Q' a s) : wpAny M A t Q' E s := wpAny_mono h hQ fun _ _ x => x
end L2

namespace L2
open PySem PySem.Spec PyProof.Rows
section
variable {X : Cx}

/-! ### names and constants -/
def tVar (i : Nat) : TE := fun σ H Q => ∃ v, σ[i]? = some (some v) ∧ Q v H
def tC (v : V) : TE := fun _ H Q => Q v H
theorem pe_var {i : Nat} {x : Str} {pos : Pos} (hN : X.N[i]? = some x) (hv : Vis X.env.scope x) (hd : (x == ("__debug__" : Str)) = false := by decide) (hcd : (x == ("__classdict__" : Str)) = false := by decide) : PE X (.Name x pos) (tVar i) := by
  intro pins s σ H Q I h
  obtain ⟨v, e, h⟩ := h
  obtain ⟨m, hn, hl⟩ := I.loc
  obtain ⟨u, r, l⟩ := hl i x v hN e hv
  have fin : EP X pins σ Q u s := ⟨v, H, I, r, h⟩
  rcases l with ⟨hk, hm⟩ | ⟨hk, c, hc, hcell⟩
  · exact wpAny_Name (wpAny_loadName_local I.ok.kind hk hn hm fin) hd
  · rcases hk with hk | hk
    · exact wpAny_Name (wpAny_loadName_cell I.ok.kind hk hc hcell fin) hd
    · exact wpAny_Name (wpAny_loadName_free I.ok.kind hk hc hcell fin hcd) hd
theorem pe_int {i j pos} : PE X (.Constant (.int i) j pos) (tC (.int i)) := fun _ _ _ H _ I h => wpAny_Constant_int ⟨.int i, H, I.tok _, ⟨_, rfl⟩, h⟩
theorem pe_bl {b j pos} : PE X (.Constant (.bool b) j pos) (tC (.bl b)) := fun _ _ _ H _ I h => Constant_bool ⟨.bl b, H, I, rfl, h⟩
theorem pe_str {x j pos} : PE X (.Constant (.str x) j pos) (tC (.str x)) := fun _ _ _ H _ I h => Calls.Constant_str ⟨.str x, H, I.tok _, ⟨_, rfl⟩, h⟩

/-- a global name of the def -/
def Gl (X : Cx) (x : Str) : Prop := X.env.kindOf x = some .globalImplicit
theorem ld_glob {E : Value → Shared → Prop} {pins : List (Addr × Obj)} {s : Shared} {σ : St} {H : Hp} {x : Str} {u : Value} {pos : Pos} {Q : Value → Shared → Prop} (I : Inv X pins σ H s) (hg : Gl X x) (hm : X.mg x = some u) (h : Q u s)
    (hd : (x == ("__debug__" : Str)) = false := by decide) : wpAny (model X.prog X.w) X.A (eval (.Name x pos) X.env) Q E s :=
  Calls.Name_function_global I.ok.kind hg (Calls.loadGlobal_global (by rw [I.ok.glob]; exact I.mod.glob.keeps I.bk) hm h) hd
theorem ld_blt {E : Value → Shared → Prop} {pins : List (Addr × Obj)} {s : Shared} {σ : St} {H : Hp} {x : Str} {u : Value} {pos : Pos} {Q : Value → Shared → Prop} (I : Inv X pins σ H s) (hg : Gl X x) (hm : X.mg x = none) (hv : bootBuiltins x = some u) (h : Q u s)
    (hn : x ≠ "__name__" := by decide) (hd : (x == ("__debug__" : Str)) = false := by decide) : wpAny (model X.prog X.w) X.A (eval (.Name x pos) X.env) Q E s := by
  obtain ⟨mb, h1, h2⟩ := I.mod.blt
  exact Calls.Name_function_global I.ok.kind hg (Calls.loadGlobal_builtin (by rw [I.ok.glob]; exact I.mod.glob.keeps I.bk) hm (by rw [I.ok.blt]; exact h1.keeps I.bk) ((h2 x hn).trans hv) h) hd
theorem pe_bltn {x : Str} {v : V} {u : Value} {pos : Pos} (hg : Gl X x) (hm : X.mg x = none) (hv : bootBuiltins x = some u) (r : RelV v u) (hn : x ≠ "__name__" := by decide) (hd : (x == ("__debug__" : Str)) = false := by decide) : PE X (.Name x pos) (tC v) :=
  fun _ _ _ H _ I h => ld_blt I hg hm hv ⟨v, H, I, r, h⟩ hn hd

/-! ### arithmetic -/
variable {a b : Expr} {ta tb : TE} {pos : Pos}
/-! ### comparisons -/
/-! ### and, or, not -/
variable {tA tB' : TT} {rest : List Expr}
def tAnd (t u : TT) : TT := fun σ H Q => t σ H fun c H1 => if c = true then u σ H1 Q else Q false H1
def tOr (t u : TT) : TT := fun σ H Q => t σ H fun c H1 => if c = true then Q true H1 else u σ H1 Q
def tNot (t : TT) : TT := fun σ H Q => t σ H fun c H1 => Q (!c) H1
theorem pw_and1 (ha : PT X a tA) : PW X (.BoolOp .And [a] pos) tA := by
  intro wh pins s σ H Q I h
  refine isTrue_and (thn (ha pins s σ H Q I h) fun c s1 e => ?_)
  cases c with
  | true => exact isTrue_and_nil e
  | false => exact e
theorem pw_or1 (ha : PT X a tA) : PW X (.BoolOp .Or [a] pos) tA := by
  intro wh pins s σ H Q I h
  refine isTrue_or (thn (ha pins s σ H Q I h) fun c s1 e => ?_)
  cases c with
  | false => exact isTrue_or_nil e
  | true => exact e
theorem pw_and (ha : PT X a tA) (hb : PW X (.BoolOp .And (b :: rest) pos) tB') : PW X (.BoolOp .And (a :: b :: rest) pos) (tAnd tA tB') := by
  intro wh pins s σ H Q I h
  refine isTrue_and (thn (ha pins s σ H _ I h) fun c s1 ⟨H1, I1, q1⟩ => ?_)
  cases c with
  | true => exact hb wh pins s1 σ H1 Q I1 q1
  | false => exact ⟨H1, I1, q1⟩
theorem pw_or (ha : PT X a tA) (hb : PW X (.BoolOp .Or (b :: rest) pos) tB') : PW X (.BoolOp .Or (a :: b :: rest) pos) (tOr tA tB') := by
  intro wh pins s σ H Q I h
  refine isTrue_or (thn (ha pins s σ H _ I h) fun c s1 ⟨H1, I1, q1⟩ => ?_)
  cases c with
  | true => exact ⟨H1, I1, q1⟩
  | false => exact hb wh pins s1 σ H1 Q I1 q1
theorem pt_not (ha : PT X a tA) : PT X (.UnaryOp .Not a pos) (tNot tA) := by
  intro pins s σ H Q I h
  exact isTrue_not (ha pins s σ H (fun c H1 => Q (!c) H1) I h)
/-- .. as values (bools) -/
def tAndV (ta tb : TE) : TE := fun σ H Q => ta σ H fun x H1 => ∃ c, x = .bl c ∧ if c = true then tb σ H1 Q else Q (.bl false) H1
def tOrV (ta tb : TE) : TE := fun σ H Q => ta σ H fun x H1 => ∃ c, x = .bl c ∧ if c = true then Q (.bl true) H1 else tb σ H1 Q
def tNotV (ta : TE) : TE := fun σ H Q => ta σ H fun x H1 => ∃ c, x = .bl c ∧ Q (.bl (!c)) H1
theorem pe_one {op} {t : TE} (h : PE X a t) : PE X (.BoolOp op [a] pos) t := fun pins s σ H Q I hw => BoolOp_one (h pins s σ H Q I hw)
theorem pe_and (ha : PE X a ta) (hb : PE X (.BoolOp .And (b :: rest) pos) tb) : PE X (.BoolOp .And (a :: b :: rest) pos) (tAndV ta tb) := by
  intro pins s σ H Q I h
  refine BoolOp_and (thn (ha pins s σ H _ I h) fun v s1 ⟨x, H1, I1, r1, q1⟩ => ?_)
  obtain ⟨c, rfl, q1⟩ := q1
  cases r1
  refine wpAny_truthy_bool ?_
  cases c with
  | true => exact hb pins s1 σ H1 Q I1 q1
  | false => exact ⟨.bl false, H1, I1, rfl, q1⟩
/-- a if t else b -/
def tIf (t : TT) (ta tb : TE) : TE := fun σ H Q => t σ H fun c H1 => if c = true then ta σ H1 Q else tb σ H1 Q
end
end L2

namespace L2
open PySem PySem.Spec PyProof.Rows

/-! ### a list, a tuple that is read: tracked, frozen, or an object of the module -/
def SqL (K : PySem.W.Frag) (H : Hp) (a : Addr) (xs : List V) : Prop :=
  Rd H a (.lst xs) ∨
    ∃ (o : Obj) (its : Array Value) (n : Nat), K.lookup a = some o ∧ o.cls = .type "list" ∧ o.dict = none ∧ o.data = .seq its n ∧ its.size ≤ sizeLine ∧ Vals xs its.toList
def SqT (K : PySem.W.Frag) (H : Hp) (a : Addr) (xs : List V) : Prop :=
  Rd H a (.tup xs) ∨
    ∃ (o : Obj) (its : Array Value) (n : Nat), K.lookup a = some o ∧ o.cls = .type "tuple" ∧ o.data = .seq its n ∧ its.size ≤ sizeLine ∧ Vals xs its.toList
def absV : Value → Option V
  | .none => some .non
  | .bool b => some (.bl b)
  | .int i _ => some (.int i)
  | .str x _ => some (.str x)
  | .bytes b _ => some (.byt b)
  | .float b _ => some (.flt b)
  | .ref a => some (.ref a)
  | .type n => some (.ty n)
  | _ => none
theorem RelV.abs {x : V} {u : Value} (r : RelV x u) : absV u = some x := by
  cases x with
  | non => cases r; rfl
  | bl _ => cases r; rfl
  | int _ => obtain ⟨t, rfl⟩ := r; rfl
  | str _ => obtain ⟨t, rfl⟩ := r; rfl
  | byt _ => obtain ⟨t, rfl⟩ := r; rfl
  | flt _ => obtain ⟨t, rfl⟩ := r; rfl
  | ref _ => cases r; rfl
  | ty _ => cases r; rfl
theorem RelV.inj {x y : V} {u : Value} (r : RelV x u) (q : RelV y u) : x = y := Option.some.inj (r.abs.symm.trans q.abs)
theorem Vals.inj : ∀ {xs ys : List V} {us : List Value}, Vals xs us → Vals ys us → xs = ys
  | _, _, _, .nil, .nil => rfl
  | _, _, _, .cons r t, .cons r' t' => by rw [r.inj r', Vals.inj t t']
section
variable {X : Cx} {pins : List (Addr × Obj)} {σ : St} {H : Hp} {s : Shared} {a : Addr} {xs ys : List V}
theorem SqL.of {K : PySem.W.Frag} (h : H a = some (.lst xs)) : SqL K H a xs := .inl (.inl h)
theorem SqT.of {K : PySem.W.Frag} (h : H a = some (.tup xs)) : SqT K H a xs := .inl (.inl h)
theorem Inv.list (I : Inv X pins σ H s) (h : SqL X.K H a xs) : ∃ its : List Value, Vals xs its ∧ PlainL s.heap a its.toArray ∧ xs.length ≤ sizeLine := by
  rcases h with h | ⟨o, its, n, hk, hc, hd, hs, hz, r⟩
  · obtain ⟨z, its, n, r, e⟩ := h.ok I.hok
    exact ⟨its, r, ⟨_, n, e, rfl, rfl, rfl⟩, z⟩
  · refine ⟨its.toList, r, ⟨o, n, I.kIn a o hk, hc, hd, by simpa using hs⟩, ?_⟩
    have e := r.length
    simp only [Array.length_toList] at e
    omega
theorem Inv.tuple (I : Inv X pins σ H s) (h : SqT X.K H a xs) : ∃ its : List Value, Vals xs its ∧ IsTup s.heap a its.toArray ∧ xs.length ≤ sizeLine := by
  rcases h with h | ⟨o, its, n, hk, hc, hs, hz, r⟩
  · obtain ⟨z, its, r, p⟩ := h.ok I.hok
    exact ⟨its, r, p, z⟩
  · refine ⟨its.toList, r, ⟨o, I.kIn a o hk, hc, n, by simpa using hs⟩, ?_⟩
    have e := r.length
    simp only [Array.length_toList] at e
    omega
theorem Inv.list_inj (I : Inv X pins σ H s) (h : SqL X.K H a xs) (h' : SqL X.K H a ys) : xs = ys := by
  obtain ⟨its, r, ⟨o, n, e, _, _, d⟩, _⟩ := I.list h
  obtain ⟨its', r', ⟨o', n', e', _, _, d'⟩, _⟩ := I.list h'
  rw [e] at e'; cases e'
  rw [d] at d'
  injection d' with d1 _
  have : its = its' := by simpa using congrArg Array.toList d1
  subst this
  exact r.inj r'
theorem Inv.tuple_inj (I : Inv X pins σ H s) (h : SqT X.K H a xs) (h' : SqT X.K H a ys) : xs = ys := by
  obtain ⟨its, r, ⟨o, e, _, n, d⟩, _⟩ := I.tuple h
  obtain ⟨its', r', ⟨o', e', _, n', d'⟩, _⟩ := I.tuple h'
  rw [e] at e'; cases e'
  rw [d] at d'
  injection d' with d1 _
  have : its = its' := by simpa using congrArg Array.toList d1
  subst this
  exact r.inj r'
end

/-! ### another wish about exceptions -/
abbrev Cx.wish (X : Cx) (E : Value → Shared → Prop) : Cx := { X with xe := E }
/-- no exception leaves -/
abbrev Cx.nox (X : Cx) : Cx := X.wish fun _ _ => False
theorem Cx.Ok.wish {X : Cx} (ok : X.Ok) (E : Value → Shared → Prop) : (X.wish E).Ok :=
  ⟨ok.mod, ok.kind, ok.glob, ok.blt, ok.above, ok.inj, ok.has, ok.cab, ok.hd, ok.frames, ok.stk, ok.exf, ok.bs, ok.bsz, ok.noex, ok.exfs, ok.funs, ok.frf⟩
theorem Cx.Ok.unwish {X : Cx} {E : Value → Shared → Prop} (ok : (X.wish E).Ok) : X.Ok :=
  ⟨ok.mod, ok.kind, ok.glob, ok.blt, ok.above, ok.inj, ok.has, ok.cab, ok.hd, ok.frames, ok.stk, ok.exf, ok.bs, ok.bsz, ok.noex, ok.exfs, ok.funs, ok.frf⟩
section
variable {X : Cx} {pins : List (Addr × Obj)} {σ : St} {H : Hp} {s : Shared} {E : Value → Shared → Prop}
theorem Inv.wish (I : Inv X pins σ H s) (E : Value → Shared → Prop) : Inv (X.wish E) pins σ H s := ⟨I.ok.wish E, I.os, I.bare, I.base, I.loc, I.cell, I.free, I.freeC, I.pin, I.hok, I.len⟩
theorem Inv.unwish (I : Inv (X.wish E) pins σ H s) : Inv X pins σ H s := ⟨I.ok.unwish, I.os, I.bare, I.base, I.loc, I.cell, I.free, I.freeC, I.pin, I.hok, I.len⟩
theorem SP.unwish {D : Ends} {f : Flow} {s' : Shared} (h : SP (X.wish E) pins D f s') : SP X pins D f s' := by
  cases f with
  | next => obtain ⟨σ', H', I, q⟩ := h; exact ⟨σ', H', I.unwish, q⟩
  | brk => obtain ⟨σ', H', I, q⟩ := h; exact ⟨σ', H', I.unwish, q⟩
  | cont => obtain ⟨σ', H', I, q⟩ := h; exact ⟨σ', H', I.unwish, q⟩
  | ret u => obtain ⟨v, σ', H', I, r, q⟩ := h; exact ⟨v, σ', H', I.unwish, r, q⟩
theorem PE.nox {e : Expr} {t : TE} (h : PE X.nox e t) : PE X e t := fun pins s σ H Q I hw =>
  wpAny_mono (h pins s σ H Q (I.wish _) hw) (fun _ _ ⟨v, H', I', r, q⟩ => ⟨v, H', I'.unwish, r, q⟩) fun _ _ z => False.elim z
theorem PT.nox {e : Expr} {t : TT} (h : PT X.nox e t) : PT X e t := fun pins s σ H Q I hw =>
  wpAny_mono (h pins s σ H Q (I.wish _) hw) (fun _ _ ⟨H', I', q⟩ => ⟨H', I'.unwish, q⟩) fun _ _ z => False.elim z
theorem PSs.nox {st : List Stmt} {t : TS} (h : PSs X.nox st t) : PSs X st t := fun pins s σ H D I hw =>
  wpAny_mono (h pins s σ H D (I.wish _) hw) (fun _ _ q => q.unwish) fun _ _ z => False.elim z
end

/-! ### blocks and small statements -/
section
variable {X : Cx} {st : Stmt} {rest : List Stmt} {t u : TS} {e : Expr} {te : TE} {pos : Pos}
def tNext : TS := fun D σ H => D.nx σ H
def tSeq (t u : TS) : TS := fun D σ H => t { D with nx := u D } σ H
theorem pss_nil : PSs X [] tNext := fun _ _ σ H _ I h => wpAny_execs_nil ⟨σ, H, I, h⟩
theorem pss_cons (h1 : PS X st t) (h2 : PSs X rest u) : PSs X (st :: rest) (tSeq t u) := by
  intro pins s σ H D I h
  refine wpAny_execs_cons (thn (h1 pins s σ H { D with nx := u D } I h) fun f s1 q => ?_)
  cases f with
  | next =>
    obtain ⟨σ', H', I', q⟩ := q
    exact h2 pins s1 σ' H' D I' q
  | ret v => exact q
  | brk => exact q
  | cont => exact q
theorem pss_one (h1 : PS X st t) : PSs X [st] t := by
  intro pins s σ H D I h
  refine wpAny_execs_cons (thn (h1 pins s σ H D I h) fun f s1 q => ?_)
  cases f with
  | next => exact wpAny_execs_nil q
  | ret v => exact q
  | brk => exact q
  | cont => exact q
/-- in a def's body nothing is shown -/
theorem Inv.quiet {pins : List (Addr × Obj)} {σ : St} {H : Hp} {s : Shared} (I : Inv X pins σ H s) : interactive X.env = false := by simp [interactive, I.ok.kind]
/-- an expression whose value is dropped -/
def tDrop (te : TE) : TS := fun D σ H => te σ H fun _ H1 => D.nx σ H1
theorem ps_expr (he : PE X e te) (hs : swapsWith e none pos.line X.env = pure false := by rfl) : PS X (.Expr e pos) (tDrop te) := by
  intro pins s σ H D I h
  exact wpAny_Expr_any (thn (he pins s σ H _ I h) fun v s1 ⟨x, H1, I1, r1, q1⟩ => ⟨σ, H1, I1, q1⟩) I.quiet hs
def tRet (te : TE) : TS := fun D σ H => te σ H D.rt
theorem ps_ret (he : PE X e te) : PS X (.Return (some e) pos) (tRet te) := by
  intro pins s σ H D I h
  exact wpAny_Return_some (thn (he pins s σ H _ I h) fun v s1 ⟨x, H1, I1, r1, q1⟩ => ⟨x, σ, H1, I1, r1, q1⟩)
def tRetN : TS := fun D _ H => D.rt .non H
def tIfS (c : TT) (t u : TS) : TS := fun D σ H => c σ H fun b H1 => if b = true then t D σ H1 else u D σ H1
theorem ps_if {c : Expr} {a b : List Stmt} {tc : TT} (hc : PT X c tc) (ha : PSs X a t) (hb : PSs X b u) : PS X (.If c a b pos) (tIfS tc t u) := by
  intro pins s σ H D I h
  refine wpAny_If (thn (hc pins s σ H _ I h) fun d s1 ⟨H1, I1, q1⟩ => ?_)
  cases d with
  | true => exact ha pins s1 σ H1 D I1 q1
  | false => exact hb pins s1 σ H1 D I1 q1
/-- code that the proof never comes to -/
def tNever : TS := fun _ _ _ => False
theorem ps_never : PS X st tNever := fun _ _ _ _ _ _ h => h.elim
end

/-! ### targets -/
abbrev TG := V → St → Hp → (St → Hp → Prop) → Prop
abbrev TGs := List V → St → Hp → (St → Hp → Prop) → Prop
def PG (X : Cx) (target : Expr) (t : TG) : Prop :=
  ∀ (pins : List (Addr × Obj)) (s : Shared) (σ : St) (H : Hp) (v : V) (u : Value) (Q : St → Hp → Prop), Inv X pins σ H s → RelV v u → t v σ H Q →
    wpAny (model X.prog X.w) X.A (assign target X.env u) (fun _ s' => ∃ σ' H', Inv X pins σ' H' s' ∧ Q σ' H') X.xe s
/-- o[i] = v, by values -/
abbrev TSet := V → V → V → Hp → (Hp → Prop) → Prop
section
variable {X : Cx} {pos : Pos}
def gName (i : Nat) : TG := fun v σ H Q => Q (σ.set i (some v)) H
theorem pg_name {i : Nat} {x : Str} (hN : X.N.Nodup) (hi : X.N[i]? = some x) (hx : Loc X.env.scope x) (hf : X.fn x = true ∨ X.env.scope.names.lookup x = some .local := by first | exact .inl rfl | exact .inr rfl | assumption) : PG X (.Name x pos) (gName i) := by
  intro pins s σ H v u Q I r h
  exact wpAny_assign_Name (store_ok I hN hi hx r (fun s' I' => ⟨_, H, I', h⟩) hf)
def gNil : TGs := fun vs σ H Q => vs = [] ∧ Q σ H
def gCons (t : TG) (u : TGs) : TGs := fun vs σ H Q => ∃ v r, vs = v :: r ∧ t v σ H fun σ' H' => u r σ' H' Q
/-- o[i] = .. -/
def gSub (to ti : TE) (t : TSet) : TG := fun v σ H Q => to σ H fun o H1 => ti σ H1 fun i H2 => t o i v H2 fun H3 => Q σ H3
/-- target = value -/
def tAsg (te : TE) (g : TG) : TS := fun D σ H => te σ H fun x H1 => g x σ H1 D.nx
/-- name = value -/
theorem ps_set {i : Nat} {x : Str} {e : Expr} {te : TE} {pos' : Pos} (hN : X.N.Nodup) (hi : X.N[i]? = some x) (hx : Loc X.env.scope x) (he : PE X e te) (hs : swapsWith e (some (.Name x pos')) pos.line X.env = pure false := by rfl) (hf : X.fn x = true ∨ X.env.scope.names.lookup x = some .local := by first | exact .inl rfl | exact .inr rfl | assumption) :
    PS X (.Assign [.Name x pos'] e pos) (tAsg te (gName i)) := by
  intro pins s σ H D I h
  refine wpAny_Assign_Name (thn (he pins s σ H _ I h) fun v s1 ⟨y, H1, I1, r1, q1⟩ => ?_) hs
  exact store_ok I1 hN hi hx r1 (fun s2 I2 => ⟨_, H1, I2, q1⟩) hf
end

/-! ### while -/
section
variable {X : Cx} {pos : Pos}
/-- the invariant W with its measure -/
def tWhile (c : TT) (tb : TS) : TS := fun D σ H => ∃ W : Nat → St → Hp → Prop, (∃ m, W m σ H) ∧ ∀ m σ H, W m σ H →
  c σ H fun b H1 => if b = true then ∃ N : St → Hp → Prop, (∀ σ' H', N σ' H' → ∃ m', m' < m ∧ W m' σ' H') ∧ tb { D with nx := N, ct := N, bk := D.nx } σ H1 else D.nx σ H1
theorem ps_while {c : Expr} {body : List Stmt} {tc : TT} {tb : TS} (hp : PassesOwn (model X.prog X.w) X.A X.env X.xe) (hc : PT X c tc) (hb : PSs X body tb) : PS X (.While c body [] pos) (tWhile tc tb) := by
  intro pins s σ H D I h
  obtain ⟨W, ⟨m0, w0⟩, turn⟩ := h
  refine wpAny_While (codeAny_whileLoop (fun n s' => ∃ σ' H', Inv X pins σ' H' s' ∧ W n σ' H') ?_ m0 ⟨σ, H, I, w0⟩)
  rintro n s1 ⟨σ1, H1, I1, w1⟩
  refine wpAny_passesOwn hp (thn (hc pins s1 σ1 H1 _ I1 (turn n σ1 H1 w1)) fun b s2 ⟨H2, I2, q2⟩ => ?_)
  cases b with
  | true =>
    obtain ⟨N, hN, q2⟩ := q2
    rw [if_pos rfl]
    refine wpAny_passesOwn hp (thn (hb pins s2 σ1 H2 _ I2 q2) fun f s3 q3 => ?_)
    cases f with
    | next =>
      obtain ⟨σ3, H3, I3, n3⟩ := q3
      obtain ⟨m', hm, w3⟩ := hN σ3 H3 n3
      exact ⟨m', hm, σ3, H3, I3, w3⟩
    | cont =>
      obtain ⟨σ3, H3, I3, n3⟩ := q3
      obtain ⟨m', hm, w3⟩ := hN σ3 H3 n3
      exact ⟨m', hm, σ3, H3, I3, w3⟩
    | brk => exact q3
    | ret v => exact q3
  | false =>
    rw [if_neg Bool.false_ne_true]
    exact wpAny_execs_nil ⟨σ1, H2, I2, q2⟩
end

/-! ### what a loop or a comprehension walks -/
/-- at turn i: it yields x (the heap may grow), or it stops -/
structure It where
  go : Nat → Hp → Prop
  yld : Nat → Hp → V → Hp → Prop
  stop : Nat → Hp → Prop
/-- the iterator's own objects may turn: they are not the frame's, not pinned, younger than the entry (or a comprehension's own) -/
def FpOk (X : Cx) (pins : List (Addr × Obj)) (H : Hp) (b : Addr) : Prop :=
  H b = none ∧ b ≠ X.env.locals ∧ b ∉ X.fs ∧ (b ∈ X.ex ∨ X.s₀.heap.objs.size ≤ b) ∧ (∀ x c, X.env.cells.lookup x = some c → c ≠ b) ∧ ∀ p ∈ X.pn ++ pins, p.1 ≠ b
theorem Inv.fpOk {X : Cx} {pins : List (Addr × Obj)} {σ : St} {H H' : Hp} {s : Shared} {b : Addr} (I : Inv X pins σ H s) (hb : s.heap.objs.size ≤ b) (hn : H' b = none) : FpOk X pins H' b := by
  refine ⟨hn, Nat.ne_of_gt (Nat.lt_of_lt_of_le I.lt hb), I.nofs hb, .inr (Nat.le_trans I.sz hb), fun x c e z => ?_, fun p hp z => ?_⟩
  · obtain ⟨v, q⟩ := I.cell x c e
    exact absurd (Nat.lt_of_lt_of_le q.lt (by rw [z]; exact hb)) (Nat.lt_irrefl _)
  · exact absurd (Nat.lt_of_lt_of_le (Heap.lt_size (I.pin p hp).1) (by rw [z]; exact hb)) (Nat.lt_irrefl _)
structure Turn (P : Program) (w : World) (K : PySem.W.Frag) (tg : Expr) (J : It) (fp : List Addr) (it : Addr) (tn : Nat → Heap → Prop) : Prop where
  mem : it ∈ fp
  obj : ∀ i h, tn i h → ∀ b ∈ fp, ∃ o, h.get? b = some o ∧ ∀ v, o.data ≠ .cell v
  keep : ∀ i h h', tn i h → (∀ b ∈ fp, ∀ o, h.get? b = some o → h'.get? b = some o) → tn i h'
  item : ∀ (X : Cx), X.prog = P → X.w = w → X.K = K → X.calm = true → ∀ (i : Nat) (pins : List (Addr × Obj)) (s : Shared) (σ : St) (H : Hp) (E : Value → Shared → Prop), Inv X pins σ H s → (∀ b ∈ fp, FpOk X pins H b) → tn i s.heap → J.go i H →
    wpAny (model P w) X.A (pyNext (.ref it)) (fun r s1 => ∃ u, r = some u ∧
      wpAny (model P w) X.A (letOwnedTupleGo tg (.ref it) u) (fun _ s2 => ∃ x H', Inv X pins σ H' s2 ∧ RelV x u ∧ J.yld i H x H' ∧ tn (i + 1) s2.heap ∧ ∀ b ∈ fp, H' b = none) E s1) E s
  done : ∀ (X : Cx), X.prog = P → X.w = w → X.K = K → X.calm = true → ∀ (i : Nat) (pins : List (Addr × Obj)) (s : Shared) (σ : St) (H : Hp) (E : Value → Shared → Prop), Inv X pins σ H s → (∀ b ∈ fp, FpOk X pins H b) → tn i s.heap → J.stop i H →
    wpAny (model P w) X.A (pyNext (.ref it)) (fun r s1 => r = none ∧ Inv X pins σ H s1) E s
  self : ∀ (A : Around) (i : Nat) (s : Shared) (Q : Value → Shared → Prop) (E : Value → Shared → Prop), tn i s.heap → Q (.ref it) s → wpAny (model P w) A (pyIter (.ref it)) Q E s
abbrev TI := St → Hp → (It → Hp → Prop) → Prop
/-- an iterator has come -/
def PIE (X : Cx) (pins : List (Addr × Obj)) (σ : St) (tg : Expr) (R : It → Hp → Prop) (itv : Value) (s2 : Shared) : Prop :=
  ∃ (it : Addr) (fp : List Addr) (tn : Nat → Heap → Prop) (J : It) (H' : Hp), itv = .ref it ∧ Inv X pins σ H' s2 ∧ Turn X.prog X.w X.K tg J fp it tn ∧ tn 0 s2.heap ∧ (∀ b ∈ fp, FpOk X pins H' b) ∧ R J H'
def PI (X : Cx) (tg iter : Expr) (wi : TI) : Prop :=
  ∀ (pins : List (Addr × Obj)) (s : Shared) (σ : St) (H : Hp) (R : It → Hp → Prop), Inv X pins σ H s → wi σ H R →
    wpAny (model X.prog X.w) X.A (eval iter X.env) (fun v s1 => wpAny (model X.prog X.w) X.A (pyIter v) (PIE X pins σ tg R) X.xe s1) X.xe s

/-- the step ahead of the store is nothing for an iterator that keeps no tuple -/
theorem go_of {M : Model} {A : Around} {E : Value → Shared → Prop} {s : Shared} {tg : Expr} {it : Addr} {u : Value} {o : Obj} {n : String} {vs : Array Value} {Q : Unit → Shared → Prop} (ho : s.heap.get? it = some o) (hc : o.cls = .type n) (hd : o.data = .fields vs)
    (hn : ["enumerate", "zip", "dict_itemiterator", "dict_reverseitemiterator", "odict_iterator", "itertools.zip_longest", "itertools.pairwise"].contains n = false) (hQ : Q () s) : wpAny M A (letOwnedTupleGo tg (.ref it) u) Q E s := by
  unfold letOwnedTupleGo
  cases tg <;> first
    | exact wpAny_pure hQ
    | (cases u <;> first
        | exact wpAny_pure hQ
        | (refine wpAny_bind (wpAny_load ho ?_)
           rw [hc, hd]
           show wpAny M A (if (["enumerate", "zip", "dict_itemiterator", "dict_reverseitemiterator", "odict_iterator", "itertools.zip_longest", "itertools.pairwise"].contains n && vs[0]? == some (rawInt _)) = true then _ else _) Q E s
           rw [if_neg (by intro h; rw [hn, Bool.false_and] at h; cases h)]
           exact wpAny_pure hQ))

/-- the list at a, as it stands at each turn (a loop may append to it) -/
def Itl (K : PySem.W.Frag) (a : Addr) : It :=
  ⟨fun i H => ∃ xs x, SqL K H a xs ∧ xs[i]? = some x, fun i H x H' => H' = H ∧ ∀ xs, SqL K H a xs → xs[i]? = some x, fun i H => ∃ xs, SqL K H a xs ∧ xs.length ≤ i⟩
def Itt (K : PySem.W.Frag) (a : Addr) : It :=
  ⟨fun i H => ∃ xs x, SqT K H a xs ∧ xs[i]? = some x, fun i H x H' => H' = H ∧ ∀ xs, SqT K H a xs → xs[i]? = some x, fun i H => ∃ xs, SqT K H a xs ∧ xs.length ≤ i⟩
/-- lo, lo + 1, .. (n of them) -/
def Itr (lo : Int) (n : Nat) : It := ⟨fun i _ => i < n, fun i H x H' => H' = H ∧ x = .int (lo + i), fun i _ => n ≤ i⟩
theorem turn_list {P : Program} {w : World} {K : PySem.W.Frag} {tg : Expr} (a it : Addr) : Turn P w K tg (Itl K a) [it] it (fun i h => h.IsListIter it a i) where
  mem := by simp
  obj := fun i h st b hb => by
    have e : b = it := by simpa using hb
    subst e
    obtain ⟨o, e, c, d⟩ := st
    exact ⟨o, e, fun v z => by rw [d] at z; cases z⟩
  keep := fun i h h' st k => st.at fun o e => k it (by simp) o e
  item := by
    intro X hP hw hK hc i pins s σ H E I hf st hg
    subst hP hw hK
    obtain ⟨xs, x, hq, hx⟩ := hg
    obtain ⟨its, rv, p, hz⟩ := I.list hq
    obtain ⟨u, hu, ru⟩ := rv.get hx
    obtain ⟨f0, f1, f2, f3, f4, f5⟩ := hf it (by simp)
    refine wpAny_pyNext_list_item st p.isList (x := u) (by simpa using hu) fun h' st' sb => ?_
    have I1 : Inv X pins σ H { s with heap := h' } := I.turned (t' := s.toks) (fun b o hb e => (sb.2 b hb).trans e) f0 f1 f3 f4 f5
    obtain ⟨o, e, c, d⟩ := id st'
    exact ⟨u, rfl, go_of (s := { s with heap := h' }) e c d (by decide) ⟨x, H, I1, ru, ⟨rfl, fun ys hy => by rw [I.list_inj hy hq]; exact hx⟩, st', fun b hb => (hf b hb).1⟩⟩
  done := by
    intro X hP hw hK hc i pins s σ H E I hf st hg
    subst hP hw hK
    obtain ⟨xs, hq, hx⟩ := hg
    obtain ⟨its, rv, p, hz⟩ := I.list hq
    obtain ⟨f0, f1, f2, f3, f4, f5⟩ := hf it (by simp)
    have hl := rv.length
    exact wpAny_pyNext_list_end (I.ok.hd hc) st p.isList (by simp; omega) fun h' eb => ⟨rfl, I.turned (t' := s.toks) (fun b o hb e => eb b o hb e) f0 f1 f3 f4 f5⟩
  self := fun _ _ _ _ _ st h => wpAny_pyIter_listiter st h
theorem turn_tuple {P : Program} {w : World} {K : PySem.W.Frag} {tg : Expr} (a it : Addr) : Turn P w K tg (Itt K a) [it] it (fun i h => h.IsTupleIter it a i) where
  mem := by simp
  obj := fun i h st b hb => by
    have e : b = it := by simpa using hb
    subst e
    obtain ⟨o, e, c, d⟩ := st
    exact ⟨o, e, fun v z => by rw [d] at z; cases z⟩
  keep := fun i h h' st k => st.at fun o e => k it (by simp) o e
  item := by
    intro X hP hw hK hc i pins s σ H E I hf st hg
    subst hP hw hK
    obtain ⟨xs, x, hq, hx⟩ := hg
    obtain ⟨its, rv, p, hz⟩ := I.tuple hq
    obtain ⟨u, hu, ru⟩ := rv.get hx
    obtain ⟨f0, f1, f2, f3, f4, f5⟩ := hf it (by simp)
    refine wpAny_pyNext_tuple_item st (show s.heap.IsTuple a its.toArray from p) (x := u) (by simpa using hu) fun h' st' sb => ?_
    have I1 : Inv X pins σ H { s with heap := h' } := I.turned (t' := s.toks) (fun b o hb e => (sb.2 b hb).trans e) f0 f1 f3 f4 f5
    obtain ⟨o, e, c, d⟩ := id st'
    exact ⟨u, rfl, go_of (s := { s with heap := h' }) e c d (by decide) ⟨x, H, I1, ru, ⟨rfl, fun ys hy => by rw [I.tuple_inj hy hq]; exact hx⟩, st', fun b hb => (hf b hb).1⟩⟩
  done := by
    intro X hP hw hK hc i pins s σ H E I hf st hg
    subst hP hw hK
    obtain ⟨xs, hq, hx⟩ := hg
    obtain ⟨its, rv, p, hz⟩ := I.tuple hq
    obtain ⟨f0, f1, f2, f3, f4, f5⟩ := hf it (by simp)
    have hl := rv.length
    exact wpAny_pyNext_tuple_end (I.ok.hd hc) st (show s.heap.IsTuple a its.toArray from p) (by simp; omega) fun h' eb => ⟨rfl, I.turned (t' := s.toks) (fun b o hb e => eb b o hb e) f0 f1 f3 f4 f5⟩
  self := fun _ _ _ _ _ st h => wpAny_pyIter_tupleiter st h
theorem turn_range {P : Program} {w : World} {K : PySem.W.Frag} {tg : Expr} (it : Addr) (lo : Int) (n : Nat) : Turn P w K tg (Itr lo n) [it] it (fun i h => IsRangeIter h it (lo + (i : Nat) * 1) ((n : Int) - (i : Nat)) 1) where
  mem := by simp
  obj := fun i h st b hb => by
    have e : b = it := by simpa using hb
    subst e
    exact ⟨_, st, fun v z => by
      have z' : Data.fields _ = Data.cell v := z
      cases z'⟩
  keep := fun i h h' st k => k it (by simp) _ st
  item := by
    intro X hP hw hK hc i pins s σ H E I hf st hg
    subst hP hw hK
    obtain ⟨f0, f1, f2, f3, f4, f5⟩ := hf it (by simp)
    have W := Walks.range (prog := X.prog) (w := X.w) (I.ok.hd hc) it lo 1 n
    refine W.item i s _ _ hg st fun v h' tk hv st' kk => ?_
    obtain ⟨t, rfl⟩ := hv
    have I1 : Inv X pins σ H { s with heap := h', toks := tk } := I.turned (fun b o hb e => kk b o (by simpa using hb) e) f0 f1 f3 f4 f5
    refine ⟨_, rfl, go_of (s := { s with heap := h', toks := tk }) (n := "range_iterator") st' rfl rfl (by decide) ⟨.int (lo + i), H, I1, ⟨t, ?_⟩, ⟨rfl, rfl⟩, st', fun b hb => (hf b hb).1⟩⟩
    rw [Int.mul_one]
  done := by
    intro X hP hw hK hc i pins s σ H E I hf st hg
    subst hP hw hK
    obtain ⟨f0, f1, f2, f3, f4, f5⟩ := hf it (by simp)
    exact wpAny_pyNext_range_end (I.ok.hd hc) st (by have : n ≤ i := hg; omega) fun h' eb => ⟨rfl, I.turned (t' := s.toks) (fun b o hb e => eb b o hb e) f0 f1 f3 f4 f5⟩
  self := fun _ _ _ _ _ st h => wpAny_pyIter_rangeiter st h
end L2

namespace L2
open PySem PySem.Spec PyProof.Rows
section
variable {X : Cx} {tg : Expr}
def iList (K : PySem.W.Frag) (tl : TE) : TI := fun σ H R => tl σ H fun x H1 => ∃ a, x = .ref a ∧ (∃ xs, SqL K H1 a xs) ∧ R (Itl K a) H1
def iTup (K : PySem.W.Frag) (tl : TE) : TI := fun σ H R => tl σ H fun x H1 => ∃ a, x = .ref a ∧ (∃ xs, SqT K H1 a xs) ∧ R (Itt K a) H1
theorem pi_list {l : Expr} {tl : TE} (hl : PE X l tl) : PI X tg l (iList X.K tl) := by
  intro pins s σ H R I h
  refine thn (hl pins s σ H _ I h) fun v s1 ⟨x, H1, I1, r1, q1⟩ => ?_
  obtain ⟨a, e, ⟨xs, hq⟩, q⟩ := q1
  subst e
  cases r1
  obtain ⟨its, rv, p, hz⟩ := I1.list hq
  refine wpAny_pyIter_list p.isList ?_
  refine ⟨s1.heap.objs.size, [s1.heap.objs.size], _, _, H1, rfl, I1.kept (t' := s1.toks) fun b o e => Heap.get?_push_of_some _ e, turn_list a _, ⟨_, Heap.get?_push_size _ rfl, rfl, rfl⟩, fun b hb => ?_, q⟩
  have e : b = s1.heap.objs.size := by simpa using hb
  subst e
  exact I1.fpOk (Nat.le_refl _) (I1.hok.fresh (Nat.le_refl _))
theorem pi_tup {l : Expr} {tl : TE} (hl : PE X l tl) : PI X tg l (iTup X.K tl) := by
  intro pins s σ H R I h
  refine thn (hl pins s σ H _ I h) fun v s1 ⟨x, H1, I1, r1, q1⟩ => ?_
  obtain ⟨a, e, ⟨xs, hq⟩, q⟩ := q1
  subst e
  cases r1
  obtain ⟨its, rv, p, hz⟩ := I1.tuple hq
  refine wpAny_pyIter_tuple (show s1.heap.IsTuple a its.toArray from p) ?_
  refine ⟨s1.heap.objs.size, [s1.heap.objs.size], _, _, H1, rfl, I1.kept (t' := s1.toks) fun b o e => Heap.get?_push_of_some _ e, turn_tuple a _, ⟨_, Heap.get?_push_size _ rfl, rfl, rfl⟩, fun b hb => ?_, q⟩
  have e : b = s1.heap.objs.size := by simpa using hb
  subst e
  exact I1.fpOk (Nat.le_refl _) (I1.hok.fresh (Nat.le_refl _))
/-- a range object just made, walked -/
theorem range_it {pins : List (Addr × Obj)} {σ : St} {H : Hp} {s : Shared} {R : It → Hp → Prop} {E : Value → Shared → Prop} {lo hi : Int} {t u v : Tok} {tk : Nat} (I : Inv X pins σ H s) (h1 : -(2 ^ 62) ≤ lo) (h2 : lo < 2 ^ 62) (h3 : -(2 ^ 62) ≤ hi) (h4 : hi < 2 ^ 62)
    (q : R (Itr lo (hi - lo).toNat) H) : wpAny (model X.prog X.w) X.A (pyIter (.ref s.heap.objs.size)) (PIE X pins σ tg R) E { s with heap := s.heap.push { cls := .type "range", data := .fields #[.int lo t, .int hi u, .int 1 v] }, toks := tk } := by
  refine wpAny_pyIter_range (IsRange.new ..) (small_one h1 h2 h3 h4) ?_
  have I1 : Inv X pins σ H { s with heap := s.heap.push { cls := .type "range", data := .fields #[.int lo t, .int hi u, .int 1 v] }, toks := tk } := I.kept fun b o e => Heap.get?_push_of_some _ e
  refine ⟨(s.heap.push { cls := .type "range", data := .fields #[.int lo t, .int hi u, .int 1 v] }).objs.size, [(s.heap.push { cls := .type "range", data := .fields #[.int lo t, .int hi u, .int 1 v] }).objs.size], _, _, H, rfl,
    I1.kept (t' := tk) fun b o e => Heap.get?_push_of_some _ e, turn_range _ lo (hi - lo).toNat, ?_, fun b hb => ?_, q⟩
  · have e1 : lo + ((0 : Nat) : Int) * 1 = lo := by simp
    have e2 : (((hi - lo).toNat : Nat) : Int) - ((0 : Nat) : Int) = Builtin.Range.rangeSize lo hi 1 := by rw [rangeSize_one]; split <;> omega
    show IsRangeIter _ _ (lo + ((0 : Nat) : Int) * 1) ((((hi - lo).toNat : Nat) : Int) - ((0 : Nat) : Int)) 1
    rw [e1, e2]
    exact Heap.get?_push_size _ rfl
  · have e : b = (s.heap.push { cls := .type "range", data := .fields #[.int lo t, .int hi u, .int 1 v] }).objs.size := by simpa using hb
    subst e
    exact I1.fpOk (Nat.le_refl _) (I1.hok.fresh (Nat.le_refl _))
def iRng1 (ta : TA) : TI := fun σ H R => ta σ H fun vs H1 => ∃ j : Int, vs = [.int j] ∧ -(2 ^ 62) ≤ j ∧ j < 2 ^ 62 ∧ R (Itr 0 j.toNat) H1
def iRng2 (ta : TA) : TI := fun σ H R => ta σ H fun vs H1 => ∃ i j : Int, vs = [.int i, .int j] ∧ (-(2 ^ 62) ≤ i ∧ i < 2 ^ 62 ∧ -(2 ^ 62) ≤ j ∧ j < 2 ^ 62) ∧ R (Itr i (j - i).toNat) H1
theorem pi_range1 {a : Expr} {ta : TA} {p pos : Pos} (hg : Gl X "range") (hm : X.mg "range" = none) (ha : PA X [a] ta) (hs : starEach [a] X.env = [(false, eval a X.env)] := by rfl) : PI X tg (.Call (.Name "range" p) [a] [] pos) (iRng1 ta) := by
  intro pins s σ H R I h
  refine Call_ (ld_blt I hg hm boot_range (PyProof.Rows.callWith_type1 (thn (ha pos pins s σ H _ I h) fun us s1 ⟨vs, H1, I1, r1, q1⟩ => ?_) hs rfl))
  obtain ⟨j, e, q1, q2, q⟩ := q1
  subst e
  cases r1 with
  | cons r rr =>
    cases rr
    obtain ⟨t, rfl⟩ := r
    exact call_range_1 (range_it I1 (by omega) (by omega) q1 q2 (by simpa using q))
/-! ### for -/
/-- W: the invariant by the turn and a measure; N: what the body is to reach -/
def tFor (wi : TI) (g : TG) (tb : TS) : TS := fun D σ H => wi σ H fun J H1 => ∃ W : Nat → Nat → St → Hp → Prop, (∃ m, W 0 m σ H1) ∧ ∀ i m σ H, W i m σ H →
  (J.stop i H ∧ D.nx σ H) ∨ (J.go i H ∧ ∃ N : St → Hp → Prop, (∀ σ' H', N σ' H' → ∃ m', m' < m ∧ W (i + 1) m' σ' H') ∧ ∀ x H', J.yld i H x H' → g x σ H' fun σ2 H2 => tb { D with nx := N, ct := N, bk := D.nx } σ2 H2)
/-- the records at fp as they stand -/
def pinsAt (fp : List Addr) (h : Heap) : List (Addr × Obj) := fp.filterMap fun b => (h.get? b).map fun o => (b, o)
theorem mem_pinsAt {fp : List Addr} {h : Heap} {b : Addr} {o : Obj} (hb : b ∈ fp) (e : h.get? b = some o) : (b, o) ∈ pinsAt fp h := List.mem_filterMap.mpr ⟨b, hb, by rw [e]; rfl⟩
theorem of_pinsAt {fp : List Addr} {h : Heap} {p : Addr × Obj} (hp : p ∈ pinsAt fp h) : p.1 ∈ fp ∧ h.get? p.1 = some p.2 := by
  obtain ⟨b, hb, e⟩ := List.mem_filterMap.mp hp
  cases q : h.get? b with
  | none => rw [q] at e; cases e
  | some o =>
    rw [q] at e
    have e' : (b, o) = p := Option.some.inj e
    subst e'
    exact ⟨hb, q⟩
theorem Inv.pinned {pins : List (Addr × Obj)} {σ : St} {H : Hp} {s : Shared} {fp : List Addr} (I : Inv X pins σ H s) (hf : ∀ b ∈ fp, FpOk X pins H b) (ho : ∀ b ∈ fp, ∃ o, s.heap.get? b = some o ∧ ∀ v, o.data ≠ .cell v) : Inv X (pins ++ pinsAt fp s.heap) σ H s :=
  I.pins_of fun p hp => (List.mem_append.mp hp).elim (fun z => I.pin p (List.mem_append_right _ z)) fun z => by
    obtain ⟨hb, e⟩ := of_pinsAt z
    obtain ⟨f0, f1, f2, _⟩ := hf p.1 hb
    obtain ⟨o, e', d⟩ := ho p.1 hb
    rw [e] at e'; cases e'
    exact ⟨e, f0, f1, f2, d⟩
theorem Inv.unpinned {pins pl : List (Addr × Obj)} {σ : St} {H : Hp} {s : Shared} (I : Inv X (pins ++ pl) σ H s) : Inv X pins σ H s := I.pins_of fun p hp => I.pin p (List.mem_append_right _ (List.mem_append_left _ hp))
theorem ps_for {iter : Expr} {body : List Stmt} {wi : TI} {g : TG} {tb : TS} {pos : Pos} (hp : PassesOwn (model X.prog X.w) X.A X.env X.xe) (hc : X.calm = true) (hi : PI X tg iter wi) (hg : PG X tg g) (hb : PSs X body tb)
    (hs : ∀ x, foldedSetIterable iter X.env x = pure x := by intro _; rfl) : PS X (.For tg iter body [] pos) (tFor wi g tb) := by
  intro pins s σ H D I h
  refine wpAny_For (thn (hi pins s σ H _ I h) fun v s1 h1 => thn h1 fun itv s2 h2 => ?_) hs
  obtain ⟨it, fp, tn, J, H2, e, I2, T, st2, f2, W, ⟨m0, w0⟩, turn⟩ := h2
  subst e
  -- what stays true of the iterator's objects through the loop
  have stat : ∀ {H' : Hp}, (∀ b ∈ fp, H' b = none) → ∀ b ∈ fp, FpOk X pins H' b := fun hn b hb => ⟨hn b hb, (f2 b hb).2⟩
  refine codeAny_forLoop_any (fun n s' => ∃ i σ' H', Inv X pins σ' H' s' ∧ tn i s'.heap ∧ (∀ b ∈ fp, H' b = none) ∧ W i n σ' H') ?_ m0 ⟨0, σ, H2, I2, st2, fun b hb => (f2 b hb).1, w0⟩
  rintro n s3 ⟨i, σ3, H3, I3, st3, fr3, w3⟩
  rcases turn i n σ3 H3 w3 with ⟨stop, qn⟩ | ⟨go, N, hN, step⟩
  · refine wpAny_passesOwn hp (thn (T.done X rfl rfl rfl hc i pins s3 σ3 H3 X.xe I3 (stat fr3) st3 stop) fun r s4 ⟨hr, I4⟩ => ?_)
    subst hr
    exact wpAny_execs_nil ⟨σ3, H3, I4, qn⟩
  · refine wpAny_passesOwn hp (thn (T.item X rfl rfl rfl hc i pins s3 σ3 H3 X.xe I3 (stat fr3) st3 go) fun r s4 ⟨u, hr, h4⟩ => ?_)
    subst hr
    refine wpAny_passesOwn hp (thn h4 fun _ s5 ⟨x, H5, I5, r5, y5, st5, fr5⟩ => ?_)
    have I5' := I5.pinned (stat fr5) (T.obj _ _ st5)
    refine wpAny_passesOwn hp (thn (hg _ s5 σ3 H5 x u _ I5' r5 (step x H5 y5)) fun _ s6 ⟨σ6, H6, I6, q6⟩ => ?_)
    refine wpAny_passesOwn hp (thn (hb _ s6 σ6 H6 _ I6 q6) fun f s7 q7 => ?_)
    have again : ∀ {σ7 : St} {H7 : Hp}, Inv X (pins ++ pinsAt fp s5.heap) σ7 H7 s7 → N σ7 H7 → ∃ m, m < n ∧ ∃ i σ' H', Inv X pins σ' H' s7 ∧ tn i s7.heap ∧ (∀ b ∈ fp, H' b = none) ∧ W i m σ' H' := fun {σ7 H7} I7 n7 => by
      obtain ⟨m', hm, w7⟩ := hN σ7 H7 n7
      refine ⟨m', hm, i + 1, σ7, H7, I7.unpinned, T.keep _ _ _ st5 fun b hb o e => (I7.pin (b, o) (List.mem_append_right _ (List.mem_append_right _ (mem_pinsAt hb e)))).1, fun b hb => ?_, w7⟩
      obtain ⟨o, e, d⟩ := T.obj _ _ st5 b hb
      exact (I7.pin (b, o) (List.mem_append_right _ (List.mem_append_right _ (mem_pinsAt hb e)))).2.1
    cases f with
    | next => obtain ⟨σ7, H7, I7, n7⟩ := q7; exact again I7 n7
    | cont => obtain ⟨σ7, H7, I7, n7⟩ := q7; exact again I7 n7
    | brk => obtain ⟨σ7, H7, I7, q7⟩ := q7; exact ⟨σ7, H7, I7.unpinned, q7⟩
    | ret v => obtain ⟨x7, σ7, H7, I7, r7, q7⟩ := q7; exact ⟨x7, σ7, H7, I7.unpinned, r7, q7⟩
end

/-! ### the forms one uses -/
/-- over a list that the body leaves as it is -/
theorem for_list {K : PySem.W.Frag} {a : Addr} {xs : List V} {g : TG} {tb : TS} {D : Ends} {σ : St} {H : Hp} (Pv : Nat → St → Hp → Prop) (h0 : Pv 0 σ H) (hl : ∀ i σ H, i ≤ xs.length → Pv i σ H → SqL K H a xs)
    (hs : ∀ i x σ H, xs[i]? = some x → Pv i σ H → g x σ H fun σ2 H2 => tb { D with nx := Pv (i + 1), ct := Pv (i + 1), bk := D.nx } σ2 H2) (hd : ∀ σ H, Pv xs.length σ H → D.nx σ H) :
    ∃ W : Nat → Nat → St → Hp → Prop, (∃ m, W 0 m σ H) ∧ ∀ i m σ H, W i m σ H →
      ((Itl K a).stop i H ∧ D.nx σ H) ∨ ((Itl K a).go i H ∧ ∃ N : St → Hp → Prop, (∀ σ' H', N σ' H' → ∃ m', m' < m ∧ W (i + 1) m' σ' H') ∧ ∀ x H', (Itl K a).yld i H x H' → g x σ H' fun σ2 H2 => tb { D with nx := N, ct := N, bk := D.nx } σ2 H2) := by
  refine ⟨fun i m σ H => m = xs.length - i ∧ i ≤ xs.length ∧ Pv i σ H, ⟨xs.length, by simp, Nat.zero_le _, h0⟩, ?_⟩
  rintro i m σ H ⟨rfl, hi, p⟩
  have q := hl i σ H hi p
  by_cases hlt : i < xs.length
  · refine .inr ⟨⟨xs, xs[i], q, by simp [hlt]⟩, Pv (i + 1), fun σ' H' p' => ⟨xs.length - (i + 1), by omega, rfl, hlt, p'⟩, fun x H' y => ?_⟩
    obtain ⟨e, y⟩ := y
    subst e
    exact hs i x σ _ (y xs q) p
  · have e : i = xs.length := by omega
    subst e
    exact .inl ⟨⟨xs, q, Nat.le_refl _⟩, hd σ H p⟩
theorem for_range {lo : Int} {n : Nat} {g : TG} {tb : TS} {D : Ends} {σ : St} {H : Hp} (Pv : Nat → St → Hp → Prop) (h0 : Pv 0 σ H)
    (hs : ∀ i σ H, i < n → Pv i σ H → g (.int (lo + i)) σ H fun σ2 H2 => tb { D with nx := Pv (i + 1), ct := Pv (i + 1), bk := D.nx } σ2 H2) (hd : ∀ σ H, Pv n σ H → D.nx σ H) :
    ∃ W : Nat → Nat → St → Hp → Prop, (∃ m, W 0 m σ H) ∧ ∀ i m σ H, W i m σ H →
      ((Itr lo n).stop i H ∧ D.nx σ H) ∨ ((Itr lo n).go i H ∧ ∃ N : St → Hp → Prop, (∀ σ' H', N σ' H' → ∃ m', m' < m ∧ W (i + 1) m' σ' H') ∧ ∀ x H', (Itr lo n).yld i H x H' → g x σ H' fun σ2 H2 => tb { D with nx := N, ct := N, bk := D.nx } σ2 H2) := by
  refine ⟨fun i m σ H => m = n - i ∧ i ≤ n ∧ Pv i σ H, ⟨n, by simp, Nat.zero_le _, h0⟩, ?_⟩
  rintro i m σ H ⟨rfl, hi, p⟩
  by_cases hlt : i < n
  · refine .inr ⟨hlt, Pv (i + 1), fun σ' H' p' => ⟨n - (i + 1), by omega, rfl, hlt, p'⟩, fun x H' y => ?_⟩
    obtain ⟨e, y⟩ := y
    subst e y
    exact hs i σ _ hlt p
  · have e : i = n := by omega
    subst e
    exact .inl ⟨Nat.le_refl _, hd σ H p⟩
/-- while, by a word and a measure of the state -/
theorem while_by {c : TT} {tb : TS} {D : Ends} {σ : St} {H : Hp} (Pv : St → Hp → Prop) (μ : St → Hp → Nat) (h0 : Pv σ H)
    (hs : ∀ σ H, Pv σ H → c σ H fun b H1 => if b = true then tb { D with nx := fun σ' H' => Pv σ' H' ∧ μ σ' H' < μ σ H, ct := fun σ' H' => Pv σ' H' ∧ μ σ' H' < μ σ H, bk := D.nx } σ H1 else D.nx σ H1)
    (mono : ∀ σ H Q Q', (∀ b H1, Q b H1 → Q' b H1) → c σ H Q → c σ H Q') : tWhile c tb D σ H := by
  refine ⟨fun m σ H => m = μ σ H ∧ Pv σ H, ⟨_, rfl, h0⟩, ?_⟩
  rintro m σ H ⟨rfl, p⟩
  refine mono σ H _ _ (fun b H1 q => ?_) (hs σ H p)
  cases b with
  | true => exact ⟨_, fun σ' H' ⟨p', l⟩ => ⟨_, l, rfl, p'⟩, q⟩
  | false => exact q
end L2

namespace L2
open PySem PySem.Spec PyProof.Rows

abbrev R2 := V → V → Hp → VK → Prop
/-- a two-place operation on values: f is binaryOp op, inplaceOp op or compareOp op -/
def OpR (X : Cx) (f : Value → Value → Sem Value) (r : R2) : Prop :=
  ∀ (pins : List (Addr × Obj)) (s : Shared) (σ : St) (H : Hp) (x y : V) (v u : Value) (Q : VK), Inv X pins σ H s → RelV x v → RelV y u → r x y H Q →
    wpAny (model X.prog X.w) X.A (f v u) (EP X pins σ Q) X.xe s
/-- a call of a value that is known (a builtin, a type) with values -/
def CallR (X : Cx) (f : Value) (r : List V → Hp → VK → Prop) : Prop :=
  ∀ (pins : List (Addr × Obj)) (s : Shared) (σ : St) (H : Hp) (xs : List V) (us : List Value) (Q : VK), Inv X pins σ H s → Vals xs us → r xs H Q →
    wpAny (model X.prog X.w) X.A (call f us) (EP X pins σ Q) X.xe s
/-- a value's truth -/
def TruR (X : Cx) (r : V → Hp → (Bool → Hp → Prop) → Prop) : Prop :=
  ∀ (pins : List (Addr × Obj)) (s : Shared) (σ : St) (H : Hp) (x : V) (v : Value) (Q : Bool → Hp → Prop), Inv X pins σ H s → RelV x v → r x H Q →
    wpAny (model X.prog X.w) X.A (truthy v) (TP X pins σ Q) X.xe s

def tOp (r : R2) (ta tb : TE) : TE := fun σ H Q => ta σ H fun x H1 => tb σ H1 fun y H2 => r x y H2 Q
def tUn (r : V → Hp → VK → Prop) (ta : TE) : TE := fun σ H Q => ta σ H fun x H1 => r x H1 Q
/-- ints in, under C, and a value out -/
def rI (C : Int → Int → Prop) (g : Int → Int → V) : R2 := fun x y H Q => ∃ i j, x = .int i ∧ y = .int j ∧ C i j ∧ Q (g i j) H
def rI0 (g : Int → Int → V) : R2 := fun x y H Q => ∃ i j, x = .int i ∧ y = .int j ∧ Q (g i j) H
def rU (g : Int → V) : V → Hp → VK → Prop := fun x H Q => ∃ i, x = .int i ∧ Q (g i) H

section
variable {X : Cx} {a b c : Expr} {ta tb tc : TE} {pos : Pos}

theorem binT (ha : PE X a ta) (hb : PE X b tb) {pins : List (Addr × Obj)} {s : Shared} {σ : St} {H : Hp} {R : V → V → Hp → Prop} (I : Inv X pins σ H s)
    (h : ta σ H fun x H1 => tb σ H1 fun y H2 => R x y H2) {Q : Value → Shared → Prop} {f : Value → Value → Sem Value}
    (hf : ∀ v u s2 x y H2, Inv X pins σ H2 s2 → RelV x v → RelV y u → R x y H2 → wpAny (model X.prog X.w) X.A (f v u) Q X.xe s2) :
    wpAny (model X.prog X.w) X.A (eval a X.env) (fun v s₁ => wpAny (model X.prog X.w) X.A (eval b X.env) (fun u s₂ => wpAny (model X.prog X.w) X.A (f v u) Q X.xe s₂) X.xe s₁) X.xe s := by
  refine thn (ha pins s σ H _ I h) fun v s1 ⟨x, H1, I1, r1, q1⟩ => ?_
  refine thn (hb pins s1 σ H1 _ I1 q1) fun u s2 ⟨y, H2, I2, r2, q2⟩ => ?_
  exact hf v u s2 x y H2 I2 r1 r2 q2

theorem pe_op {op : Operator} {r : R2} (ho : OpR X (binaryOp op) r) (ha : PE X a ta) (hb : PE X b tb) : PE X (.BinOp a op b pos) (tOp r ta tb) := by
  intro pins s σ H Q I h
  exact wpAny_BinOp (binT ha hb I h fun v u s2 x y H2 I2 rx ry q => ho pins s2 σ H2 x y v u Q I2 rx ry q)
/-! ### ints -/
theorem opI {f : Value → Value → Sem Value} {C : Int → Int → Prop} {g : Int → Int → Int}
    (rule : ∀ (i j : Int) (t u : Tok) (s : Shared) (Q : Value → Shared → Prop) (E : Value → Shared → Prop), C i j → Q (.int (g i j) s.toks) { s with toks := s.toks + 1 } → wpAny (model X.prog X.w) X.A (f (.int i t) (.int j u)) Q E s) :
    OpR X f (rI C fun i j => .int (g i j)) := by
  intro pins s σ H x y v u Q I rx ry h
  obtain ⟨i, j, rfl, rfl, hc, q⟩ := h
  obtain ⟨t, rfl⟩ := rx
  obtain ⟨t', rfl⟩ := ry
  exact rule i j t t' s _ _ hc ⟨.int (g i j), H, I.tok _, ⟨_, rfl⟩, q⟩
theorem opI0 {f : Value → Value → Sem Value} {g : Int → Int → Int}
    (rule : ∀ (i j : Int) (t u : Tok) (s : Shared) (Q : Value → Shared → Prop) (E : Value → Shared → Prop), Q (.int (g i j) s.toks) { s with toks := s.toks + 1 } → wpAny (model X.prog X.w) X.A (f (.int i t) (.int j u)) Q E s) :
    OpR X f (rI0 fun i j => .int (g i j)) := by
  intro pins s σ H x y v u Q I rx ry h
  obtain ⟨i, j, rfl, rfl, q⟩ := h
  obtain ⟨t, rfl⟩ := rx
  obtain ⟨t', rfl⟩ := ry
  exact rule i j t t' s _ _ ⟨.int (g i j), H, I.tok _, ⟨_, rfl⟩, q⟩
theorem opB0 {f : Value → Value → Sem Value} {g : Int → Int → Bool}
    (rule : ∀ (i j : Int) (t u : Tok) (s : Shared) (Q : Value → Shared → Prop) (E : Value → Shared → Prop), Q (.bool (g i j)) s → wpAny (model X.prog X.w) X.A (f (.int i t) (.int j u)) Q E s) :
    OpR X f (rI0 fun i j => .bl (g i j)) := by
  intro pins s σ H x y v u Q I rx ry h
  obtain ⟨i, j, rfl, rfl, q⟩ := h
  obtain ⟨t, rfl⟩ := rx
  obtain ⟨t', rfl⟩ := ry
  exact rule i j t t' s _ _ ⟨.bl (g i j), H, I, rfl, q⟩

def CDiv (i j : Int) : Prop := 0 < j ∧ j < 1073741824
def CMul (i j : Int) : Prop := (-(2 ^ 64) < i ∧ i < 2 ^ 64) ∨ (-(2 ^ 64) < j ∧ j < 2 ^ 64)
theorem CMul.ok {i j : Int} (h : CMul i j) : IntMulOk i j := by
  rcases h with ⟨h1, h2⟩ | ⟨h1, h2⟩
  · exact .of_left (intBits_le_64 h1 h2)
  · exact .of_right (intBits_le_64 h1 h2)
theorem op_add : OpR X (binaryOp .Add) (rI0 fun i j => .int (i + j)) := opI0 fun _ _ _ _ _ _ _ q => add_int q
theorem op_mul : OpR X (binaryOp .Mult) (rI CMul fun i j => .int (i * j)) := opI fun _ _ _ _ _ _ _ hc q => mul_int q hc.ok
/-- // by a positive divisor -/
theorem op_fdiv : OpR X (binaryOp .FloorDiv) (rI CDiv fun i j => .int (i / j)) := opI fun i j _ _ _ _ _ hc q => by
  have h1 : (0 : Int) < j := hc.1
  have h2 : j < 1073741824 := hc.2
  exact floordiv_int (by omega) (by rw [Int.fdiv_eq_ediv_of_nonneg i (by omega)]; exact q) (.inl (PyProof.noPylong_small (by omega)))
/-- % by a positive divisor of any size -/
theorem op_mod : OpR X (binaryOp .Mod) (rI (fun _ j => 0 < j) fun i j => .int (i % j)) := opI fun i j _ _ _ _ _ hc q => by
  have h1 : (0 : Int) < j := hc
  exact mod_int' (by omega) (by rw [Int.fmod_eq_emod_of_nonneg i (by omega)]; exact q)
/-! ### bools among ints: n += (a < b) -/
end

/-! ### comparisons -/
/-- the scalars that == tells apart as data does -/
def scal : V → V → Bool
  | .non, .non => true | .non, .int _ => true | .int _, .non => true | .non, .bl _ => true | .bl _, .non => true | .non, .str _ => true | .str _, .non => true
  | .int _, .int _ => true | .bl _, .bl _ => true | .str _, .str _ => true | .byt _, .byt _ => true
  | .int _, .str _ => true | .str _, .int _ => true | .bl _, .str _ => true | .str _, .bl _ => true
  | _, _ => false
def rEq : R2 := fun x y H Q => scal x y = true ∧ Q (.bl (decide (x = y))) H
def rNe : R2 := fun x y H Q => scal x y = true ∧ Q (.bl (!decide (x = y))) H

theorem dec_int {i j : Int} : decide (V.int i = V.int j) = (i == j) := by
  rw [Bool.eq_iff_iff]
  simp
theorem dec_bl {i j : Bool} : decide (V.bl i = V.bl j) = (i == j) := by
  rw [Bool.eq_iff_iff]
  simp
theorem dec_str {i j : Str} : decide (V.str i = V.str j) = (i == j) := by
  rw [Bool.eq_iff_iff]
  simp
theorem dec_byt {i j : Array UInt8} : decide (V.byt i = V.byt j) = (i.toList == j.toList) := by
  rw [Bool.eq_iff_iff]
  cases i
  cases j
  simp

section
variable {X : Cx} {a b c : Expr} {ta tb tc : TE} {pos : Pos}
theorem fin_bl {pins : List (Addr × Obj)} {σ : St} {H : Hp} {s : Shared} {Q : VK} {k k' : Bool} (I : Inv X pins σ H s) (q : Q (.bl k) H) (e : k = k') : EP X pins σ Q (.bool k') s := by
  subst e
  exact ⟨.bl k, H, I, rfl, q⟩
theorem op_eq : OpR X (compareOp .Eq) rEq := by
  intro pins s σ H x y v u Q I rx ry h
  obtain ⟨hs, q⟩ := h
  cases x with
  | non =>
    cases rx
    cases y with
    | non => cases ry; exact PySem.EqNone.eq_none_none (fin_bl I q (by simp))
    | bl j => cases ry; exact PySem.EqNone.eq_none_bool (fin_bl I q (by simp))
    | int j => obtain ⟨t', rfl⟩ := ry; exact PySem.EqNone.eq_none_int (fin_bl I q (by simp))
    | str j => obtain ⟨t', rfl⟩ := ry; exact PySem.EqNone.eq_none_str (fin_bl I q (by simp))
    | _ => exact absurd (show false = true from hs) Bool.false_ne_true
  | bl i =>
    cases rx
    cases y with
    | non => cases ry; exact PySem.EqNone.eq_bool_none (fin_bl I q (by simp))
    | bl j => cases ry; exact eq_bool (fin_bl I q dec_bl)
    | str j => obtain ⟨t', rfl⟩ := ry; exact PySem.EqMixed.eq_bool_str (fin_bl I q (by simp))
    | _ => exact absurd (show false = true from hs) Bool.false_ne_true
  | int i =>
    obtain ⟨t, rfl⟩ := rx
    cases y with
    | non => cases ry; exact PySem.EqNone.eq_int_none (fin_bl I q (by simp))
    | int j => obtain ⟨t', rfl⟩ := ry; exact eq_int (fin_bl I q dec_int)
    | str j => obtain ⟨t', rfl⟩ := ry; exact PySem.EqMixed.eq_int_str (fin_bl I q (by simp))
    | _ => exact absurd (show false = true from hs) Bool.false_ne_true
  | str i =>
    obtain ⟨t, rfl⟩ := rx
    cases y with
    | non => cases ry; exact PySem.EqNone.eq_str_none (fin_bl I q (by simp))
    | bl j => cases ry; exact PySem.EqMixed.eq_str_bool (fin_bl I q (by simp))
    | int j => obtain ⟨t', rfl⟩ := ry; exact PySem.EqMixed.eq_str_int (fin_bl I q (by simp))
    | str j => obtain ⟨t', rfl⟩ := ry; exact eq_str (fin_bl I q dec_str)
    | _ => exact absurd (show false = true from hs) Bool.false_ne_true
  | byt i =>
    obtain ⟨t, rfl⟩ := rx
    cases y with
    | byt j => obtain ⟨t', rfl⟩ := ry; exact PySem.W.eq_bytes (fin_bl I q dec_byt)
    | _ => exact absurd (show false = true from hs) Bool.false_ne_true
  | _ => cases y <;> exact absurd (show false = true from hs) Bool.false_ne_true
theorem op_ne : OpR X (compareOp .NotEq) rNe := by
  intro pins s σ H x y v u Q I rx ry h
  obtain ⟨hs, q⟩ := h
  cases x with
  | non =>
    cases rx
    cases y with
    | non => cases ry; exact PySem.EqNone.ne_none_none (fin_bl I q (by simp))
    | bl j => cases ry; exact PySem.EqNone.ne_none_bool (fin_bl I q (by simp))
    | int j => obtain ⟨t', rfl⟩ := ry; exact PySem.EqNone.ne_none_int (fin_bl I q (by simp))
    | str j => obtain ⟨t', rfl⟩ := ry; exact PySem.EqNone.ne_none_str (fin_bl I q (by simp))
    | _ => exact absurd (show false = true from hs) Bool.false_ne_true
  | bl i =>
    cases rx
    cases y with
    | non => cases ry; exact PySem.EqNone.ne_bool_none (fin_bl I q (by simp))
    | bl j => cases ry; exact ne_bool (fin_bl I q (congrArg not dec_bl))
    | str j => obtain ⟨t', rfl⟩ := ry; exact PySem.EqMixed.ne_bool_str (fin_bl I q (by simp))
    | _ => exact absurd (show false = true from hs) Bool.false_ne_true
  | int i =>
    obtain ⟨t, rfl⟩ := rx
    cases y with
    | non => cases ry; exact PySem.EqNone.ne_int_none (fin_bl I q (by simp))
    | int j => obtain ⟨t', rfl⟩ := ry; exact ne_int (fin_bl I q (congrArg not dec_int))
    | str j => obtain ⟨t', rfl⟩ := ry; exact PySem.EqMixed.ne_int_str (fin_bl I q (by simp))
    | _ => exact absurd (show false = true from hs) Bool.false_ne_true
  | str i =>
    obtain ⟨t, rfl⟩ := rx
    cases y with
    | non => cases ry; exact PySem.EqNone.ne_str_none (fin_bl I q (by simp))
    | bl j => cases ry; exact PySem.EqMixed.ne_str_bool (fin_bl I q (by simp))
    | int j => obtain ⟨t', rfl⟩ := ry; exact PySem.EqMixed.ne_str_int (fin_bl I q (by simp))
    | str j => obtain ⟨t', rfl⟩ := ry; exact ne_str (fin_bl I q (congrArg not dec_str))
    | _ => exact absurd (show false = true from hs) Bool.false_ne_true
  | byt i =>
    obtain ⟨t, rfl⟩ := rx
    cases y with
    | byt j => obtain ⟨t', rfl⟩ := ry; exact PySem.W.ne_bytes (fin_bl I q (congrArg not dec_byt))
    | _ => exact absurd (show false = true from hs) Bool.false_ne_true
  | _ => cases y <;> exact absurd (show false = true from hs) Bool.false_ne_true

theorem op_lt : OpR X (compareOp .Lt) (rI0 fun i j => .bl (decide (i < j))) := opB0 fun _ _ _ _ _ _ _ q => lt_int q
theorem op_gt : OpR X (compareOp .Gt) (rI0 fun i j => .bl (decide (j < i))) := opB0 fun _ _ _ _ _ _ _ q => gt_int q
theorem op_ge : OpR X (compareOp .GtE) (rI0 fun i j => .bl (decide (j ≤ i))) := opB0 fun _ _ _ _ _ _ _ q => ge_int q
/-- two rules for one operation: by cases -/
theorem OpR.or {f : Value → Value → Sem Value} {r r' : R2} (h : OpR X f r) (h' : OpR X f r') : OpR X f (fun x y H Q => r x y H Q ∨ r' x y H Q) := by
  intro pins s σ H x y v u Q I rx ry q
  rcases q with q | q
  · exact h pins s σ H x y v u Q I rx ry q
  · exact h' pins s σ H x y v u Q I rx ry q

theorem nomark (b : Expr) {op : CmpOp} (h : op ≠ .In := by decide) (h2 : op ≠ .NotIn := by decide) : behindInMarks op b = false := by
  have e1 : (op == CmpOp.In) = false := by cases op <;> first | rfl | exact absurd rfl h
  have e2 : (op == CmpOp.NotIn) = false := by cases op <;> first | rfl | exact absurd rfl h2
  cases b <;> simp [behindInMarks, e1, e2]
/-- a comparison as a value; hm: nomark b, or (for in, not in) by with_unfolding_all rfl -/
theorem pe_cmpR {op : CmpOp} {r : R2} (ho : OpR X (compareOp op) r) (ha : PE X a ta) (hb : PE X b tb) (hm : behindInMarks op b = false) : PE X (.Compare a [op] [b] pos) (tOp r ta tb) := by
  intro pins s σ H Q I h
  exact wpAny_Compare1 (binT ha hb I h fun v u s2 x y H2 I2 rx ry q => ho pins s2 σ H2 x y v u Q I2 rx ry q) hm
/-- a reading of a value as a test -/
def tTest (t : TE) : TT := fun σ H Q => t σ H fun x H' => ∃ k, x = .bl k ∧ Q k H'
theorem pt_cmpR {op : CmpOp} {r : R2} (ho : OpR X (compareOp op) r) (ha : PE X a ta) (hb : PE X b tb) (hm : behindInMarks op b = false) : PT X (.Compare a [op] [b] pos) (tTest (tOp r ta tb)) := by
  intro pins s σ H Q I h
  refine wpAny_isTrue_Compare1 (thn (ha pins s σ H _ I h) fun v s1 ⟨x, H1, I1, r1, q1⟩ => thn (hb pins s1 σ H1 _ I1 q1) fun u s2 ⟨y, H2, I2, r2, q2⟩ =>
    thn (ho pins s2 σ H2 x y v u _ I2 r1 r2 q2) fun c s3 ⟨z, H3, I3, r3, k, e, q3⟩ => ?_) hm
  subst e
  cases r3
  exact wpAny_truthy_bool ⟨H3, I3, q3⟩
/-- a op1 b op2 c -/
def tChain (r r' : R2) (ta tb tc : TE) : TE := fun σ H Q => ta σ H fun x H1 => tb σ H1 fun y H2 => r x y H2 fun z H3 => ∃ k, z = .bl k ∧
  (if k = true then tc σ H3 fun w' H4 => r' y w' H4 Q else Q (.bl false) H3)
/-! ### truth -/
/-- a value's truth by the abstract heap -/
def TruV (K : PySem.W.Frag) (x : V) (H : Hp) (k : Bool) : Prop :=
  match x with
  | .non => k = false
  | .bl b => k = b
  | .int i => k = (i != 0)
  | .str y => y.length ≤ sizeLine ∧ k = ((y.length : Int) != 0)
  | .byt y => y.size ≤ sizeLine ∧ k = ((y.size : Int) != 0)
  | .ref p => (∃ xs, SqL K H p xs ∧ k = !xs.isEmpty) ∨ (∃ xs, SqT K H p xs ∧ k = !xs.isEmpty) ∨ ∃ kvs, H p = some (.dK kvs) ∧ k = !kvs.isEmpty
  | _ => False
theorem isEmpty_kv {κ : Type} {kvs : List (κ × V)} {vs : List (κ × Value)} (r : KV kvs vs) : (!vs.isEmpty) = !kvs.isEmpty := by
  cases r <;> rfl
theorem isEmpty_of {xs : List V} {its : List Value} (r : Vals xs its) : (!its.toArray.isEmpty) = !xs.isEmpty := by
  cases r <;> simp
theorem line63 : (sizeLine : Nat) < 2 ^ 63 := by rw [sizeLine_eq]; decide
theorem tru_ok : TruR X (fun x H Q => ∃ k, TruV X.K x H k ∧ Q k H) := by
  intro pins s σ H x v Q I rx h
  obtain ⟨k, e, q⟩ := h
  have hl := line63
  have hs : sizeLine = 16777216 := sizeLine_eq
  cases x with
  | non =>
    cases rx
    have e' : k = false := e
    subst e'
    exact truthy_none ⟨H, I, q⟩
  | bl b =>
    cases rx
    have e' : k = b := e
    subst e'
    exact wpAny_truthy_bool ⟨H, I, q⟩
  | int i =>
    obtain ⟨t, rfl⟩ := rx
    have e' : k = (i != 0) := e
    subst e'
    exact PySem.P.truthy_int ⟨H, I, q⟩
  | str y =>
    obtain ⟨t, rfl⟩ := rx
    obtain ⟨hy, e'⟩ : y.length ≤ sizeLine ∧ k = ((y.length : Int) != 0) := e
    subst e'
    exact PySem.P.truthy_str (by omega) ⟨H, I.tok _, q⟩
  | byt y =>
    obtain ⟨t, rfl⟩ := rx
    obtain ⟨hy, e'⟩ : y.size ≤ sizeLine ∧ k = ((y.size : Int) != 0) := e
    subst e'
    exact PySem.W.truthy_bytes (by omega) ⟨H, I.tok _, q⟩
  | ref p =>
    cases rx
    have e' : (∃ xs, SqL X.K H p xs ∧ k = !xs.isEmpty) ∨ (∃ xs, SqT X.K H p xs ∧ k = !xs.isEmpty) ∨ ∃ kvs, H p = some (.dK kvs) ∧ k = !kvs.isEmpty := e
    rcases e' with ⟨xs, hx, e'⟩ | ⟨xs, hx, e'⟩ | ⟨kvs, hx, e'⟩
    · subst e'
      obtain ⟨its, r, pl, hz⟩ := I.list hx
      have hlen := r.length
      exact wpAny_truthy_list pl.isList (by simp only [List.size_toArray]; omega) ⟨H, I.tok _, by rw [isEmpty_of r]; exact q⟩
    · subst e'
      obtain ⟨its, r, pl, hz⟩ := I.tuple hx
      have hlen := r.length
      exact truthy_tuple pl (by simp only [List.size_toArray]; omega) ⟨H, I.tok _, by rw [isEmpty_of r]; exact q⟩
    · subst e'
      obtain ⟨hz, hS, vs, r, m⟩ : kvs.length ≤ sizeLine ∧ (p == sysModules) = false ∧ ∃ vs, KV kvs vs ∧ s.heap.DictOf (mixKind X.prog X.w) p vs := I.hok p _ hx
      have hlen : kvs.length = vs.length := Paired.length r
      exact wpAny_truthy_dict hS m (by omega) ⟨H, I.tok _, by rw [isEmpty_kv r]; exact q⟩
  | _ => exact (show False from e).elim
/-- any expression whose test is its value's truth (a name, a call, a subscript, a field ..: he by fun _ => rfl) -/
theorem pt_truth (ha : PE X a ta) (he : ∀ whole, isTrue a X.env whole = (do let v ← whole; standAt a.pos; holding [v] (truthy v))) :
    PT X a (fun σ H Q => ta σ H fun x H' => ∃ k, TruV X.K x H' k ∧ Q k H') := by
  intro pins s σ H Q I h
  exact isTrue_plain (thn (ha pins s σ H _ I h) fun v s1 ⟨x, H1, I1, r1, q1⟩ => tru_ok pins s1 σ H1 x v Q I1 r1 q1) (he _)

/-! ### strs and bytes -/
def PlainIxT (b : Expr) : Prop := ∀ o i, subscripted b false o i = operate [o, i] (getItem o i)
/-- s[i], 0 ≤ i < len -/
theorem pe_item_str (ha : PE X a ta) (hb : PE X b tb) (hs : PlainIxT b) :
    PE X (.Subscript a b pos) (tOp (fun x y H Q => ∃ z i c, x = .str z ∧ y = .int i ∧ 0 ≤ i ∧ i < 2 ^ 63 ∧ i < z.length ∧ z.cps[i.toNat]? = some c ∧ Q (.str ⟨#[c]⟩) H) ta tb) := by
  intro pins s σ H Q I h
  refine Subscript_ (binT ha hb I h fun v u s2 x y H2 I2 rx ry q => ?_)
  obtain ⟨z, i, c, rfl, rfl, h0, h63, h1, hc, q⟩ := q
  obtain ⟨t, rfl⟩ := rx
  obtain ⟨t', rfl⟩ := ry
  have e : seqIndex? i z.length = some i.toNat := PySem.StrLaws.seqIndex_nonneg h0 h1
  exact tail_any (typeIs_str s2 z t) slot_str_getitem.lookup (getItem_str (c := c) (by
    have e1 : decide (i < -(2 ^ 63 : Int)) = false := decide_eq_false (by omega)
    have e2 : decide (i ≥ 2 ^ 63) = false := decide_eq_false (by omega)
    rw [e1, e2] <;> rfl) (by rw [e]; exact hc) ⟨.str ⟨#[c]⟩, H2, I2.tok _, ⟨_, rfl⟩, q⟩) (hs _ _)
/-! ### scalar builtins, by CallR -/
theorem vals1 {x : V} {us : List Value} (r : Vals [x] us) : ∃ u, us = [u] ∧ RelV x u := by
  cases r with
  | cons r1 r2 => cases r2; exact ⟨_, rfl, r1⟩
theorem vals2 {x y : V} {us : List Value} (r : Vals [x, y] us) : ∃ u w', us = [u, w'] ∧ RelV x u ∧ RelV y w' := by
  cases r with
  | cons r1 r2 =>
    cases r2 with
    | cons r3 r4 => cases r4; exact ⟨_, _, rfl, r1, r3⟩
theorem call_int1 : CallR X (.type "int") (fun xs H Q => (∃ i, xs = [.int i] ∧ Q (.int i) H) ∨ ∃ k, xs = [.bl k] ∧ Q (.int (if k then 1 else 0)) H) := by
  intro pins s σ H xs us Q I r h
  rcases h with ⟨i, rfl, q⟩ | ⟨k, rfl, q⟩
  · obtain ⟨u, rfl, t, rfl⟩ := vals1 r
    exact call_int_int ⟨.int i, H, I, ⟨_, rfl⟩, q⟩
  · obtain ⟨u, rfl, r1⟩ := vals1 r
    cases r1
    exact call_int_bool ⟨.int (if k then 1 else 0), H, I.tok _, ⟨_, rfl⟩, q⟩
end
end L2

namespace L2
open PySem PySem.Spec PyProof.Rows

/-! ### an instance, its attributes a map -/
structure ObjM (h : Heap) (x dx C : Addr) (mA : Str → Option Value) : Prop where
  obj : h.get? x = some (PySem.W.instObj C dx)
  ns : h.Ns1 dx mA
  ne : dx ≠ x

theorem lookIn_ns {h : Heap} {dx : Addr} {mA : Str → Option Value} (n : h.Ns1 dx mA) : ∃ od, h.get? dx = some od ∧ ∀ name, PySem.W.lookIn name od = some (mA name) := by
  obtain ⟨o, es, ep, ho, hd, hk, _, hm⟩ := n
  refine ⟨o, ho, fun name => ?_⟩
  have e := hm name
  unfold nsFind findBy at e
  rw [← Array.find?_toList] at e
  unfold PySem.W.lookIn
  rw [hd]
  dsimp only
  split
  · rename_i y q
    rw [q] at e
    exact congrArg some e
  · rename_i q
    rw [q] at e
    have a : es.toList.any (·.refKey) = false := by
      rw [List.any_eq_false]
      intro y hy
      obtain ⟨z, t, hkey⟩ := hk y (Array.mem_toList_iff.mp hy)
      simp [DictEntry.refKey, hkey]
    have a' : ¬ es.toList.any (·.refKey) = true := by rw [a]; exact Bool.false_ne_true
    rw [if_neg a']
    exact congrArg some e

theorem ObjM.look {h : Heap} {x dx C : Addr} {mA : Str → Option Value} (I : ObjM h x dx C mA) : ∃ od, PySem.W.InstAt h x (PySem.W.instObj C dx) C (some od) ∧ ∀ name, PySem.W.lookIn name od = some (mA name) :=
  let ⟨od, ho, hl⟩ := lookIn_ns I.ns
  ⟨od, ⟨I.obj, rfl, rfl, ho⟩, hl⟩

section
variable {prog : Program} {w : World} {A : Around} {E : Value → Shared → Prop} {s : Shared} {K : PySem.W.Frag} {x dx C f : Addr} {mA : Str → Option Value} {name : Str} {v : Value}

theorem get_map {expr : Bool} {Q : Value → Shared → Prop} (X : K.In s.heap) (I : ObjM s.heap x dx C mA) (hg : PySem.W.plainGet K C name = true) (hh : PySem.W.hasDictIn K C = true)
    (ha : PySem.W.findIn K (.ref C) name = some none) (hv : mA name = some v) (hv' : PySem.W.handedIn v = true) (h : Q v { s with toks := s.toks + 1 }) :
    wpAny (model prog w) A (getAttr (.ref x) name expr) Q E s := by
  obtain ⟨od, J, hl⟩ := I.look
  exact PySem.W.get_value X J (PySem.W.plainGet_of hg).1 (PySem.W.findObj_own hh ha rfl (by rw [hl, hv])) hv' h

theorem get_meth {pl : Sem Bool} {Q : Value × List Value → Shared → Prop} (X : K.In s.heap) (I : ObjM s.heap x dx C mA) (hg : PySem.W.plainGet K C name = true)
    (hf : PySem.W.findIn K (.ref C) name = some (some (.ref f))) (ht : PySem.W.isFn K (.ref f) = true) (hv : mA name = none) (h : Q (.ref f, [.ref x]) s) :
    wpAny (model prog w) A (getMethod (.ref x) name pl) Q E s := by
  obtain ⟨od, J, hl⟩ := I.look
  exact PySem.W.method_fn X J (PySem.W.plainGet_of hg).1 (PySem.W.plainGet_of hg).2 hf (beq_iff_eq.mp ht) (by show (PySem.W.lookIn name od).map (·.isSome) = some false; rw [hl, hv]; rfl) h

theorem set_map {ns : List Str} {Q : Unit → Shared → Prop} (X : K.In s.heap) (I : ObjM s.heap x dx C mA)
    (hs : PySem.W.findIn K (.ref C) "__setattr__" = some (some (.builtin "object.__setattr__"))) (hp : PySem.W.plainOver K C = true) (ht : PySem.W.takerIn K C name = some none) (hh : PySem.W.hasDictIn K C = true)
    (hw : PySem.Within mA ns) (hsz : ns.length ≤ sizeLine)
    (h : ∀ h', ObjM h' x dx C (fun y => if y = name then some v else mA y) → Heap.SameBut dx s.heap h' → Q () { s with heap := h', toks := s.toks + 2 }) :
    wpAny (model prog w) A (setAttr (.ref x) name v) Q E s := by
  obtain ⟨od, J, hl⟩ := I.look
  refine PySem.W.set_plain X J hs (PySem.W.osa_open (s := { s with toks := s.toks + 1 }) (r := none) X J hp ht fun b => ?_)
  obtain ⟨cd, hc, hd'⟩ := PySem.W.any_some hh
  have hx : s.heap.get? x = some ⟨.ref C, some dx, .plain, #[]⟩ := I.obj
  refine wpAny_bind (wpAny_pure (wpAny_bind (wpAny_bind (wpAny_loadPart hx (wpAny_bind (PySem.W.Looks.here (s := { s with toks := s.toks + 1 }) (PySem.W.looks_clsIn X hc) ?_))))))
  rw [hd']
  refine wpAny_pure (a := some dx) (wpAny_bind (wpAny_pure (wpAny_bind ?_)))
  refine wpAny_nsSet1 (s := { s with toks := s.toks + 1 }) I.ns fun h' hn2 hs2 => ?_
  obtain ⟨oD, esD, epD, hoD, hdD, hcD⟩ := hn2.count (PySem.Within.cons name v hw)
  refine wpAny_bind (wpAny_lookBehind hoD (by rw [hdD]; exact pastItsLine_dict (Nat.le_trans hcD (by rw [List.length_cons]; omega))) ?_)
  exact wpAny_pure (h _ ⟨(hs2.2 _ (Ne.symm I.ne)).trans I.obj, hn2, I.ne⟩ hs2)

/-- C(..): the dict at the heap's end, the instance behind it; then its __init__ -/
theorem make_map {R : Result → Shared → Prop} {vs : List Value} {kw : List (Str × Value)} (X : K.In s.heap) (hm : PySem.W.makesIn K C = true)
    (hi : PySem.W.findIn K (.ref C) "__init__" = some (some (.ref f))) (hf : PySem.W.typeIn K (.ref f) = some (.type "function"))
    (h : codeAny (model prog w) (A.under (.builtin "type.__call__" ⟨.ref C :: vs, kw⟩)) (.call (.ref f) ⟨.ref (s.heap.objs.size + 1) :: vs, kw⟩) (PySem.W.InitBack (s.heap.objs.size + 1) R)
      { s with heap := (s.heap.push PySem.W.emptyDict).push (PySem.W.instObj C s.heap.objs.size) }) :
    codeAny (model prog w) A (.call (.ref C) ⟨vs, kw⟩) R s := by
  obtain ⟨hh, g, d, t, os⟩ := s
  exact PySem.W.make_core (PySem.W.makes_of X hm) (PySem.W.looks_findIn X hi) (fun self => PySem.W.bind_fn X self hf) (.inl rfl) h
end

/-! ### the attributes as a list of pairs -/
def putF (f : Str) (v : V) : List (Str × V) → List (Str × V)
  | [] => [(f, v)]
  | (g, x) :: r => if g = f then (g, v) :: r else (g, x) :: putF f v r
theorem lookup_putF (f g : Str) (v : V) : ∀ fs : List (Str × V), (putF f v fs).lookup g = if g = f then some v else fs.lookup g
  | [] => by
    show List.lookup g [(f, v)] = _
    by_cases h : g = f
    · have hb : (g == f) = true := beq_iff_eq.mpr h
      simp only [List.lookup, hb, if_pos h]
    · have hb : (g == f) = false := beq_eq_false_iff_ne.mpr h
      simp only [List.lookup, hb, if_neg h]
  | (k, x) :: r => by
    have ih := lookup_putF f g v r
    rw [show putF f v ((k, x) :: r) = (if k = f then (k, v) :: r else (k, x) :: putF f v r) from rfl]
    by_cases hk : k = f
    · rw [if_pos hk]
      by_cases h : g = k
      · have hb : (g == k) = true := beq_iff_eq.mpr h
        simp only [List.lookup, hb, if_pos (h.trans hk)]
      · have hb : (g == k) = false := beq_eq_false_iff_ne.mpr h
        simp only [List.lookup, hb, if_neg (fun e : g = f => h (e.trans hk.symm))]
    · rw [if_neg hk]
      by_cases h : g = k
      · have hb : (g == k) = true := beq_iff_eq.mpr h
        simp only [List.lookup, hb, if_neg (fun e : g = f => hk (h.symm.trans e))]
      · have hb : (g == k) = false := beq_eq_false_iff_ne.mpr h
        simp only [List.lookup, hb]
        exact ih
theorem keys_putF (f : Str) (v : V) : ∀ fs : List (Str × V), f ∈ (putF f v fs).map (·.1) ∧ ∀ g, g ∈ fs.map (·.1) → g ∈ (putF f v fs).map (·.1)
  | [] => ⟨by simp [putF], fun g h => by simp at h⟩
  | (k, x) :: r => by
    obtain ⟨i1, i2⟩ := keys_putF f v r
    rw [show putF f v ((k, x) :: r) = (if k = f then (k, v) :: r else (k, x) :: putF f v r) from rfl]
    by_cases hk : k = f
    · rw [if_pos hk]
      subst hk
      exact ⟨by simp, fun g h => by simpa using h⟩
    · rw [if_neg hk]
      refine ⟨?_, fun g h => ?_⟩
      · rw [List.map_cons]
        exact List.mem_cons_of_mem _ i1
      · rw [List.map_cons] at h ⊢
        rcases List.mem_cons.mp h with e | e
        · exact List.mem_cons.mpr (.inl e)
        · exact List.mem_cons_of_mem _ (i2 g e)
theorem length_putF (f : Str) (v : V) : ∀ fs : List (Str × V), (putF f v fs).length ≤ fs.length + 1
  | [] => by simp [putF]
  | (k, x) :: r => by
    have ih := length_putF f v r
    rw [show putF f v ((k, x) :: r) = (if k = f then (k, v) :: r else (k, x) :: putF f v r) from rfl]
    by_cases hk : k = f
    · rw [if_pos hk, List.length_cons, List.length_cons]; omega
    · rw [if_neg hk, List.length_cons, List.length_cons]; omega

theorem RelO.some_of {v : V} {o : Option Value} (r : RelO (some v) o) : ∃ u, o = some u ∧ RelV v u := by
  cases o with
  | none => exact (show False from r).elim
  | some u => exact ⟨u, rfl, r⟩
theorem RelO.none_of {o : Option Value} (r : RelO none o) : o = none := by
  cases o with
  | none => rfl
  | some u => exact (show False from r).elim
theorem handed_of {v : V} {u : Value} (r : RelV v u) : PySem.W.handedIn u = true := by
  cases v with
  | non => cases (show u = Value.none from r); rfl
  | bl b => cases (show u = Value.bool b from r); rfl
  | int i => obtain ⟨t, e⟩ := (show ∃ t, u = Value.int i t from r); cases e; rfl
  | str x => obtain ⟨t, e⟩ := (show ∃ t, u = Value.str x t from r); cases e; rfl
  | byt b => obtain ⟨t, e⟩ := (show ∃ t, u = Value.bytes b t from r); cases e; rfl
  | flt b => obtain ⟨t, e⟩ := (show ∃ t, u = Value.float b t from r); cases e; rfl
  | ref a => cases (show u = Value.ref a from r); rfl
  | ty n => cases (show u = Value.type n from r); rfl

section
variable {P : Program} {w : World} {H H' : Hp} {h h' : Heap} {a C dx : Addr} {fs fs' : List (Str × V)}
theorem ins_get (hok : HOk P w H h) (e : H a = some (.ins C dx fs)) : ∃ mA, ObjM h a dx C mA ∧ (∀ f, RelO (fs.lookup f) (mA f)) ∧ PySem.Within mA (fs.map (·.1)) ∧ fs.length ≤ 1000 ∧ H dx = some (.own a) := by
  obtain ⟨d, z, ne, ob, mA, n, r, q⟩ := (show ObjOk P w H h a (.ins C dx fs) from hok a _ e)
  exact ⟨mA, ⟨ob, n, ne⟩, r, q, z, d⟩
end

/-! ### what of the text a class must have -/
structure Cls (K : PySem.W.Frag) (C : Addr) : Prop where
  pg : PySem.W.plainGet K C Str.empty = true
  hd : PySem.W.hasDictIn K C = true
  po : PySem.W.plainOver K C = true
  sa : PySem.W.findIn K (.ref C) "__setattr__" = some (some (.builtin "object.__setattr__"))
theorem Cls.get {K : PySem.W.Frag} {C : Addr} (c : Cls K C) (f : Str) : PySem.W.plainGet K C f = true := c.pg
/-- no class of it has the name -/
def NoAttr (K : PySem.W.Frag) (C : Addr) (f : Str) : Prop := PySem.W.findIn K (.ref C) f = some none
theorem NoAttr.taker {K : PySem.W.Frag} {C : Addr} {f : Str} (n : NoAttr K C f) : PySem.W.takerIn K C f = some none := by
  unfold PySem.W.takerIn
  rw [show PySem.W.findIn K (.ref C) f = some none from n]
  rfl
/-- a constant of the class -/
structure Con (K : PySem.W.Frag) (C : Addr) (f : Str) (v : V) (u : Value) : Prop where
  at_ : PySem.W.findIn K (.ref C) f = some (some u)
  rel : RelV v u
  get : PySem.W.specialIn K u "__get__" = some none
  cp : PySem.W.copiedNames.contains f = false
/-- a method: a plain def of the class or of one above it -/
structure Meth (K : PySem.W.Frag) (C : Addr) (m : Str) (f : Addr) : Prop where
  at_ : PySem.W.findIn K (.ref C) m = some (some (.ref f))
  fn : PySem.W.isFn K (.ref f) = true
  kp : PySem.W.keepIn K (.ref f) = true

section
variable {X : Cx} {pins : List (Addr × Obj)} {σ : St} {H : Hp} {s : Shared} {a C dx : Addr} {fs : List (Str × V)} {f : Str} {v : V} {A : Around} {E : Value → Shared → Prop}

theorem getattr_ok {b : Bool} {Q : Value → Shared → Prop} (I : Inv X pins σ H s) (e : H a = some (.ins C dx fs)) (c : Cls X.K C) (n : NoAttr X.K C f) (l : fs.lookup f = some v)
    (h : ∀ u s', Inv X pins σ H s' → RelV v u → Q u s') : wpAny (model X.prog X.w) A (getAttr (.ref a) f b) Q E s := by
  obtain ⟨mA, O, r, _, _, _⟩ := ins_get I.hok e
  obtain ⟨u, hu, ru⟩ := RelO.some_of (v := v) (o := mA f) (by rw [← l]; exact r f)
  exact get_map I.kIn O (c.get f) c.hd n hu (handed_of ru) (h u _ (I.tok _) ru)

theorem getmeth_ok {m : Str} {g : Addr} {pl : Sem Bool} {Q : Value × List Value → Shared → Prop} (I : Inv X pins σ H s) (e : H a = some (.ins C dx fs)) (c : Cls X.K C) (k : Meth X.K C m g) (l : fs.lookup m = none)
    (h : Q (.ref g, [.ref a]) s) : wpAny (model X.prog X.w) A (getMethod (.ref a) m pl) Q E s := by
  obtain ⟨mA, O, r, _, _, _⟩ := ins_get I.hok e
  have hn : mA m = none := RelO.none_of (by rw [← l]; exact r m)
  exact get_meth I.kIn O (c.get m) k.at_ k.fn hn h

theorem setattr_ok {y : V} {u : Value} {Q : Unit → Shared → Prop} (I : Inv X pins σ H s) (e : H a = some (.ins C dx fs)) (c : Cls X.K C) (n : NoAttr X.K C f) (hl : fs.length < 1000) (ry : RelV y u)
    (h : ∀ s', Inv X pins σ (upd H a (.ins C dx (putF f y fs))) s' → Q () s') : wpAny (model X.prog X.w) A (setAttr (.ref a) f u) Q E s := by
  obtain ⟨mA, O, r, wi, _, ho⟩ := ins_get I.hok e
  have hz : (fs.map (·.1)).length ≤ sizeLine := by rw [List.length_map, sizeLine_eq]; omega
  refine set_map I.kIn O c.sa c.po n.taker c.hd wi hz fun h' O' sb => h _ ?_
  have hd : ∃ o, h'.get? dx = some o := let ⟨o, _, _, e', _⟩ := O'.ns; ⟨o, e'⟩
  refine I.write (x := a) (e := dx) (by rw [e]; exact True.intro) (.inr ho) (fun b q hb z => (sb.2 b hb).trans z) hd ?_
  refine ⟨by rw [upd_ne O.ne]; exact ho, ?_, O.ne, O'.obj, _, O'.ns, fun g => ?_, fun g hg => ?_⟩
  · have := length_putF f y fs; omega
  · show RelO ((putF f y fs).lookup g) (if g = f then some u else mA g)
    rw [lookup_putF]
    by_cases q : g = f
    · rw [if_pos q, if_pos q]; exact ry
    · rw [if_neg q, if_neg q]; exact r g
  · by_cases q : g = f
    · rw [q]; exact (keys_putF f y fs).1
    · refine (keys_putF f y fs).2 g (wi g fun z => hg ?_)
      show (if g = f then some u else mA g) = none
      rw [if_neg q]; exact z

/-- a new instance, tracked, without attributes -/
theorem Inv.made (I : Inv X pins σ H s) : Inv X pins σ (upd (upd H s.heap.objs.size (.own (s.heap.objs.size + 1))) (s.heap.objs.size + 1) (.ins C s.heap.objs.size []))
    { s with heap := (s.heap.push PySem.W.emptyDict).push (PySem.W.instObj C s.heap.objs.size) } := by
  have e1 : (s.heap.push PySem.W.emptyDict).get? s.heap.objs.size = some PySem.W.emptyDict := Heap.get?_push_size s.heap rfl
  have e2 : ((s.heap.push PySem.W.emptyDict).push (PySem.W.instObj C s.heap.objs.size)).get? (s.heap.objs.size + 1) = some (PySem.W.instObj C s.heap.objs.size) := by
    have := Heap.get?_push_size (s.heap.push PySem.W.emptyDict) (o := PySem.W.instObj C s.heap.objs.size) rfl
    rwa [Heap.size_push] at this
  have e3 : (s.heap.push PySem.W.emptyDict).Ns s.heap.objs.size (fun _ => none) := ⟨PySem.W.emptyDict, #[], _, e1, rfl, (fun e he => absurd he (by simp)), fun _ => rfl⟩
  have I1 := I.laid (a := s.heap.objs.size) (o := .own (s.heap.objs.size + 1)) (h' := s.heap.push PySem.W.emptyDict) (t' := s.toks) (fun b u q => Heap.get?_push_of_some _ q) (Nat.le_refl _) ⟨_, e1⟩
  refine I1.laid (a := s.heap.objs.size + 1) (o := .ins C s.heap.objs.size []) (t' := s.toks) (fun b u q => Heap.get?_push_of_some _ q) (Nat.le_of_eq (Heap.size_push _ _)) ?_
  have ne : s.heap.objs.size ≠ s.heap.objs.size + 1 := Nat.ne_of_lt (Nat.lt_succ_self _)
  refine ⟨by rw [upd_ne ne, upd_same], Nat.zero_le _, ne, e2, fun _ => none, (Heap.Ns1.of_empty e3).at fun o q => Heap.get?_push_of_some _ q, fun _ => True.intro, fun y hy => absurd rfl hy⟩

/-- e.f where nothing but the object is asked: through attributeBase (super) and the last hold -/
theorem attr_of {prog : Program} {w : World} {env : Env} {e : Expr} {f : Str} {pos : Pos} {s : Shared} {Q : Value → Shared → Prop} (hb : attributeBase e f env (eval e env) = eval e env)
    (h : wpAny (model prog w) A (eval e env) (fun o s₁ => wpAny (model prog w) A (getAttr o f true) Q E s₁) E s) : wpAny (model prog w) A (eval (.Attribute e f pos) env) Q E s :=
  Attribute_any_ h (by rw [arm_eval_Attribute, hb])
end

/-! ### readings and rules -/
/-- e.f, an attribute of the instance -/
def tFld (K : PySem.W.Frag) (ta : TE) (f : Str) : TE := fun σ H Q => ta σ H fun x H1 => ∃ a C dx fs v, x = .ref a ∧ H1 a = some (.ins C dx fs) ∧ Cls K C ∧ NoAttr K C f ∧ fs.lookup f = some v ∧ Q v H1
/-- e.f = value -/
def sFld (K : PySem.W.Frag) (ta tv : TE) (f : Str) : TS := fun D σ H => tv σ H fun y H1 => ta σ H1 fun x H2 => ∃ a C dx fs, x = .ref a ∧ H2 a = some (.ins C dx fs) ∧ Cls K C ∧ NoAttr K C f ∧ fs.length < 1000 ∧
  D.nx σ (upd H2 a (.ins C dx (putF f y fs)))
section
variable {X : Cx} {o e value : Expr} {f : Str} {pos pos' tpos : Pos} {ta tv : TE}
theorem pe_fld (he : PE X e ta) (hb : attributeBase e f X.env (eval e X.env) = eval e X.env) : PE X (.Attribute e f pos) (tFld X.K ta f) := by
  intro pins s σ H Q I h
  refine attr_of hb (thn (he pins s σ H _ I h) fun u s1 ⟨x, H1, I1, rx, a, C, dx, fs, v, ex, ea, c, n, l, q⟩ => ?_)
  subst ex
  obtain rfl : u = Value.ref a := rx
  exact getattr_ok I1 ea c n l fun u' s2 I2 ru => ⟨v, H1, I2, ru, q⟩
theorem ps_fld (ha : PE X o ta) (hv : PE X value tv) (hs : swapsWith value (some (.Attribute o f pos')) pos.line X.env = pure false) : PS X (.Assign [.Attribute o f pos'] value pos) (sFld X.K ta tv f) := by
  intro pins s σ H D I h
  refine plainObj_wpAny_Assign_Attribute (thn (hv pins s σ H _ I h) fun u s1 ⟨y, H1, I1, ry, q⟩ => thn (ha pins s1 σ H1 _ I1 q) fun ov s2 ⟨x, H2, I2, rx, a, C, dx, fs, ex, ea, c, n, l, q2⟩ => ?_) hs
  subst ex
  obtain rfl : ov = Value.ref a := rx
  exact setattr_ok I2 ea c n l ry fun s3 I3 => ⟨σ, _, I3, q2⟩
end

/-! ### isinstance -/
section
variable {X : Cx} {pins : List (Addr × Obj)} {σ : St} {H : Hp} {s : Shared} {A : Around} {E : Value → Shared → Prop} {Q : Value → Shared → Prop} {c : Value} {b : Bool}
/-- the type of a value, as the fragment's deciders take it; for an instance its class -/
inductive TyOf (K : PySem.W.Frag) (H : Hp) : V → Value → Prop where
  | non : TyOf K H .non (.type "NoneType")
  | bl (x : Bool) : TyOf K H (.bl x) (.type "bool")
  | int (i : Int) : TyOf K H (.int i) (.type "int")
  | str (x : Str) : TyOf K H (.str x) (.type "str")
  | flt (x : UInt64) : TyOf K H (.flt x) (.type "float")
  | lst {a : Addr} {xs : List V} (e : H a = some (.lst xs)) : TyOf K H (.ref a) (.type "list")
  | frz {a : Addr} {o : Obj} {xs : List V} (e : H a = some (.frz o (.lst xs))) : TyOf K H (.ref a) (.type "list")
  | tup {a : Addr} {xs : List V} (e : H a = some (.tup xs)) : TyOf K H (.ref a) (.type "tuple")
  | dK {a : Addr} {kvs : List (Key × V)} (e : H a = some (.dK kvs)) : TyOf K H (.ref a) (.type "dict")
  | dT {a : Addr} {kvs : List (List Key × V)} (e : H a = some (.dT kvs)) : TyOf K H (.ref a) (.type "dict")
  | ins {a C dx : Addr} {fs : List (Str × V)} (e : H a = some (.ins C dx fs)) (cl : Cls K C) (ha : PySem.W.findIn K (.ref C) "__class__" = some (some (.builtin "object.__class__")))
      (hn : PySem.W.specialIn K (.builtin "object.__class__") "__get__" = some (some (.builtin "getset_descriptor.__get__"))) (htk : PySem.W.takesIn K (.builtin "object.__class__") = some true)
      (hm : PySem.W.mroIn K C (.type "object") = some true) : TyOf K H (.ref a) (.ref C)
/-- isinstance(x, c) for one class c, a built-in or an own one: kitOne's answer -/
theorem isinst_ok {x : V} {u t : Value} (I : Inv X pins σ H s) (rx : RelV x u) (ty : TyOf X.K H x t) (e : PySem.W.kitOne X.K t c = some b) (h : ∀ tk, Q (.bool b) { s with toks := tk }) :
    wpAny (model X.prog X.w) A (call (.builtin "isinstance") [u, c]) Q E s := by
  cases ty with
  | non => cases (show u = Value.none from rx); exact PySem.W.kia_one PySem.W.kitx_none I.kIn True.intro e (fun z => nomatch z) h
  | bl y => cases (show u = Value.bool y from rx); exact PySem.W.kia_one PySem.W.kitx_bool I.kIn True.intro e (fun z => nomatch z) h
  | int i => obtain ⟨t, q⟩ := (show ∃ t, u = Value.int i t from rx); cases q; exact PySem.W.kia_one PySem.W.kitx_int I.kIn True.intro e (fun z => nomatch z) h
  | str y => obtain ⟨t, q⟩ := (show ∃ t, u = Value.str y t from rx); cases q; exact PySem.W.kia_one PySem.W.kitx_str I.kIn True.intro e (fun z => nomatch z) h
  | flt y => obtain ⟨t, q⟩ := (show ∃ t, u = Value.float y t from rx); cases q; exact PySem.W.kia_one PySem.W.kitx_float I.kIn True.intro e (fun z => nomatch z) h
  | @lst a xs ea =>
    cases (show u = Value.ref a from rx)
    obtain ⟨_, _, n, _, h1⟩ := (show ObjOk X.prog X.w H s.heap a (.lst xs) from I.hok a _ ea)
    exact PySem.W.kia_one PySem.W.kitx_list I.kIn ⟨_, h1, rfl⟩ e (fun z => nomatch z) h
  | @frz a ob xs ea =>
    cases (show u = Value.ref a from rx)
    obtain ⟨_, _, _, n, _, h1⟩ := (show ObjOk X.prog X.w H s.heap a (.frz ob (.lst xs)) from I.hok a _ ea)
    exact PySem.W.kia_one PySem.W.kitx_list I.kIn ⟨_, h1, rfl⟩ e (fun z => nomatch z) h
  | @tup a xs ea =>
    cases (show u = Value.ref a from rx)
    obtain ⟨_, _, _, p⟩ := (show ObjOk X.prog X.w H s.heap a (.tup xs) from I.hok a _ ea)
    obtain ⟨o, h1, h2, _⟩ := p
    exact PySem.W.kia_one PySem.W.kitx_tuple I.kIn ⟨o, h1, h2⟩ e (fun z => nomatch z) h
  | @dK a kvs ea =>
    cases (show u = Value.ref a from rx)
    obtain ⟨_, _, vs, _, p⟩ := (show ObjOk X.prog X.w H s.heap a (.dK kvs) from I.hok a _ ea)
    obtain ⟨o, es, ep, h1, h2, _⟩ := p
    exact PySem.W.kia_one PySem.W.kitx_dict I.kIn ⟨o, h1, h2.1⟩ e (fun z => nomatch z) h
  | @dT a kvs ea =>
    cases (show u = Value.ref a from rx)
    obtain ⟨_, _, xs, _, o, es, ep, h1, h2, _⟩ := (show ObjOk X.prog X.w H s.heap a (.dT kvs) from I.hok a _ ea)
    exact PySem.W.kia_one PySem.W.kitx_dict I.kIn ⟨o, h1, h2.1⟩ e (fun z => nomatch z) h
  | @ins a C dx fs ea cl ha hn htk hm =>
    cases (show u = Value.ref a from rx)
    obtain ⟨mA, O, _⟩ := ins_get I.hok ea
    obtain ⟨od, J, _⟩ := O.look
    exact PySem.W.kia_one (PySem.W.kitx_own (cl.get _) cl.hd ha hn htk hm) I.kIn J e (fun z => nomatch z) h
end
end L2

namespace L2
open PySem PySem.Spec PyProof.Rows

/-! ### room -/
structure Room (k : Nat) (A : Around) : Prop where
  hd : A.handled = none
  dp : A.depth + 3 * k + 5 < recursionLimit
  un : A.units + 16 * k + 200 < cLine
theorem Room.mono {j k : Nat} {A : Around} (r : Room k A) (h : j ≤ k) : Room j A := ⟨r.hd, by have := r.dp; omega, by have := r.un; omega⟩
theorem Room.deeper {k : Nat} {A : Around} (r : Room (k + 1) A) (env : Env) : Room k (A.deeper env) :=
  ⟨r.hd, by have := r.dp; show A.depth + 1 + 3 * k + 5 < _; omega, by have := r.un; show A.units + 3 + 16 * k + 200 < _; omega⟩
theorem Room.in1 {k : Nat} {A : Around} (r : Room (k + 1) A) : Room k A.in1 :=
  ⟨r.hd, by have := r.dp; show A.depth + 3 * k + 5 < _; omega, by have := r.un; show A.units + 1 + 16 * k + 200 < _; omega⟩
theorem make_depth {A : Around} {C : Addr} {us : List Value} {kw : List (Str × Value)} : (A.under (.builtin "type.__call__" ⟨.ref C :: us, kw⟩)).depth = A.depth + 1 := by
  first | rfl | simp [Around.under, Code.weight, Code.isCreation, Code.isGuard, Code.isCaller, Code.frames, Code.isFrame, guardIds]
theorem make_units {A : Around} {C : Addr} {us : List Value} {kw : List (Str × Value)} : (A.under (.builtin "type.__call__" ⟨.ref C :: us, kw⟩)).units = A.units + 1 := by
  first | rfl | simp [Around.under, Code.cUnits, Code.frames, Code.isFrame]
theorem Room.make {k : Nat} {A : Around} (r : Room (k + 1) A) (C : Addr) (us : List Value) (kw : List (Str × Value)) : Room k (A.under (.builtin "type.__call__" ⟨.ref C :: us, kw⟩)) :=
  ⟨r.hd, by have := r.dp; rw [make_depth]; omega, by have := r.un; rw [make_units]; omega⟩
theorem Room.depth {k : Nat} {A : Around} (r : Room k A) : A.depth < recursionLimit := by have := r.dp; omega
theorem Room.units {k : Nat} {A : Around} (r : Room k A) : A.units + 64 < cLine := by have := r.un; omega
/-! ### argument lists and displays -/
def tNil : TA := fun _ H Q => Q [] H
def tCons (ta : TE) (tr : TA) : TA := fun σ H Q => ta σ H fun x H1 => tr σ H1 fun xs H2 => Q (x :: xs) H2
section
variable {X : Cx} {e : Expr} {es : List Expr} {te : TE} {t : TA} {pos : Pos}
theorem pa_nil : PA X [] tNil := fun _ _ _ _ H Q I h => Calls.spliced_nil ⟨[], H, I, .nil, h⟩
theorem pa_cons (ha : PE X e te) (hr : PA X es t) (hs : starEach (e :: es) X.env = (false, eval e X.env) :: starEach es X.env := by rfl) : PA X (e :: es) (tCons te t) := by
  intro pos pins s σ H Q I h
  rw [hs]
  show wpAny _ _ (spliced ((false, eval e X.env) :: backTo pos (starEach es X.env))) _ _ s
  refine Calls.spliced_cons (thn (ha pins s σ H _ I h) fun u s1 ⟨x, H1, I1, r1, q1⟩ => ?_)
  exact thn (hr pos pins s1 σ H1 _ I1 q1) fun us s2 ⟨xs, H2, I2, r2, q2⟩ => ⟨x :: xs, H2, I2, .cons r1 r2, q2⟩

/-- a tuple, a list of written items -/
def tTup (t : TA) : TE := fun σ H Q => t σ H fun xs H1 => xs.length ≤ sizeLine ∧ ∀ p, H1 p = none → Q (.ref p) (upd H1 p (.tup xs))
def tLst (t : TA) : TE := fun σ H Q => t σ H fun xs H1 => xs.length ≤ sizeLine ∧ ∀ p, H1 p = none → Q (.ref p) (upd H1 p (.lst xs))
theorem pe_tup {x1} (h : PA X es t) : PE X (.Tuple es x1 pos) (tTup t) := by
  intro pins s σ H Q I hq
  refine wpAny_Tuple_spliced (thn (h pos pins s σ H _ I hq) fun us s1 ⟨xs, H1, I1, r, z, q⟩ => ⟨by rw [← r.length]; exact z, ?_⟩)
  have hf : H1 s1.heap.objs.size = none := I1.hok.fresh (Nat.le_refl _)
  refine ⟨.ref s1.heap.objs.size, upd H1 s1.heap.objs.size (.tup xs), I1.laid (t' := s1.toks) (fun b u e => Heap.get?_push_of_some _ e) (Nat.le_refl _) ?_, rfl, q _ hf⟩
  exact ⟨z, us, r, ⟨_, Heap.get?_push_size _ rfl, rfl, _, rfl⟩⟩
theorem pe_lst (h : PA X es t) : PE X (.List es pos) (tLst t) := by
  intro pins s σ H Q I hq
  refine wpAny_List_spliced (thn (h pos pins s σ H _ I hq) fun us s1 ⟨xs, H1, I1, r, z, q⟩ => ⟨by rw [← r.length]; exact z, ?_⟩)
  have hf : H1 s1.heap.objs.size = none := I1.hok.fresh (Nat.le_refl _)
  refine ⟨.ref s1.heap.objs.size, upd H1 s1.heap.objs.size (.lst xs), I1.laid (t' := s1.toks) (fun b u e => Heap.get?_push_of_some _ e) (Nat.le_refl _) ?_, rfl, q _ hf⟩
  exact ⟨z, us, 0, r, Heap.get?_push_size _ rfl⟩
end

/-! ### what a def promises -/
/-- a def's promise: the bound arguments in the parameters' order, the heap, the wanted end, the wanted exception -/
abbrev Sp := List V → Hp → VK → XK → Prop
/-- how an exception lies behind a call (file 08 gives it): the callers' frames, abstract heap and state ahead of the call, the wish, the exception, the state -/
abbrev CXT := List Env → Hp → Shared → XK → Value → Shared → Prop

/-- the state at a call -/
structure Env0 (P : Program) (w : World) (K : PySem.W.Frag) (mg : Str → Option Value) (base : Heap) (A : Around) (outer : List Env) (s : Shared) (H : Hp) : Prop where
  frames : A.frames = some outer
  mod : Mod K mg base
  bs : ∀ b o, base.get? b = some o → s.heap.get? b = some o ∧ H b = none
  bsz : base.objs.size ≤ s.heap.objs.size
  funs : s.heap.FunFrames base outer
  frf : ∀ b ∈ frs outer, H b = none
  hok : HOk P w H s.heap
  bare : AllBare s.gens
/-- a call's end -/
def CE (outer : List Env) (P : Program) (w : World) (H : Hp) (s : Shared) (Q : VK) (u : Value) (s' : Shared) : Prop :=
  ∃ v H', s'.os = s.os ∧ AllBare s'.gens ∧ Un (frs outer) [] H H' s.heap s'.heap ∧ HOk P w H' s'.heap ∧ RelV v u ∧ Q v H'
def CR (CX : CXT) (outer : List Env) (P : Program) (w : World) (H : Hp) (s : Shared) (Q : VK) (E : XK) (r : Result) (s' : Shared) : Prop :=
  match r with
  | .ok (.ret u) => CE outer P w H s Q u s'
  | .ok _ => False
  | .error e => CX outer H s E e s'
structure FnOk (P : Program) (w : World) (K : PySem.W.Frag) (mg : Str → Option Value) (base : Heap) (CX : CXT) (k : Nat) (f : Addr) (fd : FuncData) (ps : List Str) (sp : Sp) : Prop where
  len : ∀ vs H Q E, sp vs H Q E → vs.length = ps.length
  run : ∀ (A : Around) (outer : List Env) (s : Shared) (H : Hp) (args : Args) (us : List Value) (vs : List V) (Q : VK) (E : XK), Room k A → Env0 P w K mg base A outer s H → BindsTo s fd args (ps.zip us) → Vals vs us → sp vs H Q E →
    codeAny (model P w) A (.call (.ref f) args) (CR CX outer P w H s Q E) s
theorem FnOk.mono {P : Program} {w : World} {K : PySem.W.Frag} {mg : Str → Option Value} {base : Heap} {CX : CXT} {j k : Nat} {f : Addr} {fd : FuncData} {ps : List Str} {sp : Sp} (F : FnOk P w K mg base CX j f fd ps sp) (h : j ≤ k) :
    FnOk P w K mg base CX k f fd ps sp := ⟨F.len, fun A outer s H args us vs Q E hr => F.run A outer s H args us vs Q E (hr.mono h)⟩
/-- a weaker promise -/
theorem FnOk.imp {P : Program} {w : World} {K : PySem.W.Frag} {mg : Str → Option Value} {base : Heap} {CX : CXT} {k : Nat} {f : Addr} {fd : FuncData} {ps : List Str} {sp sp' : Sp} (F : FnOk P w K mg base CX k f fd ps sp)
    (h : ∀ vs H Q E, sp' vs H Q E → sp vs H Q E) : FnOk P w K mg base CX k f fd ps sp' :=
  ⟨fun vs H Q E q => F.len vs H Q E (h _ _ _ _ q), fun A outer s H args us vs Q E hr he hb hv hs => F.run A outer s H args us vs Q E hr he hb hv (h _ _ _ _ hs)⟩

theorem Env0.make {P : Program} {w : World} {K : PySem.W.Frag} {mg : Str → Option Value} {base : Heap} {A : Around} {outer : List Env} {s : Shared} {H : Hp} (e : Env0 P w K mg base A outer s H) (C : Addr) (us : List Value) (kw : List (Str × Value)) :
    Env0 P w K mg base (A.under (.builtin "type.__call__" ⟨.ref C :: us, kw⟩)) outer s H := ⟨by first | exact e.frames | (simpa [Around.under, Code.envs, Code.isFrame, pushEnvs] using e.frames), e.mod, e.bs, e.bsz, e.funs, e.frf, e.hok, e.bare⟩
theorem Env0.in1 {P : Program} {w : World} {K : PySem.W.Frag} {mg : Str → Option Value} {base : Heap} {A : Around} {outer : List Env} {s : Shared} {H : Hp} (e : Env0 P w K mg base A outer s H) :
    Env0 P w K mg base A.in1 outer s H := ⟨e.frames, e.mod, e.bs, e.bsz, e.funs, e.frf, e.hok, e.bare⟩

section
variable {X : Cx} {pins : List (Addr × Obj)} {σ : St} {H : Hp} {s s' : Shared}
/-- from a body: what a callee wants -/
theorem Inv.env0 (I : Inv X pins σ H s) : Env0 X.prog X.w X.K X.mg X.base X.A X.stack s H :=
  ⟨I.ok.frames, I.ok.mod, I.bs, Nat.le_trans I.ok.bsz I.sz, I.stack, I.stkFree, I.hok, I.bare⟩
/-- behind a call -/
theorem Inv.after {Q : VK} {u : Value} (I : Inv X pins σ H s) (h : CE X.stack X.prog X.w H s Q u s') : EP X pins σ Q u s' := by
  obtain ⟨v, H', os, bare, un, hok, r, q⟩ := h
  obtain ⟨hh, g, d, t, os'⟩ := s'
  obtain rfl : os' = s.os := os
  exact ⟨v, H', I.call (h' := hh) (g' := g) (d' := d) (t' := t) (ch := []) un hok bare (fun b z => absurd z (by simp)), r, q⟩
end

/-! ### calls -/
/-- f(..): the written arguments, then the defaults dvs; E: what is wanted of an exception -/
def tCall (sp : Sp) (dvs : List V) (E : XK) (t : TA) : TE := fun σ H Q => t σ H fun vs H1 => sp (vs ++ dvs) H1 Q E
/-- o.m(..) of an instance of the class at C -/
def tMeth (C : Addr) (m : Str) (sp : Sp) (dvs : List V) (E : XK) (ta : TE) (t : TA) : TE := fun σ H Q => ta σ H fun x H1 => ∃ a dx fs, x = .ref a ∧ H1 a = some (.ins C dx fs) ∧ fs.lookup m = none ∧
  t σ H1 fun vs H2 => sp (x :: (vs ++ dvs)) H2 Q E
/-- C(..): a new instance and its dict, then __init__ -/
def tMake (C : Addr) (sp : Sp) (dvs : List V) (E : XK) (t : TA) : TE := fun σ H Q => t σ H fun vs H1 => ∀ x dx, H1 x = none → H1 dx = none → dx ≠ x →
  sp (.ref x :: (vs ++ dvs)) (upd (upd H1 dx (.own x)) x (.ins C dx [])) (fun v H2 => v = .non ∧ Q (.ref x) H2) E

/-- how the parameters are bound: us the positional arguments, kw the keywords' values by name, ds the defaults that fill up -/
def Binds (K : PySem.W.Frag) (fd : FuncData) (ps : List Str) (ds : List Value) : Prop :=
  ∀ (s : Shared) (us : List Value), K.In s.heap → (us ++ ds).length = ps.length → BindsTo s fd ⟨us, []⟩ (ps.zip (us ++ ds))
/-- every parameter is given -/
theorem Binds.all {K : PySem.W.Frag} {fd : FuncData} {ps : List Str} (h : ∀ us : List Value, us.length = ps.length → bindArgs fd ⟨us, []⟩ = pure (ps.zip us)) : Binds K fd ps [] := fun s us _ hl => by
  rw [List.append_nil] at hl ⊢
  exact .of_eq (h us hl)

/-- an exception of a callee reaches what this body wants of exceptions -/
def Passes (CX : CXT) (X : Cx) (E : XK) : Prop := ∀ (pins : List (Addr × Obj)) (σ : St) (H : Hp) (s : Shared) (e : Value) (s' : Shared), Inv X pins σ H s → CX X.stack H s E e s' → X.xe e s'

section
variable {X : Cx} {CX : CXT} {k : Nat} {f C : Addr} {fd : FuncData} {ps : List Str} {sp : Sp} {dvs : List V} {ds : List Value} {E : XK} {x m : Str} {p pos apos : Pos} {e o : Expr} {es : List Expr} {ta : TE} {t : TA}

/-- the callee runs -/
theorem run_fn {pins : List (Addr × Obj)} {σ : St} {H : Hp} {s : Shared} {Q : VK} {us : List Value} {vs : List V} (F : FnOk X.prog X.w X.K X.mg X.base CX k f fd ps sp) (hr : Room k X.A) (hb : Binds X.K fd ps ds) (hd : Vals dvs ds) (hx : Passes CX X E)
    (I : Inv X pins σ H s) (r : Vals vs us) (h : sp (vs ++ dvs) H Q E) : wpAny (model X.prog X.w) X.A (call (.ref f) us) (EP X pins σ Q) X.xe s := by
  have r2 : Vals (vs ++ dvs) (us ++ ds) := r.append hd
  have hl : (us ++ ds).length = ps.length := by rw [← r2.length]; exact F.len _ _ _ _ h
  refine wpAny_call (codeAny_mono (F.run X.A X.stack s H ⟨us, []⟩ (us ++ ds) (vs ++ dvs) Q E hr I.env0 (hb s us I.kIn hl) r2 h) fun r s' hq => ?_)
  cases r with
  | error e => exact hx pins σ H s e s' I hq
  | ok fl =>
    cases fl with
    | ret u => exact I.after hq
    | next => exact False.elim hq
    | brk => exact False.elim hq
    | cont => exact False.elim hq

theorem pe_call (F : FnOk X.prog X.w X.K X.mg X.base CX k f fd ps sp) (hr : Room k X.A) (hg : Gl X x) (hm : X.mg x = some (.ref f)) (hk : PySem.W.keepIn X.K (.ref f) = true) (hb : Binds X.K fd ps ds) (hd : Vals dvs ds) (hx : Passes CX X E)
    (ha : PA X (e :: es) t) (hdb : (x == ("__debug__" : Str)) = false := by decide) (he : starEach (e :: es) X.env = (false, eval e X.env) :: starEach es X.env := by rfl) (hpl : (backTo pos (starEach es X.env)).any (·.1) = false := by rfl) :
    PE X (.Call (.Name x p) (e :: es) [] pos) (tCall sp dvs E t) := by
  intro pins s σ H Q I h
  refine wpAny_Call_Name_kw (ld_glob I hg hm ?_ hdb)
  refine PySem.W.callWith_K (h₀ := X.base) I.ok.mod.kin hk (thn (ha pos pins s σ H _ I h) fun us s1 ⟨vs, H1, I1, r, q⟩ => ⟨I1.kIn, ?_⟩) he hpl
  exact run_fn F hr hb hd hx I1 r q
/-- o.m(e, ..) -/
theorem pe_meth {pl : Sem Bool} (he : PE X o ta) (c : Cls X.K C) (hm : Meth X.K C m f) (F : FnOk X.prog X.w X.K X.mg X.base CX k f fd ps sp) (hr : Room k X.A) (hb : Binds X.K fd ps ds) (hd : Vals dvs ds) (hx : Passes CX X E) (ha : PA X (e :: es) t)
    (hst : starEach (e :: es) X.env = (false, eval e X.env) :: starEach es X.env := by rfl) (hpl : (backTo pos (starEach es X.env)).any (·.1) = false := by rfl)
    (ht : eval (.Call (.Attribute o m apos) (e :: es) [] pos) X.env = (do
      let ov ← eval o X.env
      standAt apos.atName
      let (f, first) ← holding [ov] (getMethod ov m pl)
      callWith pos f first (backTo pos (starEach (e :: es) X.env)) (backToKw pos (keywordEach [] X.env))) := by rfl) :
    PE X (.Call (.Attribute o m apos) (e :: es) [] pos) (tMeth C m sp dvs E ta t) := by
  intro pins s σ H Q I h
  refine PySem.W.methodCall_KW (pl := pl) (thn (he pins s σ H _ I h) fun u s1 ⟨x, H1, I1, rx, a, dx, fs, ex, ea, l, q⟩ => ?_) ht
  subst ex
  obtain rfl : u = Value.ref a := rx
  refine getmeth_ok I1 ea c hm l ?_
  refine PySem.W.callWith_K (first := [.ref a]) (h₀ := X.base) I.ok.mod.kin hm.kp (thn (ha pos pins s1 σ H1 _ I1 q) fun us s2 ⟨vs, H2, I2, r, q2⟩ => ⟨I2.kIn, ?_⟩) hst hpl
  exact run_fn (us := .ref a :: us) (vs := .ref a :: vs) F hr hb hd hx I2 (.cons rfl r) q2
/-- o.m() -/
theorem pe_meth0 {pl : Sem Bool} (he : PE X o ta) (c : Cls X.K C) (hm : Meth X.K C m f) (F : FnOk X.prog X.w X.K X.mg X.base CX k f fd ps sp) (hr : Room k X.A) (hb : Binds X.K fd ps ds) (hd : Vals dvs ds) (hx : Passes CX X E)
    (ht : eval (.Call (.Attribute o m apos) [] [] pos) X.env = (do
      let ov ← eval o X.env
      standAt apos.atName
      let (f, first) ← holding [ov] (getMethod ov m pl)
      callWith pos f first (backTo pos (starEach [] X.env)) (backToKw pos (keywordEach [] X.env))) := by rfl) :
    PE X (.Call (.Attribute o m apos) [] [] pos) (tMeth C m sp dvs E ta tNil) := by
  intro pins s σ H Q I h
  refine PySem.W.methodCall_KW (pl := pl) (thn (he pins s σ H _ I h) fun u s1 ⟨x, H1, I1, rx, a, dx, fs, ex, ea, l, q⟩ => ?_) ht
  subst ex
  obtain rfl : u = Value.ref a := rx
  refine getmeth_ok I1 ea c hm l ?_
  exact PySem.W.callWith_K0 (first := [.ref a]) I1.kIn hm.kp (run_fn (us := [.ref a]) (vs := [.ref a]) F hr hb hd hx I1 (.cons rfl .nil) q)

/-- what a class must have to be made -/
structure Mk (K : PySem.W.Frag) (C f : Addr) : Prop where
  makes : PySem.W.makesIn K C = true
  init : PySem.W.findIn K (.ref C) "__init__" = some (some (.ref f))
  fn : PySem.W.isFn K (.ref f) = true
  kp : PySem.W.keepIn K (.ref C) = true

theorem run_make {pins : List (Addr × Obj)} {σ : St} {H : Hp} {s : Shared} {Q : VK} {us : List Value} {vs : List V} (M : Mk X.K C f) (F : FnOk X.prog X.w X.K X.mg X.base CX k f fd ps sp) (hr : Room (k + 1) X.A) (hb : Binds X.K fd ps ds) (hd : Vals dvs ds)
    (hx : Passes CX X E) (I : Inv X pins σ H s) (r : Vals vs us)
    (h : ∀ x dx, H x = none → H dx = none → dx ≠ x → sp (.ref x :: (vs ++ dvs)) (upd (upd H dx (.own x)) x (.ins C dx [])) (fun v H2 => v = .non ∧ Q (.ref x) H2) E) :
    wpAny (model X.prog X.w) X.A (call (.ref C) us) (EP X pins σ Q) X.xe s := by
  have hq := h (s.heap.objs.size + 1) s.heap.objs.size (I.hok.fresh (Nat.le_succ _)) (I.hok.fresh (Nat.le_refl _)) (Nat.ne_of_lt (Nat.lt_succ_self _))
  have I2 := Inv.made (C := C) I
  have r2 : Vals (V.ref (s.heap.objs.size + 1) :: (vs ++ dvs)) (Value.ref (s.heap.objs.size + 1) :: (us ++ ds)) := .cons rfl (r.append hd)
  have hl : (Value.ref (s.heap.objs.size + 1) :: us ++ ds).length = ps.length := by
    have e := r2.length
    rw [F.len _ _ _ _ hq] at e
    exact e.symm
  refine wpAny_call (make_map (f := f) I.kIn M.makes M.init (beq_iff_eq.mp M.fn) (codeAny_mono (F.run _ X.stack _ _ ⟨Value.ref (s.heap.objs.size + 1) :: us, []⟩ (Value.ref (s.heap.objs.size + 1) :: (us ++ ds)) _ _ E (hr.make C us [])
    (I2.env0.make C us []) (hb _ (Value.ref (s.heap.objs.size + 1) :: us) I2.kIn hl) r2 hq) fun r s' hq' => ?_))
  cases r with
  | error e => exact hx pins σ _ _ e s' I2 hq'
  | ok fl =>
    cases fl with
    | ret u =>
      obtain ⟨v, H', I3, rv, ev, q3⟩ := I2.after hq'
      subst ev
      exact ⟨rv, ⟨V.ref (s.heap.objs.size + 1), H', I3, rfl, q3⟩⟩
    | next => exact False.elim hq'
    | brk => exact False.elim hq'
    | cont => exact False.elim hq'
theorem pe_make (M : Mk X.K C f) (F : FnOk X.prog X.w X.K X.mg X.base CX k f fd ps sp) (hr : Room (k + 1) X.A) (hg : Gl X x) (hm : X.mg x = some (.ref C)) (hb : Binds X.K fd ps ds) (hd : Vals dvs ds) (hx : Passes CX X E)
    (ha : PA X (e :: es) t) (hdb : (x == ("__debug__" : Str)) = false := by decide) (he : starEach (e :: es) X.env = (false, eval e X.env) :: starEach es X.env := by rfl) (hpl : (backTo pos (starEach es X.env)).any (·.1) = false := by rfl) :
    PE X (.Call (.Name x p) (e :: es) [] pos) (tMake C sp dvs E t) := by
  intro pins s σ H Q I h
  refine wpAny_Call_Name_kw (ld_glob I hg hm ?_ hdb)
  refine PySem.W.callWith_K (h₀ := X.base) I.ok.mod.kin M.kp (thn (ha pos pins s σ H _ I h) fun us s1 ⟨vs, H1, I1, r, q⟩ => ⟨I1.kIn, ?_⟩) he hpl
  exact run_make M F hr hb hd hx I1 r q
end

/-! ### keywords -/
section
variable {X : Cx} {CX : CXT} {k : Nat} {f C : Addr} {fd : FuncData} {ps ks : List Str} {sp : Sp} {E : XK} {x m : Str} {p pos apos kpos : Pos} {e o : Expr} {es : List Expr} {kws : List Keyword} {te ta : TE} {t tk : TA} {nm : Option Str}
/-- how a call with keywords binds: g puts the positional values us and the keywords' values ws (names ks) in the parameters' order, defaults among them -/
structure KBinds (K : PySem.W.Frag) (fd : FuncData) (ps ks : List Str) (g : List Value → List Value → List Value) (gV : List V → List V → List V) : Prop where
  to : ∀ (s : Shared) (us ws : List Value), K.In s.heap → (g us ws).length = ps.length → BindsTo s fd ⟨us, ks.zip ws⟩ (ps.zip (g us ws))
  rel : ∀ {vs : List V} {us : List Value} {zs : List V} {ws : List Value}, Vals vs us → Vals zs ws → Vals (gV vs zs) (g us ws)
variable {g : List Value → List Value → List Value} {gV : List V → List V → List V}
end

/-! ### a def's body keeps its promise -/
/-- names: the parameters first -/
structure FnScope (N P : List Str) (sc : Scope) : Prop where
  kind : sc.kind = .function
  co : sc.isCoroutine = false
  gen : sc.isGenerator = false
  nd : N.Nodup
  pre : N.take P.length = P
  par : ∀ x ∈ P, sc.names.lookup x = some .local ∨ sc.names.lookup x = some .cell
  nofree : ∀ y ∈ sc.names, y.2 ≠ .free

theorem bindL_out {kindOf : Str → Option NameKind} {x : Str} : ∀ {binds : List (Str × Value)} {m : Str → Option Value}, (∀ v, (x, v) ∉ binds) → bindL kindOf binds m x = m x
  | [], _, _ => rfl
  | (n, v) :: r, m, h => by
    unfold bindL
    rw [bindL_out fun w hw => h w (List.mem_cons_of_mem _ hw)]
    split
    · have : x ≠ n := by rintro rfl; exact h v List.mem_cons_self
      simp [this]
    · rfl
theorem bindC_out {kindOf : Str → Option NameKind} {x : Str} : ∀ {binds : List (Str × Value)} {m : Str → Option Value}, (∀ v, (x, v) ∉ binds) → bindC kindOf binds m x = m x
  | [], _, _ => rfl
  | (n, v) :: r, m, h => by
    unfold bindC
    rw [bindC_out fun w hw => h w (List.mem_cons_of_mem _ hw)]
    split
    · rfl
    · have : x ≠ n := by rintro rfl; exact h v List.mem_cons_self
      simp [this]
theorem bindL_get {kindOf : Str → Option NameKind} {x : Str} {v : Value} : ∀ {P : List Str} {vs : List Value} {i : Nat} {m : Str → Option Value}, P.Nodup → P[i]? = some x → vs[i]? = some v → kindOf x = some .local →
    bindL kindOf (P.zip vs) m x = some v
  | [], _, _, _, _, h, _, _ => by simp at h
  | _ :: _, [], _, _, _, _, h, _ => by simp at h
  | p :: P, w :: vs, 0, m, nd, h1, h2, hk => by
    simp at h1 h2; subst h1; subst h2
    show bindL kindOf ((p, w) :: P.zip vs) m p = _
    unfold bindL
    rw [bindL_out fun v hv => (List.nodup_cons.mp nd).1 (List.of_mem_zip hv).1, if_pos hk]
    simp
  | p :: P, w :: vs, i + 1, m, nd, h1, h2, hk => by
    show bindL kindOf ((p, w) :: P.zip vs) m x = _
    unfold bindL
    exact bindL_get (i := i) (List.nodup_cons.mp nd).2 (by simpa using h1) (by simpa using h2) hk
theorem bindC_get {kindOf : Str → Option NameKind} {x : Str} {v : Value} : ∀ {P : List Str} {vs : List Value} {i : Nat} {m : Str → Option Value}, P.Nodup → P[i]? = some x → vs[i]? = some v → kindOf x ≠ some .local →
    bindC kindOf (P.zip vs) m x = some v
  | [], _, _, _, _, h, _, _ => by simp at h
  | _ :: _, [], _, _, _, _, h, _ => by simp at h
  | p :: P, w :: vs, 0, m, nd, h1, h2, hk => by
    simp at h1 h2; subst h1; subst h2
    show bindC kindOf ((p, w) :: P.zip vs) m p = _
    unfold bindC
    rw [bindC_out fun v hv => (List.nodup_cons.mp nd).1 (List.of_mem_zip hv).1, if_neg hk]
    simp
  | p :: P, w :: vs, i + 1, m, nd, h1, h2, hk => by
    show bindC kindOf ((p, w) :: P.zip vs) m x = _
    unfold bindC
    exact bindC_get (i := i) (List.nodup_cons.mp nd).2 (by simpa using h1) (by simpa using h2) hk

/-- the names' values at the entry -/
def start (N : List Str) (vs : List V) : St := vs.map some ++ List.replicate (N.length - vs.length) none

/-- the context of a def's body, at its entry; an exception leaves the frame, then lies as CX says -/
def cxOf (CX : CXT) (P : Program) (w : World) (K : PySem.W.Frag) (mg : Str → Option Value) (base : Heap) (N : List Str) (qual : Str) (scope : Scope) (f : Addr) (cd : Value) (A : Around) (outer : List Env) (s : Shared) (H : Hp) (E : XK) : Cx where
  prog := P
  w := w
  K := K
  mg := mg
  base := base
  A := A.deeper (envOfC qual scope s.heap.objs.size f cd)
  N := N
  s₀ := s
  H₀ := H
  env := envOfC qual scope s.heap.objs.size f cd
  outer := outer
  stack := envOfC qual scope s.heap.objs.size f cd :: outer
  ex := []
  calm := true
  fn := fun _ => true
  pn := []
  xe := fun e s' => wpAny (model P w) (A.deeper (envOfC qual scope s.heap.objs.size f cd)) (leaving (envOfC qual scope s.heap.objs.size f cd) e) (fun _ s'' => CX outer H s E e s'') (fun e' s'' => CX outer H s E e' s'') s'

theorem cell_has {sc : Scope} {n : Nat} {x : Str} (h : sc.names.lookup x = some .cell) : ∃ c, (cellsFrom n sc.names []).lookup x = some c := by
  have q := PySem.W.cellsFrom_some sc.names n [] (.inl h)
  exact Option.isSome_iff_exists.mp q

theorem inv_start {CX : CXT} {P : Program} {w : World} {K : PySem.W.Frag} {mg : Str → Option Value} {base : Heap} {N ps : List Str} {qual : Str} {scope : Scope} {f : Addr} {cd : Value} {A : Around} {outer : List Env} {s s1 : Shared} {H : Hp} {E : XK} {us : List Value} {vs : List V}
    (S : FnScope N ps scope) (hd : A.handled = none) (e0 : Env0 P w K mg base A outer s H) (hl : vs.length = ps.length) (r : Vals vs us)
    (x : InCallC s s.heap.objs.size (bindL (envOfC qual scope s.heap.objs.size f cd).kindOf (ps.zip us) fun _ => none) (cellsFrom (s.heap.objs.size + 1) scope.names []) (bindC (envOfC qual scope s.heap.objs.size f cd).kindOf (ps.zip us) fun _ => none) s1) :
    Inv (cxOf CX P w K mg base N qual scope f cd A outer s H E) [] (start N vs) H s1 := by
  have hpl : ps.length ≤ N.length := by have := congrArg List.length S.pre; rw [List.length_take] at this; omega
  obtain ⟨h1, tk, rfl, hk⟩ := x.done
  have noA : ∀ b : Addr, b ∉ (cxOf CX P w K mg base N qual scope f cd A outer s H E).ex := fun b z => absurd (show b ∈ ([] : List Addr) from z) (by simp)
  refine ⟨⟨e0.mod, S.kind, rfl, rfl, Nat.le_refl _, fun y z c h1 h2 => ?_, fun y hy => ?_, fun y c _ h => ?_, fun _ => hd, Around.frames_deeper e0.frames, .inr ⟨rfl, rfl⟩, fun b z => absurd z (noA b), e0.bs, e0.bsz, fun b _ _ => noA b, fun b z => absurd z (noA b), e0.funs, e0.frf⟩,
    rfl, e0.bare, Un.kept hk, ⟨_, x.toInCall.ns, fun i y v h1 h2 h3 => ?_⟩, fun y c h => ⟨_, x.cell y c h⟩, e0.hok.fresh (Nat.le_refl _), fun y c h => ?_, fun p hp => absurd (show p ∈ ([] : List (Addr × Obj)) from hp) (by simp), e0.hok.kept hk, ?_⟩
  · exact name_of_addr x.apart (PySem.mem_of_lookup h1) (PySem.mem_of_lookup h2)
  · have hy : scope.names.lookup y = some .cell ∨ scope.names.lookup y = some .free := hy
    rcases hy with hy | hy
    · exact cell_has hy
    · exact absurd rfl (S.nofree _ (PySem.mem_of_lookup hy))
  · exact Nat.le_of_lt (x.above y c (PySem.mem_of_lookup h))
  · have hi : i < vs.length := by
      unfold start at h2
      by_cases hi : i < vs.length
      · exact hi
      · rw [List.getElem?_append_right (by simpa using hi)] at h2
        rw [List.getElem?_replicate] at h2
        split at h2 <;> cases h2
    have ha : vs[i]? = some v := by
      unfold start at h2
      rw [List.getElem?_append_left (by simpa using hi), List.getElem?_map] at h2
      cases e : vs[i]? with
      | none => rw [e] at h2; cases h2
      | some a => rw [e] at h2; cases h2; rfl
    obtain ⟨u, hu, rv⟩ := r.get ha
    have hp : ps[i]? = some y := by
      rw [← S.pre, List.getElem?_take_of_lt (by omega)]; exact h1
    have ndP : ps.Nodup := by rw [← S.pre]; exact S.nd.sublist (List.take_sublist _ _)
    refine ⟨u, rv, ?_⟩
    rcases S.par y (List.mem_of_getElem? hp) with k | k
    · exact .inl ⟨k, bindL_get ndP hp hu k⟩
    · obtain ⟨c, e⟩ := cell_has (n := s.heap.objs.size + 1) k
      refine .inr ⟨.inl k, c, e, ?_⟩
      have q := x.cell y c e
      rw [bindC_get ndP hp hu (by show scope.names.lookup y ≠ _; rw [k]; decide)] at q
      exact q
  · exact e0.hok.fresh (Nat.le_of_lt (x.above y c (PySem.mem_of_lookup h)))
  · unfold start
    show _ = N.length
    rw [List.length_append, List.length_map, List.length_replicate]
    omega

/-- THE RULE: a def (or a method) of the text, by its body. The body's reading t is chosen for each entry; it is run at the parameters' values -/
theorem fn_of {CX : CXT} {P : Program} {w : World} {K : PySem.W.Frag} {mg : Str → Option Value} {base : Heap} {k : Nat} {f : Addr} {name qual : Str} {params : Arguments} {body : List Stmt} {scope : Scope} {dV kV doc pm cdv ct oc : Value} {an od : Option Addr}
    {osl : Array (Option Value)} {N ps : List Str} {sp : Sp} (lk : K.lookup f = some ⟨oc, od, .func (PySem.W.fnOf name qual params body scope dV kV doc pm an cdv ct), osl⟩) (hcd : PySem.W.codeIn K cdv qual = true) (S : FnScope N ps scope)
    (len : ∀ vs H Q E, sp vs H Q E → vs.length = ps.length)
    (hbody : ∀ (A : Around) (outer : List Env) (s : Shared) (H : Hp) (vs : List V) (Q : VK) (E : XK), Room k (A.deeper (envOfC qual scope s.heap.objs.size f cdv)) → sp vs H Q E →
      ∃ t, PSs (cxOf CX P w K mg base N qual scope f cdv A outer s H E) body t ∧ t { nx := fun _ H' => Q .non H', rt := Q } (start N vs) H) :
    FnOk P w K mg base CX (k + 1) f (PySem.W.fnOf name qual params body scope dV kV doc pm an cdv ct) ps sp := by
  refine ⟨len, fun A outer s H args us vs Q E hr e0 hb r hsp => ?_⟩
  have hl := len _ _ _ _ hsp
  have KX : K.In s.heap := e0.mod.kin.keeps fun b o e => (e0.bs b o e).1
  have lim : s.heap.NoLimit := e0.mod.nolimit.keeps fun b o e => (e0.bs b o e).1
  have hkind : ∀ y ∈ ps.zip us, scope.names.lookup y.1 = some .local ∨ (scope.names.lookup y.1 = some .cell ∧ ((cellsFrom (s.heap.objs.size + 1) scope.names []).lookup y.1).isSome = true) := fun ⟨n, v⟩ hy => by
    rcases S.par n (List.of_mem_zip hy).1 with q | q
    · exact .inl q
    · exact .inr ⟨q, PySem.W.cellsFrom_some _ _ _ (.inl q)⟩
  refine codeAny_call_function hr.depth (KX _ _ lk) rfl S.co S.gen rfl (PySem.W.codeRec_of KX hcd) (hb _ _ _ _ ?_)
  refine wpAny_newFunctionEnv_cells S.kind hkind fun env he s1 x => ?_
  subst he
  refine ⟨lim.keeps x.toInCall.keep, codeAny_func ?_⟩
  obtain ⟨t, ht, hq⟩ := hbody A outer s H vs Q E (hr.deeper _) hsp
  have I : Inv (cxOf CX P w K mg base N qual scope f cdv A outer s H E) [] (start N vs) H s1 := inv_start S hr.hd e0 hl r x
  refine wpAny_mono (ht [] s1 (start N vs) H _ I hq) (fun fl s' hs => ?_) fun e s' hs => hs
  have fin : ∀ {σ' : St} {H' : Hp} {v : V} {u : Value}, Inv (cxOf CX P w K mg base N qual scope f cdv A outer s H E) [] σ' H' s' → RelV v u → Q v H' → CE outer P w H s Q u s' :=
    fun {σ' H' v u} J rv q => ⟨v, H', J.os, J.bare, J.base, J.hok, rv, q⟩
  cases fl with
  | ret u =>
    obtain ⟨v, σ', H', J, rv, q⟩ := hs
    exact fin J rv q
  | next =>
    obtain ⟨σ', H', J, q⟩ := hs
    exact fin (v := V.non) (u := Value.none) J rfl q
  | brk =>
    obtain ⟨_, _, _, q⟩ := hs
    exact False.elim q
  | cont =>
    obtain ⟨_, _, _, q⟩ := hs
    exact False.elim q
end L2

namespace L2
open PySem PySem.Spec PyProof.Rows
section
variable {X : Cx} {x : Str} {p pos : Pos} {e : Expr} {es : List Expr} {t : TA} {id T : String} {r : List V → Hp → VK → Prop}

def tCB (r : List V → Hp → VK → Prop) (t : TA) : TE := fun σ H Q => t σ H fun vs H1 => r vs H1 Q
/-- f(e, ..), f a built-in function -/
theorem pe_callB (hc : CallR X (.builtin id) r) (hg : Gl X x) (hm : X.mg x = none) (hv : bootBuiltins x = some (.builtin id)) (ha : PA X (e :: es) t) (hn : x ≠ "__name__" := by decide) (hdb : (x == ("__debug__" : Str)) = false := by decide)
    (he : starEach (e :: es) X.env = (false, eval e X.env) :: starEach es X.env := by rfl) (hpl : (backTo pos (starEach es X.env)).any (·.1) = false := by rfl) : PE X (.Call (.Name x p) (e :: es) [] pos) (tCB r t) := by
  intro pins s σ H Q I h
  refine wpAny_Call_Name_kw (ld_blt I hg hm hv ?_ hn hdb)
  exact PyProof.Rows.callWith_builtin1 (thn (ha pos pins s σ H _ I h) fun us s1 ⟨vs, H1, I1, r1, q1⟩ => hc pins s1 σ H1 vs us Q I1 r1 q1) he hpl
/-- T(e, ..), T a built-in type -/
theorem pe_callTy (hc : CallR X (.type T) r) (hg : Gl X x) (hm : X.mg x = none) (hv : bootBuiltins x = some (.type T)) (ha : PA X (e :: es) t) (hn : x ≠ "__name__" := by decide) (hdb : (x == ("__debug__" : Str)) = false := by decide)
    (he : starEach (e :: es) X.env = (false, eval e X.env) :: starEach es X.env := by rfl) (hpl : (backTo pos (starEach es X.env)).any (·.1) = false := by rfl) : PE X (.Call (.Name x p) (e :: es) [] pos) (tCB r t) := by
  intro pins s σ H Q I h
  refine wpAny_Call_Name_kw (ld_blt I hg hm hv ?_ hn hdb)
  exact PyProof.Rows.callWith_type1 (thn (ha pos pins s σ H _ I h) fun us s1 ⟨vs, H1, I1, r1, q1⟩ => hc pins s1 σ H1 vs us Q I1 r1 q1) he hpl
end
end L2

namespace HT
open PySem PyProof.Rows

section
open PySem.SeqAt
open PySem.AutoSeq1 (wpAny_loadPart')
open PySem.MeetsSeq PySem.MeetsSeq2 PySem.MeetsSeq3

end

section
variable {prog : Program} {w : World} {A : Around} {E : Value → Shared → Prop} {s : Shared}

/-! ### t[a:b], not the whole -/
/-- a slice's bound as a place among n (d where it is left out) -/
def sIx (n d : Nat) : Option Int → Nat
  | none => d
  | some v => if v < 0 then (v + (n : Int)).toNat else min v.toNat n
theorem sIx_none (n d : Nat) : sIx n d none = d := rfl
theorem sIx_nat (n d k : Nat) : sIx n d (some (k : Int)) = min k n := by
  show (if (k : Int) < 0 then ((k : Int) + (n : Int)).toNat else min (k : Int).toNat n) = min k n
  rw [if_neg (by omega), Int.toNat_natCast]
end
end HT

namespace L2
open PySem PySem.Spec PyProof.Rows

/-! ### the parts of a slice -/
abbrev TO := St → Hp → (Option Int → Hp → Prop) → Prop
/-- a slice's part (left out, or an int) -/
def PO (X : Cx) (e : Option Expr) (t : TO) : Prop :=
  ∀ (pins : List (Addr × Obj)) (s : Shared) (σ : St) (H : Hp) (Q : Option Int → Hp → Prop), Inv X pins σ H s → t σ H Q →
    wpAny (model X.prog X.w) X.A (evalPart e X.env) (fun u s' => ∃ o H', Inv X pins σ H' s' ∧ IsPart u o ∧ Q o H') X.xe s
def tNoPart : TO := fun _ H Q => Q none H
def tPart (t : TE) : TO := fun σ H Q => t σ H fun x H1 => ∃ i, x = .int i ∧ Q (some i) H1

section
variable {X : Cx} {e : Expr} {te : TE} {lo hi : Option Expr} {tl th : TO} {pos p2 : Pos}

theorem po_none : PO X none tNoPart := by
  intro pins s σ H Q I h
  rw [evalPart_none]
  exact wpAny_pure ⟨none, H, I, .none, h⟩
theorem po_some (h : PE X e te) : PO X (some e) (tPart te) := by
  intro pins s σ H Q I hw
  rw [evalPart_some]
  refine thn (h pins s σ H _ I hw) fun u s1 ⟨x, H1, I1, r1, q1⟩ => ?_
  obtain ⟨i, rfl, q⟩ := q1
  obtain ⟨t, rfl⟩ := r1
  exact ⟨some i, H1, I1, .int i t, q⟩

/-- what a slice of a value is, by values: the slice object stands at sl -/
def SlR (X : Cx) (r : V → Option Int → Option Int → Hp → VK → Prop) : Prop :=
  ∀ (pins : List (Addr × Obj)) (s : Shared) (σ : St) (H : Hp) (x : V) (v vl vu : Value) (lo hi : Option Int) (sl : Addr) (Q : VK), Inv X pins σ H s → RelV x v → s.heap.IsSliceOf sl vl vu .none → IsPart vl lo → IsPart vu hi → r x lo hi H Q →
    ∃ T id, typeLookup (.type T) "__getitem__" = pure (some (.builtin id)) ∧ s.TypeIs v T ∧ wpAny (model X.prog X.w) X.A (getItem v (.ref sl)) (EP X pins σ Q) X.xe s
theorem SlR.or {r r' : V → Option Int → Option Int → Hp → VK → Prop} (h : SlR X r) (h' : SlR X r') : SlR X (fun x lo hi H Q => r x lo hi H Q ∨ r' x lo hi H Q) := by
  intro pins s σ H x v vl vu lo hi sl Q I rx hs pl pu q
  rcases q with q | q
  · exact h pins s σ H x v vl vu lo hi sl Q I rx hs pl pu q
  · exact h' pins s σ H x v vl vu lo hi sl Q I rx hs pl pu q
def tSl (r : V → Option Int → Option Int → Hp → VK → Prop) (te : TE) (tl th : TO) : TE := fun σ H Q => te σ H fun x H1 => tl σ H1 fun l H2 => th σ H2 fun u H3 => r x l u H3 Q
/-- a[lo:hi], any a -/
theorem pe_slice {r : V → Option Int → Option Int → Hp → VK → Prop} (hr : SlR X r) (he : PE X e te) (hl : PO X lo tl) (hu : PO X hi th) : PE X (.Subscript e (.Slice lo hi none p2) pos) (tSl r te tl th) := by
  intro pins s σ H Q I h
  refine Subscript_ (thn (he pins s σ H _ I h) fun v s1 ⟨x, H1, I1, r1, q1⟩ => ?_)
  refine wpAny_Slice (thn (hl pins s1 σ H1 _ I1 q1) fun vl s2 ⟨l, H2, I2, pl, q2⟩ => thn (hu pins s2 σ H2 _ I2 q2) fun vu s3 ⟨u, H3, I3, pu, q3⟩ => ?_)
  rw [evalPart_none]
  refine wpAny_pure ?_
  have I4 : Inv X pins σ H3 { s3 with heap := s3.heap.push { cls := .type "slice", data := .fields #[vl, vu, .none] } } := I3.kept (t' := s3.toks) fun b ob q => Heap.get?_push_of_some _ q
  obtain ⟨T, id, hT, ht, hg⟩ := hr pins { s3 with heap := s3.heap.push { cls := .type "slice", data := .fields #[vl, vu, .none] } } σ H3 x v vl vu l u s3.heap.objs.size Q I4 r1 (Heap.IsSliceOf.new ..) pl pu q3
  show wpAny (model X.prog X.w) X.A (subscriptTail e (.Slice lo hi none p2) v (.ref s3.heap.objs.size)) (EP X pins σ Q) X.xe { s3 with heap := s3.heap.push { cls := .type "slice", data := .fields #[vl, vu, .none] } }
  exact tail_any (ops := [.ref s3.heap.objs.size, v]) ht hT hg (by with_unfolding_all rfl)

/-- the items of xs[lo:hi] -/
def cutV (xs : List V) (lo hi : Option Int) : List V := (xs.drop (HT.sIx xs.length 0 lo)).take (HT.sIx xs.length xs.length hi - HT.sIx xs.length 0 lo)
theorem cutV_length (xs : List V) (lo hi : Option Int) : (cutV xs lo hi).length ≤ xs.length := by
  unfold cutV
  rw [List.length_take, List.length_drop]
  omega
/-! ### t < u, t + u -/
end
end L2

namespace L2
open PySem PySem.Spec PyProof.Rows

/-! ### places -/
/-- the place that an index of any sign means -/
def ixN (n : Nat) (i : Int) : Option Nat := if 0 ≤ i then (if i < n then some i.toNat else none) else if -(n : Int) ≤ i then some (i + n).toNat else none
def atI {α : Type} (xs : List α) (i : Int) : Option α := (ixN xs.length i).bind fun j => xs[j]?
theorem ixN_seq {n : Nat} {i : Int} {j : Nat} (h : ixN n i = some j) : seqIndex? i n = some j ∧ j < n ∧ -(n : Int) ≤ i ∧ i < n := by
  unfold ixN at h
  by_cases h0 : 0 ≤ i
  · rw [if_pos h0] at h
    by_cases h1 : i < n
    · rw [if_pos h1] at h
      have e : i.toNat = j := Option.some.inj h
      exact ⟨by rw [seqIndex_of h0 h1, e], by omega, by omega, h1⟩
    · rw [if_neg h1] at h; cases h
  · rw [if_neg h0] at h
    by_cases h1 : -(n : Int) ≤ i
    · rw [if_pos h1] at h
      have e : (i + n).toNat = j := Option.some.inj h
      exact ⟨by rw [seqIndex_neg (by omega) h1, e], by omega, h1, by omega⟩
    · rw [if_neg h1] at h; cases h
theorem atI_get {α : Type} {xs : List α} {i : Int} {v : α} (h : atI xs i = some v) : ∃ j, seqIndex? i xs.length = some j ∧ xs[j]? = some v ∧ j < xs.length ∧ -(xs.length : Int) ≤ i ∧ i < xs.length := by
  unfold atI at h
  cases e : ixN xs.length i with
  | none => rw [e] at h; cases h
  | some j =>
    rw [e] at h
    obtain ⟨h1, h2, h3, h4⟩ := ixN_seq e
    exact ⟨j, h1, h, h2, h3, h4⟩
theorem atI_nat {α : Type} {xs : List α} {j : Nat} {v : α} (h : xs[j]? = some v) : atI xs (j : Int) = some v := by
  have hj : j < xs.length := (List.getElem?_eq_some_iff.mp h).1
  have e : ixN xs.length (j : Int) = some j := by
    unfold ixN
    rw [if_pos (by omega), if_pos (by omega)]; simp
  unfold atI; rw [e]; exact h
/-! ### what may be subscripted -/
/-- what stands as an index of a plain subscript -/
def PlainIx (b : Expr) : Prop := ∀ o i, subscripted b false o i = operate [o, i] (getItem o i)
/-- a subscript by values -/
def IxR (X : Cx) (r : R2) : Prop :=
  ∀ (value slice : Expr) (pins : List (Addr × Obj)) (s : Shared) (σ : St) (H : Hp) (x y : V) (v u : Value) (Q : VK), Inv X pins σ H s → RelV x v → RelV y u → r x y H Q →
    subscripted slice false v u = operate [v, u] (getItem v u) → wpAny (model X.prog X.w) X.A (subscriptTail value slice v u) (EP X pins σ Q) X.xe s
/-- a call of a builtin's method by values: the receiver, the arguments -/
def MtR (X : Cx) (id : String) (r : V → List V → Hp → VK → Prop) : Prop :=
  ∀ (pins : List (Addr × Obj)) (s : Shared) (σ : St) (H : Hp) (x : V) (xs : List V) (v : Value) (us : List Value) (Q : VK), Inv X pins σ H s → RelV x v → Vals xs us → r x xs H Q →
    wpAny (model X.prog X.w) X.A (call (.builtin id) (v :: us)) (EP X pins σ Q) X.xe s
section
variable {X : Cx} {a b : Expr} {ta tb : TE} {pos : Pos}
theorem IxR.or {r r' : R2} (h : IxR X r) (h' : IxR X r') : IxR X (fun x y H Q => r x y H Q ∨ r' x y H Q) := by
  intro value slice pins s σ H x y v u Q I rx ry q hs
  rcases q with q | q
  · exact h value slice pins s σ H x y v u Q I rx ry q hs
  · exact h' value slice pins s σ H x y v u Q I rx ry q hs
theorem MtR.or {id : String} {r r' : V → List V → Hp → VK → Prop} (h : MtR X id r) (h' : MtR X id r') : MtR X id (fun x xs H Q => r x xs H Q ∨ r' x xs H Q) := by
  intro pins s σ H x xs v us Q I rx rs q
  rcases q with q | q
  · exact h pins s σ H x xs v us Q I rx rs q
  · exact h' pins s σ H x xs v us Q I rx rs q
/-- a[b] -/
theorem pe_ix {r : R2} (hr : IxR X r) (ha : PE X a ta) (hb : PE X b tb) (hs : PlainIx b) : PE X (.Subscript a b pos) (tOp r ta tb) := by
  intro pins s σ H Q I h
  exact Subscript_ (binT ha hb I h fun v u s2 x y H2 I2 rx ry q => hr a b pins s2 σ H2 x y v u Q I2 rx ry q (hs _ _))

def rIxL (K : PySem.W.Frag) : R2 := fun x y H Q => ∃ p xs i v, x = .ref p ∧ y = .int i ∧ SqL K H p xs ∧ atI xs i = some v ∧ Q v H
def rIxT (K : PySem.W.Frag) : R2 := fun x y H Q => ∃ p xs i v, x = .ref p ∧ y = .int i ∧ SqT K H p xs ∧ atI xs i = some v ∧ Q v H
theorem ix_list : IxR X (rIxL X.K) := by
  intro value slice pins s σ H x y v u Q I rx ry h hs
  obtain ⟨p, xs, i, z, rfl, rfl, hq, he, q⟩ := h
  cases rx
  obtain ⟨t, rfl⟩ := ry
  obtain ⟨its, r, pl, hz⟩ := I.list hq
  obtain ⟨j, h1, h2, h3, h4, h5⟩ := atI_get he
  obtain ⟨w, ew, rw'⟩ := r.get h2
  have hl := r.length
  have hn := line63
  have fin : EP X pins σ Q w s := ⟨z, H, I, rw', q⟩
  by_cases h0 : 0 ≤ i
  · have hj : i.toNat = j := by
      rw [seqIndex_of h0 h5] at h1
      exact Option.some.inj h1
    exact item_listR pl.isList h0 (by omega) (by rw [hj]; simpa using ew) fin hs
  · have hj : (i + (its.toArray.size : Int)).toNat = j := by
      rw [seqIndex_neg (by omega) h4] at h1
      rw [List.size_toArray, ← hl]
      exact Option.some.inj h1
    exact subscriptTail_builtinR (x := w) pl.isList.typeIs slot_list_getitem.lookup
      (wpAny_getItem_list_neg (Q := fun r s' => r = w ∧ EP X pins σ Q r s') pl.isList (by omega) (by rw [List.size_toArray] <;> omega) (by omega) (by rw [hj]; simpa using ew) ⟨rfl, fin⟩) hs
theorem ix_tup : IxR X (rIxT X.K) := by
  intro value slice pins s σ H x y v u Q I rx ry h hs
  obtain ⟨p, xs, i, z, rfl, rfl, hq, he, q⟩ := h
  cases rx
  obtain ⟨t, rfl⟩ := ry
  obtain ⟨its, r, pl, hz⟩ := I.tuple hq
  obtain ⟨j, h1, h2, h3, h4, h5⟩ := atI_get he
  obtain ⟨w, ew, rw'⟩ := r.get h2
  have hl := r.length
  have hn := line63
  have fin : EP X pins σ Q w s := ⟨z, H, I, rw', q⟩
  exact subscriptTail_builtinR (x := w) pl.typeIs slot_tuple_getitem.lookup
    (getItem_tuple (j := j) (Q := fun r s' => r = w ∧ EP X pins σ Q r s') pl (by omega) (by omega) (by rw [List.size_toArray, ← hl]; exact h1) (by simpa using ew) ⟨rfl, fin⟩) hs
/-! ### xs[i] = v, any sign -/
theorem Inv.lst {pins : List (Addr × Obj)} {σ : St} {H : Hp} {s : Shared} {p : Addr} {xs : List V} (I : Inv X pins σ H s) (h : H p = some (.lst xs)) :
    ∃ (its : List Value) (n : Nat), Vals xs its ∧ s.heap.get? p = some { cls := .type "list", data := .seq its.toArray n } ∧ xs.length ≤ sizeLine := by
  obtain ⟨z, its, n, r, e⟩ := I.hok p _ h
  exact ⟨its, n, r, e, z⟩
/-! ### slices -/
theorem slice_bounds (lo hi : Option Int) (n : Nat) : (sliceBounds lo hi none n).1 = ((HT.sIx n 0 lo : Nat) : Int) ∧ (sliceBounds lo hi none n).2.1 = ((HT.sIx n n hi : Nat) : Int) ∧ (sliceBounds lo hi none n).2.2 = 1 := by
  refine ⟨?_, ?_, rfl⟩
  · cases lo with
    | none => simp [sliceBounds, HT.sIx]
    | some i =>
      simp only [sliceBounds, HT.sIx, Option.getD_none, show (1 : Int) > 0 by decide, if_true]
      by_cases h : i < 0
      · simp only [h, if_true] <;> omega
      · simp only [h, if_false] <;> omega
  · cases hi with
    | none => simp [sliceBounds, HT.sIx]
    | some i =>
      simp only [sliceBounds, HT.sIx, Option.getD_none, show (1 : Int) > 0 by decide, if_true]
      by_cases h : i < 0
      · simp only [h, if_true] <;> omega
      · simp only [h, if_false] <;> omega
theorem slicePick_cut (its : List Value) (lo hi : Option Int) : slicePick its.toArray lo hi none = ((its.drop (HT.sIx its.length 0 lo)).take (HT.sIx its.length its.length hi - HT.sIx its.length 0 lo)).toArray := by
  obtain ⟨h1, h2, h3⟩ := slice_bounds lo hi its.toArray.size
  unfold slicePick
  rw [h1, h2, h3]
  simp only [sliceRange_one, pick_run, List.size_toArray] <;> rfl
/-- xs[lo:hi] of a list: a new list -/
def rSlL (K : PySem.W.Frag) : V → Option Int → Option Int → Hp → VK → Prop := fun x lo hi H Q => ∃ a xs, x = .ref a ∧ SqL K H a xs ∧ ∀ p, H p = none → Q (.ref p) (upd H p (.lst (cutV xs lo hi)))
theorem sl_list : SlR X (rSlL X.K) := by
  intro pins s σ H x v vl vu lo hi sl Q I rx hs pl pu h
  obtain ⟨a, xs, rfl, hx, q⟩ := h
  cases rx
  obtain ⟨its, r, ht, hz⟩ := I.list hx
  have hlen := r.length
  refine ⟨"list", _, slot_list_getitem.lookup, ht.isList.typeIs, ?_⟩
  refine wpAny_getItem_list_slice ht.isList hs pl pu .none (by simp) ?_ (by rw [List.size_toArray] <;> omega)
  rw [slicePick_cut, ← hlen]
  refine ⟨.ref s.heap.objs.size, _, I.laid (t' := s.toks) (o := .lst (cutV xs lo hi)) (fun b ob q => Heap.get?_push_of_some _ q) (Nat.le_refl _) ?_, rfl, q _ (I.hok.fresh (Nat.le_refl _))⟩
  exact ⟨Nat.le_trans (cutV_length xs lo hi) hz, _, 0, (r.drop (HT.sIx xs.length 0 lo)).take (HT.sIx xs.length xs.length hi - HT.sIx xs.length 0 lo), Heap.get?_push_size _ rfl⟩

/-! ### in, not in: flat items -/
def flatV : V → Bool
  | .non => true
  | .bl _ => true
  | .int _ => true
  | .str _ => true
  | _ => false
/-- == of flat values -/
def eqV : V → V → Bool
  | .non, .non => true
  | .bl a, .bl b => a == b
  | .bl a, .int b => (if a then 1 else 0) == b
  | .int a, .bl b => a == (if b then 1 else 0)
  | .int a, .int b => a == b
  | .str a, .str b => a == b
  | _, _ => false
def inV (x : V) (xs : List V) : Bool := xs.any fun y => eqV y x
/-! ### len, list(x), tuple(x) of any list or tuple that is read -/
theorem call_len_seq : CallR X (.builtin "len") (fun xs H Q => ∃ p ys, xs = [.ref p] ∧ (SqL X.K H p ys ∨ SqT X.K H p ys) ∧ Q (.int ys.length) H) := by
  intro pins s σ H xs us Q I r h
  obtain ⟨p, ys, rfl, hq, q⟩ := h
  obtain ⟨u, rfl, rx⟩ := vals1 r
  cases rx
  have hn := line63
  rcases hq with hq | hq
  · obtain ⟨its, r', pl, hz⟩ := I.list hq
    have hlen := r'.length
    exact Calls.call_len_list pl.isList (by simp only [List.size_toArray] <;> omega) ⟨.int ys.length, H, I.tok _, ⟨s.toks + 1, by rw [List.size_toArray, hlen]⟩, q⟩
  · obtain ⟨its, r', pl, hz⟩ := I.tuple hq
    have hlen := r'.length
    exact len_tuple pl (by simp only [List.size_toArray] <;> omega) ⟨.int ys.length, H, I.tok _, ⟨s.toks + 1, by rw [List.size_toArray, hlen]⟩, q⟩
theorem call_len_str : CallR X (.builtin "len") (fun xs H Q => ∃ z, xs = [.str z] ∧ z.length ≤ sizeLine ∧ Q (.int z.length) H) := by
  intro pins s σ H xs us Q I r h
  obtain ⟨z, rfl, hz, q⟩ := h
  obtain ⟨u, rfl, t, rfl⟩ := vals1 r
  have hn := line63
  exact len_str (by omega) ⟨.int z.length, H, I.tok _, ⟨_, rfl⟩, q⟩
theorem CallR.or {f : Value} {r r' : List V → Hp → VK → Prop} (h : CallR X f r) (h' : CallR X f r') : CallR X f (fun xs H Q => r xs H Q ∨ r' xs H Q) := by
  intro pins s σ H xs us Q I rs q
  rcases q with q | q
  · exact h pins s σ H xs us Q I rs q
  · exact h' pins s σ H xs us Q I rs q
theorem call_list_of : CallR X (.type "list") (fun xs H Q => ∃ p ys, xs = [.ref p] ∧ (SqL X.K H p ys ∨ SqT X.K H p ys) ∧ ∀ l, H l = none → Q (.ref l) (upd H l (.lst ys))) := by
  intro pins s σ H xs us Q I r h
  obtain ⟨p, ys, rfl, hq, q⟩ := h
  obtain ⟨u, rfl, rx⟩ := vals1 r
  cases rx
  have fin : ∀ (its : List Value), Vals ys its → ys.length ≤ sizeLine → ∀ (h' : Heap) (c' : Nat), (∀ b o', s.heap.get? b = some o' → h'.get? b = some o') →
      h'.get? s.heap.objs.size = some { cls := .type "list", dict := none, data := .seq its.toArray c', slots := #[] } → EP X pins σ Q (.ref s.heap.objs.size) { s with heap := h' } := fun its r' hz h' c' kp e =>
    ⟨.ref s.heap.objs.size, _, I.laid (t' := s.toks) kp (Nat.le_refl _) (show ObjOk X.prog X.w _ h' _ (.lst ys) from ⟨hz, its, c', r', e⟩), rfl, q _ (I.hok.fresh (Nat.le_refl _))⟩
  rcases hq with hq | hq
  · obtain ⟨its, r', pl, hz⟩ := I.list hq
    have hlen := r'.length
    obtain ⟨o, ho, hc, n, hd⟩ := pl.isList
    exact call_list_seq p (.inl rfl) ho hc hd (fun h' c' kp e => fin its r' hz h' c' kp e) (by simp only [List.size_toArray] <;> omega)
  · obtain ⟨its, r', pl, hz⟩ := I.tuple hq
    have hlen := r'.length
    obtain ⟨o, ho, hc, n, hd⟩ := pl
    exact call_list_seq p (.inr rfl) ho hc hd (fun h' c' kp e => fin its r' hz h' c' kp e) (by simp only [List.size_toArray] <;> omega)
theorem call_tuple_of : CallR X (.type "tuple") (fun xs H Q => ∃ p ys, xs = [.ref p] ∧ ((SqL X.K H p ys ∧ ∀ l, H l = none → Q (.ref l) (upd H l (.tup ys))) ∨ (SqT X.K H p ys ∧ Q (.ref p) H))) := by
  intro pins s σ H xs us Q I r h
  obtain ⟨p, ys, rfl, h⟩ := h
  obtain ⟨u, rfl, rx⟩ := vals1 r
  cases rx
  rcases h with ⟨hq, q⟩ | ⟨hq, q⟩
  · obtain ⟨its, r', pl, hz⟩ := I.list hq
    have hlen := r'.length
    refine call_tuple_list pl.isList (fun h' kp => ?_) (by simp only [List.size_toArray] <;> omega)
    have I1 : Inv X pins σ H { s with heap := h' } := I.kept (t' := s.toks) kp
    have I2 : Inv X pins σ (upd H h'.objs.size (.tup ys)) { s with heap := h'.push { cls := .type "tuple", data := .seq its.toArray } } :=
      I1.laid (t' := s.toks) (fun b o e => Heap.get?_push_of_some _ e) (Nat.le_refl _) (show ObjOk X.prog X.w _ _ _ (.tup ys) from ⟨hz, its, r', IsTup.new _ _⟩)
    exact ⟨.ref h'.objs.size, _, I2, rfl, q _ (I1.hok.fresh (Nat.le_refl _))⟩
  · obtain ⟨its, r', pl, hz⟩ := I.tuple hq
    exact call_tuple_same pl ⟨.ref p, H, I, rfl, q⟩

/-! ### the call of a builtin's method: o.m(..) -/
/-- the value is of that builtin type -/
def tyV (K : PySem.W.Frag) (T : String) (x : V) (H : Hp) : Prop := match x with
  | .str _ => T = "str"
  | .int _ => T = "int"
  | .ref p => (T = "list" ∧ ∃ xs, SqL K H p xs) ∨ (T = "tuple" ∧ ∃ o, K.lookup p = some o ∧ o.cls = .type "tuple" ∧ o.dict = none) ∨
      (T = "dict" ∧ ((∃ kvs, H p = some (.dK kvs)) ∨ ∃ kvs, H p = some (.dT kvs))) ∨ (T = "set" ∧ ∃ S n, H p = some (.set S n))
  | _ => False
theorem tyV_is {pins : List (Addr × Obj)} {σ : St} {H : Hp} {s : Shared} {T : String} {x : V} {v : Value} (I : Inv X pins σ H s) (r : RelV x v) (ty : tyV X.K T x H) :
    s.TypeIs v T ∧ ∀ a, v = .ref a → ∃ ob, s.heap.get? a = some ob ∧ ob.dict = none := by
  cases x with
  | str z =>
    obtain ⟨t, rfl⟩ := r
    cases (show T = "str" from ty)
    exact ⟨typeIs_str s z t, fun _ e => nomatch e⟩
  | int i =>
    obtain ⟨t, rfl⟩ := r
    cases (show T = "int" from ty)
    exact ⟨typeIs_int s i t, fun _ e => nomatch e⟩
  | ref p =>
    cases r
    rcases ty with ⟨rfl, xs, hq⟩ | ⟨rfl, o, hk, hc, hd⟩ | ⟨rfl, hk⟩ | ⟨rfl, S, n, hk⟩
    · obtain ⟨its, _, pl, _⟩ := I.list hq
      refine ⟨pl.isList.typeIs, fun a e => ?_⟩
      cases e
      obtain ⟨o, n, e, c, hd, _⟩ := pl
      exact ⟨o, e, hd⟩
    · refine ⟨⟨o, I.kIn p o hk, hc⟩, fun a e => ?_⟩
      cases e
      exact ⟨o, I.kIn _ o hk, hd⟩
    · have z : ∃ o, s.heap.get? p = some o ∧ o.ExactDict := by
        rcases hk with ⟨kvs, hk⟩ | ⟨kvs, hk⟩
        · obtain ⟨_, _, _, _, o, _, _, e, ex, _⟩ := I.hok p _ hk
          exact ⟨o, e, ex⟩
        · obtain ⟨_, _, _, _, o, _, _, e, ex, _⟩ := I.hok p _ hk
          exact ⟨o, e, ex⟩
      obtain ⟨o, e, ex⟩ := z
      refine ⟨⟨o, e, ex.1⟩, fun a e2 => ?_⟩
      cases e2
      exact ⟨o, e, ex.2.1⟩
    · obtain ⟨o, _, _, _, e, ex, _⟩ := I.hok p _ hk
      refine ⟨⟨o, e, ex.1⟩, fun a e2 => ?_⟩
      cases e2
      exact ⟨o, e, ex.2.1⟩
  | _ => exact False.elim ty
def tBM0 (K : PySem.W.Frag) (T : String) (r : V → List V → Hp → VK → Prop) (to : TE) : TE := fun σ H Q => to σ H fun x H1 => tyV K T x H1 ∧ r x [] H1 Q
def tBM (K : PySem.W.Frag) (T : String) (r : V → List V → Hp → VK → Prop) (to : TE) (t : TA) : TE := fun σ H Q => to σ H fun x H1 => tyV K T x H1 ∧ t σ H1 fun xs H2 => r x xs H2 Q
variable {o e : Expr} {es : List Expr} {to : TE} {t : TA} {name : Str} {apos cpos : Pos} {T id : String} {r : V → List V → Hp → VK → Prop}
theorem pe_bm (pa : PlainAttrs T) (slot : Slot T name id) (hty : typeOf (.builtin id) = pure (.type "method_descriptor")) (hm : MtR X id r) (ho : PE X o to) (ha : PA X (e :: es) t)
    (hbase : attributeBase o name X.env (eval o X.env) = eval o X.env := by rfl)
    (hfew : ((backTo cpos (starEach (e :: es) X.env)).all (fun x => !x.1) && (backToKw cpos (keywordEach [] X.env)).all (fun x => x.1.isSome)
      && decide ((e :: es).length + ([] : List Keyword).length + (if ([] : List Keyword).isEmpty then 0 else 1) < 30)) = true := by rfl)
    (hline : (apos.endLine == cpos.line) = true := by rfl) (hs : starEach (e :: es) X.env = (false, eval e X.env) :: starEach es X.env := by rfl) (hplain : (backTo cpos (starEach es X.env)).any (·.1) = false := by rfl) :
    PE X (.Call (.Attribute o name apos) (e :: es) [] cpos) (tBM X.K T r to t) := by
  intro pins s σ H Q I h
  refine wpAny_Call_method_late hbase hfew hline rfl (thn (ho pins s σ H _ I h) fun v s1 ⟨x, H1, I1, r1, ty, q1⟩ => ?_)
  obtain ⟨h1, h2⟩ := tyV_is I1 r1 ty
  refine ⟨T, id, pa, slot, hty, h1, h2, ?_⟩
  have hA := ha cpos pins s1 σ H1 _ I1 q1
  rw [hs] at hA ⊢
  refine Calls.callWith_builtin (by show (false || (backTo cpos (starEach es X.env)).any (·.1)) = false; rw [hplain] <;> rfl) (Calls.evalArgs_plain ?_)
  exact thn hA fun us s2 ⟨vs, H2, I2, r2, q2⟩ => hm pins s2 σ H2 x vs v us Q I2 r1 r2 q2
/- xs.append(e), list.index on a module's tuple .. are MtR facts of 06m -/
end
end L2

namespace L2
open PySem PySem.Spec PyProof.Rows

def MtM (X : Cx) (id : String) (r : V → List V → Hp → VK → Prop) : Prop :=
  ∀ (pins : List (Addr × Obj)) (s : Shared) (σ : St) (H : Hp) (x : V) (xs : List V) (v : Value) (us : List Value) (Q : VK), Inv X pins σ H s → RelV x v → Vals xs us → r x xs H Q →
    wpAny (model X.prog X.w) X.A (call (.builtin id) (v :: us)) (EP X pins σ Q) X.xe s

/-! ### lists of values -/
theorem Vals.one : ∀ {x : V} {us : List Value}, Vals [x] us → ∃ u, us = [u] ∧ RelV x u
  | _, _, .cons r .nil => ⟨_, rfl, r⟩
theorem Vals.two : ∀ {x y : V} {us : List Value}, Vals [x, y] us → ∃ u v, us = [u, v] ∧ RelV x u ∧ RelV y v
  | _, _, _, .cons r (.cons q .nil) => ⟨_, _, rfl, r, q⟩
theorem Vals.zero : ∀ {us : List Value}, Vals [] us → us = []
  | _, .nil => rfl
theorem Vals.dropLast {xs : List V} {us : List Value} (h : Vals xs us) : Vals xs.dropLast us.dropLast := by
  induction h with
  | nil => exact .nil
  | cons r t ih =>
    cases t with
    | nil => exact .nil
    | cons q t' => exact .cons r ih
theorem Vals.eraseIdx : ∀ {xs : List V} {us : List Value} (i : Nat), Vals xs us → Vals (xs.eraseIdx i) (us.eraseIdx i)
  | _, _, _, .nil => .nil
  | _, _, 0, .cons _ t => t
  | _, _, i + 1, .cons r t => .cons r (Vals.eraseIdx i t)
theorem Vals.reverse {xs : List V} {us : List Value} (h : Vals xs us) : Vals xs.reverse us.reverse := by
  induction h with
  | nil => exact .nil
  | cons r t ih => rw [List.reverse_cons, List.reverse_cons]; exact Vals.append ih (.cons r .nil)
theorem len_erase {α : Type} : ∀ (l : List α) (i : Nat), (l.eraseIdx i).length ≤ l.length
  | [], _ => Nat.le_refl _
  | _ :: _, 0 => Nat.le_succ _
  | _ :: r, i + 1 => Nat.succ_le_succ (len_erase r i)
section
variable {X : Cx} {pins : List (Addr × Obj)} {σ : St} {H : Hp} {s : Shared} {l b : Addr} {xs ys zs : List V}

/-! ### the two steps: a tracked list is rewritten, a new list is laid -/
theorem Inv.lset {its its' : List Value} {n : Nat} {f : Array Value → Array Value} {t' : Nat} (I : Inv X pins σ H s) (hH : H l = some (.lst xs))
    (e : s.heap.get? l = some { cls := .type "list", data := .seq its.toArray n }) (hf : f its.toArray = its'.toArray) (hv : Vals ys its') (hz : ys.length ≤ sizeLine) :
    Inv X pins σ (upd H l (.lst ys)) { s with heap := s.heap.update l (Obj.mapSeq f), toks := t' } := by
  have q := PySem.IsL.update e f
  rw [hf] at q
  refine I.write (x := l) (e := l) (by rw [hH]; exact trivial) (.inl rfl) (fun b' u hb hu => (Heap.get?_update_other s.heap (Obj.mapSeq f) (Ne.symm hb)).trans hu) ⟨_, q⟩ ?_
  exact ⟨hz, its', _, hv, q⟩
theorem Inv.lnew {its : List Value} {t' : Nat} (I : Inv X pins σ H s) (hv : Vals ys its) (hz : ys.length ≤ sizeLine) :
    Inv X pins σ (upd H s.heap.objs.size (.lst ys)) { s with heap := s.heap.push { cls := .type "list", data := .seq its.toArray }, toks := t' } :=
  I.laid (fun _ _ q => Heap.get?_push_of_some _ q) (Nat.le_refl _) ⟨hz, its, 0, hv, Heap.get?_push_size _ rfl⟩
theorem Inv.fresh (I : Inv X pins σ H s) : H s.heap.objs.size = none := I.hok.fresh (Nat.le_refl _)
theorem Inv.lstM (I : Inv X pins σ H s) (hH : H l = some (.lst xs)) : xs.length ≤ sizeLine ∧ ∃ (its : List Value) (n : Nat), Vals xs its ∧ xs.length = its.length ∧ s.heap.get? l = some { cls := .type "list", data := .seq its.toArray n } := by
  obtain ⟨z, its, n, r, e⟩ := I.hok l _ hH
  exact ⟨z, its, n, r, r.length, e⟩

end

section
variable {X : Cx}

/-! ### methods -/
def rAppend : V → List V → Hp → VK → Prop := fun x vs H Q => ∃ l xs y, x = .ref l ∧ vs = [y] ∧ H l = some (.lst xs) ∧ xs.length < sizeLine ∧ Q .non (upd H l (.lst (xs ++ [y])))
theorem mt_append : MtM X "list.append" rAppend := by
  intro pins s σ H x vs v us Q I rx rv h
  obtain ⟨l, xs, y, rfl, rfl, hH, hz, q⟩ := h
  cases rx
  obtain ⟨u, rfl, ru⟩ := rv.one
  obtain ⟨z, its, n, r, hl, e⟩ := I.lstM hH
  refine call_meets F.slot_list_append ⟨_, e, rfl⟩ F.entry_list_append (F.args_list_append_2 _ _) (PySem.list_append l its.toArray n u (by rw [List.size_toArray]; omega)) ⟨e, ?_⟩
  refine ⟨.non, _, I.lset (its' := its ++ [u]) hH e (by simp) (r.append (.cons ru .nil)) ?_, rfl, q⟩
  rw [List.length_append, List.length_singleton]
  omega

def rExtend : V → List V → Hp → VK → Prop := fun x vs H Q => ∃ l b xs zs, x = .ref l ∧ vs = [.ref b] ∧ H l = some (.lst xs) ∧ H b = some (.lst zs) ∧ xs.length + zs.length ≤ sizeLine ∧ Q .non (upd H l (.lst (xs ++ zs)))
def rPop : V → List V → Hp → VK → Prop := fun x vs H Q => ∃ l xs y, x = .ref l ∧ vs = [] ∧ H l = some (.lst xs) ∧ xs[xs.length - 1]? = some y ∧ Q y (upd H l (.lst xs.dropLast))
def rPopAt : V → List V → Hp → VK → Prop := fun x vs H Q => ∃ l xs i k y, x = .ref l ∧ vs = [.int i] ∧ H l = some (.lst xs) ∧ -(2 ^ 63) ≤ i ∧ i < 2 ^ 63 ∧ seqIndex? i xs.length = some k ∧ xs[k]? = some y ∧ Q y (upd H l (.lst (xs.eraseIdx k)))
theorem mt_popAt : MtM X "list.pop" rPopAt := by
  intro pins s σ H x vs v us Q I rx rv h
  obtain ⟨l, xs, i, k, y, rfl, rfl, hH, h1, h2, hk, hy, q⟩ := h
  cases rx
  obtain ⟨u, rfl, ru⟩ := rv.one
  obtain ⟨t, rfl⟩ := ru
  obtain ⟨z, its, n, r, hl, e⟩ := I.lstM hH
  obtain ⟨w, hw, rw'⟩ := r.get hy
  refine call_meets F.slot_list_pop ⟨_, e, rfl⟩ F.entry_list_pop (F.args_list_pop_2 _ _)
    (MeetsSeq.list_pop_at l its.toArray n i t k w (fitsIndex_both h1 h2) (by rw [List.size_toArray, ← hl]; exact hk) (by rw [← Array.getElem?_toList]; exact hw) (by rw [List.size_toArray]; omega)) ⟨e, ?_⟩
  refine ⟨y, _, I.lset (its' := its.eraseIdx k) hH e ?_ (r.eraseIdx k) ?_, rw', q⟩
  · show its.toArray.eraseIdxIfInBounds k = (its.eraseIdx k).toArray
    rw [List.eraseIdxIfInBounds_toArray]
  · have := len_erase xs k
    omega

def rReverse : V → List V → Hp → VK → Prop := fun x vs H Q => ∃ l xs, x = .ref l ∧ vs = [] ∧ H l = some (.lst xs) ∧ Q .non (upd H l (.lst xs.reverse))
def rClear : V → List V → Hp → VK → Prop := fun x vs H Q => ∃ l xs, x = .ref l ∧ vs = [] ∧ H l = some (.lst xs) ∧ Q .non (upd H l (.lst []))
/-! ### list + list, list += list, list * int -/
def rCat : R2 := fun x y H Q => ∃ l b xs zs, x = .ref l ∧ y = .ref b ∧ H l = some (.lst xs) ∧ H b = some (.lst zs) ∧ xs.length + zs.length ≤ sizeLine ∧ ∀ p, H p = none → Q (.ref p) (upd H p (.lst (xs ++ zs)))
theorem op_cat : OpR X (binaryOp .Add) rCat := by
  intro pins s σ H x y v u Q I rx ry h
  obtain ⟨l, b, xs, zs, rfl, rfl, hH, hB, hz, q⟩ := h
  cases rx
  cases ry
  obtain ⟨z, its, n, r, hl, e⟩ := I.lstM hH
  obtain ⟨z2, its2, n2, r2, hl2, e2⟩ := I.lstM hB
  refine PySem.P.add_list e e2 ?_ (by rw [List.size_toArray, List.size_toArray]; omega)
  have ea : its.toArray ++ its2.toArray = (its ++ its2).toArray := by simp
  rw [ea]
  exact ⟨.ref _, _, I.lnew (t' := s.toks) (r.append r2) (by rw [List.length_append]; omega), rfl, q _ I.fresh⟩
/-! ### del xs[i] -/
end

/-! ### xs[a:b] = ys -/
section
variable {prog : Program} {w : World} {A : Around} {E : Value → Shared → Prop} {s : Shared}
end

section
variable {X : Cx}
end
end L2

namespace Att
open PySem PySem.W PySem.Calls PyProof.Rows

/-! ### the script -/
theorem ints_of_wellAll {P : Params} {h : Heap} : ∀ (ns : List Int) (vs : List Value), WellAll P h vs (ns.map WData.int) → IntsAre vs ns := by
  intro ns
  induction ns with
  | nil =>
    intro vs w
    rw [List.map_nil] at w
    cases w
    exact .nil
  | cons n ns ih =>
    intro vs w
    rw [List.map_cons] at w
    cases w with
    | cons a b =>
      cases a
      exact .cons _ _ (ih _ b)

theorem script_of {l : OpenLaw} {n : Nat} (hn : l.most = some n) {P : Params} {h : Heap} {args : List WData} {vals : List Value}
    (hpre : l.row.toRowW.claim.pre args = true) (hwl : WellAll P h vals args) :
    ∃ a vs ns, vals = [Value.ref a] ∧ args = [WData.list (ns.map WData.int)] ∧ h.get? a = some { cls := .type "list", data := .seq vs.toArray } ∧ IntsAre vs ns ∧ ns.length ≤ n := by
  have hsh : WShape.hasAll [] args [.list .int] = true := (pre_splitW hpre).1
  have hc : l.pre.holds [] { args := args } = true := (pre_splitW hpre).2
  obtain ⟨d, r, rfl, h1, h2⟩ := hasAllW_cons hsh
  obtain rfl := hasAllW_nil h2
  obtain ⟨xs, rfl, h3⟩ := hasW_list h1
  obtain ⟨ns, rfl⟩ := items_int h3
  have hlen : ns.length ≤ n := by
    unfold OpenLaw.pre at hc
    have h4 : (WTm.not (.lt (.lit (.int (n : Int))) (.len (.arg 0)))).holds [] { args := [.list (ns.map .int)] } = true := by
      have h4 := (holds_andW hc).1
      rw [hn] at h4
      exact h4
    have h5 := condW_of h4 (w_not (w_lt w_lit (w_len_list (w_arg rfl))))
    rw [List.length_map] at h5
    refine Nat.le_of_not_lt fun q => ?_
    have q' : (n : Int) < ((ns.length : Nat) : Int) := by omega
    first
      | (rw [decide_eq_true q'] at h5; exact absurd h5 (by decide))
      | (simp at h5; omega)
  cases hwl with
  | cons w1 w2 =>
    cases w2
    cases w1 with
    | list ho hall => exact ⟨_, _, ns, rfl, rfl, ho, ints_of_wellAll ns _ hall, hlen⟩

theorem post_true (l : OpenLaw) (args : List WData) : l.row.toRowW.claim.post args (.bool true) args = true :=
  postW_of (r := l.row.toRowW) (X := (true == true))
    (show WShape.has [] (.bool true) .bool = true by first | rfl | decide | simp [WShape.has, WShape.arms, WShape.armsAll])
    (show (WTm.eq .res (.lit (.bool true))).value [] { args := args, res := some (.bool true), after := args } = some (.bool (true == true)) from w_eq_bool (w_res rfl) w_lit) rfl

/-! ### the attachment: holds_open's last premise (the goal 'hc' behind k_head) from a wpAny of the law's body -/
/-- the same from a codeAny of the CALL (for a layer whose function contracts speak of calls) -/
theorem attach_call {l : OpenLaw} {n : Nat} {q : Program} {loose : List Str} {XP : (Str → Option Value) → Heap → Prop} {YP : World → Heap → Prop} {d : DefRec}
    (hn : l.most = some n) (hdf : d.params.defaults = [])
    (call : ∀ (w : World) (s₀ s₁ : Shared) (mg mb : Str → Option Value) (fa : Addr) (o : Obj) (pm cd doc : Value) (a : Addr) (vs : List Value) (ns : List Int),
      Ground q loose [] XP w s₀ mg mb s₁.heap → YP w s₁.heap →
      s₁.heap.get? fa = some o → o.data = .func (docDef d.name d.params d.body d.scope pm cd doc) → s₁.heap.CodeRec cd d.name → mg d.name = some (.ref fa) →
      s₁.heap.get? a = some { cls := .type "list", data := .seq vs.toArray } → IntsAre vs ns → ns.length ≤ n → s₁.gens = #[] →
      codeAny (model l.prog w) callerA (.call (.ref fa) ⟨[.ref a], []⟩) (fun r s' => r = .ok (.ret (.bool true)) ∧ OldK s₁.heap s'.heap ∧ s'.os = s₁.os ∧ AllBare s'.gens) s₁) :
    WalkO q loose XP YP l.row.toRowW d [] (fun f vs => PySem.call f vs) := by
  intro w s₀ s₁ mg mb G Y fa o pm cd doc dV kV ho hd hcd hD hmg hg args vals as hpre hlay hrd hwl hlo
  obtain rfl : dV = .none := Dflts.none hD hdf
  obtain rfl : kV = .none := Dflts.noKw hD
  obtain ⟨a, vs, ns, rfl, rfl, hobj, hints, hlen⟩ := script_of hn hpre hwl
  refine enter_call (codeAny_mono (call w s₀ s₁ mg mb fa o pm cd doc a vs ns G Y ho (fd_plain hd) hcd hmg hobj hints hlen hg) fun r s' hq => ?_)
  obtain ⟨rfl, h2, h3, h4⟩ := hq
  exact ⟨.inl ⟨.bool true, .bool true, [], rfl, fun _ => rfl, .bool true, post_true l _, fun _ => ⟨List.Pairwise.nil, fun _ hm => (nomatch hm)⟩⟩, h2, h3, h4⟩

/-! ### rules over ANY heap (no ledger) from facts about the written part K: the library's own take a ledger (News) for what they write -/
section
variable {prog : Program} {w : World} {A : Around} {E : Value → Shared → Prop} {s : Shared} {K : Frag}

/-! the whole heap as the ledger: makes every rule that writes through a ledger a rule over any heap -/
def ledger (h : Heap) (L d : Addr) : List (Addr × Obj) := (List.range h.objs.size).filterMap fun a => if a = L ∨ a = d then none else (h.get? a).map fun o => (a, o)
end
end Att

namespace L2
open PySem PySem.Spec PyProof.Rows

theorem vals_ints : ∀ {vs : List Value} {ns : List Int}, IntsAre vs ns → Vals (ns.map V.int) vs
  | _, _, .nil => .nil
  | _, _, .cons n t h => .cons ⟨t, rfl⟩ (vals_ints h)

/-- nothing is tracked but the script, known to the object (or it is an object of the module) -/
def Only (H : Hp) : Prop := ∀ b, H b = none ∨ ∃ o xs, H b = some (.frz o (.lst xs))

/-- THE HEAD: the law's promise, at the heap behind the top. F, the promise of the law's def, may use that base is part of the heap (so K.In base, base.Ns mainGlobals mg stand in Mod) -/
theorem law_call {P : Program} {w : World} {K : PySem.W.Frag} {mg mb : Str → Option Value} {CX : CXT} {k : Nat} {fa a : Addr} {fd : FuncData} {x : Str} {sp : Sp} {s₁ : Shared} {vs : List Value} {ns : List Int}
    (KX : K.In s₁.heap) (hns : s₁.heap.Ns mainGlobals mg) (hb : s₁.heap.Ns builtinsNs mb) (hbb : ∀ x : Str, x ≠ "__name__" → mb x = bootBuiltins x) (hlim : s₁.heap.NoLimit) (hg : s₁.gens = #[])
    (ha : s₁.heap.get? a = some { cls := .type "list", data := .seq vs.toArray }) (hi : IntsAre vs ns) (hl : ns.length ≤ sizeLine) (hr : Room k callerA)
    (F : ∀ base : Heap, K.In base → base.Ns mainGlobals mg → FnOk P w K mg base CX k fa fd [x] sp) (hbind : ∀ (s : Shared) (u : Value), BindsTo s fd ⟨[u], []⟩ [(x, u)])
    (hsp : ∀ H : Hp, Only H → SqL K H a (ns.map V.int) → sp [.ref a] H (fun v _ => v = .bl true) fun _ _ _ => False)
    (hCX : ∀ H e s', CX [] H s₁ (fun _ _ _ => False) e s' → False) :
    codeAny (model P w) callerA (.call (.ref fa) ⟨[.ref a], []⟩) (fun r s' => r = .ok (.ret (.bool true)) ∧ OldK s₁.heap s'.heap ∧ s'.os = s₁.os ∧ AllBare s'.gens) s₁ := by
  have rv := vals_ints hi
  have lenV := hi.length
  -- from an abstract heap in which nothing but the script may be tracked
  have core : ∀ H : Hp, Only H → SqL K H a (ns.map V.int) → HOk P w H s₁.heap → (∀ b, H b ≠ none → b = a) → (H a ≠ none → K.lookup a = none) →
      codeAny (model P w) callerA (.call (.ref fa) ⟨[.ref a], []⟩) (fun r s' => r = .ok (.ret (.bool true)) ∧ OldK s₁.heap s'.heap ∧ s'.os = s₁.os ∧ AllBare s'.gens) s₁ := by
    intro H hO hS hok hA hK
    have base_of : ∀ {b : Addr} {o : Obj}, s₁.heap.get? b = some o → H b = none → (hidT s₁.heap H).get? b = some o := fun e n => hidT_get e n
    have noA : ∀ {b : Addr} {o : Obj} {es : Array DictEntry} {ep : Nat}, s₁.heap.get? b = some o → o.data = .dict es ep → H b = none := fun {b o es ep} e d => by
      cases q : H b with
      | none => rfl
      | some u =>
        have e' : b = a := hA b (by rw [q]; simp)
        subst e'
        rw [ha] at e; cases e
        have d' : Data.seq vs.toArray _ = Data.dict es ep := d
        cases d'
    have nsK : ∀ {b : Addr} {m : Str → Option Value}, s₁.heap.Ns b m → (hidT s₁.heap H).Ns b m := fun {b m} ⟨o, es, ep, e, d, r⟩ => ⟨o, es, ep, base_of e (noA e d), d, r⟩
    have hKb : K.In (hidT s₁.heap H) := fun b o e => base_of (KX b o e) (by
      cases q : H b with
      | none => rfl
      | some u =>
        have e' : b = a := hA b (by rw [q]; simp)
        subst e'
        rw [hK (by rw [q]; simp)] at e; cases e)
    have hM : Mod K mg (hidT s₁.heap H) := ⟨hKb, nsK hns, ⟨mb, nsK hb, hbb⟩, let ⟨mc, h1, h2⟩ := hlim; ⟨mc, nsK h1, h2⟩⟩
    have e0 : Env0 P w K mg (hidT s₁.heap H) callerA [] s₁ H := ⟨rfl, hM, fun b o e => of_hidT e, Nat.le_of_eq (hidT_size _ _), trivial, fun b hb => absurd (show b ∈ ([] : List Addr) from hb) (by simp), hok, .of_eq hg⟩
    refine codeAny_mono ((F _ hKb (nsK hns)).run callerA [] s₁ H ⟨[.ref a], []⟩ [.ref a] [.ref a] _ _ hr e0 (hbind s₁ (.ref a)) (.cons rfl .nil) (hsp H hO hS)) fun r s' h => ?_
    cases r with
    | error e => exact (hCX H e s' h).elim
    | ok fl =>
      cases fl with
      | next => exact False.elim h
      | brk => exact False.elim h
      | cont => exact False.elim h
      | ret u =>
        obtain ⟨v, H', os, bare, un, hok', r', q⟩ := h
        have q' : v = .bl true := q
        subst q'
        obtain rfl : u = Value.bool true := r'
        refine ⟨rfl, OldK.of_keep fun b o e => ?_, os, bare⟩
        cases q : H b with
        | none => exact un.keep b o e q (by intro z; exact absurd (show b ∈ ([] : List Addr) from z) (by simp)) (by simp)
        | some u =>
          rcases hO b with z | ⟨ob, xs, z⟩
          · rw [q] at z; cases z
          · have z2 := un.frzs b ob _ z
            obtain ⟨e1, _⟩ := hok b _ z
            obtain ⟨e2, _⟩ := hok' b _ z2
            rw [e] at e1; cases e1
            exact e2
  cases hk : K.lookup a with
  | some o =>
    -- the script is one of the module's own objects
    have e := KX a o hk
    rw [ha] at e
    cases e
    refine core (fun _ => none) (fun _ => .inl rfl) (.inr ⟨_, vs.toArray, _, hk, rfl, rfl, rfl, by rw [List.size_toArray, lenV]; exact hl, by simpa using rv⟩) (fun b u z => by have z' : (none : Option HO) = some u := z; cases z') (fun b z => absurd rfl z) fun z => absurd rfl z
  | none =>
    refine core (fun b => if b = a then some (.frz { cls := .type "list", data := .seq vs.toArray } (.lst (ns.map V.int))) else none) (fun b => ?_) (.inl (.inr ⟨{ cls := .type "list", data := .seq vs.toArray }, if_pos rfl⟩)) (fun b u z => ?_) (fun b z => ?_) fun _ => hk
    · by_cases hb : b = a
      · exact .inr ⟨_, _, if_pos hb⟩
      · exact .inl (if_neg hb)
    · by_cases hb : b = a
      · have z' := (if_pos hb).symm.trans z
        cases z'
        subst hb
        exact ⟨ha, by rw [List.length_map]; exact hl, vs, _, rv, ha⟩
      · have z' := (if_neg hb).symm.trans z
        cases z'
    · by_cases hb : b = a
      · exact hb
      · exact absurd (if_neg hb) z
end L2

namespace L2
open PySem PySem.Spec PyProof.Rows

abbrev KOf {K : PySem.W.Frag} {h : Heap} (_ : K.In h) : PySem.W.Frag := K

/-- the goal that k_head leaves (case hc), from the law's promise. F gives the function object fd (K's own) once, then the promise over every base -/
theorem walk_of {l : PySem.W.OpenLaw} {n k : Nat} {q : Program} {loose : List Str} {XP : (Str → Option Value) → Heap → Prop} {YP : World → Heap → Prop} {d : DefRec} {K : Params → PySem.W.Frag} {CX : World → CXT} {sp : World → Sp} {x : Str}
    (hn : l.most = some n) (hn2 : n ≤ sizeLine) (hdf : d.params.defaults = []) (hr : Room k callerA)
    (hY : ∀ (w : World) (h : Heap), YP w h → (K w.params).In h)
    (F : ∀ (w : World) (mg : Str → Option Value) (fa : Addr) (h : Heap), (K w.params).In h → h.Ns mainGlobals mg → mg d.name = some (.ref fa) →
      ∃ fd : FuncData, (∀ (s : Shared) (u : Value), BindsTo s fd ⟨[u], []⟩ [(x, u)]) ∧
        ∀ base : Heap, (K w.params).In base → base.Ns mainGlobals mg → FnOk l.prog w (K w.params) mg base (CX w) k fa fd [x] (sp w))
    (hsp : ∀ (w : World) (H : Hp) (a : Addr) (ns : List Int), ns.length ≤ n → Only H → SqL (K w.params) H a (ns.map V.int) → sp w [.ref a] H (fun v _ => v = .bl true) fun _ _ _ => False)
    (hCX : ∀ (w : World) (H : Hp) (s : Shared) (e : Value) (s' : Shared), CX w [] H s (fun _ _ _ => False) e s' → False) :
    PySem.W.WalkO q loose XP YP l.row.toRowW d [] (fun f vs => PySem.call f vs) := by
  refine Att.attach_call hn hdf fun w s₀ s₁ mg mb fa o pm cd doc a vs ns G Y ho hd hcd hmg hobj hints hlen hg => ?_
  have KX := hY w _ Y
  obtain ⟨fd, hb, hF⟩ := F w mg fa _ KX G.T.g hmg
  exact law_call KX G.T.g G.T.b G.T.builtins G.T.nolimit hg hobj hints (Nat.le_trans hlen hn2) hr hF hb (fun H hO hS => hsp w H a ns hlen hO hS) fun H e s' => hCX w H s₁ e s'
/-- the same where the promise hangs on the written part alone: (sp := My.sp_law), no hole under a binder -/
theorem walk_ofK {l : PySem.W.OpenLaw} {n k : Nat} {q : Program} {loose : List Str} {XP : (Str → Option Value) → Heap → Prop} {YP : World → Heap → Prop} {d : DefRec} {K : Params → PySem.W.Frag} {CX : CXT} {sp : PySem.W.Frag → Sp} {x : Str}
    (hn : l.most = some n) (hn2 : n ≤ sizeLine) (hdf : d.params.defaults = []) (hr : Room k callerA)
    (hY : ∀ (w : World) (h : Heap), YP w h → (K w.params).In h)
    (F : ∀ (w : World) (mg : Str → Option Value) (fa : Addr) (h : Heap), (K w.params).In h → h.Ns mainGlobals mg → mg d.name = some (.ref fa) →
      ∃ fd : FuncData, (∀ (s : Shared) (u : Value), BindsTo s fd ⟨[u], []⟩ [(x, u)]) ∧
        ∀ base : Heap, (K w.params).In base → base.Ns mainGlobals mg → FnOk l.prog w (K w.params) mg base CX k fa fd [x] (sp (K w.params)))
    (hsp : ∀ (K : PySem.W.Frag) (H : Hp) (a : Addr) (ns : List Int), ns.length ≤ n → Only H → SqL K H a (ns.map V.int) → sp K [.ref a] H (fun v _ => v = .bl true) fun _ _ _ => False)
    (hCX : ∀ (H : Hp) (s : Shared) (e : Value) (s' : Shared), CX [] H s (fun _ _ _ => False) e s' → False) :
    PySem.W.WalkO q loose XP YP l.row.toRowW d [] (fun f vs => PySem.call f vs) :=
  walk_of (K := K) (CX := fun _ => CX) (sp := fun w => sp (K w.params)) hn hn2 hdf hr hY F (fun w H a ns h1 h2 h3 => hsp (K w.params) H a ns h1 h2 h3) fun _ H s e s' => hCX H s e s'
end L2

/-! SHORT WORDS over the layer: a def of the text, its body, what a loop and a test want. -/
namespace L2
open PySem PySem.Spec PyProof.Rows

/-! ### the text by places -/
/-- the j-th statement of a class's body -/
def inClass (s : Stmt) (j : Nat) : Stmt := match s with
  | .ClassDef _ _ _ body _ _ _ _ _ _ _ => body.getD j (.Pass ⟨0, 0, 0, 0⟩)
  | _ => .Pass ⟨0, 0, 0, 0⟩
def defArgs (s : Stmt) : Arguments := match s with
  | .FunctionDef _ a _ _ _ _ _ _ _ _ => a
  | _ => { posonlyargs := [], args := [], vararg := none, kwonlyargs := [], kw_defaults := [], kwarg := none, defaults := [] }
def defBody (s : Stmt) : List Stmt := match s with
  | .FunctionDef _ _ b _ _ _ _ _ _ _ => b
  | _ => []
def defScope (s : Stmt) : Scope := match s with
  | .FunctionDef _ _ _ _ _ _ sc _ _ _ => sc
  | _ => { kind := .function, names := [], isGenerator := false, isCoroutine := false }

/-! ### no exception leaves a def -/
abbrev CX0 : CXT := fun _ _ _ _ _ _ => False
abbrev E0 : XK := fun _ _ _ => False
theorem pass0 {X : Cx} : Passes CX0 X E0 := fun _ _ _ _ _ _ _ h => h.elim

/-! ### a def (or method) of the text as it stands behind the top -/
structure Fun (K : PySem.W.Frag) (x qual : Str) (st : Stmt) (f : Addr) (fd : FuncData) : Prop where
  ex : ∃ (oc : Value) (od : Option Addr) (kV doc pm : Value) (an : Option Addr) (cdv ct : Value) (osl : Array (Option Value)),
    fd = PySem.W.fnOf x qual (defArgs st) (defBody st) (defScope st) .none kV doc pm an cdv ct ∧ K.lookup f = some ⟨oc, od, .func fd, osl⟩ ∧ PySem.W.codeIn K cdv qual = true
  kp : PySem.W.keepIn K (.ref f) = true
section
variable {P : Program} {w : World} {K : PySem.W.Frag} {mg : Str → Option Value} {base : Heap}
/-- THE RULE for a def: its body as a term of rules, and the reading of that term -/
theorem Fun.ok {x qual : Str} {st : Stmt} {f : Addr} {fd : FuncData} {N ps : List Str} {k : Nat} {sp : Sp} (F : Fun K x qual st f fd) (S : FnScope N ps (defScope st)) (len : ∀ vs H Q E, sp vs H Q E → vs.length = ps.length)
    (hbody : ∀ (cdv : Value) (A : Around) (outer : List Env) (s : Shared) (H : Hp) (vs : List V) (Q : VK) (E : XK), Room k (A.deeper (envOfC qual (defScope st) s.heap.objs.size f cdv)) → sp vs H Q E →
      ∃ t, PSs (cxOf CX0 P w K mg base N qual (defScope st) f cdv A outer s H E).nox (defBody st) t ∧ t { nx := fun _ H' => Q .non H', rt := Q } (start N vs) H) : FnOk P w K mg base CX0 (k + 1) f fd ps sp := by
  obtain ⟨oc, od, kV, doc, pm, an, cdv, ct, osl, rfl, lk, hcd⟩ := F.ex
  refine fn_of lk hcd S len fun A outer s H vs Q E hr hsp => ?_
  obtain ⟨t, h, q⟩ := hbody cdv A outer s H vs Q E hr hsp
  exact ⟨t, h.nox, q⟩
/-- how its arguments bind (no defaults): h is «fun _ _ _ _ _ _ us hl => match us, hl with | [_, _], _ => rfl», one _ a parameter -/
theorem Fun.binds {x qual : Str} {st : Stmt} {f : Addr} {fd : FuncData} {ps : List Str} (F : Fun K x qual st f fd)
    (h : ∀ (kV doc pm : Value) (an : Option Addr) (cdv ct : Value) (us : List Value), us.length = ps.length → bindArgs (PySem.W.fnOf x qual (defArgs st) (defBody st) (defScope st) .none kV doc pm an cdv ct) ⟨us, []⟩ = pure (ps.zip us)) : Binds K fd ps [] := by
  obtain ⟨oc, od, kV, doc, pm, an, cdv, ct, osl, rfl, lk, hcd⟩ := F.ex
  exact .all (h kV doc pm an cdv ct)
theorem fun_mk {x qual : Str} {st : Stmt} {f : Addr} {oc : Value} {od an : Option Addr} {osl : Array (Option Value)} {kV doc pm cdv ct : Value} (l : K.lookup f = some ⟨oc, od, .func (PySem.W.fnOf x qual (defArgs st) (defBody st) (defScope st) .none kV doc pm an cdv ct), osl⟩)
    (c : PySem.W.codeIn K cdv qual = true) (k : PySem.W.keepIn K (.ref f) = true) : Fun K x qual st f (PySem.W.fnOf x qual (defArgs st) (defBody st) (defScope st) .none kV doc pm an cdv ct) := ⟨⟨oc, od, kV, doc, pm, an, cdv, ct, osl, rfl, l, c⟩, k⟩
end
theorem small1000 {n : Nat} (h : n ≤ 1000) : n < sizeLine := Nat.lt_of_le_of_lt h (by decide)

/-! ### expressions in short: the name that stands in the i-th slot -/
section
variable {X : Cx}
theorem pv (i : Nat) {x : Str} {pos : Pos} (hN : X.N[i]? = some x := by rfl) (hv : Vis X.env.scope x := by first | exact Or.inl rfl | exact Or.inr (Or.inl rfl) | exact Or.inr (Or.inr rfl)) (hd : (x == ("__debug__" : Str)) = false := by decide)
    (hcd : (x == ("__classdict__" : Str)) = false := by decide) : PE X (.Name x pos) (tVar i) := pe_var hN hv hd hcd
end

/-! ### tests -/
theorem iteF {A B : Prop} (h : B) : if false = true then A else B := by
  rw [if_neg Bool.false_ne_true]
  exact h
theorem iteT {A B : Prop} (h : A) : if true = true then A else B := by
  rw [if_pos rfl]
  exact h
theorem ite2 {c A B : Prop} [Decidable c] (h1 : c → A) (h2 : ¬ c → B) : if c then A else B := by
  by_cases h : c
  · rw [if_pos h]
    exact h1 h
  · rw [if_neg h]
    exact h2 h
/-! ### heaps -/
/-- all that was tracked is as it was -/
def Same (H H' : Hp) : Prop := ∀ b o, H b = some o → H' b = some o
theorem Same.refl (H : Hp) : Same H H := fun _ _ h => h
theorem Same.trans {H H1 H2 : Hp} (a : Same H H1) (b : Same H1 H2) : Same H H2 := fun c o h => b c o (a c o h)
theorem Same.free {H H' : Hp} (e : Same H H') {l : Addr} (h : H' l = Option.none) : H l = Option.none := by
  cases q : H l with
  | none => rfl
  | some o =>
    rw [e l o q] at h
    cases h
theorem Same.seq {K : PySem.W.Frag} {H H' : Hp} {a : Addr} {xs : List V} (e : Same H H') (h : SqL K H a xs) : SqL K H' a xs := by
  rcases h with (h | ⟨o, h⟩) | h
  · exact .inl (.inl (e _ _ h))
  · exact .inl (.inr ⟨o, e _ _ h⟩)
  · exact .inr h

end L2
namespace L2
open PySem PySem.Spec PyProof.Rows

/-! ### lists of pairs as tables -/
section
variable {κ : Type} [DecidableEq κ]
def valV (kvs : List (κ × V)) (k : κ) : Option V := (kvs.find? fun kv => decide (kv.1 = k)).map (·.2)
/-- in its place, or at the end -/
def putK (kvs : List (κ × V)) (k : κ) (v : V) : List (κ × V) :=
  if (kvs.any fun kv => decide (kv.1 = k)) = true then kvs.map (fun kv => if kv.1 = k then (kv.1, v) else kv) else kvs ++ [(k, v)]
def dropK (kvs : List (κ × V)) (k : κ) : List (κ × V) := kvs.filter fun kv => decide (kv.1 ≠ k)

theorem valV_pos {p : κ × V} {r : List (κ × V)} {k : κ} (e : p.1 = k) : valV (p :: r) k = some p.2 := by simp [valV, List.find?_cons, e]
theorem valV_neg {p : κ × V} {r : List (κ × V)} {k : κ} (e : ¬ p.1 = k) : valV (p :: r) k = valV r k := by simp [valV, List.find?_cons, e]
theorem valV_any (k : κ) : ∀ kvs : List (κ × V), (kvs.any fun kv => decide (kv.1 = k)) = (valV kvs k).isSome
  | [] => rfl
  | p :: r => by
    rw [List.any_cons]
    by_cases e : p.1 = k
    · simp only [valV_pos e, decide_eq_true e, Bool.true_or, Option.isSome_some]
    · rw [valV_neg e, decide_eq_false e, Bool.false_or]; exact valV_any k r
theorem RelO.isSome_eq {o : Option V} {u : Option Value} (r : RelO o u) : o.isSome = u.isSome := by
  cases o with
  | none => cases u with
    | none => rfl
    | some _ => exact (show False from r).elim
  | some _ => cases u with
    | none => exact (show False from r).elim
    | some _ => rfl
theorem RelO.getD {o : Option V} {u : Option Value} {d : V} {d' : Value} (r : RelO o u) (rd : RelV d d') : RelV (o.getD d) (u.getD d') := by
  cases o with
  | none => cases u with
    | none => exact rd
    | some _ => exact (show False from r).elim
  | some _ => cases u with
    | none => exact (show False from r).elim
    | some _ => exact r

/-- raw tables of the same keys -/
theorem KV.val {kvs : List (κ × V)} {vs : List (κ × Value)} (r : KV kvs vs) (k : κ) : RelO (valV kvs k) (valueAt vs k) := by
  unfold KV at r
  induction r with
  | nil => exact True.intro
  | @cons p q ps qs h t ih =>
    obtain ⟨h1, h2⟩ := h
    by_cases e : p.1 = k
    · have e' : q.1 = k := h1.symm.trans e
      have b : valueAt (q :: qs) k = some q.2 := by simp [valueAt, List.find?_cons, e']
      rw [valV_pos e, b]; exact h2
    · have e' : ¬ q.1 = k := fun z => e (h1.trans z)
      have b : valueAt (q :: qs) k = valueAt qs k := by simp [valueAt, List.find?_cons, e']
      rw [valV_neg e, b]; exact ih
theorem KV.any {kvs : List (κ × V)} {vs : List (κ × Value)} (r : KV kvs vs) (k : κ) : (kvs.any fun kv => decide (kv.1 = k)) = vs.any fun kv => decide (kv.1 = k) := by
  unfold KV at r
  induction r with
  | nil => rfl
  | cons h t ih => rw [List.any_cons, List.any_cons, ih, h.1]
theorem KV.repl {kvs : List (κ × V)} {vs : List (κ × Value)} (r : KV kvs vs) (k : κ) {y : V} {u : Value} (ry : RelV y u) :
    KV (kvs.map fun kv => if kv.1 = k then (kv.1, y) else kv) (vs.map fun kv => if kv.1 = k then (kv.1, u) else kv) := by
  unfold KV at r ⊢
  induction r with
  | nil => exact .nil
  | @cons p q ps qs h t ih =>
    rw [List.map_cons, List.map_cons]
    refine .cons ?_ ih
    obtain ⟨h1, h2⟩ := h
    by_cases e : p.1 = k
    · rw [if_pos e, if_pos (h1.symm.trans e)]; exact ⟨h1, ry⟩
    · rw [if_neg e, if_neg (fun z => e (h1.trans z))]; exact ⟨h1, h2⟩
theorem KV.put {kvs : List (κ × V)} {vs : List (κ × Value)} (r : KV kvs vs) (k : κ) {y : V} {u : Value} (ry : RelV y u) : KV (putK kvs k y) (stored vs k u) := by
  unfold putK stored
  rw [r.any k]
  by_cases e : (vs.any fun kv => decide (kv.1 = k)) = true
  · rw [if_pos e, if_pos e]; exact r.repl k ry
  · rw [if_neg e, if_neg e]; exact Paired.snoc r ⟨rfl, ry⟩
theorem KV.drop {kvs : List (κ × V)} {vs : List (κ × Value)} (r : KV kvs vs) (k : κ) : KV (dropK kvs k) (without vs k) := by
  unfold KV at r ⊢
  unfold dropK without
  induction r with
  | nil => exact .nil
  | @cons p q ps qs h t ih =>
    obtain ⟨h1, h2⟩ := h
    rw [List.filter_cons, List.filter_cons]
    by_cases e : p.1 = k
    · have a : ¬ decide (p.1 ≠ k) = true := by simp [e]
      have b : ¬ decide (q.1 ≠ k) = true := by simp [h1.symm.trans e]
      rw [if_neg a, if_neg b]; exact ih
    · have e' : ¬ q.1 = k := fun z => e (h1.trans z)
      have a : decide (p.1 ≠ k) = true := by simp [e]
      have b : decide (q.1 ≠ k) = true := by simp [e']
      rw [if_pos a, if_pos b]; exact .cons ⟨h1, h2⟩ ih
theorem KV.keys {kvs : List (κ × V)} {vs : List (κ × Value)} (r : KV kvs vs) : kvs.map (·.1) = vs.map (·.1) := by
  unfold KV at r
  induction r with
  | nil => rfl
  | cons h t ih => rw [List.map_cons, List.map_cons, ih, h.1]
theorem KV.length {kvs : List (κ × V)} {vs : List (κ × Value)} (r : KV kvs vs) : kvs.length = vs.length := Paired.length r
end


/-! ### a tracked dict, its keys ints and texts or tuples of these -/
theorem kV_is {P : Program} {w : World} {k : Key} {u : Value} (r : RelV (kV k) u) : (mixKind P w).is k u = true := by
  cases k with
  | inl i => obtain ⟨t, e⟩ := (show ∃ t, u = Value.int i t from r); subst e; exact mixKind_int P w i t
  | inr x => obtain ⟨t, e⟩ := (show ∃ t, u = Value.str x t from r); subst e; exact mixKind_str P w x t
theorem items_are {P : Program} {w : World} : ∀ {ks : List Key} {us : List Value}, Vals (ks.map kV) us → ItemsAre (mixKind P w) ks us
  | [], _, r => by rw [List.map_nil] at r; cases r; exact .nil
  | k :: ks, _, r => by
    rw [List.map_cons] at r
    cases r with
    | cons h t => exact .cons (kV_is h) (items_are t)

/-- raw entries of a dict with tuple keys -/
abbrev KT (H : Hp) : List (List Key × V) → List (List Key × Addr × Value) → Prop := Paired fun p q => p.1 = q.1 ∧ H q.2.1 = some (.tup (p.1.map kV)) ∧ RelV p.2 q.2.2
theorem KT.val {H : Hp} {kvs : List (List Key × V)} {xs : List (List Key × Addr × Value)} (r : KT H kvs xs) (k : List Key) : RelO (valV kvs k) ((atKey xs k).map (·.2)) := by
  induction r with
  | nil => exact True.intro
  | @cons p q ps qs h t ih =>
    obtain ⟨h1, _, h2⟩ := h
    by_cases e : p.1 = k
    · have e' : q.1 = k := h1.symm.trans e
      have b : atKey (q :: qs) k = some q.2 := by simp [atKey, List.find?_cons, e']
      rw [valV_pos e, b]; exact h2
    · have e' : ¬ q.1 = k := fun z => e (h1.trans z)
      have b : atKey (q :: qs) k = atKey qs k := by simp [atKey, List.find?_cons, e']
      rw [valV_neg e, b]; exact ih
theorem KT.repl {H : Hp} {kvs : List (List Key × V)} {xs : List (List Key × Addr × Value)} (r : KT H kvs xs) (k : List Key) {y : V} {u : Value} (ry : RelV y u) :
    KT H (kvs.map fun kv => if kv.1 = k then (kv.1, y) else kv) (xs.map (putAt k u)) := by
  induction r with
  | nil => exact .nil
  | @cons p q ps qs h t ih =>
    rw [List.map_cons, List.map_cons]
    refine .cons ?_ ih
    obtain ⟨h1, h2, h3⟩ := h
    unfold putAt
    by_cases e : p.1 = k
    · rw [if_pos e, if_pos (h1.symm.trans e)]; exact ⟨h1, h2, ry⟩
    · rw [if_neg e, if_neg (fun z => e (h1.trans z))]; exact ⟨h1, h2, h3⟩
theorem KT.put {H : Hp} {kvs : List (List Key × V)} {xs : List (List Key × Addr × Value)} (r : KT H kvs xs) (k : List Key) {b : Addr} {y : V} {u : Value} (hb : H b = some (.tup (k.map kV))) (ry : RelV y u) :
    KT H (putK kvs k y) (storedH xs k b u) := by
  have e : (kvs.any fun kv => decide (kv.1 = k)) = (atKey xs k).isSome := by
    rw [valV_any, (r.val k).isSome_eq, Option.isSome_map]
  unfold putK storedH
  rw [e]
  by_cases q : (atKey xs k).isSome = true
  · rw [if_pos q, if_pos q]; exact r.repl k ry
  · rw [if_neg q, if_neg q]; exact Paired.snoc r ⟨rfl, hb, ry⟩
theorem KT.keeps {H H' : Hp} {kvs : List (List Key × V)} {xs : List (List Key × Addr × Value)} (r : KT H kvs xs) (ht : ∀ b ys, H b = some (.tup ys) → H' b = some (.tup ys)) : KT H' kvs xs :=
  Paired.mapP r fun _ _ z => ⟨z.1, ht _ _ z.2.1, z.2.2⟩

section
variable {P : Program} {w : World} {H : Hp} {h : Heap} {a : Addr}
theorem rd_of {u : HO} (ok : HOk P w H h) (e : Rd H a u) : ObjOk P w H h a u := e.ok ok
theorem dk_rd {kvs : List (Key × V)} (ok : HOk P w H h) (e : Rd H a (.dK kvs)) : kvs.length ≤ sizeLine ∧ (a == sysModules) = false ∧ ∃ vs, KV kvs vs ∧ h.DictOf (mixKind P w) a vs :=
  show ObjOk P w H h a (.dK kvs) from rd_of ok e
/-- a tracked tuple of ints and texts is a key -/
theorem key_of {ks : List Key} (ok : HOk P w H h) (e : H a = some (.tup (ks.map kV))) : (tupleKind (mixKind P w)).is h ks a := by
  obtain ⟨_, its, r, o, h1, h2, n, h3⟩ := (show ObjOk P w H h a (.tup (ks.map kV)) from ok a _ e)
  exact ⟨o, its.toArray, n, h1, h2, h3, by simpa using items_are r⟩
theorem dt_rd {kvs : List (List Key × V)} (ok : HOk P w H h) (e : Rd H a (.dT kvs)) : kvs.length ≤ sizeLine ∧ (a == sysModules) = false ∧
    ∃ xs, KT H kvs xs ∧ h.DictOfH (tupleKind (mixKind P w)) a xs := by
  obtain ⟨z, y, xs, r, o, es, ep, h1, h2, h3, h4, h5⟩ := (show ObjOk P w H h a (.dT kvs) from rd_of ok e)
  refine ⟨z, y, xs, r, o, es, ep, h1, h2, h3, h4, fun x hx => ?_, h5⟩
  have all : ∀ {l : List (List Key × V)} {m : List (List Key × Addr × Value)}, KT H l m → ∀ x ∈ m, (tupleKind (mixKind P w)).is h x.1 x.2.1 := by
    intro l m q
    induction q with
    | nil => intro x hx; exact nomatch hx
    | @cons p q ps qs hq t ih =>
      intro x hx
      rcases List.mem_cons.mp hx with e | hx
      · subst e
        exact key_of ok (by rw [← hq.1]; exact hq.2.1)
      · exact ih x hx
  exact all r x hx
end

/-- what the dict at a holds at the key y -/
def DGet (H : Hp) (a : Addr) (y : V) (r : Option V) : Prop :=
  (∃ kvs k, Rd H a (.dK kvs) ∧ y = kV k ∧ r = valV kvs k) ∨ ∃ kvs k b, Rd H a (.dT kvs) ∧ y = .ref b ∧ H b = some (.tup (k.map kV)) ∧ r = valV kvs k
/-- the heap behind a[y] = v -/
def DPut (H : Hp) (a : Addr) (y v : V) (H' : Hp) : Prop :=
  (∃ kvs k, H a = some (.dK kvs) ∧ y = kV k ∧ kvs.length < sizeLine ∧ H' = upd H a (.dK (putK kvs k v))) ∨
  ∃ kvs k b, H a = some (.dT kvs) ∧ y = .ref b ∧ H b = some (.tup (k.map kV)) ∧ kvs.length < sizeLine ∧ H' = upd H a (.dT (putK kvs k v))
theorem DGet.k {H : Hp} {a : Addr} {kvs : List (Key × V)} {k : Key} (e : H a = some (.dK kvs)) : DGet H a (kV k) (valV kvs k) := .inl ⟨kvs, k, .inl e, rfl, rfl⟩
theorem DGet.t {H : Hp} {a b : Addr} {kvs : List (List Key × V)} {k : List Key} (e : H a = some (.dT kvs)) (eb : H b = some (.tup (k.map kV))) : DGet H a (.ref b) (valV kvs k) := .inr ⟨kvs, k, b, .inl e, rfl, eb, rfl⟩
theorem DPut.k {H : Hp} {a : Addr} {kvs : List (Key × V)} {k : Key} {v : V} (e : H a = some (.dK kvs)) (hl : kvs.length < sizeLine) : DPut H a (kV k) v (upd H a (.dK (putK kvs k v))) := .inl ⟨kvs, k, e, rfl, hl, rfl⟩
theorem DPut.t {H : Hp} {a b : Addr} {kvs : List (List Key × V)} {k : List Key} {v : V} (e : H a = some (.dT kvs)) (eb : H b = some (.tup (k.map kV))) (hl : kvs.length < sizeLine) :
    DPut H a (.ref b) v (upd H a (.dT (putK kvs k v))) := .inr ⟨kvs, k, b, e, rfl, eb, hl, rfl⟩


section
variable {X : Cx} {pins : List (Addr × Obj)} {σ : St} {H : Hp} {s : Shared} {a : Addr} {y v : V} {u r : Value} {o : Option V} {A : Around} {E : Value → Shared → Prop}

theorem Inv.big (I : Inv X pins σ H s) : sysModules < s.heap.objs.size := by
  have h : mainGlobals < s.heap.objs.size := (I.mod.glob.keeps I.bk).lt
  exact Nat.lt_trans (by decide) h

/-- d[y], there -/
theorem d_getItem {Q : Value → Shared → Prop} (hu : A.units + 1 < cLine) (I : Inv X pins σ H s) (g : DGet H a y (some v)) (ry : RelV y u) (h : ∀ w' s', Inv X pins σ H s' → RelV v w' → Q w' s') :
    wpAny (model X.prog X.w) A (getItem (.ref a) u) Q E s := by
  rcases g with ⟨kvs, k, e, ey, l⟩ | ⟨kvs, k, b, e, ey, eb, l⟩
  · subst ey
    obtain ⟨z, hd, vs, rel, dd⟩ := dk_rd I.hok e
    obtain ⟨w', hw, rw'⟩ := RelO.some_of (v := v) (o := valueAt vs k) (by rw [l]; exact rel.val k)
    exact wpAny_getItem_of (kV_is ry) dd.mapOf hw (h w' _ (I.tok _) rw')
  · subst ey
    cases (show u = Value.ref b from ry)
    obtain ⟨z, hd, xs, rel, dd⟩ := dt_rd I.hok e
    obtain ⟨w', hw, rw'⟩ := RelO.some_of (v := v) (o := (atKey xs k).map (·.2)) (by rw [l]; exact rel.val k)
    obtain ⟨p, hp, hp2⟩ := Option.map_eq_some_iff.mp hw
    refine wpAny_getItem_heap (tupleKind_room_in1 hu) (key_of I.hok eb) dd hp ?_
    rw [hp2]
    exact h w' _ (I.tok _) rw'
/-- a dict's object is replaced -/
theorem d_write {h' : Heap} {t' : Nat} {ob : HO} (I : Inv X pins σ H s) (mu : Mut (H a)) (hs : Heap.SameBut a s.heap h') (he : ∃ q, h'.get? a = some q) (new : ObjOk X.prog X.w (upd H a ob) h' a ob) :
    Inv X pins σ (upd H a ob) { s with heap := h', toks := t' } :=
  I.write (x := a) (e := a) mu (.inl rfl) (fun b q hb z => (hs.2 b hb).trans z) he new
end

section
variable {X : Cx} {pins : List (Addr × Obj)} {σ : St} {H : Hp} {s : Shared} {a : Addr} {kvs : List (Key × V)} {k : Key} {u : Value} {A : Around} {E : Value → Shared → Prop}
/-- len(d) -/
theorem d_len {Q : Value → Shared → Prop} (I : Inv X pins σ H s) (e : Rd H a (.dK kvs)) (h : ∀ t s', Inv X pins σ H s' → Q (.int kvs.length t) s') : wpAny (model X.prog X.w) A (call (.builtin "len") [.ref a]) Q E s := by
  obtain ⟨z, hd, vs, rel, dd⟩ := dk_rd I.hok e
  refine call_len_dict hd dd (by rw [← rel.length]; rw [sizeLine_eq] at z; omega) ?_
  rw [← rel.length]
  exact h _ _ (I.tok _)
end


/-! ### readings and rules -/
/-- the element of a subscription, not a slice -/
def NoSl (i : Expr) : Prop := ∀ ov iv, subscripted i false ov iv = operate [ov, iv] (getItem ov iv)
theorem subD_of {prog : Program} {w : World} {A : Around} {E : Value → Shared → Prop} {s : Shared} {env : Env} {value slice : Expr} {pos : Pos} {T id : String} {Q : Value → Shared → Prop}
    (hl : typeLookup (.type T) "__getitem__" = pure (some (.builtin id))) (hs : NoSl slice)
    (h : wpAny (model prog w) A (eval value env) (fun o s₁ => wpAny (model prog w) A (eval slice env) (fun i s₂ => s₂.TypeIs o T ∧ wpAny (model prog w) A (getItem o i) Q E s₂) E s₁) E s) :
    wpAny (model prog w) A (eval (.Subscript value slice pos) env) Q E s := by
  refine Subscript_ (wpAny_mono h (fun o s₁ h₁ => wpAny_mono h₁ (fun i s₂ h₂ => ?_) fun _ _ x => x) fun _ _ x => x)
  obtain ⟨hT, h₂⟩ := h₂
  unfold subscriptTail
  refine wpAny_bind ?_
  rw [getitemInPython_of_ne hT.not_modules]
  refine wpAny_bind (wpAny_specialOf hT hl ?_)
  have fin : wpAny (model prog w) A (subscripted slice false o i) (fun r s₃ => wpAny (model prog w) A (letTemporaryGo value o r >>= fun _ => pure r) Q E s₃) E s₂ := by
    rw [hs o i]
    exact wpAny_operating (wpAny_mono h₂ (fun r s₃ h₃ => wpAny_bind (wpAny_letTemporaryGo (wpAny_pure h₃))) fun _ _ x => x)
  first
    | exact wpAny_pure (wpAny_bind fin)
    | exact wpAny_bind (wpAny_pure (wpAny_bind fin))
    | exact wpAny_bind fin

theorem dict_typeIs {X : Cx} {pins : List (Addr × Obj)} {σ : St} {H : Hp} {s : Shared} {a : Addr} {y : V} {o : Option V} (I : Inv X pins σ H s) (g : DGet H a y o) : s.TypeIs (.ref a) "dict" := by
  rcases g with ⟨kvs, k, e, _, _⟩ | ⟨kvs, k, b, e, _, _, _⟩
  · obtain ⟨_, _, vs, _, dd⟩ := dk_rd I.hok e
    exact dd.typeIs
  · obtain ⟨_, _, xs, _, dd⟩ := dt_rd I.hok e
    exact dd.typeIs
/-- d[y] -/
def tDGet (td ty : TE) : TE := fun σ H Q => td σ H fun x H1 => ty σ H1 fun y H2 => ∃ a v, x = .ref a ∧ DGet H2 a y (some v) ∧ Q v H2
/-- d[y] = v -/
def sDPut (td ty tv : TE) : TS := fun D σ H => tv σ H fun v H1 => td σ H1 fun x H2 => ty σ H2 fun y H3 => ∃ a H4, x = .ref a ∧ DPut H3 a y v H4 ∧ D.nx σ H4
section
variable {X : Cx} {o i e value : Expr} {pos pos' tpos : Pos} {td ty tv : TE}
end


/-! ### displays -/
/-- {}, to be a dict of the kind that is wanted -/
def tDNewK : TE := fun _ H Q => ∀ p, H p = none → Q (.ref p) (upd H p (.dK []))
section
variable {X : Cx} {pos : Pos}
end

/-- the pairs of a display, from the left -/
def tPairs : List (TE × TE) → St → Hp → (List (V × V) → Hp → Prop) → Prop
  | [], _, H, Q => Q [] H
  | (tk, tv) :: r, σ, H, Q => tk σ H fun x H1 => tv σ H1 fun y H2 => tPairs r σ H2 fun ps H3 => Q ((x, y) :: ps) H3
def mergeK (kvs more : List (Key × V)) : List (Key × V) := more.foldl (fun acc kv => putK acc kv.1 kv.2) kvs
/-- {k: v, ..} with keys ints and texts; the new dict stands empty while the pairs are made -/
def tDisp (trs : List (TE × TE)) : TE := fun σ H Q => ∀ p, H p = none → tPairs trs σ (upd H p (.dK [])) fun ps H2 => H2 p = some (.dK []) ∧ ∃ kvs : List (Key × V), ps = kvs.map (fun kv => (kV kv.1, kv.2)) ∧ kvs.length ≤ 15 ∧ Q (.ref p) (upd H2 p (.dK (mergeK [] kvs)))
/-! ### methods -/
/-- a method call o.m(e) of a built-in, with one argument: what must be seen of the text -/
structure M1 (X : Cx) (o : Expr) (m : Str) (apos : Pos) (e : Expr) (cpos : Pos) : Prop where
  base : attributeBase o m X.env (eval o X.env) = eval o X.env
  few : ((backTo cpos (starEach [e] X.env)).all (fun x => !x.1) && (backToKw cpos (keywordEach [] X.env)).all (fun x => x.1.isSome)
    && decide (([e] : List Expr).length + ([] : List Keyword).length + (if ([] : List Keyword).isEmpty then 0 else 1) < 30)) = true
  line : (apos.endLine == cpos.line) = true
  trees : backTo cpos (starEach [e] X.env) = [(false, eval e X.env)]
structure M2 (X : Cx) (o : Expr) (m : Str) (apos : Pos) (e f : Expr) (cpos : Pos) : Prop where
  base : attributeBase o m X.env (eval o X.env) = eval o X.env
  few : ((backTo cpos (starEach [e, f] X.env)).all (fun x => !x.1) && (backToKw cpos (keywordEach [] X.env)).all (fun x => x.1.isSome)
    && decide (([e, f] : List Expr).length + ([] : List Keyword).length + (if ([] : List Keyword).isEmpty then 0 else 1) < 30)) = true
  line : (apos.endLine == cpos.line) = true
  trees : backTo cpos (starEach [e, f] X.env) = [(false, eval e X.env), (false, eval f X.env)]

section
variable {X : Cx} {pins : List (Addr × Obj)} {σ : St} {H : Hp} {s : Shared} {a : Addr} {y d : V} {u r : Value} {o : Option V} {A : Around} {E : Value → Shared → Prop}
end

section
variable {X : Cx} {o e f : Expr} {apos cpos : Pos} {td ty tx : TE}
end

/-! ### dict(d): a copy -/
section
variable {X : Cx} {pins : List (Addr × Obj)} {σ : St} {H : Hp} {s : Shared} {a : Addr} {kvs : List (Key × V)} {A : Around} {E : Value → Shared → Prop}
end


section
variable {X : Cx} {pins : List (Addr × Obj)} {σ : St} {H : Hp} {s : Shared} {a : Addr} {y : V} {u : Value} {A : Around} {E : Value → Shared → Prop}
end
end L2

namespace L2
open PySem PySem.Spec PyProof.Rows
/-! ### a dict's pairs: keys that differ -/
section
variable {κ : Type} [DecidableEq κ]
end
end L2
/-! A list comprehension in the hand layer: one clause, any target, any tests. -/
namespace L2
open PySem PySem.Spec PyProof.Rows

section
variable {prog : Program} {w : World} {A : Around} {R : Result → Shared → Prop} {s : Shared}
abbrev testsOf (ifs : List Expr) (env : Env) : Sem Bool :=
  forIn ifs true fun c r => if r = true then do let ok ← isTrue c env (eval c env); pure (ForInStep.yield ok) else pure (ForInStep.yield r)

theorem compLoop_gen {elt target iter : Expr} {ifs : List Expr} {scope : Scope} {pos : Pos} {it acc : Value} {env : Env} {nE : Value → Shared → Prop} (hE : nE = notedBy (model prog w) A env fun e s' => R (.error e) s') (I : Nat → Shared → Prop)
    (turn : ∀ n s, I n s → wpAny (model prog w) A (pyNext it) (fun r s1 => match r with
      | none => R (.ok .next) s1
      | some v => wpAny (model prog w) A (letOwnedTupleGo target it v) (fun _ s1b => wpAny (model prog w) A (assign target env v) (fun _ s2 =>
          wpAny (model prog w) A (testsOf ifs env) (fun ok s3 =>
            if ok = true then wpAny (model prog w) A (eval elt env) (fun x s4 =>
              wpAny (model prog w) A (call (.builtin "list.append") [acc, x]) (fun _ s5 => ∃ m, m < n ∧ I m s5) nE s4) nE s3
            else ∃ m, m < n ∧ I m s3) nE s2) nE s1b) nE s1) nE s)
    (n : Nat) (h : I n s) :
    codeAny (model prog w) A (.compLoop (.ListComp elt [⟨target, iter, ifs, 0⟩] scope pos) 0 it acc env) R s := by
  subst hE
  refine codeAny_loop rfl I (fun n s hI => ?_) n h
  show wpAny _ A ((compTurn (.ListComp elt [⟨target, iter, ifs, 0⟩] scope pos) 0 it acc env).onRaise (fun x => do noteFrame x env; theTreesLotGoes x)) _ _ s
  refine wpAny_noted ?_
  rw [compTurn_list]
  refine wpAny_bind (wpAny_standAt (wpAny_bind (wpAny_mono (turn n s hI) (fun r s1 h1 => ?_) fun _ _ h' => h')))
  cases r with
  | none => exact wpAny_pure h1
  | some v =>
    refine wpAny_bind (wpAny_mono h1 (fun _ s1b h1b => ?_) fun _ _ h' => h')
    refine wpAny_bind (wpAny_mono h1b (fun _ s2 h2 => wpAny_bind (wpAny_mono h2 (fun ok s3 h3 => ?_) fun _ _ h' => h')) fun _ _ h' => h')
    cases ok with
    | false => exact wpAny_pure ⟨rfl, h3⟩
    | true =>
      exact wpAny_bind (wpAny_bind (wpAny_mono h3 (fun x s4 h4 => wpAny_bind (wpAny_mono h4 (fun _ s5 h5 => wpAny_pure (wpAny_pure ⟨rfl, h5⟩)) fun _ _ h' => h')) fun _ _ h' => h'))
end

/-! ### the block's cells -/
def clOf (cells : List (Str × Addr)) : List (Str × NameKind) → List (Str × Addr) → List (Str × Addr)
  | [], acc => acc
  | (n, k) :: r, acc => clOf cells r (if k == NameKind.free then (n, (cells.lookup n).getD 0) :: acc else acc)

theorem closure_forIn (env : Env) : ∀ (names : List (Str × NameKind)) (acc : List (Str × Addr)), (∀ y ∈ names, y.2 = .free → ∃ c, env.cells.lookup y.1 = some c) →
    (forIn names acc fun x (r : List (Str × Addr)) => match x with
      | (name, kind) => if (kind == NameKind.free) = true then (do let a ← cellOf env name; pure (ForInStep.yield ((name, a) :: r))) else pure (ForInStep.yield r) : Sem (List (Str × Addr))) = pure (clOf env.cells names acc)
  | [], acc, _ => by simp [clOf]
  | (n, k) :: r, acc, h => by
    have ih := fun acc => closure_forIn env r acc fun y hy => h y (List.mem_cons_of_mem _ hy)
    rw [List.forIn_cons]
    unfold clOf
    by_cases hk : k = .free
    · subst hk
      obtain ⟨c, e⟩ := h (n, .free) List.mem_cons_self rfl
      simp only [beq_self_eq_true, if_true, cellOf, e, Option.getD_some, pure_bind]
      exact ih _
    · have hb : (k == NameKind.free) = false := by simpa using hk
      simp only [hb, Bool.false_eq_true, if_false, pure_bind]
      exact ih _

theorem closureFor_eq {scope : Scope} {env : Env} (h : ∀ y ∈ scope.names, y.2 = .free → ∃ c, env.cells.lookup y.1 = some c) : closureFor scope env = pure (clOf env.cells scope.names []) := by
  have e := closure_forIn env scope.names [] h
  unfold closureFor
  first
    | (rw [e]; rfl)
    | (simp only [bind_pure]; exact e)
    | (show (_ >>= _) = _; rw [e]; rfl)

theorem clOf_lookup {cells : List (Str × Addr)} {x : Str} {c : Addr} : ∀ (names : List (Str × NameKind)) (acc : List (Str × Addr)), (∀ y ∈ names, y.2 = .free → ∃ c, cells.lookup y.1 = some c) →
    (∀ d, acc.lookup x = some d → cells.lookup x = some d) → (clOf cells names acc).lookup x = some c → cells.lookup x = some c
  | [], acc, _, ha, e => ha c e
  | (n, k) :: r, acc, h, ha, e => by
    unfold clOf at e
    refine clOf_lookup r _ (fun y hy => h y (List.mem_cons_of_mem _ hy)) (fun d hd => ?_) e
    by_cases hk : k = .free
    · subst hk
      obtain ⟨c', e'⟩ := h (n, .free) List.mem_cons_self rfl
      have e2 : cells.lookup n = some c' := e'
      rw [if_pos (beq_self_eq_true _), e2] at hd
      cases hx : x == n with
      | true =>
        have : x = n := eq_of_beq hx
        subst this
        simp only [List.lookup_cons, hx, Option.getD_some] at hd
        rw [e2]
        exact hd
      | false =>
        simp only [List.lookup_cons, hx] at hd
        exact ha d hd
    · have hb : ¬ (k == NameKind.free) = true := by simpa using hk
      rw [if_neg hb] at hd
      exact ha d hd

theorem clOf_keeps {cells : List (Str × Addr)} {x : Str} : ∀ (names : List (Str × NameKind)) (acc : List (Str × Addr)), (acc.lookup x).isSome = true → ((clOf cells names acc).lookup x).isSome = true
  | [], _, h => h
  | (n, k) :: r, acc, h => by
    unfold clOf
    refine clOf_keeps r _ ?_
    by_cases hk : (k == NameKind.free) = true
    · rw [if_pos hk]
      cases hx : x == n with
      | true => simp only [List.lookup_cons, hx, Option.isSome_some]
      | false => simp only [List.lookup_cons, hx]; exact h
    · rw [if_neg hk]; exact h

theorem clOf_has {cells : List (Str × Addr)} {x : Str} : ∀ (names : List (Str × NameKind)) (acc : List (Str × Addr)), (x, NameKind.free) ∈ names → ((clOf cells names acc).lookup x).isSome = true
  | (n, k) :: r, acc, h => by
    unfold clOf
    rcases List.mem_cons.mp h with e | h
    · cases e
      refine clOf_keeps r _ ?_
      rw [if_pos (beq_self_eq_true _)]
      simp only [List.lookup_cons, beq_self_eq_true, Option.isSome_some]
    · exact clOf_has r _ h

theorem relab_lookup {env : Env} (x : Str) : ∀ names : List (Str × NameKind),
    (names.map fun (n, k) => if (k == NameKind.free && env.scope.kind == .function && env.kindOf n == some .cell) then (n, NameKind.cell) else (n, k)).lookup x =
      (names.lookup x).map fun k => if (k == NameKind.free && env.scope.kind == .function && env.kindOf x == some .cell) then NameKind.cell else k
  | [] => rfl
  | (n, k) :: r => by
    have ih := relab_lookup (env := env) x r
    rw [List.map_cons]
    cases hx : x == n with
    | true =>
      have : x = n := eq_of_beq hx
      subst this
      show List.lookup x ((if (k == NameKind.free && env.scope.kind == .function && env.kindOf x == some .cell) = true then (x, NameKind.cell) else (x, k)) :: _) = _
      by_cases hc : (k == NameKind.free && env.scope.kind == .function && env.kindOf x == some .cell) = true
      · rw [if_pos hc]; simp only [List.lookup_cons, hx, Option.map_some]; rw [if_pos hc]
      · rw [if_neg hc]; simp only [List.lookup_cons, hx, Option.map_some]; rw [if_neg hc]
    | false =>
      show List.lookup x ((if (k == NameKind.free && env.scope.kind == .function && env.kindOf n == some .cell) = true then (n, NameKind.cell) else (n, k)) :: _) = _
      by_cases hc : (k == NameKind.free && env.scope.kind == .function && env.kindOf n == some .cell) = true
      · rw [if_pos hc]; simp only [List.lookup_cons, hx]; exact ih
      · rw [if_neg hc]; simp only [List.lookup_cons, hx]; exact ih

/-- what is asked of the block's names: own are the clause's, caps are captured -/
structure CScope (own caps : List Str) (scope osc : Scope) : Prop where
  kind : scope.kind = .function
  nocell : ∀ y ∈ scope.names, y.2 ≠ .cell
  loc : ∀ y ∈ scope.names, y.2 = .local → scope.names.lookup y.1 = some .local
  fr : ∀ y ∈ scope.names, y.2 = .free → osc.names.lookup y.1 = some .cell ∨ osc.names.lookup y.1 = some .free
  cap : ∀ x ∈ caps, scope.names.lookup x = some .free
  nd : (own ++ caps).Nodup

/-- the block's context -/
def cxC (X : Cx) (scope : Scope) (N' : List Str) (C : Addr) (fp : List Addr) (s : Shared) (H : Hp) : Cx where
  prog := X.prog
  w := X.w
  K := X.K
  mg := X.mg
  base := X.base
  A := X.A
  N := N'
  s₀ := s
  H₀ := H
  env := compEnvC scope (clOf X.env.cells scope.names []) C X.env
  outer := X.stack
  stack := X.stack
  ex := fp
  fn := fun _ => false
  calm := X.calm
  pn := X.pn
  xe := fun _ _ => False

/-- the block's slots: own ones unset, captured ones as they stand -/
def cSt (n : Nat) (js : List Nat) (σ : St) : St := List.replicate n none ++ js.map fun j => (σ[j]?).join

/-- the tests of a clause -/
def PF (X : Cx) (ifs : List Expr) (t : TT) : Prop :=
  ∀ (pins : List (Addr × Obj)) (s : Shared) (σ : St) (H : Hp) (Q : Bool → Hp → Prop), Inv X pins σ H s → t σ H Q → wpAny (model X.prog X.w) X.A (testsOf ifs X.env) (TP X pins σ Q) X.xe s
def tYes : TT := fun _ H Q => Q true H
theorem pf_nil {X : Cx} : PF X [] tYes := fun pins s σ H Q I h => by
  show wpAny _ _ (forIn [] true _) _ _ s
  rw [List.forIn_nil]
  exact wpAny_pure ⟨H, I, h⟩
/-- W: the invariant by the turn, a measure, what was gathered; D: where it is gathered -/
def tComp (n : Nat) (js : List Nat) (wi : TI) (g : TG) (tc : TT) (te : TE) : TE := fun σ H Q => wi σ H fun J H1 => ∀ D, H1 D = none → ∃ W : Nat → Nat → List V → Hp → Prop, (∃ m, W 0 m [] (upd H1 D (.lst []))) ∧ ∀ i m acc H, W i m acc H →
  H D = some (.lst acc) ∧ ((J.stop i H ∧ Q (.ref D) H) ∨ (J.go i H ∧ acc.length < sizeLine ∧ ∃ Nx : List V → Hp → Prop, (∀ acc' H', Nx acc' H' → ∃ m', m' < m ∧ W (i + 1) m' acc' H') ∧
    ∀ x H', J.yld i H x H' → g x (cSt n js σ) H' fun σ2 H2 => σ2.drop n = (cSt n js σ).drop n ∧ tc σ2 H2 fun b H3 => if b = true then te σ2 H3 fun v H4 => H4 D = some (.lst acc) ∧ Nx (acc ++ [v]) (upd H4 D (.lst (acc ++ [v]))) else H3 D = some (.lst acc) ∧ Nx acc H3))

section
variable {X : Cx} {pins : List (Addr × Obj)} {σ : St} {H : Hp} {s : Shared}

abbrev capN (X : Cx) (js : List Nat) : List Str := js.map fun j => (X.N[j]?).getD Str.empty
theorem js_ok {X : Cx} {js : List Nat} (h : (js.all fun j => decide (j < X.N.length)) = true) : ∀ j ∈ js, ∃ x, X.N[j]? = some x := fun j hj => by
  have := of_decide_eq_true (List.all_eq_true.mp h j hj)
  exact ⟨X.N[j], List.getElem?_eq_getElem this⟩

/-- the block begins: its frame is laid at C -/
theorem Inv.block {scope : Scope} {own : List Str} {js : List Nat} {fp : List Addr} {h' : Heap} {t' : Nat} {m : Str → Option Value} (I : Inv X pins σ H s) (S : CScope own (capN X js) scope X.env.scope) (hj : ∀ j ∈ js, ∃ x, X.N[j]? = some x)
    (hf : ∀ b ∈ fp, FpOk X pins H b) (hfo : ∀ b ∈ fp, ∃ o, s.heap.get? b = some o) (hn : h'.Ns s.heap.objs.size m) (hk : ∀ b o, s.heap.get? b = some o → h'.get? b = some o) :
    Inv (cxC X scope (own ++ capN X js) s.heap.objs.size fp s H) pins (cSt own.length js σ) H { s with heap := h', toks := t' } := by
  have hfr : ∀ y ∈ scope.names, y.2 = .free → ∃ c, X.env.cells.lookup y.1 = some c := fun y hy e => I.ok.has y.1 (S.fr y hy e)
  have hcl : ∀ x c, (clOf X.env.cells scope.names []).lookup x = some c → X.env.cells.lookup x = some c := fun x c e => clOf_lookup scope.names [] hfr (fun d z => nomatch z) e
  have hlt : ∀ b o, s.heap.get? b = some o → b ≠ s.heap.objs.size := fun b o e => Nat.ne_of_lt (Heap.lt_size e)
  have nstk : ∀ b, b ≠ X.env.locals → b ∉ X.fs → b ∉ frs X.stack := fun b h1 h2 hb => (List.mem_cons.mp (I.stkSub b hb)).elim h1 h2
  have hrl : ∀ x, (relabel scope X.env).names.lookup x = (scope.names.lookup x).map fun k => if (k == NameKind.free && X.env.scope.kind == .function && X.env.kindOf x == some .cell) then NameKind.cell else k := fun x => relab_lookup x scope.names
  refine ⟨⟨I.ok.mod, S.kind, I.ok.glob, I.ok.blt, Nat.le_refl _, fun x y c h1 h2 => I.ok.inj x y c (hcl x c h1) (hcl y c h2), fun x hx => ?_, (fun x c z => nomatch z), I.ok.hd, I.ok.frames, .inl rfl, fun b hb => ?_, I.bs, Nat.le_trans I.ok.bsz I.sz, fun b o e hb => ?_, fun b hb => ?_, I.stack, I.stkFree⟩,
    rfl, I.bare, Un.kept hk, ⟨m, hn, fun i x v h1 h2 h3 => ?_⟩, fun x c e => ?_, I.hok.fresh (Nat.le_refl _), fun x c e => I.freeC x c (hcl x c e), fun p hp => ?_, I.hok.kept hk, ?_⟩
  · have hx' : (relabel scope X.env).names.lookup x = some .cell ∨ (relabel scope X.env).names.lookup x = some .free := hx
    rw [hrl] at hx'
    cases e : scope.names.lookup x with
    | none => rw [e] at hx'; rcases hx' with z | z <;> cases z
    | some k =>
      have hm : (x, k) ∈ scope.names := PySem.mem_of_lookup e
      have hkf : k = .free := by
        rw [e] at hx'
        cases k with
        | free => rfl
        | cell => exact absurd rfl (S.nocell _ hm)
        | _ => exfalso; revert hx'; simp
      subst hkf
      exact Option.isSome_iff_exists.mp (clOf_has scope.names [] hm)
  · obtain ⟨o, e⟩ := hfo b hb
    obtain ⟨_, _, _, _, f4, _⟩ := hf b hb
    exact ⟨hlt b o e, fun x c z => f4 x c (hcl x c z)⟩
  · obtain ⟨_, _, _, f3, _⟩ := hf b hb
    rcases f3 with z | z
    · exact I.ok.noex b o e z
    · exact absurd (Nat.lt_of_lt_of_le (Heap.lt_size (I.ok.bs b o e).1) z) (Nat.lt_irrefl _)
  · obtain ⟨_, f1, f2, _⟩ := hf b hb
    exact nstk b f1 f2
  · -- a captured name
    have h1' : (own ++ capN X js)[i]? = some x := h1
    have hi : own.length ≤ i := by
      rcases Nat.lt_or_ge i own.length with z | z
      · exfalso
        unfold cSt at h2
        rw [List.getElem?_append_left (by simpa using z), List.getElem?_replicate] at h2
        split at h2 <;> cases h2
      · exact z
    rw [List.getElem?_append_right hi] at h1'
    unfold cSt at h2
    rw [List.getElem?_append_right (by simpa using hi), List.length_replicate, List.getElem?_map] at h2
    unfold capN at h1'
    rw [List.getElem?_map] at h1'
    cases ej : js[i - own.length]? with
    | none => rw [ej] at h2; cases h2
    | some j =>
      rw [ej] at h1' h2
      obtain ⟨y, ey⟩ := hj j (List.mem_of_getElem? ej)
      have exy : y = x := by
        have z : some ((X.N[j]?).getD Str.empty) = some x := h1'
        rw [ey] at z
        exact Option.some.inj z
      subst exy
      have es : σ[j]? = some (some v) := by
        have z : some ((σ[j]?).join) = some (some v) := h2
        cases q : σ[j]? with
        | none => rw [q] at z; cases z
        | some o => rw [q] at z; cases o with
          | none => cases z
          | some v' => cases z; rfl
      have hcap : y ∈ capN X js := List.mem_map.mpr ⟨j, List.mem_of_getElem? ej, by rw [ey]; rfl⟩
      have hfree : scope.names.lookup y = some .free := S.cap y hcap
      have hm : (y, NameKind.free) ∈ scope.names := PySem.mem_of_lookup hfree
      have ho := S.fr _ hm rfl
      obtain ⟨m0, hn0, hl0⟩ := I.loc
      obtain ⟨u, r, l⟩ := hl0 j y v ey es (ho.elim (fun z => .inr (.inl z)) fun z => .inr (.inr z))
      refine ⟨u, r, .inr ⟨?_, ?_⟩⟩
      · show (relabel scope X.env).names.lookup y = _ ∨ (relabel scope X.env).names.lookup y = _
        rw [hrl, hfree, Option.map_some]
        by_cases hcc : (NameKind.free == NameKind.free && X.env.scope.kind == .function && X.env.kindOf y == some .cell) = true
        · rw [if_pos hcc]; exact .inl rfl
        · rw [if_neg hcc]; exact .inr rfl
      · rcases l with ⟨k, _⟩ | ⟨_, c, e, z⟩
        · have k' : X.env.scope.names.lookup y = some .local := k
          rcases ho with z | z <;> (rw [k'] at z; cases z)
        · obtain ⟨c', e'⟩ := Option.isSome_iff_exists.mp (clOf_has (cells := X.env.cells) scope.names [] hm)
          have := hcl y c' e'
          rw [e] at this
          cases this
          refine ⟨c, e', ?_⟩
          obtain ⟨oc, ho', hd⟩ := z
          exact ⟨oc, hk c oc ho', hd⟩
  · obtain ⟨v, o, ho, hd⟩ := I.cell x c (hcl x c e)
    exact ⟨v, o, hk c o ho, hd⟩
  · obtain ⟨e, n, ne, nf, d⟩ := I.pin p hp
    exact ⟨hk _ _ e, n, hlt _ _ e, nstk p.1 ne nf, d⟩
  · unfold cSt
    show _ = (own ++ capN X js).length
    simp

/-- the block is left: its frame's object may have changed -/
theorem Inv.unblock {scope : Scope} {N' : List Str} {fp : List Addr} {σb : St} {H' : Hp} {s' : Shared} {h' : Heap} (I : Inv X pins σ H s) (hf : ∀ b ∈ fp, FpOk X pins H b)
    (B : Inv (cxC X scope N' s.heap.objs.size fp s H) pins σb H' s') (hs : Heap.SameBut s.heap.objs.size s'.heap h') : Inv X pins σ H' { s' with heap := h' } := by
  have hlt : ∀ b o, s.heap.get? b = some o → b ≠ s.heap.objs.size := fun b o e => Nat.ne_of_lt (Heap.lt_size e)
  have hu : Un (frs X.stack) fp H H' s.heap s'.heap := B.base
  have hfree : H' s.heap.objs.size = none := B.free
  refine I.call' (s' := { s' with heap := h' }) (ch := fp) B.os ⟨fun b o e n hb hx => ?_, fun b o e n hb hx => ?_, hu.free, fun b o e hx => ?_, hu.tups, hu.frzs, hu.tbls⟩ (fun b u e => ?_) B.bare fun b hb => ?_
  · exact (hs.2 b (hlt b o e)).trans (hu.keep b o e n hb hx)
  · obtain ⟨sl, z⟩ := hu.slot b o e n hb hx
    exact ⟨sl, (hs.2 b (hlt b o e)).trans z⟩
  · obtain ⟨o', z⟩ := hu.there b o e hx
    exact ⟨o', (hs.2 b (hlt b o e)).trans z⟩
  · refine (B.hok b u e).stay (fun c v hc q => (hs.2 c ?_).trans q) (fun _ q => q) fun _ _ q => q
    rintro rfl
    rcases hc with z | z
    · rw [← z, hfree] at e; cases e
    · rw [hfree] at z; cases z
  · obtain ⟨_, f1, f2, f3, f4, f5⟩ := hf b hb
    exact ⟨f3, f1, f4, f5⟩
end

section
variable {X : Cx} {elt tg iter : Expr} {ifs : List Expr} {scope : Scope} {pos : Pos} {own : List Str} {js : List Nat} {wi : TI} {g : TG} {tc : TT} {te : TE}

theorem comp_core (hc : X.calm = true) (S : CScope own (capN X js) scope X.env.scope) (hj : ∀ j ∈ js, ∃ x, X.N[j]? = some x) (hi : PI X tg iter wi)
    (hg : ∀ C fp s H, PG (cxC X scope (own ++ capN X js) C fp s H) tg g) (ht : ∀ C fp s H, PF (cxC X scope (own ++ capN X js) C fp s H) ifs tc) (he : ∀ C fp s H, PE (cxC X scope (own ++ capN X js) C fp s H) elt te)
    {pins : List (Addr × Obj)} {σ : St} {H : Hp} {s : Shared} {Q : VK} (I : Inv X pins σ H s) (h : tComp own.length js wi g tc te σ H Q) {RR : Value → Addr → Result → Shared → Prop}
    (hRR : ∀ D C s' m H', s'.heap.Ns C m → H' C = none → C ≠ X.env.locals → C ∉ X.fs → (∀ x c, X.env.cells.lookup x = some c → c ≠ C) → X.s₀.heap.objs.size ≤ C → (∀ p ∈ X.pn ++ pins, p.1 ≠ C) → (∀ h', Heap.SameBut C s'.heap h' → Inv X pins σ H' { s' with heap := h' }) → Q (.ref D) H' → RR (.ref D) C (.ok .next) s') :
    wpAny (model X.prog X.w) X.A (eval iter X.env) (fun x s1 => wpAny (model X.prog X.w) X.A (pyIter x) (fun it s2 => wpAny (model X.prog X.w) X.A (newList []) (fun acc s3 =>
      wpAny (model X.prog X.w) X.A (newFunctionEnv scope X.env.globals (clOf X.env.cells scope.names []) [] X.env.qual none .none (some X.env)) (fun cenv s4 =>
        codeAny (model X.prog X.w) X.A (.compStart (.ListComp elt [⟨tg, iter, ifs, 0⟩] scope pos) 0 it acc { cenv with scope := relabel scope X.env }) (RR acc cenv.locals) s4) X.xe s3) X.xe s2) X.xe s1) X.xe s := by
  refine thn (hi pins s σ H _ I h) fun v s1 h1 => thn h1 fun itv s2 h2 => ?_
  obtain ⟨it, fp, tn, J, H2, e, I2, T, st2, f2, hq⟩ := h2
  subst e
  refine wpAny_newList ?_ (by simp)
  have I3 := I2.lnew (t' := s2.toks) (ys := []) (its := []) .nil (by simp)
  have hDn : H2 s2.heap.objs.size = none := I2.fresh
  generalize hD : s2.heap.objs.size = D at I3 hDn ⊢
  generalize hH3 : upd H2 D (.lst []) = H3 at I3
  generalize hs3 : ({ s2 with heap := s2.heap.push { cls := .type "list", data := .seq ([] : List Value).toArray }, toks := s2.toks } : Shared) = s3 at I3
  have k3 : ∀ b o, s2.heap.get? b = some o → s3.heap.get? b = some o := fun b o e => by rw [← hs3]; exact Heap.get?_push_of_some _ e
  have st3 : tn 0 s3.heap := T.keep _ _ _ st2 fun b _ o e => k3 b o e
  have fo2 : ∀ b ∈ fp, ∃ o, s2.heap.get? b = some o := fun b hb => (T.obj _ _ st2 b hb).imp fun _ z => z.1
  have neD : ∀ b ∈ fp, b ≠ D := fun b hb => by
    obtain ⟨o, e⟩ := fo2 b hb
    rw [← hD]
    exact Nat.ne_of_lt (Heap.lt_size e)
  have f3 : ∀ b ∈ fp, FpOk X pins H3 b := fun b hb => by
    obtain ⟨a0, a1⟩ := f2 b hb
    exact ⟨by rw [← hH3, upd_ne (neD b hb)]; exact a0, a1⟩
  have fo3 : ∀ b ∈ fp, ∃ o, s3.heap.get? b = some o := fun b hb => (fo2 b hb).imp fun o e => k3 b o e
  obtain ⟨W, ⟨m0, w0⟩, turn⟩ := hq D hDn
  rw [hH3] at w0
  refine wpAny_newFunctionEnv S.nocell (by intro y hy; simp at hy) (fun h4 hns4 hsb4 => ?_) S.kind
  have k4 : ∀ b o, s3.heap.get? b = some o → h4.get? b = some o := fun b o e => hsb4.extBut b o (Nat.ne_of_lt (Heap.lt_size e)) (Heap.get?_push_of_some _ e)
  have B4 := I3.block (t' := s3.toks + ([] : List (Str × Value)).length) S hj f3 fo3 hns4 k4
  have st4 : tn 0 h4 := T.keep _ _ _ st3 fun b _ o e => k4 b o e
  have f4 : ∀ b ∈ fp, FpOk (cxC X scope (own ++ capN X js) s3.heap.objs.size fp s3 H3) pins H3 b := fun b hb => by
    obtain ⟨a0, a1, a2, a3, a4, a5⟩ := f3 b hb
    obtain ⟨o, e⟩ := fo3 b hb
    exact ⟨a0, (B4.ok.exf b hb).1, B4.ok.exfs b hb, .inl hb, (B4.ok.exf b hb).2, a5⟩
  have nL : s3.heap.objs.size ≠ X.env.locals := Nat.ne_of_gt I3.lt
  have nF : s3.heap.objs.size ∉ X.fs := I3.nofs (Nat.le_refl _)
  have nC : ∀ x c, X.env.cells.lookup x = some c → c ≠ s3.heap.objs.size := fun x c e => by
    obtain ⟨_, o, ho, _⟩ := I3.cell x c e
    exact Nat.ne_of_lt (Heap.lt_size ho)
  -- the loop
  have loop : ∀ s5 : Shared, s5 = { s3 with heap := h4, toks := s3.toks + ([] : List (Str × Value)).length } →
      codeAny (model X.prog X.w) X.A (.compLoop (.ListComp elt [⟨tg, iter, ifs, 0⟩] scope pos) 0 (.ref it) (.ref D) (compEnvC scope (clOf X.env.cells scope.names []) s3.heap.objs.size X.env)) (RR (.ref D) s3.heap.objs.size) s5 := by
    rintro s5 rfl
    have stat : ∀ {H' : Hp}, (∀ b ∈ fp, H' b = none) → ∀ b ∈ fp, FpOk (cxC X scope (own ++ capN X js) s3.heap.objs.size fp s3 H3) pins H' b := fun hn b hb => ⟨hn b hb, (f4 b hb).2⟩
    refine compLoop_gen rfl (fun n s' => ∃ i acc H', Inv (cxC X scope (own ++ capN X js) s3.heap.objs.size fp s3 H3) pins (cSt own.length js σ) H' s' ∧ tn i s'.heap ∧ (∀ b ∈ fp, H' b = none) ∧ W i n acc H') ?_ m0
      ⟨0, [], H3, B4, st4, fun b hb => (f3 b hb).1, w0⟩
    rintro n s6 ⟨i, acc, H6, B6, st6, fr6, w6⟩
    obtain ⟨hacc, way⟩ := turn i n acc H6 w6
    rcases way with ⟨stop, q⟩ | ⟨go, hz, Nx, hN, step⟩
    · refine thn (T.done (cxC X scope (own ++ capN X js) s3.heap.objs.size fp s3 H3) rfl rfl rfl hc i pins s6 _ H6 _ B6 (stat fr6) st6 stop) fun r s7 ⟨hr, B7⟩ => ?_
      subst hr
      obtain ⟨m, hm, _⟩ := B7.loc
      exact hRR D _ s7 m H6 hm B7.free nL nF nC I3.sz (fun p hp => Nat.ne_of_lt (Heap.lt_size (I3.pin p hp).1)) (fun h' hs => I3.unblock f3 B7 hs) q
    · refine thn (T.item (cxC X scope (own ++ capN X js) s3.heap.objs.size fp s3 H3) rfl rfl rfl hc i pins s6 _ H6 _ B6 (stat fr6) st6 go) fun r s7 ⟨u, hr, h7⟩ => ?_
      subst hr
      refine thn h7 fun _ s8 ⟨x, H8, B8, r8, y8, st8, fr8⟩ => ?_
      have B8' := B8.pinned (stat fr8) (T.obj _ _ st8)
      have away : ∀ {s9 : Shared} {σ9 : St} {H9 : Hp} {acc' : List V}, Inv (cxC X scope (own ++ capN X js) s3.heap.objs.size fp s3 H3) (pins ++ pinsAt fp s8.heap) σ9 H9 s9 → σ9.drop own.length = (cSt own.length js σ).drop own.length → Nx acc' H9 →
          ∃ m', m' < n ∧ ∃ i acc H', Inv (cxC X scope (own ++ capN X js) s3.heap.objs.size fp s3 H3) pins (cSt own.length js σ) H' s9 ∧ tn i s9.heap ∧ (∀ b ∈ fp, H' b = none) ∧ W i m' acc H' := fun {s9 σ9 H9 acc'} B9 hd nx => by
        obtain ⟨m', hm, w9⟩ := hN acc' H9 nx
        refine ⟨m', hm, i + 1, acc', H9, B9.unpinned.weak ?_ ?_, T.keep _ _ _ st8 fun b hb o e => (B9.pin (b, o) (List.mem_append_right _ (List.mem_append_right _ (mem_pinsAt hb e)))).1, fun b hb => ?_, w9⟩
        · rw [B9.len, B6.len]
        · intro k v hv
          unfold cSt at hv
          have hk : own.length ≤ k := by
            rcases Nat.lt_or_ge k own.length with z | z
            · exfalso
              rw [List.getElem?_append_left (by simpa using z), List.getElem?_replicate] at hv
              split at hv <;> cases hv
            · exact z
          have e1 : σ9[k]? = (σ9.drop own.length)[k - own.length]? := by rw [List.getElem?_drop]; congr 1; omega
          rw [e1, hd, List.getElem?_drop]
          have e2 : own.length + (k - own.length) = k := by omega
          rw [e2]
          exact hv
        · obtain ⟨o, e, d⟩ := T.obj _ _ st8 b hb
          exact (B9.pin (b, o) (List.mem_append_right _ (List.mem_append_right _ (mem_pinsAt hb e)))).2.1
      refine wpAny_mono (hg _ _ _ _ _ s8 _ H8 x u _ B8' r8 (step x H8 y8)) (fun _ s9 ⟨σ9, H9, B9, hd9, q9⟩ => ?_) fun _ _ f => f.elim
      refine wpAny_mono (ht _ _ _ _ _ s9 σ9 H9 _ B9 q9) (fun b s10 ⟨H10, B10, q10⟩ => ?_) fun _ _ f => f.elim
      cases b with
      | false =>
        rw [if_neg Bool.false_ne_true] at q10 ⊢
        exact away B10 hd9 q10.2
      | true =>
        rw [if_pos rfl] at q10 ⊢
        refine wpAny_mono (he _ _ _ _ _ s10 σ9 H10 _ B10 q10) (fun y s11 ⟨z, H11, B11, r11, q11⟩ => ?_) fun _ _ f => f.elim
        obtain ⟨hl11, nx⟩ := q11
        refine wpAny_mono (mt_append (X := cxC X scope (own ++ capN X js) s3.heap.objs.size fp s3 H3) _ s11 σ9 H11 (.ref D) [z] (.ref D) [y] (fun _ H12 => Nx (acc ++ [z]) H12) B11 rfl (.cons r11 .nil) ⟨D, acc, z, rfl, rfl, hl11, hz, nx⟩) (fun _ s12 ⟨_, H12, B12, _, q12⟩ => ?_) fun _ _ f => f.elim
        exact away B12 hd9 q12
  exact codeAny_compStart_list (loop _ rfl) (T.self X.A 0 _ _ _ st4 (loop _ rfl))

/-- a list comprehension -/
theorem pe_comp (own caps : List Str) (js : List Nat) (hc : X.calm = true) {osc : Scope} (S : CScope own caps scope osc) (hi : PI X tg iter wi)
    (hg : ∀ C fp s H, PG (cxC X scope (own ++ caps) C fp s H) tg g) (ht : ∀ C fp s H, PF (cxC X scope (own ++ caps) C fp s H) ifs tc) (he : ∀ C fp s H, PE (cxC X scope (own ++ caps) C fp s H) elt te)
    (ho : X.env.scope = osc := by rfl) (hcp : capN X js = caps := by rfl) (hj : (js.all fun j => decide (j < X.N.length)) = true := by rfl)
    (hs : ∀ x, foldedSetIterable iter X.env x = pure x := by intro _; rfl) : PE X (.ListComp elt [⟨tg, iter, ifs, 0⟩] scope pos) (tComp own.length js wi g tc te) := by
  subst ho
  subst hcp
  intro pins s σ H Q I h
  have hfr : ∀ y ∈ scope.names, y.2 = .free → ∃ c, X.env.cells.lookup y.1 = some c := fun y hy e => I.ok.has y.1 (S.fr y hy e)
  rw [eval_ListComp]
  refine wpAny_comprehension_free (use := none) rfl hs (closureFor_eq hfr) S.kind S.loc ?_
  refine comp_core hc S (js_ok hj) hi hg ht he I h (RR := fun acc C => compPost (model X.prog X.w) X.A X.xe none (EP X pins σ Q) acc C) ?_
  intro D C s' m H' hn hf h1 h2 h3 h4 h5 hI hq
  exact ⟨m, hn, fun h' hs' => ⟨.ref D, H', hI h' hs', rfl, hq⟩⟩

end
end L2
/-! Data and its equality, any and all, isinstance, slices of tuples, own defs in short. -/
namespace L2
open PySem PySem.Spec PyProof.Rows

/-! ### data -/
mutual
inductive Has (K : PySem.W.Frag) (H : Hp) : V → PyData → Prop
  | non : Has K H .non .none
  | bl (b : Bool) : Has K H (.bl b) (.bool b)
  | int (i : Int) : Has K H (.int i) (.int i)
  | str (x : Str) : Has K H (.str x) (.str x)
  | lst {a : Addr} {xs : List V} {ds : List PyData} : SqL K H a xs → HasAll K H xs ds → Has K H (.ref a) (.list ds)
  | tup {a : Addr} {xs : List V} {ds : List PyData} : SqT K H a xs → HasAll K H xs ds → Has K H (.ref a) (.tuple ds)
inductive HasAll (K : PySem.W.Frag) (H : Hp) : List V → List PyData → Prop
  | nil : HasAll K H [] []
  | cons {x : V} {xs : List V} {d : PyData} {ds : List PyData} : Has K H x d → HasAll K H xs ds → HasAll K H (x :: xs) (d :: ds)
end

section
variable {X : Cx} {pins : List (Addr × Obj)} {σ : St} {H : Hp} {s : Shared}
mutual
theorem Has.reads (I : Inv X pins σ H s) : ∀ {x : V} {d : PyData} {u : Value}, Has X.K H x d → RelV x u → ∃ as, Reads s.heap u d as
  | _, _, _, .non, r => by cases r; exact ⟨_, .none⟩
  | _, _, _, .bl b, r => by cases r; exact ⟨_, .bool b⟩
  | _, _, _, .int i, r => by obtain ⟨t, rfl⟩ := r; exact ⟨_, .int i t⟩
  | _, _, _, .str x, r => by obtain ⟨t, rfl⟩ := r; exact ⟨_, .str x t⟩
  | _, _, _, .lst h hs, r => by
    cases r
    obtain ⟨its, rv, ⟨o, n, ho, hc, hd, hs'⟩, hz⟩ := I.list h
    obtain ⟨as, ra⟩ := HasAll.reads I hs rv
    exact ⟨_, .list ho hc hs' ra⟩
  | _, _, _, .tup h hs, r => by
    cases r
    obtain ⟨its, rv, ⟨o, ho, hc, n, hs'⟩, hz⟩ := I.tuple h
    obtain ⟨as, ra⟩ := HasAll.reads I hs rv
    exact ⟨_, .tuple ho hc hs' ra⟩
theorem HasAll.reads (I : Inv X pins σ H s) : ∀ {xs : List V} {ds : List PyData} {us : List Value}, HasAll X.K H xs ds → Vals xs us → ∃ as, ReadsAll s.heap us ds as
  | _, _, _, .nil, r => by cases r; exact ⟨_, .nil⟩
  | _, _, _, .cons h hs, .cons r rs => by
    obtain ⟨as, ra⟩ := Has.reads I h r
    obtain ⟨bs, rb⟩ := HasAll.reads I hs rs
    exact ⟨_, .cons ra rb⟩
end
end

def rEqD (K : PySem.W.Frag) : R2 := fun x y H Q => ∃ d e, Has K H x d ∧ Has K H y e ∧ SeqAt.shaped d = true ∧ SeqAt.shaped e = true ∧ Q (.bl (PyData.eqv d e)) H
def rNeD (K : PySem.W.Frag) : R2 := fun x y H Q => ∃ d e, Has K H x d ∧ Has K H y e ∧ SeqAt.shaped d = true ∧ SeqAt.shaped e = true ∧ Q (.bl (!PyData.eqv d e)) H
section
variable {X : Cx}
theorem op_eqD (hu : X.A.units + 64 < cLine) : OpR X (compareOp .Eq) (rEqD X.K) := by
  intro pins s σ H x y v u Q I rx ry h
  obtain ⟨d, e, hd, he, sd, se, q⟩ := h
  obtain ⟨as, ra⟩ := hd.reads I rx
  obtain ⟨bs, rb⟩ := he.reads I ry
  exact SeqAt.compareEq_reads ra rb (SeqAt.canLay_of_shaped sd) (SeqAt.canLay_of_shaped se) (SeqAt.room_of_shaped sd hu) ⟨.bl _, H, I, rfl, q⟩
theorem op_neD (hu : X.A.units + 64 < cLine) : OpR X (compareOp .NotEq) (rNeD X.K) := by
  intro pins s σ H x y v u Q I rx ry h
  obtain ⟨d, e, hd, he, sd, se, q⟩ := h
  obtain ⟨as, ra⟩ := hd.reads I rx
  obtain ⟨bs, rb⟩ := he.reads I ry
  exact SeqAt.compareNe_reads ra rb (SeqAt.canLay_of_shaped sd) (SeqAt.canLay_of_shaped se) (SeqAt.room_of_shaped sd hu) ⟨.bl _, H, I, rfl, q⟩

/-! ### any, all of a list of truths -/
/-! ### isinstance -/
def clsV : V → Value
  | .ty n => .type n
  | .ref a => .ref a
  | _ => .none
theorem call_isinst : CallR X (.builtin "isinstance") (fun xs H Q => ∃ x c t b, xs = [x, c] ∧ (∃ n, c = .ty n) ∧ TyOf X.K H x t ∧ PySem.W.kitOne X.K t (clsV c) = some b ∧ Q (.bl b) H) := by
  intro pins s σ H xs us Q I r h
  obtain ⟨x, c, t, b, rfl, ⟨n, rfl⟩, ty, e, q⟩ := h
  obtain ⟨u, w', rfl, rx, rc⟩ := vals2 r
  cases rc
  exact isinst_ok I rx ty e fun tk => ⟨.bl b, H, I.tok _, rfl, q⟩
end
end L2

/-! ### a def of the text, and its promise, in short -/
namespace L2
open PySem PySem.Spec PyProof.Rows
/-- the def x stands at the top as st -/
def Def (K : PySem.W.Frag) (mg : Str → Option Value) (x : Str) (st : Stmt) : Prop := ∃ f fd, mg x = some (.ref f) ∧ Fun K x x st f fd
/-- the def x keeps the promise sp -/
def Own (P : Program) (w : World) (K : PySem.W.Frag) (mg : Str → Option Value) (base : Heap) (k : Nat) (x : Str) (ps : List Str) (sp : Sp) : Prop :=
  ∃ f fd, mg x = some (.ref f) ∧ PySem.W.keepIn K (.ref f) = true ∧ Binds K fd ps [] ∧ FnOk P w K mg base CX0 k f fd ps sp
theorem Def.own {P : Program} {w : World} {K : PySem.W.Frag} {mg : Str → Option Value} {base : Heap} {x : Str} {st : Stmt} {N ps : List Str} {k : Nat} {sp : Sp} (D : Def K mg x st) (S : FnScope N ps (defScope st))
    (hb : ∀ (kV doc pm : Value) (an : Option Addr) (cdv ct : Value) (us : List Value), us.length = ps.length → bindArgs (PySem.W.fnOf x x (defArgs st) (defBody st) (defScope st) .none kV doc pm an cdv ct) ⟨us, []⟩ = pure (ps.zip us))
    (len : ∀ vs H Q E, sp vs H Q E → vs.length = ps.length)
    (hbody : ∀ (f : Addr) (cdv : Value) (A : Around) (outer : List Env) (s : Shared) (H : Hp) (vs : List V) (Q : VK) (E : XK), Room k (A.deeper (envOfC x (defScope st) s.heap.objs.size f cdv)) → sp vs H Q E →
      ∃ t, PSs (cxOf CX0 P w K mg base N x (defScope st) f cdv A outer s H E).nox (defBody st) t ∧ t { nx := fun _ H' => Q .non H', rt := Q } (start N vs) H) : Own P w K mg base (k + 1) x ps sp := by
  obtain ⟨f, fd, hm, F⟩ := D
  exact ⟨f, fd, hm, F.kp, F.binds hb, F.ok S len (hbody f)⟩
theorem def_mk {K : PySem.W.Frag} {h : Heap} {mg : Str → Option Value} (X : K.In h) (G : h.Ns mainGlobals mg) {x : Str} {st : Stmt} {f : Addr} {oc : Value} {od an : Option Addr} {osl : Array (Option Value)} {kV doc pm cdv ct : Value}
    (a : PySem.W.nsIn K mainGlobals x = some (some (.ref f)))
    (l : K.lookup f = some ⟨oc, od, .func (PySem.W.fnOf x x (defArgs st) (defBody st) (defScope st) .none kV doc pm an cdv ct), osl⟩) (c : PySem.W.codeIn K cdv x = true) (k : PySem.W.keepIn K (.ref f) = true) : Def K mg x st :=
  ⟨f, _, PySem.W.mg_of X G a, fun_mk l c k⟩
section
variable {X : Cx} {j k : Nat} {x : Str} {ps : List Str} {sp : Sp} {p pos : Pos} {e : Expr} {es : List Expr} {t : TA}
theorem pe_fn (F : Own X.prog X.w X.K X.mg X.base j x ps sp) (hr : Room k X.A) (ha : PA X (e :: es) t) (hk : j ≤ k := by decide) (hg : Gl X x := by rfl)
    (hdb : (x == ("__debug__" : Str)) = false := by decide) (he : starEach (e :: es) X.env = (false, eval e X.env) :: starEach es X.env := by rfl) (hpl : (backTo pos (starEach es X.env)).any (·.1) = false := by rfl) :
    PE X (.Call (.Name x p) (e :: es) [] pos) (tCall sp [] E0 t) := by
  obtain ⟨f, fd, hm, kp, hb, F⟩ := F
  exact pe_call F (hr.mono hk) hg hm kp hb .nil pass0 ha hdb he hpl
end
/-- the names of built-ins that no def of the text takes -/
def Blt (mg : Str → Option Value) : Prop := ∀ x : Str, x ∈ (["len", "any", "all", "max", "min", "isinstance", "list", "tuple", "int", "bool", "str", "dict", "range"] : List Str) → mg x = none
theorem blt_mk {K : PySem.W.Frag} {h : Heap} {mg : Str → Option Value} (X : K.In h) (G : h.Ns mainGlobals mg) (z0 : PySem.W.nsIn K mainGlobals "len" = some none) (z1 : PySem.W.nsIn K mainGlobals "any" = some none) (z2 : PySem.W.nsIn K mainGlobals "all" = some none) (z3 : PySem.W.nsIn K mainGlobals "max" = some none) (z4 : PySem.W.nsIn K mainGlobals "min" = some none) (z5 : PySem.W.nsIn K mainGlobals "isinstance" = some none) (z6 : PySem.W.nsIn K mainGlobals "list" = some none) (z7 : PySem.W.nsIn K mainGlobals "tuple" = some none) (z8 : PySem.W.nsIn K mainGlobals "int" = some none) (z9 : PySem.W.nsIn K mainGlobals "bool" = some none) (z10 : PySem.W.nsIn K mainGlobals "str" = some none) (z11 : PySem.W.nsIn K mainGlobals "dict" = some none) (z12 : PySem.W.nsIn K mainGlobals "range" = some none) : Blt mg := by
  intro x hx
  simp only [List.mem_cons, List.not_mem_nil, or_false] at hx
  rcases hx with rfl | rfl | rfl | rfl | rfl | rfl | rfl | rfl | rfl | rfl | rfl | rfl | rfl
  · exact PySem.W.mg_none_of X G z0
  · exact PySem.W.mg_none_of X G z1
  · exact PySem.W.mg_none_of X G z2
  · exact PySem.W.mg_none_of X G z3
  · exact PySem.W.mg_none_of X G z4
  · exact PySem.W.mg_none_of X G z5
  · exact PySem.W.mg_none_of X G z6
  · exact PySem.W.mg_none_of X G z7
  · exact PySem.W.mg_none_of X G z8
  · exact PySem.W.mg_none_of X G z9
  · exact PySem.W.mg_none_of X G z10
  · exact PySem.W.mg_none_of X G z11
  · exact PySem.W.mg_none_of X G z12
theorem bt_len : bootBuiltins "len" = some (.builtin "len") := by decide +kernel
theorem bt_isinstance : bootBuiltins "isinstance" = some (.builtin "isinstance") := by decide +kernel
theorem bt_list : bootBuiltins "list" = some (.type "list") := by decide +kernel
theorem bt_tuple : bootBuiltins "tuple" = some (.type "tuple") := by decide +kernel
theorem bt_int : bootBuiltins "int" = some (.type "int") := by decide +kernel
theorem bt_bool : bootBuiltins "bool" = some (.type "bool") := by decide +kernel
theorem bt_dict : bootBuiltins "dict" = some (.type "dict") := by decide +kernel
end L2

namespace HT
open PySem PySem.Spec PyProof.Rows
section
variable {prog : Program} {w : World} {A : Around} {E : Value → Shared → Prop} {s : Shared}
end
end HT

namespace L2
open PySem PySem.Spec PyProof.Rows
section
variable {X : Cx}
end
end L2
/-! The rules that read through the fragment, with the fragment named: so that a block's terms do not hang on the block's context. -/
namespace L2
open PySem PySem.Spec PyProof.Rows
section
variable {X : Cx} (K : PySem.W.Frag)
theorem ix_listK (h : X.K = K := by rfl) : IxR X (rIxL K) := by subst h; exact ix_list
theorem sl_listK (h : X.K = K := by rfl) : SlR X (rSlL K) := by subst h; exact sl_list
def rLen (K : PySem.W.Frag) : List V → Hp → VK → Prop := fun xs H Q => ∃ p ys, xs = [.ref p] ∧ (SqL K H p ys ∨ SqT K H p ys) ∧ Q (.int ys.length) H
theorem call_lenK (h : X.K = K := by rfl) : CallR X (.builtin "len") (rLen K) := by subst h; exact call_len_seq
def rListOf (K : PySem.W.Frag) : List V → Hp → VK → Prop := fun xs H Q => ∃ p ys, xs = [.ref p] ∧ (SqL K H p ys ∨ SqT K H p ys) ∧ ∀ l, H l = none → Q (.ref l) (upd H l (.lst ys))
def rTupOf (K : PySem.W.Frag) : List V → Hp → VK → Prop := fun xs H Q => ∃ p ys, xs = [.ref p] ∧ ((SqL K H p ys ∧ ∀ l, H l = none → Q (.ref l) (upd H l (.tup ys))) ∨ (SqT K H p ys ∧ Q (.ref p) H))
theorem call_tupleK (h : X.K = K := by rfl) : CallR X (.type "tuple") (rTupOf K) := by subst h; exact call_tuple_of
def rAny (K : PySem.W.Frag) : List V → Hp → VK → Prop := fun xs H Q => ∃ (p : Addr) (bs : List Bool), xs = [.ref p] ∧ SqL K H p (bs.map V.bl) ∧ Q (.bl (bs.any id)) H
def rAll (K : PySem.W.Frag) : List V → Hp → VK → Prop := fun xs H Q => ∃ (p : Addr) (bs : List Bool), xs = [.ref p] ∧ SqL K H p (bs.map V.bl) ∧ Q (.bl (bs.all id)) H
def rIsI (K : PySem.W.Frag) : List V → Hp → VK → Prop := fun xs H Q => ∃ x c t b, xs = [x, c] ∧ (∃ n, c = .ty n) ∧ TyOf K H x t ∧ PySem.W.kitOne K t (clsV c) = some b ∧ Q (.bl b) H
theorem call_isiK (h : X.K = K := by rfl) : CallR X (.builtin "isinstance") (rIsI K) := by subst h; exact call_isinst
theorem pi_listK {tg l : Expr} {tl : TE} (hl : PE X l tl) (h : X.K = K := by rfl) : PI X tg l (iList K tl) := by subst h; exact pi_list hl
theorem pi_tupK {tg l : Expr} {tl : TE} (hl : PE X l tl) (h : X.K = K := by rfl) : PI X tg l (iTup K tl) := by subst h; exact pi_tup hl
def tTru (K : PySem.W.Frag) (ta : TE) : TT := fun σ H Q => ta σ H fun x H' => ∃ k, TruV K x H' k ∧ Q k H'
theorem pt_truK {a : Expr} {ta : TE} (ha : PE X a ta) (he : ∀ whole, isTrue a X.env whole = (do let v ← whole; standAt a.pos; holding [v] (truthy v)) := by intro _; rfl) (h : X.K = K := by rfl) : PT X a (tTru K ta) := by
  subst h; exact pt_truth ha he
theorem pe_fldK {e : Expr} {ta : TE} {f : Str} {pos : Pos} (he : PE X e ta) (hb : attributeBase e f X.env (eval e X.env) = eval e X.env := by rfl) (h : X.K = K := by rfl) : PE X (.Attribute e f pos) (tFld K ta f) := by subst h; exact pe_fld he hb
end
end L2
/-! The forms of a comprehension that one uses. -/
namespace L2
open PySem PySem.Spec PyProof.Rows

/-- what tComp asks of an iterator -/
def CompW (n : Nat) (js : List Nat) (g : TG) (tc : TT) (te : TE) (σ : St) (Q : VK) (J : It) (H1 : Hp) : Prop :=
  ∀ D, H1 D = none → ∃ W : Nat → Nat → List V → Hp → Prop, (∃ m, W 0 m [] (upd H1 D (.lst []))) ∧ ∀ i m acc H, W i m acc H →
    H D = some (.lst acc) ∧ ((J.stop i H ∧ Q (.ref D) H) ∨ (J.go i H ∧ acc.length < sizeLine ∧ ∃ Nx : List V → Hp → Prop, (∀ acc' H', Nx acc' H' → ∃ m', m' < m ∧ W (i + 1) m' acc' H') ∧
      ∀ x H', J.yld i H x H' → g x (cSt n js σ) H' fun σ2 H2 => σ2.drop n = (cSt n js σ).drop n ∧ tc σ2 H2 fun b H3 => if b = true then te σ2 H3 fun v H4 => H4 D = some (.lst acc) ∧ Nx (acc ++ [v]) (upd H4 D (.lst (acc ++ [v]))) else H3 D = some (.lst acc) ∧ Nx acc H3))
section
variable {n : Nat} {js : List Nat} {g : TG} {tc : TT} {te : TE} {σ : St} {Q : VK} {H1 : Hp}
theorem Same.upd_new {H : Hp} {a : Addr} {o : HO} (h : H a = none) : Same H (upd H a o) := fun b u e => by
  rw [upd_ne (ne_of_none e h)]
  exact e
theorem Same.upd {H0 H : Hp} {a : Addr} {o : HO} (e : Same H0 H) (h : H0 a = none) : Same H0 (upd H a o) := fun b u q => by
  rw [upd_ne (ne_of_none q h)]
  exact e b u q
end

/-! ### readings in short, for simp -/
theorem cxOf_K {CX : CXT} {P : Program} {w : World} {K : PySem.W.Frag} {mg : Str → Option Value} {base : Heap} {N : List Str} {qual : Str} {scope : Scope} {f : Addr} {cd : Value} {A : Around} {outer : List Env} {s : Shared} {H : Hp} {E : XK} :
    (cxOf CX P w K mg base N qual scope f cd A outer s H E).K = K := rfl
theorem cxC_K {X : Cx} {scope : Scope} {N' : List Str} {C : Addr} {fp : List Addr} {s : Shared} {H : Hp} : (cxC X scope N' C fp s H).K = X.K := rfl
theorem upd_none {H : Hp} {p a : Addr} {o : HO} (h : upd H p o a = none) : a ≠ p ∧ H a = none := by
  unfold upd at h
  split at h
  · cases h
  · rename_i z; exact ⟨z, h⟩
section
variable {H : Hp} {Q : VK} {i j : Int} {b c : Bool} {x y : Str}
theorem rEq_ii : rEq (.int i) (.int j) H Q = Q (.bl (decide (i = j))) H := by simp [rEq, scal]
theorem rNe_ii : rNe (.int i) (.int j) H Q = Q (.bl (!decide (i = j))) H := by simp [rNe, scal]
theorem rEq_bb : rEq (.bl b) (.bl c) H Q = Q (.bl (decide (b = c))) H := by simp [rEq, scal]
theorem rNe_bb : rNe (.bl b) (.bl c) H Q = Q (.bl (!decide (b = c))) H := by simp [rNe, scal]
theorem atI_in {α : Type} {xs : List α} {k : Int} (h0 : 0 ≤ k) (h1 : k < xs.length) : ∃ v, v ∈ xs ∧ atI xs k = some v := by
  obtain ⟨n, rfl⟩ := Int.eq_ofNat_of_zero_le h0
  have hn : n < xs.length := by omega
  exact ⟨xs[n], List.getElem_mem hn, atI_nat (List.getElem?_eq_getElem hn)⟩
end
theorem truV_bl {K : PySem.W.Frag} {H : Hp} {b k : Bool} : TruV K (.bl b) H k = (k = b) := rfl
theorem clsV_ty {n : String} : clsV (.ty n) = .type n := rfl
/-- what tFor asks of an iterator -/
def ForW (g : TG) (tb : TS) (D : Ends) (σ : St) (J : It) (H1 : Hp) : Prop := ∃ W : Nat → Nat → St → Hp → Prop, (∃ m, W 0 m σ H1) ∧ ∀ i m σ H, W i m σ H →
  (J.stop i H ∧ D.nx σ H) ∨ (J.go i H ∧ ∃ N : St → Hp → Prop, (∀ σ' H', N σ' H' → ∃ m', m' < m ∧ W (i + 1) m' σ' H') ∧ ∀ x H', J.yld i H x H' → g x σ H' fun σ2 H2 => tb { D with nx := N, ct := N, bk := D.nx } σ2 H2)
theorem tFor_eq {wi : TI} {g : TG} {tb : TS} {D : Ends} {σ : St} {H : Hp} : tFor wi g tb D σ H = wi σ H fun J H1 => ForW g tb D σ J H1 := rfl
theorem tComp_eq {n : Nat} {js : List Nat} {wi : TI} {g : TG} {tc : TT} {te : TE} {σ : St} {H : Hp} {Q : VK} : tComp n js wi g tc te σ H Q = wi σ H fun J H1 => CompW n js g tc te σ Q J H1 := rfl
/-- what was just made -/
theorem new_same {H H' : Hp} {p : Addr} {o : HO} (h : upd H p o = H') (hp : H p = none) : Same H H' ∧ H' p = some o := by
  subst h
  exact ⟨Same.upd_new hp, upd_same⟩
end L2
/-! Lists of tuples of ints on the abstract heap. -/
namespace L2
open PySem PySem.Spec PyProof.Rows
def TupI (H : Hp) (x : V) (d : List Int) : Prop := ∃ t, x = .ref t ∧ H t = some (.tup (d.map V.int))
abbrev DeedsX (H : Hp) (xs : List V) (ds : List (List Int)) : Prop := Paired (TupI H) xs ds
def DeedsAt (H : Hp) (a : Addr) (ds : List (List Int)) : Prop := ∃ xs, H a = some (.lst xs) ∧ DeedsX H xs ds
def dD (d : List Int) : PyData := .tuple (d.map PyData.int)
section
variable {H H' : Hp} {x : V} {d : List Int} {xs ys : List V} {ds es : List (List Int)} {a : Addr} {o : HO}
theorem TupI.same (e : Same H H') (h : TupI H x d) : TupI H' x d := let ⟨t, p, q⟩ := h; ⟨t, p, e _ _ q⟩
theorem TupI.upd (h : TupI H x d) (ha : ∀ zs, H a ≠ some (.tup zs)) : TupI (upd H a o) x d := by
  obtain ⟨t, p, q⟩ := h
  refine ⟨t, p, ?_⟩
  rw [upd_ne]
  · exact q
  · rintro rfl; exact ha _ q
theorem DeedsX.same (e : Same H H') (h : DeedsX H xs ds) : DeedsX H' xs ds := Paired.mapP h fun _ _ z => z.same e
theorem DeedsX.upd (h : DeedsX H xs ds) (ha : ∀ zs, H a ≠ some (.tup zs)) : DeedsX (upd H a o) xs ds := Paired.mapP h fun _ _ z => z.upd ha
theorem DeedsX.len (h : DeedsX H xs ds) : xs.length = ds.length := Paired.length h
theorem paired_get {α β : Type} {F : α → β → Prop} : ∀ {l1 : List α} {l2 : List β} {i : Nat} {x : α}, Paired F l1 l2 → l1[i]? = some x → ∃ y, l2[i]? = some y ∧ F x y
  | _, _, _, _, .nil, e => by simp at e
  | _, _, 0, _, .cons r _, e => by simp at e; subst e; exact ⟨_, rfl, r⟩
  | _, _, i + 1, x, .cons _ t, e => by
    obtain ⟨u, h1, h2⟩ := paired_get (i := i) (x := x) t (by simpa using e)
    exact ⟨u, by simpa using h1, h2⟩
theorem DeedsAt.same (e : Same H H') (h : DeedsAt H a ds) : DeedsAt H' a ds := let ⟨xs, p, q⟩ := h; ⟨xs, e _ _ p, q.same e⟩
theorem hasAll_ints {K : PySem.W.Frag} : ∀ d : List Int, HasAll K H (d.map V.int) (d.map PyData.int)
  | [] => .nil
  | i :: d => .cons (.int i) (hasAll_ints d)
theorem TupI.has {K : PySem.W.Frag} (h : TupI H x d) : Has K H x (dD d) := by
  obtain ⟨t, rfl, e⟩ := h
  exact .tup (SqT.of e) (hasAll_ints d)
theorem DeedsX.has {K : PySem.W.Frag} : ∀ {xs : List V} {ds : List (List Int)}, DeedsX H xs ds → HasAll K H xs (ds.map dD)
  | _, _, .nil => .nil
  | _, _, .cons r t => .cons r.has (DeedsX.has t)
theorem DeedsAt.has {K : PySem.W.Frag} (h : DeedsAt H a ds) : Has K H (.ref a) (.list (ds.map dD)) := let ⟨_, p, q⟩ := h; .lst (SqL.of p) q.has
/-! equality of such data -/
/-! cuts -/
theorem cutV_drop (xs : List V) {k : Int} (h : 0 ≤ k) : cutV xs (some k) none = xs.drop k.toNat := by
  obtain ⟨n, rfl⟩ := Int.eq_ofNat_of_zero_le h
  unfold cutV
  rw [HT.sIx_none, HT.sIx_nat, Int.toNat_natCast]
  rcases Nat.le_total n xs.length with z | z
  · rw [Nat.min_eq_left z, List.take_of_length_le (by rw [List.length_drop]; exact Nat.le_refl _)]
  · rw [Nat.min_eq_right z, List.drop_of_length_le (Nat.le_refl _), List.drop_of_length_le z, List.take_nil]
theorem cutV_map (d : List Int) (lo hi : Option Int) : ∃ e : List Int, cutV (d.map V.int) lo hi = e.map V.int := by
  unfold cutV
  exact ⟨(d.drop (HT.sIx (d.map V.int).length 0 lo)).take (HT.sIx (d.map V.int).length (d.map V.int).length hi - HT.sIx (d.map V.int).length 0 lo), by rw [List.map_take, List.map_drop]⟩
end
end L2
/-! Own classes in short; dicts with written keys; is with a truth. -/
namespace L2
open PySem PySem.Spec PyProof.Rows
/-- the method m of the class at C stands as st -/
def DefM (K : PySem.W.Frag) (C : Addr) (m qual : Str) (st : Stmt) : Prop := ∃ f fd, Meth K C m f ∧ Fun K m qual st f fd
/-- the class's __init__ stands as st, and the class can be made -/
def DefI (K : PySem.W.Frag) (C : Addr) (qual : Str) (st : Stmt) : Prop := ∃ f fd, Mk K C f ∧ Fun K "__init__" qual st f fd
def OwnM (P : Program) (w : World) (K : PySem.W.Frag) (mg : Str → Option Value) (base : Heap) (k : Nat) (C : Addr) (m : Str) (ps : List Str) (sp : Sp) : Prop :=
  ∃ f fd, Meth K C m f ∧ Binds K fd ps [] ∧ FnOk P w K mg base CX0 k f fd ps sp
def OwnI (P : Program) (w : World) (K : PySem.W.Frag) (mg : Str → Option Value) (base : Heap) (k : Nat) (C : Addr) (ps : List Str) (sp : Sp) : Prop :=
  ∃ f fd, Mk K C f ∧ Binds K fd ps [] ∧ FnOk P w K mg base CX0 k f fd ps sp
/-- the class x stands at C; none of it or above it has the names -/
structure ClsD (K : PySem.W.Frag) (mg : Str → Option Value) (x : Str) (C : Addr) (attrs : List Str) : Prop where
  mgC : mg x = some (.ref C)
  cl : Cls K C
  no : ∀ f ∈ attrs, NoAttr K C f
section
variable {P : Program} {w : World} {K : PySem.W.Frag} {mg : Str → Option Value} {base : Heap} {C : Addr} {m qual : Str} {st : Stmt} {N ps : List Str} {k : Nat} {sp : Sp}
theorem DefM.own (D : DefM K C m qual st) (S : FnScope N ps (defScope st))
    (hb : ∀ (kV doc pm : Value) (an : Option Addr) (cdv ct : Value) (us : List Value), us.length = ps.length → bindArgs (PySem.W.fnOf m qual (defArgs st) (defBody st) (defScope st) .none kV doc pm an cdv ct) ⟨us, []⟩ = pure (ps.zip us))
    (len : ∀ vs H Q E, sp vs H Q E → vs.length = ps.length)
    (hbody : ∀ (f : Addr) (cdv : Value) (A : Around) (outer : List Env) (s : Shared) (H : Hp) (vs : List V) (Q : VK) (E : XK), Room k (A.deeper (envOfC qual (defScope st) s.heap.objs.size f cdv)) → sp vs H Q E →
      ∃ t, PSs (cxOf CX0 P w K mg base N qual (defScope st) f cdv A outer s H E).nox (defBody st) t ∧ t { nx := fun _ H' => Q .non H', rt := Q } (start N vs) H) : OwnM P w K mg base (k + 1) C m ps sp := by
  obtain ⟨f, fd, hm, F⟩ := D
  exact ⟨f, fd, hm, F.binds hb, F.ok S len (hbody f)⟩
theorem DefI.own (D : DefI K C qual st) (S : FnScope N ps (defScope st))
    (hb : ∀ (kV doc pm : Value) (an : Option Addr) (cdv ct : Value) (us : List Value), us.length = ps.length → bindArgs (PySem.W.fnOf "__init__" qual (defArgs st) (defBody st) (defScope st) .none kV doc pm an cdv ct) ⟨us, []⟩ = pure (ps.zip us))
    (len : ∀ vs H Q E, sp vs H Q E → vs.length = ps.length)
    (hbody : ∀ (f : Addr) (cdv : Value) (A : Around) (outer : List Env) (s : Shared) (H : Hp) (vs : List V) (Q : VK) (E : XK), Room k (A.deeper (envOfC qual (defScope st) s.heap.objs.size f cdv)) → sp vs H Q E →
      ∃ t, PSs (cxOf CX0 P w K mg base N qual (defScope st) f cdv A outer s H E).nox (defBody st) t ∧ t { nx := fun _ H' => Q .non H', rt := Q } (start N vs) H) : OwnI P w K mg base (k + 1) C ps sp := by
  obtain ⟨f, fd, hm, F⟩ := D
  exact ⟨f, fd, hm, F.binds hb, F.ok S len (hbody f)⟩
theorem defM_mk {f : Addr} {oc : Value} {od an : Option Addr} {osl : Array (Option Value)} {kV doc pm cdv ct : Value} (a : PySem.W.findIn K (.ref C) m = some (some (.ref f))) (i : PySem.W.isFn K (.ref f) = true)
    (l : K.lookup f = some ⟨oc, od, .func (PySem.W.fnOf m qual (defArgs st) (defBody st) (defScope st) .none kV doc pm an cdv ct), osl⟩) (c : PySem.W.codeIn K cdv qual = true) (k : PySem.W.keepIn K (.ref f) = true) : DefM K C m qual st :=
  ⟨f, _, ⟨a, i, k⟩, fun_mk l c k⟩
theorem defI_mk {f : Addr} {oc : Value} {od an : Option Addr} {osl : Array (Option Value)} {kV doc pm cdv ct : Value} (a : PySem.W.findIn K (.ref C) "__init__" = some (some (.ref f))) (i : PySem.W.isFn K (.ref f) = true)
    (l : K.lookup f = some ⟨oc, od, .func (PySem.W.fnOf "__init__" qual (defArgs st) (defBody st) (defScope st) .none kV doc pm an cdv ct), osl⟩) (c : PySem.W.codeIn K cdv qual = true) (k : PySem.W.keepIn K (.ref f) = true)
    (mk : PySem.W.makesIn K C = true) (kc : PySem.W.keepIn K (.ref C) = true) : DefI K C qual st :=
  ⟨f, _, ⟨mk, a, i, kc⟩, fun_mk l c k⟩
end
section
variable {X : Cx} {j k : Nat} {C : Addr} {x m : Str} {ps : List Str} {sp : Sp} {p pos apos : Pos} {o e : Expr} {es : List Expr} {ta : TE} {t : TA}
theorem pe_mth {pl : Sem Bool} (M : OwnM X.prog X.w X.K X.mg X.base j C m ps sp) (c : Cls X.K C) (hr : Room k X.A) (he : PE X o ta) (ha : PA X (e :: es) t) (hk : j ≤ k := by decide)
    (hst : starEach (e :: es) X.env = (false, eval e X.env) :: starEach es X.env := by rfl) (hpl : (backTo pos (starEach es X.env)).any (·.1) = false := by rfl)
    (ht : eval (.Call (.Attribute o m apos) (e :: es) [] pos) X.env = (do
      let ov ← eval o X.env
      standAt apos.atName
      let (f, first) ← holding [ov] (getMethod ov m pl)
      callWith pos f first (backTo pos (starEach (e :: es) X.env)) (backToKw pos (keywordEach [] X.env))) := by rfl) :
    PE X (.Call (.Attribute o m apos) (e :: es) [] pos) (tMeth C m sp [] E0 ta t) := by
  obtain ⟨f, fd, hm, hb, F⟩ := M
  exact pe_meth (pl := pl) he c hm F (hr.mono hk) hb .nil pass0 ha hst hpl ht
theorem pe_mak (M : OwnI X.prog X.w X.K X.mg X.base j C ps sp) (hr : Room k X.A) (hm : X.mg x = some (.ref C)) (ha : PA X (e :: es) t) (hk : j + 1 ≤ k := by decide) (hg : Gl X x := by rfl)
    (hdb : (x == ("__debug__" : Str)) = false := by decide) (he : starEach (e :: es) X.env = (false, eval e X.env) :: starEach es X.env := by rfl) (hpl : (backTo pos (starEach es X.env)).any (·.1) = false := by rfl) :
    PE X (.Call (.Name x p) (e :: es) [] pos) (tMake C sp [] E0 t) := by
  obtain ⟨f, fd, hk', hb, F⟩ := M
  exact pe_make hk' F (hr.mono hk) hg hm hb .nil pass0 ha hdb he hpl
/-- x is True, x is False, of a truth -/
def rIsB : R2 := fun x y H Q => ∃ a b, x = .bl a ∧ y = .bl b ∧ Q (.bl (decide (a = b))) H
def rIsntB : R2 := fun x y H Q => ∃ a b, x = .bl a ∧ y = .bl b ∧ Q (.bl (!decide (a = b))) H
end
/-! dicts with written text keys -/
theorem DGet.s {H : Hp} {a : Addr} {kvs : List (Key × V)} {x : Str} {v : V} (e : H a = some (.dK kvs)) (h : valV kvs (Sum.inr x : Key) = some v) : DGet H a (.str x) (some v) := by
  have := DGet.k (k := Sum.inr x) e
  rw [h] at this
  exact this
theorem DPut.s {H : Hp} {a : Addr} {kvs : List (Key × V)} {x : Str} {v : V} {kvs' : List (Key × V)} (e : H a = some (.dK kvs)) (hl : kvs.length < sizeLine) (h : putK kvs (Sum.inr x : Key) v = kvs') : DPut H a (.str x) v (upd H a (.dK kvs')) := by
  subst h
  exact DPut.k (k := Sum.inr x) e hl
def tDGs (td : TE) (x : Str) : TE := fun σ H Q => td σ H fun d H1 => ∃ a kvs v, d = .ref a ∧ H1 a = some (.dK kvs) ∧ valV kvs (Sum.inr x : Key) = some v ∧ Q v H1
def sDPs (td tv : TE) (x : Str) : TS := fun D σ H => tv σ H fun v H1 => td σ H1 fun d H2 => ∃ a kvs, d = .ref a ∧ H2 a = some (.dK kvs) ∧ kvs.length < sizeLine ∧ D.nx σ (upd H2 a (.dK (putK kvs (Sum.inr x : Key) v)))
section
variable {X : Cx} {o value : Expr} {td tv : TE} {x : Str} {j : Nat} {pos pos' cpos : Pos}
end
/-- a block over a tuple -/
theorem comp_tup {n : Nat} {js : List Nat} {g : TG} {tc : TT} {te : TE} {σ : St} {Q : VK} {H1 : Hp} {K : PySem.W.Frag} {a : Addr} {xs : List V} (hz : xs.length ≤ sizeLine) (Pv : Addr → Nat → List V → Hp → Prop) (h0 : ∀ D, H1 D = none → Pv D 0 [] (upd H1 D (.lst [])))
    (hl : ∀ D i acc H, H1 D = none → i ≤ xs.length → Pv D i acc H → H D = some (.lst acc) ∧ SqT K H a xs ∧ acc.length ≤ i)
    (hs : ∀ D i x acc H, H1 D = none → xs[i]? = some x → Pv D i acc H → g x (cSt n js σ) H fun σ2 H2 => σ2.drop n = (cSt n js σ).drop n ∧ tc σ2 H2 fun b H3 => if b = true then te σ2 H3 fun v H4 => H4 D = some (.lst acc) ∧ Pv D (i + 1) (acc ++ [v]) (upd H4 D (.lst (acc ++ [v]))) else H3 D = some (.lst acc) ∧ Pv D (i + 1) acc H3)
    (hd : ∀ D acc H, H1 D = none → Pv D xs.length acc H → Q (.ref D) H) : CompW n js g tc te σ Q (Itt K a) H1 := by
  intro D hD
  refine ⟨fun i m acc H => m = xs.length - i ∧ i ≤ xs.length ∧ Pv D i acc H, ⟨xs.length, by simp, Nat.zero_le _, h0 D hD⟩, ?_⟩
  rintro i m acc H ⟨rfl, hi, p⟩
  obtain ⟨e1, q, e3⟩ := hl D i acc H hD hi p
  refine ⟨e1, ?_⟩
  by_cases hlt : i < xs.length
  · refine .inr ⟨⟨xs, xs[i], q, by simp [hlt]⟩, by omega, Pv D (i + 1), fun acc' H' p' => ⟨xs.length - (i + 1), by omega, rfl, hlt, p'⟩, fun x H' y => ?_⟩
    obtain ⟨e, y⟩ := y
    subst e
    exact hs D i x acc _ hD (y xs q) p
  · have e : i = xs.length := by omega
    subst e
    exact .inl ⟨⟨xs, q, Nat.le_refl _⟩, hd D acc H hD p⟩
end L2
namespace K04
/-! The mathematics of a list's fairness: over flags, true where a deed has no delay. -/
def Run (c : List Bool) (k : Nat) : Prop := ∃ i, i + k ≤ c.length ∧ ∀ j, j < k → c[i + j]? = some true
def Tail (c : List Bool) (k : Nat) : Prop := k ≤ c.length ∧ ∀ j, j < k → c[c.length - k + j]? = some true

theorem Run.zero (c : List Bool) : Run c 0 := ⟨0, by omega, fun j h => by omega⟩
theorem Tail.zero (c : List Bool) : Tail c 0 := ⟨by omega, fun j h => by omega⟩

theorem Run.snoc {c : List Bool} {e : Bool} {k : Nat} : Run (c ++ [e]) k ↔ Run c k ∨ Tail (c ++ [e]) k := by
  constructor
  · rintro ⟨i, h1, h2⟩
    simp at h1
    by_cases h : i + k = c.length + 1
    · refine .inr ⟨by simp; omega, fun j hj => ?_⟩
      have e2 : (c ++ [e]).length - k + j = i + j := by simp; omega
      rw [e2]; exact h2 j hj
    · refine .inl ⟨i, by omega, fun j hj => ?_⟩
      have := h2 j hj
      rw [List.getElem?_append_left (by omega)] at this
      exact this
  · rintro (⟨i, h1, h2⟩ | ⟨h1, h2⟩)
    · exact ⟨i, by simp; omega, fun j hj => by rw [List.getElem?_append_left (by omega)]; exact h2 j hj⟩
    · exact ⟨(c ++ [e]).length - k, by omega, h2⟩

/-- of k places one after another, round and round, none has a delay -/
def Ring (b : List Bool) (k : Nat) : Prop := ∃ st, st < b.length ∧ ∀ j, j < k → b[(st + j) % b.length]? = some true

theorem Ring.lt {b : List Bool} {k : Nat} (hf : false ∈ b) (h : Ring b k) : k < b.length := by
  obtain ⟨st, hs, h⟩ := h
  rcases Nat.lt_or_ge k b.length with z | z
  · exact z
  · exfalso
    obtain ⟨i, hi, e⟩ := List.mem_iff_getElem.mp hf
    have q := h ((i + b.length - st) % b.length) (Nat.lt_of_lt_of_le (Nat.mod_lt _ (by omega)) z)
    have e2 : (st + (i + b.length - st) % b.length) % b.length = i := by
      rw [Nat.add_mod_mod]
      have : st + (i + b.length - st) = i + b.length := by omega
      rw [this, Nat.add_mod_right, Nat.mod_eq_of_lt hi]
    rw [e2, List.getElem?_eq_getElem hi, e] at q
    cases q

end K04
/-! Letters, pairs under way, a road, over the abstract heap. -/
namespace L2
open PySem PySem.Spec PyProof.Rows
def optV : Option Int → V
  | some n => .int n
  | none => .non
/-- all but the places of S stays -/
def Keep (S : List Addr) (H H' : Hp) : Prop := ∀ b o, H b = some o → b ∉ S → H' b = some o
section
variable {S T : List Addr} {H H1 H2 : Hp} {a b : Addr} {o : HO}
theorem Keep.refl : Keep S H H := fun _ _ h _ => h
theorem Keep.trans (k : Keep S H H1) (j : Keep S H1 H2) : Keep S H H2 := fun b o h n => j b o (k b o h n) n
theorem Same.keep (s : Same H H1) : Keep S H H1 := fun b o h _ => s b o h
theorem Keep.same (k : Keep S H H1) (s : Same H1 H2) : Keep S H H2 := fun b o h n => s b o (k b o h n)
theorem Keep.mono (k : Keep S H H1) (h : ∀ b ∈ S, b ∈ T) : Keep T H H1 := fun b o e n => k b o e fun z => n (h b z)
theorem Keep.upd (k : Keep S H H1) (h : a ∈ S ∨ H a = none) : Keep S H (upd H1 a o) := fun b u e n => by
  rw [upd_ne]
  · exact k b u e n
  · rintro rfl
    rcases h with z | z
    · exact n z
    · rw [z] at e; cases e
theorem Keep.free (k : Keep S H H1) (h : H1 b = none) (hb : b ∉ S) : H b = none := by
  cases e : H b with
  | none => rfl
  | some o => rw [k b o e hb] at h; cases h
/-- what is new may change -/
theorem Keep.less (k : Keep S H1 H2) (s : Same H H1) (h : ∀ b ∈ S, b ∈ T ∨ H b = none) : Keep T H H2 := fun b o e n => k b o (s b o e) fun z => by
  rcases h b z with q | q
  · exact n q
  · rw [q] at e; cases e
end
/-- a letter and what it says -/
inductive LetV (H : Hp) : V → PyData → Prop
  | str {t : Str} (ok : PyData.strOk t = true) : LetV H (.str t) (.str t)
  | int (n : Int) : LetV H (.int n) (.int n)
  | lst {p : Addr} {n : Int} : H p = some (.lst [.int n]) → LetV H (.ref p) (.list [.int n])
  | tup {p : Addr} {t : Str} {n : Int} (ok : PyData.strOk t = true) : H p = some (.tup [.str t, .int n]) → LetV H (.ref p) (.tuple [.str t, .int n])
theorem strOk_of (x : String) : PyData.strOk (Str.ofString x) = true := by
  rw [Str.ofString_eq_toList]
  unfold PyData.strOk
  rw [Array.all_eq_true_iff_forall_mem]
  intro c hc
  rw [List.mem_toArray, List.mem_map] at hc
  obtain ⟨a, _, rfl⟩ := hc
  refine decide_eq_true ?_
  rcases a.valid with h | h
  · exact Nat.lt_of_lt_of_le h (by decide)
  · exact h.2
/-- no letter lies here -/
def Soft (H : Hp) (b : Addr) : Prop := (∀ xs, H b ≠ some (.tup xs)) ∧ ∀ n, H b ≠ some (.lst [.int n])
section
variable {S : List Addr} {H H' : Hp} {x : V} {d : PyData} {b : Addr}
theorem LetV.keep (k : Keep S H H') (hs : ∀ b ∈ S, Soft H b) : LetV H x d → LetV H' x d
  | .str ok => .str ok
  | .int n => .int n
  | .lst h => .lst (k _ _ h fun z => (hs _ z).2 _ h)
  | .tup ok h => .tup ok (k _ _ h fun z => (hs _ z).1 _ h)
theorem LetV.same (s : Same H H') (h : LetV H x d) : LetV H' x d := h.keep (S := []) s.keep (fun _ z => nomatch z)
theorem LetV.has {K : PySem.W.Frag} : LetV H x d → Has K H x d
  | .str _ => .str _
  | .int n => .int n
  | .lst h => .lst (SqL.of h) (.cons (.int _) .nil)
  | .tup _ h => .tup (SqT.of h) (.cons (.str _) (.cons (.int _) .nil))
theorem LetV.refl : LetV H x d → PyData.eqv d d = true
  | .str t => by simp [PyData.eqv]
  | .int n => by simp [PyData.eqv]
  | .lst h => by simp [PyData.eqv, PyData.eqvAll]
  | .tup _ h => by simp [PyData.eqv, PyData.eqvAll]
theorem LetV.lay : LetV H x d → PyData.canLay0 d = true
  | .str ok => by simp [PyData.canLay0, ok]
  | .int n => by simp [PyData.canLay0]
  | .lst h => by simp [PyData.canLay0, PyData.canLayAll0]
  | .tup ok h => by simp [PyData.canLay0, PyData.canLayAll0, ok]
theorem LetV.depth : LetV H x d → d.depth ≤ 3
  | .str t => by simp [PyData.depth]
  | .int n => by simp [PyData.depth]
  | .lst h => by simp [PyData.depth, PyData.depthAll]
  | .tup _ h => by simp [PyData.depth, PyData.depthAll]
end
def LetsX (H : Hp) (zs : List V) (qs : List PyData) : Prop := Paired (LetV H) zs qs
section
variable {S : List Addr} {H H' : Hp}
theorem LetsX.keep (k : Keep S H H') (hs : ∀ b ∈ S, Soft H b) {zs : List V} {qs : List PyData} (h : LetsX H zs qs) : LetsX H' zs qs := Paired.mapP h fun _ _ z => z.keep k hs
theorem LetsX.same (s : Same H H') {zs : List V} {qs : List PyData} (h : LetsX H zs qs) : LetsX H' zs qs := Paired.mapP h fun _ _ z => z.same s
theorem LetsX.has {K : PySem.W.Frag} : ∀ {zs : List V} {qs : List PyData}, LetsX H zs qs → HasAll K H zs qs
  | _, _, .nil => .nil
  | _, _, .cons r t => .cons r.has (LetsX.has t)
theorem LetsX.refl : ∀ {zs : List V} {qs : List PyData}, LetsX H zs qs → PyData.eqvAll qs qs = true
  | _, _, .nil => by simp [PyData.eqvAll]
  | _, _, .cons r t => by rw [PyData.eqvAll, r.refl, LetsX.refl t]; rfl
theorem LetsX.lay : ∀ {zs : List V} {qs : List PyData}, LetsX H zs qs → PyData.canLayAll0 qs = true
  | _, _, .nil => by simp [PyData.canLayAll0]
  | _, _, .cons r t => by rw [PyData.canLayAll0, r.lay, LetsX.lay t]; rfl
theorem LetsX.depth : ∀ {zs : List V} {qs : List PyData}, LetsX H zs qs → PyData.depthAll qs ≤ 3
  | _, _, .nil => by simp [PyData.depthAll]
  | _, _, .cons r t => by
    have h1 := r.depth
    have h2 := LetsX.depth t
    rw [PyData.depthAll]
    omega
theorem LetsX.shaped {zs : List V} {qs : List PyData} (h : LetsX H zs qs) : SeqAt.shaped (.list qs) = true := by
  have := h.depth
  unfold SeqAt.shaped
  rw [PyData.canLay0, h.lay, PyData.depth, decide_eq_true (by omega)]; rfl
end
/-- a pair of a turn and a letter -/
def PairV (H : Hp) (x : V) (p : Int × PyData) : Prop := ∃ t y, x = .ref t ∧ H t = some (.tup [.int p.1, y]) ∧ LetV H y p.2
def PairsX (H : Hp) (xs : List V) (us : List (Int × PyData)) : Prop := Paired (PairV H) xs us
section
variable {S : List Addr} {H H' : Hp} {xs : List V} {us : List (Int × PyData)} {b : Addr}
theorem PairV.keep (k : Keep S H H') (hs : ∀ b ∈ S, Soft H b) {x : V} {p : Int × PyData} (h : PairV H x p) : PairV H' x p := by
  obtain ⟨t, y, e, h1, h2⟩ := h
  exact ⟨t, y, e, k _ _ h1 fun z => (hs _ z).1 _ h1, h2.keep k hs⟩
theorem PairsX.keep (k : Keep S H H') (hs : ∀ b ∈ S, Soft H b) (h : PairsX H xs us) : PairsX H' xs us := Paired.mapP h fun _ _ z => z.keep k hs
theorem PairsX.same (s : Same H H') (h : PairsX H xs us) : PairsX H' xs us := h.keep (S := []) s.keep (fun _ z => nomatch z)
theorem PairsX.len (h : PairsX H xs us) : xs.length = us.length := Paired.length h
theorem deeds_keep {a : Addr} {ds : List (List Int)} (k : Keep S H H') (hs : ∀ b ∈ S, Soft H b) (ha : a ∉ S) (h : DeedsAt H a ds) : DeedsAt H' a ds := by
  obtain ⟨xs, e, d⟩ := h
  exact ⟨xs, k _ _ e ha, Paired.mapP d fun _ _ ⟨t, p, q⟩ => ⟨t, p, k _ _ q fun z => (hs _ z).1 _ q⟩⟩
theorem Soft.keep {T : List Addr} (k : Keep T H H') (hb : b ∉ T) (hn : H b ≠ none) (h : Soft H b) : Soft H' b := by
  cases e : H b with
  | none => exact absurd e hn
  | some o =>
    have := k b o e hb
    refine ⟨fun xs q => h.1 xs ?_, fun n q => h.2 n ?_⟩
    · rw [this] at q; rw [e]; exact q
    · rw [this] at q; rw [e]; exact q
end
/-- the delays of what is sent in turn z -/
def del (ds : List (List Int)) (z : Int) : List Int := if ds = [] then [1] else ds.getD (z.toNat % ds.length) []
/-! ### a road -/
def rf (l : Addr) (ls la : Option Int) (u : Addr) : List (Str × V) := [("deeds", .ref l), ("last_sent", optV ls), ("last_asked", optV la), ("underway", .ref u)]
section
variable {l u : Addr} {ls la : Option Int}
end
structure RoadAt (C : Addr) (H : Hp) (x dx l u : Addr) (ds : List (List Int)) (ls la : Option Int) (us : List (Int × PyData)) : Prop where
  ins : H x = some (.ins C dx (rf l ls la u))
  deeds : DeedsAt H l ds
  und : ∃ xs, H u = some (.lst xs) ∧ PairsX H xs us
  ne : l ≠ u
section
variable {S : List Addr} {C : Addr} {H H' : Hp} {x dx l u : Addr} {ds : List (List Int)} {ls la : Option Int} {us : List (Int × PyData)}
theorem RoadAt.keep (k : Keep S H H') (hs : ∀ b ∈ S, Soft H b) (hx : x ∉ S) (hl : l ∉ S) (hu : u ∉ S) (R : RoadAt C H x dx l u ds ls la us) : RoadAt C H' x dx l u ds ls la us := by
  obtain ⟨xs, e, p⟩ := R.und
  exact ⟨k _ _ R.ins hx, deeds_keep k hs hl R.deeds, ⟨xs, k _ _ e hu, p.keep k hs⟩, R.ne⟩
theorem RoadAt.same (s : Same H H') (R : RoadAt C H x dx l u ds ls la us) : RoadAt C H' x dx l u ds ls la us := R.keep (S := []) s.keep (fun _ z => nomatch z) (fun z => nomatch z) (fun z => nomatch z) (fun z => nomatch z)
end
/-! ### what isinstance tells of a letter -/
theorem kit_sl (K : PySem.W.Frag) : PySem.W.kitOne K (.type "str") (.type "list") = some false := by with_unfolding_all rfl
theorem kit_st (K : PySem.W.Frag) : PySem.W.kitOne K (.type "str") (.type "tuple") = some false := by with_unfolding_all rfl
theorem kit_sd (K : PySem.W.Frag) : PySem.W.kitOne K (.type "str") (.type "dict") = some false := by with_unfolding_all rfl
theorem kit_il (K : PySem.W.Frag) : PySem.W.kitOne K (.type "int") (.type "list") = some false := by with_unfolding_all rfl
theorem kit_it (K : PySem.W.Frag) : PySem.W.kitOne K (.type "int") (.type "tuple") = some false := by with_unfolding_all rfl
theorem kit_id (K : PySem.W.Frag) : PySem.W.kitOne K (.type "int") (.type "dict") = some false := by with_unfolding_all rfl
theorem kit_tl (K : PySem.W.Frag) : PySem.W.kitOne K (.type "tuple") (.type "list") = some false := by with_unfolding_all rfl
theorem kit_tt (K : PySem.W.Frag) : PySem.W.kitOne K (.type "tuple") (.type "tuple") = some true := by rfl
end L2
namespace L2
open PySem PySem.Spec PyProof.Rows
theorem Same.seqT {K : PySem.W.Frag} {H H' : Hp} {a : Addr} {xs : List V} (e : Same H H') (h : SqT K H a xs) : SqT K H' a xs := by
  rcases h with h | h
  · rcases h with h | ⟨o, h⟩
    · exact .inl (.inl (e _ _ h))
    · exact .inl (.inr ⟨o, e _ _ h⟩)
  · exact .inr h
theorem SqT.keep {K : PySem.W.Frag} {S : List Addr} {H H' : Hp} {a : Addr} {xs : List V} (k : Keep S H H') (hs : ∀ b ∈ S, ∃ ys, H b = some (.lst ys)) (h : SqT K H a xs) : SqT K H' a xs := by
  rcases h with h | h
  · rcases h with h | ⟨o, h⟩
    · exact .inl (.inl (k _ _ h fun z => by obtain ⟨ys, e⟩ := hs _ z; rw [h] at e; cases e))
    · exact .inl (.inr ⟨o, k _ _ h fun z => by obtain ⟨ys, e⟩ := hs _ z; rw [h] at e; cases e⟩)
  · exact .inr h
end L2
/-! Data that cannot change: numbers, texts, tuples of such. -/
namespace L2
open PySem PySem.Spec PyProof.Rows
mutual
inductive Im (H : Hp) : V → PyData → Prop
  | non : Im H .non .none
  | bl (b : Bool) : Im H (.bl b) (.bool b)
  | int (n : Int) : Im H (.int n) (.int n)
  | str {t : Str} (ok : PyData.strOk t = true) : Im H (.str t) (.str t)
  | tup {p : Addr} {xs : List V} {ds : List PyData} : H p = some (.tup xs) → Ims H xs ds → xs.length ≤ 1000 → Im H (.ref p) (.tuple ds)
inductive Ims (H : Hp) : List V → List PyData → Prop
  | nil : Ims H [] []
  | cons {x : V} {xs : List V} {d : PyData} {ds : List PyData} : Im H x d → Ims H xs ds → Ims H (x :: xs) (d :: ds)
end
/-- no tuple lies here -/
def NoT (H : Hp) (b : Addr) : Prop := ∀ xs, H b ≠ some (.tup xs)
section
variable {S : List Addr} {H H' : Hp} {b : Addr}
theorem NoT.of_lst {xs : List V} (h : H b = some (.lst xs)) : NoT H b := fun xs e => by rw [h] at e; cases e
mutual
theorem Im.keep (k : Keep S H H') (hs : ∀ b ∈ S, NoT H b) : ∀ {x : V} {d : PyData}, Im H x d → Im H' x d
  | _, _, .non => .non
  | _, _, .bl b => .bl b
  | _, _, .int n => .int n
  | _, _, .str ok => .str ok
  | _, _, .tup h hx hl => .tup (k _ _ h fun z => hs _ z _ h) (Ims.keep k hs hx) hl
theorem Ims.keep (k : Keep S H H') (hs : ∀ b ∈ S, NoT H b) : ∀ {xs : List V} {ds : List PyData}, Ims H xs ds → Ims H' xs ds
  | _, _, .nil => .nil
  | _, _, .cons r t => .cons (Im.keep k hs r) (Ims.keep k hs t)
end
theorem Im.same (s : Same H H') {x : V} {d : PyData} (h : Im H x d) : Im H' x d := h.keep (S := []) s.keep (fun _ z => nomatch z)
theorem Ims.same (s : Same H H') {xs : List V} {ds : List PyData} (h : Ims H xs ds) : Ims H' xs ds := h.keep (S := []) s.keep (fun _ z => nomatch z)
mutual
theorem Im.has {K : PySem.W.Frag} : ∀ {x : V} {d : PyData}, Im H x d → Has K H x d
  | _, _, .non => .non
  | _, _, .bl b => .bl b
  | _, _, .int n => .int n
  | _, _, .str _ => .str _
  | _, _, .tup h hx _ => .tup (SqT.of h) (Ims.has hx)
theorem Ims.has {K : PySem.W.Frag} : ∀ {xs : List V} {ds : List PyData}, Ims H xs ds → HasAll K H xs ds
  | _, _, .nil => .nil
  | _, _, .cons r t => .cons (Im.has r) (Ims.has t)
end
mutual
theorem Im.refl : ∀ {x : V} {d : PyData}, Im H x d → PyData.eqv d d = true
  | _, _, .non => by simp [PyData.eqv]
  | _, _, .bl b => by simp [PyData.eqv]
  | _, _, .int n => by simp [PyData.eqv]
  | _, _, .str _ => by simp [PyData.eqv]
  | _, _, .tup _ hx _ => by rw [PyData.eqv]; exact Ims.refl hx
theorem Ims.refl : ∀ {xs : List V} {ds : List PyData}, Ims H xs ds → PyData.eqvAll ds ds = true
  | _, _, .nil => by simp [PyData.eqvAll]
  | _, _, .cons r t => by rw [PyData.eqvAll, Im.refl r, Ims.refl t]; rfl
end
mutual
theorem Im.lay : ∀ {x : V} {d : PyData}, Im H x d → PyData.canLay0 d = true
  | _, _, .non => by simp [PyData.canLay0]
  | _, _, .bl b => by simp [PyData.canLay0]
  | _, _, .int n => by simp [PyData.canLay0]
  | _, _, .str ok => by simp [PyData.canLay0, ok]
  | _, _, .tup _ hx _ => by rw [PyData.canLay0]; exact Ims.lay hx
theorem Ims.lay : ∀ {xs : List V} {ds : List PyData}, Ims H xs ds → PyData.canLayAll0 ds = true
  | _, _, .nil => by simp [PyData.canLayAll0]
  | _, _, .cons r t => by rw [PyData.canLayAll0, Im.lay r, Ims.lay t]; rfl
end
theorem Ims.len : ∀ {xs : List V} {ds : List PyData}, Ims H xs ds → xs.length = ds.length
  | _, _, .nil => rfl
  | _, _, .cons _ t => by rw [List.length_cons, List.length_cons, Ims.len t]
theorem Ims.get : ∀ {xs : List V} {ds : List PyData} {i : Nat} {x : V}, Ims H xs ds → xs[i]? = some x → ∃ d, ds[i]? = some d ∧ Im H x d
  | _, _, _, _, .nil, e => by simp at e
  | _, _, 0, _, .cons r _, e => by simp at e; subst e; exact ⟨_, rfl, r⟩
  | _, _, i + 1, x, .cons _ t, e => by
    obtain ⟨u, h1, h2⟩ := Ims.get (i := i) (x := x) t (by simpa using e)
    exact ⟨u, by simpa using h1, h2⟩
theorem Ims.getR : ∀ {xs : List V} {ds : List PyData} {i : Nat} {d : PyData}, Ims H xs ds → ds[i]? = some d → ∃ x, xs[i]? = some x ∧ Im H x d
  | _, _, _, _, .nil, e => by simp at e
  | _, _, 0, _, .cons r _, e => by simp at e; subst e; exact ⟨_, rfl, r⟩
  | _, _, i + 1, d, .cons _ t, e => by
    obtain ⟨u, h1, h2⟩ := Ims.getR (i := i) (d := d) t (by simpa using e)
    exact ⟨u, by simpa using h1, h2⟩
theorem Ims.app : ∀ {xs ys : List V} {ds es : List PyData}, Ims H xs ds → Ims H ys es → Ims H (xs ++ ys) (ds ++ es)
  | _, _, _, _, .nil, s => s
  | _, _, _, _, .cons r t, s => .cons r (Ims.app t s)
theorem Ims.take : ∀ {xs : List V} {ds : List PyData} (n : Nat), Ims H xs ds → Ims H (xs.take n) (ds.take n)
  | _, _, 0, _ => by simp only [List.take_zero]; exact .nil
  | _, _, _ + 1, .nil => .nil
  | _, _, n + 1, .cons r t => .cons r (Ims.take n t)
theorem Ims.drop : ∀ {xs : List V} {ds : List PyData} (n : Nat), Ims H xs ds → Ims H (xs.drop n) (ds.drop n)
  | _, _, 0, r => r
  | _, _, _ + 1, .nil => .nil
  | _, _, n + 1, .cons _ t => Ims.drop n t
theorem Ims.one {x : V} {d : PyData} (h : Im H x d) : Ims H [x] [d] := .cons h .nil
theorem shaped_of {d : PyData} (h : PyData.canLay0 d = true) (hd : d.depth ≤ 64) : SeqAt.shaped d = true := by
  unfold SeqAt.shaped
  rw [h, decide_eq_true hd]; rfl
theorem depthAll_le {n : Nat} : ∀ {ds : List PyData}, (∀ d ∈ ds, d.depth ≤ n) → PyData.depthAll ds ≤ n
  | [], _ => Nat.zero_le _
  | d :: ds, h => by
    rw [PyData.depthAll]
    exact Nat.max_le.mpr ⟨h d (.head _), depthAll_le fun e he => h e (.tail _ he)⟩
theorem le_depthAll : ∀ {ds : List PyData} {d : PyData}, d ∈ ds → d.depth ≤ PyData.depthAll ds
  | _ :: _, _, .head _ => by rw [PyData.depthAll]; exact Nat.le_max_left _ _
  | _ :: _, _, .tail _ h => by rw [PyData.depthAll]; exact Nat.le_trans (le_depthAll h) (Nat.le_max_right _ _)
end
theorem kitI_nl (K : PySem.W.Frag) : PySem.W.kitOne K (.type "NoneType") (.type "list") = some false := by with_unfolding_all rfl
theorem kitI_nt (K : PySem.W.Frag) : PySem.W.kitOne K (.type "NoneType") (.type "tuple") = some false := by with_unfolding_all rfl
theorem kitI_nd (K : PySem.W.Frag) : PySem.W.kitOne K (.type "NoneType") (.type "dict") = some false := by with_unfolding_all rfl
theorem kitI_bl (K : PySem.W.Frag) : PySem.W.kitOne K (.type "bool") (.type "list") = some false := by with_unfolding_all rfl
theorem kitI_bt (K : PySem.W.Frag) : PySem.W.kitOne K (.type "bool") (.type "tuple") = some false := by with_unfolding_all rfl
theorem kitI_bd (K : PySem.W.Frag) : PySem.W.kitOne K (.type "bool") (.type "dict") = some false := by with_unfolding_all rfl
/-! ### sum of a list of numbers -/
section
variable {X : Cx}
end
/-- what own_copy promises of data that cannot change -/
def sp_cpy (n : Nat) : Sp := fun vs H Q _ => ∃ (v : V) (d : PyData), vs = [v] ∧ Im H v d ∧ d.depth ≤ n ∧ ∀ v' H', Same H H' → Im H' v' d → Q v' H'
section
variable {X : Cx} {j k : Nat} {C : Addr} {x m : Str} {ps : List Str} {sp : Sp} {p pos apos : Pos} {o : Expr} {ta : TE}
theorem pe_mth0 {pl : Sem Bool} (M : OwnM X.prog X.w X.K X.mg X.base j C m ps sp) (c : Cls X.K C) (hr : Room k X.A) (he : PE X o ta) (hk : j ≤ k := by decide)
    (ht : eval (.Call (.Attribute o m apos) [] [] pos) X.env = (do
      let ov ← eval o X.env
      standAt apos.atName
      let (f, first) ← holding [ov] (getMethod ov m pl)
      callWith pos f first (backTo pos (starEach [] X.env)) (backToKw pos (keywordEach [] X.env))) := by rfl) :
    PE X (.Call (.Attribute o m apos) [] [] pos) (tMeth C m sp [] E0 ta tNil) := by
  obtain ⟨f, fd, hm, hb, F⟩ := M
  exact pe_meth0 (pl := pl) he c hm F (hr.mono hk) hb .nil pass0 ht
end
/-! ### numbered parcels -/
/-- a pair of a number and a parcel -/
def pd (p : Int × PyData) : PyData := .tuple [.int p.1, p.2]
section
variable {S : List Addr} {H H' : Hp}
theorem Ims.pair {v : V} {p : Int × PyData} (h : Im H v (pd p)) : ∃ t y, v = .ref t ∧ H t = some (.tup [.int p.1, y]) ∧ Im H y p.2 := by
  unfold pd at h
  cases h with
  | @tup t xs ds e hx hl =>
    cases hx with
    | cons r1 hx =>
      cases r1
      cases hx with
      | cons r2 hx =>
        cases hx
        exact ⟨t, _, rfl, e, r2⟩
theorem Im.pair {t : Addr} {y : V} {n : Int} {d : PyData} (e : H t = some (.tup [.int n, y])) (h : Im H y d) : Im H (.ref t) (pd (n, d)) := .tup e (.cons (.int n) (.cons h .nil)) (by simp)
end
/-- what the taker does with a pair -/
def tk (s : Int × List PyData) (p : Int × PyData) : Int × List PyData := if p.1 = s.1 then (s.1 + 1, s.2 ++ [p.2]) else s
end L2
/-! Readings that may be weakened: what while_by asks of a test. -/
namespace L2
open PySem PySem.Spec PyProof.Rows
/-! ### a list and another one, both only read -/
section
variable {X : Cx}
end
end L2
/-! Readings by what stands at an address itself: they run by simp alone. -/
namespace L2
open PySem PySem.Spec PyProof.Rows
section
variable {X : Cx}
theorem OpR.weak {f : Value → Value → Sem Value} {r r' : R2} (h : OpR X f r) (w : ∀ x y H Q, r' x y H Q → r x y H Q) : OpR X f r' :=
  fun pins s σ H x y v u Q I rx ry q => h pins s σ H x y v u Q I rx ry (w _ _ _ _ q)
theorem IxR.weak {r r' : R2} (h : IxR X r) (w : ∀ x y H Q, r' x y H Q → r x y H Q) : IxR X r' :=
  fun value slice pins s σ H x y v u Q I rx ry q hs => h value slice pins s σ H x y v u Q I rx ry (w _ _ _ _ q) hs
theorem CallR.weak {f : Value} {r r' : List V → Hp → VK → Prop} (h : CallR X f r) (w : ∀ xs H Q, r' xs H Q → r xs H Q) : CallR X f r' :=
  fun pins s σ H xs us Q I rs q => h pins s σ H xs us Q I rs (w _ _ _ q)
theorem SlR.weak {r r' : V → Option Int → Option Int → Hp → VK → Prop} (h : SlR X r) (w : ∀ x l u H Q, r' x l u H Q → r x l u H Q) : SlR X r' :=
  fun pins s σ H x v vl vu lo hi sl Q I rx hs pl pu q => h pins s σ H x v vl vu lo hi sl Q I rx hs pl pu (w _ _ _ _ _ q)

/-! ### a subscript -/
def getO : HO → V → Option V
  | .lst xs, .int i => atI xs i
  | .tup xs, .int i => atI xs i
  | .dK kvs, .int i => valV kvs (Sum.inl i)
  | .dK kvs, .str x => valV kvs (Sum.inr x)
  | _, _ => none
theorem getO_l {xs : List V} {i : Int} : getO (.lst xs) (.int i) = atI xs i := rfl
theorem getO_t {xs : List V} {i : Int} : getO (.tup xs) (.int i) = atI xs i := rfl
theorem getO_di {kvs : List (Key × V)} {i : Int} : getO (.dK kvs) (.int i) = valV kvs (Sum.inl i) := rfl
theorem getO_ds {kvs : List (Key × V)} {x : Str} : getO (.dK kvs) (.str x) = valV kvs (Sum.inr x) := rfl
def rGet : R2 := fun x y H Q => ∃ p o v, x = .ref p ∧ H p = some o ∧ getO o y = some v ∧ Q v H
theorem ix_dict (hu : X.A.units + 1 < cLine) : IxR X (fun x y H Q => ∃ a v, x = .ref a ∧ DGet H a y (some v) ∧ Q v H) := by
  intro value slice pins s σ H x y v u Q I rx ry h hs
  obtain ⟨a, z, rfl, g, q⟩ := h
  cases rx
  exact tail_any (dict_typeIs I g) PySem.F.slot_dict_getitem.lookup (d_getItem hu I g ry fun w' s3 I3 rw' => ⟨z, H, I3, rw', q⟩) hs
theorem ix_get (hu : X.A.units + 1 < cLine) : IxR X rGet := by
  intro value slice pins s σ H x y v u Q I rx ry h hs
  obtain ⟨p, o, z, rfl, e, g, q⟩ := h
  cases o with
  | lst xs => cases y <;> first | exact ix_list value slice pins s σ H _ _ v u Q I rx ry ⟨p, xs, _, z, rfl, rfl, SqL.of e, g, q⟩ hs | cases g
  | tup xs => cases y <;> first | exact ix_tup value slice pins s σ H _ _ v u Q I rx ry ⟨p, xs, _, z, rfl, rfl, SqT.of e, g, q⟩ hs | cases g
  | dK kvs =>
    cases y with
    | int i => exact ix_dict hu value slice pins s σ H _ _ v u Q I rx ry ⟨p, z, rfl, .inl ⟨kvs, Sum.inl i, .inl e, rfl, g.symm⟩, q⟩ hs
    | str x => exact ix_dict hu value slice pins s σ H _ _ v u Q I rx ry ⟨p, z, rfl, .inl ⟨kvs, Sum.inr x, .inl e, rfl, g.symm⟩, q⟩ hs
    | _ => cases g
  | _ => cases y <;> cases g

/-! ### len -/
def lenO : HO → Option Nat
  | .lst xs => some xs.length
  | .tup xs => some xs.length
  | .dK kvs => some kvs.length
  | _ => none
def lenX (H : Hp) : V → Option Nat
  | .ref p => (H p).bind lenO
  | .str z => if z.length ≤ sizeLine then some z.length else none
  | _ => none
theorem lenX_r {H : Hp} {p : Addr} : lenX H (.ref p) = (H p).bind lenO := rfl
theorem lenO_l {xs : List V} : lenO (.lst xs) = some xs.length := rfl
theorem lenO_t {xs : List V} : lenO (.tup xs) = some xs.length := rfl
theorem lenO_d {kvs : List (Key × V)} : lenO (.dK kvs) = some kvs.length := rfl
def rLenX : List V → Hp → VK → Prop := fun xs H Q => ∃ x n, xs = [x] ∧ lenX H x = some n ∧ Q (.int n) H
theorem call_lenX : CallR X (.builtin "len") rLenX := by
  intro pins s σ H xs us Q I r h
  obtain ⟨x, n, rfl, g, q⟩ := h
  cases x with
  | ref p =>
    cases e : H p with
    | none => rw [lenX_r, e] at g; cases g
    | some o =>
      rw [lenX_r, e] at g
      cases o with
      | lst xs => cases g; exact call_len_seq pins s σ H _ us Q I r ⟨p, xs, rfl, .inl (SqL.of e), q⟩
      | tup xs => cases g; exact call_len_seq pins s σ H _ us Q I r ⟨p, xs, rfl, .inr (SqT.of e), q⟩
      | dK kvs =>
        cases g
        obtain ⟨u, rfl, rx⟩ := vals1 r
        cases rx
        exact d_len I (.inl e) fun t s' I' => ⟨.int _, H, I', ⟨t, rfl⟩, q⟩
      | _ => cases g
  | str z =>
    have g' : (if z.length ≤ sizeLine then some z.length else none) = some n := g
    split at g'
    · cases g'
      rename_i hz
      exact call_len_str pins s σ H _ us Q I r ⟨z, rfl, hz, q⟩
    · cases g'
  | _ => cases g

/-! ### truth -/
def truO : HO → Option Bool
  | .lst xs => some (!xs.isEmpty)
  | .tup xs => some (!xs.isEmpty)
  | .dK kvs => some (!kvs.isEmpty)
  | _ => none
def truX (H : Hp) : V → Option Bool
  | .non => some false
  | .bl b => some b
  | .int i => some (i != 0)
  | .ref p => (H p).bind truO
  | _ => none
theorem truX_n {H : Hp} : truX H .non = some false := rfl
theorem truX_b {H : Hp} {b : Bool} : truX H (.bl b) = some b := rfl
theorem truX_i {H : Hp} {i : Int} : truX H (.int i) = some (i != 0) := rfl
theorem truX_r {H : Hp} {p : Addr} : truX H (.ref p) = (H p).bind truO := rfl
theorem truO_l {xs : List V} : truO (.lst xs) = some (!xs.isEmpty) := rfl
theorem truO_t {xs : List V} : truO (.tup xs) = some (!xs.isEmpty) := rfl
theorem truO_d {kvs : List (Key × V)} : truO (.dK kvs) = some (!kvs.isEmpty) := rfl
def tTruX (ta : TE) : TT := fun σ H Q => ta σ H fun x H' => ∃ k, truX H' x = some k ∧ Q k H'
theorem tru_x : TruR X (fun x H Q => ∃ k, truX H x = some k ∧ Q k H) := by
  intro pins s σ H x v Q I rx h
  obtain ⟨k, g, q⟩ := h
  refine tru_ok pins s σ H x v Q I rx ⟨k, ?_, q⟩
  cases x with
  | non => cases g; rfl
  | bl b => cases g; rfl
  | int i => cases g; rfl
  | ref p =>
    cases e : H p with
    | none => rw [truX_r, e] at g; cases g
    | some o =>
      rw [truX_r, e] at g
      cases o with
      | lst xs => cases g; exact .inl ⟨xs, SqL.of e, rfl⟩
      | tup xs => cases g; exact .inr (.inl ⟨xs, SqT.of e, rfl⟩)
      | dK kvs => cases g; exact .inr (.inr ⟨kvs, e, rfl⟩)
      | _ => cases g
  | _ => cases g
theorem pt_truX {a : Expr} {ta : TE} (ha : PE X a ta) (he : ∀ whole, isTrue a X.env whole = (do let v ← whole; standAt a.pos; holding [v] (truthy v)) := by intro _; rfl) : PT X a (tTruX ta) := by
  intro pins s σ H Q I h
  exact isTrue_plain (thn (ha pins s σ H _ I h) fun v s1 ⟨x, H1, I1, r1, q1⟩ => tru_x pins s1 σ H1 x v Q I1 r1 q1) (he _)

/-! ### in, not in -/
def inO : HO → V → Option Bool
  | .lst xs, x => if flatV x = true ∧ xs.all flatV = true then some (inV x xs) else none
  | .tup xs, x => if flatV x = true ∧ xs.all flatV = true then some (inV x xs) else none
  | .dK kvs, .int i => some (valV kvs (Sum.inl i)).isSome
  | .dK kvs, .str z => some (valV kvs (Sum.inr z)).isSome
  | _, _ => none
theorem inO_di {kvs : List (Key × V)} {i : Int} : inO (.dK kvs) (.int i) = some (valV kvs (Sum.inl i)).isSome := rfl
theorem inO_ds {kvs : List (Key × V)} {z : Str} : inO (.dK kvs) (.str z) = some (valV kvs (Sum.inr z)).isSome := rfl
def rInX : R2 := fun x y H Q => ∃ p o b, y = .ref p ∧ H p = some o ∧ inO o x = some b ∧ Q (.bl b) H
def rNotInX : R2 := fun x y H Q => ∃ p o b, y = .ref p ∧ H p = some o ∧ inO o x = some b ∧ Q (.bl (!b)) H
/-! ### o[i] = v -/
def setO : HO → V → V → Option HO
  | .lst xs, .int k, v => (ixN xs.length k).map fun j => .lst (xs.set j v)
  | .dK kvs, .int i, v => if kvs.length < sizeLine then some (.dK (putK kvs (Sum.inl i) v)) else none
  | .dK kvs, .str z, v => if kvs.length < sizeLine then some (.dK (putK kvs (Sum.inr z) v)) else none
  | _, _, _ => none
theorem setO_l {xs : List V} {k : Int} {v : V} : setO (.lst xs) (.int k) v = (ixN xs.length k).map fun j => .lst (xs.set j v) := rfl
def rSetX : V → V → V → Hp → (Hp → Prop) → Prop := fun o i v H Q => ∃ p ob ob', o = .ref p ∧ H p = some ob ∧ setO ob i v = some ob' ∧ Q (upd H p ob')
/-! ### slices, list(x), tuple(x) -/
def rSlX : V → Option Int → Option Int → Hp → VK → Prop := fun x lo hi H Q => ∃ a xs, x = .ref a ∧ H a = some (.lst xs) ∧ ∀ p, H p = none → Q (.ref p) (upd H p (.lst (cutV xs lo hi)))
theorem sl_X : SlR X rSlX := sl_list.weak fun _ _ _ _ _ ⟨a, xs, e, h, q⟩ => ⟨a, xs, e, SqL.of h, q⟩
def seqO : HO → Option (List V)
  | .lst xs => some xs
  | .tup xs => some xs
  | _ => none
theorem seqO_l {xs : List V} : seqO (.lst xs) = some xs := rfl
theorem seqO_t {xs : List V} : seqO (.tup xs) = some xs := rfl
theorem seqO_of {K : PySem.W.Frag} {H : Hp} {p : Addr} {o : HO} {ys : List V} (h : H p = some o) (g : seqO o = some ys) : SqL K H p ys ∨ SqT K H p ys := by
  cases o with
  | lst xs => cases g; exact .inl (SqL.of h)
  | tup xs => cases g; exact .inr (SqT.of h)
  | _ => cases g
def rListX : List V → Hp → VK → Prop := fun xs H Q => ∃ p o ys, xs = [.ref p] ∧ H p = some o ∧ seqO o = some ys ∧ ∀ l, H l = none → Q (.ref l) (upd H l (.lst ys))
theorem call_listX : CallR X (.type "list") rListX := call_list_of.weak fun _ _ _ ⟨p, o, ys, e, h, g, q⟩ => ⟨p, ys, e, seqO_of h g, q⟩
def rTupX : List V → Hp → VK → Prop := fun xs H Q => ∃ p ys, xs = [.ref p] ∧ H p = some (.lst ys) ∧ ∀ l, H l = none → Q (.ref l) (upd H l (.tup ys))
/-! ### targets and loops -/
def gTupX (n : Nat) (t : TGs) : TG := fun v σ H Q => ∃ a xs, v = .ref a ∧ H a = some (.tup xs) ∧ xs.length = n ∧ t xs σ H Q
/-! ### equality of scalars, of data -/
/-- data that may be compared -/
def Dt (H : Hp) (v : V) (d : PyData) : Prop := (∀ K : PySem.W.Frag, Has K H v d) ∧ PyData.canLay0 d = true ∧ PyData.eqv d d = true
def Dts (H : Hp) (xs : List V) (ds : List PyData) : Prop := (∀ K : PySem.W.Frag, HasAll K H xs ds) ∧ PyData.canLayAll0 ds = true ∧ PyData.eqvAll ds ds = true
theorem Im.dt {H : Hp} {v : V} {d : PyData} (h : Im H v d) : Dt H v d := ⟨fun _ => h.has, h.lay, h.refl⟩
theorem Ims.dts {H : Hp} {v : List V} {d : List PyData} (h : Ims H v d) : Dts H v d := ⟨fun _ => h.has, h.lay, h.refl⟩
theorem Dt.has {K : PySem.W.Frag} {H : Hp} {v : V} {d : PyData} (h : Dt H v d) : Has K H v d := h.1 K
theorem Dt.lay {H : Hp} {v : V} {d : PyData} (h : Dt H v d) : PyData.canLay0 d = true := h.2.1
theorem Dt.ls {H : Hp} {l : Addr} {xs : List V} {ds : List PyData} (e : H l = some (.lst xs)) (m : Dts H xs ds) : Dt H (.ref l) (.list ds) := ⟨fun K => .lst (SqL.of e) (m.1 K), by rw [PyData.canLay0]; exact m.2.1, by rw [PyData.eqv]; exact m.2.2⟩
theorem Dt.l {H : Hp} {l : Addr} {xs : List V} {ds : List PyData} (e : H l = some (.lst xs)) (m : Ims H xs ds) : Dt H (.ref l) (.list ds) := .ls e m.dts
theorem Dts.nil {H : Hp} : Dts H [] [] := ⟨fun _ => .nil, by simp [PyData.canLayAll0], by simp [PyData.eqvAll]⟩
theorem Dts.cons {H : Hp} {x : V} {xs : List V} {d : PyData} {ds : List PyData} (h : Dt H x d) (t : Dts H xs ds) : Dts H (x :: xs) (d :: ds) :=
  ⟨fun K => .cons (h.1 K) (t.1 K), by rw [PyData.canLayAll0, h.2.1, t.2.1]; rfl, by rw [PyData.eqvAll, h.2.2, t.2.2]; rfl⟩
theorem Dts.app {H : Hp} {ys : List V} {es : List PyData} (t : Dts H ys es) : ∀ {xs : List V} {ds : List PyData}, Dts H xs ds → Dts H (xs ++ ys) (ds ++ es)
  | [], [], _ => t
  | [], _ :: _, h => by cases h.1 [] 
  | _ :: _, [], h => by cases h.1 []
  | x :: xs, d :: ds, h => by
    refine .cons ⟨fun K => ?_, ?_, ?_⟩ (Dts.app t ⟨fun K => ?_, ?_, ?_⟩)
    · cases h.1 K with | cons a b => exact a
    · have := h.2.1; rw [PyData.canLayAll0, Bool.and_eq_true] at this; exact this.1
    · have := h.2.2; rw [PyData.eqvAll, Bool.and_eq_true] at this; exact this.1
    · cases h.1 K with | cons a b => exact b
    · have := h.2.1; rw [PyData.canLayAll0, Bool.and_eq_true] at this; exact this.2
    · have := h.2.2; rw [PyData.eqvAll, Bool.and_eq_true] at this; exact this.2
def rEqX : R2 := fun x y H Q => ∃ d e, Dt H x d ∧ Dt H y e ∧ d.depth ≤ 60 ∧ e.depth ≤ 60 ∧ Q (.bl (PyData.eqv d e)) H
def rNeX : R2 := fun x y H Q => ∃ d e, Dt H x d ∧ Dt H y e ∧ d.depth ≤ 60 ∧ e.depth ≤ 60 ∧ Q (.bl (!PyData.eqv d e)) H
theorem op_eqX (hu : X.A.units + 64 < cLine) : OpR X (compareOp .Eq) rEqX := (op_eqD hu).weak fun _ _ _ _ ⟨d, e, h1, h2, d1, d2, q⟩ => ⟨d, e, h1.has, h2.has, shaped_of h1.lay (by omega), shaped_of h2.lay (by omega), q⟩
theorem op_neX (hu : X.A.units + 64 < cLine) : OpR X (compareOp .NotEq) rNeX := (op_neD hu).weak fun _ _ _ _ ⟨d, e, h1, h2, d1, d2, q⟩ => ⟨d, e, h1.has, h2.has, shaped_of h1.lay (by omega), shaped_of h2.lay (by omega), q⟩

/-! ### methods of a list -/
def tBL (r : V → List V → Hp → VK → Prop) (to : TE) (t : TA) : TE := fun σ H Q => to σ H fun x H1 => ∃ p xs, x = .ref p ∧ H1 p = some (.lst xs) ∧ t σ H1 fun xs H2 => r x xs H2 Q
def tBL0 (r : V → List V → Hp → VK → Prop) (to : TE) : TE := fun σ H Q => to σ H fun x H1 => ∃ p xs, x = .ref p ∧ H1 p = some (.lst xs) ∧ r x [] H1 Q
theorem PE.weak {e : Expr} {t t' : TE} (h : PE X e t) (w : ∀ σ H Q, t' σ H Q → t σ H Q) : PE X e t' := fun pins s σ H Q I q => h pins s σ H Q I (w _ _ _ q)
theorem pe_lm {o e : Expr} {es : List Expr} {to : TE} {t : TA} {name : Str} {apos cpos : Pos} {id : String} {r : V → List V → Hp → VK → Prop}
    (slot : Slot "list" name id) (hty : typeOf (.builtin id) = pure (.type "method_descriptor")) (hm : MtR X id r) (ho : PE X o to) (ha : PA X (e :: es) t)
    (hbase : attributeBase o name X.env (eval o X.env) = eval o X.env := by rfl)
    (hfew : ((backTo cpos (starEach (e :: es) X.env)).all (fun x => !x.1) && (backToKw cpos (keywordEach [] X.env)).all (fun x => x.1.isSome)
      && decide ((e :: es).length + ([] : List Keyword).length + (if ([] : List Keyword).isEmpty then 0 else 1) < 30)) = true := by rfl)
    (hline : (apos.endLine == cpos.line) = true := by rfl) (hs : starEach (e :: es) X.env = (false, eval e X.env) :: starEach es X.env := by rfl) (hplain : (backTo cpos (starEach es X.env)).any (·.1) = false := by rfl) :
    PE X (.Call (.Attribute o name apos) (e :: es) [] cpos) (tBL r to t) := by
  intro pins s σ H Q I h
  refine wpAny_Call_method_late hbase hfew hline rfl (thn (ho pins s σ H _ I h) fun v s1 ⟨x, H1, I1, r1, p, xs, ex, ep, q1⟩ => ?_)
  subst ex
  obtain ⟨h1, h2⟩ := tyV_is I1 r1 (show tyV X.K "list" (.ref p) H1 from .inl ⟨rfl, xs, SqL.of ep⟩)
  refine ⟨"list", id, PySem.F.plainAttrs_list, slot, hty, h1, h2, ?_⟩
  have hA := ha cpos pins s1 σ H1 _ I1 q1
  rw [hs] at hA ⊢
  refine Calls.callWith_builtin (by show (false || (backTo cpos (starEach es X.env)).any (·.1)) = false; rw [hplain] <;> rfl) (Calls.evalArgs_plain ?_)
  exact thn hA fun us s2 ⟨vs, H2, I2, r2, q2⟩ => hm pins s2 σ H2 _ vs v us Q I2 r1 r2 q2
def rSumX : List V → Hp → VK → Prop := fun xs H Q => ∃ (p : Addr) (ns : List Int), xs = [.ref p] ∧ H p = some (.lst (ns.map V.int)) ∧ Q (.int ns.sum) H
theorem make_same {H H' : Hp} {x dx : Addr} {o1 o2 : HO} (hx : H x = none) (hdx : H dx = none) (k : Keep [x] (upd (upd H dx o1) x o2) H') : Same H H' := fun b o e => by
  have n1 : b ≠ x := ne_of_none e hx
  have n2 : b ≠ dx := ne_of_none e hdx
  exact k b o (by rw [upd_ne n1, upd_ne n2]; exact e) (by simp; exact n1)
/-! ### a body in parts -/
theorem use1 {t1 R : TS} {D : Ends} {σ : St} {H : Hp} (Pm : St → Hp → Prop) (key : ∀ σ' H', Pm σ' H' → R D σ' H') (go : ∀ R' : TS, (∀ σ' H', Pm σ' H' → R' D σ' H') → tSeq t1 R' D σ H) : tSeq t1 R D σ H := go R key
theorem use2 {t1 t2 R : TS} {D : Ends} {σ : St} {H : Hp} (Pm : St → Hp → Prop) (key : ∀ σ' H', Pm σ' H' → R D σ' H') (go : ∀ R' : TS, (∀ σ' H', Pm σ' H' → R' D σ' H') → tSeq t1 (tSeq t2 R') D σ H) : tSeq t1 (tSeq t2 R) D σ H := go R key
theorem use5 {t1 t2 t3 t4 t5 R : TS} {D : Ends} {σ : St} {H : Hp} (Pm : St → Hp → Prop) (key : ∀ σ' H', Pm σ' H' → R D σ' H') (go : ∀ R' : TS, (∀ σ' H', Pm σ' H' → R' D σ' H') → tSeq t1 (tSeq t2 (tSeq t3 (tSeq t4 (tSeq t5 R')))) D σ H) : tSeq t1 (tSeq t2 (tSeq t3 (tSeq t4 (tSeq t5 R)))) D σ H := go R key
theorem rNe_nn {H : Hp} {Q : VK} : rNe .non .non H Q = Q (.bl false) H := by simp [rNe, scal]
theorem rEq_nn {H : Hp} {Q : VK} : rEq .non .non H Q = Q (.bl true) H := by simp [rEq, scal]
theorem rNe_in {i : Int} {H : Hp} {Q : VK} : rNe (.int i) .non H Q = Q (.bl true) H := by simp [rNe, scal]
theorem rEq_in {i : Int} {H : Hp} {Q : VK} : rEq (.int i) .non H Q = Q (.bl false) H := by simp [rEq, scal]
theorem rNe_ni {i : Int} {H : Hp} {Q : VK} : rNe .non (.int i) H Q = Q (.bl true) H := by simp [rNe, scal]
theorem rEq_ni {i : Int} {H : Hp} {Q : VK} : rEq .non (.int i) H Q = Q (.bl false) H := by simp [rEq, scal]
theorem noT1 {H : Hp} {b : Addr} (h : NoT H b) : ∀ c ∈ [b], NoT H c := fun c hc => by rw [List.mem_singleton] at hc; subst hc; exact h
theorem ixN_10 : ixN 1 0 = some 0 := rfl
theorem ixN_20 : ixN 2 0 = some 0 := rfl
theorem ixN_21 : ixN 2 1 = some 1 := rfl
theorem ixN_30 : ixN 3 0 = some 0 := rfl
theorem ixN_31 : ixN 3 1 = some 1 := rfl
theorem ixN_32 : ixN 3 2 = some 2 := rfl
theorem ixN_40 : ixN 4 0 = some 0 := rfl
theorem ixN_41 : ixN 4 1 = some 1 := rfl
theorem ixN_42 : ixN 4 2 = some 2 := rfl
theorem ixN_43 : ixN 4 3 = some 3 := rfl
theorem ixN_50 : ixN 5 0 = some 0 := rfl
theorem ixN_51 : ixN 5 1 = some 1 := rfl
theorem ixN_52 : ixN 5 2 = some 2 := rfl
theorem ixN_53 : ixN 5 3 = some 3 := rfl
theorem ixN_54 : ixN 5 4 = some 4 := rfl
/-! ### the first branch of an if in parts -/
/-! ### small facts for simp -/
theorem atI_0 {α : Type} {a : α} {l : List α} : atI (a :: l) 0 = some a := by simp [atI, ixN]
theorem atI_1 {α : Type} {a b : α} {l : List α} : atI (a :: b :: l) 1 = some b := by
  simp only [atI, ixN, List.length_cons]
  rw [if_pos (by decide), if_pos (by omega)]
  rfl
theorem atI_2 {α : Type} {a b c : α} {l : List α} : atI (a :: b :: c :: l) 2 = some c := by
  simp only [atI, ixN, List.length_cons]
  rw [if_pos (by decide), if_pos (by omega)]
  rfl
theorem atI_3 {α : Type} {a b c d : α} {l : List α} : atI (a :: b :: c :: d :: l) 3 = some d := by
  simp only [atI, ixN, List.length_cons]
  rw [if_pos (by decide), if_pos (by omega)]
  rfl
theorem atI_nat' {α : Type} {l : List α} {n : Nat} : atI l (n : Int) = l[n]? := by
  unfold atI ixN
  rw [if_pos (by omega)]
  split
  · simp
  · rw [List.getElem?_eq_none (by omega)]; rfl
theorem atI_pos {α : Type} {l : List α} {k : Int} (h0 : 0 ≤ k) : atI l k = l[k.toNat]? := by
  obtain ⟨n, rfl⟩ := Int.eq_ofNat_of_zero_le h0
  exact atI_nat'
theorem neX_same {H : Hp} {x y : V} {d : PyData} {Q : VK} (h1 : Dt H x d) (h2 : Dt H y d) (hd : d.depth ≤ 60) (q : Q (.bl false) H) : rNeX x y H Q :=
  ⟨d, d, h1, h2, hd, hd, by rw [h1.2.2]; exact q⟩
theorem eqX_same {H : Hp} {x y : V} {d : PyData} {Q : VK} (h1 : Dt H x d) (h2 : Dt H y d) (hd : d.depth ≤ 60) (q : Q (.bl true) H) : rEqX x y H Q :=
  ⟨d, d, h1, h2, hd, hd, by rw [h1.2.2]; exact q⟩
/-! ### isinstance with a built-in class -/
def tyO : HO → Option String
  | .lst _ => some "list"
  | .tup _ => some "tuple"
  | .dK _ => some "dict"
  | _ => none
def tyX (H : Hp) : V → Option String
  | .non => some "NoneType"
  | .bl _ => some "bool"
  | .int _ => some "int"
  | .str _ => some "str"
  | .ref p => (H p).bind tyO
  | _ => none
theorem tyX_n {H : Hp} : tyX H .non = some "NoneType" := rfl
theorem tyX_b {H : Hp} {b : Bool} : tyX H (.bl b) = some "bool" := rfl
theorem tyX_i {H : Hp} {i : Int} : tyX H (.int i) = some "int" := rfl
theorem tyX_s {H : Hp} {z : Str} : tyX H (.str z) = some "str" := rfl
theorem tyX_r {H : Hp} {p : Addr} : tyX H (.ref p) = (H p).bind tyO := rfl
theorem tyO_l {xs : List V} : tyO (.lst xs) = some "list" := rfl
theorem tyO_t {xs : List V} : tyO (.tup xs) = some "tuple" := rfl
theorem tyO_d {kvs : List (Key × V)} : tyO (.dK kvs) = some "dict" := rfl
def kT : String → String → Option Bool
  | "NoneType", "int" => some false
  | "NoneType", "bool" => some false
  | "NoneType", "str" => some false
  | "NoneType", "list" => some false
  | "NoneType", "tuple" => some false
  | "NoneType", "dict" => some false
  | "bool", "int" => some true
  | "bool", "bool" => some true
  | "bool", "str" => some false
  | "bool", "list" => some false
  | "bool", "tuple" => some false
  | "bool", "dict" => some false
  | "int", "int" => some true
  | "int", "bool" => some false
  | "int", "str" => some false
  | "int", "list" => some false
  | "int", "tuple" => some false
  | "int", "dict" => some false
  | "str", "int" => some false
  | "str", "bool" => some false
  | "str", "str" => some true
  | "str", "list" => some false
  | "str", "tuple" => some false
  | "str", "dict" => some false
  | "list", "int" => some false
  | "list", "bool" => some false
  | "list", "str" => some false
  | "list", "list" => some true
  | "list", "tuple" => some false
  | "list", "dict" => some false
  | "tuple", "int" => some false
  | "tuple", "bool" => some false
  | "tuple", "str" => some false
  | "tuple", "list" => some false
  | "tuple", "tuple" => some true
  | "tuple", "dict" => some false
  | "dict", "int" => some false
  | "dict", "bool" => some false
  | "dict", "str" => some false
  | "dict", "list" => some false
  | "dict", "tuple" => some false
  | "dict", "dict" => some true
  | _, _ => none
theorem kT_Noin : kT "NoneType" "int" = some false := rfl
theorem kT_Nobo : kT "NoneType" "bool" = some false := rfl
theorem kT_Nost : kT "NoneType" "str" = some false := rfl
theorem kT_Noli : kT "NoneType" "list" = some false := rfl
theorem kT_Notu : kT "NoneType" "tuple" = some false := rfl
theorem kT_Nodi : kT "NoneType" "dict" = some false := rfl
theorem kT_boin : kT "bool" "int" = some true := rfl
theorem kT_bobo : kT "bool" "bool" = some true := rfl
theorem kT_bost : kT "bool" "str" = some false := rfl
theorem kT_boli : kT "bool" "list" = some false := rfl
theorem kT_botu : kT "bool" "tuple" = some false := rfl
theorem kT_bodi : kT "bool" "dict" = some false := rfl
theorem kT_inin : kT "int" "int" = some true := rfl
theorem kT_inbo : kT "int" "bool" = some false := rfl
theorem kT_inst : kT "int" "str" = some false := rfl
theorem kT_inli : kT "int" "list" = some false := rfl
theorem kT_intu : kT "int" "tuple" = some false := rfl
theorem kT_indi : kT "int" "dict" = some false := rfl
theorem kT_stin : kT "str" "int" = some false := rfl
theorem kT_stbo : kT "str" "bool" = some false := rfl
theorem kT_stst : kT "str" "str" = some true := rfl
theorem kT_stli : kT "str" "list" = some false := rfl
theorem kT_sttu : kT "str" "tuple" = some false := rfl
theorem kT_stdi : kT "str" "dict" = some false := rfl
theorem kT_liin : kT "list" "int" = some false := rfl
theorem kT_libo : kT "list" "bool" = some false := rfl
theorem kT_list : kT "list" "str" = some false := rfl
theorem kT_lili : kT "list" "list" = some true := rfl
theorem kT_litu : kT "list" "tuple" = some false := rfl
theorem kT_lidi : kT "list" "dict" = some false := rfl
theorem kT_tuin : kT "tuple" "int" = some false := rfl
theorem kT_tubo : kT "tuple" "bool" = some false := rfl
theorem kT_tust : kT "tuple" "str" = some false := rfl
theorem kT_tuli : kT "tuple" "list" = some false := rfl
theorem kT_tutu : kT "tuple" "tuple" = some true := rfl
theorem kT_tudi : kT "tuple" "dict" = some false := rfl
theorem kT_diin : kT "dict" "int" = some false := rfl
theorem kT_dibo : kT "dict" "bool" = some false := rfl
theorem kT_dist : kT "dict" "str" = some false := rfl
theorem kT_dili : kT "dict" "list" = some false := rfl
theorem kT_ditu : kT "dict" "tuple" = some false := rfl
theorem kT_didi : kT "dict" "dict" = some true := rfl
theorem kT_kit (K : PySem.W.Frag) {a b : String} {r : Bool} (h : kT a b = some r) : PySem.W.kitOne K (.type a) (.type b) = some r := by
  unfold kT at h
  split at h <;> first | (cases h; first | rfl | (with_unfolding_all rfl)) | cases h
def rIsIX : List V → Hp → VK → Prop := fun xs H Q => ∃ x n t r, xs = [x, .ty n] ∧ tyX H x = some t ∧ kT t n = some r ∧ Q (.bl r) H
theorem tyX_of {K : PySem.W.Frag} {H : Hp} {x : V} {t : String} (h : tyX H x = some t) : TyOf K H x (.type t) := by
  cases x with
  | non => cases h; exact .non
  | bl b => cases h; exact .bl b
  | int i => cases h; exact .int i
  | str z => cases h; exact .str z
  | ref p =>
    cases e : H p with
    | none => rw [tyX_r, e] at h; cases h
    | some o =>
      rw [tyX_r, e] at h
      cases o with
      | lst xs => cases h; exact .lst e
      | tup xs => cases h; exact .tup e
      | dK kvs => cases h; exact .dK e
      | _ => cases h
  | _ => cases h
theorem call_isiX : CallR X (.builtin "isinstance") rIsIX := call_isinst.weak fun _ _ _ ⟨x, n, t, r, e, h, k, q⟩ => ⟨x, .ty n, .type t, r, e, ⟨n, rfl⟩, tyX_of h, kT_kit _ k, q⟩
theorem setO_di' {kvs : List (Key × V)} {i : Int} {v : V} : setO (.dK kvs) (.int i) v = if kvs.length < sizeLine then some (.dK (putK kvs (Sum.inl i) v)) else none := rfl
theorem setO_ds' {kvs : List (Key × V)} {z : Str} {v : V} : setO (.dK kvs) (.str z) v = if kvs.length < sizeLine then some (.dK (putK kvs (Sum.inr z) v)) else none := rfl
theorem lenX_s' {H : Hp} {z : Str} : lenX H (.str z) = if z.length ≤ sizeLine then some z.length else none := rfl
theorem inO_l' {xs : List V} {x : V} : inO (.lst xs) x = if flatV x = true ∧ xs.all flatV = true then some (inV x xs) else none := rfl
theorem inO_t' {xs : List V} {x : V} : inO (.tup xs) x = if flatV x = true ∧ xs.all flatV = true then some (inV x xs) else none := rfl
end
end L2
/-! Loops over texts and over a dict's keys; texts compared. -/
namespace L2
open PySem PySem.Spec PyProof.Rows
section
variable {X : Cx}
/-- what is walked stands fast: these values, in this order -/
def Itv (xs : List V) : It := ⟨fun i _ => i < xs.length, fun i H x H' => H' = H ∧ xs[i]? = some x, fun i _ => i = xs.length⟩
/-- the signs of a text -/
def signs (z : Str) : List V := z.cps.toList.map fun c => V.str ⟨#[c]⟩
def iStr (tl : TE) : TI := fun σ H R => tl σ H fun x H1 => ∃ z, x = .str z ∧ R (Itv (signs z)) H1
/-! ### loops and comprehensions over what stands fast -/
/-! ### texts -/
def rLeS : R2 := fun x y H Q => ∃ a b, x = .str a ∧ y = .str b ∧ Q (.bl (!decide (b.cps.toList < a.cps.toList))) H
theorem rEq_ss {a b : Str} {H : Hp} {Q : VK} : rEq (.str a) (.str b) H Q = Q (.bl (decide (a = b))) H := by simp [rEq, scal]
theorem rNe_ss {a b : Str} {H : Hp} {Q : VK} : rNe (.str a) (.str b) H Q = Q (.bl (!decide (a = b))) H := by simp [rNe, scal]
def rStr1 : List V → Hp → VK → Prop := fun xs H Q => (∃ i : Int, xs = [.int i] ∧ i.natAbs.log2 < 1920 ∧ Q (.str (toString i)) H) ∨ ∃ b : Bool, xs = [.bl b] ∧ Q (.str (if b = true then Str.ofString "True" else Str.ofString "False")) H
def rAllX : List V → Hp → VK → Prop := fun xs H Q => ∃ (p : Addr) (bs : List Bool), xs = [.ref p] ∧ H p = some (.lst (bs.map V.bl)) ∧ Q (.bl (bs.all id)) H
def rAnyX : List V → Hp → VK → Prop := fun xs H Q => ∃ (p : Addr) (bs : List Bool), xs = [.ref p] ∧ H p = some (.lst (bs.map V.bl)) ∧ Q (.bl (bs.any id)) H
/-! ### list(d) -/
def rListD : List V → Hp → VK → Prop := fun xs H Q => ∃ p kvs, xs = [.ref p] ∧ H p = some (.dK kvs) ∧ ∀ l, H l = none → Q (.ref l) (upd H l (.lst (kvs.map fun q => kV q.1)))
/-! ### a, b = a list -/
/-- a, b, .. = a tuple or a list of that length -/
def gSeqX (n : Nat) (t : TGs) : TG := fun v σ H Q => ∃ a o xs, v = .ref a ∧ H a = some o ∧ seqO o = some xs ∧ xs.length = n ∧ t xs σ H Q
end
end L2
/-! A dict's keys as a view; sorted. -/
namespace L2
open PySem PySem.Spec PyProof.Rows
section
variable {X : Cx}
/-- the keys of the dict at d, at a -/
def viewK (a d : Addr) : HO := .ext fun h => PySem.W.KdlKeysView h a d
def tDKeys (to : TE) : TE := fun σ H Q => to σ H fun x H1 => ∃ p kvs, x = .ref p ∧ H1 p = some (.dK kvs) ∧ ∀ a, H1 a = none → Q (.ref a) (upd H1 a (viewK a p))
def rSortL : List V → Hp → VK → Prop := fun xs H Q => ∃ (p : Addr) (ns : List Int), xs = [.ref p] ∧ H p = some (.lst (ns.map V.int)) ∧ ns.length < 64 ∧ ∀ ms : List Int, ms.Perm ns → ms.Pairwise (· ≤ ·) → ∀ l, H l = none → Q (.ref l) (upd H l (.lst (ms.map V.int)))
def rSortK : List V → Hp → VK → Prop := fun xs H Q => ∃ (a d : Addr) (kvs : List (Key × V)) (ns : List Int), xs = [.ref a] ∧ H a = some (viewK a d) ∧ H d = some (.dK kvs) ∧ kvs.map (·.1) = ns.map Sum.inl ∧ ns.length < 64 ∧ ∀ ms : List Int, ms.Perm ns → ms.Pairwise (· ≤ ·) → ∀ l, H l = none → Q (.ref l) (upd H l (.lst (ms.map V.int)))
/-! ### range objects, list(range(..)) -/
def rRngs : List V → Hp → VK → Prop := fun xs H Q => (∃ j : Int, xs = [.int j] ∧ ∀ p, H p = none → Q (.ref p) (upd H p (.rng 0 j))) ∨ ∃ i j : Int, xs = [.int i, .int j] ∧ ∀ p, H p = none → Q (.ref p) (upd H p (.rng i j))
def rListR : List V → Hp → VK → Prop := fun xs H Q => ∃ (p : Addr) (lo hi : Int), xs = [.ref p] ∧ H p = some (.rng lo hi) ∧ -(2 ^ 62) ≤ lo ∧ lo < 2 ^ 62 ∧ -(2 ^ 62) ≤ hi ∧ hi < 2 ^ 62 ∧ (hi - lo).toNat ≤ 100000 ∧ ∀ l, H l = none → Q (.ref l) (upd H l (.lst (((List.range (hi - lo).toNat).map fun (i : Nat) => lo + (i : Int)).map V.int)))
end
end L2
/-! for i, x in enumerate(a list). -/
namespace L2
open PySem PySem.Spec PyProof.Rows
section
variable {X : Cx}
end
end L2
namespace L2
open PySem
/-- not a starred one -/
def noStar : Expr → Bool
  | .Starred .. => false
  | _ => true
theorem star_cons {e : Expr} {es : List Expr} {env : Env} (h : noStar e = true) : starEach (e :: es) env = (false, eval e env) :: starEach es env := by
  cases e <;> first | rfl | cases h
section
variable {X : Cx} {e : Expr} {es : List Expr} {te : TE} {t : TA}
/-- pa_cons, quick in long lists -/
theorem pa_cX (ha : PE X e te) (hr : PA X es t) (h : noStar e = true := by rfl) : PA X (e :: es) (tCons te t) := pa_cons ha hr (star_cons h)
end
/-! PSs, PS closed to the elaborator: it can't evaluate the program's text inside them -/
structure WSs (X : Cx) (sts : List Stmt) (t : TS) : Prop where
  h : PSs X sts t
structure WS (X : Cx) (st : Stmt) (t : TS) : Prop where
  h : PS X st t
section
variable {X : Cx} {st : Stmt} {rest : List Stmt} {t u : TS}
end
end L2
/-! Slices and multiples of texts. -/
namespace L2
open PySem PySem.Spec PyProof.Rows
section
variable {X : Cx}
end
mutual
theorem Has.same {K : PySem.W.Frag} {H H' : Hp} (s : Same H H') : ∀ {x : V} {d : PyData}, Has K H x d → Has K H' x d
  | _, _, .non => .non
  | _, _, .bl b => .bl b
  | _, _, .int i => .int i
  | _, _, .str x => .str x
  | _, _, .lst h hs => .lst (s.seq h) (HasAll.same s hs)
  | _, _, .tup h hs => .tup (s.seqT h) (HasAll.same s hs)
theorem HasAll.same {K : PySem.W.Frag} {H H' : Hp} (s : Same H H') : ∀ {xs : List V} {ds : List PyData}, HasAll K H xs ds → HasAll K H' xs ds
  | _, _, .nil => .nil
  | _, _, .cons h hs => .cons (Has.same s h) (HasAll.same s hs)
end
theorem Dt.same {H H' : Hp} {x : V} {d : PyData} (h : Dt H x d) (s : Same H H') : Dt H' x d := ⟨fun K => (h.1 K).same s, h.2⟩
theorem Dts.same {H H' : Hp} {x : List V} {d : List PyData} (h : Dts H x d) (s : Same H H') : Dts H' x d := ⟨fun K => (h.1 K).same s, h.2⟩
end L2
/-! Loops over a dict: its keys, its values, its items. While it is walked, the dict is held as it is. -/
namespace L2
open PySem PySem.Spec PyProof.Rows
section
variable {X : Cx} {pins : List (Addr × Obj)} {σ : St} {H : Hp} {s : Shared} {d : Addr} {kvs : List (Key × V)}
theorem Inv.frz (I : Inv X pins σ H s) (e : H d = some (.dK kvs)) : ∃ o, s.heap.get? d = some o ∧ Inv X pins σ (upd H d (.frz o (.dK kvs))) s := by
  obtain ⟨hz, hS, vs, rel, o, es, ep, ho, r⟩ := I.hok d _ e
  refine ⟨o, ho, I.un (t' := s.toks) (h' := s.heap) ⟨fun b o q _ _ _ => q, fun b o q _ _ _ => ⟨o.slots, q⟩, fun b o _ n _ => ?_, fun b o q _ => ⟨o, q⟩, fun b xs q => ?_, fun b o u q => ?_, fun b ps q => ?_⟩ fun b u q => ?_⟩
  · rw [upd_ne (Ne.symm (ne_of_none e n))]; exact n
  · rw [upd_ne (ne_of q e (by intro z; cases z))]; exact q
  · rw [upd_ne (ne_of q e (by intro z; cases z))]; exact q
  · exact ⟨#[], by rw [upd_ne (ne_of q e (by intro z; cases z)), q]; simp⟩
  · by_cases hb : b = d
    · subst hb
      rw [upd_same] at q
      cases q
      exact ⟨ho, hz, hS, vs, rel, o, es, ep, ho, r⟩
    · rw [upd_ne hb] at q
      exact (I.hok b u q).stay (fun _ _ _ r => r) (fun c r => by rw [upd_ne (ne_of r e (by intro z; cases z))]; exact r) fun c xs r => by rw [upd_ne (ne_of r e (by intro z; cases z))]; exact r
theorem KV.at {vs : List (Key × Value)} (r : KV kvs vs) {i : Nat} {p : Key × V} (h : kvs[i]? = some p) : ∃ u, vs[i]? = some (p.1, u) ∧ RelV p.2 u := by
  obtain ⟨q, hq, h1, h2⟩ := paired_get r h
  exact ⟨q.2, by rw [hq, h1], h2⟩
end
section
variable {P : Program} {w : World} {K : PySem.W.Frag} {tg : Expr} {d it : Addr} {o : Obj} {kvs : List (Key × V)}
end
section
variable {X : Cx}
/-! ### behind the loop -/
def Unf (H H' H'' : Hp) : Prop := H'' = H' ∨ ∃ d o kvs, H' d = some (.frz o (.dK kvs)) ∧ (∀ o u, H d ≠ some (.frz o u)) ∧ H'' = upd H' d (.dK kvs)
theorem Unf.of {H H' : Hp} {d : Addr} {o : Obj} {kvs kvs0 : List (Key × V)} (e : H' d = some (.frz o (.dK kvs))) (e0 : H d = some (.dK kvs0)) : Unf H H' (upd H' d (.dK kvs)) := .inr ⟨d, o, kvs, e, (fun o u z => by rw [e0] at z; cases z), rfl⟩
end
/-! ### a dict and an empty one -/
end L2
/-! d.get, d.pop by the dict's content; data in a list of data. -/
namespace L2
open PySem PySem.Spec PyProof.Rows
section
variable {X : Cx} {o e f : Expr} {td ty tx : TE} {apos cpos : Pos}
/-! ### data in a list of data -/
def rInD : R2 := fun x y H Q => ∃ p xs ds d, y = .ref p ∧ H p = some (.lst xs) ∧ Dts H xs ds ∧ Dt H x d ∧ d.depth ≤ 60 ∧ (∀ e ∈ ds, e.depth ≤ 60) ∧ Q (.bl (ds.any fun e => PyData.eqv e d)) H
theorem has_reads_at {pins : List (Addr × Obj)} {σ : St} {H : Hp} {s : Shared} (I : Inv X pins σ H s) : ∀ {xs : List V} {ds : List PyData} {us : List Value}, Dts H xs ds → Vals xs us → ∀ (j : Nat) u, us[j]? = some u → ∃ d as, ds[j]? = some d ∧ Reads s.heap u d as ∧ PyData.canLay0 d = true
  | [], _, _, hD, r, j, u, e => by cases r; simp at e
  | x :: xs, [], _, hD, r, j, u, e => by
    have := hD.1 X.K
    cases this
  | x :: xs, d :: ds, _, hD, .cons rx rt, j, u, e => by
    have h1 : Has X.K H x d := by
      have := hD.1 X.K
      cases this with | cons a b => exact a
    have l1 : PyData.canLay0 d = true := by have := hD.2.1; rw [PyData.canLayAll0, Bool.and_eq_true] at this; exact this.1
    cases j with
    | zero =>
      simp at e
      subst e
      obtain ⟨as, ra⟩ := h1.reads I rx
      exact ⟨d, as, rfl, ra, l1⟩
    | succ j =>
      have hD' : Dts H xs ds := ⟨fun K => by have := hD.1 K; cases this with | cons a b => exact b, by have := hD.2.1; rw [PyData.canLayAll0, Bool.and_eq_true] at this; exact this.2, by have := hD.2.2; rw [PyData.eqvAll, Bool.and_eq_true] at this; exact this.2⟩
      exact has_reads_at I hD' rt j u (by simpa using e)
theorem hasAll_len {K : PySem.W.Frag} {H : Hp} : ∀ {xs : List V} {ds : List PyData}, HasAll K H xs ds → ds.length = xs.length
  | _, _, .nil => rfl
  | _, _, .cons _ t => by rw [List.length_cons, List.length_cons, hasAll_len t]
open Classical in
theorem op_inD (hu : X.A.units + 64 < cLine) : OpR X (compareOp .In) rInD := by
  intro pins s σ H x y v u Q I rx ry h
  obtain ⟨p, xs, ds, d, rfl, hp, hD, hd, dd, de, q⟩ := h
  cases ry
  obtain ⟨its, rv, pl, hz⟩ := I.list (SqL.of (K := X.K) hp)
  obtain ⟨as, ra⟩ := (hd.has (K := X.K)).reads I rx
  have hlen : its.length = xs.length := rv.length.symm
  have hdl : ds.length = xs.length := by
    exact hasAll_len (hD.1 X.K)
  let e : Value → Bool := fun y => decide (∃ (j : Nat) (g : PyData), its[j]? = some y ∧ ds[j]? = some g ∧ PyData.eqv g d = true)
  have key : ∀ (j : Nat) y, its[j]? = some y → ∃ g, ds[j]? = some g ∧ e y = PyData.eqv g d ∧ SeqAt.EqAt X.A.in1 s y v (PyData.eqv g d) := fun j y hy => by
    obtain ⟨g, bs, hg, rb, lb⟩ := has_reads_at I hD rv j y hy
    refine ⟨g, hg, ?_, ?_⟩
    · cases hq : PyData.eqv g d with
      | true => exact decide_eq_true ⟨j, g, hy, hg, hq⟩
      | false =>
        refine decide_eq_false ?_
        rintro ⟨j', g', hy', hg', hq'⟩
        obtain ⟨g2, bs2, hg2, rb2, _⟩ := has_reads_at I hD rv j' y hy'
        rw [hg'] at hg2
        cases hg2
        have := (rb.unique _ _ rb2).1
        subst this
        rw [hq] at hq'
        cases hq'
    · have hgd := de g (List.mem_of_getElem? hg)
      exact SeqAt.eqAt_reads g d X.A.in1 s y v bs as rb ra lb hd.lay (by show X.A.units + 1 + min g.depth d.depth < cLine; omega)
  refine SeqAt.in_listAt e pl.isList (fun y hy => ?_) ?_
  · obtain ⟨j, hj, e1⟩ := List.mem_iff_getElem.mp (by simpa using hy : y ∈ its)
    obtain ⟨g, hg, he, hE⟩ := key j y (by rw [List.getElem?_eq_getElem hj, e1])
    rw [he]
    exact hE
  · refine ⟨.bl (ds.any fun e => PyData.eqv e d), H, I, ?_, q⟩
    show Value.bool _ = Value.bool _
    congr 1
    rw [Bool.eq_iff_iff]
    simp only [List.any_toArray, List.any_eq_true]
    constructor
    · rintro ⟨y, hy, ey⟩
      obtain ⟨j, hj, e1⟩ := List.mem_iff_getElem.mp hy
      obtain ⟨g, hg, he, _⟩ := key j y (by rw [List.getElem?_eq_getElem hj, e1])
      exact ⟨g, List.mem_of_getElem? hg, by rw [← he]; exact ey⟩
    · rintro ⟨g, hg, eg⟩
      obtain ⟨j, hj, e1⟩ := List.mem_iff_getElem.mp hg
      have hj2 : j < its.length := by omega
      obtain ⟨g2, hg2, he, _⟩ := key j its[j] (List.getElem?_eq_getElem hj2)
      rw [List.getElem?_eq_getElem hj, e1] at hg2
      cases hg2
      exact ⟨its[j], List.getElem_mem hj2, by rw [he]; exact eg⟩
end
end L2
/-! d.setdefault, sorted(d), min of two tuples of numbers. -/
namespace L2
open PySem PySem.Spec PyProof.Rows
section
variable {X : Cx} {o e f : Expr} {td ty tx : TE} {apos cpos : Pos}
end
/-! ### sorted(d) -/
section
variable {X : Cx}
end
/-! ### the less of two tuples -/
section
variable {prog : Program} {w : World} {A : Around} {E : Value → Shared → Prop} {s : Shared}
end
section
variable {X : Cx}
end
end L2
namespace L2
open PySem PySem.Spec PyProof.Rows
/-! a list and an empty one, whatever the list holds -/
def rNeNil : R2 := fun x y H Q => ∃ (p q : Addr) (xs : List V), x = .ref p ∧ y = .ref q ∧ H p = some (.lst xs) ∧ H q = some (.lst []) ∧ Q (.bl (!xs.isEmpty)) H
theorem op_neNil {X : Cx} (hu : X.A.units + 64 < cLine) : OpR X (compareOp .NotEq) rNeNil := by
  intro pins s σ H x y v u Q I rx ry h
  obtain ⟨p, q, xs, rfl, rfl, hp, hq, k⟩ := h
  cases rx
  cases ry
  obtain ⟨its, r, pl, z1⟩ := I.list (SqL.of (K := X.K) hp)
  obtain ⟨its2, r2, pl2, z2⟩ := I.list (SqL.of (K := X.K) hq)
  have l1 := r.length
  have l2 := r2.length
  have e2 : its2 = [] := List.length_eq_zero_iff.mp l2.symm
  subst e2
  cases xs with
  | nil =>
    have e1 : its = [] := List.length_eq_zero_iff.mp l1.symm
    subst e1
    exact SeqAt.RcNeAt.lists (e := fun _ => true) pl.isList pl2.isList rfl (by omega) (fun j h1 h2 => absurd h1 (by simp)) _ _ _ _ ⟨.bl false, H, I, rfl, k⟩
  | cons a b =>
    refine SeqAt.RcNeAt.lists_lengths pl.isList pl2.isList ?_ (by omega) _ _ _ _ ⟨.bl true, H, I, rfl, k⟩
    simp at l1
    simp
    intro z
    rw [z] at l1
    simp at l1
end L2
/-! Two dicts keyed by tuples that hold the same. -/
namespace L2
open PySem PySem.Spec PyProof.Rows
section
variable {prog : Program} {w : World} {κ : Type} [DecidableEq κ] {knd : HeapKind prog w κ} {A : Around} {E : Value → Shared → Prop} {s : Shared}
end
/-! ### a list, or a tuple, and an empty one, whatever it holds -/
def rEqNil : R2 := fun x y H Q => ∃ (p q : Addr) (xs : List V), x = .ref p ∧ y = .ref q ∧ H p = some (.lst xs) ∧ H q = some (.lst []) ∧ Q (.bl xs.isEmpty) H
theorem op_eqNil {X : Cx} (hu : X.A.units + 64 < cLine) : OpR X (compareOp .Eq) rEqNil := by
  intro pins s σ H x y v u Q I rx ry h
  obtain ⟨p, q, xs, rfl, rfl, hp, hq, k⟩ := h
  cases rx
  cases ry
  obtain ⟨its, r, pl, z1⟩ := I.list (SqL.of (K := X.K) hp)
  obtain ⟨its2, r2, pl2, z2⟩ := I.list (SqL.of (K := X.K) hq)
  have l1 := r.length
  have l2 := r2.length
  have e2 : its2 = [] := List.length_eq_zero_iff.mp l2.symm
  subst e2
  cases xs with
  | nil =>
    have e1 : its = [] := List.length_eq_zero_iff.mp l1.symm
    subst e1
    exact SeqAt.RcAt.lists (e := fun _ => true) pl.isList pl2.isList rfl (by omega) (fun j h1 h2 => absurd h1 (by simp)) _ _ _ _ ⟨.bl true, H, I, rfl, k⟩
  | cons a b =>
    refine SeqAt.RcAt.lists_lengths pl.isList pl2.isList ?_ (by omega) _ _ _ _ ⟨.bl false, H, I, rfl, k⟩
    simp at l1
    simp
    intro z
    rw [z] at l1
    simp at l1
end L2
/-! dicts whose keys are ints, texts and tuples of such, one in another. -/
namespace L2
open PySem PySem.Spec PyProof.Rows
/-- data that may be a key here -/
inductive Kd : PyData → Prop
  | int (n : Int) : Kd (.int n)
  | str (x : Str) : Kd (.str x)
  | tup (ds : List PyData) : (∀ d ∈ ds, Kd d) → Kd (.tuple ds)
mutual
theorem kd_eqv : ∀ {a b : PyData}, Kd a → Kd b → (PyData.eqv a b = true ↔ a = b)
  | .int n, .int m, _, _ => by simp [PyData.eqv]
  | .int n, .str x, _, _ => by simp [PyData.eqv]
  | .int n, .tuple ds, _, _ => by simp [PyData.eqv]
  | .str x, .int m, _, _ => by simp [PyData.eqv]
  | .str x, .str y, _, _ => by simp [PyData.eqv]
  | .str x, .tuple ds, _, _ => by simp [PyData.eqv]
  | .tuple ds, .int m, _, _ => by simp [PyData.eqv]
  | .tuple ds, .str y, _, _ => by simp [PyData.eqv]
  | .tuple ds, .tuple es, .tup _ h1, .tup _ h2 => by
    rw [PyData.eqv, kd_eqvAll h1 h2]
    simp
theorem kd_eqvAll : ∀ {as bs : List PyData}, (∀ d ∈ as, Kd d) → (∀ d ∈ bs, Kd d) → (PyData.eqvAll as bs = true ↔ as = bs)
  | [], [], _, _ => by simp [PyData.eqvAll]
  | [], _ :: _, _, _ => by simp [PyData.eqvAll]
  | _ :: _, [], _, _ => by simp [PyData.eqvAll]
  | a :: as, b :: bs, h1, h2 => by
    rw [PyData.eqvAll, Bool.and_eq_true, kd_eqv (h1 a (.head _)) (h2 b (.head _)), kd_eqvAll (fun d hd => h1 d (.tail _ hd)) (fun d hd => h2 d (.tail _ hd))]
    simp
end
section
variable (w : World)
mutual
def hD : PyData → Int
  | .int n => keyH w (.inl n)
  | .str x => keyH w (.inr x)
  | .tuple ds => reduceHash (Builtin.Tuple.tupleHashOf (hDs ds))
  | _ => 0
def hDs : List PyData → List Int
  | [] => []
  | d :: ds => hD d :: hDs ds
end
mutual
def drD : PyData → Nat
  | .tuple ds => drDs ds + 1
  | _ => 1
def drDs : List PyData → Nat
  | [] => 0
  | d :: ds => drD d + drDs ds
end
end
theorem hDs_app {w : World} : ∀ (a b : List PyData), hDs w (a ++ b) = hDs w a ++ hDs w b
  | [], b => by rw [List.nil_append, hDs, List.nil_append]
  | x :: a, b => by rw [List.cons_append, hDs, hDs, hDs_app a b, List.cons_append]
theorem drDs_app : ∀ (a b : List PyData), drDs (a ++ b) = drDs a + drDs b
  | [], b => by rw [List.nil_append, drDs, Nat.zero_add]
  | x :: a, b => by rw [List.cons_append, drDs, drDs, drDs_app a b]; omega
section
variable {P : Program} {w : World} {E : Value → Shared → Prop}
theorem key_hash : ∀ (n : Nat) {A : Around} {s : Shared} {v : Value} {d : PyData} {as : List Addr} {Q : Int → Shared → Prop}, d.depth ≤ n → Kd d → Reads s.heap v d as → A.units + n < cLine → Q (hD w d) { s with toks := s.toks + drD d } → wpAny (model P w) A (pyHash v) Q E s := by
  intro n
  induction n with
  | zero =>
    intro A s v d as Q hn hk hr hu h
    cases hk with
    | int m =>
      cases hr with
      | int _ t => exact (mixKind P w).pyHash (mixKind_int P w m t) (by simp only [hD, drD] at h; exact h)
    | str x =>
      cases hr with
      | str _ t => exact (mixKind P w).pyHash (mixKind_str P w x t) (by simp only [hD, drD] at h; exact h)
    | tup ds hds => simp [PyData.depth] at hn
  | succ n ih =>
    intro A s v d as Q hn hk hr hu h
    cases hk with
    | int m =>
      cases hr with
      | int _ t => exact (mixKind P w).pyHash (mixKind_int P w m t) (by simp only [hD, drD] at h; exact h)
    | str x =>
      cases hr with
      | str _ t => exact (mixKind P w).pyHash (mixKind_str P w x t) (by simp only [hD, drD] at h; exact h)
    | tup ds hds =>
      cases hr with
      | @tuple a o vs m _ _ ho hc hd hv =>
        have hT : s.TypeIs (.ref a) "tuple" := ⟨o, ho, hc⟩
        have hall : ∀ d ∈ ds, d.depth ≤ n := fun d hd => by
          have := le_depthAll hd
          rw [PyData.depth] at hn
          omega
        unfold pyHash
        first | unfold pyHashByItsType | skip
        first | refine wpAny_bind (wpAny_cRoomFor_or (.inr (by omega)) ?_) | skip
        refine wpAny_bind (wpAny_specialOf hT F.slot_tuple_hash.lookup ?_)
        change wpAny _ _ (ite ((some (Value.builtin "tuple.__hash__") == some Value.none) = true) _ _) Q E s
        rw [if_neg (by rw [beq_builtin_none]; exact Bool.false_ne_true)]
        refine wpAny_bind (wpAny_specialOf hT F.slot_tuple_hash.lookup ?_)
        dsimp only
        refine wpAny_bind (wpAny_callSpecialIfBoundUnlessNone?_slot hT F.slot_tuple_hash (wpAny_call_entry F.slot_tuple_hash hT F.entry_tuple_hash ?_ (F.args_tuple_hash_1 _)))
        change wpAny _ _ (Bind.bind (Builtin.Tuple.tupleItemsOf (.ref a)) _) _ _ s
        refine wpAny_bind (wpAny_tupleItemsOf ho hd ?_)
        refine wpAny_bind ?_
        rw [← Array.forIn_toList]
        refine wpAny_forIn_list _ (fun rest (b : Array Int) s' => ∃ (ys zs : List PyData) (bs : List Addr), ds = ys ++ zs ∧ ReadsAll s.heap rest zs bs ∧ b.toList = hDs w ys ∧ s' = { s with toks := s.toks + drDs ys }) _ ?_ ?_ _ _ ⟨[], ds, _, rfl, hv, by rw [hDs], by rw [drDs]; rfl⟩
        · rintro x rest b s' ⟨ys, zs, bs, rfl, hl, hb, rfl⟩
          cases hl with
          | @cons _ _ d zs' as' bs' h1 h2 =>
            have hm : d ∈ ys ++ d :: zs' := by simp
            refine wpAny_bind (ih (s := { s with toks := s.toks + drDs ys }) (hall d hm) (hds d hm) h1 (by change A.units + 1 + n < cLine; omega) ?_)
            refine wpAny_pure ⟨ys ++ [d], zs', bs', by simp, h2, ?_, ?_⟩
            · rw [hDs_app, hDs, hDs]
              simp [hb]
            · rw [drDs_app, drDs, drDs]
              simp [Nat.add_assoc]
        · rintro b s' ⟨ys, zs, bs, rfl, hl, hb, rfl⟩
          cases hl
          rw [List.append_nil] at h
          have h' : Q (reduceHash (Builtin.Tuple.tupleHashOf (hDs w ys))) { s with toks := s.toks + drDs ys + 1 } := by
            rw [hD, drD] at h
            simpa [Nat.add_assoc] using h
          dsimp only
          rw [hb]
          generalize Builtin.Tuple.tupleHashOf (hDs w ys) = z at h' ⊢
          refine wpAny_ret_mkInt ?_
          change wpAny _ _ (ite ((decide (-(2 : Int) ^ 63 ≤ z) && decide (z < 2 ^ 63)) = true) _ _) Q E _
          unfold reduceHash at h'
          split
          · rename_i hr
            rw [if_pos hr] at h'
            exact wpAny_pure h'
          · rename_i hr
            rw [if_neg hr] at h'
            exact wpAny_bind (wpAny_rule (wpAny_pure h'))
theorem key_quiet : ∀ (n : Nat) {A : Around} {s : Shared} {v : Value} {d : PyData} {as : List Addr} {Q : Bool → Shared → Prop}, d.depth ≤ n → Kd d → Reads s.heap v d as → Q true s → wpAny (model P w) A (eqIsQuiet n v) Q E s := by
  intro n
  induction n with
  | zero =>
    intro A s v d as Q hn hk hr h
    cases hk with
    | int m =>
      cases hr with
      | int _ t => rw [eqIsQuiet_byValue 0 rfl]; exact wpAny_pure h
    | str x =>
      cases hr with
      | str _ t => rw [eqIsQuiet_byValue 0 rfl]; exact wpAny_pure h
    | tup ds hds => simp [PyData.depth] at hn
  | succ n ih =>
    intro A s v d as Q hn hk hr h
    cases hk with
    | int m =>
      cases hr with
      | int _ t => rw [eqIsQuiet_byValue (n + 1) rfl]; exact wpAny_pure h
    | str x =>
      cases hr with
      | str _ t => rw [eqIsQuiet_byValue (n + 1) rfl]; exact wpAny_pure h
    | tup ds hds =>
      cases hr with
      | @tuple a o vs m _ _ ho hc hd hv =>
        have hT : s.TypeIs (.ref a) "tuple" := ⟨o, ho, hc⟩
        have hall : ∀ d ∈ ds, d.depth ≤ n := fun d hd => by
          have := le_depthAll hd
          rw [PyData.depth] at hn
          omega
        unfold eqIsQuiet
        refine wpAny_bind (wpAny_specialOf hT F.slot_tuple_eq.lookup ?_)
        dsimp only
        refine wpAny_bind (wpAny_isInstance hT isSubtype_tuple_tuple ?_)
        simp only [Bool.not_true, Bool.false_eq_true, if_false]
        refine wpAny_bind (wpAny_seqItems ho hd ?_)
        refine wpAny_bind ?_
        simp only [Option.getD_some]
        rw [← Array.forIn_toList]
        refine wpAny_forIn_list _ (fun rest r s' => r.1 = none ∧ s' = s ∧ ∃ zs bs, ReadsAll s.heap rest zs bs ∧ ∀ z ∈ zs, z ∈ ds) _ ?_ ?_ _ _ ⟨rfl, rfl, ds, _, hv, fun _ z => z⟩
        · rintro x rest r s' ⟨hr, rfl, zs, bs, hl, hs⟩
          cases hl with
          | @cons _ _ d zs' as' bs' h1 h2 =>
            refine wpAny_bind (ih (hall d (hs d (.head _))) (hds d (hs d (.head _))) h1 ?_)
            simp only [Bool.not_true, Bool.false_eq_true, if_false]
            exact wpAny_pure ⟨rfl, rfl, zs', bs', h2, fun z hz => hs z (.tail _ hz)⟩
        · rintro ⟨r1, r2⟩ s' ⟨hr, rfl, _⟩
          simp only at hr
          subst hr
          exact wpAny_pure h
/-! ### the search -/
/-- a key at a value: what is read there -/
structure KAt (s : Shared) (v : Value) (d : PyData) : Prop where
  kd : Kd d
  dep : d.depth ≤ 8
  lay : PyData.canLay0 d = true
  rd : ∃ as, Reads s.heap v d as
theorem KAt.tok {s : Shared} {v : Value} {d : PyData} (h : KAt s v d) (n : Nat) : KAt { s with toks := n } v d := ⟨h.kd, h.dep, h.lay, h.rd⟩
theorem KAt.inj {s : Shared} {v : Value} {d e : PyData} (a : KAt s v d) (b : KAt s v e) : d = e := by
  obtain ⟨as, ra⟩ := a.rd
  obtain ⟨bs, rb⟩ := b.rd
  exact (ra.unique _ _ rb).1
open Classical in
theorem KAt.eq {A : Around} {s : Shared} {v u : Value} {d e : PyData} {Q : Bool → Shared → Prop} (a : KAt s v d) (b : KAt s u e) (hu : A.units + 8 < cLine) (h : Q (decide (d = e)) s) : wpAny (model P w) A (eqBool v u) Q E s := by
  obtain ⟨as, ra⟩ := a.rd
  obtain ⟨bs, rb⟩ := b.rd
  have h1 := a.dep
  have e1 : PyData.eqv d e = decide (d = e) := by
    rw [Bool.eq_iff_iff, kd_eqv a.kd b.kd, decide_eq_true_iff]
  exact SeqAt.eqAt_reads d e A s v u as bs ra rb a.lay b.lay (by omega) P w E Q (by rw [e1]; exact h)
theorem KAt.quiet {A : Around} {s : Shared} {v : Value} {d : PyData} {Q : Bool → Shared → Prop} (a : KAt s v d) (h : Q true s) : wpAny (model P w) A (eqIsQuiet 8 v) Q E s := by
  obtain ⟨as, ra⟩ := a.rd
  exact key_quiet 8 a.dep a.kd ra h
theorem KAt.hash {A : Around} {s : Shared} {v : Value} {d : PyData} {Q : Int → Shared → Prop} (a : KAt s v d) (hu : A.units + 8 < cLine) (h : Q (hD w d) { s with toks := s.toks + drD d }) : wpAny (model P w) A (pyHash v) Q E s := by
  obtain ⟨as, ra⟩ := a.rd
  exact key_hash 8 a.dep a.kd ra hu h
abbrev En3 := PyData × Value × Value
def ent (w : World) (x : En3) : DictEntry := ⟨hD w x.1, x.2.1, x.2.2⟩
theorem ent_at {es : Array DictEntry} {xs : List En3} (he : es.toList = xs.map (ent w)) (j : Nat) : es[j]? = (xs[j]?).map (ent w) := by
  rw [← Array.getElem?_toList, he, List.getElem?_map]
theorem tells_not {A : Around} {s : Shared} {v : Value} {d : PyData} {st : List Value} {Q : Bool → Shared → Prop} (a : KAt s v d) (hs : ∀ u ∈ st, ∃ e, KAt s u e) (h : Q false s) : wpAny (model P w) A (tableMayTell v st) Q E s := by
  unfold tableMayTell
  split
  · exact wpAny_pure h
  · refine wpAny_bind (a.quiet ?_)
    simp only [Bool.not_true, Bool.false_eq_true, if_false]
    refine wpAny_bind ?_
    refine wpAny_forIn_list _ (fun rest r s' => s' = s ∧ r = (none, ()) ∧ ∀ u ∈ rest, ∃ e, KAt s u e) _ ?_ ?_ _ _ ⟨rfl, rfl, hs⟩
    · rintro x rest r s' ⟨rfl, rfl, hr⟩
      obtain ⟨e, he⟩ := hr x (.head _)
      refine wpAny_bind (he.quiet ?_)
      simp only [Bool.not_true, Bool.false_eq_true, if_false]
      exact wpAny_pure ⟨rfl, rfl, fun u hu => hr u (.tail _ hu)⟩
    · rintro r s' ⟨rfl, rfl, _⟩
      exact wpAny_pure h
def plc (w : World) (es : Array DictEntry) (k : PyData) : List Nat := placesWithHash es.size (fun i => es[i]?.map (·.hash)) (hD w k)
theorem plc_mem {es : Array DictEntry} {xs : List En3} {k : PyData} (he : es.toList = xs.map (ent w)) {j : Nat} {x : En3} (h : xs[j]? = some x) (hk : x.1 = k) : j ∈ plc w es k := by
  unfold plc placesWithHash
  have hj : es[j]? = some (ent w x) := by rw [ent_at he, h]; rfl
  refine List.mem_filter.mpr ⟨List.mem_range.mpr ?_, ?_⟩
  · exact (Array.getElem?_eq_some_iff.mp hj).1
  · dsimp only
    rw [hj]
    simp [ent, hk]
theorem plc_nodup {es : Array DictEntry} {k : PyData} : (plc w es k).Nodup := by
  unfold plc placesWithHash
  exact List.nodup_range.filter _
theorem key_one {xs : List En3} (hn : (xs.map (·.1)).Nodup) {i j : Nat} {x y : En3} (hi : xs[i]? = some x) (hj : xs[j]? = some y) (e : x.1 = y.1) : i = j := by
  have h1 : (xs.map (·.1))[i]? = some x.1 := by rw [List.getElem?_map, hi]; rfl
  have h2 : (xs.map (·.1))[j]? = some x.1 := by rw [List.getElem?_map, hj, e]; rfl
  exact (List.getElem?_inj (List.getElem?_eq_some_iff.mp h1).1 hn).mp (h1.trans h2.symm)
section
variable {A : Around} {s : Shared} {d : Addr} {o : Obj} {es : Array DictEntry} {ep : Nat} {xs : List En3} {v : Value} {k : PyData} {Q : Option Nat → Shared → Prop}
open Classical in
theorem walk_n (hu : A.units + 8 < cLine) (hk : KAt s v k) (ho : s.heap.get? d = some o) (hd : o.data = .dict es ep) (he : es.toList = xs.map (ent w)) (hx : ∀ x ∈ xs, KAt s x.2.1 x.1)
    (h0 : (∀ (j : Nat) x, xs[j]? = some x → x.1 ≠ k) → Q none s) (h1 : ∀ (j : Nat) x, xs[j]? = some x → x.1 = k → Q (some j) s) : wpAny (model P w) A (dictWalkPlain d v (hD w k) es (plc w es k)) Q E s := by
  unfold dictWalkPlain
  refine wpAny_bind ?_
  refine wpAny_forIn_list _ (fun rest r s' => s' = s ∧ r.1 = none ∧ ∀ (j : Nat) x, xs[j]? = some x → x.1 = k → j ∈ rest) _ ?_ ?_ _ _ ⟨rfl, rfl, fun j x h e => plc_mem he h e⟩
  · rintro i rest r s' ⟨rfl, hr, hm⟩
    cases hei : es[i]? with
    | none =>
      refine wpAny_pure ⟨rfl, rfl, fun j x h e => ?_⟩
      rcases List.mem_cons.mp (hm j x h e) with rfl | hj
      · rw [ent_at he, h] at hei
        cases hei
      · exact hj
    | some e0 =>
      obtain ⟨y, hy, rfl⟩ : ∃ y, xs[i]? = some y ∧ ent w y = e0 := by
        rw [ent_at he] at hei
        exact Option.map_eq_some_iff.mp hei
      dsimp only
      split
      · refine wpAny_bind (wpAny_dictEpoch ho hd (wpAny_bind ((hx y (List.mem_of_getElem? hy)).eq hk hu (wpAny_bind (wpAny_dictEpoch ho hd ?_)))))
        rw [if_neg (by simp)]
        by_cases hyk : y.1 = k
        · rw [if_pos (decide_eq_true hyk)]
          exact wpAny_bind (wpAny_rule (wpAny_pure (wpAny_pure (h1 i y hy hyk))))
        · rw [if_neg (by simp [hyk])]
          refine wpAny_bind (wpAny_rule (wpAny_pure ⟨rfl, rfl, fun j x h e => ?_⟩))
          rcases List.mem_cons.mp (hm j x h e) with rfl | hj
          · rw [hy] at h
            cases h
            exact absurd e hyk
          · exact hj
      · rename_i hne
        refine wpAny_pure ⟨rfl, rfl, fun j x h e => ?_⟩
        rcases List.mem_cons.mp (hm j x h e) with rfl | hj
        · rw [hy] at h
          cases h
          exact absurd (by simp [ent, e]) hne
        · exact hj
  · rintro ⟨r1, r2⟩ s' ⟨rfl, hr, hm⟩
    simp only at hr
    subst hr
    exact wpAny_pure (h0 fun j x h e => nomatch hm j x h e)
open Classical in
theorem byval_n {z : Str} {t : Tok} (hu : A.units + 8 < cLine) (hk : KAt s (.str z t) (.str z)) (ho : s.heap.get? d = some o) (hd : o.data = .dict es ep) (he : es.toList = xs.map (ent w)) (hx : ∀ x ∈ xs, KAt s x.2.1 x.1)
    (h0 : (∀ (j : Nat) x, xs[j]? = some x → x.1 ≠ .str z) → Q none s) (h1 : ∀ (j : Nat) x, xs[j]? = some x → x.1 = .str z → Q (some j) s) : wpAny (model P w) A (foundByValue d (.str z t) es z) Q E s := by
  have hstr : ∀ x ∈ xs, x.2.1.isStr z = true ↔ x.1 = .str z := fun x hm => by
    have hK := hx x hm
    obtain ⟨as, ra⟩ := hK.rd
    constructor
    · intro hs
      generalize hv : x.2.1 = u at ra hs
      generalize x.1 = dd at ra ⊢
      cases u <;> simp [Value.isStr] at hs
      subst hs
      cases ra
      rfl
    · intro e
      rw [e] at ra
      generalize hv : x.2.1 = u at ra
      cases ra
      simp [Value.isStr]
  unfold foundByValue
  cases hf : es.findIdx? (·.key.isStr z) with
  | none =>
    refine wpAny_pure (h0 fun j x h e => ?_)
    have := Array.findIdx?_eq_none_iff.mp hf (ent w x) (by
      rw [← Array.mem_toList_iff, he]
      exact List.mem_map.mpr ⟨x, List.mem_of_getElem? h, rfl⟩)
    change x.2.1.isStr z = false at this
    rw [(hstr x (List.mem_of_getElem? h)).mpr e] at this
    cases this
  | some i =>
    obtain ⟨hi, hp, _⟩ := Array.findIdx?_eq_some_iff_getElem.mp hf
    have hei : es[i]? = some es[i] := Array.getElem?_eq_getElem hi
    obtain ⟨y, hy, ey⟩ : ∃ y, xs[i]? = some y ∧ ent w y = es[i] := by
      rw [ent_at he] at hei
      exact Option.map_eq_some_iff.mp hei
    rw [← ey] at hp
    have hyk : y.1 = .str z := (hstr y (List.mem_of_getElem? hy)).mp hp
    dsimp only
    rw [hei, ← ey]
    dsimp only
    refine wpAny_bind (wpAny_dictEpoch ho hd (wpAny_bind ((hx y (List.mem_of_getElem? hy)).eq hk hu (wpAny_bind (wpAny_dictEpoch ho hd ?_)))))
    rw [if_neg (by simp), if_pos (decide_eq_true hyk)]
    exact wpAny_bind (wpAny_rule (wpAny_pure (h1 i y hy hyk)))
set_option maxHeartbeats 4000000 in
open Classical in
theorem find_n (hu : A.units + 8 < cLine) (hk : KAt s v k) (ho : s.heap.get? d = some o) (hd : o.data = .dict es ep) (he : es.toList = xs.map (ent w)) (hx : ∀ x ∈ xs, KAt s x.2.1 x.1) (hn : (xs.map (·.1)).Nodup)
    (h0 : (∀ (j : Nat) x, xs[j]? = some x → x.1 ≠ k) → Q none s) (h1 : ∀ (j : Nat) x, xs[j]? = some x → x.1 = k → Q (some j) s) : wpAny (model P w) A (dictFind d v (hD w k)) Q E s := by
  have wk := walk_n (P := P) (E := E) hu hk ho hd he hx h0 h1
  unfold dictFind
  try with_reducible refine wpAny_holding ?_
  refine wpAny_bind (wpAny_dictEntries ho hd ?_)
  have hmem : ∀ e ∈ es, ∃ x ∈ xs, e = ent w x := fun e hin => by
    rw [← Array.mem_toList_iff, he] at hin
    obtain ⟨x, hx, rfl⟩ := List.mem_map.mp hin
    exact ⟨x, hx, rfl⟩
  have hst : ∀ u ∈ (plc w es k).filterMap (fun i => es[i]?.map (·.key)), ∃ e, KAt s u e := by
    intro u hv
    obtain ⟨i, _, hi⟩ := List.mem_filterMap.mp hv
    obtain ⟨e, hei, rfl⟩ := Option.map_eq_some_iff.mp hi
    obtain ⟨x, hx', rfl⟩ := hmem e (Array.mem_of_getElem? hei)
    exact ⟨x.1, hx x hx'⟩
  have hpl : placesWithHash es.size (fun i => es[i]?.map (·.hash)) (hD w k) = plc w es k := rfl
  simp only [hpl]
  have nd := plc_nodup (w := w) (es := es) (k := k)
  have three : (∃ n t, v = .int n t) ∨ (∃ z t, v = .str z t ∧ k = .str z) ∨ ∃ a, v = .ref a := by
    obtain ⟨as, ra⟩ := hk.rd
    have hkd := hk.kd
    cases hkd with
    | int n =>
      cases ra with
      | int _ t => exact .inl ⟨n, t, rfl⟩
    | str z =>
      cases ra with
      | str _ t => exact .inr (.inl ⟨z, t, rfl, rfl⟩)
    | tup ds hds =>
      cases ra with
      | @tuple a ot vs m _ _ ho' hc' hd' hv' => exact .inr (.inr ⟨a, rfl⟩)
  generalize hpp : plc w es k = pl at wk hst nd ⊢
  have hmm : ∀ (j : Nat) x, xs[j]? = some x → x.1 = k → j ∈ pl := fun j x h e => by rw [← hpp]; exact plc_mem he h e
  generalize hss : pl.filterMap (fun i => es[i]?.map (·.key)) = st at hst ⊢
  rcases three with ⟨n, t, rfl⟩ | ⟨z, t, rfl, hkz⟩ | ⟨a, rfl⟩
  case' inl =>
    dsimp only
    by_cases hb : ((Value.int n t :: st).all carriedByValue) = true
    · rw [if_pos hb]
      exact wk
    rw [if_neg hb]
  case' inr.inl =>
    dsimp only
    by_cases ha : (es.all fun e => isExactStrKey e.key) = true
    · rw [if_pos ha]
      subst hkz
      exact byval_n hu hk ho hd he hx h0 h1
    rw [if_neg ha]
    by_cases hb : ((Value.str z t :: st).all carriedByValue) = true
    · rw [if_pos hb]
      exact wk
    rw [if_neg hb]
  case' inr.inr =>
    dsimp only
    rw [if_neg (show ¬ ((Value.ref a :: st).all carriedByValue) = true by simp [carriedByValue])]
    have hany : ¬ (es.any fun e => e.key == Value.ref a && e.hash != hD w k) = true := by
      rw [← Array.any_toList, List.any_eq_true]
      rintro ⟨e, hin, hc⟩
      obtain ⟨x, hx', rfl⟩ := hmem e (Array.mem_toList_iff.mp hin)
      simp only [ent, Bool.and_eq_true, beq_iff_eq, bne_iff_ne, ne_eq] at hc
      have := hx x hx'
      rw [hc.1] at this
      exact hc.2 (by rw [this.inj hk])
    rw [if_neg hany]
  all_goals
    (split <;> (first | refine wpAny_bind (wpAny_pure ?_) | refine wpAny_bind (tells_not hk hst ?_)) <;>
      (rw [if_neg (by simp)]
       refine wpAny_bind ?_
       refine wpAny_forIn_list _ (fun rest r s' => s' = s ∧ rest.Nodup ∧ r.1 = none ∧ ((r.2 = none ∧ ∀ (j : Nat) x, xs[j]? = some x → x.1 = k → j ∈ rest) ∨ ∃ j x, r.2 = some j ∧ xs[j]? = some x ∧ x.1 = k ∧ j ∉ rest)) _ ?_ ?_ _ _ ⟨rfl, nd, rfl, .inl ⟨rfl, hmm⟩⟩
       · rintro i rest ⟨r1, hit⟩ s' ⟨rfl, hnd, hr, hH⟩
         simp only at hr hH
         subst hr
         have hni : i ∉ rest := (List.nodup_cons.mp hnd).1
         have hnr := (List.nodup_cons.mp hnd).2
         have stay : ∀ y, xs[i]? = some y → y.1 ≠ k → ((hit = none ∧ ∀ (j : Nat) x, xs[j]? = some x → x.1 = k → j ∈ rest) ∨ ∃ j x, hit = some j ∧ xs[j]? = some x ∧ x.1 = k ∧ j ∉ rest) := fun y hy hne => by
           rcases hH with ⟨h0', hm⟩ | ⟨j, x, h0', hj, hjk, hnj⟩
           · refine .inl ⟨h0', fun j x h e => ?_⟩
             rcases List.mem_cons.mp (hm j x h e) with rfl | hj
             · rw [hy] at h
               cases h
               exact absurd e hne
             · exact hj
           · exact .inr ⟨j, x, h0', hj, hjk, fun z => hnj (.tail _ z)⟩
         cases hei : es[i]? with
         | none =>
           dsimp only
           refine wpAny_pure ⟨rfl, hnr, rfl, ?_⟩
           rcases hH with ⟨h0', hm⟩ | ⟨j, x, h0', hj, hjk, hnj⟩
           · refine .inl ⟨h0', fun j x h e => ?_⟩
             rcases List.mem_cons.mp (hm j x h e) with rfl | hj
             · rw [ent_at he, h] at hei
               cases hei
             · exact hj
           · exact .inr ⟨j, x, h0', hj, hjk, fun z => hnj (.tail _ z)⟩
         | some e0 =>
           obtain ⟨y, hy, rfl⟩ : ∃ y, xs[i]? = some y ∧ ent w y = e0 := by
             rw [ent_at he] at hei
             exact Option.map_eq_some_iff.mp hei
           dsimp only
           by_cases hh : ((ent w y).hash == hD w k) = true
           · rw [if_pos hh]
             refine wpAny_bind (wpAny_dictEpoch ho hd (wpAny_bind ((hx y (List.mem_of_getElem? hy)).eq hk hu (wpAny_bind (wpAny_dictEpoch ho hd ?_)))))
             rw [if_neg (by simp)]
             by_cases hyk : y.1 = k
             · rw [if_pos (decide_eq_true hyk)]
               have hit0 : hit = none := by
                 rcases hH with ⟨h0', _⟩ | ⟨j, x, _, hj, hjk, hnj⟩
                 · exact h0'
                 · exact absurd List.mem_cons_self (by rw [key_one hn hj hy (hjk.trans hyk.symm)] at hnj; exact hnj)
               subst hit0
               rw [if_neg (by simp)]
               refine wpAny_bind (wpAny_rule ?_)
               split
               · exact wpAny_pure (wpAny_pure (h1 i y hy hyk))
               · exact wpAny_pure ⟨rfl, hnr, rfl, .inr ⟨i, y, rfl, hy, hyk, hni⟩⟩
             · rw [if_neg (by simp [hyk])]
               refine wpAny_bind (wpAny_rule ?_)
               rw [if_neg (by simp)]
               exact wpAny_pure ⟨rfl, hnr, rfl, stay y hy hyk⟩
           · rw [if_neg hh]
             refine wpAny_pure ⟨rfl, hnr, rfl, stay y hy fun e => hh (by simp [ent, e])⟩
       · rintro ⟨r1, hit⟩ s' ⟨rfl, _, hr, hH⟩
         simp only at hr hH
         subst hr
         rcases hH with ⟨rfl, hm⟩ | ⟨j, x, rfl, hj, hjk, _⟩
         · exact wpAny_pure (h0 fun j x h e => nomatch hm j x h e)
         · exact wpAny_pure (h1 j x hj hjk)))
end
/-! ### reading, writing, taking out -/
open Classical in
noncomputable def vAt (xs : List En3) (k : PyData) : Option Value := (xs.find? fun x => decide (x.1 = k)).map (·.2.2)
open Classical in
noncomputable def put3 (xs : List En3) (k : PyData) (v r : Value) : List En3 := if (vAt xs k).isSome then xs.map (fun x => if x.1 = k then (x.1, x.2.1, r) else x) else xs ++ [(k, v, r)]
open Classical in
noncomputable def cut3 (xs : List En3) (k : PyData) : List En3 := xs.filter fun x => decide (x.1 ≠ k)
open Classical in
theorem vAt_none {xs : List En3} {k : PyData} (h : ∀ (j : Nat) x, xs[j]? = some x → x.1 ≠ k) : vAt xs k = none := by
  unfold vAt
  rw [List.find?_eq_none.mpr fun x hx => ?_]
  · rfl
  · obtain ⟨j, hj, e⟩ := List.getElem_of_mem hx
    have := h j x (by rw [List.getElem?_eq_getElem hj, e])
    simp [this]
open Classical in
theorem vAt_some {xs : List En3} (hn : (xs.map (·.1)).Nodup) {j : Nat} {x : En3} (h : xs[j]? = some x) : vAt xs x.1 = some x.2.2 := by
  unfold vAt
  have hm := List.mem_of_getElem? h
  cases hf : xs.find? (fun y => decide (y.1 = x.1)) with
  | none =>
    have := List.find?_eq_none.mp hf x hm
    simp at this
  | some y =>
    have hy : y.1 = x.1 := by simpa using List.find?_some hf
    obtain ⟨i, hi, e⟩ := List.getElem_of_mem (List.mem_of_find?_eq_some hf)
    have hi' : xs[i]? = some y := by rw [List.getElem?_eq_getElem hi, e]
    have := key_one hn hi' h hy
    subst this
    rw [h] at hi'
    cases hi'
    rfl
/-- a dict of keys of this kind at d -/
def DNh (w : World) (h : Heap) (d : Addr) (xs : List En3) : Prop := ∃ o es ep, h.get? d = some o ∧ o.ExactDict ∧ o.data = .dict es ep ∧ es.toList = xs.map (ent w)
theorem DNh.typeIs {s : Shared} {d : Addr} {xs : List En3} (h : DNh w s.heap d xs) : s.TypeIs (.ref d) "dict" := let ⟨o, _, _, ho, hc, _⟩ := h; ⟨o, ho, hc.1⟩
section
variable {A : Around} {s : Shared} {d : Addr} {xs : List En3} {v r : Value} {k : PyData}
theorem get_n {Q : Option Value → Shared → Prop} (hu : A.units + 8 < cLine) (hk : KAt s v k) (hd : DNh w s.heap d xs) (hx : ∀ x ∈ xs, KAt s x.2.1 x.1) (hn : (xs.map (·.1)).Nodup) (h : Q (vAt xs k) { s with toks := s.toks + drD k }) : wpAny (model P w) A (dictGet d v) Q E s := by
  obtain ⟨o, es, ep, ho, hc, hd, he⟩ := hd
  unfold dictGet
  try with_reducible refine wpAny_holding ?_
  refine wpAny_bind (hk.hash hu (wpAny_bind (find_n (s := { s with toks := s.toks + drD k }) hu (hk.tok _) ho hd he (fun x hx' => (hx x hx').tok _) hn ?_ ?_)))
  · intro hno
    rw [vAt_none hno] at h
    exact wpAny_pure h
  · intro j x hj hjk
    subst hjk
    rw [vAt_some hn hj] at h
    refine wpAny_bind (wpAny_dictEntries (s := { s with toks := s.toks + drD x.1 }) ho hd ?_)
    rw [ent_at he j, hj]
    exact wpAny_pure h
theorem size_n {es : Array DictEntry} (he : es.toList = xs.map (ent w)) : es.size = xs.length := by
  rw [← Array.length_toList, he, List.length_map]
open Classical in
theorem set_n {Q : Unit → Shared → Prop} (hu : A.units + 8 < cLine) (hk : KAt s v k) (hd : DNh w s.heap d xs) (hx : ∀ x ∈ xs, KAt s x.2.1 x.1) (hn : (xs.map (·.1)).Nodup) (hz : xs.length ≤ sizeLine)
    (h : ∀ h', DNh w h' d (put3 xs k v r) → Heap.SameBut d s.heap h' → Q () { s with heap := h', toks := s.toks + drD k }) : wpAny (model P w) A (dictSet d v r) Q E s := by
  obtain ⟨o, es, ep, ho, hc, hd, he⟩ := hd
  unfold dictSet
  try with_reducible refine wpAny_holding ?_
  refine wpAny_bind (hk.hash hu ?_)
  unfold dictSetHashed
  try with_reducible refine wpAny_holding ?_
  refine wpAny_bind (find_n (s := { s with toks := s.toks + drD k }) hu (hk.tok _) ho hd he (fun x hx' => (hx x hx').tok _) hn ?_ ?_)
  · intro hno
    refine wpAny_bind (wpAny_rule (wpAny_updateDictKeys (hz := by rw [size_n he]; exact hz) (s := { s with toks := s.toks + drD k }) ho hd (h _ ⟨_, _, ep + 1, Heap.get?_update_self _ ho (Obj.isFreed_of_dict (Obj.data_mapDictKeys hd _)), hc.mapDictKeys _, Obj.data_mapDictKeys hd _, ?_⟩ (Heap.SameBut.update ..))))
    unfold put3
    rw [vAt_none hno]
    simp [he, ent]
  · intro j x hj hjk
    subst hjk
    refine wpAny_bind (wpAny_rule (wpAny_bind (wpAny_updateDict (s := { s with toks := s.toks + drD x.1 }) ho hd (wpAny_point (h _ ⟨_, _, ep, Heap.get?_update_self _ ho (Obj.isFreed_of_dict (Obj.data_mapDict hd _)), hc.mapDict _, Obj.data_mapDict hd _, ?_⟩ (Heap.SameBut.update ..))))))
    unfold put3
    rw [vAt_some hn hj, if_pos (show (some x.2.2).isSome = true from rfl)]
    apply List.ext_getElem?
    intro i
    rw [Array.getElem?_toList, Array.getElem?_modify, ent_at he, List.map_map, List.getElem?_map]
    by_cases hij : j = i
    · subst hij
      rw [if_pos rfl, hj]
      simp [ent]
    · rw [if_neg hij]
      cases hi : xs[i]? with
      | none => rfl
      | some y =>
        have hne : y.1 ≠ x.1 := fun e => hij (key_one hn hj hi e.symm)
        simp [hne]
theorem map_erase {α β : Type} (f : α → β) : ∀ (l : List α) (j : Nat), (l.map f).eraseIdx j = (l.eraseIdx j).map f
  | [], _ => rfl
  | _ :: _, 0 => rfl
  | x :: l, j + 1 => by rw [List.map_cons, List.eraseIdx_cons_succ, List.eraseIdx_cons_succ, List.map_cons, map_erase f l j]
open Classical in
theorem cut_erase : ∀ {xs : List En3} {j : Nat} {x : En3}, (xs.map (·.1)).Nodup → xs[j]? = some x → cut3 xs x.1 = xs.eraseIdx j
  | [], _, _, _, h => by simp at h
  | y :: xs, 0, x, hn, h => by
    simp only [List.getElem?_cons_zero, Option.some.injEq] at h
    subst h
    rw [List.map_cons, List.nodup_cons] at hn
    unfold cut3
    rw [List.filter_cons, if_neg (by simp), List.eraseIdx_cons_zero, List.filter_eq_self]
    intro z hz
    refine decide_eq_true fun e => hn.1 ?_
    rw [← e]
    exact List.mem_map.mpr ⟨z, hz, rfl⟩
  | y :: xs, j + 1, x, hn, h => by
    simp only [List.getElem?_cons_succ] at h
    rw [List.map_cons, List.nodup_cons] at hn
    have ih := cut_erase hn.2 h
    unfold cut3 at ih ⊢
    have hne : y.1 ≠ x.1 := fun e => hn.1 (by rw [e]; exact List.mem_map.mpr ⟨x, List.mem_of_getElem? h, rfl⟩)
    rw [List.filter_cons, if_pos (decide_eq_true hne), List.eraseIdx_cons_succ, ih]
open Classical in
theorem take_n {Q : Option DictEntry → Shared → Prop} (hu : A.units + 8 < cLine) (hk : KAt s v k) (hd : DNh w s.heap d xs) (hx : ∀ x ∈ xs, KAt s x.2.1 x.1) (hn : (xs.map (·.1)).Nodup) (hz : xs.length ≤ sizeLine) (hr : vAt xs k = some r)
    (h : ∀ e h', e.val = r → DNh w h' d (cut3 xs k) → Heap.SameBut d s.heap h' → Q (some e) { s with heap := h', toks := s.toks + drD k }) : wpAny (model P w) A (Builtin.Dict.takeOut d v) Q E s := by
  obtain ⟨o, es, ep, ho, hc, hd, he⟩ := hd
  unfold Builtin.Dict.takeOut
  try with_reducible refine wpAny_holding ?_
  refine wpAny_bind (hk.hash hu (wpAny_bind (find_n (s := { s with toks := s.toks + drD k }) hu (hk.tok _) ho hd he (fun x hx' => (hx x hx').tok _) hn ?_ ?_)))
  · intro hno
    rw [vAt_none hno] at hr
    cases hr
  · intro j x hj hjk
    subst hjk
    rw [vAt_some hn hj] at hr
    cases hr
    refine wpAny_bind (wpAny_dictEntries (s := { s with toks := s.toks + drD x.1 }) ho hd ?_)
    rw [ent_at he j, hj]
    dsimp only [Option.map_some]
    refine wpAny_bind (wpAny_updateDictKeys (hz := by rw [size_n he]; exact hz) (s := { s with toks := s.toks + drD x.1 }) ho hd (wpAny_pure (h _ _ rfl ⟨_, _, ep + 1, Heap.get?_update_self _ ho (Obj.isFreed_of_dict (Obj.data_mapDictKeys hd _)), hc.mapDictKeys _, Obj.data_mapDictKeys hd _, ?_⟩ (Heap.SameBut.update ..))))
    rw [cut_erase hn hj, Array.eraseIdxIfInBounds]
    split
    · rw [Array.toList_eraseIdx, he]
      exact map_erase _ _ _
    · rename_i hlt
      rw [size_n he] at hlt
      exact absurd (List.getElem?_eq_some_iff.mp hj).1 hlt
theorem pop_n {Q : Value → Shared → Prop} (hu : A.in1.units + 8 < cLine) (hk : KAt s v k) (hd : DNh w s.heap d xs) (hx : ∀ x ∈ xs, KAt s x.2.1 x.1) (hn : (xs.map (·.1)).Nodup) (hz : xs.length ≤ sizeLine) (hr : vAt xs k = some r)
    (h : ∀ h', DNh w h' d (cut3 xs k) → Heap.SameBut d s.heap h' → Q r { s with heap := h', toks := s.toks + drD k }) : wpAny (model P w) A (call (.builtin "dict.pop") [.ref d, v]) Q E s := by
  have M : MeetsIn P w (Builtin.«dict.pop» ⟨[.ref d, v], []⟩) (fun A R s => A.in1.units + 8 < cLine ∧ KAt s v k ∧ DNh w s.heap d xs ∧ (∀ x ∈ xs, KAt s x.2.1 x.1) ∧ vAt xs k = some r ∧ ∀ h', DNh w h' d (cut3 xs k) → Heap.SameBut d s.heap h' → R (.ok (.ret r)) { s with heap := h', toks := s.toks + drD k }) :=
    .of_wp fun A R s ⟨hu, hk, hd, hx, hr, h⟩ => by
      unfold Builtin.«dict.pop»
      refine wpAny_bind ?_
      unfold Builtin.Dict.keyAndDefault
      refine wpAny_bind (wpAny_notOrdered_dict hd.typeIs ?_)
      change wpAny _ _ (pure (d, v, none)) _ _ s
      refine wpAny_pure ?_
      dsimp only
      have fin : ∀ (e : DictEntry) h', e.val = r → DNh w h' d (cut3 xs k) → Heap.SameBut d s.heap h' → wpAny (model P w) A.in1 (letGo [e.key] [e.val] >>= fun _ => ret e.val) (fun fin s' => ∃ v, fin = Fin.done (Flow.ret v) ∧ R (Except.ok (Flow.ret v)) s') (fun e s' => R (Except.error e) s') { s with heap := h', toks := s.toks + drD k } := fun e h' he hD hS => wpAny_bind (wpAny_letGo (wpAny_pure ⟨e.val, rfl, by rw [he]; exact h h' hD hS⟩))
      split
      · refine wpAny_bind (wpAny_pure ?_)
        rw [if_neg (by decide)]
        refine wpAny_bind (take_n hu hk hd hx hn hz hr fun e h' he hD hS => ?_)
        rw [if_neg (by simp)]
        exact fin e h' he hD hS
      · obtain ⟨o, es, ep, ho, hc, hdd, hes⟩ := id hd
        refine wpAny_bind (wpAny_dictEntries ho hdd (wpAny_bind (wpAny_pure ?_)))
        rw [if_neg (fun z => ?_)]
        · refine wpAny_bind (take_n hu hk hd hx hn hz hr fun e h' he hD hS => ?_)
          rw [if_neg (by simp)]
          exact fin e h' he hD hS
        · have : es.toList = [] := by
            rw [Array.isEmpty_iff] at z
            rw [z]
          rw [hes, List.map_eq_nil_iff] at this
          rw [this] at hr
          cases hr
  exact call_meetsIn PySem.F.slot_dict_pop hd.typeIs PySem.F.entry_dict_pop (PySem.F.args_dict_pop_2 _ _) M ⟨hu, hk, hd, hx, hr, h⟩
end
end
end L2
/-! dicts of mixed keys in the hand layer: kept as what is true of their object; their keys are data in the heap. -/
namespace L2
open PySem PySem.Spec PyProof.Rows
/-- key, its value, what lies under it -/
abbrev E3 := PyData × V × V
def Rel3 (p : E3) (q : En3) : Prop := p.1 = q.1 ∧ RelV p.2.1 q.2.1 ∧ RelV p.2.2 q.2.2
def DNφ (w : World) (a : Addr) (kvs : List E3) (h : Heap) : Prop := kvs.length ≤ sizeLine ∧ (a == sysModules) = false ∧ (kvs.map (·.1)).Nodup ∧ ∃ xs, Paired Rel3 kvs xs ∧ DNh w h a xs
def DNo (w : World) (a : Addr) (kvs : List E3) : HO := .ext (DNφ w a kvs)
/-- a value that may be a key -/
def KIs (H : Hp) (v : V) (d : PyData) : Prop := Im H v d ∧ Kd d ∧ d.depth ≤ 8
def KKs (H : Hp) (kvs : List E3) : Prop := ∀ e ∈ kvs, KIs H e.2.1 e.1
theorem KIs.keep {S : List Addr} {H H' : Hp} {v : V} {d : PyData} (h : KIs H v d) (k : Keep S H H') (hs : ∀ b ∈ S, NoT H b) : KIs H' v d := ⟨h.1.keep k hs, h.2⟩
theorem KIs.same {H H' : Hp} {v : V} {d : PyData} (h : KIs H v d) (s : Same H H') : KIs H' v d := ⟨h.1.same s, h.2⟩
theorem KKs.keep {S : List Addr} {H H' : Hp} {kvs : List E3} (h : KKs H kvs) (k : Keep S H H') (hs : ∀ b ∈ S, NoT H b) : KKs H' kvs := fun e he => (h e he).keep k hs
theorem KKs.same {H H' : Hp} {kvs : List E3} (h : KKs H kvs) (s : Same H H') : KKs H' kvs := fun e he => (h e he).same s
theorem NoT.of_dn {w : World} {H : Hp} {b : Addr} {kvs : List E3} (h : H b = some (DNo w b kvs)) : NoT H b := fun xs e => by rw [h] at e; cases e
open Classical in
noncomputable def vV (kvs : List E3) (k : PyData) : Option V := (kvs.find? fun x => decide (x.1 = k)).map (·.2.2)
open Classical in
noncomputable def putE (kvs : List E3) (k : PyData) (y v : V) : List E3 := if (vV kvs k).isSome then kvs.map (fun x => if x.1 = k then (x.1, x.2.1, v) else x) else kvs ++ [(k, y, v)]
open Classical in
noncomputable def cutE (kvs : List E3) (k : PyData) : List E3 := kvs.filter fun x => decide (x.1 ≠ k)
open Classical in
theorem vV_cons {x : E3} {r : List E3} {k : PyData} : vV (x :: r) k = if x.1 = k then some x.2.2 else vV r k := by
  unfold vV
  by_cases h : x.1 = k
  · rw [List.find?_cons_of_pos (by simpa using h), if_pos h]; rfl
  · rw [List.find?_cons_of_neg (by simpa using h), if_neg h]
theorem vV_nil {k : PyData} : vV [] k = none := rfl
open Classical in
theorem vV_app {kvs : List E3} {k j : PyData} {y v : V} (h : vV kvs k = none) : vV (kvs ++ [(k, y, v)]) j = if j = k then some v else vV kvs j := by
  induction kvs with
  | nil =>
    rw [List.nil_append, vV_cons, vV_nil]
    by_cases e : j = k
    · rw [if_pos e.symm, if_pos e]
    · rw [if_neg (Ne.symm e), if_neg e]
  | cons x r ih =>
    rw [vV_cons] at h
    split at h
    · cases h
    · next hx =>
      rw [List.cons_append, vV_cons, vV_cons, ih h]
      by_cases e : j = k
      · subst e; rw [if_neg hx, if_pos rfl, if_pos rfl]
      · rw [if_neg e, if_neg e]
open Classical in
theorem vV_map {kvs : List E3} {k j : PyData} {v : V} : vV (kvs.map fun x => if x.1 = k then (x.1, x.2.1, v) else x) j = if j = k then (vV kvs k).map fun _ => v else vV kvs j := by
  induction kvs with
  | nil => rw [List.map_nil, vV_nil, vV_nil]; split <;> rfl
  | cons x r ih =>
    rw [List.map_cons, vV_cons, vV_cons, vV_cons, ih]
    by_cases hx : x.1 = k
    · simp only [if_pos hx]
      by_cases e : j = k
      · subst e; simp [hx]
      · have : ¬ x.1 = j := fun z => e (z.symm.trans hx)
        rw [if_neg this, if_neg e, if_neg e, if_neg this]
    · simp only [if_neg hx]
      by_cases e : j = k
      · subst e; rw [if_neg hx, if_pos rfl, if_pos rfl]
      · rw [if_neg e, if_neg e]
open Classical in
theorem vV_put {kvs : List E3} {k j : PyData} {y v : V} : vV (putE kvs k y v) j = if j = k then some v else vV kvs j := by
  unfold putE
  split
  · next h =>
    rw [vV_map]
    obtain ⟨z, hz⟩ := Option.isSome_iff_exists.mp h
    rw [hz]
    rfl
  · next h =>
    refine vV_app ?_
    simpa using h
open Classical in
theorem vV_cut {kvs : List E3} {k j : PyData} : vV (cutE kvs k) j = if j = k then none else vV kvs j := by
  unfold cutE
  induction kvs with
  | nil => rw [List.filter_nil, vV_nil]; split <;> rfl
  | cons x r ih =>
    by_cases hx : x.1 = k
    · rw [List.filter_cons_of_neg (by simpa using hx), ih, vV_cons]
      by_cases e : j = k
      · rw [if_pos e, if_pos e]
      · rw [if_neg e, if_neg e, if_neg fun z => e (z.symm.trans hx)]
    · rw [List.filter_cons_of_pos (by simpa using hx), vV_cons, vV_cons, ih]
      by_cases e : j = k
      · subst e; rw [if_neg hx, if_pos rfl, if_pos rfl]
      · rw [if_neg e, if_neg e]
theorem putE_len {kvs : List E3} {k : PyData} {y v : V} : (putE kvs k y v).length ≤ kvs.length + 1 := by
  unfold putE
  split <;> simp
theorem putE_len_in {kvs : List E3} {k : PyData} {y v z : V} (h : vV kvs k = some z) : (putE kvs k y v).length = kvs.length := by
  unfold putE
  rw [if_pos (by rw [h]; rfl), List.length_map]
theorem cutE_len {kvs : List E3} {k : PyData} : (cutE kvs k).length ≤ kvs.length := List.length_filter_le _ _
open Classical in
theorem cutE_lt {kvs : List E3} {k : PyData} {v : V} (h : vV kvs k = some v) : (cutE kvs k).length + 1 ≤ kvs.length := by
  induction kvs with
  | nil => cases h
  | cons x r ih =>
    have l := cutE_len (kvs := r) (k := k)
    rw [vV_cons] at h
    unfold cutE at l ih ⊢
    by_cases hx : x.1 = k
    · rw [List.filter_cons_of_neg (by simpa using hx), List.length_cons]
      omega
    · rw [if_neg hx] at h
      rw [List.filter_cons_of_pos (by simpa using hx), List.length_cons, List.length_cons]
      have := ih h
      omega
open Classical in
theorem vV_mem {kvs : List E3} {k : PyData} {v : V} (h : vV kvs k = some v) : k ∈ kvs.map (·.1) := by
  unfold vV at h
  obtain ⟨q, hq, _⟩ := Option.map_eq_some_iff.mp h
  have h2 := List.find?_some hq
  exact List.mem_map.mpr ⟨q, List.mem_of_find?_eq_some hq, of_decide_eq_true h2⟩
open Classical in
theorem vV_none {kvs : List E3} {k : PyData} (h : vV kvs k = none) : k ∉ kvs.map (·.1) := fun hm => by
  unfold vV at h
  rw [Option.map_eq_none_iff, List.find?_eq_none] at h
  obtain ⟨q, hq, e⟩ := List.mem_map.mp hm
  exact h q hq (by simpa using e)
open Classical in
theorem put_keys {kvs : List E3} {k : PyData} {y v : V} : (putE kvs k y v).map (·.1) = if (vV kvs k).isSome then kvs.map (·.1) else kvs.map (·.1) ++ [k] := by
  unfold putE
  split
  · rw [List.map_map]
    apply List.map_congr_left
    intro x _
    simp only [Function.comp]
    split <;> rfl
  · rw [List.map_append]; rfl
theorem put_nd {kvs : List E3} {k : PyData} {y v : V} (h : (kvs.map (·.1)).Nodup) : ((putE kvs k y v).map (·.1)).Nodup := by
  rw [put_keys]
  split
  · exact h
  · next hk =>
    have hn : vV kvs k = none := by simpa using hk
    rw [List.nodup_append]
    exact ⟨h, by simp, fun a ha b hb => by rw [List.mem_singleton] at hb; subst hb; exact fun z => vV_none hn (z ▸ ha)⟩
theorem cut_nd {kvs : List E3} {k : PyData} (h : (kvs.map (·.1)).Nodup) : ((cutE kvs k).map (·.1)).Nodup := h.sublist (List.filter_sublist.map _)
theorem KKs.put {H : Hp} {kvs : List E3} {k : PyData} {y v : V} (h : KKs H kvs) (hk : KIs H y k) : KKs H (putE kvs k y v) := fun e he => by
  unfold putE at he
  split at he
  · obtain ⟨x, hx, rfl⟩ := List.mem_map.mp he
    split
    · exact h x hx
    · exact h x hx
  · rcases List.mem_append.mp he with z | z
    · exact h e z
    · rw [List.mem_singleton] at z
      subst z
      exact hk
theorem KKs.cut {H : Hp} {kvs : List E3} {k : PyData} (h : KKs H kvs) : KKs H (cutE kvs k) := fun e he => h e (List.mem_filter.mp he).1
theorem KKs.nil {H : Hp} : KKs H [] := fun e he => nomatch he
/-! ### the two lists beside each other -/
theorem rel_keys : ∀ {kvs : List E3} {xs : List En3}, Paired Rel3 kvs xs → kvs.map (·.1) = xs.map (·.1)
  | _, _, .nil => rfl
  | _, _, .cons r t => by rw [List.map_cons, List.map_cons, r.1, rel_keys t]
open Classical in
theorem vAt_cons {x : En3} {r : List En3} {k : PyData} : vAt (x :: r) k = if x.1 = k then some x.2.2 else vAt r k := by
  unfold vAt
  by_cases h : x.1 = k
  · rw [List.find?_cons_of_pos (by simpa using h), if_pos h]; rfl
  · rw [List.find?_cons_of_neg (by simpa using h), if_neg h]
open Classical in
theorem rel_val {k : PyData} : ∀ {kvs : List E3} {xs : List En3}, Paired Rel3 kvs xs → RelO (vV kvs k) (vAt xs k)
  | _, _, .nil => trivial
  | _, _, @Paired.cons _ _ _ p q ps qs r t => by
    rw [vV_cons, vAt_cons, r.1]
    by_cases h : q.1 = k
    · rw [if_pos h, if_pos h]; exact r.2.2
    · rw [if_neg h, if_neg h]; exact rel_val t
theorem relO_some {a : Option V} {b : Option Value} (h : RelO a b) : a.isSome = b.isSome := by
  cases a <;> cases b <;> first | rfl | exact h.elim
theorem relO_getD {a : Option V} {b : Option Value} {z : V} {u : Value} (h : RelO a b) (r : RelV z u) : RelV (a.getD z) (b.getD u) := by
  cases a <;> cases b <;> first | exact r | exact h | exact h.elim
theorem rel_app : ∀ {a b : List E3} {c d : List En3}, Paired Rel3 a c → Paired Rel3 b d → Paired Rel3 (a ++ b) (c ++ d)
  | _, _, _, _, .nil, s => s
  | _, _, _, _, .cons r t, s => .cons r (rel_app t s)
open Classical in
theorem rel_mapP {k : PyData} {v : V} {u : Value} (hv : RelV v u) : ∀ {kvs : List E3} {xs : List En3}, Paired Rel3 kvs xs → Paired Rel3 (kvs.map fun x => if x.1 = k then (x.1, x.2.1, v) else x) (xs.map fun x => if x.1 = k then (x.1, x.2.1, u) else x)
  | _, _, .nil => .nil
  | _, _, @Paired.cons _ _ _ p q ps qs r t => by
    rw [List.map_cons, List.map_cons]
    refine .cons ?_ (rel_mapP hv t)
    by_cases e : q.1 = k
    · rw [if_pos e, if_pos (r.1.trans e)]; exact ⟨r.1, r.2.1, hv⟩
    · rw [if_neg e, if_neg fun z => e (r.1.symm.trans z)]; exact r
open Classical in
theorem rel_put {k : PyData} {y v : V} {g u : Value} (hy : RelV y g) (hv : RelV v u) {kvs : List E3} {xs : List En3} (h : Paired Rel3 kvs xs) : Paired Rel3 (putE kvs k y v) (put3 xs k g u) := by
  unfold putE put3
  rw [relO_some (rel_val (k := k) h)]
  split
  · exact rel_mapP hv h
  · exact rel_app h (.cons ⟨rfl, hy, hv⟩ .nil)
open Classical in
theorem rel_cut {k : PyData} : ∀ {kvs : List E3} {xs : List En3}, Paired Rel3 kvs xs → Paired Rel3 (cutE kvs k) (cut3 xs k)
  | _, _, .nil => .nil
  | _, _, @Paired.cons _ _ _ p q ps qs r t => by
    have ih := rel_cut (k := k) t
    unfold cutE cut3 at ih ⊢
    by_cases e : q.1 = k
    · rw [List.filter_cons_of_neg (by simpa using r.1.trans e), List.filter_cons_of_neg (by simpa using e)]; exact ih
    · rw [List.filter_cons_of_pos (by rw [r.1]; simpa using e), List.filter_cons_of_pos (by simpa using e)]; exact .cons r ih
/-! ### the heap -/
theorem dnφ_stay {w : World} {a : Addr} {kvs : List E3} : ∀ h1 h2 : Heap, DNφ w a kvs h1 → (∀ o, h1.get? a = some o → h2.get? a = some o) → DNφ w a kvs h2 := fun _ _ ⟨z, m, n, xs, r, o, es, ep, ho, c⟩ k => ⟨z, m, n, xs, r, o, es, ep, k _ ho, c⟩
theorem dno_ok {P : Program} {w : World} {H : Hp} {h : Heap} {a : Addr} {kvs : List E3} {xs : List En3} (z : kvs.length ≤ sizeLine) (hs : (a == sysModules) = false) (nd : (kvs.map (·.1)).Nodup) (r : Paired Rel3 kvs xs) (d : DNh w h a xs) : ObjOk P w H h a (DNo w a kvs) := by
  have d' := d
  obtain ⟨o, es, ep, ho, _⟩ := d'
  exact ⟨⟨z, hs, nd, xs, r, d⟩, ⟨o, ho⟩, dnφ_stay⟩
section
variable {X : Cx} {pins : List (Addr × Obj)} {σ : St} {H : Hp} {s : Shared} {a : Addr} {y d : V} {u r : Value} {A : Around} {E : Value → Shared → Prop} {kvs : List E3} {k : PyData}
theorem kAt_of (I : Inv X pins σ H s) (h : KIs H y k) (ry : RelV y u) : KAt s u k := ⟨h.2.1, h.2.2, h.1.lay, (h.1.has (K := X.K)).reads I ry⟩
theorem rel_mem {q : En3} : ∀ {kvs : List E3} {xs : List En3}, Paired Rel3 kvs xs → q ∈ xs → ∃ p ∈ kvs, Rel3 p q
  | _, _, .cons r t, h => by
    rcases List.mem_cons.mp h with rfl | h
    · exact ⟨_, .head _, r⟩
    · obtain ⟨p, hp, e⟩ := rel_mem t h
      exact ⟨p, .tail _ hp, e⟩
theorem dn_of (I : Inv X pins σ H s) (e : H a = some (DNo X.w a kvs)) (hK : KKs H kvs) : ∃ xs, kvs.length ≤ sizeLine ∧ (a == sysModules) = false ∧ (xs.map (·.1)).Nodup ∧ (kvs.map (·.1)).Nodup ∧ Paired Rel3 kvs xs ∧ DNh X.w s.heap a xs ∧ ∀ x ∈ xs, KAt s x.2.1 x.1 := by
  obtain ⟨⟨z, m, n, xs, rl, dd⟩, _⟩ := I.hok a _ e
  refine ⟨xs, z, m, rel_keys rl ▸ n, n, rl, dd, fun x hx => ?_⟩
  obtain ⟨p, hp, r1, r2, r3⟩ := rel_mem rl hx
  rw [← r1]
  exact kAt_of I (hK p hp) r2
theorem dn_type (I : Inv X pins σ H s) (e : H a = some (DNo X.w a kvs)) : s.TypeIs (.ref a) "dict" ∧ (∀ b, Value.ref a = .ref b → ∃ ob, s.heap.get? b = some ob ∧ ob.dict = none) := by
  obtain ⟨⟨z, m, n, xs, rl, dd⟩, _⟩ := I.hok a _ e
  refine ⟨dd.typeIs, fun b q => ?_⟩
  cases q
  obtain ⟨ob, es, ep, h1, h2, _⟩ := dd
  exact ⟨ob, h1, h2.2.1⟩
theorem dn_get2 {Q : Value → Shared → Prop} (hu : A.in1.units + 8 < cLine) (I : Inv X pins σ H s) (e : H a = some (DNo X.w a kvs)) (hK : KKs H kvs) (hk : KIs H y k) (ry : RelV y u) (rd : RelV d r) (h : ∀ w' s', Inv X pins σ H s' → RelV ((vV kvs k).getD d) w' → Q w' s') :
    wpAny (model X.prog X.w) A (call (.builtin "dict.get") [.ref a, u, r]) Q E s := by
  obtain ⟨xs, z, m, nx, n, rl, dd, hx⟩ := dn_of I e hK
  have M : MeetsIn X.prog X.w (Builtin.«dict.get» ⟨[.ref a, u, r], []⟩) (fun A R s => A.in1.units + 8 < cLine ∧ KAt s u k ∧ DNh X.w s.heap a xs ∧ (∀ x ∈ xs, KAt s x.2.1 x.1) ∧ R (.ok (.ret ((vAt xs k).getD r))) { s with toks := s.toks + drD k }) :=
    .of_wp fun A R s ⟨hu, hk, hd, hx, h⟩ => by
      change wpAny _ _ (dictGet a u >>= _) _ _ s
      refine wpAny_bind (get_n hu hk hd hx nx ?_)
      cases hf : vAt xs k with
      | some v => rw [hf] at h; exact wpAny_pure ⟨v, rfl, h⟩
      | none => rw [hf] at h; change wpAny _ _ (Builtin.Dict.missed a u >>= _) _ _ _; exact wpAny_bind (wpAny_missed_other m (wpAny_pure ⟨r, rfl, h⟩))
  exact call_meetsIn PySem.F.slot_dict_get dd.typeIs PySem.F.entry_dict_get (PySem.F.args_dict_get_3 _ _ _) M ⟨hu, kAt_of I hk ry, dd, hx, h _ _ (I.tok _) (relO_getD (rel_val rl) rd)⟩
theorem dn_getItem {v : V} {Q : Value → Shared → Prop} (hu : A.in1.units + 8 < cLine) (I : Inv X pins σ H s) (e : H a = some (DNo X.w a kvs)) (hK : KKs H kvs) (hk : KIs H y k) (ry : RelV y u) (hv : vV kvs k = some v) (h : ∀ w' s', Inv X pins σ H s' → RelV v w' → Q w' s') :
    wpAny (model X.prog X.w) A (getItem (.ref a) u) Q E s := by
  obtain ⟨xs, z, m, nx, n, rl, dd, hx⟩ := dn_of I e hK
  have ro := rel_val (k := k) rl
  rw [hv] at ro
  cases hf : vAt xs k with
  | none => rw [hf] at ro; exact ro.elim
  | some g =>
    rw [hf] at ro
    unfold getItem
    try with_reducible refine wpAny_holding ?_
    refine wpAny_bind (wpAny_sequenceKey dd.typeIs (by decide) (wpAny_bind (wpAny_callSpecial?_slot (name := Str.ofString "__getitem__") dd.typeIs PySem.F.slot_dict_getitem (wpAny_call_entry PySem.F.slot_dict_getitem dd.typeIs PySem.F.entry_dict_getitem ?_ (args_dict_getitem _ _)))))
    change wpAny _ _ (dictGet a u >>= _) _ _ s
    refine wpAny_bind (get_n hu (kAt_of I hk ry) dd hx nx ?_)
    rw [hf]
    exact wpAny_pure ⟨g, rfl, wpAny_pure (h g _ (I.tok _) ro)⟩
theorem dn_setItem {v : V} {Q : Unit → Shared → Prop} (hu : A.in1.units + 8 < cLine) (I : Inv X pins σ H s) (e : H a = some (DNo X.w a kvs)) (hK : KKs H kvs) (hk : KIs H y k) (hl : kvs.length < sizeLine) (ry : RelV y u) (rv : RelV v r) (h : ∀ s', Inv X pins σ (upd H a (DNo X.w a (putE kvs k y v))) s' → Q () s') :
    wpAny (model X.prog X.w) A (setItem (.ref a) u r) Q E s := by
  obtain ⟨xs, z, m, nx, n, rl, dd, hx⟩ := dn_of I e hK
  have hz : xs.length ≤ sizeLine := by rw [← Paired.length rl]; exact z
  unfold setItem
  try with_reducible refine wpAny_holding ?_
  refine wpAny_bind (wpAny_sequenceKey dd.typeIs (by decide) (wpAny_bind (wpAny_callSpecial?_slot (name := Str.ofString "__setitem__") dd.typeIs PySem.F.slot_dict_setitem (wpAny_call_entry PySem.F.slot_dict_setitem dd.typeIs PySem.F.entry_dict_setitem ?_ (args_dict_setitem _ _ _)))))
  change wpAny _ _ (Builtin.Dict.notOrdered "__setitem__" ⟨[.ref a, u, r], []⟩ >>= _) _ _ s
  refine wpAny_bind (wpAny_notOrdered_dict dd.typeIs ?_)
  change wpAny _ _ (dictSet a u r >>= _) _ _ s
  refine wpAny_bind (set_n hu (kAt_of I hk ry) dd hx nx hz fun h' dd' hs => wpAny_pure ⟨.none, rfl, wpAny_pure (h _ ?_)⟩)
  have dd2 := dd'
  obtain ⟨q, es, ep, hq, _⟩ := dd2
  exact d_write I (by rw [e]; exact True.intro) hs ⟨q, hq⟩ (dno_ok (by have := putE_len (kvs := kvs) (k := k) (y := y) (v := v); omega) m (put_nd n) (rel_put ry rv rl) dd')
theorem dn_pop {v : V} {Q : Value → Shared → Prop} (hu : A.in1.units + 8 < cLine) (I : Inv X pins σ H s) (e : H a = some (DNo X.w a kvs)) (hK : KKs H kvs) (hk : KIs H y k) (ry : RelV y u) (hv : vV kvs k = some v) (h : ∀ w' s', Inv X pins σ (upd H a (DNo X.w a (cutE kvs k))) s' → RelV v w' → Q w' s') :
    wpAny (model X.prog X.w) A (call (.builtin "dict.pop") [.ref a, u]) Q E s := by
  obtain ⟨xs, z, m, nx, n, rl, dd, hx⟩ := dn_of I e hK
  have hz : xs.length ≤ sizeLine := by rw [← Paired.length rl]; exact z
  have ro := rel_val (k := k) rl
  rw [hv] at ro
  cases hf : vAt xs k with
  | none => rw [hf] at ro; exact ro.elim
  | some g =>
    rw [hf] at ro
    refine pop_n hu (kAt_of I hk ry) dd hx nx hz hf fun h' dd' hs => h g _ ?_ ro
    have dd2 := dd'
    obtain ⟨q, es, ep, hq, _⟩ := dd2
    exact d_write I (by rw [e]; exact True.intro) hs ⟨q, hq⟩ (dno_ok (Nat.le_trans cutE_len z) m (cut_nd n) (rel_cut rl) dd')
end
/-! ### readings and rules -/
def tNG2 (w : World) (td ty tx : TE) : TE := fun σ H Q => td σ H fun x H1 => ∃ a kvs, x = .ref a ∧ H1 a = some (DNo w a kvs) ∧ ty σ H1 fun y H2 => tx σ H2 fun z H3 => ∃ kvs2 k, H3 a = some (DNo w a kvs2) ∧ KKs H3 kvs2 ∧ KIs H3 y k ∧ Q ((vV kvs2 k).getD z) H3
def tNIx (w : World) (td ty : TE) : TE := fun σ H Q => td σ H fun x H1 => ty σ H1 fun y H2 => ∃ a kvs k v, x = .ref a ∧ H2 a = some (DNo w a kvs) ∧ KKs H2 kvs ∧ KIs H2 y k ∧ vV kvs k = some v ∧ Q v H2
def tNPop (w : World) (td ty : TE) : TE := fun σ H Q => td σ H fun x H1 => ∃ a kvs, x = .ref a ∧ H1 a = some (DNo w a kvs) ∧ ty σ H1 fun y H2 => ∃ kvs2 k v, H2 a = some (DNo w a kvs2) ∧ KKs H2 kvs2 ∧ KIs H2 y k ∧ vV kvs2 k = some v ∧ Q v (upd H2 a (DNo w a (cutE kvs2 k)))
def sNPut (w : World) (td ty tv : TE) : TS := fun D σ H => tv σ H fun v H1 => td σ H1 fun x H2 => ty σ H2 fun y H3 => ∃ a kvs k, x = .ref a ∧ H3 a = some (DNo w a kvs) ∧ KKs H3 kvs ∧ KIs H3 y k ∧ kvs.length < sizeLine ∧ D.nx σ (upd H3 a (DNo w a (putE kvs k y v)))
def tNNew (w : World) : TE := fun _ H Q => ∀ p, H p = none → Q (.ref p) (upd H p (DNo w p []))
section
variable {X : Cx} {o i e f value : Expr} {td ty tx tv : TE} {apos cpos pos pos' : Pos} {w : World}
theorem pe_ng2 (hu : X.A.units + 64 < cLine) (ho : PE X o td) (he : PE X e ty) (hf : PE X f tx) (m : M2 X o "get" apos e f cpos) (hw : X.w = w := by rfl) : PE X (.Call (.Attribute o "get" apos) [e, f] [] cpos) (tNG2 w td ty tx) := by
  subst hw
  intro pins s σ H Q I h
  refine wpAny_Call_method m.base m.few m.line PySem.F.plainAttrs_dict PySem.F.slot_dict_get PySem.F.type_dict_get (thn (ho pins s σ H _ I h) fun u s1 ⟨x, H1, I1, rx, a, kvs, ex, ed, q1⟩ => ?_)
  subst ex
  obtain rfl : u = Value.ref a := rx
  obtain ⟨t1, t2⟩ := dn_type I1 ed
  refine ⟨t1, t2, ?_⟩
  rw [m.trees]
  refine Calls.callWith_builtin rfl (Calls.evalArgs_plain (Calls.spliced_cons (thn (he pins s1 σ H1 _ I1 q1) fun iv s2 ⟨y, H2, I2, ry, q2⟩ =>
    Calls.spliced_cons (thn (hf pins s2 σ H2 _ I2 q2) fun fv s3 ⟨z, H3, I3, rz, kvs2, k, ed2, hK, hk, q3⟩ => Calls.spliced_nil ?_))))
  exact dn_get2 (by change X.A.units + 1 + 8 < cLine; omega) I3 ed2 hK hk ry rz fun w' s4 I4 rw' => ⟨_, H3, I4, rw', q3⟩
theorem pe_nix (hu : X.A.units + 64 < cLine) (ho : PE X o td) (hi : PE X i ty) (hs : NoSl i) (hw : X.w = w := by rfl) : PE X (.Subscript o i pos) (tNIx w td ty) := by
  subst hw
  intro pins s σ H Q I h
  refine subD_of PySem.F.slot_dict_getitem.lookup hs (thn (ho pins s σ H _ I h) fun u s1 ⟨x, H1, I1, rx, q1⟩ => thn (hi pins s1 σ H1 _ I1 q1) fun iv s2 ⟨y, H2, I2, ry, a, kvs, k, v, ex, ed, hK, hk, hv, q2⟩ => ?_)
  subst ex
  obtain rfl : u = Value.ref a := rx
  exact ⟨(dn_type I2 ed).1, dn_getItem (by change X.A.units + 1 + 8 < cLine; omega) I2 ed hK hk ry hv fun w' s3 I3 rw' => ⟨v, H2, I3, rw', q2⟩⟩
theorem pe_npop (hu : X.A.units + 64 < cLine) (ho : PE X o td) (he : PE X e ty) (m : M1 X o "pop" apos e cpos) (hw : X.w = w := by rfl) : PE X (.Call (.Attribute o "pop" apos) [e] [] cpos) (tNPop w td ty) := by
  subst hw
  intro pins s σ H Q I h
  refine wpAny_Call_method m.base m.few m.line PySem.F.plainAttrs_dict PySem.F.slot_dict_pop PySem.F.type_dict_pop (thn (ho pins s σ H _ I h) fun u s1 ⟨x, H1, I1, rx, a, kvs, ex, ed, q1⟩ => ?_)
  subst ex
  obtain rfl : u = Value.ref a := rx
  obtain ⟨t1, t2⟩ := dn_type I1 ed
  refine ⟨t1, t2, ?_⟩
  rw [m.trees]
  refine Calls.callWith_builtin rfl (Calls.evalArgs_plain (Calls.spliced_cons (thn (he pins s1 σ H1 _ I1 q1) fun iv s2 ⟨y, H2, I2, ry, kvs2, k, v, ed2, hK, hk, hv, q2⟩ => Calls.spliced_nil ?_)))
  exact dn_pop (by change X.A.units + 1 + 8 < cLine; omega) I2 ed2 hK hk ry hv fun w' s3 I3 rw' => ⟨v, _, I3, rw', q2⟩
theorem ps_nput (hu : X.A.units + 64 < cLine) (ho : PE X o td) (hi : PE X i ty) (hv : PE X value tv) (hs : swapsWith value (some (.Subscript o i pos')) pos.line X.env = pure false) (hw : X.w = w := by rfl) :
    PS X (.Assign [.Subscript o i pos'] value pos) (sNPut w td ty tv) := by
  subst hw
  intro pins s σ H D I h
  refine wpAny_Assign_Subscript (thn (hv pins s σ H _ I h) fun r s1 ⟨v, H1, I1, rv, q1⟩ => thn (ho pins s1 σ H1 _ I1 q1) fun u s2 ⟨x, H2, I2, rx, q2⟩ => thn (hi pins s2 σ H2 _ I2 q2) fun iv s3 ⟨y, H3, I3, ry, a, kvs, k, ex, ed, hK, hk, hl, q3⟩ => ?_) hs
  subst ex
  obtain rfl : u = Value.ref a := rx
  exact dn_setItem (by change X.A.units + 1 + 8 < cLine; omega) I3 ed hK hk hl ry rv fun s4 I4 => ⟨σ, _, I4, q3⟩
theorem pe_nnew (hw : X.w = w := by rfl) : PE X (.Dict [] [] pos) (tNNew w) := by
  subst hw
  intro pins s σ H Q I h
  refine wpAny_Dict_empty ⟨.ref s.heap.objs.size, _, I.laid (a := s.heap.objs.size) (o := DNo X.w s.heap.objs.size []) (t' := s.toks) (fun _ _ q => Heap.get?_push_of_some _ q) (Nat.le_refl _) ?_, rfl, h _ (I.hok.fresh (Nat.le_refl _))⟩
  exact dno_ok (xs := []) (Nat.zero_le _) (beq_eq_false_iff_ne.mpr (Ne.symm (Nat.ne_of_lt I.big))) List.nodup_nil .nil ⟨_, #[], 0, Heap.get?_push_size _ rfl, ⟨rfl, rfl, rfl⟩, rfl, rfl⟩
end
end L2
namespace K31
open PySem L2
def top (i : Nat) : Stmt := PySem.Challenge.pw_roadnet_k31_what_waits_at_a_gate.main.body.getD i (.Pass ⟨0, 0, 0, 0⟩)
section
variable {P : Program} {w : World} {K : PySem.W.Frag} {mg : Str → Option Value} {base : Heap}
abbrev s_own_copy : Stmt := top 1
theorem sc_own_copy : FnScope ["thing"] ["thing"] (defScope s_own_copy) := ⟨rfl, rfl, rfl, by decide +kernel, rfl, by decide +kernel, by decide +kernel⟩
theorem cs_own_copy_1 : CScope ["part"] [] { kind := .function, names := [(".0", .local), ("part", .local), ("own_copy", .globalImplicit)], isGenerator := false, isCoroutine := false, more := [] } (defScope s_own_copy) := ⟨rfl, by decide +kernel, by decide +kernel, by decide +kernel, by decide +kernel, by decide +kernel⟩
theorem own_cpy0 (D : Def K mg "own_copy" s_own_copy) (hb : Blt mg) : Own P w K mg base 1 "own_copy" ["thing"] (sp_cpy 0) := by
  refine D.own sc_own_copy (fun _ _ _ _ _ _ us hl => match us, hl with | [_], _ => rfl) (fun vs H Q E h => ?_) (fun f cdv A outer s H vs Q E hr h => ?_)
  · obtain ⟨v, d, rfl, _⟩ := h
    rfl
  · obtain ⟨v, d, rfl, hv, hd, q⟩ := h
    refine ⟨_, (pss_cons (ps_if (pt_truK K (pe_callB (call_isiK K) rfl (hb _ (by decide)) bt_isinstance (pa_cons (pv 0) (pa_cons (pe_bltn (v := .ty "list") rfl (hb _ (by decide)) bt_list rfl) pa_nil))))
      (pss_one ps_never)
      pss_nil)
      (pss_cons (ps_if (pt_truK K (pe_callB (call_isiK K) rfl (hb _ (by decide)) bt_isinstance (pa_cons (pv 0) (pa_cons (pe_bltn (v := .ty "tuple") rfl (hb _ (by decide)) bt_tuple rfl) pa_nil))))
      (pss_one ps_never)
      pss_nil)
      (pss_cons (ps_if (pt_truK K (pe_callB (call_isiK K) rfl (hb _ (by decide)) bt_isinstance (pa_cons (pv 0) (pa_cons (pe_bltn (v := .ty "dict") rfl (hb _ (by decide)) bt_dict rfl) pa_nil))))
      (pss_one ps_never)
      pss_nil)
      (pss_one (ps_ret (pv 0)))))), ?_⟩
    cases hv with
    | non =>
      simp only [tFor_eq, tComp_eq, tDGs, sDPs, rIsB, rIsntB, tMeth, tMake, tDGet, sDPut, tFld, sFld, tDisp, tPairs, tNever, decide_true, decide_false, truV_bl, clsV_ty, V.ty.injEq, exists_eq', exists_eq, Bool.not_true, Bool.not_false, Bool.not_not, rLen, rListOf, rTupOf, rAny, rAll, rIsI, tTru, iRng1, iRng2, iList, tYes, cSt, List.drop_succ_cons, List.drop_zero, cxOf_K, cxC_K,  tBM, tBM0, rAppend, tSl, rSlL, tNoPart, tPart, rIxL, rIxT, rCat, List.cons.injEq, rEq_ii, rNe_ii, rEq_bb, rNe_bb, tSeq, exists_and_left, if_false, if_true, reduceIte, Bool.false_eq_true, tIfS, tAnd, tOr, tNot, tTest, tOp, tUn, tVar, tC, rI, rI0, rU, tRet, tRetN, tAsg, gName, tNext, tAndV, tOrV, tNotV, tIf, tCall, tCons, tNil, tCB, tDrop, tLst, tTup, tChain, L2.start, List.map_cons, List.map_nil, List.length_cons, List.length_nil, List.replicate, List.cons_append, List.nil_append, List.getElem?_cons_zero, List.getElem?_cons_succ, List.set_cons_zero, List.set_cons_succ, Option.some.injEq, exists_eq_left', exists_eq_left, V.int.injEq, V.bl.injEq, V.ref.injEq, V.str.injEq, exists_const, and_true, true_and, reduceCtorEq, false_and, exists_false, or_false, false_or, and_assoc, List.append_nil]
      exact ⟨_, .non, _, kitI_nl K, iteF ⟨_, .non, _, kitI_nt K, iteF ⟨_, .non, _, kitI_nd K, iteF (q _ _ (Same.refl _) .non)⟩⟩⟩
    | bl b =>
      simp only [tFor_eq, tComp_eq, tDGs, sDPs, rIsB, rIsntB, tMeth, tMake, tDGet, sDPut, tFld, sFld, tDisp, tPairs, tNever, decide_true, decide_false, truV_bl, clsV_ty, V.ty.injEq, exists_eq', exists_eq, Bool.not_true, Bool.not_false, Bool.not_not, rLen, rListOf, rTupOf, rAny, rAll, rIsI, tTru, iRng1, iRng2, iList, tYes, cSt, List.drop_succ_cons, List.drop_zero, cxOf_K, cxC_K,  tBM, tBM0, rAppend, tSl, rSlL, tNoPart, tPart, rIxL, rIxT, rCat, List.cons.injEq, rEq_ii, rNe_ii, rEq_bb, rNe_bb, tSeq, exists_and_left, if_false, if_true, reduceIte, Bool.false_eq_true, tIfS, tAnd, tOr, tNot, tTest, tOp, tUn, tVar, tC, rI, rI0, rU, tRet, tRetN, tAsg, gName, tNext, tAndV, tOrV, tNotV, tIf, tCall, tCons, tNil, tCB, tDrop, tLst, tTup, tChain, L2.start, List.map_cons, List.map_nil, List.length_cons, List.length_nil, List.replicate, List.cons_append, List.nil_append, List.getElem?_cons_zero, List.getElem?_cons_succ, List.set_cons_zero, List.set_cons_succ, Option.some.injEq, exists_eq_left', exists_eq_left, V.int.injEq, V.bl.injEq, V.ref.injEq, V.str.injEq, exists_const, and_true, true_and, reduceCtorEq, false_and, exists_false, or_false, false_or, and_assoc, List.append_nil]
      exact ⟨_, .bl b, _, kitI_bl K, iteF ⟨_, .bl b, _, kitI_bt K, iteF ⟨_, .bl b, _, kitI_bd K, iteF (q _ _ (Same.refl _) (.bl b))⟩⟩⟩
    | int n =>
      simp only [tFor_eq, tComp_eq, tDGs, sDPs, rIsB, rIsntB, tMeth, tMake, tDGet, sDPut, tFld, sFld, tDisp, tPairs, tNever, decide_true, decide_false, truV_bl, clsV_ty, V.ty.injEq, exists_eq', exists_eq, Bool.not_true, Bool.not_false, Bool.not_not, rLen, rListOf, rTupOf, rAny, rAll, rIsI, tTru, iRng1, iRng2, iList, tYes, cSt, List.drop_succ_cons, List.drop_zero, cxOf_K, cxC_K,  tBM, tBM0, rAppend, tSl, rSlL, tNoPart, tPart, rIxL, rIxT, rCat, List.cons.injEq, rEq_ii, rNe_ii, rEq_bb, rNe_bb, tSeq, exists_and_left, if_false, if_true, reduceIte, Bool.false_eq_true, tIfS, tAnd, tOr, tNot, tTest, tOp, tUn, tVar, tC, rI, rI0, rU, tRet, tRetN, tAsg, gName, tNext, tAndV, tOrV, tNotV, tIf, tCall, tCons, tNil, tCB, tDrop, tLst, tTup, tChain, L2.start, List.map_cons, List.map_nil, List.length_cons, List.length_nil, List.replicate, List.cons_append, List.nil_append, List.getElem?_cons_zero, List.getElem?_cons_succ, List.set_cons_zero, List.set_cons_succ, Option.some.injEq, exists_eq_left', exists_eq_left, V.int.injEq, V.bl.injEq, V.ref.injEq, V.str.injEq, exists_const, and_true, true_and, reduceCtorEq, false_and, exists_false, or_false, false_or, and_assoc, List.append_nil]
      exact ⟨_, .int n, _, kit_il K, iteF ⟨_, .int n, _, kit_it K, iteF ⟨_, .int n, _, kit_id K, iteF (q _ _ (Same.refl _) (.int n))⟩⟩⟩
    | str ok =>
      simp only [tFor_eq, tComp_eq, tDGs, sDPs, rIsB, rIsntB, tMeth, tMake, tDGet, sDPut, tFld, sFld, tDisp, tPairs, tNever, decide_true, decide_false, truV_bl, clsV_ty, V.ty.injEq, exists_eq', exists_eq, Bool.not_true, Bool.not_false, Bool.not_not, rLen, rListOf, rTupOf, rAny, rAll, rIsI, tTru, iRng1, iRng2, iList, tYes, cSt, List.drop_succ_cons, List.drop_zero, cxOf_K, cxC_K,  tBM, tBM0, rAppend, tSl, rSlL, tNoPart, tPart, rIxL, rIxT, rCat, List.cons.injEq, rEq_ii, rNe_ii, rEq_bb, rNe_bb, tSeq, exists_and_left, if_false, if_true, reduceIte, Bool.false_eq_true, tIfS, tAnd, tOr, tNot, tTest, tOp, tUn, tVar, tC, rI, rI0, rU, tRet, tRetN, tAsg, gName, tNext, tAndV, tOrV, tNotV, tIf, tCall, tCons, tNil, tCB, tDrop, tLst, tTup, tChain, L2.start, List.map_cons, List.map_nil, List.length_cons, List.length_nil, List.replicate, List.cons_append, List.nil_append, List.getElem?_cons_zero, List.getElem?_cons_succ, List.set_cons_zero, List.set_cons_succ, Option.some.injEq, exists_eq_left', exists_eq_left, V.int.injEq, V.bl.injEq, V.ref.injEq, V.str.injEq, exists_const, and_true, true_and, reduceCtorEq, false_and, exists_false, or_false, false_or, and_assoc, List.append_nil]
      exact ⟨_, .str _, _, kit_sl K, iteF ⟨_, .str _, _, kit_st K, iteF ⟨_, .str _, _, kit_sd K, iteF (q _ _ (Same.refl _) (.str ok))⟩⟩⟩
    | tup e hx hl => rw [PyData.depth] at hd; omega
theorem own_cpyS {n : Nat} (D : Def K mg "own_copy" s_own_copy) (hb : Blt mg) (F_own_copy : Own P w K mg base (n + 1) "own_copy" ["thing"] (sp_cpy n)) : Own P w K mg base (n + 2) "own_copy" ["thing"] (sp_cpy (n + 1)) := by
  refine D.own sc_own_copy (fun _ _ _ _ _ _ us hl => match us, hl with | [_], _ => rfl) (fun vs H Q E h => ?_) (fun f cdv A outer s H vs Q E hr h => ?_)
  · obtain ⟨v, d, rfl, _⟩ := h
    rfl
  · obtain ⟨v, d, rfl, hv, hd, q⟩ := h
    refine ⟨_, (pss_cons (ps_if (pt_truK K (pe_callB (call_isiK K) rfl (hb _ (by decide)) bt_isinstance (pa_cons (pv 0) (pa_cons (pe_bltn (v := .ty "list") rfl (hb _ (by decide)) bt_list rfl) pa_nil))))
      (pss_one ps_never)
      pss_nil)
      (pss_cons (ps_if (pt_truK K (pe_callB (call_isiK K) rfl (hb _ (by decide)) bt_isinstance (pa_cons (pv 0) (pa_cons (pe_bltn (v := .ty "tuple") rfl (hb _ (by decide)) bt_tuple rfl) pa_nil))))
      (pss_one (ps_ret (pe_callTy (call_tupleK K) rfl (hb _ (by decide)) bt_tuple (pa_cons (pe_comp ["part"] [] [] rfl cs_own_copy_1 (pi_tupK K (pv 0)) (fun _ _ _ _ => (pg_name (i := 0) cs_own_copy_1.nd rfl (by first | exact Or.inl rfl | exact Or.inr rfl))) (fun _ _ _ _ => pf_nil) (fun _ _ _ _ => (pe_fn F_own_copy hr (pa_cons (pv 0) pa_nil) (Nat.le_refl _)))) pa_nil))))
      pss_nil)
      (pss_cons (ps_if (pt_truK K (pe_callB (call_isiK K) rfl (hb _ (by decide)) bt_isinstance (pa_cons (pv 0) (pa_cons (pe_bltn (v := .ty "dict") rfl (hb _ (by decide)) bt_dict rfl) pa_nil))))
      (pss_one ps_never)
      pss_nil)
      (pss_one (ps_ret (pv 0)))))), ?_⟩
    cases hv with
    | non =>
      simp only [tFor_eq, tComp_eq, tDGs, sDPs, rIsB, rIsntB, tMeth, tMake, tDGet, sDPut, tFld, sFld, tDisp, tPairs, tNever, decide_true, decide_false, truV_bl, clsV_ty, V.ty.injEq, exists_eq', exists_eq, Bool.not_true, Bool.not_false, Bool.not_not, rLen, rListOf, rTupOf, rAny, rAll, rIsI, tTru, iRng1, iRng2, iList, tYes, cSt, List.drop_succ_cons, List.drop_zero, cxOf_K, cxC_K,  tBM, tBM0, rAppend, tSl, rSlL, tNoPart, tPart, rIxL, rIxT, rCat, List.cons.injEq, rEq_ii, rNe_ii, rEq_bb, rNe_bb, tSeq, exists_and_left, if_false, if_true, reduceIte, Bool.false_eq_true, tIfS, tAnd, tOr, tNot, tTest, tOp, tUn, tVar, tC, rI, rI0, rU, tRet, tRetN, tAsg, gName, tNext, tAndV, tOrV, tNotV, tIf, tCall, tCons, tNil, tCB, tDrop, tLst, tTup, tChain, L2.start, List.map_cons, List.map_nil, List.length_cons, List.length_nil, List.replicate, List.cons_append, List.nil_append, List.getElem?_cons_zero, List.getElem?_cons_succ, List.set_cons_zero, List.set_cons_succ, Option.some.injEq, exists_eq_left', exists_eq_left, V.int.injEq, V.bl.injEq, V.ref.injEq, V.str.injEq, exists_const, and_true, true_and, reduceCtorEq, false_and, exists_false, or_false, false_or, and_assoc, List.append_nil]
      exact ⟨_, .non, _, kitI_nl K, iteF ⟨_, .non, _, kitI_nt K, iteF ⟨_, .non, _, kitI_nd K, iteF (q _ _ (Same.refl _) .non)⟩⟩⟩
    | bl b =>
      simp only [tFor_eq, tComp_eq, tDGs, sDPs, rIsB, rIsntB, tMeth, tMake, tDGet, sDPut, tFld, sFld, tDisp, tPairs, tNever, decide_true, decide_false, truV_bl, clsV_ty, V.ty.injEq, exists_eq', exists_eq, Bool.not_true, Bool.not_false, Bool.not_not, rLen, rListOf, rTupOf, rAny, rAll, rIsI, tTru, iRng1, iRng2, iList, tYes, cSt, List.drop_succ_cons, List.drop_zero, cxOf_K, cxC_K,  tBM, tBM0, rAppend, tSl, rSlL, tNoPart, tPart, rIxL, rIxT, rCat, List.cons.injEq, rEq_ii, rNe_ii, rEq_bb, rNe_bb, tSeq, exists_and_left, if_false, if_true, reduceIte, Bool.false_eq_true, tIfS, tAnd, tOr, tNot, tTest, tOp, tUn, tVar, tC, rI, rI0, rU, tRet, tRetN, tAsg, gName, tNext, tAndV, tOrV, tNotV, tIf, tCall, tCons, tNil, tCB, tDrop, tLst, tTup, tChain, L2.start, List.map_cons, List.map_nil, List.length_cons, List.length_nil, List.replicate, List.cons_append, List.nil_append, List.getElem?_cons_zero, List.getElem?_cons_succ, List.set_cons_zero, List.set_cons_succ, Option.some.injEq, exists_eq_left', exists_eq_left, V.int.injEq, V.bl.injEq, V.ref.injEq, V.str.injEq, exists_const, and_true, true_and, reduceCtorEq, false_and, exists_false, or_false, false_or, and_assoc, List.append_nil]
      exact ⟨_, .bl b, _, kitI_bl K, iteF ⟨_, .bl b, _, kitI_bt K, iteF ⟨_, .bl b, _, kitI_bd K, iteF (q _ _ (Same.refl _) (.bl b))⟩⟩⟩
    | int n =>
      simp only [tFor_eq, tComp_eq, tDGs, sDPs, rIsB, rIsntB, tMeth, tMake, tDGet, sDPut, tFld, sFld, tDisp, tPairs, tNever, decide_true, decide_false, truV_bl, clsV_ty, V.ty.injEq, exists_eq', exists_eq, Bool.not_true, Bool.not_false, Bool.not_not, rLen, rListOf, rTupOf, rAny, rAll, rIsI, tTru, iRng1, iRng2, iList, tYes, cSt, List.drop_succ_cons, List.drop_zero, cxOf_K, cxC_K,  tBM, tBM0, rAppend, tSl, rSlL, tNoPart, tPart, rIxL, rIxT, rCat, List.cons.injEq, rEq_ii, rNe_ii, rEq_bb, rNe_bb, tSeq, exists_and_left, if_false, if_true, reduceIte, Bool.false_eq_true, tIfS, tAnd, tOr, tNot, tTest, tOp, tUn, tVar, tC, rI, rI0, rU, tRet, tRetN, tAsg, gName, tNext, tAndV, tOrV, tNotV, tIf, tCall, tCons, tNil, tCB, tDrop, tLst, tTup, tChain, L2.start, List.map_cons, List.map_nil, List.length_cons, List.length_nil, List.replicate, List.cons_append, List.nil_append, List.getElem?_cons_zero, List.getElem?_cons_succ, List.set_cons_zero, List.set_cons_succ, Option.some.injEq, exists_eq_left', exists_eq_left, V.int.injEq, V.bl.injEq, V.ref.injEq, V.str.injEq, exists_const, and_true, true_and, reduceCtorEq, false_and, exists_false, or_false, false_or, and_assoc, List.append_nil]
      exact ⟨_, .int n, _, kit_il K, iteF ⟨_, .int n, _, kit_it K, iteF ⟨_, .int n, _, kit_id K, iteF (q _ _ (Same.refl _) (.int n))⟩⟩⟩
    | str ok =>
      simp only [tFor_eq, tComp_eq, tDGs, sDPs, rIsB, rIsntB, tMeth, tMake, tDGet, sDPut, tFld, sFld, tDisp, tPairs, tNever, decide_true, decide_false, truV_bl, clsV_ty, V.ty.injEq, exists_eq', exists_eq, Bool.not_true, Bool.not_false, Bool.not_not, rLen, rListOf, rTupOf, rAny, rAll, rIsI, tTru, iRng1, iRng2, iList, tYes, cSt, List.drop_succ_cons, List.drop_zero, cxOf_K, cxC_K,  tBM, tBM0, rAppend, tSl, rSlL, tNoPart, tPart, rIxL, rIxT, rCat, List.cons.injEq, rEq_ii, rNe_ii, rEq_bb, rNe_bb, tSeq, exists_and_left, if_false, if_true, reduceIte, Bool.false_eq_true, tIfS, tAnd, tOr, tNot, tTest, tOp, tUn, tVar, tC, rI, rI0, rU, tRet, tRetN, tAsg, gName, tNext, tAndV, tOrV, tNotV, tIf, tCall, tCons, tNil, tCB, tDrop, tLst, tTup, tChain, L2.start, List.map_cons, List.map_nil, List.length_cons, List.length_nil, List.replicate, List.cons_append, List.nil_append, List.getElem?_cons_zero, List.getElem?_cons_succ, List.set_cons_zero, List.set_cons_succ, Option.some.injEq, exists_eq_left', exists_eq_left, V.int.injEq, V.bl.injEq, V.ref.injEq, V.str.injEq, exists_const, and_true, true_and, reduceCtorEq, false_and, exists_false, or_false, false_or, and_assoc, List.append_nil]
      exact ⟨_, .str _, _, kit_sl K, iteF ⟨_, .str _, _, kit_st K, iteF ⟨_, .str _, _, kit_sd K, iteF (q _ _ (Same.refl _) (.str ok))⟩⟩⟩
    | @tup p xs ds e hx hl =>
      rw [PyData.depth] at hd
      simp only [tFor_eq, tComp_eq, tDGs, sDPs, rIsB, rIsntB, tMeth, tMake, tDGet, sDPut, tFld, sFld, tDisp, tPairs, tNever, decide_true, decide_false, truV_bl, clsV_ty, V.ty.injEq, exists_eq', exists_eq, Bool.not_true, Bool.not_false, Bool.not_not, rLen, rListOf, rTupOf, rAny, rAll, rIsI, tTru, iRng1, iRng2, iList, tYes, cSt, List.drop_succ_cons, List.drop_zero, cxOf_K, cxC_K,  tBM, tBM0, rAppend, tSl, rSlL, tNoPart, tPart, rIxL, rIxT, rCat, List.cons.injEq, rEq_ii, rNe_ii, rEq_bb, rNe_bb, tSeq, exists_and_left, if_false, if_true, reduceIte, Bool.false_eq_true, tIfS, tAnd, tOr, tNot, tTest, tOp, tUn, tVar, tC, rI, rI0, rU, tRet, tRetN, tAsg, gName, tNext, tAndV, tOrV, tNotV, tIf, tCall, tCons, tNil, tCB, tDrop, tLst, tTup, tChain, L2.start, List.map_cons, List.map_nil, List.length_cons, List.length_nil, List.replicate, List.cons_append, List.nil_append, List.getElem?_cons_zero, List.getElem?_cons_succ, List.set_cons_zero, List.set_cons_succ, Option.some.injEq, exists_eq_left', exists_eq_left, V.int.injEq, V.bl.injEq, V.ref.injEq, V.str.injEq, exists_const, and_true, true_and, reduceCtorEq, false_and, exists_false, or_false, false_or, and_assoc, List.append_nil, iTup]
      refine ⟨_, .tup e, _, kit_tl K, iteF ⟨_, .tup e, _, kit_tt K, iteT ⟨⟨_, SqT.of e⟩, comp_tup (K := K) (xs := xs) (Nat.le_of_lt (small1000 hl)) (fun D i acc H' => Same H H' ∧ H' D = some (.lst acc) ∧ Ims H' acc (ds.take i)) (fun D hD => ⟨Same.upd_new hD, upd_same, .nil⟩) ?_ ?_ ?_⟩⟩⟩
      · rintro D i acc H' hD hi ⟨s1, e1, h1⟩
        have := h1.len
        rw [List.length_take] at this
        exact ⟨e1, SqT.of (s1 _ _ e), by omega⟩
      · rintro D i x acc H' hD hi ⟨s1, e1, h1⟩
        obtain ⟨d, hd', hxd⟩ := hx.get hi
        simp only [tFor_eq, tComp_eq, tDGs, sDPs, rIsB, rIsntB, tMeth, tMake, tDGet, sDPut, tFld, sFld, tDisp, tPairs, tNever, decide_true, decide_false, truV_bl, clsV_ty, V.ty.injEq, exists_eq', exists_eq, Bool.not_true, Bool.not_false, Bool.not_not, rLen, rListOf, rTupOf, rAny, rAll, rIsI, tTru, iRng1, iRng2, iList, tYes, cSt, List.drop_succ_cons, List.drop_zero, cxOf_K, cxC_K,  tBM, tBM0, rAppend, tSl, rSlL, tNoPart, tPart, rIxL, rIxT, rCat, List.cons.injEq, rEq_ii, rNe_ii, rEq_bb, rNe_bb, tSeq, exists_and_left, if_false, if_true, reduceIte, Bool.false_eq_true, tIfS, tAnd, tOr, tNot, tTest, tOp, tUn, tVar, tC, rI, rI0, rU, tRet, tRetN, tAsg, gName, tNext, tAndV, tOrV, tNotV, tIf, tCall, tCons, tNil, tCB, tDrop, tLst, tTup, tChain, L2.start, List.map_cons, List.map_nil, List.length_cons, List.length_nil, List.replicate, List.cons_append, List.nil_append, List.getElem?_cons_zero, List.getElem?_cons_succ, List.set_cons_zero, List.set_cons_succ, Option.some.injEq, exists_eq_left', exists_eq_left, V.int.injEq, V.bl.injEq, V.ref.injEq, V.str.injEq, exists_const, and_true, true_and, reduceCtorEq, false_and, exists_false, or_false, false_or, and_assoc, List.append_nil, sp_cpy, List.map_cons, Option.join_some]
        refine ⟨d, hxd.same s1, Nat.le_trans (le_depthAll (List.mem_of_getElem? hd')) (by omega), fun v' H2 s2 h2 => ⟨s2 _ _ e1, (s1.trans s2).upd hD, upd_same, ?_⟩⟩
        have k : Keep [D] H2 (upd H2 D (.lst (acc ++ [v']))) := Keep.refl.upd (.inl (.head _))
        have hs : ∀ b ∈ [D], NoT H2 b := fun b hb => by rw [List.mem_singleton] at hb; subst hb; exact .of_lst (s2 _ _ e1)
        rw [List.take_add_one, hd', Option.toList_some]
        exact ((h1.same s2).keep k hs).app (.one (h2.keep k hs))
      · rintro D acc H' hD ⟨s1, e1, h1⟩
        rw [hx.len, List.take_length] at h1
        refine ⟨D, rfl, acc, .inl ⟨SqL.of e1, fun l hl' => ?_⟩⟩
        refine q _ _ (s1.trans (Same.upd_new hl')) (.tup upd_same (h1.same (Same.upd_new hl')) ?_)
        have := h1.len
        have := hx.len
        omega
theorem own_cpy (D : Def K mg "own_copy" s_own_copy) (hb : Blt mg) : ∀ n, Own P w K mg base (n + 1) "own_copy" ["thing"] (sp_cpy n)
  | 0 => own_cpy0 D hb
  | n + 1 => own_cpyS D hb (own_cpy D hb n)
abbrev s__law_digits : Stmt := top 6
theorem sc__law_digits : FnScope ["_law_cell", "_law_size", "_law_many", "_law_found", "_law_mix", "_law_rest", "_law_k"] ["_law_cell", "_law_size", "_law_many"] (defScope s__law_digits) := ⟨rfl, rfl, rfl, by decide +kernel, rfl, by decide +kernel, by decide +kernel⟩
def sp_digits : Sp := fun vs H Q _ => ∃ (c n m : Int), vs = [.int c, .int n, .int m] ∧ 1 ≤ n ∧ n ≤ 100000 ∧ 0 ≤ m ∧ m ≤ 100 ∧ ∀ (r : Addr) (ds : List Int) (H' : Hp), H r = none → H' r = some (.lst (ds.map V.int)) → (ds.length : Int) = m → (∀ d ∈ ds, 0 ≤ d ∧ d < n) → Same H H' → Q (.ref r) H'
def Ldg (c n m : Int) (r : Addr) (H : Hp) (i : Nat) (σ : St) (H' : Hp) : Prop := ∃ (mix rest : Int) (v6 : Option V) (ds : List Int), σ = [some (.int c), some (.int n), some (.int m), some (.ref r), some (.int mix), some (.int rest), v6] ∧ 0 ≤ mix ∧ mix < 2147483647 ∧
  Same H H' ∧ H' r = some (.lst (ds.map V.int)) ∧ ds.length = i ∧ ∀ d ∈ ds, 0 ≤ d ∧ d < n
theorem own_digits (D : Def K mg "_law_digits" s__law_digits) (hb : Blt mg) : Own P w K mg base 1 "_law_digits" ["_law_cell", "_law_size", "_law_many"] sp_digits := by
  refine D.own sc__law_digits (fun _ _ _ _ _ _ us hl => match us, hl with | [_, _, _], _ => rfl) (fun vs H Q E h => ?_) (fun f cdv A outer s H vs Q E hr h => ?_)
  · obtain ⟨c, n, m, rfl, _⟩ := h
    rfl
  · obtain ⟨c, n, m, rfl, hn1, hn2, hm0, hm1, q⟩ := h
    refine ⟨_, (pss_cons (ps_set (i := 3) sc__law_digits.nd rfl (by first | exact Or.inl rfl | exact Or.inr rfl) (pe_lst pa_nil))
      (pss_cons (ps_set (i := 4) sc__law_digits.nd rfl (by first | exact Or.inl rfl | exact Or.inr rfl) (pe_op op_mod (pe_op op_mul (pe_op op_add (pv 0) pe_int) pe_int) pe_int))
      (pss_cons (ps_set (i := 5) sc__law_digits.nd rfl (by first | exact Or.inl rfl | exact Or.inr rfl) (pe_op op_fdiv (pv 0) pe_int))
      (pss_cons (ps_for PassesOwn.never rfl (pi_range1 rfl (hb _ (by decide)) (pa_cons (pv 2) pa_nil)) (pg_name (i := 6) sc__law_digits.nd rfl (by first | exact Or.inl rfl | exact Or.inr rfl))
      (pss_cons (ps_set (i := 4) sc__law_digits.nd rfl (by first | exact Or.inl rfl | exact Or.inr rfl) (pe_op op_mod (pe_op op_mul (pe_op op_add (pe_op op_add (pv 4) (pe_op op_mul pe_int (pv 6))) pe_int) (pe_op op_add (pe_op op_fdiv (pv 4) pe_int) pe_int)) pe_int))
      (pss_cons (ps_expr (pe_bm PySem.F.plainAttrs_list PySem.F.slot_list_append PySem.F.type_list_append mt_append (pv 3) (pa_cons (pe_ix (ix_listK K) (pe_lst (pa_cons (pe_op op_mod (pe_op op_fdiv (pv 4) pe_int) (pv 1)) (pa_cons (pe_op op_mod (pv 5) (pv 1)) pa_nil))) (pe_callTy call_int1 rfl (hb _ (by decide)) bt_int (pa_cons (pe_and (pe_cmpR op_eq (pe_op op_mod (pv 0) pe_int) pe_int (nomark _)) (pe_one (pe_cmpR op_gt (pv 5) pe_int (nomark _)))) pa_nil)) (fun _ _ => rfl)) pa_nil)))
      (pss_one (ps_set (i := 5) sc__law_digits.nd rfl (by first | exact Or.inl rfl | exact Or.inr rfl) (pe_op op_fdiv (pv 5) (pv 1)))))))
      (pss_one (ps_ret (pv 3))))))), ?_⟩
    simp only [tFor_eq, tComp_eq, tDGs, sDPs, rIsB, rIsntB, tMeth, tMake, tDGet, sDPut, tFld, sFld, tDisp, tPairs, tNever, decide_true, decide_false, truV_bl, clsV_ty, V.ty.injEq, exists_eq', exists_eq, Bool.not_true, Bool.not_false, Bool.not_not, rLen, rListOf, rTupOf, rAny, rAll, rIsI, tTru, iRng1, iRng2, iList, tYes, cSt, List.drop_succ_cons, List.drop_zero, cxOf_K, cxC_K,  tBM, tBM0, rAppend, tSl, rSlL, tNoPart, tPart, rIxL, rIxT, rCat, List.cons.injEq, rEq_ii, rNe_ii, rEq_bb, rNe_bb, tSeq, exists_and_left, if_false, if_true, reduceIte, Bool.false_eq_true, tIfS, tAnd, tOr, tNot, tTest, tOp, tUn, tVar, tC, rI, rI0, rU, tRet, tRetN, tAsg, gName, tNext, tAndV, tOrV, tNotV, tIf, tCall, tCons, tNil, tCB, tDrop, tLst, tTup, tChain, L2.start, List.map_cons, List.map_nil, List.length_cons, List.length_nil, List.replicate, List.cons_append, List.nil_append, List.getElem?_cons_zero, List.getElem?_cons_succ, List.set_cons_zero, List.set_cons_succ, Option.some.injEq, exists_eq_left', exists_eq_left, V.int.injEq, V.bl.injEq, V.ref.injEq, V.str.injEq, exists_const, and_true, true_and, reduceCtorEq, false_and, exists_false, or_false, false_or, and_assoc, List.append_nil]
    refine ⟨Nat.zero_le _, fun r hr' => ⟨.inr ⟨by decide, by decide⟩, by decide, ⟨by decide, by decide⟩, by omega, by omega, for_range (n := m.toNat) (Ldg c n m r H) ⟨_, _, none, [], rfl, Int.emod_nonneg _ (by decide), Int.emod_lt_of_pos _ (by decide), Same.upd_new hr', upd_same, rfl, (fun d hd => nomatch hd)⟩ ?_ ?_⟩⟩
    · rintro i σ H1 hi ⟨mix, rest, v6, ds, rfl, hx0, hx1, s1, e1, hl, hv⟩
      simp only [tFor_eq, tComp_eq, tDGs, sDPs, rIsB, rIsntB, tMeth, tMake, tDGet, sDPut, tFld, sFld, tDisp, tPairs, tNever, decide_true, decide_false, truV_bl, clsV_ty, V.ty.injEq, exists_eq', exists_eq, Bool.not_true, Bool.not_false, Bool.not_not, rLen, rListOf, rTupOf, rAny, rAll, rIsI, tTru, iRng1, iRng2, iList, tYes, cSt, List.drop_succ_cons, List.drop_zero, cxOf_K, cxC_K,  tBM, tBM0, rAppend, tSl, rSlL, tNoPart, tPart, rIxL, rIxT, rCat, List.cons.injEq, rEq_ii, rNe_ii, rEq_bb, rNe_bb, tSeq, exists_and_left, if_false, if_true, reduceIte, Bool.false_eq_true, tIfS, tAnd, tOr, tNot, tTest, tOp, tUn, tVar, tC, rI, rI0, rU, tRet, tRetN, tAsg, gName, tNext, tAndV, tOrV, tNotV, tIf, tCall, tCons, tNil, tCB, tDrop, tLst, tTup, tChain, L2.start, List.map_cons, List.map_nil, List.length_cons, List.length_nil, List.replicate, List.cons_append, List.nil_append, List.getElem?_cons_zero, List.getElem?_cons_succ, List.set_cons_zero, List.set_cons_succ, Option.some.injEq, exists_eq_left', exists_eq_left, V.int.injEq, V.bl.injEq, V.ref.injEq, V.str.injEq, exists_const, and_true, true_and, reduceCtorEq, false_and, exists_false, or_false, false_or, and_assoc, List.append_nil]
      have hmix : 0 ≤ (mix + 7919 * (0 + (i : Int)) + 1) * (mix / 1009 + 69621) % 2147483647 ∧ (mix + 7919 * (0 + (i : Int)) + 1) * (mix / 1009 + 69621) % 2147483647 < 2147483647 := ⟨Int.emod_nonneg _ (by decide), Int.emod_lt_of_pos _ (by decide)⟩
      refine ⟨.inl ⟨by decide, by decide⟩, ⟨by decide, by decide⟩, .inl ⟨by omega, by omega⟩, by decide, .inl ⟨rfl, _, SqL.of e1⟩, ?_⟩
      generalize (mix + 7919 * (0 + (i : Int)) + 1) * (mix / 1009 + 69621) % 2147483647 = mx at hmix ⊢
      refine ⟨⟨by decide, by decide⟩, by omega, by omega, by decide, fun p hp => ⟨by decide, ?_⟩⟩
      have hA : 0 ≤ mx / 7 % n ∧ mx / 7 % n < n := ⟨Int.emod_nonneg _ (by omega), Int.emod_lt_of_pos _ (by omega)⟩
      have hB : 0 ≤ rest % n ∧ rest % n < n := ⟨Int.emod_nonneg _ (by omega), Int.emod_lt_of_pos _ (by omega)⟩
      generalize mx / 7 % n = x1 at hA ⊢
      generalize rest % n = x2 at hB ⊢
      generalize h2 : upd H1 p _ = H2
      obtain ⟨s2, e2⟩ := new_same h2 hp
      have go : ∀ k : Int, 0 ≤ k → k < 2 → ∃ x, SqL K H2 p x ∧ ∃ x_1, atI x k = some x_1 ∧ ∃ x, H2 r = some (.lst x) ∧ x.length < sizeLine ∧ CDiv rest n ∧ Ldg c n m r H (i + 1) [some (V.int c), some (V.int n), some (V.int m), some (V.ref r), some (V.int mx), some (V.int (rest / n)), some (V.int (0 + (i : Int)))] (upd H2 r (.lst (x ++ [x_1]))) := by
        intro k hk0 hk1
        obtain ⟨v, hv', ev⟩ := atI_in (xs := [V.int x1, V.int x2]) (k := k) hk0 (by simp only [List.length_cons, List.length_nil]; omega)
        obtain ⟨z, rfl, hz⟩ : ∃ z : Int, v = .int z ∧ 0 ≤ z ∧ z < n := by
          simp only [List.mem_cons, List.not_mem_nil, or_false] at hv'
          rcases hv' with rfl | rfl
          · exact ⟨_, rfl, hA⟩
          · exact ⟨_, rfl, hB⟩
        refine ⟨_, SqL.of e2, _, ev, _, s2 _ _ e1, small1000 (by rw [List.length_map]; omega), ⟨by omega, by omega⟩, mx, _, _, ds ++ [z], rfl, hmix.1, hmix.2, (s1.trans s2).upd hr', by rw [List.map_append]; exact upd_same, by rw [List.length_append, hl]; rfl, fun d hd => ?_⟩
        rcases List.mem_append.mp hd with y | y
        · exact hv d y
        · rw [List.mem_singleton] at y
          subst y
          exact hz
      refine ite2 (fun _ => go _ ?_ ?_) (fun _ => go _ ?_ ?_)
      all_goals first | (split <;> decide) | decide
    · rintro σ H1 ⟨mix, rest, v6, ds, rfl, hx0, hx1, s1, e1, hl, hv⟩
      simp only [tFor_eq, tComp_eq, tDGs, sDPs, rIsB, rIsntB, tMeth, tMake, tDGet, sDPut, tFld, sFld, tDisp, tPairs, tNever, decide_true, decide_false, truV_bl, clsV_ty, V.ty.injEq, exists_eq', exists_eq, Bool.not_true, Bool.not_false, Bool.not_not, rLen, rListOf, rTupOf, rAny, rAll, rIsI, tTru, iRng1, iRng2, iList, tYes, cSt, List.drop_succ_cons, List.drop_zero, cxOf_K, cxC_K,  tBM, tBM0, rAppend, tSl, rSlL, tNoPart, tPart, rIxL, rIxT, rCat, List.cons.injEq, rEq_ii, rNe_ii, rEq_bb, rNe_bb, tSeq, exists_and_left, if_false, if_true, reduceIte, Bool.false_eq_true, tIfS, tAnd, tOr, tNot, tTest, tOp, tUn, tVar, tC, rI, rI0, rU, tRet, tRetN, tAsg, gName, tNext, tAndV, tOrV, tNotV, tIf, tCall, tCons, tNil, tCB, tDrop, tLst, tTup, tChain, L2.start, List.map_cons, List.map_nil, List.length_cons, List.length_nil, List.replicate, List.cons_append, List.nil_append, List.getElem?_cons_zero, List.getElem?_cons_succ, List.set_cons_zero, List.set_cons_succ, Option.some.injEq, exists_eq_left', exists_eq_left, V.int.injEq, V.bl.injEq, V.ref.injEq, V.str.injEq, exists_const, and_true, true_and, reduceCtorEq, false_and, exists_false, or_false, false_or, and_assoc, List.append_nil]
      exact q r ds H1 hr' e1 (by omega) hv s1
abbrev s__law_cell_at : Stmt := top 5
theorem sc__law_cell_at : FnScope ["_law_script", "_law_k"] ["_law_script", "_law_k"] (defScope s__law_cell_at) := ⟨rfl, rfl, rfl, by decide +kernel, rfl, by decide +kernel, by decide +kernel⟩
def sp_cell (K : PySem.W.Frag) : Sp := fun vs H Q _ => ∃ (a : Addr) (ns : List Int) (k : Int), vs = [.ref a, .int k] ∧ 0 ≤ k ∧ SqL K H a (ns.map V.int) ∧ ∀ r : Int, Q (.int r) H
theorem own_cell (D : Def K mg "_law_cell_at" s__law_cell_at) (hb : Blt mg) : Own P w K mg base 1 "_law_cell_at" ["_law_script", "_law_k"] (sp_cell K) := by
  refine D.own sc__law_cell_at (fun _ _ _ _ _ _ us hl => match us, hl with | [_, _], _ => rfl) (fun vs H Q E h => ?_) (fun f cdv A outer s H vs Q E hr h => ?_)
  · obtain ⟨a, ns, k, rfl, _⟩ := h
    rfl
  · obtain ⟨a, ns, k, rfl, hk, hS, q⟩ := h
    refine ⟨_, (pss_cons (ps_if (pt_cmpR op_lt (pv 1) (pe_callB (call_lenK K) rfl (hb _ (by decide)) bt_len (pa_cons (pv 0) pa_nil)) (nomark _))
      (pss_one (ps_ret (pe_ix (ix_listK K) (pv 0) (pv 1) (fun _ _ => rfl))))
      pss_nil)
      (pss_one (ps_ret pe_int))), ?_⟩
    simp only [tDGs, sDPs, rIsB, rIsntB, tMeth, tMake, tDGet, sDPut, tFld, sFld, tDisp, tPairs, tNever, decide_true, decide_false, truV_bl, clsV_ty, V.ty.injEq, exists_eq', exists_eq, Bool.not_true, Bool.not_false, Bool.not_not, rLen, rListOf, rTupOf, rAny, rAll, rIsI, tTru, iRng1, iRng2, iList, tYes, cSt, List.drop_succ_cons, List.drop_zero, cxOf_K, cxC_K,  tBM, tBM0, rAppend, tSl, rSlL, tNoPart, tPart, rIxL, rIxT, rCat, List.cons.injEq, rEq_ii, rNe_ii, rEq_bb, rNe_bb, tSeq, exists_and_left, if_false, if_true, reduceIte, Bool.false_eq_true, tIfS, tAnd, tOr, tNot, tTest, tOp, tUn, tVar, tC, rI, rI0, rU, tRet, tRetN, tAsg, gName, tNext, tAndV, tOrV, tNotV, tIf, tCall, tCons, tNil, tCB, tDrop, tLst, tTup, tChain, L2.start, List.map_cons, List.map_nil, List.length_cons, List.length_nil, List.replicate, List.cons_append, List.nil_append, List.getElem?_cons_zero, List.getElem?_cons_succ, List.set_cons_zero, List.set_cons_succ, Option.some.injEq, exists_eq_left', exists_eq_left, V.int.injEq, V.bl.injEq, V.ref.injEq, V.str.injEq, exists_const, and_true, true_and, reduceCtorEq, false_and, exists_false, or_false, false_or, and_assoc, List.append_nil]
    refine ⟨_, .inl hS, ite2 (fun h => ?_) (fun _ => q 0)⟩
    have h' := of_decide_eq_true h
    obtain ⟨v, hv, ev⟩ := atI_in (xs := ns.map V.int) hk h'
    obtain ⟨z, _, rfl⟩ := List.mem_map.mp hv
    exact ⟨_, hS, _, ev, q z⟩
end
open Classical
/-! ### keys in a row, with the parcels that wait under each -/
abbrev Rw := List (PyData × List PyData)
noncomputable def nums (S : Rw) (k : PyData) : List PyData := ((S.find? fun q => decide (q.1 = k)).map (·.2)).getD []
noncomputable def putS : Rw → PyData → PyData → Rw
  | [], k, v => [(k, [v])]
  | q :: r, k, v => if q.1 = k then (q.1, q.2 ++ [v]) :: r else q :: putS r k v
noncomputable def nextS (k : PyData) (vs : List PyData) (r : Rw) : Rw := if vs = [] then r else r ++ [(k, vs)]
noncomputable def outS : Nat → Rw → List PyData × Rw
  | 0, S => ([], S)
  | _ + 1, [] => ([], [])
  | _ + 1, (k, []) :: r => ([], (k, []) :: r)
  | n + 1, (k, v :: vs) :: r => (v :: (outS n (nextS k vs r)).1, (outS n (nextS k vs r)).2)
def allN (S : Rw) : List PyData := S.flatMap (·.2)
structure Ok (S : Rw) : Prop where
  nd : (S.map (·.1)).Nodup
  ne : ∀ q ∈ S, q.2 ≠ []
  kd : ∀ k ∈ S.map (·.1), Kd k ∧ k.depth ≤ 8
  dp : ∀ k, ∀ d ∈ nums S k, d.depth ≤ 5
theorem nums_cons {q : PyData × List PyData} {r : Rw} {k : PyData} : nums (q :: r) k = if q.1 = k then q.2 else nums r k := by
  unfold nums
  by_cases h : q.1 = k
  · rw [List.find?_cons_of_pos (by simpa using h), if_pos h]; rfl
  · rw [List.find?_cons_of_neg (by simpa using h), if_neg h]
theorem nums_out {S : Rw} {k : PyData} (h : k ∉ S.map (·.1)) : nums S k = [] := by
  induction S with
  | nil => rfl
  | cons q r ih =>
    rw [List.map_cons, List.mem_cons, not_or] at h
    rw [nums_cons, if_neg (Ne.symm h.1)]
    exact ih h.2
theorem nums_of {S : Rw} (h : (S.map (·.1)).Nodup) {q : PyData × List PyData} (hq : q ∈ S) : nums S q.1 = q.2 := by
  induction S with
  | nil => cases hq
  | cons p r ih =>
    rw [List.map_cons, List.nodup_cons] at h
    rw [nums_cons]
    rcases List.mem_cons.mp hq with rfl | hq
    · rw [if_pos rfl]
    · rw [if_neg (fun z => h.1 (by rw [z]; exact List.mem_map_of_mem hq))]
      exact ih h.2 hq
theorem nums_mem {S : Rw} {k n : PyData} (h : n ∈ nums S k) : k ∈ S.map (·.1) := by
  by_cases hk : k ∈ S.map (·.1)
  · exact hk
  · rw [nums_out hk] at h; cases h
theorem putS_keys {S : Rw} {k v : PyData} : (putS S k v).map (·.1) = if k ∈ S.map (·.1) then S.map (·.1) else S.map (·.1) ++ [k] := by
  induction S with
  | nil => simp [putS]
  | cons q r ih =>
    unfold putS
    by_cases h : q.1 = k
    · rw [if_pos h, List.map_cons, List.map_cons, if_pos (by simp [h])]
    · rw [if_neg h, List.map_cons, List.map_cons, ih]
      by_cases hk : k ∈ r.map (·.1)
      · rw [if_pos hk, if_pos (List.mem_cons_of_mem _ hk)]
      · rw [if_neg hk, if_neg (by rw [List.mem_cons, not_or]; exact ⟨Ne.symm h, hk⟩)]; rfl
theorem putS_nums {S : Rw} {k v j : PyData} : nums (putS S k v) j = if j = k then nums S k ++ [v] else nums S j := by
  induction S with
  | nil =>
    unfold putS
    rw [nums_cons]
    by_cases h : j = k
    · subst h; simp [nums]
    · rw [if_neg (Ne.symm h), if_neg h]
  | cons q r ih =>
    unfold putS
    by_cases h : q.1 = k
    · rw [if_pos h, nums_cons, nums_cons, nums_cons, if_pos h]
      by_cases hj : j = k
      · subst hj; rw [if_pos h, if_pos rfl]
      · rw [if_neg (fun z => hj (z.symm.trans h)), if_neg hj, if_neg (fun z => hj (z.symm.trans h))]
    · rw [if_neg h, nums_cons, nums_cons, nums_cons, ih, if_neg h]
      by_cases hj : j = k
      · subst hj; simp [h]
      · rw [if_neg hj, if_neg hj]
theorem putS_ok {S : Rw} {k v : PyData} (h : Ok S) (hk : Kd k ∧ k.depth ≤ 8) (hv : v.depth ≤ 5) : Ok (putS S k v) := by
  refine ⟨?_, ?_, fun j hj => ?_, fun j d hd => ?_⟩
  · rw [putS_keys]
    split
    · exact h.nd
    · next hk =>
      rw [List.nodup_append]
      exact ⟨h.nd, by simp, fun a ha b hb => by rw [List.mem_singleton] at hb; subst hb; exact fun z => hk (z ▸ ha)⟩
  · have ne := h.ne
    clear h
    induction S with
    | nil => intro q hq; unfold putS at hq; rw [List.mem_singleton] at hq; subst hq; simp
    | cons p r ih =>
      intro q hq
      unfold putS at hq
      split at hq
      · rcases List.mem_cons.mp hq with rfl | hq
        · simp
        · exact ne q (.tail _ hq)
      · rcases List.mem_cons.mp hq with rfl | hq
        · exact ne _ (.head _)
        · exact ih (fun q hq => ne q (.tail _ hq)) q hq
  · rw [putS_keys] at hj
    split at hj
    · exact h.kd j hj
    · rcases List.mem_append.mp hj with z | z
      · exact h.kd j z
      · rw [List.mem_singleton] at z
        subst z
        exact hk
  · rw [putS_nums] at hd
    split at hd
    · rcases List.mem_append.mp hd with z | z
      · exact h.dp _ d z
      · rw [List.mem_singleton] at z
        subst z
        exact hv
    · exact h.dp _ d hd
theorem nums_app {S : Rw} {k : PyData} {vs : List PyData} {j : PyData} (h : k ∉ S.map (·.1)) : nums (S ++ [(k, vs)]) j = if j = k then vs else nums S j := by
  induction S with
  | nil =>
    rw [List.nil_append, nums_cons]
    by_cases e : j = k
    · rw [if_pos e.symm, if_pos e]
    · rw [if_neg (Ne.symm e), if_neg e]
  | cons q r ih =>
    rw [List.map_cons, List.mem_cons, not_or] at h
    rw [List.cons_append, nums_cons, nums_cons, ih h.2]
    by_cases e : j = k
    · subst e; rw [if_neg (Ne.symm h.1), if_pos rfl, if_pos rfl]
    · rw [if_neg e, if_neg e]
theorem nextS_nums {k v : PyData} {vs : List PyData} {r : Rw} (nd : (((k, v :: vs) :: r).map (·.1)).Nodup) {j : PyData} : nums (nextS k vs r) j = if j = k then vs else nums ((k, v :: vs) :: r) j := by
  rw [List.map_cons, List.nodup_cons] at nd
  rw [nums_cons]
  unfold nextS
  split
  · next hv =>
    subst hv
    by_cases e : j = k
    · subst e; rw [if_pos rfl, nums_out nd.1]
    · rw [if_neg e, if_neg (Ne.symm e)]
  · rw [nums_app nd.1]
    by_cases e : j = k
    · rw [if_pos e, if_pos e]
    · rw [if_neg e, if_neg e, if_neg (Ne.symm e)]
theorem nextS_ok {k v : PyData} {vs : List PyData} {r : Rw} (h : Ok ((k, v :: vs) :: r)) : Ok (nextS k vs r) := by
  have nd := h.nd
  rw [List.map_cons, List.nodup_cons] at nd
  have ne := h.ne
  refine ⟨?_, ?_, ?_, fun j d hd => ?_⟩
  · unfold nextS
    split
    · exact nd.2
    · rw [List.map_append, List.nodup_append]
      refine ⟨nd.2, by simp, fun a ha b hb => ?_⟩
      simp at hb
      subst hb
      exact fun z => nd.1 (z ▸ ha)
  · unfold nextS
    split
    · exact fun q hq => ne q (.tail _ hq)
    · next hv =>
      intro q hq
      rcases List.mem_append.mp hq with z | z
      · exact ne q (.tail _ z)
      · rw [List.mem_singleton] at z
        subst z
        exact hv
  · intro j hj
    refine h.kd j ?_
    unfold nextS at hj
    rw [List.map_cons]
    split at hj
    · exact .tail _ hj
    · rw [List.map_append] at hj
      rcases List.mem_append.mp hj with z | z
      · exact .tail _ z
      · simp at z
        subst z
        exact .head _
  · rw [nextS_nums h.nd] at hd
    split at hd
    · exact h.dp k d (by rw [nums_cons, if_pos rfl]; exact .tail _ hd)
    · exact h.dp j d hd
theorem outS_dep : ∀ {n : Nat} {S : Rw}, Ok S → ∀ d ∈ (outS n S).1, d.depth ≤ 5
  | 0, S, h, d, hd => nomatch hd
  | n + 1, [], h, d, hd => nomatch hd
  | n + 1, (k, []) :: r, h, d, hd => nomatch hd
  | n + 1, (k, v :: vs) :: r, h, d, hd => by
    unfold outS at hd
    rcases List.mem_cons.mp hd with rfl | hd
    · exact h.dp k _ (by rw [nums_cons, if_pos rfl]; exact .head _)
    · exact outS_dep (nextS_ok h) d hd
theorem outS_len : ∀ {n : Nat} {S : Rw}, (outS n S).1.length ≤ n
  | 0, S => Nat.le_refl _
  | n + 1, [] => Nat.zero_le _
  | n + 1, (k, []) :: r => Nat.zero_le _
  | n + 1, (k, v :: vs) :: r => by
    unfold outS
    exact Nat.succ_le_succ outS_len
theorem allN_next {k v : PyData} {vs : List PyData} {r : Rw} : (allN ((k, v :: vs) :: r)).length = (allN (nextS k vs r)).length + 1 := by
  unfold nextS allN
  split
  · next h => subst h; simp
  · rw [List.flatMap_append]
    simp
    omega
theorem outS_all : ∀ {n : Nat} {S : Rw}, Ok S → (allN S).length ≤ n → (outS n S).2 = []
  | 0, [], h, _ => rfl
  | 0, (k, []) :: r, h, _ => absurd rfl (h.ne _ (.head _))
  | 0, (k, v :: vs) :: r, h, e => by simp [allN] at e
  | n + 1, [], h, _ => rfl
  | n + 1, (k, []) :: r, h, _ => absurd rfl (h.ne _ (.head _))
  | n + 1, (k, v :: vs) :: r, h, e => by
    unfold outS
    refine outS_all (nextS_ok h) ?_
    rw [allN_next] at e
    omega
theorem allN_le {S : Rw} {b : Nat} (h : ∀ q ∈ S, q.2.length ≤ b) : (allN S).length ≤ S.length * b := by
  induction S with
  | nil => simp [allN]
  | cons q r ih =>
    have h1 := h q (.head _)
    have h2 := ih fun q hq => h q (.tail _ hq)
    unfold allN at h2 ⊢
    rw [List.flatMap_cons, List.length_append, List.length_cons, Nat.succ_mul]
    omega
/-! ### a row and its dict in the heap -/
def Lk (H : Hp) (kvs : List E3) (S : Rw) : Prop := ∀ k, (nums S k = [] ∧ vV kvs k = none) ∨ ∃ p xs, vV kvs k = some (.ref p) ∧ H p = some (.lst xs) ∧ Ims H xs (nums S k)
structure RowAt (w : World) (H : Hp) (pr pk : Addr) (pl : Int) (kvs : List E3) (S : Rw) (n : Nat) : Prop where
  row : ∃ xs, H pr = some (.lst xs) ∧ Ims H xs (S.map (·.1))
  kep : H pk = some (DNo w pk kvs)
  kk : KKs H kvs
  lk : Lk H kvs S
  ok : Ok S
  len : kvs.length ≤ n
  vl : ∀ k p, vV kvs k = some (.ref p) → p ≠ pr
  few : ∀ k, (nums S k).length ≤ pl.toNat
theorem dn_lst {w : World} {H : Hp} {a b : Addr} {xs : List V} {kvs : List E3} (h1 : H a = some (.lst xs)) (h2 : H b = some (DNo w b kvs)) : a ≠ b := ne_of h1 h2 (by unfold DNo; intro z; cases z)
theorem dn_ins {w : World} {H : Hp} {a b C dx : Addr} {fs : List (Str × V)} {kvs : List E3} (h1 : H a = some (.ins C dx fs)) (h2 : H b = some (DNo w b kvs)) : a ≠ b := ne_of h1 h2 (by unfold DNo; intro z; cases z)
theorem Lk.keep {A : List Addr} {H H' : Hp} {kvs : List E3} {S : Rw} (h : Lk H kvs S) (k : Keep A H H') (hs : ∀ b ∈ A, NoT H b) (hv : ∀ j p, vV kvs j = some (.ref p) → p ∉ A) : Lk H' kvs S := fun j => by
  rcases h j with z | ⟨p, xs, h1, h2, h3⟩
  · exact .inl z
  · exact .inr ⟨p, xs, h1, k _ _ h2 (hv j p h1), h3.keep k hs⟩
theorem RowAt.up {w : World} {H : Hp} {pr pk : Addr} {pl : Int} {kvs : List E3} {S : Rw} {n m : Nat} (R : RowAt w H pr pk pl kvs S n) (h : n ≤ m) : RowAt w H pr pk pl kvs S m := ⟨R.row, R.kep, R.kk, R.lk, R.ok, Nat.le_trans R.len h, R.vl, R.few⟩
theorem RowAt.keep {w : World} {A : List Addr} {H H' : Hp} {pr pk : Addr} {pl : Int} {kvs : List E3} {S : Rw} {n : Nat} (R : RowAt w H pr pk pl kvs S n) (k : Keep A H H') (hs : ∀ b ∈ A, NoT H b) (n1 : pr ∉ A) (n2 : pk ∉ A) (hv : ∀ j p, vV kvs j = some (.ref p) → p ∉ A) : RowAt w H' pr pk pl kvs S n := by
  obtain ⟨xs, h1, h2⟩ := R.row
  exact ⟨⟨xs, k _ _ h1 n1, h2.keep k hs⟩, k _ _ R.kep n2, R.kk.keep k hs, R.lk.keep k hs hv, R.ok, R.len, R.vl, R.few⟩
theorem RowAt.same {w : World} {H H' : Hp} {pr pk : Addr} {pl : Int} {kvs : List E3} {S : Rw} {n : Nat} (R : RowAt w H pr pk pl kvs S n) (s : Same H H') : RowAt w H' pr pk pl kvs S n :=
  R.keep (A := []) s.keep (fun _ z => nomatch z) (by simp) (by simp) (fun _ _ _ => by simp)
theorem RowAt.noT {w : World} {H : Hp} {pr pk : Addr} {pl : Int} {kvs : List E3} {S : Rw} {n : Nat} (R : RowAt w H pr pk pl kvs S n) : ∀ b ∈ [pr, pk], NoT H b := fun b hb => by
  simp only [List.mem_cons, List.not_mem_nil, or_false] at hb
  obtain ⟨xs, h1, _⟩ := R.row
  rcases hb with rfl | rfl
  · exact .of_lst h1
  · exact .of_dn R.kep
theorem nd_le {α : Type} : ∀ {l1 l2 : List α}, l1.Nodup → (∀ x ∈ l1, x ∈ l2) → l1.length ≤ l2.length
  | [], _, _, _ => Nat.zero_le _
  | a :: r, l2, hn, h => by
    rw [List.nodup_cons] at hn
    have ha := h a (.head _)
    have := nd_le (l2 := l2.erase a) hn.2 fun x hx => (List.mem_erase_of_ne (fun e => by subst e; exact hn.1 hx)).mpr (h x (.tail _ hx))
    rw [List.length_erase_of_mem ha] at this
    have : 0 < l2.length := List.length_pos_of_mem ha
    simp only [List.length_cons]
    omega
theorem RowAt.slen {w : World} {H : Hp} {pr pk : Addr} {pl : Int} {kvs : List E3} {S : Rw} {n : Nat} (R : RowAt w H pr pk pl kvs S n) : S.length ≤ n := by
  have := nd_le (l2 := kvs.map (·.1)) R.ok.nd fun k hk => by
    obtain ⟨q, hq, rfl⟩ := List.mem_map.mp hk
    rcases R.lk q.1 with ⟨z, _⟩ | ⟨p, xs, h1, _⟩
    · rw [nums_of R.ok.nd hq] at z
      exact absurd z (R.ok.ne q hq)
    · exact vV_mem h1
  rw [List.length_map, List.length_map] at this
  have := R.len
  omega
theorem RowAt.total {w : World} {H : Hp} {pr pk : Addr} {pl : Int} {kvs : List E3} {S : Rw} {n : Nat} (R : RowAt w H pr pk pl kvs S n) : (allN S).length ≤ n * pl.toNat := by
  have h2 := allN_le (S := S) (b := pl.toNat) fun q hq => by
    have := R.few q.1
    rw [nums_of R.ok.nd hq] at this
    exact this
  exact Nat.le_trans h2 (Nat.mul_le_mul_right _ R.slen)
/-- one key's list is another one -/
theorem RowAt.one {w : World} {H H5 : Hp} {pr pk : Addr} {pl : Int} {kvs kvs' : List E3} {S S' : Rw} {n n' : Nat} {k : PyData} (R : RowAt w H pr pk pl kvs S n) (K5 : Keep [pr, pk] H H5) (row : ∃ zs, H5 pr = some (.lst zs) ∧ Ims H5 zs (S'.map (·.1))) (kep : H5 pk = some (DNo w pk kvs')) (kk : KKs H5 kvs')
    (oth : ∀ j, j ≠ k → vV kvs' j = vV kvs j) (othN : ∀ j, j ≠ k → nums S' j = nums S j) (ak : (nums S' k = [] ∧ vV kvs' k = none) ∨ ∃ p xs, vV kvs' k = some (.ref p) ∧ H5 p = some (.lst xs) ∧ Ims H5 xs (nums S' k) ∧ p ≠ pr) (ok : Ok S') (len : kvs'.length ≤ n') (few : (nums S' k).length ≤ pl.toNat) : RowAt w H5 pr pk pl kvs' S' n' := by
  refine ⟨row, kep, kk, fun j => ?_, ok, len, fun j p h => ?_, fun j => ?_⟩
  · by_cases hj : j = k
    · subst hj
      rcases ak with z | ⟨p, xs, h1, h2, h3, _⟩
      · exact .inl z
      · exact .inr ⟨p, xs, h1, h2, h3⟩
    · rw [othN j hj, oth j hj]
      rcases R.lk j with z | ⟨p, xs, h1, h2, h3⟩
      · exact .inl z
      · refine .inr ⟨p, xs, h1, K5 _ _ h2 ?_, h3.keep K5 R.noT⟩
        simp only [List.mem_cons, List.not_mem_nil, or_false, not_or]
        exact ⟨R.vl j p h1, dn_lst h2 R.kep⟩
  · by_cases hj : j = k
    · subst hj
      rcases ak with ⟨_, z⟩ | ⟨p', xs, h1, _, _, h4⟩
      · rw [z] at h; cases h
      · rw [h1] at h; cases h; exact h4
    · rw [oth j hj] at h
      exact R.vl j p h
  · by_cases hj : j = k
    · subst hj; exact few
    · rw [othN j hj]; exact R.few j
def Frs (kvs kvs' : List E3) (H : Hp) : Prop := ∀ j p, vV kvs' j = some (.ref p) → vV kvs j = some (.ref p) ∨ H p = none
theorem frs_put {kvs : List E3} {k : PyData} {y : V} {p5 : Addr} {H : Hp} (h : H p5 = none) : Frs kvs (putE kvs k y (.ref p5)) H := fun j p e => by
  rw [vV_put] at e
  split at e
  · cases e; exact .inr h
  · exact .inl e
theorem frs_cut {kvs : List E3} {k : PyData} {H : Hp} : Frs kvs (cutE kvs k) H := fun j p e => by
  rw [vV_cut] at e
  split at e
  · cases e
  · exact .inl e
theorem Frs.refl {kvs : List E3} {H : Hp} : Frs kvs kvs H := fun j p e => .inl e
theorem Frs.trans {a b c : List E3} {H H' : Hp} (h1 : Frs a b H) (h2 : Frs b c H') (f : ∀ p, H' p = none → H p = none) : Frs a c H := fun j p e => by
  rcases h2 j p e with z | z
  · exact h1 j p z
  · exact .inr (f p z)
theorem _root_.L2.Same.fr {H H' : Hp} {b : Addr} (s : Same H H') (h : H' b = none) : H b = none := by
  cases z : H b with
  | none => rfl
  | some o => rw [s _ _ z] at h; cases h
/-- the parcel is put, waits already, or there is no place -/
noncomputable def putB (S : Rw) (k d : PyData) (pl : Int) : Bool × Rw := if ((nums S k).any fun e => PyData.eqv e d) = true then (true, S) else if pl ≤ ((nums S k).length : Int) then (false, S) else (true, putS S k d)
end K31
namespace K31
open PySem L2
open Classical
section
variable {P : Program} {w : World} {K : PySem.W.Frag} {mg : Str → Option Value} {base : Heap} {C : Addr}
abbrev at_Gate : List Str := ["places", "row", "kept"]
def fs_Gate (a0 a1 a2 : V) : List (Str × V) := [("places", a0), ("row", a1), ("kept", a2)]
section
variable {a0 a1 a2 : V}
theorem fs_Gate_places : (fs_Gate a0 a1 a2).lookup ("places" : Str) = some a0 := rfl
theorem fs_Gate_row : (fs_Gate a0 a1 a2).lookup ("row" : Str) = some a1 := rfl
theorem fs_Gate_kept : (fs_Gate a0 a1 a2).lookup ("kept" : Str) = some a2 := rfl
theorem fn_Gate___init__ : (fs_Gate a0 a1 a2).lookup ("__init__" : Str) = none := rfl
theorem fn_Gate_put : (fs_Gate a0 a1 a2).lookup ("put" : Str) = none := rfl
theorem fn_Gate_out : (fs_Gate a0 a1 a2).lookup ("out" : Str) = none := rfl
theorem fn_Gate_give_one : (fs_Gate a0 a1 a2).lookup ("give_one" : Str) = none := rfl
theorem fn_Gate_waiting : (fs_Gate a0 a1 a2).lookup ("waiting" : Str) = none := rfl
theorem fn_Gate_waits : (fs_Gate a0 a1 a2).lookup ("waits" : Str) = none := rfl
theorem fl_Gate : ((fs_Gate a0 a1 a2).length < 1000) = True := by simp [fs_Gate]
theorem fp_Gate_places {v : V} : putF "places" v (fs_Gate a0 a1 a2) = fs_Gate v a1 a2 := by with_unfolding_all rfl
theorem fp_Gate_row {v : V} : putF "row" v (fs_Gate a0 a1 a2) = fs_Gate a0 v a2 := by with_unfolding_all rfl
theorem fp_Gate_kept {v : V} : putF "kept" v (fs_Gate a0 a1 a2) = fs_Gate a0 a1 v := by with_unfolding_all rfl
theorem fq_Gate_0 {v : V} : putF "places" v ([] : List (Str × V)) = ([("places", v)] : List (Str × V)) := by with_unfolding_all rfl
theorem fq_Gate_1 {v : V} : putF "row" v ([("places", a0)] : List (Str × V)) = ([("places", a0), ("row", v)] : List (Str × V)) := by with_unfolding_all rfl
theorem fq_Gate_2 {v : V} : putF "kept" v ([("places", a0), ("row", a1)] : List (Str × V)) = fs_Gate a0 a1 v := by with_unfolding_all rfl
end
abbrev s_Gate___init__ : Stmt := inClass (top 3) 0
theorem sc_Gate___init__ : FnScope ["self", "places"] ["self", "places"] (defScope s_Gate___init__) := ⟨rfl, rfl, rfl, by decide +kernel, rfl, by decide +kernel, by decide +kernel⟩
abbrev s_Gate_put : Stmt := inClass (top 3) 1
theorem sc_Gate_put : FnScope ["self", "key", "parcel", "parcels"] ["self", "key", "parcel"] (defScope s_Gate_put) := ⟨rfl, rfl, rfl, by decide +kernel, rfl, by decide +kernel, by decide +kernel⟩
abbrev s_Gate_out : Stmt := inClass (top 3) 2
theorem sc_Gate_out : FnScope ["self", "many", "given_out"] ["self", "many"] (defScope s_Gate_out) := ⟨rfl, rfl, rfl, by decide +kernel, rfl, by decide +kernel, by decide +kernel⟩
abbrev s_Gate_give_one : Stmt := inClass (top 3) 3
theorem sc_Gate_give_one : FnScope ["self", "key", "parcels"] ["self"] (defScope s_Gate_give_one) := ⟨rfl, rfl, rfl, by decide +kernel, rfl, by decide +kernel, by decide +kernel⟩
abbrev s_Gate_waiting : Stmt := inClass (top 3) 4
theorem sc_Gate_waiting : FnScope ["self"] ["self"] (defScope s_Gate_waiting) := ⟨rfl, rfl, rfl, by decide +kernel, rfl, by decide +kernel, by decide +kernel⟩
abbrev s_Gate_waits : Stmt := inClass (top 3) 5
theorem sc_Gate_waits : FnScope ["self", "key"] ["self", "key"] (defScope s_Gate_waits) := ⟨rfl, rfl, rfl, by decide +kernel, rfl, by decide +kernel, by decide +kernel⟩
/-! ### a gate -/
structure GateAt (w : World) (C : Addr) (H : Hp) (x dx pr pk : Addr) (pl : Int) (kvs : List E3) (S : Rw) (n : Nat) : Prop where
  ins : H x = some (.ins C dx (fs_Gate (.int pl) (.ref pr) (.ref pk)))
  rA : RowAt w H pr pk pl kvs S n
theorem GateAt.keep {A : List Addr} {H H' : Hp} {x dx pr pk : Addr} {pl : Int} {kvs : List E3} {S : Rw} {n : Nat} (G : GateAt w C H x dx pr pk pl kvs S n) (k : Keep A H H') (hs : ∀ b ∈ A, NoT H b) (n0 : x ∉ A) (n1 : pr ∉ A) (n2 : pk ∉ A) (hv : ∀ j p, vV kvs j = some (.ref p) → p ∉ A) : GateAt w C H' x dx pr pk pl kvs S n :=
  ⟨k _ _ G.ins n0, G.rA.keep k hs n1 n2 hv⟩
theorem GateAt.same {H H' : Hp} {x dx pr pk : Addr} {pl : Int} {kvs : List E3} {S : Rw} {n : Nat} (G : GateAt w C H x dx pr pk pl kvs S n) (s : Same H H') : GateAt w C H' x dx pr pk pl kvs S n := ⟨s _ _ G.ins, G.rA.same s⟩
theorem GateAt.up {H : Hp} {x dx pr pk : Addr} {pl : Int} {kvs : List E3} {S : Rw} {n m : Nat} (G : GateAt w C H x dx pr pk pl kvs S n) (h : n ≤ m) : GateAt w C H x dx pr pk pl kvs S m := ⟨G.ins, G.rA.up h⟩
theorem GateAt.xpr {H : Hp} {x dx pr pk : Addr} {pl : Int} {kvs : List E3} {S : Rw} {n : Nat} (G : GateAt w C H x dx pr pk pl kvs S n) : x ≠ pr := by
  obtain ⟨xs, h1, _⟩ := G.rA.row
  exact ne_of G.ins h1 (by intro z; cases z)
theorem GateAt.xpk {H : Hp} {x dx pr pk : Addr} {pl : Int} {kvs : List E3} {S : Rw} {n : Nat} (G : GateAt w C H x dx pr pk pl kvs S n) : x ≠ pk := dn_ins G.ins G.rA.kep
def sp_ginit (w : World) (C : Addr) : Sp := fun vs H Q _ => ∃ (x dx : Addr) (pl : Int), vs = [.ref x, .int pl] ∧ H x = some (.ins C dx []) ∧ ∀ pr pk H', H pr = none → H pk = none → GateAt w C H' x dx pr pk pl [] [] 0 → Keep [x] H H' → Q .non H'
theorem row_nil {H : Hp} {pr pk : Addr} {pl : Int} (h1 : H pr = some (.lst [])) (h2 : H pk = some (DNo w pk [])) : RowAt w H pr pk pl [] [] 0 :=
  ⟨⟨[], h1, .nil⟩, h2, KKs.nil, fun k => .inl ⟨rfl, rfl⟩, ⟨List.nodup_nil, (fun q hq => nomatch hq), (fun q hq => nomatch hq), (fun k d hd => nomatch hd)⟩, Nat.le_refl _, (fun k p h => by cases h), fun k => Nat.zero_le _⟩
theorem own_ginit (D : DefI K C "Gate.__init__" s_Gate___init__) (T_Gate : ClsD K mg "Gate" C at_Gate) : OwnI P w K mg base 1 C ["self", "places"] (sp_ginit w C) := by
  refine D.own sc_Gate___init__ (fun _ _ _ _ _ _ us hl => match us, hl with | [_, _], _ => rfl) (fun vs H Q E h => ?_) (fun f cdv A outer s H vs Q E hr h => ?_)
  · obtain ⟨x, dx, pl, rfl, _⟩ := h
    rfl
  · obtain ⟨x, dx, pl, rfl, e, q⟩ := h
    refine ⟨_, (@pss_cons _ _ _ _ _ (@ps_fld _ _ _ _ _ _ _ _ (@pv _ 0 _ _ (by rfl) (by first | exact Or.inl rfl | exact Or.inr (Or.inl rfl) | exact Or.inr (Or.inr rfl)) (by decide) (by decide)) (@pv _ 1 _ _ (by rfl) (by first | exact Or.inl rfl | exact Or.inr (Or.inl rfl) | exact Or.inr (Or.inr rfl)) (by decide) (by decide)) rfl) (@pss_cons _ _ _ _ _ (@ps_fld _ _ _ _ _ _ _ _ (@pv _ 0 _ _ (by rfl) (by first | exact Or.inl rfl | exact Or.inr (Or.inl rfl) | exact Or.inr (Or.inr rfl)) (by decide) (by decide)) (@pe_lst _ _ _ _ (@pa_nil _)) rfl) (@pss_one _ _ _ (@ps_fld _ _ _ _ _ _ _ _ (@pv _ 0 _ _ (by rfl) (by first | exact Or.inl rfl | exact Or.inr (Or.inl rfl) | exact Or.inr (Or.inr rfl)) (by decide) (by decide)) (@pe_nnew _ _ w (by rfl)) rfl)))), ?_⟩
    simp (maxSteps := 1000000) only [Nat.reduceSub, Nat.reduceLT, HO.ins.injEq, Nat.reduceAdd, sFld, cxOf_K, tSeq, exists_and_left, tVar, tNil, tLst, L2.start, List.map_cons, List.map_nil, List.length_cons, List.length_nil, List.replicate, List.getElem?_cons_zero, List.getElem?_cons_succ, Option.some.injEq, exists_eq_left', V.ref.injEq, true_and, and_assoc, List.append_nil, e, T_Gate.cl, T_Gate.no "places" (by decide), fq_Gate_0, tNNew]
    generalize z0 : upd H x _ = H0
    have e0 := (congrFun z0.symm x).trans upd_same
    have k0 : Keep [x] H H0 := by rw [← z0]; exact Keep.refl.upd (.inl (.head _))
    refine ⟨by decide, ?_⟩
    intro p1 n1
    generalize z1 : upd H0 p1 _ = H1
    obtain ⟨s1, e1⟩ := new_same z1 n1
    have ex1 := s1 _ _ e0
    simp (maxSteps := 1000000) only [Nat.reduceLT, HO.ins.injEq, Nat.reduceAdd, exists_and_left, List.length_cons, List.length_nil, Option.some.injEq, exists_eq_left', true_and, and_assoc, ex1, T_Gate.cl, T_Gate.no "row" (by decide), fq_Gate_1]
    have nx1 : p1 ≠ x := fun z => by subst z; rw [e0] at n1; cases n1
    generalize z2 : upd H1 x _ = H2
    have e2 := (congrFun z2.symm x).trans upd_same
    have k2 : Keep [x] H1 H2 := by rw [← z2]; exact Keep.refl.upd (.inl (.head _))
    intro p3 n3
    generalize z3 : upd H2 p3 _ = H3
    obtain ⟨s3, e3⟩ := new_same z3 n3
    have ex3 := s3 _ _ e2
    simp (maxSteps := 1000000) only [Nat.reduceLT, HO.ins.injEq, Nat.reduceAdd, exists_and_left, List.length_cons, List.length_nil, Option.some.injEq, exists_eq_left', true_and, and_assoc, ex3, T_Gate.cl, T_Gate.no "kept" (by decide), fq_Gate_2]
    have nx3 : p3 ≠ x := fun z => by subst z; rw [e2] at n3; cases n3
    have e12 := k2 _ _ e1 (by simpa using nx1)
    have hn3 : H1 p3 = none := k2.free n3 (by simpa using nx3)
    exact q p1 p3 _ (k0.free n1 (by simpa using nx1)) (k0.free (s1.fr hn3) (by simpa using nx3)) ⟨upd_same, row_nil (by rw [upd_ne nx1]; exact s3 _ _ e12) (by rw [upd_ne nx3]; exact e3)⟩ ((((k0.same s1).trans k2).same s3).upd (.inl (.head _)))
def sp_waiting (w : World) (C : Addr) : Sp := fun vs H Q _ => ∃ (x dx pr pk : Addr) (pl : Int) (kvs : List E3) (S : Rw) (n : Nat), vs = [.ref x] ∧ GateAt w C H x dx pr pk pl kvs S n ∧ ∀ p xs H', H p = none → H' p = some (.lst xs) → Ims H' xs (S.map (·.1)) → Same H H' → Q (.ref p) H'
theorem own_waiting (D : DefM K C "waiting" "Gate.waiting" s_Gate_waiting) (hb : Blt mg) (T_Gate : ClsD K mg "Gate" C at_Gate) : OwnM P w K mg base 1 C "waiting" ["self"] (sp_waiting w C) := by
  refine D.own sc_Gate_waiting (fun _ _ _ _ _ _ us hl => match us, hl with | [_], _ => rfl) (fun vs H Q E h => ?_) (fun f cdv A outer s H vs Q E hr h => ?_)
  · obtain ⟨x, dx, pr, pk, pl, kvs, S, n, rfl, _⟩ := h
    rfl
  · obtain ⟨x, dx, pr, pk, pl, kvs, S, n, rfl, G, q⟩ := h
    have ex := G.ins
    obtain ⟨xs, er, ir⟩ := G.rA.row
    refine ⟨_, (@pss_one _ _ _ (@ps_ret _ _ _ _ (@pe_callTy _ _ _ _ _ _ _ _ _ call_listX rfl (hb _ (by decide)) bt_list (@pa_cX _ _ _ _ _ (@pe_fldK _ K _ _ _ _ (@pv _ 0 _ _ (by rfl) (by first | exact Or.inl rfl | exact Or.inr (Or.inl rfl) | exact Or.inr (Or.inr rfl)) (by decide) (by decide)) (by rfl) (by rfl)) (@pa_nil _) (by rfl)) (by decide) (by decide) (by rfl) (by rfl)))), ?_⟩
    simp (maxSteps := 1000000) only [rListX, seqO_l, Nat.reduceSub, HO.ins.injEq, Nat.reduceAdd, tFld, List.cons.injEq, exists_and_left, tVar, tRet, tCons, tNil, tCB, L2.start, List.map_cons, List.map_nil, List.length_cons, List.length_nil, List.replicate, List.getElem?_cons_zero, Option.some.injEq, exists_eq_left', V.ref.injEq, and_true, true_and, and_assoc, List.append_nil, ex, er, T_Gate.cl, T_Gate.no "row" (by decide), fs_Gate_row]
    intro p1 n1
    generalize z1 : upd H p1 _ = H1
    obtain ⟨s1, e1⟩ := new_same z1 n1
    exact q p1 xs H1 n1 e1 (ir.same s1) s1
/-- what lies under a key, or the list that was handed in -/
theorem RowAt.got {H : Hp} {pr pk p1 : Addr} {pl : Int} {kvs : List E3} {S : Rw} {n : Nat} (R : RowAt w H pr pk pl kvs S n) (e1 : H p1 = some (.lst [])) (n1 : p1 ≠ pr) (k : PyData) : ∃ pp xs, (vV kvs k).getD (.ref p1) = .ref pp ∧ H pp = some (.lst xs) ∧ Ims H xs (nums S k) ∧ pp ≠ pr := by
  rcases R.lk k with ⟨h0, hn⟩ | ⟨p, xs, h1, h2, h3⟩
  · exact ⟨p1, [], by rw [hn]; rfl, e1, by rw [h0]; exact .nil, n1⟩
  · exact ⟨p, xs, by rw [h1]; rfl, h2, h3, R.vl k p h1⟩
def sp_waits (w : World) (C : Addr) : Sp := fun vs H Q _ => ∃ (x dx pr pk : Addr) (pl : Int) (y : V) (k : PyData) (kvs : List E3) (S : Rw) (n : Nat), vs = [.ref x, y] ∧ GateAt w C H x dx pr pk pl kvs S n ∧ KIs H y k ∧ ∀ H', Same H H' → Q (.int (nums S k).length) H'
theorem own_waits (D : DefM K C "waits" "Gate.waits" s_Gate_waits) (hb : Blt mg) (T_Gate : ClsD K mg "Gate" C at_Gate) : OwnM P w K mg base 1 C "waits" ["self", "key"] (sp_waits w C) := by
  refine D.own sc_Gate_waits (fun _ _ _ _ _ _ us hl => match us, hl with | [_, _], _ => rfl) (fun vs H Q E h => ?_) (fun f cdv A outer s H vs Q E hr h => ?_)
  · obtain ⟨x, dx, pr, pk, pl, y, k, kvs, S, n, rfl, _⟩ := h
    rfl
  · obtain ⟨x, dx, pr, pk, pl, y, k, kvs, S, n, rfl, G, hy, q⟩ := h
    have hu := hr.units
    have hu1 : (A.deeper (PyProof.Rows.envOfC "Gate.waits" (defScope s_Gate_waits) s.heap.objs.size f cdv)).units + 1 < cLine := by omega
    have ex := G.ins
    obtain ⟨xs0, er, ir⟩ := G.rA.row
    refine ⟨_, (@pss_one _ _ _ (@ps_ret _ _ _ _ (@pe_callB _ _ _ _ _ _ _ _ _ call_lenX rfl (hb _ (by decide)) bt_len (@pa_cX _ _ _ _ _ (@pe_ng2 _ _ _ _ _ _ _ _ _ w hu (@pe_fldK _ K _ _ _ _ (@pv _ 0 _ _ (by rfl) (by first | exact Or.inl rfl | exact Or.inr (Or.inl rfl) | exact Or.inr (Or.inr rfl)) (by decide) (by decide)) (by rfl) (by rfl)) (@pv _ 1 _ _ (by rfl) (by first | exact Or.inl rfl | exact Or.inr (Or.inl rfl) | exact Or.inr (Or.inr rfl)) (by decide) (by decide)) (@pe_lst _ _ _ _ (@pa_nil _)) (by constructor <;> rfl) (by rfl)) (@pa_nil _) (by rfl)) (by decide) (by decide) (by rfl) (by rfl)))), ?_⟩
    simp (maxSteps := 1000000) only [rLenX, Nat.reduceSub, HO.ins.injEq, Nat.reduceAdd, tFld, List.cons.injEq, exists_and_left, tVar, tRet, tCons, tNil, tCB, tLst, L2.start, List.map_cons, List.map_nil, List.length_cons, List.length_nil, List.replicate, List.getElem?_cons_zero, List.getElem?_cons_succ, Option.some.injEq, exists_eq_left', V.ref.injEq, and_true, true_and, and_assoc, List.append_nil, ex, T_Gate.cl, T_Gate.no "kept" (by decide), fs_Gate_kept, tNG2]
    refine ⟨kvs, G.rA.kep, by decide, ?_⟩
    intro p1 n1
    generalize z1 : upd H p1 _ = H1
    obtain ⟨s1, e1⟩ := new_same z1 n1
    have R1 := G.rA.same s1
    obtain ⟨pp, xs, hpp, epp, hxs, _⟩ := R1.got e1 (Ne.symm (ne_of_none er n1)) k
    refine ⟨kvs, R1.kep, R1.kk, k, hy.same s1, ?_⟩
    rw [hpp]
    simp (maxSteps := 1000000) only [lenX_r, lenO_l, Option.bind_some, Option.some.injEq, exists_eq_left', epp]
    rw [hxs.len]
    exact q H1 s1
end
end K31
namespace K31
open PySem L2
open Classical
section
variable {P : Program} {w : World} {K : PySem.W.Frag} {mg : Str → Option Value} {base : Heap} {C : Addr}
theorem put_fin {H1 H2 H5 : Hp} {pr pk p5 : Addr} {pl : Int} {k d : PyData} {kvs : List E3} {S : Rw} {n : Nat} {xs zs : List V} {y v3 : V} (R : RowAt w H1 pr pk pl kvs S n) (hy : KIs H1 y k) (hd : d.depth ≤ 5) (kA : Keep [pr] H1 H2) (eA : H2 pr = some (.lst zs)) (iA : Ims H1 zs ((putS S k d).map (·.1))) (s25 : Same H2 H5) (h3 : Im H5 v3 d)
    (hxs : Ims H1 xs (nums S k)) (few' : (nums S k).length + 1 ≤ pl.toNat) (e5 : H5 p5 = some (.lst (xs ++ [v3]))) (n5 : pr ≠ p5) :
    RowAt w (upd H5 pk (DNo w pk (putE kvs k y (.ref p5)))) pr pk pl (putE kvs k y (.ref p5)) (putS S k d) (n + 1) ∧ Keep [pr, pk] H1 (upd H5 pk (DNo w pk (putE kvs k y (.ref p5)))) := by
  have hpk : pr ≠ pk := by obtain ⟨_, h1, _⟩ := R.row; exact dn_lst h1 R.kep
  have ek5 := s25 _ _ (kA _ _ R.kep (by simp; exact Ne.symm hpk))
  have k15 : Keep [pr] H1 H5 := fun b o e hn => s25 _ _ (kA _ _ e hn)
  have k16 : Keep [pr, pk] H1 (upd H5 pk (DNo w pk (putE kvs k y (.ref p5)))) := fun b o e hn => by
    simp only [List.mem_cons, List.not_mem_nil, or_false, not_or] at hn
    rw [upd_ne hn.2]
    exact k15 _ _ e (by simp; exact hn.1)
  have kF : Keep [pk] H5 (upd H5 pk (DNo w pk (putE kvs k y (.ref p5)))) := Keep.refl.upd (.inl (.head _))
  have hnT5 : ∀ b ∈ [pk], NoT H5 b := noT1 (.of_dn ek5)
  refine ⟨R.one (k := k) k16 ⟨zs, by rw [upd_ne hpk]; exact s25 _ _ eA, iA.keep k16 R.noT⟩ upd_same ((R.kk.put hy).keep k16 R.noT) (fun j hj => by rw [vV_put, if_neg hj]) (fun j hj => by rw [putS_nums, if_neg hj]) (.inr ⟨p5, xs ++ [v3], by rw [vV_put, if_pos rfl], by rw [upd_ne (dn_lst e5 ek5)]; exact e5, ?_, Ne.symm n5⟩) (putS_ok R.ok hy.2 hd) (by have := putE_len (kvs := kvs) (k := k) (y := y) (v := .ref p5); have := R.len; omega) (by rw [putS_nums, if_pos rfl, List.length_append]; exact few'), k16⟩
  rw [putS_nums, if_pos rfl]
  exact (hxs.keep k16 R.noT).app (.one (h3.keep kF hnT5))
def sp_put (w : World) (C : Addr) : Sp := fun vs H Q _ => ∃ (x dx pr pk : Addr) (pl : Int) (k d : PyData) (y v : V) (kvs : List E3) (S : Rw) (n : Nat), vs = [.ref x, y, v] ∧ GateAt w C H x dx pr pk pl kvs S n ∧ KIs H y k ∧ Im H v d ∧ d.depth ≤ 5 ∧ n ≤ 1000 ∧ 0 ≤ pl ∧ pl ≤ 1000 ∧
  ∀ kvs' H', GateAt w C H' x dx pr pk pl kvs' (putB S k d pl).2 (n + 1) → Frs kvs kvs' H → Keep [pr, pk] H H' → Q (.bl (putB S k d pl).1) H'
set_option maxHeartbeats 4000000 in
theorem own_put (D : DefM K C "put" "Gate.put" s_Gate_put) (hb : Blt mg) (T_Gate : ClsD K mg "Gate" C at_Gate) (F_own_copy : Own P w K mg base 6 "own_copy" ["thing"] (sp_cpy 5)) : OwnM P w K mg base 7 C "put" ["self", "key", "parcel"] (sp_put w C) := by
  refine D.own sc_Gate_put (fun _ _ _ _ _ _ us hl => match us, hl with | [_, _, _], _ => rfl) (fun vs H Q E h => ?_) (fun f cdv A outer s H vs Q E hr h => ?_)
  · obtain ⟨x, dx, pr, pk, pl, k, d, y, v, kvs, S, n, rfl, _⟩ := h
    rfl
  · obtain ⟨x, dx, pr, pk, pl, k, d, y, v, kvs, S, n, rfl, G, hy, hv, hd5, hn1, hpl, hpl2, q⟩ := h
    have hu := hr.units
    have hu1 : (A.deeper (PyProof.Rows.envOfC "Gate.put" (defScope s_Gate_put) s.heap.objs.size f cdv)).units + 1 < cLine := by omega
    have ex := G.ins
    obtain ⟨zs, er, ir⟩ := G.rA.row
    refine ⟨_, (@pss_cons _ _ _ _ _ (@ps_set _ _ 3 _ _ _ _ sc_Gate_put.nd rfl (by first | exact Or.inl rfl | exact Or.inr rfl) (@pe_ng2 _ _ _ _ _ _ _ _ _ w hu (@pe_fldK _ K _ _ _ _ (@pv _ 0 _ _ (by rfl) (by first | exact Or.inl rfl | exact Or.inr (Or.inl rfl) | exact Or.inr (Or.inr rfl)) (by decide) (by decide)) (by rfl) (by rfl)) (@pv _ 1 _ _ (by rfl) (by first | exact Or.inl rfl | exact Or.inr (Or.inl rfl) | exact Or.inr (Or.inr rfl)) (by decide) (by decide)) (@pe_lst _ _ _ _ (@pa_nil _)) (by constructor <;> rfl) (by rfl)) (by rfl) (by first | exact .inl rfl | exact .inr rfl | assumption)) (@pss_cons _ _ _ _ _ (@ps_if _ _ _ _ _ _ _ _ (@pt_cmpR _ _ _ _ _ _ _ _ (op_inD hu) (@pv _ 2 _ _ (by rfl) (by first | exact Or.inl rfl | exact Or.inr (Or.inl rfl) | exact Or.inr (Or.inr rfl)) (by decide) (by decide)) (@pv _ 3 _ _ (by rfl) (by first | exact Or.inl rfl | exact Or.inr (Or.inl rfl) | exact Or.inr (Or.inr rfl)) (by decide) (by decide)) rfl) (@pss_one _ _ _ (@ps_ret _ _ _ _ (@pe_bl _ _ _ _))) (@pss_nil _)) (@pss_cons _ _ _ _ _ (@ps_if _ _ _ _ _ _ _ _ (@pt_cmpR _ _ _ _ _ _ _ _ op_ge (@pe_callB _ _ _ _ _ _ _ _ _ call_lenX rfl (hb _ (by decide)) bt_len (@pa_cX _ _ _ _ _ (@pv _ 3 _ _ (by rfl) (by first | exact Or.inl rfl | exact Or.inr (Or.inl rfl) | exact Or.inr (Or.inr rfl)) (by decide) (by decide)) (@pa_nil _) (by rfl)) (by decide) (by decide) (by rfl) (by rfl)) (@pe_fldK _ K _ _ _ _ (@pv _ 0 _ _ (by rfl) (by first | exact Or.inl rfl | exact Or.inr (Or.inl rfl) | exact Or.inr (Or.inr rfl)) (by decide) (by decide)) (by rfl) (by rfl)) (nomark _)) (@pss_one _ _ _ (@ps_ret _ _ _ _ (@pe_bl _ _ _ _))) (@pss_nil _)) (@pss_cons _ _ _ _ _ (@ps_if _ _ _ _ _ _ _ _ (@pt_not _ _ _ _ (@pt_truX _ _ _ (@pv _ 3 _ _ (by rfl) (by first | exact Or.inl rfl | exact Or.inr (Or.inl rfl) | exact Or.inr (Or.inr rfl)) (by decide) (by decide)) (by intro _; rfl))) (@pss_one _ _ _ (@ps_expr _ _ _ _ (@pe_lm _ _ _ _ _ _ _ _ _ _ _ PySem.F.slot_list_append PySem.F.type_list_append mt_append (@pe_fldK _ K _ _ _ _ (@pv _ 0 _ _ (by rfl) (by first | exact Or.inl rfl | exact Or.inr (Or.inl rfl) | exact Or.inr (Or.inr rfl)) (by decide) (by decide)) (by rfl) (by rfl)) (@pa_cX _ _ _ _ _ (@pv _ 1 _ _ (by rfl) (by first | exact Or.inl rfl | exact Or.inr (Or.inl rfl) | exact Or.inr (Or.inr rfl)) (by decide) (by decide)) (@pa_nil _) (by rfl)) (by rfl) (by rfl) (by rfl) (by rfl) (by rfl)) (by rfl))) (@pss_nil _)) (@pss_cons _ _ _ _ _ (@ps_nput _ _ _ _ _ _ _ _ _ w hu (@pe_fldK _ K _ _ _ _ (@pv _ 0 _ _ (by rfl) (by first | exact Or.inl rfl | exact Or.inr (Or.inl rfl) | exact Or.inr (Or.inr rfl)) (by decide) (by decide)) (by rfl) (by rfl)) (@pv _ 1 _ _ (by rfl) (by first | exact Or.inl rfl | exact Or.inr (Or.inl rfl) | exact Or.inr (Or.inr rfl)) (by decide) (by decide)) (@pe_op _ _ _ _ _ _ _ _ op_cat (@pv _ 3 _ _ (by rfl) (by first | exact Or.inl rfl | exact Or.inr (Or.inl rfl) | exact Or.inr (Or.inr rfl)) (by decide) (by decide)) (@pe_lst _ _ _ _ (@pa_cX _ _ _ _ _ (@pe_fn _ _ _ _ _ _ _ _ _ _ _ F_own_copy hr (@pa_cX _ _ _ _ _ (@pv _ 2 _ _ (by rfl) (by first | exact Or.inl rfl | exact Or.inr (Or.inl rfl) | exact Or.inr (Or.inr rfl)) (by decide) (by decide)) (@pa_nil _) (by rfl)) (by decide) (by rfl) (by decide) (by rfl) (by rfl)) (@pa_nil _) (by rfl)))) rfl (by rfl)) (@pss_one _ _ _ (@ps_ret _ _ _ _ (@pe_bl _ _ _ _)))))))), ?_⟩
    simp (maxSteps := 1000000) only [tBL, rLenX, tTruX, Nat.reduceSub, HO.ins.injEq, Nat.reduceAdd, tFld, rAppend, List.cons.injEq, tSeq, exists_and_left, tIfS, tNot, tTest, tOp, tVar, tC, rI0, tRet, tAsg, gName, tNext, tCons, tNil, tCB, tDrop, tLst, L2.start, List.map_cons, List.map_nil, List.length_cons, List.length_nil, List.replicate, List.cons_append, List.nil_append, List.getElem?_cons_zero, List.getElem?_cons_succ, List.set_cons_zero, List.set_cons_succ, Option.some.injEq, exists_eq_left', V.int.injEq, V.bl.injEq, V.ref.injEq, and_true, true_and, and_assoc, ex, T_Gate.cl, T_Gate.no "kept" (by decide), fs_Gate_kept, tNG2]
    refine ⟨kvs, G.rA.kep, by decide, ?_⟩
    intro p1 n1
    generalize z1 : upd H p1 _ = H1
    obtain ⟨s1, e1⟩ := new_same z1 n1
    have G1 := G.same s1
    have R1 := G1.rA
    have ex1 := G1.ins
    have er1 := s1 _ _ er
    have hy1 := hy.same s1
    obtain ⟨pp, xs, hpp, epp, hxs, nppr⟩ := R1.got e1 (Ne.symm (ne_of_none er n1)) k
    refine ⟨kvs, R1.kep, R1.kk, k, hy1, ?_⟩
    rw [hpp]
    have hxl : xs.length = (nums S k).length := hxs.len
    simp (maxSteps := 1000000) only [lenX_r, truX_r]
    refine ⟨pp, xs, _, _, rfl, epp, hxs.dts, (hv.same s1).dt, Nat.le_trans hd5 (by decide), fun e he => Nat.le_trans (G.rA.ok.dp k e he) (by decide), ?_⟩
    cases hany : ((nums S k).any fun e => PyData.eqv e d) with
    | true =>
      simp (maxSteps := 1000000) only [if_true, exists_eq_left', V.bl.injEq]
      have hB : putB S k d pl = (true, S) := by unfold putB; rw [if_pos hany]
      rw [hB] at q
      exact q kvs H1 (G1.up (Nat.le_succ n)) Frs.refl s1.keep
    | false =>
      have hany' : ¬ ((nums S k).any fun e => PyData.eqv e d) = true := by rw [hany]; simp
      simp (maxSteps := 1000000) only [lenO_l, Option.bind_some, truO_l, HO.ins.injEq, Bool.not_not, exists_and_left, if_false, Bool.false_eq_true, Option.some.injEq, exists_eq_left', V.int.injEq, V.bl.injEq, V.ref.injEq, true_and, and_assoc, epp, ex1, T_Gate.cl, T_Gate.no "places" (by decide), T_Gate.no "row" (by decide), fs_Gate_places, fs_Gate_row]
      refine ite2 (fun hge => ?_) (fun hge => ?_)
      · have hB : putB S k d pl = (false, S) := by unfold putB; rw [if_neg hany', if_pos (by have := of_decide_eq_true hge; omega)]
        rw [hB] at q
        exact q kvs H1 (G1.up (Nat.le_succ n)) Frs.refl s1.keep
      · have hlt : (xs.length : Int) < pl := by
          have : ¬ (pl ≤ (xs.length : Int)) := fun z => hge (decide_eq_true z)
          omega
        have hB : putB S k d pl = (true, putS S k d) := by unfold putB; rw [if_neg hany', if_neg (by omega)]
        rw [hB] at q
        have hpk : pr ≠ pk := dn_lst er1 R1.kep
        have nppk : pp ≠ pk := dn_lst epp R1.kep
        have hSl := G.rA.slen
        have few' : (nums S k).length + 1 ≤ pl.toNat := by omega
        have hln : kvs.length < sizeLine := by have := G.rA.len; rw [sizeLine_eq]; omega
        have hxs0 : xs.isEmpty = true ↔ nums S k = [] := by
          rw [List.isEmpty_iff]
          constructor
          · intro z; rw [z] at hxl; exact List.length_eq_zero_iff.mp hxl.symm
          · intro z; rw [z] at hxl; exact List.length_eq_zero_iff.mp hxl
        have hzl : zs.length = S.length := by have := ir.len; rw [List.length_map] at this; exact this
        refine ite2 (fun he => ?_) (fun he => ?_)
        · have h0 := hxs0.mp he
          have hk0 : k ∉ S.map (·.1) := fun z => by
            obtain ⟨q, hq, e⟩ := List.mem_map.mp z
            have := nums_of G.rA.ok.nd hq
            rw [e, h0] at this
            exact G.rA.ok.ne q hq this.symm
          refine ⟨_, er1, _, er1, by rw [sizeLine_eq]; omega, ?_⟩
          generalize zA : upd H1 pr _ = H2
          have kA : Keep [pr] H1 H2 := by rw [← zA]; exact Keep.refl.upd (.inl (.head _))
          have eA : H2 pr = some (.lst (zs ++ [y])) := by rw [← zA, upd_same]
          have iA : Ims H1 (zs ++ [y]) ((putS S k d).map (·.1)) := by rw [putS_keys, if_neg hk0]; exact (ir.same s1).app (.one hy1.1)
          have hnT : ∀ b ∈ [pr], NoT H1 b := noT1 (.of_lst er1)
          simp (maxSteps := 1000000) only [upd_same, HO.lst.injEq, Nat.reduceAdd, tFld, rCat, exists_and_left, tOp, tVar, tC, tRet, tCall, tCons, tNil, tLst, List.length_cons, List.length_nil, List.getElem?_cons_zero, List.getElem?_cons_succ, Option.some.injEq, exists_eq_left', V.ref.injEq, List.append_nil, sNPut]
          refine ⟨v, _, rfl, (hv.same s1).keep kA hnT, hd5, fun v3 H3 s3 h3 => ⟨by decide, ?_⟩⟩
          intro p4 n4
          generalize z4 : upd H3 p4 _ = H4
          obtain ⟨s4, e4⟩ := new_same z4 n4
          have epp4 := s4 _ _ (s3 _ _ (kA _ _ epp (by simp; exact nppr)))
          refine ⟨_, epp4, by rw [sizeLine_eq]; omega, ?_⟩
          intro p5 n5
          generalize z5 : upd H4 p5 _ = H5
          obtain ⟨s5, e5⟩ := new_same z5 n5
          have ex5 := s5 _ _ (s4 _ _ (s3 _ _ (kA _ _ ex1 (by simp; exact G1.xpr))))
          have ek5 := s5 _ _ (s4 _ _ (s3 _ _ (kA _ _ R1.kep (by simp; exact Ne.symm hpk))))
          have k15 : Keep [pr] H1 H5 := fun b o e hn => s5 _ _ (s4 _ _ (s3 _ _ (kA _ _ e hn)))
          simp (maxSteps := 1000000) only [HO.ins.injEq, exists_and_left, Option.some.injEq, exists_eq_left', V.ref.injEq, true_and, and_assoc, ex5, T_Gate.cl, T_Gate.no "kept" (by decide), fs_Gate_kept]
          refine ⟨kvs, ek5, R1.kk.keep k15 hnT, k, hy1.keep k15 hnT, hln, ?_⟩
          try simp (maxSteps := 1000000) only [tFor_eq, tComp_eq, rRngs, rListR, HO.rng.injEq, tDKeys, rSortL, rSortK, ixN_10, ixN_20, ixN_21, ixN_30, ixN_31, ixN_32, ixN_40, ixN_41, ixN_42, ixN_43, ixN_50, ixN_51, ixN_52, ixN_53, ixN_54, rNe_nn, rEq_nn, rNe_in, rEq_in, rNe_ni, rEq_ni, gSeqX, rLeS, rEq_ss, rNe_ss, rStr1, rAllX, rAnyX, rListD, iStr, rSumX, tBL, tBL0, rExtend, rPopAt, rPop, rReverse, rClear, rIsIX, tyX_n, tyX_b, tyX_i, tyX_s, tyX_r, tyO_l, tyO_t, tyO_d, V.ty.injEq, kT_Noin, kT_Nobo, kT_Nost, kT_Noli, kT_Notu, kT_Nodi, kT_boin, kT_bobo, kT_bost, kT_boli, kT_botu, kT_bodi, kT_inin, kT_inbo, kT_inst, kT_inli, kT_intu, kT_indi, kT_stin, kT_stbo, kT_stst, kT_stli, kT_sttu, kT_stdi, kT_liin, kT_libo, kT_list, kT_lili, kT_litu, kT_lidi, kT_tuin, kT_tubo, kT_tust, kT_tuli, kT_tutu, kT_tudi, kT_diin, kT_dibo, kT_dist, kT_dili, kT_ditu, kT_didi, rGet, getO_l, getO_t, getO_di, getO_ds, rLenX, lenX_r, lenX_s', lenO_l, lenO_t, lenO_d, Option.bind_some, tTruX, truX_n, truX_b, truX_i, truX_r, truO_l, truO_t, truO_d, rInX, rNotInX, inO_l', inO_t', inO_di, inO_ds, rSetX, setO_l, setO_di', setO_ds', rSlX, rListX, seqO_l, seqO_t, rTupX, gTupX, gCons, gNil, gSub, atI_0, atI_1, atI_2, atI_3, tDNewK, Nat.reduceSub, upd_same, upd_upd, Nat.reduceLT, HO.lst.injEq, HO.tup.injEq, HO.dK.injEq, HO.ins.injEq, Option.map_some, Option.isSome_some, Int.reduceEq, Int.reduceLT, Int.reduceLE, Nat.reduceAdd, List.isEmpty_nil, List.isEmpty_cons, ne_eq, not_false_eq_true, tDGs, sDPs, rIsB, rIsntB, tMeth, tMake, tDGet, sDPut, tFld, sFld, tDisp, tPairs, tNever, decide_true, decide_false, truV_bl, clsV_ty, V.ty.injEq, exists_eq', exists_eq, Bool.not_true, Bool.not_false, Bool.not_not, rLen, rListOf, rTupOf, rAny, rAll, rIsI, tTru, iRng1, iRng2, iList, tYes, cSt, List.drop_succ_cons, List.drop_zero, cxOf_K, cxC_K,  tBM, tBM0, rAppend, tSl, rSlL, tNoPart, tPart, rIxL, rIxT, rCat, List.cons.injEq, rEq_ii, rNe_ii, rEq_bb, rNe_bb, tSeq, exists_and_left, if_false, if_true, reduceIte, Bool.false_eq_true, tIfS, tAnd, tOr, tNot, tTest, tOp, tUn, tVar, tC, rI, rI0, rU, tRet, tRetN, tAsg, gName, tNext, tAndV, tOrV, tNotV, tIf, tCall, tCons, tNil, tCB, tDrop, tLst, tTup, tChain, L2.start, List.map_cons, List.map_nil, List.length_cons, List.length_nil, List.replicate, List.cons_append, List.nil_append, List.getElem?_cons_zero, List.getElem?_cons_succ, List.set_cons_zero, List.set_cons_succ, Option.some.injEq, exists_eq_left', exists_eq_left, V.int.injEq, V.bl.injEq, V.ref.injEq, V.str.injEq, exists_const, and_true, true_and, reduceCtorEq, false_and, exists_false, or_false, false_or, and_assoc, List.append_nil]
          have n5' : pr ≠ p5 := ne_of_none (s4 _ _ (s3 _ _ eA)) n5
          obtain ⟨g1, g2⟩ := put_fin R1 hy1 hd5 kA eA iA ((s3.trans s4).trans s5) ((h3.same s4).same s5) hxs few' e5 n5'
          exact q _ _ ⟨g2 _ _ ex1 (by simp; exact ⟨G1.xpr, G1.xpk⟩), g1⟩ (frs_put (s1.fr (kA.free (s3.fr (s4.fr n5)) (by simp; exact Ne.symm n5')))) fun b o e hn => g2 b o (s1 _ _ e) hn
        · have h0 : nums S k ≠ [] := fun z => he (hxs0.mpr z)
          have hk0 : k ∈ S.map (·.1) := by
            cases hl : nums S k with
            | nil => exact absurd hl h0
            | cons a b => exact nums_mem (n := a) (by rw [hl]; exact .head _)
          have iA : Ims H1 zs ((putS S k d).map (·.1)) := by rw [putS_keys, if_pos hk0]; exact ir.same s1
          simp (maxSteps := 1000000) only [upd_same, HO.lst.injEq, Nat.reduceAdd, tFld, rCat, exists_and_left, tOp, tVar, tC, tRet, tCall, tCons, tNil, tLst, List.length_cons, List.length_nil, List.getElem?_cons_zero, List.getElem?_cons_succ, Option.some.injEq, exists_eq_left', V.ref.injEq, List.append_nil, sNPut]
          refine ⟨v, _, rfl, hv.same s1, hd5, fun v3 H3 s3 h3 => ⟨by decide, ?_⟩⟩
          intro p4 n4
          generalize z4 : upd H3 p4 _ = H4
          obtain ⟨s4, e4⟩ := new_same z4 n4
          have epp4 := s4 _ _ (s3 _ _ epp)
          refine ⟨_, epp4, by rw [sizeLine_eq]; omega, ?_⟩
          intro p5 n5
          generalize z5 : upd H4 p5 _ = H5
          obtain ⟨s5, e5⟩ := new_same z5 n5
          have s15 := (s3.trans s4).trans s5
          have ex5 := s15 _ _ ex1
          have ek5 := s15 _ _ R1.kep
          simp (maxSteps := 1000000) only [HO.ins.injEq, exists_and_left, Option.some.injEq, exists_eq_left', V.ref.injEq, true_and, and_assoc, ex5, T_Gate.cl, T_Gate.no "kept" (by decide), fs_Gate_kept]
          refine ⟨kvs, ek5, R1.kk.same s15, k, hy1.same s15, hln, ?_⟩
          try simp (maxSteps := 1000000) only [tFor_eq, tComp_eq, rRngs, rListR, HO.rng.injEq, tDKeys, rSortL, rSortK, ixN_10, ixN_20, ixN_21, ixN_30, ixN_31, ixN_32, ixN_40, ixN_41, ixN_42, ixN_43, ixN_50, ixN_51, ixN_52, ixN_53, ixN_54, rNe_nn, rEq_nn, rNe_in, rEq_in, rNe_ni, rEq_ni, gSeqX, rLeS, rEq_ss, rNe_ss, rStr1, rAllX, rAnyX, rListD, iStr, rSumX, tBL, tBL0, rExtend, rPopAt, rPop, rReverse, rClear, rIsIX, tyX_n, tyX_b, tyX_i, tyX_s, tyX_r, tyO_l, tyO_t, tyO_d, V.ty.injEq, kT_Noin, kT_Nobo, kT_Nost, kT_Noli, kT_Notu, kT_Nodi, kT_boin, kT_bobo, kT_bost, kT_boli, kT_botu, kT_bodi, kT_inin, kT_inbo, kT_inst, kT_inli, kT_intu, kT_indi, kT_stin, kT_stbo, kT_stst, kT_stli, kT_sttu, kT_stdi, kT_liin, kT_libo, kT_list, kT_lili, kT_litu, kT_lidi, kT_tuin, kT_tubo, kT_tust, kT_tuli, kT_tutu, kT_tudi, kT_diin, kT_dibo, kT_dist, kT_dili, kT_ditu, kT_didi, rGet, getO_l, getO_t, getO_di, getO_ds, rLenX, lenX_r, lenX_s', lenO_l, lenO_t, lenO_d, Option.bind_some, tTruX, truX_n, truX_b, truX_i, truX_r, truO_l, truO_t, truO_d, rInX, rNotInX, inO_l', inO_t', inO_di, inO_ds, rSetX, setO_l, setO_di', setO_ds', rSlX, rListX, seqO_l, seqO_t, rTupX, gTupX, gCons, gNil, gSub, atI_0, atI_1, atI_2, atI_3, tDNewK, Nat.reduceSub, upd_same, upd_upd, Nat.reduceLT, HO.lst.injEq, HO.tup.injEq, HO.dK.injEq, HO.ins.injEq, Option.map_some, Option.isSome_some, Int.reduceEq, Int.reduceLT, Int.reduceLE, Nat.reduceAdd, List.isEmpty_nil, List.isEmpty_cons, ne_eq, not_false_eq_true, tDGs, sDPs, rIsB, rIsntB, tMeth, tMake, tDGet, sDPut, tFld, sFld, tDisp, tPairs, tNever, decide_true, decide_false, truV_bl, clsV_ty, V.ty.injEq, exists_eq', exists_eq, Bool.not_true, Bool.not_false, Bool.not_not, rLen, rListOf, rTupOf, rAny, rAll, rIsI, tTru, iRng1, iRng2, iList, tYes, cSt, List.drop_succ_cons, List.drop_zero, cxOf_K, cxC_K,  tBM, tBM0, rAppend, tSl, rSlL, tNoPart, tPart, rIxL, rIxT, rCat, List.cons.injEq, rEq_ii, rNe_ii, rEq_bb, rNe_bb, tSeq, exists_and_left, if_false, if_true, reduceIte, Bool.false_eq_true, tIfS, tAnd, tOr, tNot, tTest, tOp, tUn, tVar, tC, rI, rI0, rU, tRet, tRetN, tAsg, gName, tNext, tAndV, tOrV, tNotV, tIf, tCall, tCons, tNil, tCB, tDrop, tLst, tTup, tChain, L2.start, List.map_cons, List.map_nil, List.length_cons, List.length_nil, List.replicate, List.cons_append, List.nil_append, List.getElem?_cons_zero, List.getElem?_cons_succ, List.set_cons_zero, List.set_cons_succ, Option.some.injEq, exists_eq_left', exists_eq_left, V.int.injEq, V.bl.injEq, V.ref.injEq, V.str.injEq, exists_const, and_true, true_and, reduceCtorEq, false_and, exists_false, or_false, false_or, and_assoc, List.append_nil]
          obtain ⟨g1, g2⟩ := put_fin R1 hy1 hd5 (Keep.refl (S := [pr])) er1 iA s15 ((h3.same s4).same s5) hxs few' e5 (ne_of_none (s4 _ _ (s3 _ _ er1)) n5)
          exact q _ _ ⟨g2 _ _ ex1 (by simp; exact ⟨G1.xpr, G1.xpk⟩), g1⟩ (frs_put (s1.fr (s3.fr (s4.fr n5)))) fun b o e hn => g2 b o (s1 _ _ e) hn
end
end K31
namespace K31
open PySem L2
open Classical
section
variable {P : Program} {w : World} {K : PySem.W.Frag} {mg : Str → Option Value} {base : Heap} {C : Addr}
/-- what stands at a row's first key -/
theorem RowAt.head {H : Hp} {pr pk : Addr} {pl : Int} {kvs : List E3} {k v : PyData} {vs' : List PyData} {r : Rw} {n : Nat} (R : RowAt w H pr pk pl kvs ((k, v :: vs') :: r) n) : ∃ y ys pp x0 xr, H pr = some (.lst (y :: ys)) ∧ KIs H y k ∧ Ims H ys (r.map (·.1)) ∧ vV kvs k = some (.ref pp) ∧ H pp = some (.lst (x0 :: xr)) ∧ Im H x0 v ∧ Ims H xr vs' ∧ pp ≠ pr ∧ pp ≠ pk := by
  obtain ⟨zs, er, ir⟩ := R.row
  rw [List.map_cons] at ir
  cases ir with
  | @cons y ys _ _ h1 h2 =>
    have hn : nums ((k, v :: vs') :: r) k = v :: vs' := by rw [nums_cons, if_pos rfl]
    rcases R.lk k with ⟨z, _⟩ | ⟨pp, xs, hv, epp, hxs⟩
    · rw [hn] at z; cases z
    · rw [hn] at hxs
      cases hxs with
      | @cons x0 xr _ _ a b => exact ⟨y, ys, pp, x0, xr, er, ⟨h1, R.ok.kd k (by rw [List.map_cons]; exact .head _)⟩, h2, hv, epp, a, b, R.vl k pp hv, dn_lst epp R.kep⟩
theorem nextS_keys {k : PyData} {vs : List PyData} {r : Rw} : (nextS k vs r).map (·.1) = if vs = [] then r.map (·.1) else r.map (·.1) ++ [k] := by
  unfold nextS
  split
  · rfl
  · rw [List.map_append]; rfl
theorem RowAt.next {H H5 : Hp} {pr pk : Addr} {pl : Int} {kvs kvs' : List E3} {k v : PyData} {vs' : List PyData} {r : Rw} {n : Nat} {zs : List V} (R : RowAt w H pr pk pl kvs ((k, v :: vs') :: r) n) (K5 : Keep [pr, pk] H H5) (er : H5 pr = some (.lst zs)) (ir : Ims H zs ((nextS k vs' r).map (·.1))) (kep : H5 pk = some (DNo w pk kvs')) (kk : KKs H kvs')
    (oth : ∀ j, j ≠ k → vV kvs' j = vV kvs j) (ak : (vs' = [] ∧ vV kvs' k = none) ∨ ∃ p xs, vV kvs' k = some (.ref p) ∧ H5 p = some (.lst xs) ∧ Ims H xs vs' ∧ p ≠ pr) (len : kvs'.length ≤ n) : RowAt w H5 pr pk pl kvs' (nextS k vs' r) n := by
  have e1 : nums (nextS k vs' r) k = vs' := by rw [nextS_nums R.ok.nd, if_pos rfl]
  refine R.one (k := k) K5 ⟨zs, er, ir.keep K5 R.noT⟩ kep (kk.keep K5 R.noT) oth (fun j hj => by rw [nextS_nums R.ok.nd, if_neg hj]) ?_ (nextS_ok R.ok) len ?_
  · rw [e1]
    rcases ak with z | ⟨p, xs, h1, h2, h3, h4⟩
    · exact .inl z
    · exact .inr ⟨p, xs, h1, h2, h3.keep K5 R.noT, h4⟩
  · rw [e1]
    have := R.few k
    rw [nums_cons, if_pos rfl, List.length_cons] at this
    omega
def sp_give (w : World) (C : Addr) : Sp := fun vs H Q _ => ∃ (x dx pr pk : Addr) (pl : Int) (k v : PyData) (vs' : List PyData) (r : Rw) (kvs : List E3) (n : Nat), vs = [.ref x] ∧ GateAt w C H x dx pr pk pl kvs ((k, v :: vs') :: r) n ∧ n ≤ 1000 ∧ 0 ≤ pl ∧ pl ≤ 1000 ∧
  ∀ u kvs' H', Im H' u v → GateAt w C H' x dx pr pk pl kvs' (nextS k vs' r) n → Frs kvs kvs' H → Keep [pr, pk] H H' → Q u H'
set_option maxHeartbeats 4000000 in
theorem own_give (D : DefM K C "give_one" "Gate.give_one" s_Gate_give_one) (hb : Blt mg) (T_Gate : ClsD K mg "Gate" C at_Gate) : OwnM P w K mg base 1 C "give_one" ["self"] (sp_give w C) := by
  refine D.own sc_Gate_give_one (fun _ _ _ _ _ _ us hl => match us, hl with | [_], _ => rfl) (fun vs H Q E h => ?_) (fun f cdv A outer s H vs Q E hr h => ?_)
  · obtain ⟨x, dx, pr, pk, pl, k, v, vs', r, kvs, n, rfl, _⟩ := h
    rfl
  · obtain ⟨x, dx, pr, pk, pl, k, v, vs', r, kvs, n, rfl, G, hn, hpl, hpl2, q⟩ := h
    have hu := hr.units
    have hu1 : (A.deeper (PyProof.Rows.envOfC "Gate.give_one" (defScope s_Gate_give_one) s.heap.objs.size f cdv)).units + 1 < cLine := by omega
    have ex := G.ins
    have R := G.rA
    obtain ⟨y, ys, pp, x0, xr, erow, hy, hys, hval, epp, hx0, hxr, nppr, nppk⟩ := R.head
    have ek := R.kep
    have hxl : xr.length = vs'.length := hxr.len
    have hpk : pr ≠ pk := dn_lst erow ek
    have hxpr := G.xpr
    have hxpk := G.xpk
    refine ⟨_, (@pss_cons _ _ _ _ _ (@ps_set _ _ 1 _ _ _ _ sc_Gate_give_one.nd rfl (by first | exact Or.inl rfl | exact Or.inr rfl) (@pe_bm _ _ _ _ _ _ _ _ _ _ _ _ PySem.F.plainAttrs_list PySem.F.slot_list_pop PySem.F.type_list_pop mt_popAt (@pe_fldK _ K _ _ _ _ (@pv _ 0 _ _ (by rfl) (by first | exact Or.inl rfl | exact Or.inr (Or.inl rfl) | exact Or.inr (Or.inr rfl)) (by decide) (by decide)) (by rfl) (by rfl)) (@pa_cX _ _ _ _ _ (@pe_int _ _ _ _) (@pa_nil _) (by rfl)) (by rfl) (by rfl) (by rfl) (by rfl) (by rfl)) (by rfl) (by first | exact .inl rfl | exact .inr rfl | assumption)) (@pss_cons _ _ _ _ _ (@ps_set _ _ 2 _ _ _ _ sc_Gate_give_one.nd rfl (by first | exact Or.inl rfl | exact Or.inr rfl) (@pe_npop _ _ _ _ _ _ _ w hu (@pe_fldK _ K _ _ _ _ (@pv _ 0 _ _ (by rfl) (by first | exact Or.inl rfl | exact Or.inr (Or.inl rfl) | exact Or.inr (Or.inr rfl)) (by decide) (by decide)) (by rfl) (by rfl)) (@pv _ 1 _ _ (by rfl) (by first | exact Or.inl rfl | exact Or.inr (Or.inl rfl) | exact Or.inr (Or.inr rfl)) (by decide) (by decide)) (by constructor <;> rfl) (by rfl)) (by rfl) (by first | exact .inl rfl | exact .inr rfl | assumption)) (@pss_cons _ _ _ _ _ (@ps_if _ _ _ _ _ _ _ _ (@pt_cmpR _ _ _ _ _ _ _ _ op_gt (@pe_callB _ _ _ _ _ _ _ _ _ call_lenX rfl (hb _ (by decide)) bt_len (@pa_cX _ _ _ _ _ (@pv _ 2 _ _ (by rfl) (by first | exact Or.inl rfl | exact Or.inr (Or.inl rfl) | exact Or.inr (Or.inr rfl)) (by decide) (by decide)) (@pa_nil _) (by rfl)) (by decide) (by decide) (by rfl) (by rfl)) (@pe_int _ _ _ _) (nomark _)) (@pss_cons _ _ _ _ _ (@ps_expr _ _ _ _ (@pe_lm _ _ _ _ _ _ _ _ _ _ _ PySem.F.slot_list_append PySem.F.type_list_append mt_append (@pe_fldK _ K _ _ _ _ (@pv _ 0 _ _ (by rfl) (by first | exact Or.inl rfl | exact Or.inr (Or.inl rfl) | exact Or.inr (Or.inr rfl)) (by decide) (by decide)) (by rfl) (by rfl)) (@pa_cX _ _ _ _ _ (@pv _ 1 _ _ (by rfl) (by first | exact Or.inl rfl | exact Or.inr (Or.inl rfl) | exact Or.inr (Or.inr rfl)) (by decide) (by decide)) (@pa_nil _) (by rfl)) (by rfl) (by rfl) (by rfl) (by rfl) (by rfl)) (by rfl)) (@pss_one _ _ _ (@ps_nput _ _ _ _ _ _ _ _ _ w hu (@pe_fldK _ K _ _ _ _ (@pv _ 0 _ _ (by rfl) (by first | exact Or.inl rfl | exact Or.inr (Or.inl rfl) | exact Or.inr (Or.inr rfl)) (by decide) (by decide)) (by rfl) (by rfl)) (@pv _ 1 _ _ (by rfl) (by first | exact Or.inl rfl | exact Or.inr (Or.inl rfl) | exact Or.inr (Or.inr rfl)) (by decide) (by decide)) (@pe_slice _ _ _ _ _ _ _ _ _ _ sl_X (@pv _ 2 _ _ (by rfl) (by first | exact Or.inl rfl | exact Or.inr (Or.inl rfl) | exact Or.inr (Or.inr rfl)) (by decide) (by decide)) (@po_some _ _ _ (@pe_int _ _ _ _)) (@po_none _)) rfl (by rfl)))) (@pss_nil _)) (@pss_one _ _ _ (@ps_ret _ _ _ _ (@pe_ix _ _ _ _ _ _ _ (ix_get hu1) (@pv _ 2 _ _ (by rfl) (by first | exact Or.inl rfl | exact Or.inr (Or.inl rfl) | exact Or.inr (Or.inr rfl)) (by decide) (by decide)) (@pe_int _ _ _ _) (fun _ _ => rfl))))))), ?_⟩
    simp (maxSteps := 1000000) only [tBL, rPopAt, rGet, rLenX, Nat.reduceSub, HO.lst.injEq, HO.ins.injEq, Nat.reduceAdd, tFld, cxOf_K, tBM, rAppend, List.cons.injEq, tSeq, exists_and_left, tIfS, tTest, tOp, tVar, tC, rI0, tRet, tAsg, gName, tNext, tCons, tNil, tCB, tDrop, L2.start, List.map_cons, List.map_nil, List.length_cons, List.length_nil, List.replicate, List.cons_append, List.nil_append, List.getElem?_cons_zero, List.getElem?_cons_succ, List.set_cons_zero, List.set_cons_succ, Option.some.injEq, exists_eq_left', V.int.injEq, V.bl.injEq, V.ref.injEq, and_true, true_and, and_assoc, ex, erow, T_Gate.cl, T_Gate.no "row" (by decide), fs_Gate_row, tNPop]
    refine ⟨.inl ⟨rfl, _, SqL.of erow⟩, by decide, by decide, 0, seqIndex_of (by decide) (by omega), ?_⟩
    generalize zA : upd H pr _ = H1
    have k1 : Keep [pr] H H1 := by rw [← zA]; exact Keep.refl.upd (.inl (.head _))
    have e1 : H1 pr = some (.lst ys) := by rw [← zA, upd_same]; rfl
    have hnT : ∀ b ∈ [pr], NoT H b := noT1 (.of_lst erow)
    have ex1 := k1 _ _ ex (by simp; exact hxpr)
    have ek1 := k1 _ _ ek (by simp; exact Ne.symm hpk)
    simp (maxSteps := 1000000) only [HO.ins.injEq, exists_and_left, List.getElem?_cons_zero, Option.some.injEq, exists_eq_left', V.ref.injEq, true_and, and_assoc, ex1, T_Gate.cl, T_Gate.no "kept" (by decide), fs_Gate_kept]
    refine ⟨kvs, ek1, kvs, ek1, R.kk.keep k1 hnT, k, hy.keep k1 hnT, _, hval, ?_⟩
    generalize zB : upd H1 pk _ = H2
    have k2 : Keep [pk] H1 H2 := by rw [← zB]; exact Keep.refl.upd (.inl (.head _))
    have e2 : H2 pk = some (DNo w pk (cutE kvs k)) := (congrFun zB.symm pk).trans upd_same
    have epp2 := k2 _ _ (k1 _ _ epp (by simp; exact nppr)) (by simp; exact nppk)
    have ex2 := k2 _ _ ex1 (by simp; exact hxpk)
    have er2 := k2 _ _ e1 (by simp; exact hpk)
    have k12 : Keep [pr, pk] H H2 := fun b o e hn => by
      simp only [List.mem_cons, List.not_mem_nil, or_false, not_or] at hn
      exact k2 _ _ (k1 _ _ e (by simp; exact hn.1)) (by simp; exact hn.2)
    have hdl := cutE_lt hval
    have hlk := R.len
    simp (maxSteps := 1000000) only [getO_l, lenX_r, lenO_l, Option.bind_some, atI_0, List.length_cons, Option.some.injEq, exists_eq_left', V.ref.injEq, epp2]
    by_cases hvs : vs' = []
    · have hlen : ¬ (1 < ((xr.length + 1 : Nat) : Int)) := by rw [hxl, hvs]; simp
      simp (maxSteps := 1000000) only [decide_false, if_false, Bool.false_eq_true, hlen]
      refine q x0 _ H2 (hx0.keep k12 R.noT) ⟨ex2, R.next k12 er2 (by rw [nextS_keys, if_pos hvs]; exact hys) e2 R.kk.cut (fun j hj => by rw [vV_cut, if_neg hj]) (.inl ⟨hvs, by rw [vV_cut, if_pos rfl]⟩) (by omega)⟩ frs_cut k12
    · have hlen : (1 < ((xr.length + 1 : Nat) : Int)) := by
        have : 0 < vs'.length := List.length_pos_iff.mpr hvs
        rw [hxl]; omega
      have hrl : ys.length < sizeLine := by
        have h1 := R.slen
        have h2 := hys.len
        rw [List.length_cons] at h1
        rw [List.length_map] at h2
        rw [sizeLine_eq]; omega
      simp (maxSteps := 1000000) only [HO.lst.injEq, HO.ins.injEq, decide_true, exists_and_left, if_true, Option.some.injEq, exists_eq_left', V.ref.injEq, true_and, and_assoc, hlen, ex2, er2, T_Gate.cl, T_Gate.no "row" (by decide), fs_Gate_row, hrl]
      generalize zC : upd H2 pr _ = H3
      have k3 : Keep [pr] H2 H3 := by rw [← zC]; exact Keep.refl.upd (.inl (.head _))
      have er3 : H3 pr = some (.lst (ys ++ [y])) := (congrFun zC.symm pr).trans upd_same
      have epp3 := k3 _ _ epp2 (by simp; exact nppr)
      simp (maxSteps := 1000000) only [rGet, rSlX, HO.lst.injEq, tFld, tSl, tNoPart, tPart, exists_and_left, tOp, tVar, tC, tRet, List.getElem?_cons_zero, List.getElem?_cons_succ, Option.some.injEq, exists_eq_left', V.int.injEq, V.ref.injEq, epp3, sNPut]
      rw [cutV_drop _ (by omega)]
      intro p4 n4
      generalize z4 : upd H3 p4 _ = H4
      obtain ⟨s4, e4⟩ := new_same z4 n4
      have e4' : H4 p4 = some (.lst xr) := e4
      have ex4 := s4 _ _ (k3 _ _ ex2 (by simp; exact hxpr))
      have ek4 := s4 _ _ (k3 _ _ e2 (by simp; exact Ne.symm hpk))
      have hln : (cutE kvs k).length < sizeLine := by rw [sizeLine_eq]; omega
      have k14 : Keep [pr, pk] H H4 := fun b o e hn => by
        have hn' := hn
        simp only [List.mem_cons, List.not_mem_nil, or_false, not_or] at hn'
        exact s4 _ _ (k3 _ _ (k12 _ _ e hn) (by simp; exact hn'.1))
      simp (maxSteps := 1000000) only [HO.ins.injEq, exists_and_left, Option.some.injEq, exists_eq_left', V.ref.injEq, true_and, and_assoc, ex4, T_Gate.cl, T_Gate.no "kept" (by decide), fs_Gate_kept]
      refine ⟨_, ek4, R.kk.cut.keep k14 R.noT, k, hy.keep k14 R.noT, hln, ?_⟩
      generalize zD : upd H4 pk _ = H5
      have k5 : Keep [pk] H4 H5 := by rw [← zD]; exact Keep.refl.upd (.inl (.head _))
      have ek5 : H5 pk = some (DNo w pk (putE (cutE kvs k) k y (.ref p4))) := (congrFun zD.symm pk).trans upd_same
      have epp5 := k5 _ _ (s4 _ _ epp3) (by simp; exact nppk)
      have k15 : Keep [pr, pk] H H5 := fun b o e hn => by
        have hn' := hn
        simp only [List.mem_cons, List.not_mem_nil, or_false, not_or] at hn'
        exact k5 _ _ (k14 _ _ e hn) (by simp; exact hn'.2)
      simp (maxSteps := 1000000) only [getO_l, atI_0, Option.some.injEq, exists_eq_left', epp5]
      have npr4 : p4 ≠ pr := Ne.symm (ne_of_none er3 n4)
      have hp4 : H p4 = none := k12.free (k3.free n4 (by simp; exact npr4)) (by simp; exact ⟨npr4, Ne.symm (ne_of_none (k3 _ _ e2 (by simp; exact Ne.symm hpk)) n4)⟩)
      refine q x0 _ H5 (hx0.keep k15 R.noT) ⟨k5 _ _ ex4 (by simp; exact hxpk), R.next k15 (k5 _ _ (s4 _ _ er3) (by simp; exact hpk)) (by rw [nextS_keys, if_neg hvs]; exact hys.app (.one hy.1)) ek5 (R.kk.cut.put hy) (fun j hj => by rw [vV_put, if_neg hj, vV_cut, if_neg hj]) (.inr ⟨p4, xr, by rw [vV_put, if_pos rfl], k5 _ _ e4' (by simp; exact dn_lst e4' ek4), hxr, npr4⟩) (by have := putE_len (kvs := cutE kvs k) (k := k) (y := y) (v := .ref p4); omega)⟩ (frs_cut.trans (frs_put hp4) (fun _ z => z)) k15
def sp_out (w : World) (C : Addr) : Sp := fun vs H Q _ => ∃ (x dx pr pk : Addr) (pl : Int) (kvs : List E3) (S : Rw) (n m : Nat), vs = [.ref x, .int m] ∧ GateAt w C H x dx pr pk pl kvs S n ∧ n ≤ 1000 ∧ 0 ≤ pl ∧ pl ≤ 1000 ∧ m ≤ 10000 ∧
  ∀ p xs kvs' H', H p = none → H' p = some (.lst xs) → Ims H' xs (outS m S).1 → GateAt w C H' x dx pr pk pl kvs' (outS m S).2 n → Frs kvs kvs' H → Keep [pr, pk] H H' → (∀ j b, vV kvs' j = some (.ref b) → b ≠ p) → Q (.ref p) H'
def Wo (w : World) (C : Addr) (H : Hp) (x dx pr pk po : Addr) (pl : Int) (kvs0 : List E3) (n m : Nat) (R : List PyData × Rw) (j : Nat) (σ : St) (H' : Hp) : Prop := ∃ (xs : List V) (kvs : List E3) (S : Rw) (i : Nat) (ini : List PyData), σ = [some (.ref x), some (.int m), some (.ref po)] ∧ i + j = m ∧ H' po = some (.lst xs) ∧ Ims H' xs ini ∧ ini.length = i ∧ (ini ++ (outS j S).1, (outS j S).2) = R ∧ GateAt w C H' x dx pr pk pl kvs S n ∧ Frs kvs0 kvs H ∧ (∀ j p, vV kvs j = some (.ref p) → p ≠ po) ∧ Keep [pr, pk] H H'
theorem RowAt.vfr {H H' : Hp} {pr pk po : Addr} {pl : Int} {kvs : List E3} {S : Rw} {n : Nat} (R : RowAt w H pr pk pl kvs S n) (h : H po = none) : ∀ j p, vV kvs j = some (.ref p) → p ≠ po := fun j p e => by
  rcases R.lk j with ⟨_, z⟩ | ⟨p', xs, h1, h2, _⟩
  · rw [z] at e; cases e
  · rw [h1] at e; cases e; exact ne_of_none h2 h
set_option maxHeartbeats 4000000 in
theorem own_out (D : DefM K C "out" "Gate.out" s_Gate_out) (hb : Blt mg) (T_Gate : ClsD K mg "Gate" C at_Gate) (M_Gate_give_one : OwnM P w K mg base 1 C "give_one" ["self"] (sp_give w C)) : OwnM P w K mg base 2 C "out" ["self", "many"] (sp_out w C) := by
  refine D.own sc_Gate_out (fun _ _ _ _ _ _ us hl => match us, hl with | [_, _], _ => rfl) (fun vs H Q E h => ?_) (fun f cdv A outer s H vs Q E hr h => ?_)
  · obtain ⟨x, dx, pr, pk, pl, kvs, S, n, m, rfl, _⟩ := h
    rfl
  · obtain ⟨x, dx, pr, pk, pl, kvs, S, n, m, rfl, G, hn, hpl, hpl2, hm, q⟩ := h
    refine ⟨_, (@pss_cons _ _ _ _ _ (@ps_set _ _ 2 _ _ _ _ sc_Gate_out.nd rfl (by first | exact Or.inl rfl | exact Or.inr rfl) (@pe_lst _ _ _ _ (@pa_nil _)) (by rfl) (by first | exact .inl rfl | exact .inr rfl | assumption)) (@pss_cons _ _ _ _ _ (@ps_while _ _ _ _ _ _ PassesOwn.never (@PW.pt _ _ _ (@pw_and _ _ _ _ _ _ _ (@pt_truX _ _ _ (@pe_fldK _ K _ _ _ _ (@pv _ 0 _ _ (by rfl) (by first | exact Or.inl rfl | exact Or.inr (Or.inl rfl) | exact Or.inr (Or.inr rfl)) (by decide) (by decide)) (by rfl) (by rfl)) (by intro _; rfl)) (@pw_and1 _ _ _ _ (@pt_cmpR _ _ _ _ _ _ _ _ op_lt (@pe_callB _ _ _ _ _ _ _ _ _ call_lenX rfl (hb _ (by decide)) bt_len (@pa_cX _ _ _ _ _ (@pv _ 2 _ _ (by rfl) (by first | exact Or.inl rfl | exact Or.inr (Or.inl rfl) | exact Or.inr (Or.inr rfl)) (by decide) (by decide)) (@pa_nil _) (by rfl)) (by decide) (by decide) (by rfl) (by rfl)) (@pv _ 1 _ _ (by rfl) (by first | exact Or.inl rfl | exact Or.inr (Or.inl rfl) | exact Or.inr (Or.inr rfl)) (by decide) (by decide)) (nomark _))))) (@pss_one _ _ _ (@ps_expr _ _ _ _ (@pe_lm _ _ _ _ _ _ _ _ _ _ _ PySem.F.slot_list_append PySem.F.type_list_append mt_append (@pv _ 2 _ _ (by rfl) (by first | exact Or.inl rfl | exact Or.inr (Or.inl rfl) | exact Or.inr (Or.inr rfl)) (by decide) (by decide)) (@pa_cX _ _ _ _ _ (@pe_mth0 _ _ _ _ _ _ _ _ _ _ _ _ M_Gate_give_one T_Gate.cl hr (@pv _ 0 _ _ (by rfl) (by first | exact Or.inl rfl | exact Or.inr (Or.inl rfl) | exact Or.inr (Or.inr rfl)) (by decide) (by decide)) (by decide) (by rfl)) (@pa_nil _) (by rfl)) (by rfl) (by rfl) (by rfl) (by rfl) (by rfl)) (by rfl)))) (@pss_one _ _ _ (@ps_ret _ _ _ _ (@pv _ 2 _ _ (by rfl) (by first | exact Or.inl rfl | exact Or.inr (Or.inl rfl) | exact Or.inr (Or.inr rfl)) (by decide) (by decide)))))), ?_⟩
    simp (maxSteps := 1000000) only [Nat.reduceSub, Nat.reduceAdd, tSeq, tAsg, gName, tNil, tLst, L2.start, List.map_cons, List.map_nil, List.length_cons, List.length_nil, List.replicate, List.cons_append, List.nil_append, List.set_cons_zero, List.set_cons_succ]
    refine ⟨by decide, ?_⟩
    intro p1 n1
    generalize z1 : upd H p1 _ = H1
    obtain ⟨s1, e1⟩ := new_same z1 n1
    obtain ⟨zs0, er0, _⟩ := G.rA.row
    generalize hR : outS m S = R at q
    refine ⟨Wo w C H x dx pr pk p1 pl kvs n m R, ⟨m, [], kvs, S, 0, [], rfl, by omega, e1, .nil, rfl, by rw [hR]; rfl, G.same s1, Frs.refl, G.rA.vfr (H' := H) n1, s1.keep⟩, ?_⟩
    rintro j σ H2 ⟨xs, kvs2, S, i, ini, rfl, hij, e2, hxs, hil, hRR, G2, fr2, ho2, k2⟩
    have ex := G2.ins
    have hxl : xs.length = i := by have := hxs.len; omega
    cases S with
    | nil =>
      obtain ⟨zs, erow, irow⟩ := G2.rA.row
      cases irow
      simp (maxSteps := 1000000) only [tBL, rLenX, lenX_r, Option.bind_some, tTruX, truX_r, truO_l, HO.ins.injEq, List.isEmpty_nil, tMeth, tFld, Bool.not_true, rAppend, List.cons.injEq, exists_and_left, if_false, Bool.false_eq_true, tAnd, tTest, tOp, tVar, rI0, tRet, tCons, tNil, tCB, tDrop, List.getElem?_cons_zero, List.getElem?_cons_succ, Option.some.injEq, exists_eq_left', V.int.injEq, V.bl.injEq, V.ref.injEq, and_true, true_and, and_assoc, List.append_nil, ex, erow, T_Gate.cl, T_Gate.no "row" (by decide), fs_Gate_row, fn_Gate_give_one]
      have hRn : (outS j ([] : Rw)) = ([], []) := by cases j <;> rfl
      rw [hRn] at hRR
      subst hRR
      rw [List.append_nil] at q
      exact q p1 xs kvs2 H2 n1 e2 hxs G2 fr2 k2 ho2
    | cons a r =>
      obtain ⟨k, vs'⟩ := a
      cases vs' with
      | nil => exact absurd rfl (G2.rA.ok.ne _ (.head _))
      | cons v vs' =>
        obtain ⟨y, ys, _, _, _, erow, _⟩ := G2.rA.head
        simp (maxSteps := 1000000) only [tBL, rLenX, lenX_r, lenO_l, Option.bind_some, tTruX, truX_r, truO_l, HO.lst.injEq, HO.ins.injEq, List.isEmpty_cons, tMeth, tFld, Bool.not_false, rAppend, List.cons.injEq, exists_and_left, if_false, if_true, Bool.false_eq_true, tAnd, tTest, tOp, tVar, rI0, tRet, tCons, tNil, tCB, tDrop, List.getElem?_cons_zero, List.getElem?_cons_succ, Option.some.injEq, exists_eq_left', V.int.injEq, V.bl.injEq, V.ref.injEq, and_true, true_and, and_assoc, List.append_nil, ex, erow, T_Gate.cl, T_Gate.no "row" (by decide), fs_Gate_row, fn_Gate_give_one, e2]
        cases j with
        | zero =>
          have hc : ¬ ((xs.length : Int) < (m : Int)) := by omega
          simp only [hc, decide_false, Bool.false_eq_true, if_false]
          try simp (maxSteps := 1000000) only [tFor_eq, tComp_eq, rRngs, rListR, HO.rng.injEq, tDKeys, rSortL, rSortK, ixN_10, ixN_20, ixN_21, ixN_30, ixN_31, ixN_32, ixN_40, ixN_41, ixN_42, ixN_43, ixN_50, ixN_51, ixN_52, ixN_53, ixN_54, rNe_nn, rEq_nn, rNe_in, rEq_in, rNe_ni, rEq_ni, gSeqX, rLeS, rEq_ss, rNe_ss, rStr1, rAllX, rAnyX, rListD, iStr, rSumX, tBL, tBL0, rExtend, rPopAt, rPop, rReverse, rClear, rIsIX, tyX_n, tyX_b, tyX_i, tyX_s, tyX_r, tyO_l, tyO_t, tyO_d, V.ty.injEq, kT_Noin, kT_Nobo, kT_Nost, kT_Noli, kT_Notu, kT_Nodi, kT_boin, kT_bobo, kT_bost, kT_boli, kT_botu, kT_bodi, kT_inin, kT_inbo, kT_inst, kT_inli, kT_intu, kT_indi, kT_stin, kT_stbo, kT_stst, kT_stli, kT_sttu, kT_stdi, kT_liin, kT_libo, kT_list, kT_lili, kT_litu, kT_lidi, kT_tuin, kT_tubo, kT_tust, kT_tuli, kT_tutu, kT_tudi, kT_diin, kT_dibo, kT_dist, kT_dili, kT_ditu, kT_didi, rGet, getO_l, getO_t, getO_di, getO_ds, rLenX, lenX_r, lenX_s', lenO_l, lenO_t, lenO_d, Option.bind_some, tTruX, truX_n, truX_b, truX_i, truX_r, truO_l, truO_t, truO_d, rInX, rNotInX, inO_l', inO_t', inO_di, inO_ds, rSetX, setO_l, setO_di', setO_ds', rSlX, rListX, seqO_l, seqO_t, rTupX, gTupX, gCons, gNil, gSub, atI_0, atI_1, atI_2, atI_3, tDNewK, Nat.reduceSub, upd_same, upd_upd, Nat.reduceLT, HO.lst.injEq, HO.tup.injEq, HO.dK.injEq, HO.ins.injEq, Option.map_some, Option.isSome_some, Int.reduceEq, Int.reduceLT, Int.reduceLE, Nat.reduceAdd, List.isEmpty_nil, List.isEmpty_cons, ne_eq, not_false_eq_true, tDGs, sDPs, rIsB, rIsntB, tMeth, tMake, tDGet, sDPut, tFld, sFld, tDisp, tPairs, tNever, decide_true, decide_false, truV_bl, clsV_ty, V.ty.injEq, exists_eq', exists_eq, Bool.not_true, Bool.not_false, Bool.not_not, rLen, rListOf, rTupOf, rAny, rAll, rIsI, tTru, iRng1, iRng2, iList, tYes, cSt, List.drop_succ_cons, List.drop_zero, cxOf_K, cxC_K,  tBM, tBM0, rAppend, tSl, rSlL, tNoPart, tPart, rIxL, rIxT, rCat, List.cons.injEq, rEq_ii, rNe_ii, rEq_bb, rNe_bb, tSeq, exists_and_left, if_false, if_true, reduceIte, Bool.false_eq_true, tIfS, tAnd, tOr, tNot, tTest, tOp, tUn, tVar, tC, rI, rI0, rU, tRet, tRetN, tAsg, gName, tNext, tAndV, tOrV, tNotV, tIf, tCall, tCons, tNil, tCB, tDrop, tLst, tTup, tChain, L2.start, List.map_cons, List.map_nil, List.length_cons, List.length_nil, List.replicate, List.cons_append, List.nil_append, List.getElem?_cons_zero, List.getElem?_cons_succ, List.set_cons_zero, List.set_cons_succ, Option.some.injEq, exists_eq_left', exists_eq_left, V.int.injEq, V.bl.injEq, V.ref.injEq, V.str.injEq, exists_const, and_true, true_and, reduceCtorEq, false_and, exists_false, or_false, false_or, and_assoc, List.append_nil]
          have hRn : (outS 0 ((k, v :: vs') :: r)) = ([], (k, v :: vs') :: r) := rfl
          rw [hRn] at hRR
          subst hRR
          rw [List.append_nil] at q
          exact q p1 xs kvs2 H2 n1 e2 hxs G2 fr2 k2 ho2
        | succ j =>
          have hc : ((xs.length : Int) < (m : Int)) := by omega
          simp only [hc, decide_true, if_true]
          refine ⟨Wo w C H x dx pr pk p1 pl kvs n m R j, fun σ' H' z => ⟨j, Nat.lt_succ_self j, z⟩, ?_⟩
          refine ⟨x, dx, pr, pk, pl, k, v, vs', r, kvs2, n, rfl, G2, hn, hpl, hpl2, fun u kvs' H3 hw G3 fr3 k3 => ?_⟩
          have npr : p1 ≠ pr := Ne.symm (ne_of_none er0 n1)
          have npk : p1 ≠ pk := Ne.symm (ne_of_none G.rA.kep n1)
          have e3 := k3 _ _ e2 (by simp; exact ⟨npr, npk⟩)
          refine ⟨xs, e3, by rw [sizeLine_eq]; omega, ?_⟩
          have kU : Keep [p1] H3 (upd H3 p1 (.lst (xs ++ [u]))) := Keep.refl.upd (.inl (.head _))
          have hnT : ∀ b ∈ [p1], NoT H3 b := noT1 (.of_lst e3)
          have ho3 : ∀ j p, vV kvs' j = some (.ref p) → p ≠ p1 := fun j p h => by
            rcases fr3 j p h with z | z
            · exact ho2 j p z
            · exact Ne.symm (ne_of_none e2 z)
          refine ⟨xs ++ [u], kvs', nextS k vs' r, i + 1, ini ++ [v], rfl, by omega, upd_same, ?_, by rw [List.length_append, hil]; rfl, ?_, G3.keep kU hnT (by simp; exact ne_of G3.ins e3 (by intro z; cases z)) (by simp; exact Ne.symm npr) (by simp; exact Ne.symm npk) (fun j p h => by simp; exact ho3 j p h), (fr2.trans fr3 fun p z => k2.free z ?_), ho3, ?_⟩
          · exact (((hxs.keep k3 G2.rA.noT).app (.one hw))).keep kU hnT
          · rw [← hRR]
            conv => rhs; unfold outS
            simp
          · simp only [List.mem_cons, List.not_mem_nil, or_false, not_or]
            exact ⟨Ne.symm (ne_of_none erow z), Ne.symm (ne_of_none G2.rA.kep z)⟩
          · intro b o e hb'
            have nb : b ≠ p1 := ne_of_none e n1
            rw [upd_ne nb]
            exact k3 _ _ (k2 _ _ e hb') hb'
end
end K31
namespace K31
open PySem L2
open Classical
section
variable {P : Program} {w : World} {K : PySem.W.Frag} {mg : Str → Option Value} {base : Heap} {C : Addr}
abbrev s__law_key : Stmt := top 7
theorem sc__law_key : FnScope ["_law_d", "_law_some"] ["_law_d"] (defScope s__law_key) := ⟨rfl, rfl, rfl, by decide +kernel, rfl, by decide +kernel, by decide +kernel⟩
abbrev s__law_parcel : Stmt := top 8
theorem sc__law_parcel : FnScope ["_law_number", "_law_count", "_law_signs"] ["_law_number", "_law_count"] (defScope s__law_parcel) := ⟨rfl, rfl, rfl, by decide +kernel, rfl, by decide +kernel, by decide +kernel⟩
def kS (x : String) : PyData := .str (Str.ofString x)
def keysL : List PyData := [.tuple [.int 0, .int 7, kS "piece"], .tuple [.int 0, .int 7, kS "got"], .tuple [.int 0, .int 7], kS "(0, 7)", .int 7, kS "7", .tuple [.int 0, .int 7, kS "told"], .tuple [.int 0, .tuple [.int 7, kS "got"]], .int 0, kS "a", kS "ab", .tuple [.int 0, kS "a"], .tuple [kS "a", .tuple [.int 0, .int 7]], .tuple [.int 7, .int 0, kS "piece"], .tuple [.tuple [.int 0, .int 7], kS "piece"]]
def keyD (n : Int) : PyData := (keysL[(n % 15).toNat]?).getD (.int 0)
theorem keysL_kd : ∀ d ∈ keysL, Kd d ∧ d.depth ≤ 8 := by
  have i : ∀ n, Kd (.int n) := .int
  have s : ∀ x, Kd (kS x) := fun x => .str _
  have t : ∀ {ds : List PyData}, (∀ d ∈ ds, Kd d) → Kd (.tuple ds) := fun h => .tup _ h
  intro d hd
  unfold keysL at hd
  have n0 : ∀ d ∈ ([] : List PyData), Kd d := fun d h => nomatch h
  have c : ∀ {a : PyData} {l : List PyData}, Kd a → (∀ d ∈ l, Kd d) → ∀ d ∈ a :: l, Kd d := fun ha hl d h => by
    rcases List.mem_cons.mp h with rfl | h
    · exact ha
    · exact hl d h
  refine ⟨c (t (c (i _) (c (i _) (c (s _) n0)))) (c (t (c (i _) (c (i _) (c (s _) n0)))) (c (t (c (i _) (c (i _) n0))) (c (s _) (c (i _) (c (s _) (c (t (c (i _) (c (i _) (c (s _) n0)))) (c (t (c (i _) (c (t (c (i _) (c (s _) n0))) n0))) (c (i _) (c (s _) (c (s _) (c (t (c (i _) (c (s _) n0))) (c (t (c (s _) (c (t (c (i _) (c (i _) n0))) n0))) (c (t (c (i _) (c (i _) (c (s _) n0)))) (c (t (c (t (c (i _) (c (i _) n0))) (c (s _) n0))) n0)))))))))))))) d hd, ?_⟩
  simp only [List.mem_cons, List.not_mem_nil, or_false] at hd
  rcases hd with rfl | rfl | rfl | rfl | rfl | rfl | rfl | rfl | rfl | rfl | rfl | rfl | rfl | rfl | rfl <;> simp [PyData.depth, PyData.depthAll, kS]
def sp_key : Sp := fun vs H Q _ => ∃ n : Int, vs = [.int n] ∧ ∀ v H', Same H H' → KIs H' v (keyD n) → Q v H'
set_option maxHeartbeats 4000000 in
theorem own_key (D : Def K mg "_law_key" s__law_key) (hb : Blt mg) : Own P w K mg base 1 "_law_key" ["_law_d"] sp_key := by
  refine D.own sc__law_key (fun _ _ _ _ _ _ us hl => match us, hl with | [_], _ => rfl) (fun vs H Q E h => ?_) (fun f cdv A outer s H vs Q E hr h => ?_)
  · obtain ⟨n, rfl, _⟩ := h
    rfl
  · obtain ⟨n, rfl, q⟩ := h
    have hu := hr.units
    have hu1 : (A.deeper (PyProof.Rows.envOfC "_law_key" (defScope s__law_key) s.heap.objs.size f cdv)).units + 1 < cLine := by omega
    refine ⟨_, (@pss_cons _ _ _ _ _ (@ps_set _ _ 1 _ _ _ _ sc__law_key.nd rfl (by first | exact Or.inl rfl | exact Or.inr rfl) (@pe_lst _ _ _ _ (@pa_cX _ _ _ _ _ (@pe_tup _ _ _ _ _ (@pa_cX _ _ _ _ _ (@pe_int _ _ _ _) (@pa_cX _ _ _ _ _ (@pe_int _ _ _ _) (@pa_cX _ _ _ _ _ (@pe_str _ _ _ _) (@pa_nil _) (by rfl)) (by rfl)) (by rfl))) (@pa_cX _ _ _ _ _ (@pe_tup _ _ _ _ _ (@pa_cX _ _ _ _ _ (@pe_int _ _ _ _) (@pa_cX _ _ _ _ _ (@pe_int _ _ _ _) (@pa_cX _ _ _ _ _ (@pe_str _ _ _ _) (@pa_nil _) (by rfl)) (by rfl)) (by rfl))) (@pa_cX _ _ _ _ _ (@pe_tup _ _ _ _ _ (@pa_cX _ _ _ _ _ (@pe_int _ _ _ _) (@pa_cX _ _ _ _ _ (@pe_int _ _ _ _) (@pa_nil _) (by rfl)) (by rfl))) (@pa_cX _ _ _ _ _ (@pe_str _ _ _ _) (@pa_cX _ _ _ _ _ (@pe_int _ _ _ _) (@pa_cX _ _ _ _ _ (@pe_str _ _ _ _) (@pa_cX _ _ _ _ _ (@pe_tup _ _ _ _ _ (@pa_cX _ _ _ _ _ (@pe_int _ _ _ _) (@pa_cX _ _ _ _ _ (@pe_int _ _ _ _) (@pa_cX _ _ _ _ _ (@pe_str _ _ _ _) (@pa_nil _) (by rfl)) (by rfl)) (by rfl))) (@pa_cX _ _ _ _ _ (@pe_tup _ _ _ _ _ (@pa_cX _ _ _ _ _ (@pe_int _ _ _ _) (@pa_cX _ _ _ _ _ (@pe_tup _ _ _ _ _ (@pa_cX _ _ _ _ _ (@pe_int _ _ _ _) (@pa_cX _ _ _ _ _ (@pe_str _ _ _ _) (@pa_nil _) (by rfl)) (by rfl))) (@pa_nil _) (by rfl)) (by rfl))) (@pa_nil _) (by rfl)) (by rfl)) (by rfl)) (by rfl)) (by rfl)) (by rfl)) (by rfl)) (by rfl))) (by rfl) (by first | exact .inl rfl | exact .inr rfl | assumption)) (@pss_one _ _ _ (@ps_ret _ _ _ _ (@pe_ix _ _ _ _ _ _ _ (ix_get hu1) (@pe_op _ _ _ _ _ _ _ _ op_cat (@pv _ 1 _ _ (by rfl) (by first | exact Or.inl rfl | exact Or.inr (Or.inl rfl) | exact Or.inr (Or.inr rfl)) (by decide) (by decide)) (@pe_lst _ _ _ _ (@pa_cX _ _ _ _ _ (@pe_int _ _ _ _) (@pa_cX _ _ _ _ _ (@pe_str _ _ _ _) (@pa_cX _ _ _ _ _ (@pe_str _ _ _ _) (@pa_cX _ _ _ _ _ (@pe_tup _ _ _ _ _ (@pa_cX _ _ _ _ _ (@pe_int _ _ _ _) (@pa_cX _ _ _ _ _ (@pe_str _ _ _ _) (@pa_nil _) (by rfl)) (by rfl))) (@pa_cX _ _ _ _ _ (@pe_tup _ _ _ _ _ (@pa_cX _ _ _ _ _ (@pe_str _ _ _ _) (@pa_cX _ _ _ _ _ (@pe_tup _ _ _ _ _ (@pa_cX _ _ _ _ _ (@pe_int _ _ _ _) (@pa_cX _ _ _ _ _ (@pe_int _ _ _ _) (@pa_nil _) (by rfl)) (by rfl))) (@pa_nil _) (by rfl)) (by rfl))) (@pa_cX _ _ _ _ _ (@pe_tup _ _ _ _ _ (@pa_cX _ _ _ _ _ (@pe_int _ _ _ _) (@pa_cX _ _ _ _ _ (@pe_int _ _ _ _) (@pa_cX _ _ _ _ _ (@pe_str _ _ _ _) (@pa_nil _) (by rfl)) (by rfl)) (by rfl))) (@pa_cX _ _ _ _ _ (@pe_tup _ _ _ _ _ (@pa_cX _ _ _ _ _ (@pe_tup _ _ _ _ _ (@pa_cX _ _ _ _ _ (@pe_int _ _ _ _) (@pa_cX _ _ _ _ _ (@pe_int _ _ _ _) (@pa_nil _) (by rfl)) (by rfl))) (@pa_cX _ _ _ _ _ (@pe_str _ _ _ _) (@pa_nil _) (by rfl)) (by rfl))) (@pa_nil _) (by rfl)) (by rfl)) (by rfl)) (by rfl)) (by rfl)) (by rfl)) (by rfl)))) (@pe_op _ _ _ _ _ _ _ _ op_mod (@pv _ 0 _ _ (by rfl) (by first | exact Or.inl rfl | exact Or.inr (Or.inl rfl) | exact Or.inr (Or.inr rfl)) (by decide) (by decide)) (@pe_int _ _ _ _)) (fun _ _ => rfl))))), ?_⟩
    refine use1 (fun σ' H' => ∃ ps xs, σ' = [some (.int n), some (.ref ps)] ∧ H' ps = some (.lst xs) ∧ Ims H' xs (keysL.take 8) ∧ Same H H') ?key ?go
    case go =>
      intro R' hR
      simp (maxSteps := 1000000) only [Nat.reduceSub, Nat.reduceAdd, tSeq, tC, tAsg, gName, tCons, tNil, tLst, tTup, L2.start, List.map_cons, List.map_nil, List.length_cons, List.length_nil, List.replicate, List.cons_append, List.nil_append, List.set_cons_zero, List.set_cons_succ]
      refine ⟨by decide, ?_⟩
      intro p1 n1
      generalize z1 : upd H p1 _ = H1
      obtain ⟨s1, e1⟩ := new_same z1 n1
      refine ⟨by decide, ?_⟩
      intro p2 n2
      generalize z2 : upd H1 p2 _ = H2
      obtain ⟨s2, e2⟩ := new_same z2 n2
      refine ⟨by decide, ?_⟩
      intro p3 n3
      generalize z3 : upd H2 p3 _ = H3
      obtain ⟨s3, e3⟩ := new_same z3 n3
      refine ⟨by decide, ?_⟩
      intro p4 n4
      generalize z4 : upd H3 p4 _ = H4
      obtain ⟨s4, e4⟩ := new_same z4 n4
      refine ⟨by decide, ?_⟩
      intro p5 n5
      generalize z5 : upd H4 p5 _ = H5
      obtain ⟨s5, e5⟩ := new_same z5 n5
      refine ⟨by decide, ?_⟩
      intro p6 n6
      generalize z6 : upd H5 p6 _ = H6
      obtain ⟨s6, e6⟩ := new_same z6 n6
      refine ⟨by decide, ?_⟩
      intro p7 n7
      generalize z7 : upd H6 p7 _ = H7
      obtain ⟨s7, e7⟩ := new_same z7 n7
      have k1 := (s7 _ _ (s6 _ _ (s5 _ _ (s4 _ _ (s3 _ _ (s2 _ _ e1))))))
      have k2 := (s7 _ _ (s6 _ _ (s5 _ _ (s4 _ _ (s3 _ _ e2)))))
      have k3 := (s7 _ _ (s6 _ _ (s5 _ _ (s4 _ _ e3))))
      have k4 := (s7 _ _ (s6 _ _ (s5 _ _ e4)))
      have k5 := (s7 _ _ (s6 _ _ e5))
      have k6 := (s7 _ _ e6)
      have st : ∀ x : String, Im H7 (.str (Str.ofString x)) (kS x) := fun x => .str (strOk_of x)
      exact hR _ _ ⟨p7, _, rfl, e7, .cons (.tup k1 (.cons (.int _) (.cons (.int _) (.cons (st _) .nil))) (by simp)) (.cons (.tup k2 (.cons (.int _) (.cons (.int _) (.cons (st _) .nil))) (by simp)) (.cons (.tup k3 (.cons (.int _) (.cons (.int _) .nil)) (by simp)) (.cons (st _) (.cons (.int _) (.cons (st _) (.cons (.tup k4 (.cons (.int _) (.cons (.int _) (.cons (st _) .nil))) (by simp)) (.cons (.tup k6 (.cons (.int _) (.cons (.tup k5 (.cons (.int _) (.cons (st _) .nil)) (by simp)) .nil)) (by simp)) .nil))))))), (((((s1.trans s2).trans s3).trans s4).trans s5).trans s6).trans s7⟩
    case key =>
      rintro σ' H1 ⟨ps, xs, rfl, e1, ix, s1⟩
      simp (maxSteps := 1000000) only [rGet, getO_l, upd_same, HO.lst.injEq, Int.reduceLT, Nat.reduceAdd, rCat, exists_and_left, tOp, tVar, tC, rI, tRet, tCons, tNil, tLst, tTup, List.length_cons, List.length_nil, List.getElem?_cons_zero, List.getElem?_cons_succ, Option.some.injEq, exists_eq_left', V.int.injEq, V.ref.injEq, true_and]
      refine ⟨by decide, ?_⟩
      intro p2 n2
      generalize z2 : upd H1 p2 _ = H2
      obtain ⟨s2, e2⟩ := new_same z2 n2
      refine ⟨by decide, ?_⟩
      intro p3 n3
      generalize z3 : upd H2 p3 _ = H3
      obtain ⟨s3, e3⟩ := new_same z3 n3
      refine ⟨by decide, ?_⟩
      intro p4 n4
      generalize z4 : upd H3 p4 _ = H4
      obtain ⟨s4, e4⟩ := new_same z4 n4
      refine ⟨by decide, ?_⟩
      intro p5 n5
      generalize z5 : upd H4 p5 _ = H5
      obtain ⟨s5, e5⟩ := new_same z5 n5
      refine ⟨by decide, ?_⟩
      intro p6 n6
      generalize z6 : upd H5 p6 _ = H6
      obtain ⟨s6, e6⟩ := new_same z6 n6
      refine ⟨by decide, ?_⟩
      intro p7 n7
      generalize z7 : upd H6 p7 _ = H7
      obtain ⟨s7, e7⟩ := new_same z7 n7
      refine ⟨by decide, ?_⟩
      intro p8 n8
      generalize z8 : upd H7 p8 _ = H8
      obtain ⟨s8, e8⟩ := new_same z8 n8
      have k2 := (s8 _ _ (s7 _ _ (s6 _ _ (s5 _ _ (s4 _ _ (s3 _ _ e2))))))
      have k3 := (s8 _ _ (s7 _ _ (s6 _ _ (s5 _ _ (s4 _ _ e3)))))
      have k4 := (s8 _ _ (s7 _ _ (s6 _ _ (s5 _ _ e4))))
      have k5 := (s8 _ _ (s7 _ _ (s6 _ _ e5)))
      have k6 := (s8 _ _ (s7 _ _ e6))
      have k7 := (s8 _ _ e7)
      have st : ∀ x : String, Im H8 (.str (Str.ofString x)) (kS x) := fun x => .str (strOk_of x)
      have s18 : Same H1 H8 := (((((s2.trans s3).trans s4).trans s5).trans s6).trans s7).trans s8
      have ps8 := s18 _ _ e1
      have hxl : xs.length = 8 := by have := ix.len; rw [this]; rfl
      have i8 := (ix.same s18).app (show Ims H8 _ (keysL.drop 8) from .cons (.int _) (.cons (st _) (.cons (st _) (.cons (.tup k2 (.cons (.int _) (.cons (st _) .nil)) (by simp)) (.cons (.tup k4 (.cons (st _) (.cons (.tup k3 (.cons (.int _) (.cons (.int _) .nil)) (by simp)) .nil)) (by simp)) (.cons (.tup k5 (.cons (.int _) (.cons (.int _) (.cons (st _) .nil))) (by simp)) (.cons (.tup k7 (.cons (.tup k6 (.cons (.int _) (.cons (.int _) .nil)) (by simp)) (.cons (st _) .nil)) (by simp)) .nil)))))))
      rw [List.take_append_drop] at i8
      refine ⟨_, ps8, by rw [sizeLine_eq]; simp; omega, ?_⟩
      intro p9 n9
      generalize z9 : upd H8 p9 _ = H9
      obtain ⟨s9, e9⟩ := new_same z9 n9
      have hx : 0 ≤ n % 15 ∧ n % 15 < 15 := by omega
      have hlt : (n % 15).toNat < keysL.length := by change (n % 15).toNat < 15; omega
      have hk : keysL[(n % 15).toNat]? = some keysL[(n % 15).toNat] := List.getElem?_eq_getElem hlt
      obtain ⟨x, hx1, hx2⟩ := (i8.same s9).getR hk
      have hD : keyD n = keysL[(n % 15).toNat] := by unfold keyD; rw [hk]; rfl
      refine ⟨x, by rw [atI_pos hx.1]; exact hx1, q x H9 ((s1.trans s18).trans s9) ?_⟩
      rw [hD]
      exact ⟨hx2, keysL_kd _ (List.getElem_mem hlt)⟩
theorem sg8 : ∀ i : Nat, i < 8 → ∃ c, (Str.ofString "abcdefgh").cps[i]? = some c ∧ PyData.strOk ⟨#[c]⟩ = true
  | 0, _ => ⟨97, by decide +kernel, by decide +kernel⟩
  | 1, _ => ⟨98, by decide +kernel, by decide +kernel⟩
  | 2, _ => ⟨99, by decide +kernel, by decide +kernel⟩
  | 3, _ => ⟨100, by decide +kernel, by decide +kernel⟩
  | 4, _ => ⟨101, by decide +kernel, by decide +kernel⟩
  | 5, _ => ⟨102, by decide +kernel, by decide +kernel⟩
  | 6, _ => ⟨103, by decide +kernel, by decide +kernel⟩
  | 7, _ => ⟨104, by decide +kernel, by decide +kernel⟩
def sp_parcel : Sp := fun vs H Q _ => ∃ n c : Int, vs = [.int n, .int c] ∧ ∀ v d H', Same H H' → Im H' v d → d.depth ≤ 5 → Q v H'
theorem own_parcel (D : Def K mg "_law_parcel" s__law_parcel) (hb : Blt mg) : Own P w K mg base 1 "_law_parcel" ["_law_number", "_law_count"] sp_parcel := by
  refine D.own sc__law_parcel (fun _ _ _ _ _ _ us hl => match us, hl with | [_, _], _ => rfl) (fun vs H Q E h => ?_) (fun f cdv A outer s H vs Q E hr h => ?_)
  · obtain ⟨n, c, rfl, _⟩ := h
    rfl
  · obtain ⟨n, c, rfl, q⟩ := h
    refine ⟨_, (@pss_cons _ _ _ _ _ (@ps_set _ _ 2 _ _ _ _ sc__law_parcel.nd rfl (by first | exact Or.inl rfl | exact Or.inr rfl) (@pe_item_str _ _ _ _ _ _ (@pe_str _ _ _ _) (@pe_op _ _ _ _ _ _ _ _ op_mod (@pv _ 0 _ _ (by rfl) (by first | exact Or.inl rfl | exact Or.inr (Or.inl rfl) | exact Or.inr (Or.inr rfl)) (by decide) (by decide)) (@pe_int _ _ _ _)) (fun _ _ => rfl)) (by rfl) (by first | exact .inl rfl | exact .inr rfl | assumption)) (@pss_one _ _ _ (@ps_ret _ _ _ _ (@pe_tup _ _ _ _ _ (@pa_cX _ _ _ _ _ (@pe_op _ _ _ _ _ _ _ _ op_mod (@pv _ 0 _ _ (by rfl) (by first | exact Or.inl rfl | exact Or.inr (Or.inl rfl) | exact Or.inr (Or.inr rfl)) (by decide) (by decide)) (@pe_int _ _ _ _)) (@pa_cX _ _ _ _ _ (@pe_op _ _ _ _ _ _ _ _ op_mod (@pv _ 0 _ _ (by rfl) (by first | exact Or.inl rfl | exact Or.inr (Or.inl rfl) | exact Or.inr (Or.inr rfl)) (by decide) (by decide)) (@pe_int _ _ _ _)) (@pa_cX _ _ _ _ _ (@pv _ 1 _ _ (by rfl) (by first | exact Or.inl rfl | exact Or.inr (Or.inl rfl) | exact Or.inr (Or.inr rfl)) (by decide) (by decide)) (@pa_cX _ _ _ _ _ (@pe_tup _ _ _ _ _ (@pa_cX _ _ _ _ _ (@pe_str _ _ _ _) (@pa_cX _ _ _ _ _ (@pe_op _ _ _ _ _ _ _ _ op_mod (@pv _ 0 _ _ (by rfl) (by first | exact Or.inl rfl | exact Or.inr (Or.inl rfl) | exact Or.inr (Or.inr rfl)) (by decide) (by decide)) (@pe_int _ _ _ _)) (@pa_cX _ _ _ _ _ (@pe_tup _ _ _ _ _ (@pa_cX _ _ _ _ _ (@pe_str _ _ _ _) (@pa_cX _ _ _ _ _ (@pv _ 2 _ _ (by rfl) (by first | exact Or.inl rfl | exact Or.inr (Or.inl rfl) | exact Or.inr (Or.inr rfl)) (by decide) (by decide)) (@pa_nil _) (by rfl)) (by rfl))) (@pa_nil _) (by rfl)) (by rfl)) (by rfl))) (@pa_nil _) (by rfl)) (by rfl)) (by rfl)) (by rfl)))))), ?_⟩
    simp (maxSteps := 1000000) only [Nat.reduceSub, Int.reduceLT, Nat.reduceAdd, tSeq, exists_and_left, tOp, tVar, tC, rI, tRet, tAsg, gName, tCons, tNil, tTup, L2.start, List.map_cons, List.map_nil, List.length_cons, List.length_nil, List.replicate, List.cons_append, List.nil_append, List.getElem?_cons_zero, List.getElem?_cons_succ, List.set_cons_zero, List.set_cons_succ, Option.some.injEq, exists_eq_left', V.int.injEq, V.str.injEq, true_and]
    have hx : 0 ≤ n % 8 ∧ n % 8 < 8 := by omega
    obtain ⟨c8, hc8, ok8⟩ := sg8 (n % 8).toNat (by omega)
    have hlen : (Str.ofString "abcdefgh").length = 8 := by decide
    refine ⟨hx.1, by omega, by rw [hlen]; omega, c8, hc8, by decide, ?_⟩
    intro p1 n1
    generalize z1 : upd H p1 _ = H1
    obtain ⟨s1, e1⟩ := new_same z1 n1
    refine ⟨by decide, ?_⟩
    intro p2 n2
    generalize z2 : upd H1 p2 _ = H2
    obtain ⟨s2, e2⟩ := new_same z2 n2
    refine ⟨by decide, ?_⟩
    intro p3 n3
    generalize z3 : upd H2 p3 _ = H3
    obtain ⟨s3, e3⟩ := new_same z3 n3
    refine q _ (.tuple [.int _, .int _, .int c, .tuple [kS "piece", .int _, .tuple [kS "signs", .str ⟨#[c8]⟩]]]) H3 ((s1.trans s2).trans s3) (.tup e3 (.cons (.int _) (.cons (.int _) (.cons (.int c) (.cons (.tup (s3 _ _ e2) (.cons (.str (strOk_of _)) (.cons (.int _) (.cons (.tup (s3 _ _ (s2 _ _ e1)) (.cons (.str (strOk_of _)) (.cons (.str ok8) .nil)) (by simp)) .nil))) (by simp)) .nil)))) (by simp)) ?_
    simp [PyData.depth, PyData.depthAll, kS]
end
end K31
namespace K31
open PySem L2
open Classical
section
variable {P : Program} {w : World} {K : PySem.W.Frag} {mg : Str → Option Value} {base : Heap} {C : Addr}
abbrev s__law_put : Stmt := top 9
theorem sc__law_put : FnScope ["_law_row", "_law_kept", "_law_places", "_law_key_here", "_law_parcel_here", "_law_parcels"] ["_law_row", "_law_kept", "_law_places", "_law_key_here", "_law_parcel_here"] (defScope s__law_put) := ⟨rfl, rfl, rfl, by decide +kernel, rfl, by decide +kernel, by decide +kernel⟩
def sp_lput (w : World) : Sp := fun vs H Q _ => ∃ (pr pk : Addr) (pl : Int) (k d : PyData) (y v : V) (kvs : List E3) (S : Rw) (n : Nat), vs = [.ref pr, .ref pk, .int pl, y, v] ∧ RowAt w H pr pk pl kvs S n ∧ KIs H y k ∧ Im H v d ∧ d.depth ≤ 5 ∧ n ≤ 1000 ∧ 0 ≤ pl ∧ pl ≤ 1000 ∧
  ∀ kvs' H', RowAt w H' pr pk pl kvs' (putB S k d pl).2 (n + 1) → Frs kvs kvs' H → Keep [pr, pk] H H' → Q (.bl (putB S k d pl).1) H'
set_option maxHeartbeats 4000000 in
theorem own_lput (D : Def K mg "_law_put" s__law_put) (hb : Blt mg) : Own P w K mg base 1 "_law_put" ["_law_row", "_law_kept", "_law_places", "_law_key_here", "_law_parcel_here"] (sp_lput w) := by
  refine D.own sc__law_put (fun _ _ _ _ _ _ us hl => match us, hl with | [_, _, _, _, _], _ => rfl) (fun vs H Q E h => ?_) (fun f cdv A outer s H vs Q E hr h => ?_)
  · obtain ⟨pr, pk, pl, k, d, y, v, kvs, S, n, rfl, _⟩ := h
    rfl
  · obtain ⟨pr, pk, pl, k, d, y, v, kvs, S, n, rfl, R, hy, hv, hd5, hn1, hpl, hpl2, q⟩ := h
    have hu := hr.units
    have hu1 : (A.deeper (PyProof.Rows.envOfC "_law_put" (defScope s__law_put) s.heap.objs.size f cdv)).units + 1 < cLine := by omega
    obtain ⟨zs, er, ir⟩ := R.row
    refine ⟨_, (@pss_cons _ _ _ _ _ (@ps_set _ _ 5 _ _ _ _ sc__law_put.nd rfl (by first | exact Or.inl rfl | exact Or.inr rfl) (@pe_ng2 _ _ _ _ _ _ _ _ _ w hu (@pv _ 1 _ _ (by rfl) (by first | exact Or.inl rfl | exact Or.inr (Or.inl rfl) | exact Or.inr (Or.inr rfl)) (by decide) (by decide)) (@pv _ 3 _ _ (by rfl) (by first | exact Or.inl rfl | exact Or.inr (Or.inl rfl) | exact Or.inr (Or.inr rfl)) (by decide) (by decide)) (@pe_lst _ _ _ _ (@pa_nil _)) (by constructor <;> rfl) (by rfl)) (by rfl) (by first | exact .inl rfl | exact .inr rfl | assumption)) (@pss_cons _ _ _ _ _ (@ps_if _ _ _ _ _ _ _ _ (@pt_cmpR _ _ _ _ _ _ _ _ (op_inD hu) (@pv _ 4 _ _ (by rfl) (by first | exact Or.inl rfl | exact Or.inr (Or.inl rfl) | exact Or.inr (Or.inr rfl)) (by decide) (by decide)) (@pv _ 5 _ _ (by rfl) (by first | exact Or.inl rfl | exact Or.inr (Or.inl rfl) | exact Or.inr (Or.inr rfl)) (by decide) (by decide)) rfl) (@pss_one _ _ _ (@ps_ret _ _ _ _ (@pe_bl _ _ _ _))) (@pss_nil _)) (@pss_cons _ _ _ _ _ (@ps_if _ _ _ _ _ _ _ _ (@pt_cmpR _ _ _ _ _ _ _ _ op_ge (@pe_callB _ _ _ _ _ _ _ _ _ call_lenX rfl (hb _ (by decide)) bt_len (@pa_cX _ _ _ _ _ (@pv _ 5 _ _ (by rfl) (by first | exact Or.inl rfl | exact Or.inr (Or.inl rfl) | exact Or.inr (Or.inr rfl)) (by decide) (by decide)) (@pa_nil _) (by rfl)) (by decide) (by decide) (by rfl) (by rfl)) (@pv _ 2 _ _ (by rfl) (by first | exact Or.inl rfl | exact Or.inr (Or.inl rfl) | exact Or.inr (Or.inr rfl)) (by decide) (by decide)) (nomark _)) (@pss_one _ _ _ (@ps_ret _ _ _ _ (@pe_bl _ _ _ _))) (@pss_nil _)) (@pss_cons _ _ _ _ _ (@ps_if _ _ _ _ _ _ _ _ (@pt_cmpR _ _ _ _ _ _ _ _ (op_eqNil hu) (@pv _ 5 _ _ (by rfl) (by first | exact Or.inl rfl | exact Or.inr (Or.inl rfl) | exact Or.inr (Or.inr rfl)) (by decide) (by decide)) (@pe_lst _ _ _ _ (@pa_nil _)) (nomark _)) (@pss_one _ _ _ (@ps_expr _ _ _ _ (@pe_lm _ _ _ _ _ _ _ _ _ _ _ PySem.F.slot_list_append PySem.F.type_list_append mt_append (@pv _ 0 _ _ (by rfl) (by first | exact Or.inl rfl | exact Or.inr (Or.inl rfl) | exact Or.inr (Or.inr rfl)) (by decide) (by decide)) (@pa_cX _ _ _ _ _ (@pv _ 3 _ _ (by rfl) (by first | exact Or.inl rfl | exact Or.inr (Or.inl rfl) | exact Or.inr (Or.inr rfl)) (by decide) (by decide)) (@pa_nil _) (by rfl)) (by rfl) (by rfl) (by rfl) (by rfl) (by rfl)) (by rfl))) (@pss_nil _)) (@pss_cons _ _ _ _ _ (@ps_nput _ _ _ _ _ _ _ _ _ w hu (@pv _ 1 _ _ (by rfl) (by first | exact Or.inl rfl | exact Or.inr (Or.inl rfl) | exact Or.inr (Or.inr rfl)) (by decide) (by decide)) (@pv _ 3 _ _ (by rfl) (by first | exact Or.inl rfl | exact Or.inr (Or.inl rfl) | exact Or.inr (Or.inr rfl)) (by decide) (by decide)) (@pe_op _ _ _ _ _ _ _ _ op_cat (@pv _ 5 _ _ (by rfl) (by first | exact Or.inl rfl | exact Or.inr (Or.inl rfl) | exact Or.inr (Or.inr rfl)) (by decide) (by decide)) (@pe_lst _ _ _ _ (@pa_cX _ _ _ _ _ (@pv _ 4 _ _ (by rfl) (by first | exact Or.inl rfl | exact Or.inr (Or.inl rfl) | exact Or.inr (Or.inr rfl)) (by decide) (by decide)) (@pa_nil _) (by rfl)))) rfl (by rfl)) (@pss_one _ _ _ (@ps_ret _ _ _ _ (@pe_bl _ _ _ _)))))))), ?_⟩
    simp (maxSteps := 1000000) only [tBL, rLenX, Nat.reduceSub, Nat.reduceAdd, rAppend, List.cons.injEq, tSeq, exists_and_left, tIfS, tTest, tOp, tVar, tC, rI0, tRet, tAsg, gName, tNext, tCons, tNil, tCB, tDrop, tLst, L2.start, List.map_cons, List.map_nil, List.length_cons, List.length_nil, List.replicate, List.cons_append, List.nil_append, List.getElem?_cons_zero, List.getElem?_cons_succ, List.set_cons_zero, List.set_cons_succ, Option.some.injEq, exists_eq_left', V.int.injEq, V.bl.injEq, V.ref.injEq, and_true, tNG2]
    refine ⟨kvs, R.kep, by decide, ?_⟩
    intro p1 n1
    generalize z1 : upd H p1 _ = H1
    obtain ⟨s1, e1⟩ := new_same z1 n1
    have R1 := R.same s1
    have er1 := s1 _ _ er
    have hy1 := hy.same s1
    have hv1 := hv.same s1
    obtain ⟨pp, xs, hpp, epp, hxs, nppr⟩ := R1.got e1 (Ne.symm (ne_of_none er n1)) k
    refine ⟨kvs, R1.kep, R1.kk, k, hy1, ?_⟩
    rw [hpp]
    have hxl : xs.length = (nums S k).length := hxs.len
    simp (maxSteps := 1000000) only [lenX_r]
    refine ⟨pp, xs, _, _, rfl, epp, hxs.dts, hv1.dt, Nat.le_trans hd5 (by decide), fun e he => Nat.le_trans (R.ok.dp k e he) (by decide), ?_⟩
    cases hany : ((nums S k).any fun e => PyData.eqv e d) with
    | true =>
      simp (maxSteps := 1000000) only [if_true, exists_eq_left', V.bl.injEq]
      have hB : putB S k d pl = (true, S) := by unfold putB; rw [if_pos hany]
      rw [hB] at q
      exact q kvs H1 (R1.up (Nat.le_succ n)) Frs.refl s1.keep
    | false =>
      have hany' : ¬ ((nums S k).any fun e => PyData.eqv e d) = true := by rw [hany]; simp
      simp (maxSteps := 1000000) only [lenO_l, Option.bind_some, if_false, Bool.false_eq_true, Option.some.injEq, exists_eq_left', V.bl.injEq, epp]
      refine ite2 (fun hge => ?_) (fun hge => ?_)
      · have hB : putB S k d pl = (false, S) := by unfold putB; rw [if_neg hany', if_pos (by have := of_decide_eq_true hge; omega)]
        rw [hB] at q
        exact q kvs H1 (R1.up (Nat.le_succ n)) Frs.refl s1.keep
      · have hlt : (xs.length : Int) < pl := by
          have : ¬ (pl ≤ (xs.length : Int)) := fun z => hge (decide_eq_true z)
          omega
        have hB : putB S k d pl = (true, putS S k d) := by unfold putB; rw [if_neg hany', if_neg (by omega)]
        rw [hB] at q
        have hpk : pr ≠ pk := dn_lst er1 R1.kep
        have hSl := R.slen
        have few' : (nums S k).length + 1 ≤ pl.toNat := by omega
        have hln : kvs.length < sizeLine := by have := R.len; rw [sizeLine_eq]; omega
        have hxs0 : xs.isEmpty = true ↔ nums S k = [] := by
          rw [List.isEmpty_iff]
          constructor
          · intro z; rw [z] at hxl; exact List.length_eq_zero_iff.mp hxl.symm
          · intro z; rw [z] at hxl; exact List.length_eq_zero_iff.mp hxl
        have hzl : zs.length = S.length := by have := ir.len; rw [List.length_map] at this; exact this
        refine ⟨by decide, ?_⟩
        intro p2 n2
        generalize z2 : upd H1 p2 _ = H2
        obtain ⟨s2, e2⟩ := new_same z2 n2
        have epp2 := s2 _ _ epp
        have R2 := R1.same s2
        have er2 := s2 _ _ er1
        have hy2 := hy1.same s2
        have hv2 := hv1.same s2
        have s02 := s1.trans s2
        refine ⟨pp, p2, xs, rfl, rfl, epp2, e2, xs.isEmpty, rfl, ite2 (fun he => ?_) (fun he => ?_)⟩
        · have h0 := hxs0.mp he
          have hk0 : k ∉ S.map (·.1) := fun z => by
            obtain ⟨q, hq, e⟩ := List.mem_map.mp z
            have := nums_of R.ok.nd hq
            rw [e, h0] at this
            exact R.ok.ne q hq this.symm
          refine ⟨_, er2, _, er2, by rw [sizeLine_eq]; omega, ?_⟩
          generalize zA : upd H2 pr _ = H3
          have kA : Keep [pr] H2 H3 := by rw [← zA]; exact Keep.refl.upd (.inl (.head _))
          have eA : H3 pr = some (.lst (zs ++ [y])) := by rw [← zA, upd_same]
          have iA : Ims H2 (zs ++ [y]) ((putS S k d).map (·.1)) := by rw [putS_keys, if_neg hk0]; exact (ir.same s02).app (.one hy2.1)
          have hnT : ∀ b ∈ [pr], NoT H2 b := noT1 (.of_lst er2)
          simp (maxSteps := 1000000) only [upd_same, HO.lst.injEq, Nat.reduceAdd, rCat, exists_and_left, tOp, tVar, tC, tRet, tCons, tNil, tLst, List.length_cons, List.length_nil, List.getElem?_cons_zero, List.getElem?_cons_succ, Option.some.injEq, exists_eq_left', V.ref.injEq, sNPut]
          refine ⟨by decide, ?_⟩
          intro p4 n4
          generalize z4 : upd H3 p4 _ = H4
          obtain ⟨s4, e4⟩ := new_same z4 n4
          have epp4 := s4 _ _ (kA _ _ epp2 (by simp; exact nppr))
          refine ⟨_, epp4, by rw [sizeLine_eq]; omega, ?_⟩
          intro p5 n5
          generalize z5 : upd H4 p5 _ = H5
          obtain ⟨s5, e5⟩ := new_same z5 n5
          have ek5 := s5 _ _ (s4 _ _ (kA _ _ R2.kep (by simp; exact Ne.symm hpk)))
          have k15 : Keep [pr] H2 H5 := fun b o e hn => s5 _ _ (s4 _ _ (kA _ _ e hn))
          refine ⟨kvs, ek5, R2.kk.keep k15 hnT, k, hy2.keep k15 hnT, hln, ?_⟩
          try simp (maxSteps := 1000000) only [tFor_eq, tComp_eq, rRngs, rListR, HO.rng.injEq, tDKeys, rSortL, rSortK, ixN_10, ixN_20, ixN_21, ixN_30, ixN_31, ixN_32, ixN_40, ixN_41, ixN_42, ixN_43, ixN_50, ixN_51, ixN_52, ixN_53, ixN_54, rNe_nn, rEq_nn, rNe_in, rEq_in, rNe_ni, rEq_ni, gSeqX, rLeS, rEq_ss, rNe_ss, rStr1, rAllX, rAnyX, rListD, iStr, rSumX, tBL, tBL0, rExtend, rPopAt, rPop, rReverse, rClear, rIsIX, tyX_n, tyX_b, tyX_i, tyX_s, tyX_r, tyO_l, tyO_t, tyO_d, V.ty.injEq, kT_Noin, kT_Nobo, kT_Nost, kT_Noli, kT_Notu, kT_Nodi, kT_boin, kT_bobo, kT_bost, kT_boli, kT_botu, kT_bodi, kT_inin, kT_inbo, kT_inst, kT_inli, kT_intu, kT_indi, kT_stin, kT_stbo, kT_stst, kT_stli, kT_sttu, kT_stdi, kT_liin, kT_libo, kT_list, kT_lili, kT_litu, kT_lidi, kT_tuin, kT_tubo, kT_tust, kT_tuli, kT_tutu, kT_tudi, kT_diin, kT_dibo, kT_dist, kT_dili, kT_ditu, kT_didi, rGet, getO_l, getO_t, getO_di, getO_ds, rLenX, lenX_r, lenX_s', lenO_l, lenO_t, lenO_d, Option.bind_some, tTruX, truX_n, truX_b, truX_i, truX_r, truO_l, truO_t, truO_d, rInX, rNotInX, inO_l', inO_t', inO_di, inO_ds, rSetX, setO_l, setO_di', setO_ds', rSlX, rListX, seqO_l, seqO_t, rTupX, gTupX, gCons, gNil, gSub, atI_0, atI_1, atI_2, atI_3, tDNewK, Nat.reduceSub, upd_same, upd_upd, Nat.reduceLT, HO.lst.injEq, HO.tup.injEq, HO.dK.injEq, HO.ins.injEq, Option.map_some, Option.isSome_some, Int.reduceEq, Int.reduceLT, Int.reduceLE, Nat.reduceAdd, List.isEmpty_nil, List.isEmpty_cons, ne_eq, not_false_eq_true, tDGs, sDPs, rIsB, rIsntB, tMeth, tMake, tDGet, sDPut, tFld, sFld, tDisp, tPairs, tNever, decide_true, decide_false, truV_bl, clsV_ty, V.ty.injEq, exists_eq', exists_eq, Bool.not_true, Bool.not_false, Bool.not_not, rLen, rListOf, rTupOf, rAny, rAll, rIsI, tTru, iRng1, iRng2, iList, tYes, cSt, List.drop_succ_cons, List.drop_zero, cxOf_K, cxC_K,  tBM, tBM0, rAppend, tSl, rSlL, tNoPart, tPart, rIxL, rIxT, rCat, List.cons.injEq, rEq_ii, rNe_ii, rEq_bb, rNe_bb, tSeq, exists_and_left, if_false, if_true, reduceIte, Bool.false_eq_true, tIfS, tAnd, tOr, tNot, tTest, tOp, tUn, tVar, tC, rI, rI0, rU, tRet, tRetN, tAsg, gName, tNext, tAndV, tOrV, tNotV, tIf, tCall, tCons, tNil, tCB, tDrop, tLst, tTup, tChain, L2.start, List.map_cons, List.map_nil, List.length_cons, List.length_nil, List.replicate, List.cons_append, List.nil_append, List.getElem?_cons_zero, List.getElem?_cons_succ, List.set_cons_zero, List.set_cons_succ, Option.some.injEq, exists_eq_left', exists_eq_left, V.int.injEq, V.bl.injEq, V.ref.injEq, V.str.injEq, exists_const, and_true, true_and, reduceCtorEq, false_and, exists_false, or_false, false_or, and_assoc, List.append_nil]
          have n5' : pr ≠ p5 := ne_of_none (s4 _ _ eA) n5
          obtain ⟨g1, g2⟩ := put_fin R2 hy2 hd5 kA eA iA (s4.trans s5) (hv2.keep k15 hnT) (hxs.same s2) few' e5 n5'
          exact q _ _ g1 (frs_put (s02.fr (kA.free (s4.fr n5) (by simp; exact Ne.symm n5')))) fun b o e hn => g2 b o (s02 _ _ e) hn
        · have h0 : nums S k ≠ [] := fun z => he (hxs0.mpr z)
          have hk0 : k ∈ S.map (·.1) := by
            cases hl : nums S k with
            | nil => exact absurd hl h0
            | cons a b => exact nums_mem (n := a) (by rw [hl]; exact .head _)
          have iA : Ims H2 zs ((putS S k d).map (·.1)) := by rw [putS_keys, if_pos hk0]; exact ir.same s02
          simp (maxSteps := 1000000) only [upd_same, HO.lst.injEq, Nat.reduceAdd, rCat, exists_and_left, tOp, tVar, tC, tRet, tCons, tNil, tLst, List.length_cons, List.length_nil, List.getElem?_cons_zero, List.getElem?_cons_succ, Option.some.injEq, exists_eq_left', V.ref.injEq, sNPut]
          refine ⟨by decide, ?_⟩
          intro p4 n4
          generalize z4 : upd H2 p4 _ = H4
          obtain ⟨s4, e4⟩ := new_same z4 n4
          have epp4 := s4 _ _ epp2
          refine ⟨_, epp4, by rw [sizeLine_eq]; omega, ?_⟩
          intro p5 n5
          generalize z5 : upd H4 p5 _ = H5
          obtain ⟨s5, e5⟩ := new_same z5 n5
          have s25 := s4.trans s5
          refine ⟨kvs, s25 _ _ R2.kep, R2.kk.same s25, k, hy2.same s25, hln, ?_⟩
          try simp (maxSteps := 1000000) only [tFor_eq, tComp_eq, rRngs, rListR, HO.rng.injEq, tDKeys, rSortL, rSortK, ixN_10, ixN_20, ixN_21, ixN_30, ixN_31, ixN_32, ixN_40, ixN_41, ixN_42, ixN_43, ixN_50, ixN_51, ixN_52, ixN_53, ixN_54, rNe_nn, rEq_nn, rNe_in, rEq_in, rNe_ni, rEq_ni, gSeqX, rLeS, rEq_ss, rNe_ss, rStr1, rAllX, rAnyX, rListD, iStr, rSumX, tBL, tBL0, rExtend, rPopAt, rPop, rReverse, rClear, rIsIX, tyX_n, tyX_b, tyX_i, tyX_s, tyX_r, tyO_l, tyO_t, tyO_d, V.ty.injEq, kT_Noin, kT_Nobo, kT_Nost, kT_Noli, kT_Notu, kT_Nodi, kT_boin, kT_bobo, kT_bost, kT_boli, kT_botu, kT_bodi, kT_inin, kT_inbo, kT_inst, kT_inli, kT_intu, kT_indi, kT_stin, kT_stbo, kT_stst, kT_stli, kT_sttu, kT_stdi, kT_liin, kT_libo, kT_list, kT_lili, kT_litu, kT_lidi, kT_tuin, kT_tubo, kT_tust, kT_tuli, kT_tutu, kT_tudi, kT_diin, kT_dibo, kT_dist, kT_dili, kT_ditu, kT_didi, rGet, getO_l, getO_t, getO_di, getO_ds, rLenX, lenX_r, lenX_s', lenO_l, lenO_t, lenO_d, Option.bind_some, tTruX, truX_n, truX_b, truX_i, truX_r, truO_l, truO_t, truO_d, rInX, rNotInX, inO_l', inO_t', inO_di, inO_ds, rSetX, setO_l, setO_di', setO_ds', rSlX, rListX, seqO_l, seqO_t, rTupX, gTupX, gCons, gNil, gSub, atI_0, atI_1, atI_2, atI_3, tDNewK, Nat.reduceSub, upd_same, upd_upd, Nat.reduceLT, HO.lst.injEq, HO.tup.injEq, HO.dK.injEq, HO.ins.injEq, Option.map_some, Option.isSome_some, Int.reduceEq, Int.reduceLT, Int.reduceLE, Nat.reduceAdd, List.isEmpty_nil, List.isEmpty_cons, ne_eq, not_false_eq_true, tDGs, sDPs, rIsB, rIsntB, tMeth, tMake, tDGet, sDPut, tFld, sFld, tDisp, tPairs, tNever, decide_true, decide_false, truV_bl, clsV_ty, V.ty.injEq, exists_eq', exists_eq, Bool.not_true, Bool.not_false, Bool.not_not, rLen, rListOf, rTupOf, rAny, rAll, rIsI, tTru, iRng1, iRng2, iList, tYes, cSt, List.drop_succ_cons, List.drop_zero, cxOf_K, cxC_K,  tBM, tBM0, rAppend, tSl, rSlL, tNoPart, tPart, rIxL, rIxT, rCat, List.cons.injEq, rEq_ii, rNe_ii, rEq_bb, rNe_bb, tSeq, exists_and_left, if_false, if_true, reduceIte, Bool.false_eq_true, tIfS, tAnd, tOr, tNot, tTest, tOp, tUn, tVar, tC, rI, rI0, rU, tRet, tRetN, tAsg, gName, tNext, tAndV, tOrV, tNotV, tIf, tCall, tCons, tNil, tCB, tDrop, tLst, tTup, tChain, L2.start, List.map_cons, List.map_nil, List.length_cons, List.length_nil, List.replicate, List.cons_append, List.nil_append, List.getElem?_cons_zero, List.getElem?_cons_succ, List.set_cons_zero, List.set_cons_succ, Option.some.injEq, exists_eq_left', exists_eq_left, V.int.injEq, V.bl.injEq, V.ref.injEq, V.str.injEq, exists_const, and_true, true_and, reduceCtorEq, false_and, exists_false, or_false, false_or, and_assoc, List.append_nil]
          obtain ⟨g1, g2⟩ := put_fin R2 hy2 hd5 (Keep.refl (S := [pr])) er2 iA s25 (hv2.same s25) (hxs.same s2) few' e5 (ne_of_none (s4 _ _ er2) n5)
          exact q _ _ g1 (frs_put (s02.fr (s4.fr n5))) fun b o e hn => g2 b o (s02 _ _ e) hn
end
end K31
namespace K31
open PySem L2
open Classical
section
variable {P : Program} {w : World} {K : PySem.W.Frag} {mg : Str → Option Value} {base : Heap} {C : Addr}
abbrev s__law_out : Stmt := top 10
theorem sc__law_out : FnScope ["_law_row", "_law_kept", "_law_many", "_law_found", "_law_k", "_law_key_here"] ["_law_row", "_law_kept", "_law_many"] (defScope s__law_out) := ⟨rfl, rfl, rfl, by decide +kernel, rfl, by decide +kernel, by decide +kernel⟩
def sp_lout (w : World) : Sp := fun vs H Q _ => ∃ (pr pk : Addr) (pl : Int) (kvs : List E3) (S : Rw) (n m : Nat), vs = [.ref pr, .ref pk, .int m] ∧ RowAt w H pr pk pl kvs S n ∧ n ≤ 1000 ∧ 0 ≤ pl ∧ pl ≤ 1000 ∧ m ≤ 10000 ∧
  ∀ p xs kvs' H', H p = none → H' p = some (.lst xs) → Ims H' xs (outS m S).1 → RowAt w H' pr pk pl kvs' (outS m S).2 n → Frs kvs kvs' H → Keep [pr, pk] H H' → Q (.ref p) H'
def Lo (w : World) (H : Hp) (pr pk po : Addr) (pl : Int) (kvs0 : List E3) (n m : Nat) (R : List PyData × Rw) (i : Nat) (σ : St) (H' : Hp) : Prop := ∃ (xs : List V) (kvs : List E3) (S : Rw) (ini : List PyData) (v4 v5 : Option V), σ = [some (.ref pr), some (.ref pk), some (.int m), some (.ref po), v4, v5] ∧ H' po = some (.lst xs) ∧ Ims H' xs ini ∧ ini.length ≤ i ∧ (ini ++ (outS (m - i) S).1, (outS (m - i) S).2) = R ∧ RowAt w H' pr pk pl kvs S n ∧ Frs kvs0 kvs H ∧ (∀ j p, vV kvs j = some (.ref p) → p ≠ po) ∧ Keep [pr, pk] H H'
set_option maxHeartbeats 4000000 in
theorem own_lout (D : Def K mg "_law_out" s__law_out) (hb : Blt mg) : Own P w K mg base 1 "_law_out" ["_law_row", "_law_kept", "_law_many"] (sp_lout w) := by
  refine D.own sc__law_out (fun _ _ _ _ _ _ us hl => match us, hl with | [_, _, _], _ => rfl) (fun vs H Q E h => ?_) (fun f cdv A outer s H vs Q E hr h => ?_)
  · obtain ⟨pr, pk, pl, kvs, S, n, m, rfl, _⟩ := h
    rfl
  · obtain ⟨pr, pk, pl, kvs0, S, n, m, rfl, R0, hn1, hpl, hpl2, hm, q⟩ := h
    have hu := hr.units
    have hu1 : (A.deeper (PyProof.Rows.envOfC "_law_out" (defScope s__law_out) s.heap.objs.size f cdv)).units + 1 < cLine := by omega
    obtain ⟨zs0, er0, _⟩ := R0.row
    refine ⟨_, (@pss_cons _ _ _ _ _ (@ps_set _ _ 3 _ _ _ _ sc__law_out.nd rfl (by first | exact Or.inl rfl | exact Or.inr rfl) (@pe_lst _ _ _ _ (@pa_nil _)) (by rfl) (by first | exact .inl rfl | exact .inr rfl | assumption)) (@pss_cons _ _ _ _ _ (@ps_for _ _ _ _ _ _ _ _ PassesOwn.never rfl (@pi_range1 _ _ _ _ _ _ rfl (hb _ (by decide)) (@pa_cX _ _ _ _ _ (@pv _ 2 _ _ (by rfl) (by first | exact Or.inl rfl | exact Or.inr (Or.inl rfl) | exact Or.inr (Or.inr rfl)) (by decide) (by decide)) (@pa_nil _) (by rfl)) (by rfl)) (@pg_name _ _ 4 _ sc__law_out.nd rfl (by first | exact Or.inl rfl | exact Or.inr rfl) (by first | exact .inl rfl | exact .inr rfl | assumption)) (@pss_one _ _ _ (@ps_if _ _ _ _ _ _ _ _ (@pt_cmpR _ _ _ _ _ _ _ _ (op_neNil hu) (@pv _ 0 _ _ (by rfl) (by first | exact Or.inl rfl | exact Or.inr (Or.inl rfl) | exact Or.inr (Or.inr rfl)) (by decide) (by decide)) (@pe_lst _ _ _ _ (@pa_nil _)) (nomark _)) (@pss_cons _ _ _ _ _ (@ps_set _ _ 5 _ _ _ _ sc__law_out.nd rfl (by first | exact Or.inl rfl | exact Or.inr rfl) (@pe_bm _ _ _ _ _ _ _ _ _ _ _ _ PySem.F.plainAttrs_list PySem.F.slot_list_pop PySem.F.type_list_pop mt_popAt (@pv _ 0 _ _ (by rfl) (by first | exact Or.inl rfl | exact Or.inr (Or.inl rfl) | exact Or.inr (Or.inr rfl)) (by decide) (by decide)) (@pa_cX _ _ _ _ _ (@pe_int _ _ _ _) (@pa_nil _) (by rfl)) (by rfl) (by rfl) (by rfl) (by rfl) (by rfl)) (by rfl) (by first | exact .inl rfl | exact .inr rfl | assumption)) (@pss_cons _ _ _ _ _ (@ps_expr _ _ _ _ (@pe_lm _ _ _ _ _ _ _ _ _ _ _ PySem.F.slot_list_append PySem.F.type_list_append mt_append (@pv _ 3 _ _ (by rfl) (by first | exact Or.inl rfl | exact Or.inr (Or.inl rfl) | exact Or.inr (Or.inr rfl)) (by decide) (by decide)) (@pa_cX _ _ _ _ _ (@pe_ix _ _ _ _ _ _ _ (ix_get hu1) (@pe_nix _ _ _ _ _ _ w hu (@pv _ 1 _ _ (by rfl) (by first | exact Or.inl rfl | exact Or.inr (Or.inl rfl) | exact Or.inr (Or.inr rfl)) (by decide) (by decide)) (@pv _ 5 _ _ (by rfl) (by first | exact Or.inl rfl | exact Or.inr (Or.inl rfl) | exact Or.inr (Or.inr rfl)) (by decide) (by decide)) (by intro _ _; rfl) (by rfl)) (@pe_int _ _ _ _) (fun _ _ => rfl)) (@pa_nil _) (by rfl)) (by rfl) (by rfl) (by rfl) (by rfl) (by rfl)) (by rfl)) (@pss_cons _ _ _ _ _ (@ps_nput _ _ _ _ _ _ _ _ _ w hu (@pv _ 1 _ _ (by rfl) (by first | exact Or.inl rfl | exact Or.inr (Or.inl rfl) | exact Or.inr (Or.inr rfl)) (by decide) (by decide)) (@pv _ 5 _ _ (by rfl) (by first | exact Or.inl rfl | exact Or.inr (Or.inl rfl) | exact Or.inr (Or.inr rfl)) (by decide) (by decide)) (@pe_slice _ _ _ _ _ _ _ _ _ _ sl_X (@pe_nix _ _ _ _ _ _ w hu (@pv _ 1 _ _ (by rfl) (by first | exact Or.inl rfl | exact Or.inr (Or.inl rfl) | exact Or.inr (Or.inr rfl)) (by decide) (by decide)) (@pv _ 5 _ _ (by rfl) (by first | exact Or.inl rfl | exact Or.inr (Or.inl rfl) | exact Or.inr (Or.inr rfl)) (by decide) (by decide)) (by intro _ _; rfl) (by rfl)) (@po_some _ _ _ (@pe_int _ _ _ _)) (@po_none _)) rfl (by rfl)) (@pss_one _ _ _ (@ps_if _ _ _ _ _ _ _ _ (@pt_cmpR _ _ _ _ _ _ _ _ (op_neNil hu) (@pe_nix _ _ _ _ _ _ w hu (@pv _ 1 _ _ (by rfl) (by first | exact Or.inl rfl | exact Or.inr (Or.inl rfl) | exact Or.inr (Or.inr rfl)) (by decide) (by decide)) (@pv _ 5 _ _ (by rfl) (by first | exact Or.inl rfl | exact Or.inr (Or.inl rfl) | exact Or.inr (Or.inr rfl)) (by decide) (by decide)) (by intro _ _; rfl) (by rfl)) (@pe_lst _ _ _ _ (@pa_nil _)) (nomark _)) (@pss_one _ _ _ (@ps_expr _ _ _ _ (@pe_lm _ _ _ _ _ _ _ _ _ _ _ PySem.F.slot_list_append PySem.F.type_list_append mt_append (@pv _ 0 _ _ (by rfl) (by first | exact Or.inl rfl | exact Or.inr (Or.inl rfl) | exact Or.inr (Or.inr rfl)) (by decide) (by decide)) (@pa_cX _ _ _ _ _ (@pv _ 5 _ _ (by rfl) (by first | exact Or.inl rfl | exact Or.inr (Or.inl rfl) | exact Or.inr (Or.inr rfl)) (by decide) (by decide)) (@pa_nil _) (by rfl)) (by rfl) (by rfl) (by rfl) (by rfl) (by rfl)) (by rfl))) (@pss_nil _)))))) (@pss_nil _))) (by intro _; rfl)) (@pss_one _ _ _ (@ps_ret _ _ _ _ (@pv _ 3 _ _ (by rfl) (by first | exact Or.inl rfl | exact Or.inr (Or.inl rfl) | exact Or.inr (Or.inr rfl)) (by decide) (by decide)))))), ?_⟩
    simp (maxSteps := 1000000) only [tFor_eq, Nat.reduceSub, Nat.reduceAdd, iRng1, cxOf_K, List.cons.injEq, tSeq, tVar, tAsg, gName, tCons, tNil, tLst, L2.start, List.map_cons, List.map_nil, List.length_cons, List.length_nil, List.replicate, List.cons_append, List.nil_append, List.getElem?_cons_zero, List.getElem?_cons_succ, List.set_cons_zero, List.set_cons_succ, Option.some.injEq, exists_eq_left', V.int.injEq, and_true]
    refine ⟨by decide, ?_⟩
    intro p1 n1
    generalize z1 : upd H p1 _ = H1
    obtain ⟨s1, e1⟩ := new_same z1 n1
    generalize hR : outS m S = R at q
    rw [Int.toNat_natCast]
    refine ⟨by omega, by omega, for_range (n := m) (Lo w H pr pk p1 pl kvs0 n m R) ⟨[], kvs0, S, [], none, none, rfl, e1, .nil, Nat.le_refl _, by rw [Nat.sub_zero, hR]; rfl, R0.same s1, Frs.refl, R0.vfr (H' := H) n1, s1.keep⟩ ?_ ?_⟩
    · rintro i σ H2 hi ⟨xs, kvs, S, ini, v4, v5, rfl, e2, hxs, hil, hRR, R2, fr2, ho2, k2⟩
      obtain ⟨j, hj⟩ : ∃ j, m - i = j + 1 := ⟨m - i - 1, by omega⟩
      have hj' : m - (i + 1) = j := by omega
      rw [hj] at hRR
      have npr : p1 ≠ pr := Ne.symm (ne_of_none er0 n1)
      have npk : p1 ≠ pk := Ne.symm (ne_of_none R0.kep n1)
      have hxl : xs.length ≤ i := by have := hxs.len; omega
      obtain ⟨zs, erow, irow⟩ := R2.row
      simp (maxSteps := 1000000) only [tBL, rPopAt, rGet, tBM, rAppend, List.cons.injEq, tSeq, exists_and_left, tIfS, tTest, tOp, tVar, tC, tAsg, gName, tNext, tCons, tNil, tDrop, tLst, List.length_nil, List.getElem?_cons_zero, List.getElem?_cons_succ, List.set_cons_zero, List.set_cons_succ, Option.some.injEq, exists_eq_left', V.int.injEq, V.ref.injEq, and_true]
      refine ⟨by decide, ?_⟩
      intro p3 n3
      generalize z3 : upd H2 p3 _ = H3
      obtain ⟨s3, e3⟩ := new_same z3 n3
      have er3 := s3 _ _ erow
      refine ⟨pr, p3, zs, rfl, rfl, er3, e3, _, rfl, ?_⟩
      have R3 := R2.same s3
      have k3 : Keep [pr, pk] H H3 := k2.same s3
      have hfr : ∀ p, H3 p = none → H p = none := fun p z => k3.free z (by simp only [List.mem_cons, List.not_mem_nil, or_false, not_or]; exact ⟨Ne.symm (ne_of_none er3 z), Ne.symm (ne_of_none R3.kep z)⟩)
      cases S with
      | nil =>
        cases irow
        refine iteF ?_
        try simp (maxSteps := 1000000) only [tFor_eq, tComp_eq, rRngs, rListR, HO.rng.injEq, tDKeys, rSortL, rSortK, ixN_10, ixN_20, ixN_21, ixN_30, ixN_31, ixN_32, ixN_40, ixN_41, ixN_42, ixN_43, ixN_50, ixN_51, ixN_52, ixN_53, ixN_54, rNe_nn, rEq_nn, rNe_in, rEq_in, rNe_ni, rEq_ni, gSeqX, rLeS, rEq_ss, rNe_ss, rStr1, rAllX, rAnyX, rListD, iStr, rSumX, tBL, tBL0, rExtend, rPopAt, rPop, rReverse, rClear, rIsIX, tyX_n, tyX_b, tyX_i, tyX_s, tyX_r, tyO_l, tyO_t, tyO_d, V.ty.injEq, kT_Noin, kT_Nobo, kT_Nost, kT_Noli, kT_Notu, kT_Nodi, kT_boin, kT_bobo, kT_bost, kT_boli, kT_botu, kT_bodi, kT_inin, kT_inbo, kT_inst, kT_inli, kT_intu, kT_indi, kT_stin, kT_stbo, kT_stst, kT_stli, kT_sttu, kT_stdi, kT_liin, kT_libo, kT_list, kT_lili, kT_litu, kT_lidi, kT_tuin, kT_tubo, kT_tust, kT_tuli, kT_tutu, kT_tudi, kT_diin, kT_dibo, kT_dist, kT_dili, kT_ditu, kT_didi, rGet, getO_l, getO_t, getO_di, getO_ds, rLenX, lenX_r, lenX_s', lenO_l, lenO_t, lenO_d, Option.bind_some, tTruX, truX_n, truX_b, truX_i, truX_r, truO_l, truO_t, truO_d, rInX, rNotInX, inO_l', inO_t', inO_di, inO_ds, rSetX, setO_l, setO_di', setO_ds', rSlX, rListX, seqO_l, seqO_t, rTupX, gTupX, gCons, gNil, gSub, atI_0, atI_1, atI_2, atI_3, tDNewK, Nat.reduceSub, upd_same, upd_upd, Nat.reduceLT, HO.lst.injEq, HO.tup.injEq, HO.dK.injEq, HO.ins.injEq, Option.map_some, Option.isSome_some, Int.reduceEq, Int.reduceLT, Int.reduceLE, Nat.reduceAdd, List.isEmpty_nil, List.isEmpty_cons, ne_eq, not_false_eq_true, tDGs, sDPs, rIsB, rIsntB, tMeth, tMake, tDGet, sDPut, tFld, sFld, tDisp, tPairs, tNever, decide_true, decide_false, truV_bl, clsV_ty, V.ty.injEq, exists_eq', exists_eq, Bool.not_true, Bool.not_false, Bool.not_not, rLen, rListOf, rTupOf, rAny, rAll, rIsI, tTru, iRng1, iRng2, iList, tYes, cSt, List.drop_succ_cons, List.drop_zero, cxOf_K, cxC_K,  tBM, tBM0, rAppend, tSl, rSlL, tNoPart, tPart, rIxL, rIxT, rCat, List.cons.injEq, rEq_ii, rNe_ii, rEq_bb, rNe_bb, tSeq, exists_and_left, if_false, if_true, reduceIte, Bool.false_eq_true, tIfS, tAnd, tOr, tNot, tTest, tOp, tUn, tVar, tC, rI, rI0, rU, tRet, tRetN, tAsg, gName, tNext, tAndV, tOrV, tNotV, tIf, tCall, tCons, tNil, tCB, tDrop, tLst, tTup, tChain, L2.start, List.map_cons, List.map_nil, List.length_cons, List.length_nil, List.replicate, List.cons_append, List.nil_append, List.getElem?_cons_zero, List.getElem?_cons_succ, List.set_cons_zero, List.set_cons_succ, Option.some.injEq, exists_eq_left', exists_eq_left, V.int.injEq, V.bl.injEq, V.ref.injEq, V.str.injEq, exists_const, and_true, true_and, reduceCtorEq, false_and, exists_false, or_false, false_or, and_assoc, List.append_nil]
        refine ⟨xs, kvs, [], ini, _, v5, rfl, s3 _ _ e2, hxs.same s3, by omega, ?_, R3, fr2, ho2, k3⟩
        rw [hj', ← hRR]
        cases j <;> rfl
      | cons a r =>
        obtain ⟨k, vs'⟩ := a
        cases vs' with
        | nil => exact absurd rfl (R2.ok.ne _ (.head _))
        | cons v vs' =>
          obtain ⟨y, ys, pp, x0, xr, er, hy, hys, hval, epp, hx0, hxr, nppr, nppk⟩ := R3.head
          have : zs = y :: ys := by rw [er3] at er; cases er; rfl
          subst this
          refine iteT ?_
          simp (maxSteps := 1000000) only [HO.lst.injEq, List.length_cons, Option.some.injEq, exists_eq_left', er]
          have hpk : pr ≠ pk := dn_lst er R3.kep
          have nppo : pp ≠ p1 := ho2 k pp hval
          refine ⟨.inl ⟨rfl, _, SqL.of er⟩, by decide, by decide, 0, seqIndex_of (by decide) (by omega), y, rfl, xs, by rw [upd_ne npr]; exact s3 _ _ e2, ?_⟩
          generalize zA : upd H3 pr _ = H4
          have k4 : Keep [pr] H3 H4 := by rw [← zA]; exact Keep.refl.upd (.inl (.head _))
          have er4 : H4 pr = some (.lst ys) := by rw [← zA, upd_same]; rfl
          have hnT : ∀ b ∈ [pr], NoT H3 b := noT1 (.of_lst er)
          have e4 := k4 _ _ (s3 _ _ e2) (by simp; exact npr)
          have epp4 := k4 _ _ epp (by simp; exact nppr)
          have ek4 := k4 _ _ R3.kep (by simp; exact Ne.symm hpk)
          simp (maxSteps := 1000000) only [exists_and_left, tVar, List.getElem?_cons_zero, List.getElem?_cons_succ, Option.some.injEq, exists_eq_left', V.ref.injEq, tNIx]
          refine ⟨kvs, ek4, R3.kk.keep k4 hnT, k, hy.keep k4 hnT, _, hval, pp, rfl, ?_⟩
          have hxz : xs.length < sizeLine := by rw [sizeLine_eq]; omega
          simp (maxSteps := 1000000) only [tBL, getO_l, rSlX, atI_0, HO.lst.injEq, rAppend, tSl, tNoPart, tPart, List.cons.injEq, exists_and_left, tIfS, tTest, tOp, tVar, tC, tNext, tCons, tNil, tDrop, tLst, List.length_nil, List.getElem?_cons_zero, List.getElem?_cons_succ, Option.some.injEq, exists_eq_left', V.int.injEq, V.ref.injEq, and_true, true_and, epp4, e4, hxz, sNPut]
          generalize zB : upd H4 p1 _ = H5
          have k5 : Keep [p1] H4 H5 := by rw [← zB]; exact Keep.refl.upd (.inl (.head _))
          have e5 : H5 p1 = some (.lst (xs ++ [x0])) := (congrFun zB.symm p1).trans upd_same
          have hnT4 : ∀ b ∈ [p1], NoT H4 b := noT1 (.of_lst e4)
          have k35 : Keep [pr, p1] H3 H5 := fun b o e hn => by
            simp only [List.mem_cons, List.not_mem_nil, or_false, not_or] at hn
            exact k5 _ _ (k4 _ _ e (by simp; exact hn.1)) (by simp; exact hn.2)
          have hnT35 : ∀ b ∈ [pr, p1], NoT H3 b := fun b hb' => by
            simp only [List.mem_cons, List.not_mem_nil, or_false] at hb'
            rcases hb' with rfl | rfl
            · exact .of_lst er
            · exact .of_lst (s3 _ _ e2)
          have ek5 := k5 _ _ ek4 (by simp; exact Ne.symm npk)
          have epp5 := k5 _ _ epp4 (by simp; exact nppo)
          have er5 := k5 _ _ er4 (by simp; exact Ne.symm npr)
          simp (maxSteps := 1000000) only [upd_same, exists_and_left, tVar, List.getElem?_cons_zero, List.getElem?_cons_succ, Option.some.injEq, exists_eq_left', V.ref.injEq, tNIx]
          refine ⟨kvs, ek5, R3.kk.keep k35 hnT35, k, hy.keep k35 hnT35, _, hval, pp, rfl, _, epp5, ?_⟩
          rw [cutV_drop _ (by omega)]
          intro p6 n6
          generalize z6 : upd H5 p6 _ = H6
          obtain ⟨s6, e6⟩ := new_same z6 n6
          have e6' : H6 p6 = some (.lst xr) := e6
          have ek6 := s6 _ _ ek5
          have hln : kvs.length < sizeLine := by have := R3.len; rw [sizeLine_eq]; omega
          have k36 : Keep [pr, p1] H3 H6 := k35.same s6
          refine ⟨kvs, ek6, R3.kk.keep k36 hnT35, k, hy.keep k36 hnT35, hln, ?_⟩
          generalize zC : upd H6 pk _ = H7
          have k7 : Keep [pk] H6 H7 := by rw [← zC]; exact Keep.refl.upd (.inl (.head _))
          have ek7 : H7 pk = some (DNo w pk (putE kvs k y (.ref p6))) := (congrFun zC.symm pk).trans upd_same
          have e7 := k7 _ _ (s6 _ _ e5) (by simp; exact npk)
          have e67 := k7 _ _ e6' (by simp; exact dn_lst e6' ek6)
          have er7 := k7 _ _ (s6 _ _ er5) (by simp; exact hpk)
          have k37 : Keep [pr, p1, pk] H3 H7 := fun b o e hn => by
            simp only [List.mem_cons, List.not_mem_nil, or_false, not_or] at hn
            exact k7 _ _ (k36 _ _ e (by simp; exact ⟨hn.1, hn.2.1⟩)) (by simp; exact hn.2.2)
          have hnT37 : ∀ b ∈ [pr, p1, pk], NoT H3 b := fun b hb' => by
            simp only [List.mem_cons, List.not_mem_nil, or_false] at hb'
            rcases hb' with rfl | rfl | rfl
            · exact .of_lst er
            · exact .of_lst (s3 _ _ e2)
            · exact .of_dn R3.kep
          have hy7 : KIs H7 y k := hy.keep k37 hnT37
          have kk7 : KKs H7 (putE kvs k y (.ref p6)) := (R3.kk.put hy).keep k37 hnT37
          refine ⟨_, rfl, kk7, k, hy7, .ref p6, by rw [vV_put, if_pos rfl], by decide, ?_⟩
          intro p8 n8
          generalize z8 : upd H7 p8 _ = H8
          obtain ⟨s8, e8⟩ := new_same z8 n8
          have er8 := s8 _ _ er7
          have e8p := s8 _ _ e7
          have e68 := s8 _ _ e67
          have ek8 := s8 _ _ ek7
          refine ⟨p6, p8, xr, rfl, rfl, e68, e8, _, rfl, ?_⟩
          -- the found list ahead: the row stands there, too
          generalize zL : upd H3 p1 (.lst (xs ++ [x0])) = H3'
          have kL : Keep [p1] H3 H3' := by rw [← zL]; exact Keep.refl.upd (.inl (.head _))
          have eL : H3' p1 = some (.lst (xs ++ [x0])) := (congrFun zL.symm p1).trans upd_same
          have hnTL : ∀ b ∈ [p1], NoT H3 b := noT1 (.of_lst (s3 _ _ e2))
          have R3' := R3.keep kL hnTL (by simp; exact Ne.symm npr) (by simp; exact Ne.symm npk) (fun j p h => by simp; exact ho2 j p h)
          have toK : ∀ {Hx : Hp}, Keep [pr, p1, pk] H3 Hx → Hx p1 = some (.lst (xs ++ [x0])) → Keep [pr, pk] H3' Hx := fun {Hx} kx ex b o e hn => by
            simp only [List.mem_cons, List.not_mem_nil, or_false, not_or] at hn
            by_cases hb' : b = p1
            · subst hb'
              rw [eL] at e
              cases e
              exact ex
            · rw [← zL, upd_ne hb'] at e
              exact kx _ _ e (by simp; exact ⟨hn.1, hb', hn.2⟩)
          have toH : ∀ {Hx : Hp}, Keep [pr, p1, pk] H3 Hx → Keep [pr, pk] H Hx := fun {Hx} kx b o e hn => by
            have hn' := hn
            simp only [List.mem_cons, List.not_mem_nil, or_false, not_or] at hn'
            exact kx _ _ (k3 _ _ e hn) (by simp; exact ⟨hn'.1, ne_of_none e n1, hn'.2⟩)
          have np6 : p6 ≠ pr := Ne.symm (ne_of_none er5 n6)
          have np61 : p6 ≠ p1 := Ne.symm (ne_of_none e5 n6)
          have hp6 : H p6 = none := hfr _ (k35.free n6 (by simp; exact ⟨np6, np61⟩))
          have frF : Frs kvs0 (putE kvs k y (.ref p6)) H := fr2.trans (frs_put hp6) (fun _ z => z)
          have hoF : ∀ j p, vV (putE kvs k y (.ref p6)) j = some (.ref p) → p ≠ p1 := fun j p h => by
            rw [vV_put] at h
            split at h
            · cases h; exact np61
            · exact ho2 j p h
          have lenF : (putE kvs k y (.ref p6)).length ≤ n := by rw [putE_len_in hval]; exact R3.len
          have hRF : ((ini ++ [v]) ++ (outS (m - (i + 1)) (nextS k vs' r)).1, (outS (m - (i + 1)) (nextS k vs' r)).2) = R := by
            rw [hj', ← hRR]
            conv => rhs; unfold outS
            simp
          have hxl2 : xr.length = vs'.length := hxr.len
          have iL : ∀ {Hx : Hp}, Keep [pr, p1, pk] H3 Hx → Ims Hx (xs ++ [x0]) (ini ++ [v]) := fun {Hx} kx => (((hxs.same s3).keep kx hnT37).app (.one (hx0.keep kx hnT37)))
          by_cases hvs : vs' = []
          · have hxr0 : xr = [] := List.length_eq_zero_iff.mp (by rw [hxl2, hvs]; rfl)
            subst hxr0
            refine iteF ?_
            try simp (maxSteps := 1000000) only [tFor_eq, tComp_eq, rRngs, rListR, HO.rng.injEq, tDKeys, rSortL, rSortK, ixN_10, ixN_20, ixN_21, ixN_30, ixN_31, ixN_32, ixN_40, ixN_41, ixN_42, ixN_43, ixN_50, ixN_51, ixN_52, ixN_53, ixN_54, rNe_nn, rEq_nn, rNe_in, rEq_in, rNe_ni, rEq_ni, gSeqX, rLeS, rEq_ss, rNe_ss, rStr1, rAllX, rAnyX, rListD, iStr, rSumX, tBL, tBL0, rExtend, rPopAt, rPop, rReverse, rClear, rIsIX, tyX_n, tyX_b, tyX_i, tyX_s, tyX_r, tyO_l, tyO_t, tyO_d, V.ty.injEq, kT_Noin, kT_Nobo, kT_Nost, kT_Noli, kT_Notu, kT_Nodi, kT_boin, kT_bobo, kT_bost, kT_boli, kT_botu, kT_bodi, kT_inin, kT_inbo, kT_inst, kT_inli, kT_intu, kT_indi, kT_stin, kT_stbo, kT_stst, kT_stli, kT_sttu, kT_stdi, kT_liin, kT_libo, kT_list, kT_lili, kT_litu, kT_lidi, kT_tuin, kT_tubo, kT_tust, kT_tuli, kT_tutu, kT_tudi, kT_diin, kT_dibo, kT_dist, kT_dili, kT_ditu, kT_didi, rGet, getO_l, getO_t, getO_di, getO_ds, rLenX, lenX_r, lenX_s', lenO_l, lenO_t, lenO_d, Option.bind_some, tTruX, truX_n, truX_b, truX_i, truX_r, truO_l, truO_t, truO_d, rInX, rNotInX, inO_l', inO_t', inO_di, inO_ds, rSetX, setO_l, setO_di', setO_ds', rSlX, rListX, seqO_l, seqO_t, rTupX, gTupX, gCons, gNil, gSub, atI_0, atI_1, atI_2, atI_3, tDNewK, Nat.reduceSub, upd_same, upd_upd, Nat.reduceLT, HO.lst.injEq, HO.tup.injEq, HO.dK.injEq, HO.ins.injEq, Option.map_some, Option.isSome_some, Int.reduceEq, Int.reduceLT, Int.reduceLE, Nat.reduceAdd, List.isEmpty_nil, List.isEmpty_cons, ne_eq, not_false_eq_true, tDGs, sDPs, rIsB, rIsntB, tMeth, tMake, tDGet, sDPut, tFld, sFld, tDisp, tPairs, tNever, decide_true, decide_false, truV_bl, clsV_ty, V.ty.injEq, exists_eq', exists_eq, Bool.not_true, Bool.not_false, Bool.not_not, rLen, rListOf, rTupOf, rAny, rAll, rIsI, tTru, iRng1, iRng2, iList, tYes, cSt, List.drop_succ_cons, List.drop_zero, cxOf_K, cxC_K,  tBM, tBM0, rAppend, tSl, rSlL, tNoPart, tPart, rIxL, rIxT, rCat, List.cons.injEq, rEq_ii, rNe_ii, rEq_bb, rNe_bb, tSeq, exists_and_left, if_false, if_true, reduceIte, Bool.false_eq_true, tIfS, tAnd, tOr, tNot, tTest, tOp, tUn, tVar, tC, rI, rI0, rU, tRet, tRetN, tAsg, gName, tNext, tAndV, tOrV, tNotV, tIf, tCall, tCons, tNil, tCB, tDrop, tLst, tTup, tChain, L2.start, List.map_cons, List.map_nil, List.length_cons, List.length_nil, List.replicate, List.cons_append, List.nil_append, List.getElem?_cons_zero, List.getElem?_cons_succ, List.set_cons_zero, List.set_cons_succ, Option.some.injEq, exists_eq_left', exists_eq_left, V.int.injEq, V.bl.injEq, V.ref.injEq, V.str.injEq, exists_const, and_true, true_and, reduceCtorEq, false_and, exists_false, or_false, false_or, and_assoc, List.append_nil]
            have k38 : Keep [pr, p1, pk] H3 H8 := k37.same s8
            refine ⟨xs ++ [x0], _, nextS k vs' r, ini ++ [v], _, _, rfl, e8p, iL k38, by rw [List.length_append, List.length_singleton]; omega, hRF, ?_, frF, hoF, toH k38⟩
            exact R3'.next (toK k38 e8p) er8 (by rw [nextS_keys, if_pos hvs]; exact hys.keep kL hnTL) ek8 ((R3.kk.put hy).keep kL hnTL) (fun j hj => by rw [vV_put, if_neg hj]) (.inr ⟨p6, [], by rw [vV_put, if_pos rfl], e68, hxr.keep kL hnTL, np6⟩) lenF
          · have hxr0 : xr ≠ [] := fun z => hvs (List.length_eq_zero_iff.mp (by rw [← hxl2, z]; rfl))
            refine ite2 (fun _ => ?_) (fun hc => absurd (show (!xr.isEmpty) = true by cases xr with | nil => exact absurd rfl hxr0 | cons a b => rfl) hc)
            refine ⟨_, er8, _, er8, by rw [sizeLine_eq]; have h1 := R3.slen; have h2 := hys.len; rw [List.length_cons] at h1; rw [List.length_map] at h2; omega, ?_⟩
            generalize zE : upd H8 pr _ = H9
            have k9 : Keep [pr] H8 H9 := by rw [← zE]; exact Keep.refl.upd (.inl (.head _))
            have er9 : H9 pr = some (.lst (ys ++ [y])) := (congrFun zE.symm pr).trans upd_same
            have k39 : Keep [pr, p1, pk] H3 H9 := fun b o e hn => by
              have hn' := hn
              simp only [List.mem_cons, List.not_mem_nil, or_false, not_or] at hn'
              exact k9 _ _ (s8 _ _ (k37 _ _ e hn)) (by simp; exact hn'.1)
            have e9p := k9 _ _ e8p (by simp; exact npr)
            refine ⟨xs ++ [x0], _, nextS k vs' r, ini ++ [v], _, _, rfl, e9p, iL k39, by rw [List.length_append, List.length_singleton]; omega, hRF, ?_, frF, hoF, toH k39⟩
            exact R3'.next (toK k39 e9p) er9 (by rw [nextS_keys, if_neg hvs]; exact (hys.app (.one hy.1)).keep kL hnTL) (k9 _ _ ek8 (by simp; exact Ne.symm hpk)) ((R3.kk.put hy).keep kL hnTL) (fun j hj => by rw [vV_put, if_neg hj]) (.inr ⟨p6, xr, by rw [vV_put, if_pos rfl], k9 _ _ e68 (by simp; exact np6), hxr.keep kL hnTL, np6⟩) lenF
    · rintro σ H2 ⟨xs, kvs, S, ini, v4, v5, rfl, e2, hxs, hil, hRR, R2, fr2, ho2, k2⟩
      simp (maxSteps := 1000000) only [tVar, tRet, List.getElem?_cons_zero, List.getElem?_cons_succ, Option.some.injEq, exists_eq_left']
      rw [Nat.sub_self] at hRR
      have hRn : outS 0 S = ([], S) := rfl
      rw [hRn, List.append_nil] at hRR
      subst hRR
      exact q p1 xs kvs H2 n1 e2 hxs R2 fr2 k2
end
end K31
namespace K31
open PySem L2
open Classical
section
variable {P : Program} {w : World} {K : PySem.W.Frag} {mg : Str → Option Value} {base : Heap} {C : Addr}
abbrev s__law_right : Stmt := top 11
theorem sc__law_right : FnScope ["_law_gate", "_law_row", "_law_kept", "_law_d"] ["_law_gate", "_law_row", "_law_kept"] (defScope s__law_right) := ⟨rfl, rfl, rfl, by decide +kernel, rfl, by decide +kernel, by decide +kernel⟩
def sp_right (w : World) (C : Addr) : Sp := fun vs H Q _ => ∃ (x dx pr pk qr qk : Addr) (pl : Int) (kvs kvl : List E3) (S : Rw) (n : Nat), vs = [.ref x, .ref qr, .ref qk] ∧ GateAt w C H x dx pr pk pl kvs S n ∧ RowAt w H qr qk pl kvl S n ∧ n ≤ 1000 ∧ ∀ H', Same H H' → Q (.bl true) H'
def Lr (H : Hp) (x qr qk : Addr) (i : Nat) (σ : St) (H' : Hp) : Prop := ∃ v3, σ = [some (.ref x), some (.ref qr), some (.ref qk), v3] ∧ Same H H'
theorem lst_dep {n : Nat} {ds : List PyData} (h : ∀ d ∈ ds, d.depth ≤ n) : (PyData.list ds).depth ≤ n + 1 := by
  rw [PyData.depth]
  have := depthAll_le h
  omega
set_option maxHeartbeats 4000000 in
theorem own_right (D : Def K mg "_law_right" s__law_right) (hb : Blt mg) (T_Gate : ClsD K mg "Gate" C at_Gate) (M_Gate_waiting : OwnM P w K mg base 1 C "waiting" ["self"] (sp_waiting w C)) (M_Gate_waits : OwnM P w K mg base 1 C "waits" ["self", "key"] (sp_waits w C)) (F__law_key : Own P w K mg base 1 "_law_key" ["_law_d"] sp_key) : Own P w K mg base 2 "_law_right" ["_law_gate", "_law_row", "_law_kept"] (sp_right w C) := by
  refine D.own sc__law_right (fun _ _ _ _ _ _ us hl => match us, hl with | [_, _, _], _ => rfl) (fun vs H Q E h => ?_) (fun f cdv A outer s H vs Q E hr h => ?_)
  · obtain ⟨x, dx, pr, pk, qr, qk, pl, kvs, kvl, S, n, rfl, _⟩ := h
    rfl
  · obtain ⟨x, dx, pr, pk, qr, qk, pl, kvs, kvl, S, n, rfl, G, R, hn, q⟩ := h
    have hu := hr.units
    have hu1 : (A.deeper (PyProof.Rows.envOfC "_law_right" (defScope s__law_right) s.heap.objs.size f cdv)).units + 1 < cLine := by omega
    obtain ⟨zs, er, ir⟩ := R.row
    have ex := G.ins
    have hdep : (PyData.list (S.map (·.1))).depth ≤ 60 := Nat.le_trans (lst_dep fun d hd => (R.ok.kd d hd).2) (by decide)
    refine ⟨_, (@pss_cons _ _ _ _ _ (@ps_if _ _ _ _ _ _ _ _ (@PW.pt _ _ _ (@pw_or _ _ _ _ _ _ _ (@pt_cmpR _ _ _ _ _ _ _ _ (op_neX hu) (@pe_mth0 _ _ _ _ _ _ _ _ _ _ _ _ M_Gate_waiting T_Gate.cl hr (@pv _ 0 _ _ (by rfl) (by first | exact Or.inl rfl | exact Or.inr (Or.inl rfl) | exact Or.inr (Or.inr rfl)) (by decide) (by decide)) (by decide) (by rfl)) (@pv _ 1 _ _ (by rfl) (by first | exact Or.inl rfl | exact Or.inr (Or.inl rfl) | exact Or.inr (Or.inr rfl)) (by decide) (by decide)) (nomark _)) (@pw_or1 _ _ _ _ (@pt_not _ _ _ _ (@pt_truX _ _ _ (@pe_callB _ _ _ _ _ _ _ _ _ call_isiX rfl (hb _ (by decide)) bt_isinstance (@pa_cX _ _ _ _ _ (@pe_mth0 _ _ _ _ _ _ _ _ _ _ _ _ M_Gate_waiting T_Gate.cl hr (@pv _ 0 _ _ (by rfl) (by first | exact Or.inl rfl | exact Or.inr (Or.inl rfl) | exact Or.inr (Or.inr rfl)) (by decide) (by decide)) (by decide) (by rfl)) (@pa_cX _ _ _ _ _ (@pe_bltn _ _ (.ty "list") _ _ rfl (hb _ (by decide)) bt_list rfl (by decide) (by decide)) (@pa_nil _) (by rfl)) (by rfl)) (by decide) (by decide) (by rfl) (by rfl)) (by intro _; rfl)))))) (@pss_one _ _ _ (@ps_ret _ _ _ _ (@pe_bl _ _ _ _))) (@pss_nil _)) (@pss_cons _ _ _ _ _ (@ps_for _ _ _ _ _ _ _ _ PassesOwn.never rfl (@pi_range1 _ _ _ _ _ _ rfl (hb _ (by decide)) (@pa_cX _ _ _ _ _ (@pe_int _ _ _ _) (@pa_nil _) (by rfl)) (by rfl)) (@pg_name _ _ 3 _ sc__law_right.nd rfl (by first | exact Or.inl rfl | exact Or.inr rfl) (by first | exact .inl rfl | exact .inr rfl | assumption)) (@pss_one _ _ _ (@ps_if _ _ _ _ _ _ _ _ (@pt_cmpR _ _ _ _ _ _ _ _ op_ne (@pe_mth _ _ _ _ _ _ _ _ _ _ _ _ _ _ _ M_Gate_waits T_Gate.cl hr (@pv _ 0 _ _ (by rfl) (by first | exact Or.inl rfl | exact Or.inr (Or.inl rfl) | exact Or.inr (Or.inr rfl)) (by decide) (by decide)) (@pa_cX _ _ _ _ _ (@pe_fn _ _ _ _ _ _ _ _ _ _ _ F__law_key hr (@pa_cX _ _ _ _ _ (@pv _ 3 _ _ (by rfl) (by first | exact Or.inl rfl | exact Or.inr (Or.inl rfl) | exact Or.inr (Or.inr rfl)) (by decide) (by decide)) (@pa_nil _) (by rfl)) (by decide) (by rfl) (by decide) (by rfl) (by rfl)) (@pa_nil _) (by rfl)) (by decide) (by rfl) (by rfl) (by rfl)) (@pe_callB _ _ _ _ _ _ _ _ _ call_lenX rfl (hb _ (by decide)) bt_len (@pa_cX _ _ _ _ _ (@pe_ng2 _ _ _ _ _ _ _ _ _ w hu (@pv _ 2 _ _ (by rfl) (by first | exact Or.inl rfl | exact Or.inr (Or.inl rfl) | exact Or.inr (Or.inr rfl)) (by decide) (by decide)) (@pe_fn _ _ _ _ _ _ _ _ _ _ _ F__law_key hr (@pa_cX _ _ _ _ _ (@pv _ 3 _ _ (by rfl) (by first | exact Or.inl rfl | exact Or.inr (Or.inl rfl) | exact Or.inr (Or.inr rfl)) (by decide) (by decide)) (@pa_nil _) (by rfl)) (by decide) (by rfl) (by decide) (by rfl) (by rfl)) (@pe_lst _ _ _ _ (@pa_nil _)) (by constructor <;> rfl) (by rfl)) (@pa_nil _) (by rfl)) (by decide) (by decide) (by rfl) (by rfl)) (nomark _)) (@pss_one _ _ _ (@ps_ret _ _ _ _ (@pe_bl _ _ _ _))) (@pss_nil _))) (by intro _; rfl)) (@pss_cons _ _ _ _ _ (@ps_expr _ _ _ _ (@pe_lm _ _ _ _ _ _ _ _ _ _ _ PySem.F.slot_list_append PySem.F.type_list_append mt_append (@pe_mth0 _ _ _ _ _ _ _ _ _ _ _ _ M_Gate_waiting T_Gate.cl hr (@pv _ 0 _ _ (by rfl) (by first | exact Or.inl rfl | exact Or.inr (Or.inl rfl) | exact Or.inr (Or.inr rfl)) (by decide) (by decide)) (by decide) (by rfl)) (@pa_cX _ _ _ _ _ (@pe_int _ _ _ _) (@pa_nil _) (by rfl)) (by rfl) (by rfl) (by rfl) (by rfl) (by rfl)) (by rfl)) (@pss_one _ _ _ (@ps_ret _ _ _ _ (@pe_cmpR _ _ _ _ _ _ _ _ (op_eqX hu) (@pe_mth0 _ _ _ _ _ _ _ _ _ _ _ _ M_Gate_waiting T_Gate.cl hr (@pv _ 0 _ _ (by rfl) (by first | exact Or.inl rfl | exact Or.inr (Or.inl rfl) | exact Or.inr (Or.inr rfl)) (by decide) (by decide)) (by decide) (by rfl)) (@pv _ 1 _ _ (by rfl) (by first | exact Or.inl rfl | exact Or.inr (Or.inl rfl) | exact Or.inr (Or.inr rfl)) (by decide) (by decide)) (nomark _))))))), ?_⟩
    simp (maxSteps := 1000000) only [tFor_eq, rIsIX, V.ty.injEq, tTruX, truX_b, Nat.reduceSub, HO.ins.injEq, Nat.reduceAdd, tMeth, V.ty.injEq, iRng1, List.cons.injEq, tSeq, exists_and_left, if_true, tIfS, tOr, tNot, tTest, tOp, tVar, tC, tRet, tNext, tCons, tNil, tCB, L2.start, List.map_cons, List.map_nil, List.length_cons, List.length_nil, List.replicate, List.cons_append, List.nil_append, List.getElem?_cons_zero, List.getElem?_cons_succ, Option.some.injEq, exists_eq_left', V.int.injEq, V.ref.injEq, and_true, true_and, and_assoc, List.append_nil, ex, fn_Gate_waiting]
    refine ⟨x, dx, pr, pk, pl, kvs, S, n, rfl, G, fun p1 xs1 H1 n1 e1 i1 s1 => ?_⟩
    have er1 := s1 _ _ er
    refine neX_same (.l e1 i1) (.l er1 (ir.same s1)) hdep ?_
    have G1 := G.same s1
    have ex1 := G1.ins
    refine ⟨false, rfl, iteF ?_⟩
    simp (maxSteps := 1000000) only [HO.ins.injEq, exists_and_left, Option.some.injEq, exists_eq_left', true_and, and_assoc, ex1, fn_Gate_waiting]
    refine ⟨x, dx, pr, pk, pl, kvs, S, n, rfl, G1, fun p2 xs2 H2 n2 e2 i2 s2 => ?_⟩
    simp (maxSteps := 1000000) only [tyX_r, tyO_l, kT_lili, Option.bind_some, Bool.not_true, if_false, Bool.false_eq_true, Option.some.injEq, exists_eq_left', e2]
    have s02 := s1.trans s2
    refine ⟨by decide, by decide, for_range (n := 15) (Lr H x qr qk) ⟨none, rfl, s02⟩ ?_ ?_⟩
    · rintro i σ H3 hi ⟨v3, rfl, s3⟩
      have G3 := G.same s3
      have ex3 := G3.ins
      simp (maxSteps := 1000000) only [rLenX, HO.ins.injEq, tMeth, List.cons.injEq, exists_and_left, tIfS, tTest, tOp, tVar, tC, tRet, gName, tNext, tCall, tCons, tNil, tCB, List.getElem?_cons_zero, List.getElem?_cons_succ, List.set_cons_zero, List.set_cons_succ, Option.some.injEq, exists_eq_left', V.ref.injEq, and_true, true_and, and_assoc, List.append_nil, ex3, fn_Gate_waits]
      refine ⟨_, rfl, fun y4 H4 s4 hy4 => ⟨x, dx, pr, pk, pl, y4, _, kvs, S, n, rfl, G3.same s4, hy4, fun H5 s5 => ?_⟩⟩
      have R5 := ((R.same s3).same s4).same s5
      obtain ⟨zs5, er5, _⟩ := R5.row
      simp (maxSteps := 1000000) only [rNe_ii, exists_and_left, tVar, tCall, tCons, tNil, tLst, List.length_nil, List.getElem?_cons_zero, List.getElem?_cons_succ, Option.some.injEq, exists_eq_left', V.bl.injEq, V.ref.injEq, List.append_nil, tNG2]
      refine ⟨kvl, R5.kep, _, rfl, fun y6 H6 s6 hy6 => ?_⟩
      simp (maxSteps := 1000000) only []
      refine ⟨by decide, ?_⟩
      intro p7 n7
      generalize z7 : upd H6 p7 _ = H7
      obtain ⟨s7, e7⟩ := new_same z7 n7
      have R7 := (R5.same s6).same s7
      obtain ⟨pp, xs, hpp, epp, hxs, _⟩ := R7.got e7 (Ne.symm (ne_of_none (s6 _ _ er5) n7)) (keyD (0 + (i : Int)))
      refine ⟨kvl, R7.kep, R7.kk, _, hy6.same s7, ?_⟩
      rw [hpp]
      simp (maxSteps := 1000000) only [lenX_r, lenO_l, Option.bind_some, Option.some.injEq, exists_eq_left', epp]
      have hl : ((nums S (keyD (0 + (i : Int)))).length : Int) = (xs.length : Int) := by rw [hxs.len]
      rw [hl]
      simp only [decide_true, Bool.not_true, Bool.false_eq_true, if_false]
      exact ⟨_, rfl, (((s3.trans s4).trans s5).trans s6).trans s7⟩
    · rintro σ H3 ⟨v3, rfl, s3⟩
      have G3 := G.same s3
      have ex3 := G3.ins
      simp (maxSteps := 1000000) only [tBL, HO.ins.injEq, tMeth, rAppend, List.cons.injEq, tSeq, exists_and_left, tOp, tVar, tC, tRet, tCons, tNil, tDrop, List.getElem?_cons_zero, List.getElem?_cons_succ, Option.some.injEq, exists_eq_left', V.ref.injEq, and_true, true_and, and_assoc, List.append_nil, ex3, fn_Gate_waiting]
      refine ⟨x, dx, pr, pk, pl, kvs, S, n, rfl, G3, fun p4 xs4 H4 n4 e4 i4 s4 => ?_⟩
      simp (maxSteps := 1000000) only [HO.lst.injEq, Option.some.injEq, exists_eq_left', V.ref.injEq, e4]
      have hx4 : xs4.length < sizeLine := by
        have h1 := i4.len
        have h2 := R.slen
        rw [List.length_map] at h1
        rw [sizeLine_eq]; omega
      generalize zU : upd H4 p4 _ = H5
      have s05 : Same H H5 := by rw [← zU]; exact (s3.trans s4).upd (s3.fr n4)
      have G5 := G.same s05
      have ex5 := G5.ins
      refine ⟨hx4, _, _, ex5, by simp [T_Gate.cl, T_Gate.no "places" (by decide), T_Gate.no "row" (by decide), T_Gate.no "kept" (by decide), fs_Gate_places, fs_Gate_row, fs_Gate_kept, fn_Gate___init__, fn_Gate_put, fn_Gate_out, fn_Gate_give_one, fn_Gate_waiting, fn_Gate_waits, fl_Gate, fp_Gate_places, fp_Gate_row, fp_Gate_kept, fq_Gate_0, fq_Gate_1, fq_Gate_2], x, dx, pr, pk, pl, kvs, S, n, rfl, G5, fun p6 xs6 H6 n6 e6 i6 s6 => ?_⟩
      have s06 := s05.trans s6
      exact eqX_same (.l e6 i6) (.l (s06 _ _ er) (ir.same s06)) hdep (q H6 s06)
end
end K31
namespace K31
open PySem L2
open Classical
section
variable {P : Program} {w : World} {K : PySem.W.Frag} {mg : Str → Option Value} {base : Heap} {C : Addr}
abbrev s__law_does : Stmt := top 12
theorem sc__law_does : FnScope ["_law_gate", "_law_row", "_law_kept", "_law_places", "_law_ds", "_law_first", "_law_key_here", "_law_parcel_here", "_law_found", "_law_many"] ["_law_gate", "_law_row", "_law_kept", "_law_places", "_law_ds", "_law_first"] (defScope s__law_does) := ⟨rfl, rfl, rfl, by decide +kernel, rfl, by decide +kernel, by decide +kernel⟩
/-- a gate and the law's own row and lists beside it -/
structure Gh where
  x : Addr
  dx : Addr
  pr : Addr
  pk : Addr
  qr : Addr
  qk : Addr
  pl : Int
def tch (a : Gh) : List Addr := [a.pr, a.pk, a.qr, a.qk]
structure One (w : World) (C : Addr) (H : Hp) (a : Gh) (kvs kvl : List E3) (S : Rw) (n : Nat) : Prop where
  gt : GateAt w C H a.x a.dx a.pr a.pk a.pl kvs S n
  lw : RowAt w H a.qr a.qk a.pl kvl S n
  nr : a.pr ≠ a.qr
  nk : a.pk ≠ a.qk
  vg : ∀ k p, vV kvs k = some (.ref p) → p ≠ a.qr
  vl : ∀ k p, vV kvl k = some (.ref p) → p ≠ a.pr
  p0 : 0 ≤ a.pl
  p1 : a.pl ≤ 16
theorem One.same {H H' : Hp} {a : Gh} {kvs kvl : List E3} {S : Rw} {n : Nat} (o : One w C H a kvs kvl S n) (s : Same H H') : One w C H' a kvs kvl S n := ⟨o.gt.same s, o.lw.same s, o.nr, o.nk, o.vg, o.vl, o.p0, o.p1⟩
theorem RowAt.val {H : Hp} {pr pk : Addr} {pl : Int} {kvs : List E3} {S : Rw} {n : Nat} (R : RowAt w H pr pk pl kvs S n) {k : PyData} {p : Addr} (h : vV kvs k = some (.ref p)) : ∃ xs, H p = some (.lst xs) := by
  rcases R.lk k with ⟨_, z⟩ | ⟨p', xs, h1, h2, _⟩
  · rw [z] at h; cases h
  · rw [h1] at h; cases h; exact ⟨xs, h2⟩
/-- what the gate does leaves the law's row -/
theorem One.lw1 {H H' : Hp} {a : Gh} {kvs kvl : List E3} {S : Rw} {n : Nat} (o : One w C H a kvs kvl S n) (k : Keep [a.pr, a.pk] H H') : RowAt w H' a.qr a.qk a.pl kvl S n := by
  obtain ⟨zs, er, _⟩ := o.gt.rA.row
  obtain ⟨ys, el, _⟩ := o.lw.row
  refine o.lw.keep k o.gt.rA.noT ?_ ?_ (fun j p h => ?_)
  · simp only [List.mem_cons, List.not_mem_nil, or_false, not_or]
    exact ⟨Ne.symm o.nr, dn_lst el o.gt.rA.kep⟩
  · simp only [List.mem_cons, List.not_mem_nil, or_false, not_or]
    exact ⟨Ne.symm (dn_lst er o.lw.kep), Ne.symm o.nk⟩
  · simp only [List.mem_cons, List.not_mem_nil, or_false, not_or]
    obtain ⟨xs, hx⟩ := o.lw.val h
    exact ⟨o.vl j p h, dn_lst hx o.gt.rA.kep⟩
/-- both have done the same -/
theorem One.step {H H1 H2 : Hp} {a : Gh} {kvs kvl kvs' kvl' : List E3} {S S' : Rw} {n n' : Nat} (o : One w C H a kvs kvl S n) (G : GateAt w C H1 a.x a.dx a.pr a.pk a.pl kvs' S' n') (f1 : Frs kvs kvs' H) (k1 : Keep [a.pr, a.pk] H H1) (L : RowAt w H2 a.qr a.qk a.pl kvl' S' n') (f2 : Frs kvl kvl' H1) (k2 : Keep [a.qr, a.qk] H1 H2) :
    One w C H2 a kvs' kvl' S' n' ∧ Frs kvl kvl' H ∧ Keep (tch a) H H2 := by
  obtain ⟨zs, er, _⟩ := o.gt.rA.row
  obtain ⟨ys, el, _⟩ := o.lw.row
  have L1 := o.lw1 k1
  obtain ⟨zs1, er1, _⟩ := G.rA.row
  obtain ⟨ys1, el1, _⟩ := L1.row
  have vg' : ∀ k p, vV kvs' k = some (.ref p) → p ≠ a.qr := fun k p h => by
    rcases f1 k p h with z | z
    · exact o.vg k p z
    · exact Ne.symm (ne_of_none el z)
  have hf : ∀ p, H1 p = none → H p = none := fun p z => k1.free z (by simp only [List.mem_cons, List.not_mem_nil, or_false, not_or]; exact ⟨Ne.symm (ne_of_none er1 z), Ne.symm (ne_of_none G.rA.kep z)⟩)
  have f2' : Frs kvl kvl' H := fun j p h => by
    rcases f2 j p h with z | z
    · exact .inl z
    · exact .inr (hf p z)
  have kT : Keep (tch a) H H2 := fun b o e hn => by
    unfold tch at hn
    simp only [List.mem_cons, List.not_mem_nil, or_false, not_or] at hn
    exact k2 _ _ (k1 _ _ e (by simp; exact ⟨hn.1, hn.2.1⟩)) (by simp; exact ⟨hn.2.2.1, hn.2.2.2⟩)
  refine ⟨⟨G.keep k2 L1.noT ?_ ?_ ?_ (fun j p h => ?_), L, o.nr, o.nk, vg', fun k p h => ?_, o.p0, o.p1⟩, f2', kT⟩
  · simp only [List.mem_cons, List.not_mem_nil, or_false, not_or]
    exact ⟨ne_of G.ins el1 (by intro z; cases z), dn_ins G.ins L1.kep⟩
  · simp only [List.mem_cons, List.not_mem_nil, or_false, not_or]
    exact ⟨o.nr, dn_lst er1 L1.kep⟩
  · simp only [List.mem_cons, List.not_mem_nil, or_false, not_or]
    exact ⟨Ne.symm (dn_lst el1 G.rA.kep), o.nk⟩
  · simp only [List.mem_cons, List.not_mem_nil, or_false, not_or]
    obtain ⟨xs, hx⟩ := G.rA.val h
    exact ⟨vg' j p h, dn_lst hx L1.kep⟩
  · rcases f2' k p h with z | z
    · exact o.vl k p z
    · exact Ne.symm (ne_of_none er z)
def sp_does (w : World) (C : Addr) : Sp := fun vs H Q _ => ∃ (a : Gh) (kvs kvl : List E3) (S : Rw) (n : Nat) (pd : Addr) (ds : List Int) (fi : Int), vs = [.ref a.x, .ref a.qr, .ref a.qk, .int a.pl, .ref pd, .int fi] ∧ One w C H a kvs kvl S n ∧ n ≤ 100 ∧ H pd = some (.lst (ds.map V.int)) ∧ ds.length = 6 ∧ (∀ d ∈ ds, 0 ≤ d) ∧
  ∀ kvs' kvl' S' H', One w C H' a kvs' kvl' S' (n + 1) → Frs kvs kvs' H → Frs kvl kvl' H → Keep (tch a) H H' → Q (.bl true) H'
theorem six {ds : List Int} (h : ds.length = 6) : ∃ a b c d e f, ds = [a, b, c, d, e, f] := by
  match ds, h with
  | [a, b, c, d, e, f], _ => exact ⟨a, b, c, d, e, f, rfl⟩
set_option maxHeartbeats 4000000 in
theorem own_does (D : Def K mg "_law_does" s__law_does) (hb : Blt mg) (T_Gate : ClsD K mg "Gate" C at_Gate) (M_Gate_put : OwnM P w K mg base 7 C "put" ["self", "key", "parcel"] (sp_put w C)) (M_Gate_out : OwnM P w K mg base 2 C "out" ["self", "many"] (sp_out w C)) (F__law_key : Own P w K mg base 1 "_law_key" ["_law_d"] sp_key)
    (F__law_parcel : Own P w K mg base 1 "_law_parcel" ["_law_number", "_law_count"] sp_parcel) (F__law_put : Own P w K mg base 1 "_law_put" ["_law_row", "_law_kept", "_law_places", "_law_key_here", "_law_parcel_here"] (sp_lput w)) (F__law_out : Own P w K mg base 1 "_law_out" ["_law_row", "_law_kept", "_law_many"] (sp_lout w)) :
    Own P w K mg base 8 "_law_does" ["_law_gate", "_law_row", "_law_kept", "_law_places", "_law_ds", "_law_first"] (sp_does w C) := by
  refine D.own sc__law_does (fun _ _ _ _ _ _ us hl => match us, hl with | [_, _, _, _, _, _], _ => rfl) (fun vs H Q E h => ?_) (fun f cdv A outer s H vs Q E hr h => ?_)
  · obtain ⟨a, kvs, kvl, S, n, pd, ds, fi, rfl, _⟩ := h
    rfl
  · obtain ⟨a, kvs, kvl, S, n, pd, ds, fi, rfl, O, hn, ed, hdl, hd0, q⟩ := h
    obtain ⟨d0, d1, d2, d3, d4, d5, rfl⟩ := six hdl
    have hu := hr.units
    have hu1 : (A.deeper (PyProof.Rows.envOfC "_law_does" (defScope s__law_does) s.heap.objs.size f cdv)).units + 1 < cLine := by omega
    have b1 := hd0 d1 (by simp)
    have b2 := hd0 d2 (by simp)
    have b3 := hd0 d3 (by simp)
    have ex := O.gt.ins
    refine ⟨_, (@pss_cons _ _ _ _ _ (@ps_if _ _ _ _ _ _ _ _ (@pt_cmpR _ _ _ _ _ _ _ _ op_lt (@pe_op _ _ _ _ _ _ _ _ op_mod (@pe_ix _ _ _ _ _ _ _ (ix_get hu1) (@pv _ 4 _ _ (by rfl) (by first | exact Or.inl rfl | exact Or.inr (Or.inl rfl) | exact Or.inr (Or.inr rfl)) (by decide) (by decide)) (@pe_int _ _ _ _) (fun _ _ => rfl)) (@pe_int _ _ _ _)) (@pe_int _ _ _ _) (nomark _)) (@pss_cons _ _ _ _ _ (@ps_set _ _ 6 _ _ _ _ sc__law_does.nd rfl (by first | exact Or.inl rfl | exact Or.inr rfl) (@pe_fn _ _ _ _ _ _ _ _ _ _ _ F__law_key hr (@pa_cX _ _ _ _ _ (@pe_op _ _ _ _ _ _ _ _ op_mod (@pe_ix _ _ _ _ _ _ _ (ix_get hu1) (@pv _ 4 _ _ (by rfl) (by first | exact Or.inl rfl | exact Or.inr (Or.inl rfl) | exact Or.inr (Or.inr rfl)) (by decide) (by decide)) (@pe_int _ _ _ _) (fun _ _ => rfl)) (@pe_op _ _ _ _ _ _ _ _ op_add (@pe_int _ _ _ _) (@pe_op _ _ _ _ _ _ _ _ op_mod (@pe_op _ _ _ _ _ _ _ _ op_fdiv (@pv _ 5 _ _ (by rfl) (by first | exact Or.inl rfl | exact Or.inr (Or.inl rfl) | exact Or.inr (Or.inr rfl)) (by decide) (by decide)) (@pe_int _ _ _ _)) (@pe_int _ _ _ _)))) (@pa_nil _) (by rfl)) (by decide) (by rfl) (by decide) (by rfl) (by rfl)) (by rfl) (by first | exact .inl rfl | exact .inr rfl | assumption)) (@pss_cons _ _ _ _ _ (@ps_set _ _ 7 _ _ _ _ sc__law_does.nd rfl (by first | exact Or.inl rfl | exact Or.inr rfl) (@pe_fn _ _ _ _ _ _ _ _ _ _ _ F__law_parcel hr (@pa_cX _ _ _ _ _ (@pe_op _ _ _ _ _ _ _ _ op_mod (@pe_ix _ _ _ _ _ _ _ (ix_get hu1) (@pv _ 4 _ _ (by rfl) (by first | exact Or.inl rfl | exact Or.inr (Or.inl rfl) | exact Or.inr (Or.inr rfl)) (by decide) (by decide)) (@pe_int _ _ _ _) (fun _ _ => rfl)) (@pe_ix _ _ _ _ _ _ _ (ix_get hu1) (@pe_lst _ _ _ _ (@pa_cX _ _ _ _ _ (@pe_int _ _ _ _) (@pa_cX _ _ _ _ _ (@pe_int _ _ _ _) (@pa_cX _ _ _ _ _ (@pe_int _ _ _ _) (@pa_nil _) (by rfl)) (by rfl)) (by rfl))) (@pe_op _ _ _ _ _ _ _ _ op_mod (@pe_op _ _ _ _ _ _ _ _ op_fdiv (@pv _ 5 _ _ (by rfl) (by first | exact Or.inl rfl | exact Or.inr (Or.inl rfl) | exact Or.inr (Or.inr rfl)) (by decide) (by decide)) (@pe_int _ _ _ _)) (@pe_int _ _ _ _)) (fun _ _ => rfl))) (@pa_cX _ _ _ _ _ (@pe_op _ _ _ _ _ _ _ _ op_mod (@pe_ix _ _ _ _ _ _ _ (ix_get hu1) (@pv _ 4 _ _ (by rfl) (by first | exact Or.inl rfl | exact Or.inr (Or.inl rfl) | exact Or.inr (Or.inr rfl)) (by decide) (by decide)) (@pe_int _ _ _ _) (fun _ _ => rfl)) (@pe_ix _ _ _ _ _ _ _ (ix_get hu1) (@pe_lst _ _ _ _ (@pa_cX _ _ _ _ _ (@pe_int _ _ _ _) (@pa_cX _ _ _ _ _ (@pe_int _ _ _ _) (@pa_nil _) (by rfl)) (by rfl))) (@pe_op _ _ _ _ _ _ _ _ op_mod (@pe_ix _ _ _ _ _ _ _ (ix_get hu1) (@pv _ 4 _ _ (by rfl) (by first | exact Or.inl rfl | exact Or.inr (Or.inl rfl) | exact Or.inr (Or.inr rfl)) (by decide) (by decide)) (@pe_int _ _ _ _) (fun _ _ => rfl)) (@pe_int _ _ _ _)) (fun _ _ => rfl))) (@pa_nil _) (by rfl)) (by rfl)) (by decide) (by rfl) (by decide) (by rfl) (by rfl)) (by rfl) (by first | exact .inl rfl | exact .inr rfl | assumption)) (@pss_cons _ _ _ _ _ (@ps_set _ _ 8 _ _ _ _ sc__law_does.nd rfl (by first | exact Or.inl rfl | exact Or.inr rfl) (@pe_mth _ _ _ _ _ _ _ _ _ _ _ _ _ _ _ M_Gate_put T_Gate.cl hr (@pv _ 0 _ _ (by rfl) (by first | exact Or.inl rfl | exact Or.inr (Or.inl rfl) | exact Or.inr (Or.inr rfl)) (by decide) (by decide)) (@pa_cX _ _ _ _ _ (@pv _ 6 _ _ (by rfl) (by first | exact Or.inl rfl | exact Or.inr (Or.inl rfl) | exact Or.inr (Or.inr rfl)) (by decide) (by decide)) (@pa_cX _ _ _ _ _ (@pv _ 7 _ _ (by rfl) (by first | exact Or.inl rfl | exact Or.inr (Or.inl rfl) | exact Or.inr (Or.inr rfl)) (by decide) (by decide)) (@pa_nil _) (by rfl)) (by rfl)) (by decide) (by rfl) (by rfl) (by rfl)) (by rfl) (by first | exact .inl rfl | exact .inr rfl | assumption)) (@pss_one _ _ _ (@ps_ret _ _ _ _ (@pe_and _ _ _ _ _ _ _ (@pe_callB _ _ _ _ _ _ _ _ _ call_isiX rfl (hb _ (by decide)) bt_isinstance (@pa_cX _ _ _ _ _ (@pv _ 8 _ _ (by rfl) (by first | exact Or.inl rfl | exact Or.inr (Or.inl rfl) | exact Or.inr (Or.inr rfl)) (by decide) (by decide)) (@pa_cX _ _ _ _ _ (@pe_bltn _ _ (.ty "bool") _ _ rfl (hb _ (by decide)) bt_bool rfl (by decide) (by decide)) (@pa_nil _) (by rfl)) (by rfl)) (by decide) (by decide) (by rfl) (by rfl)) (@pe_one _ _ _ _ _ (@pe_cmpR _ _ _ _ _ _ _ _ (op_eqX hu) (@pv _ 8 _ _ (by rfl) (by first | exact Or.inl rfl | exact Or.inr (Or.inl rfl) | exact Or.inr (Or.inr rfl)) (by decide) (by decide)) (@pe_fn _ _ _ _ _ _ _ _ _ _ _ F__law_put hr (@pa_cX _ _ _ _ _ (@pv _ 1 _ _ (by rfl) (by first | exact Or.inl rfl | exact Or.inr (Or.inl rfl) | exact Or.inr (Or.inr rfl)) (by decide) (by decide)) (@pa_cX _ _ _ _ _ (@pv _ 2 _ _ (by rfl) (by first | exact Or.inl rfl | exact Or.inr (Or.inl rfl) | exact Or.inr (Or.inr rfl)) (by decide) (by decide)) (@pa_cX _ _ _ _ _ (@pv _ 3 _ _ (by rfl) (by first | exact Or.inl rfl | exact Or.inr (Or.inl rfl) | exact Or.inr (Or.inr rfl)) (by decide) (by decide)) (@pa_cX _ _ _ _ _ (@pv _ 6 _ _ (by rfl) (by first | exact Or.inl rfl | exact Or.inr (Or.inl rfl) | exact Or.inr (Or.inr rfl)) (by decide) (by decide)) (@pa_cX _ _ _ _ _ (@pv _ 7 _ _ (by rfl) (by first | exact Or.inl rfl | exact Or.inr (Or.inl rfl) | exact Or.inr (Or.inr rfl)) (by decide) (by decide)) (@pa_nil _) (by rfl)) (by rfl)) (by rfl)) (by rfl)) (by rfl)) (by decide) (by rfl) (by decide) (by rfl) (by rfl)) (nomark _))))))))) (@pss_nil _)) (@pss_cons _ _ _ _ _ (@ps_set _ _ 9 _ _ _ _ sc__law_does.nd rfl (by first | exact Or.inl rfl | exact Or.inr rfl) (@pe_op _ _ _ _ _ _ _ _ op_mod (@pe_ix _ _ _ _ _ _ _ (ix_get hu1) (@pv _ 4 _ _ (by rfl) (by first | exact Or.inl rfl | exact Or.inr (Or.inl rfl) | exact Or.inr (Or.inr rfl)) (by decide) (by decide)) (@pe_int _ _ _ _) (fun _ _ => rfl)) (@pe_ix _ _ _ _ _ _ _ (ix_get hu1) (@pe_lst _ _ _ _ (@pa_cX _ _ _ _ _ (@pe_int _ _ _ _) (@pa_cX _ _ _ _ _ (@pe_int _ _ _ _) (@pa_nil _) (by rfl)) (by rfl))) (@pe_op _ _ _ _ _ _ _ _ op_mod (@pe_op _ _ _ _ _ _ _ _ op_fdiv (@pv _ 5 _ _ (by rfl) (by first | exact Or.inl rfl | exact Or.inr (Or.inl rfl) | exact Or.inr (Or.inr rfl)) (by decide) (by decide)) (@pe_int _ _ _ _)) (@pe_int _ _ _ _)) (fun _ _ => rfl))) (by rfl) (by first | exact .inl rfl | exact .inr rfl | assumption)) (@pss_cons _ _ _ _ _ (@ps_set _ _ 8 _ _ _ _ sc__law_does.nd rfl (by first | exact Or.inl rfl | exact Or.inr rfl) (@pe_mth _ _ _ _ _ _ _ _ _ _ _ _ _ _ _ M_Gate_out T_Gate.cl hr (@pv _ 0 _ _ (by rfl) (by first | exact Or.inl rfl | exact Or.inr (Or.inl rfl) | exact Or.inr (Or.inr rfl)) (by decide) (by decide)) (@pa_cX _ _ _ _ _ (@pv _ 9 _ _ (by rfl) (by first | exact Or.inl rfl | exact Or.inr (Or.inl rfl) | exact Or.inr (Or.inr rfl)) (by decide) (by decide)) (@pa_nil _) (by rfl)) (by decide) (by rfl) (by rfl) (by rfl)) (by rfl) (by first | exact .inl rfl | exact .inr rfl | assumption)) (@pss_cons _ _ _ _ _ (@ps_if _ _ _ _ _ _ _ _ (@PW.pt _ _ _ (@pw_or _ _ _ _ _ _ _ (@pt_not _ _ _ _ (@pt_truX _ _ _ (@pe_callB _ _ _ _ _ _ _ _ _ call_isiX rfl (hb _ (by decide)) bt_isinstance (@pa_cX _ _ _ _ _ (@pv _ 8 _ _ (by rfl) (by first | exact Or.inl rfl | exact Or.inr (Or.inl rfl) | exact Or.inr (Or.inr rfl)) (by decide) (by decide)) (@pa_cX _ _ _ _ _ (@pe_bltn _ _ (.ty "list") _ _ rfl (hb _ (by decide)) bt_list rfl (by decide) (by decide)) (@pa_nil _) (by rfl)) (by rfl)) (by decide) (by decide) (by rfl) (by rfl)) (by intro _; rfl))) (@pw_or1 _ _ _ _ (@pt_cmpR _ _ _ _ _ _ _ _ (op_neX hu) (@pv _ 8 _ _ (by rfl) (by first | exact Or.inl rfl | exact Or.inr (Or.inl rfl) | exact Or.inr (Or.inr rfl)) (by decide) (by decide)) (@pe_fn _ _ _ _ _ _ _ _ _ _ _ F__law_out hr (@pa_cX _ _ _ _ _ (@pv _ 1 _ _ (by rfl) (by first | exact Or.inl rfl | exact Or.inr (Or.inl rfl) | exact Or.inr (Or.inr rfl)) (by decide) (by decide)) (@pa_cX _ _ _ _ _ (@pv _ 2 _ _ (by rfl) (by first | exact Or.inl rfl | exact Or.inr (Or.inl rfl) | exact Or.inr (Or.inr rfl)) (by decide) (by decide)) (@pa_cX _ _ _ _ _ (@pv _ 9 _ _ (by rfl) (by first | exact Or.inl rfl | exact Or.inr (Or.inl rfl) | exact Or.inr (Or.inr rfl)) (by decide) (by decide)) (@pa_nil _) (by rfl)) (by rfl)) (by rfl)) (by decide) (by rfl) (by decide) (by rfl) (by rfl)) (nomark _))))) (@pss_one _ _ _ (@ps_ret _ _ _ _ (@pe_bl _ _ _ _))) (@pss_nil _)) (@pss_cons _ _ _ _ _ (@ps_expr _ _ _ _ (@pe_lm _ _ _ _ _ _ _ _ _ _ _ PySem.F.slot_list_append PySem.F.type_list_append mt_append (@pv _ 8 _ _ (by rfl) (by first | exact Or.inl rfl | exact Or.inr (Or.inl rfl) | exact Or.inr (Or.inr rfl)) (by decide) (by decide)) (@pa_cX _ _ _ _ _ (@pe_int _ _ _ _) (@pa_nil _) (by rfl)) (by rfl) (by rfl) (by rfl) (by rfl) (by rfl)) (by rfl)) (@pss_one _ _ _ (@ps_ret _ _ _ _ (@pe_bl _ _ _ _)))))))), ?_⟩
    simp (maxSteps := 1000000) only [tBL, rIsIX, V.ty.injEq, rGet, getO_l, tTruX, truX_b, atI_0, atI_1, Nat.reduceSub, upd_same, Int.reduceLT, Nat.reduceAdd, tMeth, V.ty.injEq, rAppend, List.cons.injEq, tSeq, exists_and_left, if_true, tIfS, tOr, tNot, tTest, tOp, tVar, tC, rI, rI0, tRet, tAsg, gName, tNext, tAndV, tCall, tCons, tNil, tCB, tDrop, tLst, L2.start, List.map_cons, List.map_nil, List.length_cons, List.length_nil, List.replicate, List.cons_append, List.nil_append, List.getElem?_cons_zero, List.getElem?_cons_succ, List.set_cons_zero, List.set_cons_succ, Option.some.injEq, exists_eq_left', V.int.injEq, V.bl.injEq, V.ref.injEq, and_true, true_and, and_assoc, List.append_nil, ed]
    have pos3 : ∃ z : Int, atI [V.int 10000, V.int 60, V.int 7] (fi / 240 % 3) = some (.int z) ∧ 0 < z := by
      obtain ⟨v, hv, ev⟩ := atI_in (xs := [V.int 10000, V.int 60, V.int 7]) (k := fi / 240 % 3) (by omega) (by simp only [List.length_cons, List.length_nil]; omega)
      simp only [List.mem_cons, List.not_mem_nil, or_false] at hv
      rcases hv with rfl | rfl | rfl <;> exact ⟨_, ev, by decide⟩
    have pos2 : ∃ z : Int, atI [V.int 61, V.int 3] (d4 % 2) = some (.int z) ∧ 0 < z := by
      obtain ⟨v, hv, ev⟩ := atI_in (xs := [V.int 61, V.int 3]) (k := d4 % 2) (by omega) (by simp only [List.length_cons, List.length_nil]; omega)
      simp only [List.mem_cons, List.not_mem_nil, or_false] at hv
      rcases hv with rfl | rfl <;> exact ⟨_, ev, by decide⟩
    have posM : ∃ z : Int, atI [V.int 10, V.int 3] (fi / 720 % 2) = some (.int z) ∧ 0 < z ∧ z ≤ 10 := by
      obtain ⟨v, hv, ev⟩ := atI_in (xs := [V.int 10, V.int 3]) (k := fi / 720 % 2) (by omega) (by simp only [List.length_cons, List.length_nil]; omega)
      simp only [List.mem_cons, List.not_mem_nil, or_false] at hv
      rcases hv with rfl | rfl <;> exact ⟨_, ev, by decide, by decide⟩
    refine ite2 (fun hA => ?_) (fun hA => ?_)
    · refine ⟨⟨by decide, by decide⟩, by omega, _, rfl, fun y1 H1 s1 hy1 => ?_⟩
      have ed1 := s1 _ _ ed
      simp (maxSteps := 1000000) only [getO_l, atI_2, List.map_cons, List.map_nil, Option.some.injEq, exists_eq_left', V.int.injEq, ed1]
      refine ⟨by decide, ?_⟩
      intro p2 n2
      generalize z2 : upd H1 p2 _ = H2
      obtain ⟨s2, e2⟩ := new_same z2 n2
      obtain ⟨z3, ez3, hz3⟩ := pos3
      obtain ⟨z2, ez2, hz2⟩ := pos2
      refine ⟨⟨by decide, by decide⟩, ?_⟩
      have ed2 := s2 _ _ ed1
      simp (maxSteps := 1000000) only [getO_l, atI_3, List.map_cons, List.map_nil, Option.some.injEq, exists_eq_left', V.int.injEq, ez3, ed2]
      refine ⟨hz3, by decide, ?_⟩
      intro p3 n3
      generalize z3 : upd H2 p3 _ = H3
      obtain ⟨s3, e3⟩ := new_same z3 n3
      have ed3 := s3 _ _ ed2
      simp (maxSteps := 1000000) only [getO_l, List.map_cons, List.map_nil, Option.some.injEq, exists_eq_left', ed3]
      refine ⟨_, rfl, d4, rfl, _, ez2, z2, rfl, hz2, _, _, rfl, fun v4 dv H4 s4 iv4 dv5 => ?_⟩
      have s04 : Same H H4 := ((s1.trans s2).trans s3).trans s4
      have O4 := O.same s04
      have hy4 : KIs H4 y1 _ := ((hy1.same s2).same s3).same s4
      have ex4 := O4.gt.ins
      simp (maxSteps := 1000000) only [HO.ins.injEq, exists_and_left, Option.some.injEq, exists_eq_left', true_and, and_assoc, ex4, fn_Gate_put]
      refine ⟨a.x, a.dx, a.pr, a.pk, a.pl, _, dv, y1, v4, kvs, S, n, rfl, O4.gt, hy4, iv4, dv5, by omega, O.p0, by have := O.p1; omega, fun kvs' H5 G5 f5 k5 => ?_⟩
      simp (maxSteps := 1000000) only [tyX_b, kT_bobo, if_true, Option.some.injEq, exists_eq_left']
      refine ⟨a.qr, a.qk, a.pl, _, dv, y1, v4, kvl, S, n, rfl, O4.lw1 k5, hy4.keep k5 O4.gt.rA.noT, iv4.keep k5 O4.gt.rA.noT, dv5, by omega, O.p0, by have := O.p1; omega, fun kvl' H6 L6 f6 k6 => ?_⟩
      obtain ⟨g1, g2, g3⟩ := O4.step G5 f5 k5 L6 f6 k6
      have fr : ∀ {x y : List E3}, Frs x y H4 → Frs x y H := fun f j b h => (f j b h).imp id s04.fr
      refine ⟨.bool _, .bool _, Im.dt (.bl _), Im.dt (.bl _), by simp [PyData.depth], by simp [PyData.depth], ?_⟩
      have e1 : PyData.eqv (.bool (putB S (keyD (d1 % (1 + fi / 16 % 15))) dv a.pl).1) (.bool (putB S (keyD (d1 % (1 + fi / 16 % 15))) dv a.pl).1) = true := Im.refl (H := H6) (.bl _)
      rw [e1]
      exact q kvs' kvl' _ H6 g1 (fr f5) (fr g2) fun b o e hn => g3 _ _ (s04 _ _ e) hn
    · refine ⟨by decide, ?_⟩
      intro p1 n1
      generalize z1 : upd H p1 _ = H1
      obtain ⟨s1, e1⟩ := new_same z1 n1
      obtain ⟨zm, ezm, hzm0, hzm1⟩ := posM
      refine ⟨⟨by decide, by decide⟩, ?_⟩
      have O1 := O.same s1
      have ex1 := O1.gt.ins
      simp (maxSteps := 1000000) only [HO.ins.injEq, exists_and_left, Option.some.injEq, exists_eq_left', V.int.injEq, true_and, and_assoc, ezm, ex1, fn_Gate_out]
      have hm : ∃ m : Nat, d1 % zm = (m : Int) ∧ m ≤ 10 := ⟨(d1 % zm).toNat, by have := Int.emod_nonneg d1 (show zm ≠ 0 by omega); omega, by have := Int.emod_lt_of_pos d1 hzm0; omega⟩
      obtain ⟨m, em, hm10⟩ := hm
      rw [em]
      refine ⟨hzm0, a.x, a.dx, a.pr, a.pk, a.pl, kvs, S, n, m, rfl, O1.gt, by omega, O.p0, by have := O.p1; omega, by omega, fun p2 xs2 kvs' H2 n2 e2 i2 G2 f2 k2 ho2 => ?_⟩
      simp (maxSteps := 1000000) only [tyX_r, tyO_l, kT_lili, Option.bind_some, Bool.not_true, if_false, Bool.false_eq_true, Option.some.injEq, exists_eq_left', V.ref.injEq, e2]
      have O1' := O1.lw1 k2
      refine ⟨a.qr, a.qk, a.pl, kvl, S, n, m, rfl, O1', by omega, O.p0, by have := O.p1; omega, by omega, fun p3 xs3 kvl' H3 n3 e3 i3 L3 f3 k3 => ?_⟩
      obtain ⟨g1, g2, g3⟩ := O1.step G2 f2 k2 L3 f3 k3
      obtain ⟨ys, el, _⟩ := O1.lw.row
      have hp2 : p2 ∉ [a.qr, a.qk] := by
        simp only [List.mem_cons, List.not_mem_nil, or_false, not_or]
        exact ⟨Ne.symm (ne_of_none el n2), Ne.symm (ne_of_none O1.lw.kep n2)⟩
      have e23 := k3 _ _ e2 hp2
      have i23 := i2.keep k3 O1'.noT
      refine neX_same (.l e23 i23) (.l e3 i3) (Nat.le_trans (lst_dep (outS_dep O.gt.rA.ok)) (by decide)) ⟨false, rfl, iteF ⟨_, e23, _, e23, ?_, ?_⟩⟩
      · have := i2.len
        have := outS_len (n := m) (S := S)
        rw [sizeLine_eq]; omega
      · have kU : Keep [p2] H3 (upd H3 p2 (.lst (xs2 ++ [.int 1]))) := Keep.refl.upd (.inl (.head _))
        obtain ⟨zs3, er3, _⟩ := g1.gt.rA.row
        obtain ⟨ys3, el3, _⟩ := g1.lw.row
        obtain ⟨zs1, er1, _⟩ := O1.gt.rA.row
        have hnT : ∀ b ∈ [p2], NoT H3 b := noT1 (.of_lst e23)
        have G4 := g1.gt.keep kU hnT (by simp; exact ne_of g1.gt.ins e23 (by intro z; cases z)) (by simp; exact ne_of_none er1 n2) (by simp; exact ne_of_none O1.gt.rA.kep n2) (fun j b h => by simp; exact ho2 j b h)
        have L4 := g1.lw.keep kU hnT (by simp; exact ne_of_none el n2) (by simp; exact ne_of_none O1.lw.kep n2) (fun j b h => by
          simp
          rcases f3 j b h with z | z
          · obtain ⟨xs, hx⟩ := O1.lw.val z
            exact ne_of_none hx n2
          · exact Ne.symm (ne_of_none e2 z))
        have fr : ∀ {x y : List E3}, Frs x y H1 → Frs x y H := fun f j b h => (f j b h).imp id s1.fr
        exact q kvs' kvl' _ _ ⟨G4.up (Nat.le_succ n), L4.up (Nat.le_succ n), g1.nr, g1.nk, g1.vg, g1.vl, g1.p0, g1.p1⟩ (fr f2) (fr g2) fun b o e hn => by
          rw [upd_ne (ne_of_none (s1 _ _ e) n2)]
          exact g3 _ _ (s1 _ _ e) hn
end
end K31
namespace K31
open PySem L2
open Classical
section
variable {P : Program} {w : World} {K : PySem.W.Frag} {mg : Str → Option Value} {base : Heap} {C : Addr}
abbrev s_law : Stmt := top 13
theorem sc_law : FnScope ["_law_script", "_law_first", "_law_places", "_law_gates", "_law_rows", "_law_kept", "_law_cell", "_law_ds", "_law_at", "_law_k"] ["_law_script"] (defScope s_law) := ⟨rfl, rfl, rfl, by decide +kernel, rfl, by decide +kernel, by decide +kernel⟩
def sp_law (K : PySem.W.Frag) : Sp := fun vs H Q _ => ∃ (a : Addr) (ns : List Int), vs = [.ref a] ∧ SqL K H a (ns.map V.int) ∧ ns.length ≤ 63 ∧ ∀ H', Q (.bl true) H'
def Off (kvs : List E3) (A : List Addr) : Prop := ∀ k p, vV kvs k = some (.ref p) → p ∉ A
theorem One.trk {H : Hp} {a : Gh} {kvs kvl : List E3} {S : Rw} {n : Nat} (o : One w C H a kvs kvl S n) : ∀ c ∈ tch a, H c ≠ none := fun c hc => by
  obtain ⟨zs, er, _⟩ := o.gt.rA.row
  obtain ⟨ys, el, _⟩ := o.lw.row
  unfold tch at hc
  simp only [List.mem_cons, List.not_mem_nil, or_false] at hc
  rcases hc with rfl | rfl | rfl | rfl
  · rw [er]; simp
  · rw [o.gt.rA.kep]; simp
  · rw [el]; simp
  · rw [o.lw.kep]; simp
theorem One.noT {H : Hp} {a : Gh} {kvs kvl : List E3} {S : Rw} {n : Nat} (o : One w C H a kvs kvl S n) : ∀ c ∈ tch a, NoT H c := fun c hc => by
  obtain ⟨zs, er, _⟩ := o.gt.rA.row
  obtain ⟨ys, el, _⟩ := o.lw.row
  unfold tch at hc
  simp only [List.mem_cons, List.not_mem_nil, or_false] at hc
  rcases hc with rfl | rfl | rfl | rfl
  · exact .of_lst er
  · exact .of_dn o.gt.rA.kep
  · exact .of_lst el
  · exact .of_dn o.lw.kep
theorem One.ins {H : Hp} {a : Gh} {kvs kvl : List E3} {S : Rw} {n : Nat} (o : One w C H a kvs kvl S n) {x dx : Addr} {fs : List (Str × V)} (h : H x = some (.ins C dx fs)) : x ∉ tch a := fun hc => by
  obtain ⟨zs, er, _⟩ := o.gt.rA.row
  obtain ⟨ys, el, _⟩ := o.lw.row
  unfold tch at hc
  simp only [List.mem_cons, List.not_mem_nil, or_false] at hc
  rcases hc with rfl | rfl | rfl | rfl
  · rw [er] at h; cases h
  · exact dn_ins h o.gt.rA.kep rfl
  · rw [el] at h; cases h
  · exact dn_ins h o.lw.kep rfl
theorem One.keep {A : List Addr} {H H' : Hp} {b : Gh} {kb lb : List E3} {T : Rw} {n : Nat} (o : One w C H b kb lb T n) (k : Keep A H H') (hs : ∀ c ∈ A, NoT H c) (hx : b.x ∉ A) (ht : ∀ c ∈ tch b, c ∉ A) (o1 : Off kb A) (o2 : Off lb A) : One w C H' b kb lb T n :=
  ⟨o.gt.keep k hs hx (ht _ (by simp [tch])) (ht _ (by simp [tch])) o1, o.lw.keep k hs (ht _ (by simp [tch])) (ht _ (by simp [tch])) o2, o.nr, o.nk, o.vg, o.vl, o.p0, o.p1⟩
theorem One.up {H : Hp} {b : Gh} {kb lb : List E3} {T : Rw} {n m : Nat} (o : One w C H b kb lb T n) (h : n ≤ m) : One w C H b kb lb T m := ⟨o.gt.up h, o.lw.up h, o.nr, o.nk, o.vg, o.vl, o.p0, o.p1⟩
structure Two (w : World) (C : Addr) (H : Hp) (a b : Gh) (ka la kb lb : List E3) (S T : Rw) (n : Nat) : Prop where
  oA : One w C H a ka la S n
  oB : One w C H b kb lb T n
  ap : ∀ c ∈ tch a, c ∉ tch b
  oa : Off ka (tch b)
  pa : Off la (tch b)
  ob : Off kb (tch a)
  pb : Off lb (tch a)
theorem Two.swap {H : Hp} {a b : Gh} {ka la kb lb : List E3} {S T : Rw} {n : Nat} (t : Two w C H a b ka la kb lb S T n) : Two w C H b a kb lb ka la T S n := ⟨t.oB, t.oA, fun c h1 h2 => t.ap c h2 h1, t.ob, t.pb, t.oa, t.pa⟩
theorem Two.same {H H' : Hp} {a b : Gh} {ka la kb lb : List E3} {S T : Rw} {n : Nat} (t : Two w C H a b ka la kb lb S T n) (s : Same H H') : Two w C H' a b ka la kb lb S T n := ⟨t.oA.same s, t.oB.same s, t.ap, t.oa, t.pa, t.ob, t.pb⟩
theorem Two.step {H H' : Hp} {a b : Gh} {ka la ka' la' kb lb : List E3} {S S' T : Rw} {n m : Nat} (t : Two w C H a b ka la kb lb S T n) (o : One w C H' a ka' la' S' m) (f1 : Frs ka ka' H) (f2 : Frs la la' H) (k : Keep (tch a) H H') (hm : n ≤ m) : Two w C H' a b ka' la' kb lb S' T m := by
  have off : ∀ {x y : List E3}, Frs x y H → Off x (tch b) → Off y (tch b) := fun f o j p h => by
    rcases f j p h with z | z
    · exact o j p z
    · exact fun hc => t.oB.trk p hc z
  exact ⟨o, (t.oB.keep k t.oA.noT (t.oA.ins t.oB.gt.ins) (fun c h1 h2 => t.ap c h2 h1) t.ob t.pb).up hm, t.ap, off f1 t.oa, off f2 t.pa, t.ob, t.pb⟩
structure Fx (H : Hp) (a b : Gh) (c : Addr) (xs : List V) : Prop where
  e : H c = some (.lst xs)
  na : c ∉ tch a
  nb : c ∉ tch b
theorem Fx.same {H H' : Hp} {a b : Gh} {c : Addr} {xs : List V} (f : Fx H a b c xs) (s : Same H H') : Fx H' a b c xs := ⟨s _ _ f.e, f.na, f.nb⟩
theorem Fx.step {H H' : Hp} {a b : Gh} {c : Addr} {xs : List V} (f : Fx H a b c xs) (k : Keep (tch a) H H') : Fx H' a b c xs := ⟨k _ _ f.e f.na, f.na, f.nb⟩
theorem Fx.swap {H : Hp} {a b : Gh} {c : Addr} {xs : List V} (f : Fx H a b c xs) : Fx H b a c xs := ⟨f.e, f.nb, f.na⟩
theorem Fx.new {H H' : Hp} {a b : Gh} {ka la kb lb : List E3} {S T : Rw} {n : Nat} {c : Addr} {xs : List V} (t : Two w C H a b ka la kb lb S T n) (h : H c = none) (e : H' c = some (.lst xs)) : Fx H' a b c xs := ⟨e, fun z => t.oA.trk c z h, fun z => t.oB.trk c z h⟩
structure Pm where
  pp : Addr
  pg : Addr
  pw : Addr
  pk : Addr
structure Al (w : World) (C : Addr) (H : Hp) (m : Pm) (a b : Gh) (n : Nat) : Prop where
  two : ∃ ka la kb lb S T, Two w C H a b ka la kb lb S T n
  fp : Fx H a b m.pp [.int a.pl, .int b.pl]
  fg : Fx H a b m.pg [.ref a.x, .ref b.x]
  fw : Fx H a b m.pw [.ref a.qr, .ref b.qr]
  fk : Fx H a b m.pk [.ref a.qk, .ref b.qk]
theorem Al.same {H H' : Hp} {m : Pm} {a b : Gh} {n : Nat} (l : Al w C H m a b n) (s : Same H H') : Al w C H' m a b n := by
  obtain ⟨ka, la, kb, lb, S, T, t⟩ := l.two
  exact ⟨⟨ka, la, kb, lb, S, T, t.same s⟩, l.fp.same s, l.fg.same s, l.fw.same s, l.fk.same s⟩
theorem Al.stepA {H H' : Hp} {m : Pm} {a b : Gh} {n n' : Nat} {ka la ka' la' kb lb : List E3} {S S' T : Rw} (l : Al w C H m a b n) (t : Two w C H a b ka la kb lb S T n) (o : One w C H' a ka' la' S' n') (f1 : Frs ka ka' H) (f2 : Frs la la' H) (k : Keep (tch a) H H') (hm : n ≤ n') : Al w C H' m a b n' :=
  ⟨⟨_, _, _, _, _, _, t.step o f1 f2 k hm⟩, l.fp.step k, l.fg.step k, l.fw.step k, l.fk.step k⟩
theorem Al.stepB {H H' : Hp} {m : Pm} {a b : Gh} {n n' : Nat} {ka la kb lb kb' lb' : List E3} {S T T' : Rw} (l : Al w C H m a b n) (t : Two w C H a b ka la kb lb S T n) (o : One w C H' b kb' lb' T' n') (f1 : Frs kb kb' H) (f2 : Frs lb lb' H) (k : Keep (tch b) H H') (hm : n ≤ n') : Al w C H' m a b n' :=
  ⟨⟨_, _, _, _, _, _, (t.swap.step o f1 f2 k hm).swap⟩, (l.fp.swap.step k).swap, (l.fg.swap.step k).swap, (l.fw.swap.step k).swap, (l.fk.swap.step k).swap⟩
theorem cutV_60 (xs : List V) : (cutV xs (some 1) (some 61)).length ≤ 60 := by
  unfold cutV
  rw [List.length_take]
  have e1 : HT.sIx xs.length xs.length (some 61) = min 61 xs.length := HT.sIx_nat _ _ 61
  have e2 : HT.sIx xs.length 0 (some 1) = min 1 xs.length := HT.sIx_nat _ _ 1
  rw [e1, e2]
  omega
def sg (sc : Addr) (fi : Int) (m : Pm) (v6 v7 v8 v9 : Option V) : St := [some (.ref sc), some (.int fi), some (.ref m.pp), some (.ref m.pg), some (.ref m.pw), some (.ref m.pk), v6, v7, v8, v9]
end
end K31
namespace K31
open PySem L2
open Classical
section
variable {P : Program} {w : World} {K : PySem.W.Frag} {mg : Str → Option Value} {base : Heap} {C : Addr}
def Pm0 (w : World) (C sc : Addr) (H : Hp) (σ : St) (H' : Hp) : Prop := ∃ fi m a b, σ = sg sc fi m none none none none ∧ Al w C H' m a b 0 ∧ Same H H'
def Lw (w : World) (C sc pc : Addr) (fi : Int) (m : Pm) (a b : Gh) (xs : List V) (i : Nat) (σ : St) (H' : Hp) : Prop := ∃ n v6 v7 v8 v9, σ = sg sc fi m v6 v7 v8 v9 ∧ Al w C H' m a b n ∧ n ≤ i ∧ Fx H' a b pc xs
def Mb (w : World) (C sc pc : Addr) (fi : Int) (m : Pm) (a b : Gh) (xs : List V) (n : Nat) (c : V) (v9 : Option V) (σ : St) (H' : Hp) : Prop := ∃ (pd : Addr) (ds : List Int) (at' : Int), σ = sg sc fi m (some c) (some (.ref pd)) (some (.int at')) v9 ∧ Al w C H' m a b n ∧ Fx H' a b pc xs ∧ Fx H' a b pd (ds.map V.int) ∧ ds.length = 6 ∧ (∀ d ∈ ds, 0 ≤ d) ∧ (at' = 0 ∨ at' = 1)
def Mc (w : World) (C sc pc : Addr) (fi : Int) (m : Pm) (a b : Gh) (xs : List V) (n : Nat) (c pd at' : V) (v9 : Option V) (σ : St) (H' : Hp) : Prop := σ = sg sc fi m (some c) (some pd) (some at') v9 ∧ Al w C H' m a b n ∧ Fx H' a b pc xs
def Md (w : World) (C sc pc : Addr) (fi : Int) (m : Pm) (a b : Gh) (xs : List V) (n : Nat) (c pd at' : V) (j : Nat) (σ : St) (H' : Hp) : Prop := ∃ v9, σ = sg sc fi m (some c) (some pd) (some at') v9 ∧ Al w C H' m a b n ∧ Fx H' a b pc xs
def Me (w : World) (C sc : Addr) (fi : Int) (m : Pm) (a b : Gh) (n : Nat) (v6 v7 v8 : Option V) (j : Nat) (σ : St) (H' : Hp) : Prop := ∃ v9, σ = sg sc fi m v6 v7 v8 v9 ∧ Al w C H' m a b n
theorem upd_none {H : Hp} {a b : Addr} {o : HO} (h : upd H a o b = none) : H b = none := by
  by_cases e : b = a
  · subst e; rw [upd_same] at h; cases h
  · rw [upd_ne e] at h; exact h
set_option maxHeartbeats 8000000 in
theorem law_fn {f : Addr} {fd : FuncData} (F : Fun K "law" "law" s_law f fd) (hb : Blt mg) (T_Gate : ClsD K mg "Gate" C at_Gate) (I_Gate : OwnI P w K mg base 1 C ["self", "places"] (sp_ginit w C)) (M_Gate_waiting : OwnM P w K mg base 1 C "waiting" ["self"] (sp_waiting w C)) (M_Gate_out : OwnM P w K mg base 2 C "out" ["self", "many"] (sp_out w C))
    (F__law_cell_at : Own P w K mg base 1 "_law_cell_at" ["_law_script", "_law_k"] (sp_cell K)) (F__law_digits : Own P w K mg base 1 "_law_digits" ["_law_cell", "_law_size", "_law_many"] sp_digits) (F__law_does : Own P w K mg base 8 "_law_does" ["_law_gate", "_law_row", "_law_kept", "_law_places", "_law_ds", "_law_first"] (sp_does w C))
    (F__law_right : Own P w K mg base 2 "_law_right" ["_law_gate", "_law_row", "_law_kept"] (sp_right w C)) (F__law_out : Own P w K mg base 1 "_law_out" ["_law_row", "_law_kept", "_law_many"] (sp_lout w)) : FnOk P w K mg base CX0 9 f fd ["_law_script"] (sp_law K) := by
  refine F.ok sc_law (fun vs H Q E h => ?_) (fun cdv A outer s H vs Q E hr h => ?_)
  · obtain ⟨a, ns, rfl, _⟩ := h
    rfl
  · obtain ⟨sc, ns, rfl, hS, h63, q⟩ := h
    have hu := hr.units
    have hu1 : (A.deeper (PyProof.Rows.envOfC "law" (defScope s_law) s.heap.objs.size f cdv)).units + 1 < cLine := by omega
    refine ⟨_, (@pss_cons _ _ _ _ _ (@ps_set _ _ 1 _ _ _ _ sc_law.nd rfl (by first | exact Or.inl rfl | exact Or.inr rfl) (@pe_fn _ _ _ _ _ _ _ _ _ _ _ F__law_cell_at hr (@pa_cX _ _ _ _ _ (@pv _ 0 _ _ (by rfl) (by first | exact Or.inl rfl | exact Or.inr (Or.inl rfl) | exact Or.inr (Or.inr rfl)) (by decide) (by decide)) (@pa_cX _ _ _ _ _ (@pe_int _ _ _ _) (@pa_nil _) (by rfl)) (by rfl)) (by decide) (by rfl) (by decide) (by rfl) (by rfl)) (by rfl) (by first | exact .inl rfl | exact .inr rfl | assumption)) (@pss_cons _ _ _ _ _ (@ps_set _ _ 2 _ _ _ _ sc_law.nd rfl (by first | exact Or.inl rfl | exact Or.inr rfl) (@pe_lst _ _ _ _ (@pa_cX _ _ _ _ _ (@pe_op _ _ _ _ _ _ _ _ op_add (@pe_int _ _ _ _) (@pe_op _ _ _ _ _ _ _ _ op_mod (@pv _ 1 _ _ (by rfl) (by first | exact Or.inl rfl | exact Or.inr (Or.inl rfl) | exact Or.inr (Or.inr rfl)) (by decide) (by decide)) (@pe_int _ _ _ _))) (@pa_cX _ _ _ _ _ (@pe_op _ _ _ _ _ _ _ _ op_add (@pe_int _ _ _ _) (@pe_op _ _ _ _ _ _ _ _ op_mod (@pe_op _ _ _ _ _ _ _ _ op_fdiv (@pv _ 1 _ _ (by rfl) (by first | exact Or.inl rfl | exact Or.inr (Or.inl rfl) | exact Or.inr (Or.inr rfl)) (by decide) (by decide)) (@pe_int _ _ _ _)) (@pe_int _ _ _ _))) (@pa_nil _) (by rfl)) (by rfl))) (by rfl) (by first | exact .inl rfl | exact .inr rfl | assumption)) (@pss_cons _ _ _ _ _ (@ps_set _ _ 3 _ _ _ _ sc_law.nd rfl (by first | exact Or.inl rfl | exact Or.inr rfl) (@pe_lst _ _ _ _ (@pa_cX _ _ _ _ _ (@pe_mak _ _ _ _ _ _ _ _ _ _ _ _ I_Gate hr T_Gate.mgC (@pa_cX _ _ _ _ _ (@pe_ix _ _ _ _ _ _ _ (ix_get hu1) (@pv _ 2 _ _ (by rfl) (by first | exact Or.inl rfl | exact Or.inr (Or.inl rfl) | exact Or.inr (Or.inr rfl)) (by decide) (by decide)) (@pe_int _ _ _ _) (fun _ _ => rfl)) (@pa_nil _) (by rfl)) (by decide) (by rfl) (by decide) (by rfl) (by rfl)) (@pa_cX _ _ _ _ _ (@pe_mak _ _ _ _ _ _ _ _ _ _ _ _ I_Gate hr T_Gate.mgC (@pa_cX _ _ _ _ _ (@pe_ix _ _ _ _ _ _ _ (ix_get hu1) (@pv _ 2 _ _ (by rfl) (by first | exact Or.inl rfl | exact Or.inr (Or.inl rfl) | exact Or.inr (Or.inr rfl)) (by decide) (by decide)) (@pe_int _ _ _ _) (fun _ _ => rfl)) (@pa_nil _) (by rfl)) (by decide) (by rfl) (by decide) (by rfl) (by rfl)) (@pa_nil _) (by rfl)) (by rfl))) (by rfl) (by first | exact .inl rfl | exact .inr rfl | assumption)) (@pss_cons _ _ _ _ _ (@ps_set _ _ 4 _ _ _ _ sc_law.nd rfl (by first | exact Or.inl rfl | exact Or.inr rfl) (@pe_lst _ _ _ _ (@pa_cX _ _ _ _ _ (@pe_lst _ _ _ _ (@pa_nil _)) (@pa_cX _ _ _ _ _ (@pe_lst _ _ _ _ (@pa_nil _)) (@pa_nil _) (by rfl)) (by rfl))) (by rfl) (by first | exact .inl rfl | exact .inr rfl | assumption)) (@pss_cons _ _ _ _ _ (@ps_set _ _ 5 _ _ _ _ sc_law.nd rfl (by first | exact Or.inl rfl | exact Or.inr rfl) (@pe_lst _ _ _ _ (@pa_cX _ _ _ _ _ (@pe_nnew _ _ w (by rfl)) (@pa_cX _ _ _ _ _ (@pe_nnew _ _ w (by rfl)) (@pa_nil _) (by rfl)) (by rfl))) (by rfl) (by first | exact .inl rfl | exact .inr rfl | assumption)) (@pss_cons _ _ _ _ _ (@ps_for _ _ _ _ _ _ _ _ PassesOwn.never rfl (@pi_listK _ K _ _ _ (@pe_slice _ _ _ _ _ _ _ _ _ _ (sl_listK K) (@pv _ 0 _ _ (by rfl) (by first | exact Or.inl rfl | exact Or.inr (Or.inl rfl) | exact Or.inr (Or.inr rfl)) (by decide) (by decide)) (@po_some _ _ _ (@pe_int _ _ _ _)) (@po_some _ _ _ (@pe_int _ _ _ _))) (by rfl)) (@pg_name _ _ 6 _ sc_law.nd rfl (by first | exact Or.inl rfl | exact Or.inr rfl) (by first | exact .inl rfl | exact .inr rfl | assumption)) (@pss_cons _ _ _ _ _ (@ps_set _ _ 7 _ _ _ _ sc_law.nd rfl (by first | exact Or.inl rfl | exact Or.inr rfl) (@pe_fn _ _ _ _ _ _ _ _ _ _ _ F__law_digits hr (@pa_cX _ _ _ _ _ (@pv _ 6 _ _ (by rfl) (by first | exact Or.inl rfl | exact Or.inr (Or.inl rfl) | exact Or.inr (Or.inr rfl)) (by decide) (by decide)) (@pa_cX _ _ _ _ _ (@pe_int _ _ _ _) (@pa_cX _ _ _ _ _ (@pe_int _ _ _ _) (@pa_nil _) (by rfl)) (by rfl)) (by rfl)) (by decide) (by rfl) (by decide) (by rfl) (by rfl)) (by rfl) (by first | exact .inl rfl | exact .inr rfl | assumption)) (@pss_cons _ _ _ _ _ (@ps_set _ _ 8 _ _ _ _ sc_law.nd rfl (by first | exact Or.inl rfl | exact Or.inr rfl) (@pe_callTy _ _ _ _ _ _ _ _ _ call_int1 rfl (hb _ (by decide)) bt_int (@pa_cX _ _ _ _ _ (@pe_cmpR _ _ _ _ _ _ _ _ op_eq (@pe_op _ _ _ _ _ _ _ _ op_mod (@pe_ix _ _ _ _ _ _ _ (ix_get hu1) (@pv _ 7 _ _ (by rfl) (by first | exact Or.inl rfl | exact Or.inr (Or.inl rfl) | exact Or.inr (Or.inr rfl)) (by decide) (by decide)) (@pe_int _ _ _ _) (fun _ _ => rfl)) (@pe_int _ _ _ _)) (@pe_int _ _ _ _) (nomark _)) (@pa_nil _) (by rfl)) (by decide) (by decide) (by rfl) (by rfl)) (by rfl) (by first | exact .inl rfl | exact .inr rfl | assumption)) (@pss_cons _ _ _ _ _ (@ps_if _ _ _ _ _ _ _ _ (@pt_not _ _ _ _ (@pt_truX _ _ _ (@pe_fn _ _ _ _ _ _ _ _ _ _ _ F__law_does hr (@pa_cX _ _ _ _ _ (@pe_ix _ _ _ _ _ _ _ (ix_get hu1) (@pv _ 3 _ _ (by rfl) (by first | exact Or.inl rfl | exact Or.inr (Or.inl rfl) | exact Or.inr (Or.inr rfl)) (by decide) (by decide)) (@pv _ 8 _ _ (by rfl) (by first | exact Or.inl rfl | exact Or.inr (Or.inl rfl) | exact Or.inr (Or.inr rfl)) (by decide) (by decide)) (fun _ _ => rfl)) (@pa_cX _ _ _ _ _ (@pe_ix _ _ _ _ _ _ _ (ix_get hu1) (@pv _ 4 _ _ (by rfl) (by first | exact Or.inl rfl | exact Or.inr (Or.inl rfl) | exact Or.inr (Or.inr rfl)) (by decide) (by decide)) (@pv _ 8 _ _ (by rfl) (by first | exact Or.inl rfl | exact Or.inr (Or.inl rfl) | exact Or.inr (Or.inr rfl)) (by decide) (by decide)) (fun _ _ => rfl)) (@pa_cX _ _ _ _ _ (@pe_ix _ _ _ _ _ _ _ (ix_get hu1) (@pv _ 5 _ _ (by rfl) (by first | exact Or.inl rfl | exact Or.inr (Or.inl rfl) | exact Or.inr (Or.inr rfl)) (by decide) (by decide)) (@pv _ 8 _ _ (by rfl) (by first | exact Or.inl rfl | exact Or.inr (Or.inl rfl) | exact Or.inr (Or.inr rfl)) (by decide) (by decide)) (fun _ _ => rfl)) (@pa_cX _ _ _ _ _ (@pe_ix _ _ _ _ _ _ _ (ix_get hu1) (@pv _ 2 _ _ (by rfl) (by first | exact Or.inl rfl | exact Or.inr (Or.inl rfl) | exact Or.inr (Or.inr rfl)) (by decide) (by decide)) (@pv _ 8 _ _ (by rfl) (by first | exact Or.inl rfl | exact Or.inr (Or.inl rfl) | exact Or.inr (Or.inr rfl)) (by decide) (by decide)) (fun _ _ => rfl)) (@pa_cX _ _ _ _ _ (@pv _ 7 _ _ (by rfl) (by first | exact Or.inl rfl | exact Or.inr (Or.inl rfl) | exact Or.inr (Or.inr rfl)) (by decide) (by decide)) (@pa_cX _ _ _ _ _ (@pv _ 1 _ _ (by rfl) (by first | exact Or.inl rfl | exact Or.inr (Or.inl rfl) | exact Or.inr (Or.inr rfl)) (by decide) (by decide)) (@pa_nil _) (by rfl)) (by rfl)) (by rfl)) (by rfl)) (by rfl)) (by rfl)) (by decide) (by rfl) (by decide) (by rfl) (by rfl)) (by intro _; rfl))) (@pss_one _ _ _ (@ps_ret _ _ _ _ (@pe_bl _ _ _ _))) (@pss_nil _)) (@pss_one _ _ _ (@ps_for _ _ _ _ _ _ _ _ PassesOwn.never rfl (@pi_range1 _ _ _ _ _ _ rfl (hb _ (by decide)) (@pa_cX _ _ _ _ _ (@pe_int _ _ _ _) (@pa_nil _) (by rfl)) (by rfl)) (@pg_name _ _ 9 _ sc_law.nd rfl (by first | exact Or.inl rfl | exact Or.inr rfl) (by first | exact .inl rfl | exact .inr rfl | assumption)) (@pss_one _ _ _ (@ps_if _ _ _ _ _ _ _ _ (@pt_not _ _ _ _ (@pt_truX _ _ _ (@pe_fn _ _ _ _ _ _ _ _ _ _ _ F__law_right hr (@pa_cX _ _ _ _ _ (@pe_ix _ _ _ _ _ _ _ (ix_get hu1) (@pv _ 3 _ _ (by rfl) (by first | exact Or.inl rfl | exact Or.inr (Or.inl rfl) | exact Or.inr (Or.inr rfl)) (by decide) (by decide)) (@pv _ 9 _ _ (by rfl) (by first | exact Or.inl rfl | exact Or.inr (Or.inl rfl) | exact Or.inr (Or.inr rfl)) (by decide) (by decide)) (fun _ _ => rfl)) (@pa_cX _ _ _ _ _ (@pe_ix _ _ _ _ _ _ _ (ix_get hu1) (@pv _ 4 _ _ (by rfl) (by first | exact Or.inl rfl | exact Or.inr (Or.inl rfl) | exact Or.inr (Or.inr rfl)) (by decide) (by decide)) (@pv _ 9 _ _ (by rfl) (by first | exact Or.inl rfl | exact Or.inr (Or.inl rfl) | exact Or.inr (Or.inr rfl)) (by decide) (by decide)) (fun _ _ => rfl)) (@pa_cX _ _ _ _ _ (@pe_ix _ _ _ _ _ _ _ (ix_get hu1) (@pv _ 5 _ _ (by rfl) (by first | exact Or.inl rfl | exact Or.inr (Or.inl rfl) | exact Or.inr (Or.inr rfl)) (by decide) (by decide)) (@pv _ 9 _ _ (by rfl) (by first | exact Or.inl rfl | exact Or.inr (Or.inl rfl) | exact Or.inr (Or.inr rfl)) (by decide) (by decide)) (fun _ _ => rfl)) (@pa_nil _) (by rfl)) (by rfl)) (by rfl)) (by decide) (by rfl) (by decide) (by rfl) (by rfl)) (by intro _; rfl))) (@pss_one _ _ _ (@ps_ret _ _ _ _ (@pe_bl _ _ _ _))) (@pss_nil _))) (by intro _; rfl)))))) (by intro _; rfl)) (@pss_cons _ _ _ _ _ (@ps_for _ _ _ _ _ _ _ _ PassesOwn.never rfl (@pi_range1 _ _ _ _ _ _ rfl (hb _ (by decide)) (@pa_cX _ _ _ _ _ (@pe_int _ _ _ _) (@pa_nil _) (by rfl)) (by rfl)) (@pg_name _ _ 9 _ sc_law.nd rfl (by first | exact Or.inl rfl | exact Or.inr rfl) (by first | exact .inl rfl | exact .inr rfl | assumption)) (@pss_cons _ _ _ _ _ (@ps_if _ _ _ _ _ _ _ _ (@pt_cmpR _ _ _ _ _ _ _ _ (op_neX hu) (@pe_mth _ _ _ _ _ _ _ _ _ _ _ _ _ _ _ M_Gate_out T_Gate.cl hr (@pe_ix _ _ _ _ _ _ _ (ix_get hu1) (@pv _ 3 _ _ (by rfl) (by first | exact Or.inl rfl | exact Or.inr (Or.inl rfl) | exact Or.inr (Or.inr rfl)) (by decide) (by decide)) (@pv _ 9 _ _ (by rfl) (by first | exact Or.inl rfl | exact Or.inr (Or.inl rfl) | exact Or.inr (Or.inr rfl)) (by decide) (by decide)) (fun _ _ => rfl)) (@pa_cX _ _ _ _ _ (@pe_int _ _ _ _) (@pa_nil _) (by rfl)) (by decide) (by rfl) (by rfl) (by rfl)) (@pe_fn _ _ _ _ _ _ _ _ _ _ _ F__law_out hr (@pa_cX _ _ _ _ _ (@pe_ix _ _ _ _ _ _ _ (ix_get hu1) (@pv _ 4 _ _ (by rfl) (by first | exact Or.inl rfl | exact Or.inr (Or.inl rfl) | exact Or.inr (Or.inr rfl)) (by decide) (by decide)) (@pv _ 9 _ _ (by rfl) (by first | exact Or.inl rfl | exact Or.inr (Or.inl rfl) | exact Or.inr (Or.inr rfl)) (by decide) (by decide)) (fun _ _ => rfl)) (@pa_cX _ _ _ _ _ (@pe_ix _ _ _ _ _ _ _ (ix_get hu1) (@pv _ 5 _ _ (by rfl) (by first | exact Or.inl rfl | exact Or.inr (Or.inl rfl) | exact Or.inr (Or.inr rfl)) (by decide) (by decide)) (@pv _ 9 _ _ (by rfl) (by first | exact Or.inl rfl | exact Or.inr (Or.inl rfl) | exact Or.inr (Or.inr rfl)) (by decide) (by decide)) (fun _ _ => rfl)) (@pa_cX _ _ _ _ _ (@pe_int _ _ _ _) (@pa_nil _) (by rfl)) (by rfl)) (by rfl)) (by decide) (by rfl) (by decide) (by rfl) (by rfl)) (nomark _)) (@pss_one _ _ _ (@ps_ret _ _ _ _ (@pe_bl _ _ _ _))) (@pss_nil _)) (@pss_one _ _ _ (@ps_if _ _ _ _ _ _ _ _ (@PW.pt _ _ _ (@pw_or _ _ _ _ _ _ _ (@pt_cmpR _ _ _ _ _ _ _ _ (op_neNil hu) (@pe_mth _ _ _ _ _ _ _ _ _ _ _ _ _ _ _ M_Gate_out T_Gate.cl hr (@pe_ix _ _ _ _ _ _ _ (ix_get hu1) (@pv _ 3 _ _ (by rfl) (by first | exact Or.inl rfl | exact Or.inr (Or.inl rfl) | exact Or.inr (Or.inr rfl)) (by decide) (by decide)) (@pv _ 9 _ _ (by rfl) (by first | exact Or.inl rfl | exact Or.inr (Or.inl rfl) | exact Or.inr (Or.inr rfl)) (by decide) (by decide)) (fun _ _ => rfl)) (@pa_cX _ _ _ _ _ (@pe_int _ _ _ _) (@pa_nil _) (by rfl)) (by decide) (by rfl) (by rfl) (by rfl)) (@pe_lst _ _ _ _ (@pa_nil _)) (nomark _)) (@pw_or1 _ _ _ _ (@pt_cmpR _ _ _ _ _ _ _ _ (op_neNil hu) (@pe_mth0 _ _ _ _ _ _ _ _ _ _ _ _ M_Gate_waiting T_Gate.cl hr (@pe_ix _ _ _ _ _ _ _ (ix_get hu1) (@pv _ 3 _ _ (by rfl) (by first | exact Or.inl rfl | exact Or.inr (Or.inl rfl) | exact Or.inr (Or.inr rfl)) (by decide) (by decide)) (@pv _ 9 _ _ (by rfl) (by first | exact Or.inl rfl | exact Or.inr (Or.inl rfl) | exact Or.inr (Or.inr rfl)) (by decide) (by decide)) (fun _ _ => rfl)) (by decide) (by rfl)) (@pe_lst _ _ _ _ (@pa_nil _)) (nomark _))))) (@pss_one _ _ _ (@ps_ret _ _ _ _ (@pe_bl _ _ _ _))) (@pss_nil _)))) (by intro _; rfl)) (@pss_one _ _ _ (@ps_ret _ _ _ _ (@pe_bl _ _ _ _)))))))))), ?_⟩
    refine use5 (Pm0 w C sc H) ?key ?go
    case go =>
      intro R' hR
      simp (maxSteps := 1000000) only [rGet, getO_l, atI_0, Nat.reduceSub, upd_same, Int.reduceLT, Nat.reduceAdd, ne_eq, tMake, tSeq, exists_and_left, tOp, tVar, tC, rI, rI0, tAsg, gName, tCall, tCons, tNil, tLst, L2.start, List.map_cons, List.map_nil, List.length_cons, List.length_nil, List.replicate, List.cons_append, List.nil_append, List.getElem?_cons_zero, List.getElem?_cons_succ, List.set_cons_zero, List.set_cons_succ, Option.some.injEq, exists_eq_left', V.int.injEq, V.ref.injEq, true_and, List.append_nil]
      refine ⟨sc, ns, 0, rfl, by decide, hS, fun fi => ?_⟩
      simp (maxSteps := 1000000) only [exists_eq_left', V.int.injEq]
      refine ⟨⟨by decide, by decide⟩, by decide, ?_⟩
      intro p1 n1
      generalize z1 : upd H p1 _ = H1
      obtain ⟨s1, e1⟩ := new_same z1 n1
      simp (maxSteps := 1000000) only [upd_same, HO.ins.injEq, List.cons.injEq, exists_and_left, Option.some.injEq, exists_eq_left', V.int.injEq, V.ref.injEq, and_true, true_and, and_assoc, sp_ginit]
      intro x dx hx hdx _ pr pk H2 hpr hpk G2 k2
      have s2 : Same H1 H2 := make_same hx hdx k2
      have e12 := s2 _ _ e1
      simp (maxSteps := 1000000) only [getO_l, atI_1, Option.some.injEq, exists_eq_left', V.int.injEq, e12]
      intro x' dx' hx' hdx' _ pr' pk' H3 hpr' hpk' G3 k3
      have s3 : Same H2 H3 := make_same hx' hdx' k3
      have n3r := upd_none (upd_none hpr')
      have n3k := upd_none (upd_none hpk')
      refine ⟨by decide, ?_⟩
      intro p4 n4
      generalize z4 : upd H3 p4 _ = H4
      obtain ⟨s4, e4⟩ := new_same z4 n4
      refine ⟨by decide, ?_⟩
      intro p5 n5
      generalize z5 : upd H4 p5 _ = H5
      obtain ⟨s5, e5⟩ := new_same z5 n5
      refine ⟨by decide, ?_⟩
      intro p6 n6
      generalize z6 : upd H5 p6 _ = H6
      obtain ⟨s6, e6⟩ := new_same z6 n6
      refine ⟨by decide, ?_⟩
      intro p7 n7
      generalize z7 : upd H6 p7 _ = H7
      obtain ⟨s7, e7⟩ := new_same z7 n7
      simp (maxSteps := 1000000) only [tNNew]
      intro p8 n8
      generalize z8 : upd H7 p8 _ = H8
      obtain ⟨s8, e8⟩ := new_same z8 n8
      intro p9 n9
      generalize z9 : upd H8 p9 _ = H9
      obtain ⟨s9, e9⟩ := new_same z9 n9
      refine ⟨by decide, ?_⟩
      intro p10 n10
      generalize z10 : upd H9 p10 _ = H10
      obtain ⟨s10, e10⟩ := new_same z10 n10
      have n2r := upd_none (upd_none hpr)
      have n2k := upd_none (upd_none hpk)
      obtain ⟨zs2, er2, _⟩ := G2.rA.row
      have ek2 := G2.rA.kep
      obtain ⟨zs3, er3, _⟩ := G3.rA.row
      have ek3 := G3.rA.kep
      have s210 : Same H2 H10 := (((((((s3.trans s4).trans s5).trans s6).trans s7).trans s8).trans s9).trans s10)
      have s310 : Same H3 H10 := ((((((s4.trans s5).trans s6).trans s7).trans s8).trans s9).trans s10)
      have oA : One w C H10 ⟨x, dx, pr, pk, p5, p8, 1 + fi % 16⟩ [] [] [] 0 := ⟨G2.same s210, row_nil (s10 _ _ (s9 _ _ (s8 _ _ (s7 _ _ (s6 _ _ e5))))) (s10 _ _ (s9 _ _ e8)), (ne_of_none (s4 _ _ (s3 _ _ er2)) n5), (ne_of_none (s7 _ _ (s6 _ _ (s5 _ _ (s4 _ _ (s3 _ _ ek2))))) n8), (fun k p h => by cases h), (fun k p h => by cases h), (show 0 ≤ 1 + fi % 16 by omega), (show 1 + fi % 16 ≤ 16 by omega)⟩
      have oB : One w C H10 ⟨x', dx', pr', pk', p6, p9, 1 + fi / 3 % 16⟩ [] [] [] 0 := ⟨G3.same s310, row_nil (s10 _ _ (s9 _ _ (s8 _ _ (s7 _ _ e6)))) (s10 _ _ e9), (ne_of_none (s5 _ _ (s4 _ _ er3)) n6), (ne_of_none (s8 _ _ (s7 _ _ (s6 _ _ (s5 _ _ (s4 _ _ ek3))))) n9), (fun k p h => by cases h), (fun k p h => by cases h), (show 0 ≤ 1 + fi / 3 % 16 by omega), (show 1 + fi / 3 % 16 ≤ 16 by omega)⟩
      have nin : ∀ {c d e f g : Addr}, c ≠ d ∧ c ≠ e ∧ c ≠ f ∧ c ≠ g → c ∉ [d, e, f, g] := fun h => by simp; exact h
      have tw : Two w C H10 ⟨x, dx, pr, pk, p5, p8, 1 + fi % 16⟩ ⟨x', dx', pr', pk', p6, p9, 1 + fi / 3 % 16⟩ [] [] [] [] [] [] 0 := by
        refine ⟨oA, oB, fun c hc => ?_, (fun k p h => by cases h), (fun k p h => by cases h), (fun k p h => by cases h), (fun k p h => by cases h)⟩
        unfold tch at hc ⊢
        simp only [List.mem_cons, List.not_mem_nil, or_false] at hc
        rcases hc with rfl | rfl | rfl | rfl
        · exact nin ⟨(ne_of_none er2 n3r), (ne_of_none er2 n3k), (ne_of_none (s5 _ _ (s4 _ _ (s3 _ _ er2))) n6), (ne_of_none (s8 _ _ (s7 _ _ (s6 _ _ (s5 _ _ (s4 _ _ (s3 _ _ er2)))))) n9)⟩
        · exact nin ⟨(ne_of_none ek2 n3r), (ne_of_none ek2 n3k), (ne_of_none (s5 _ _ (s4 _ _ (s3 _ _ ek2))) n6), (ne_of_none (s8 _ _ (s7 _ _ (s6 _ _ (s5 _ _ (s4 _ _ (s3 _ _ ek2)))))) n9)⟩
        · exact nin ⟨(Ne.symm (ne_of_none (s4 _ _ er3) n5)), (Ne.symm (ne_of_none (s4 _ _ ek3) n5)), (ne_of_none e5 n6), (ne_of_none (s8 _ _ (s7 _ _ (s6 _ _ e5))) n9)⟩
        · exact nin ⟨(Ne.symm (ne_of_none (s7 _ _ (s6 _ _ (s5 _ _ (s4 _ _ er3)))) n8)), (Ne.symm (ne_of_none (s7 _ _ (s6 _ _ (s5 _ _ (s4 _ _ ek3)))) n8)), (Ne.symm (ne_of_none (s7 _ _ e6) n8)), (ne_of_none e8 n9)⟩
      have nap := nin ⟨(ne_of_none e1 n2r), (ne_of_none e1 n2k), (ne_of_none (s4 _ _ (s3 _ _ (s2 _ _ e1))) n5), (ne_of_none (s7 _ _ (s6 _ _ (s5 _ _ (s4 _ _ (s3 _ _ (s2 _ _ e1)))))) n8)⟩
      have nbp := nin ⟨(ne_of_none (s2 _ _ e1) n3r), (ne_of_none (s2 _ _ e1) n3k), (ne_of_none (s5 _ _ (s4 _ _ (s3 _ _ (s2 _ _ e1)))) n6), (ne_of_none (s8 _ _ (s7 _ _ (s6 _ _ (s5 _ _ (s4 _ _ (s3 _ _ (s2 _ _ e1))))))) n9)⟩
      have nag := nin ⟨(Ne.symm (ne_of_none (s3 _ _ er2) n4)), (Ne.symm (ne_of_none (s3 _ _ ek2) n4)), (ne_of_none e4 n5), (ne_of_none (s7 _ _ (s6 _ _ (s5 _ _ e4))) n8)⟩
      have nbg := nin ⟨(Ne.symm (ne_of_none er3 n4)), (Ne.symm (ne_of_none ek3 n4)), (ne_of_none (s5 _ _ e4) n6), (ne_of_none (s8 _ _ (s7 _ _ (s6 _ _ (s5 _ _ e4)))) n9)⟩
      have naw := nin ⟨(Ne.symm (ne_of_none (s6 _ _ (s5 _ _ (s4 _ _ (s3 _ _ er2)))) n7)), (Ne.symm (ne_of_none (s6 _ _ (s5 _ _ (s4 _ _ (s3 _ _ ek2)))) n7)), (Ne.symm (ne_of_none (s6 _ _ e5) n7)), (ne_of_none e7 n8)⟩
      have nbw := nin ⟨(Ne.symm (ne_of_none (s6 _ _ (s5 _ _ (s4 _ _ er3))) n7)), (Ne.symm (ne_of_none (s6 _ _ (s5 _ _ (s4 _ _ ek3))) n7)), (Ne.symm (ne_of_none e6 n7)), (ne_of_none (s8 _ _ e7) n9)⟩
      have nak := nin ⟨(Ne.symm (ne_of_none (s9 _ _ (s8 _ _ (s7 _ _ (s6 _ _ (s5 _ _ (s4 _ _ (s3 _ _ er2))))))) n10)), (Ne.symm (ne_of_none (s9 _ _ (s8 _ _ (s7 _ _ (s6 _ _ (s5 _ _ (s4 _ _ (s3 _ _ ek2))))))) n10)), (Ne.symm (ne_of_none (s9 _ _ (s8 _ _ (s7 _ _ (s6 _ _ e5)))) n10)), (Ne.symm (ne_of_none (s9 _ _ e8) n10))⟩
      have nbk := nin ⟨(Ne.symm (ne_of_none (s9 _ _ (s8 _ _ (s7 _ _ (s6 _ _ (s5 _ _ (s4 _ _ er3)))))) n10)), (Ne.symm (ne_of_none (s9 _ _ (s8 _ _ (s7 _ _ (s6 _ _ (s5 _ _ (s4 _ _ ek3)))))) n10)), (Ne.symm (ne_of_none (s9 _ _ (s8 _ _ (s7 _ _ e6))) n10)), (Ne.symm (ne_of_none e9 n10))⟩
      have s010 : Same H H10 := (s1.trans s2).trans s210
      exact hR _ _ ⟨fi, ⟨p1, p4, p7, p10⟩, _, _, rfl, ⟨⟨_, _, _, _, _, _, tw⟩, ⟨(s10 _ _ (s9 _ _ (s8 _ _ (s7 _ _ (s6 _ _ (s5 _ _ (s4 _ _ (s3 _ _ (s2 _ _ e1))))))))), nap, nbp⟩, ⟨(s10 _ _ (s9 _ _ (s8 _ _ (s7 _ _ (s6 _ _ (s5 _ _ e4)))))), nag, nbg⟩, ⟨(s10 _ _ (s9 _ _ (s8 _ _ e7))), naw, nbw⟩, ⟨e10, nak, nbk⟩⟩, s010⟩
    case key =>
      rintro σ H1 ⟨fi, m, a, b, rfl, l1, s1⟩
      have hS1 := s1.seq hS
      simp (maxSteps := 1000000) only [tFor_eq, iList, tSl, rSlL, tPart, tSeq, exists_and_left, tVar, tC, List.getElem?_cons_zero, Option.some.injEq, exists_eq_left', V.int.injEq, V.ref.injEq, sg]
      refine ⟨_, hS1, ?_⟩
      obtain ⟨cs, hcs⟩ := cutV_map ns (some 1) (some 61)
      have lcs : cs.length ≤ 60 := by
        have h1 := congrArg List.length hcs
        have := cutV_60 (ns.map V.int)
        rw [List.length_map] at h1
        omega
      rw [hcs]
      intro p2 n2
      generalize z2 : upd H1 p2 _ = H2
      obtain ⟨s2, e2⟩ := new_same z2 n2
      have l2 := l1.same s2
      have P2 : Fx H2 a b p2 (cs.map V.int) := by
        obtain ⟨ka, la, kb, lb, S, T, t1⟩ := l1.two
        exact Fx.new t1 n2 e2
      refine ⟨⟨_, SqL.of e2⟩, for_list (xs := cs.map V.int) (Lw w C sc p2 fi m a b (cs.map V.int)) ⟨0, none, none, none, none, rfl, l2, Nat.le_refl _, P2⟩ ?_ ?_ ?_⟩
      · rintro i σ H' hi ⟨n, v6, v7, v8, v9, rfl, l, hn, Pc⟩
        exact SqL.of Pc.e
      · rintro i cv σ H3 hcv ⟨n, v6, v7, v8, v9, rfl, l3, hn, Pc3⟩
        rw [List.getElem?_map] at hcv
        obtain ⟨cc, hc, rfl⟩ := Option.map_eq_some_iff.mp hcv
        have hi60 : i < cs.length := (List.getElem?_eq_some_iff.mp hc).1
        refine use2 (Mb w C sc p2 fi m a b (cs.map V.int) n (.int cc) v9) ?key1 ?go1
        case go1 =>
          intro R' hR
          simp (maxSteps := 1000000) only [rGet, Int.reduceLT, List.cons.injEq, rEq_ii, tSeq, exists_and_left, tOp, tVar, tC, rI, tAsg, gName, tCall, tCons, tNil, tCB, List.getElem?_cons_zero, List.getElem?_cons_succ, List.set_cons_zero, List.set_cons_succ, Option.some.injEq, exists_eq_left', V.int.injEq, V.bl.injEq, exists_const, and_true, true_and, reduceCtorEq, false_and, false_or, List.append_nil, sg]
          refine ⟨_, _, _, rfl, by decide, by decide, by decide, by decide, fun pd ds H4 hpd epd hdl hdv s4 => ?_⟩
          have hl6 : ds.length = 6 := by omega
          have P4 : Fx H4 a b pd (ds.map V.int) := by
            obtain ⟨ka, la, kb, lb, S, T, t3⟩ := l3.two
            exact Fx.new t3 hpd epd
          obtain ⟨d0, d1, d2, d3, d4, d5, rfl⟩ := six hl6
          simp (maxSteps := 1000000) only [getO_l, List.map_cons, List.map_nil, Option.some.injEq, exists_eq_left', V.ref.injEq, epd]
          refine ⟨_, rfl, d5, rfl, hR _ _ ⟨pd, _, _, rfl, l3.same s4, Pc3.same s4, P4, rfl, fun d hd => (hdv d hd).1, ?_⟩⟩
          split
          · exact .inr rfl
          · exact .inl rfl
        case key1 =>
          rintro σ H4 ⟨pd, ds, at', rfl, l4, Pc4, Pd4, hl6, hd0, hat⟩
          refine use1 (Mc w C sc p2 fi m a b (cs.map V.int) (n + 1) (.int cc) (.ref pd) (.int at') v9) ?key2 ?go2
          case go2 =>
            intro R' hR
            have eg := l4.fg.e
            have ew := l4.fw.e
            have ek := l4.fk.e
            have ep := l4.fp.e
            obtain ⟨ka, la, kb, lb, S, T, t4⟩ := l4.two
            rcases hat with rfl | rfl
            · simp (maxSteps := 1000000) only [rGet, getO_l, tTruX, atI_0, tSeq, exists_and_left, tIfS, tNot, tOp, tVar, tC, tRet, tNext, tCall, tCons, tNil, List.getElem?_cons_zero, List.getElem?_cons_succ, Option.some.injEq, exists_eq_left', V.ref.injEq, List.append_nil, sg, eg, ew, ek, ep]
              exact ⟨a, ka, la, S, n, pd, ds, fi, rfl, t4.oA, by omega, Pd4.e, hl6, hd0, fun kvs' kvl' S' H5 o5 f1 f2 k5 => ⟨true, rfl, iteF (hR _ _ ⟨rfl, l4.stepA t4 o5 f1 f2 k5 (Nat.le_succ n), Pc4.step k5⟩)⟩⟩
            · simp (maxSteps := 1000000) only [rGet, getO_l, tTruX, atI_1, tSeq, exists_and_left, tIfS, tNot, tOp, tVar, tC, tRet, tNext, tCall, tCons, tNil, List.getElem?_cons_zero, List.getElem?_cons_succ, Option.some.injEq, exists_eq_left', V.ref.injEq, List.append_nil, sg, eg, ew, ek, ep]
              exact ⟨b, kb, lb, T, n, pd, ds, fi, rfl, t4.oB, by omega, Pd4.e, hl6, hd0, fun kvs' kvl' S' H5 o5 f1 f2 k5 => ⟨true, rfl, iteF (hR _ _ ⟨rfl, l4.stepB t4 o5 f1 f2 k5 (Nat.le_succ n), (Pc4.swap.step k5).swap⟩)⟩⟩
          case key2 =>
            rintro σ H5 ⟨rfl, l5, Pc5⟩
            simp (maxSteps := 1000000) only [tFor_eq, iRng1, List.cons.injEq, tC, tCons, tNil, exists_eq_left', V.int.injEq, and_true, sg]
            refine ⟨by decide, by decide, for_range (n := 2) (Md w C sc p2 fi m a b (cs.map V.int) (n + 1) (.int cc) (.ref pd) (.int at')) ⟨v9, rfl, l5, Pc5⟩ ?_ ?_⟩
            · rintro j σ H6 hj ⟨u9, rfl, l6, Pc6⟩
              have eg := l6.fg.e
              have ew := l6.fw.e
              have ek := l6.fk.e
              obtain ⟨ka, la, kb, lb, S, T, t6⟩ := l6.two
              have hj01 : j = 0 ∨ j = 1 := by omega
              rcases hj01 with rfl | rfl
              · simp (maxSteps := 1000000) only [rGet, getO_l, tTruX, Nat.reduceAdd, exists_and_left, tIfS, tNot, tOp, tVar, tC, tRet, gName, tNext, tCall, tCons, tNil, List.getElem?_cons_zero, List.getElem?_cons_succ, List.set_cons_zero, List.set_cons_succ, Option.some.injEq, exists_eq_left', V.ref.injEq, List.append_nil, sg, eg, ew, ek]
                refine ⟨_, rfl, _, rfl, _, rfl, a.x, a.dx, a.pr, a.pk, a.qr, a.qk, a.pl, _, _, _, _, rfl, t6.oA.gt, t6.oA.lw, by omega, fun H7 s7 => ⟨true, rfl, iteF ⟨_, rfl, l6.same s7, Pc6.same s7⟩⟩⟩
              · simp (maxSteps := 1000000) only [rGet, getO_l, tTruX, Nat.reduceAdd, exists_and_left, tIfS, tNot, tOp, tVar, tC, tRet, gName, tNext, tCall, tCons, tNil, List.getElem?_cons_zero, List.getElem?_cons_succ, List.set_cons_zero, List.set_cons_succ, Option.some.injEq, exists_eq_left', V.ref.injEq, List.append_nil, sg, eg, ew, ek]
                refine ⟨_, rfl, _, rfl, _, rfl, b.x, b.dx, b.pr, b.pk, b.qr, b.qk, b.pl, _, _, _, _, rfl, t6.oB.gt, t6.oB.lw, by omega, fun H7 s7 => ⟨true, rfl, iteF ⟨_, rfl, l6.same s7, Pc6.same s7⟩⟩⟩
            · rintro σ H6 ⟨u9, rfl, l6, Pc6⟩
              exact ⟨n + 1, _, _, _, _, rfl, l6, by omega, Pc6⟩
      · rintro σ H3 ⟨n, v6, v7, v8, v9, rfl, l3, hn, Pc3⟩
        have hn60 : n ≤ 60 := by rw [List.length_map] at hn; omega
        simp (maxSteps := 1000000) only [tFor_eq, iRng1, List.cons.injEq, tSeq, tC, tCons, tNil, exists_eq_left', V.int.injEq, and_true, sg]
        refine ⟨by decide, by decide, for_range (n := 2) (Me w C sc fi m a b n v6 v7 v8) ⟨v9, rfl, l3⟩ ?_ ?_⟩
        · rintro j σ H4 hj ⟨u9, rfl, l4⟩
          have eg := l4.fg.e
          have ew := l4.fw.e
          have ek := l4.fk.e
          obtain ⟨ka, la, kb, lb, S, T, t4⟩ := l4.two
          have hj01 : j = 0 ∨ j = 1 := by omega
          rcases hj01 with rfl | rfl
          · refine use1 (fun σ' H' => σ' = sg sc fi m v6 v7 v8 (some (.int (0 + ((0 : Nat) : Int)))) ∧ ∃ ka la, Al w C H' m a b n ∧ Two w C H' a b ka la kb lb [] T n) ?keyA0 ?goA0
            case goA0 =>
              intro R' hR
              simp (maxSteps := 1000000) only [rGet, getO_l, Nat.reduceAdd, tMeth, tSeq, exists_and_left, tIfS, tTest, tOp, tVar, tC, tRet, tNext, tCall, tCons, tNil, List.getElem?_cons_zero, List.getElem?_cons_succ, List.set_cons_zero, List.set_cons_succ, Option.some.injEq, exists_eq_left', V.ref.injEq, List.append_nil, sg, eg]
              have o4 := t4.oA
              have pl0 := o4.p0
              have pl1 := o4.p1
              refine ⟨_, rfl, a.x, rfl, _, _, o4.gt.ins, by simp [T_Gate.cl, T_Gate.no "places" (by decide), T_Gate.no "row" (by decide), T_Gate.no "kept" (by decide), fs_Gate_places, fs_Gate_row, fs_Gate_kept, fn_Gate___init__, fn_Gate_put, fn_Gate_out, fn_Gate_give_one, fn_Gate_waiting, fn_Gate_waits, fl_Gate, fp_Gate_places, fp_Gate_row, fp_Gate_kept, fq_Gate_0, fq_Gate_1, fq_Gate_2], a.x, a.dx, a.pr, a.pk, a.pl, ka, S, n, 1000, rfl, o4.gt, by omega, pl0, by omega, by decide, fun p5 xs5 k5s H5 n5 e5 i5 G5 f5 k5 ho5 => ?_⟩
              have off2 : ∀ c, c ∉ tch a → c ∉ [a.pr, a.pk] := fun c h => by
                unfold tch at h
                simp at h ⊢
                exact ⟨h.1, h.2.1⟩
              have ew5 := k5 _ _ ew (off2 _ l4.fw.na)
              have ek5 := k5 _ _ ek (off2 _ l4.fk.na)
              refine ⟨_, ew5, _, rfl, _, ek5, _, rfl, a.qr, a.qk, a.pl, la, S, n, 1000, rfl, o4.lw1 k5, by omega, pl0, by omega, by decide, fun p6 xs6 l6s H6 n6 e6 i6 L6 f6 k6 => ?_⟩
              obtain ⟨g1, g2, g3⟩ := o4.step G5 f5 k5 L6 f6 k6
              obtain ⟨ys, el, _⟩ := o4.lw.row
              have hp5 : p5 ∉ [a.qr, a.qk] := by
                simp only [List.mem_cons, List.not_mem_nil, or_false, not_or]
                exact ⟨Ne.symm (ne_of_none el n5), Ne.symm (ne_of_none o4.lw.kep n5)⟩
              have e56 := k6 _ _ e5 hp5
              have i56 := i5.keep k6 (o4.lw1 k5).noT
              have hE : (outS 1000 S).2 = [] := outS_all o4.gt.rA.ok (by
                have h1 := o4.gt.rA.total
                have h2 : n * a.pl.toNat ≤ 60 * 16 := Nat.mul_le_mul hn60 (by omega)
                omega)
              rw [hE] at g1
              exact neX_same (.l e56 i56) (.l e6 i6) (Nat.le_trans (lst_dep (outS_dep o4.gt.rA.ok)) (by decide)) ⟨false, rfl, iteF (hR _ _ ⟨rfl, k5s, l6s, l4.stepA t4 g1 f5 g2 g3 (Nat.le_refl n), t4.step g1 f5 g2 g3 (Nat.le_refl n)⟩)⟩
            case keyA0 =>
              rintro σ' H5 ⟨rfl, k5s, l5s, l5, t5⟩
              have eg5 := l5.fg.e
              have o5 := t5.oA
              have pl0 := o5.p0
              have pl1 := o5.p1
              simp (maxSteps := 1000000) only [rGet, getO_l, Nat.reduceAdd, tMeth, exists_and_left, if_true, tIfS, tOr, tTest, tOp, tVar, tC, tRet, tNext, tCons, tNil, tLst, List.length_nil, List.getElem?_cons_zero, List.getElem?_cons_succ, Option.some.injEq, exists_eq_left', V.ref.injEq, List.append_nil, sg, eg5]
              refine ⟨_, rfl, a.x, rfl, _, _, o5.gt.ins, by simp [T_Gate.cl, T_Gate.no "places" (by decide), T_Gate.no "row" (by decide), T_Gate.no "kept" (by decide), fs_Gate_places, fs_Gate_row, fs_Gate_kept, fn_Gate___init__, fn_Gate_put, fn_Gate_out, fn_Gate_give_one, fn_Gate_waiting, fn_Gate_waits, fl_Gate, fp_Gate_places, fp_Gate_row, fp_Gate_kept, fq_Gate_0, fq_Gate_1, fq_Gate_2], a.x, a.dx, a.pr, a.pk, a.pl, _, _, n, 5, rfl, o5.gt, by omega, pl0, by omega, by decide, fun p6 xs6 k6s H6 n6 e6 i6 G6 f6 k6 ho6 => ?_⟩
              have hE : outS 5 ([] : Rw) = ([], []) := rfl
              rw [hE] at i6 G6
              cases i6
              refine ⟨by decide, ?_⟩
              intro p7 n7
              generalize z7 : upd H6 p7 _ = H7
              obtain ⟨s7, e7⟩ := new_same z7 n7
              have off2 : ∀ c, c ∉ tch a → c ∉ [a.pr, a.pk] := fun c h => by
                unfold tch at h
                simp at h ⊢
                exact ⟨h.1, h.2.1⟩
              have eg7 := s7 _ _ (k6 _ _ eg5 (off2 _ l5.fg.na))
              obtain ⟨g1, g2, g3⟩ := o5.step G6 f6 k6 (o5.lw1 k6) Frs.refl Keep.refl
              have l7 := (l5.stepA t5 g1 f6 g2 g3 (Nat.le_refl n)).same s7
              have G7 := G6.same s7
              refine ⟨p6, p7, [], rfl, rfl, s7 _ _ e6, e7, false, rfl, iteF ⟨_, eg7, _, rfl, a.x, rfl, _, _, G7.ins, by simp [T_Gate.cl, T_Gate.no "places" (by decide), T_Gate.no "row" (by decide), T_Gate.no "kept" (by decide), fs_Gate_places, fs_Gate_row, fs_Gate_kept, fn_Gate___init__, fn_Gate_put, fn_Gate_out, fn_Gate_give_one, fn_Gate_waiting, fn_Gate_waits, fl_Gate, fp_Gate_places, fp_Gate_row, fp_Gate_kept, fq_Gate_0, fq_Gate_1, fq_Gate_2], a.x, a.dx, a.pr, a.pk, a.pl, _, _, n, rfl, G7, fun p8 xs8 H8 n8 e8 i8 s8 => ⟨by decide, ?_⟩⟩⟩
              cases i8
              intro p9 n9
              generalize z9 : upd H8 p9 _ = H9
              obtain ⟨s9, e9⟩ := new_same z9 n9
              exact ⟨p8, p9, [], rfl, rfl, s9 _ _ e8, e9, false, rfl, iteF ⟨_, rfl, (l7.same s8).same s9⟩⟩
          · refine use1 (fun σ' H' => σ' = sg sc fi m v6 v7 v8 (some (.int (0 + ((1 : Nat) : Int)))) ∧ ∃ kb lb, Al w C H' m a b n ∧ Two w C H' a b ka la kb lb S [] n) ?keyA1 ?goA1
            case goA1 =>
              intro R' hR
              simp (maxSteps := 1000000) only [rGet, getO_l, Nat.reduceAdd, tMeth, tSeq, exists_and_left, tIfS, tTest, tOp, tVar, tC, tRet, tNext, tCall, tCons, tNil, List.getElem?_cons_zero, List.getElem?_cons_succ, List.set_cons_zero, List.set_cons_succ, Option.some.injEq, exists_eq_left', V.ref.injEq, List.append_nil, sg, eg]
              have o4 := t4.oB
              have pl0 := o4.p0
              have pl1 := o4.p1
              refine ⟨_, rfl, b.x, rfl, _, _, o4.gt.ins, by simp [T_Gate.cl, T_Gate.no "places" (by decide), T_Gate.no "row" (by decide), T_Gate.no "kept" (by decide), fs_Gate_places, fs_Gate_row, fs_Gate_kept, fn_Gate___init__, fn_Gate_put, fn_Gate_out, fn_Gate_give_one, fn_Gate_waiting, fn_Gate_waits, fl_Gate, fp_Gate_places, fp_Gate_row, fp_Gate_kept, fq_Gate_0, fq_Gate_1, fq_Gate_2], b.x, b.dx, b.pr, b.pk, b.pl, kb, T, n, 1000, rfl, o4.gt, by omega, pl0, by omega, by decide, fun p5 xs5 k5s H5 n5 e5 i5 G5 f5 k5 ho5 => ?_⟩
              have off2 : ∀ c, c ∉ tch b → c ∉ [b.pr, b.pk] := fun c h => by
                unfold tch at h
                simp at h ⊢
                exact ⟨h.1, h.2.1⟩
              have ew5 := k5 _ _ ew (off2 _ l4.fw.nb)
              have ek5 := k5 _ _ ek (off2 _ l4.fk.nb)
              refine ⟨_, ew5, _, rfl, _, ek5, _, rfl, b.qr, b.qk, b.pl, lb, T, n, 1000, rfl, o4.lw1 k5, by omega, pl0, by omega, by decide, fun p6 xs6 l6s H6 n6 e6 i6 L6 f6 k6 => ?_⟩
              obtain ⟨g1, g2, g3⟩ := o4.step G5 f5 k5 L6 f6 k6
              obtain ⟨ys, el, _⟩ := o4.lw.row
              have hp5 : p5 ∉ [b.qr, b.qk] := by
                simp only [List.mem_cons, List.not_mem_nil, or_false, not_or]
                exact ⟨Ne.symm (ne_of_none el n5), Ne.symm (ne_of_none o4.lw.kep n5)⟩
              have e56 := k6 _ _ e5 hp5
              have i56 := i5.keep k6 (o4.lw1 k5).noT
              have hE : (outS 1000 T).2 = [] := outS_all o4.gt.rA.ok (by
                have h1 := o4.gt.rA.total
                have h2 : n * b.pl.toNat ≤ 60 * 16 := Nat.mul_le_mul hn60 (by omega)
                omega)
              rw [hE] at g1
              exact neX_same (.l e56 i56) (.l e6 i6) (Nat.le_trans (lst_dep (outS_dep o4.gt.rA.ok)) (by decide)) ⟨false, rfl, iteF (hR _ _ ⟨rfl, k5s, l6s, l4.stepB t4 g1 f5 g2 g3 (Nat.le_refl n), (t4.swap.step g1 f5 g2 g3 (Nat.le_refl n)).swap⟩)⟩
            case keyA1 =>
              rintro σ' H5 ⟨rfl, k5s, l5s, l5, t5⟩
              have eg5 := l5.fg.e
              have o5 := t5.oB
              have pl0 := o5.p0
              have pl1 := o5.p1
              simp (maxSteps := 1000000) only [rGet, getO_l, Nat.reduceAdd, tMeth, exists_and_left, if_true, tIfS, tOr, tTest, tOp, tVar, tC, tRet, tNext, tCons, tNil, tLst, List.length_nil, List.getElem?_cons_zero, List.getElem?_cons_succ, Option.some.injEq, exists_eq_left', V.ref.injEq, List.append_nil, sg, eg5]
              refine ⟨_, rfl, b.x, rfl, _, _, o5.gt.ins, by simp [T_Gate.cl, T_Gate.no "places" (by decide), T_Gate.no "row" (by decide), T_Gate.no "kept" (by decide), fs_Gate_places, fs_Gate_row, fs_Gate_kept, fn_Gate___init__, fn_Gate_put, fn_Gate_out, fn_Gate_give_one, fn_Gate_waiting, fn_Gate_waits, fl_Gate, fp_Gate_places, fp_Gate_row, fp_Gate_kept, fq_Gate_0, fq_Gate_1, fq_Gate_2], b.x, b.dx, b.pr, b.pk, b.pl, _, _, n, 5, rfl, o5.gt, by omega, pl0, by omega, by decide, fun p6 xs6 k6s H6 n6 e6 i6 G6 f6 k6 ho6 => ?_⟩
              have hE : outS 5 ([] : Rw) = ([], []) := rfl
              rw [hE] at i6 G6
              cases i6
              refine ⟨by decide, ?_⟩
              intro p7 n7
              generalize z7 : upd H6 p7 _ = H7
              obtain ⟨s7, e7⟩ := new_same z7 n7
              have off2 : ∀ c, c ∉ tch b → c ∉ [b.pr, b.pk] := fun c h => by
                unfold tch at h
                simp at h ⊢
                exact ⟨h.1, h.2.1⟩
              have eg7 := s7 _ _ (k6 _ _ eg5 (off2 _ l5.fg.nb))
              obtain ⟨g1, g2, g3⟩ := o5.step G6 f6 k6 (o5.lw1 k6) Frs.refl Keep.refl
              have l7 := (l5.stepB t5 g1 f6 g2 g3 (Nat.le_refl n)).same s7
              have G7 := G6.same s7
              refine ⟨p6, p7, [], rfl, rfl, s7 _ _ e6, e7, false, rfl, iteF ⟨_, eg7, _, rfl, b.x, rfl, _, _, G7.ins, by simp [T_Gate.cl, T_Gate.no "places" (by decide), T_Gate.no "row" (by decide), T_Gate.no "kept" (by decide), fs_Gate_places, fs_Gate_row, fs_Gate_kept, fn_Gate___init__, fn_Gate_put, fn_Gate_out, fn_Gate_give_one, fn_Gate_waiting, fn_Gate_waits, fl_Gate, fp_Gate_places, fp_Gate_row, fp_Gate_kept, fq_Gate_0, fq_Gate_1, fq_Gate_2], b.x, b.dx, b.pr, b.pk, b.pl, _, _, n, rfl, G7, fun p8 xs8 H8 n8 e8 i8 s8 => ⟨by decide, ?_⟩⟩⟩
              cases i8
              intro p9 n9
              generalize z9 : upd H8 p9 _ = H9
              obtain ⟨s9, e9⟩ := new_same z9 n9
              exact ⟨p8, p9, [], rfl, rfl, s9 _ _ e8, e9, false, rfl, iteF ⟨_, rfl, (l7.same s8).same s9⟩⟩
        · rintro σ H4 ⟨u9, rfl, l4⟩
          simp (maxSteps := 1000000) only [tC, tRet]
          exact q H4
end
end K31
namespace K31
open PySem L2
section
variable {P : Program} {w : World} {K : PySem.W.Frag} {mg : Str → Option Value} {C : Addr}
theorem mk_Gate {h : Heap} (X : K.In h) (G : h.Ns mainGlobals mg) {C f0 f1 f2 f3 f4 f5 : Addr} {od0 an0 od1 an1 od2 an2 od3 an3 od4 an4 od5 an5 : Option Addr} {sl0 sl1 sl2 sl3 sl4 sl5 : Array (Option Value)} {oc0 kV0 dc0 pm0 cd0 ct0 oc1 kV1 dc1 pm1 cd1 ct1 oc2 kV2 dc2 pm2 cd2 ct2 oc3 kV3 dc3 pm3 cd3 ct3 oc4 kV4 dc4 pm4 cd4 ct4 oc5 kV5 dc5 pm5 cd5 ct5 : Value}
    (aC : PySem.W.nsIn K mainGlobals "Gate" = some (some (.ref C))) (pg : PySem.W.plainGet K C Str.empty = true) (hd : PySem.W.hasDictIn K C = true) (po : PySem.W.plainOver K C = true) (sa : PySem.W.findIn K (.ref C) "__setattr__" = some (some (.builtin "object.__setattr__")))
    (n0 : PySem.W.findIn K (.ref C) "places" = some none) (n1 : PySem.W.findIn K (.ref C) "row" = some none) (n2 : PySem.W.findIn K (.ref C) "kept" = some none) (mk : PySem.W.makesIn K C = true) (kc : PySem.W.keepIn K (.ref C) = true)
    (a0 : PySem.W.findIn K (.ref C) "__init__" = some (some (.ref f0))) (i0 : PySem.W.isFn K (.ref f0) = true) (l0 : K.lookup f0 = some ⟨oc0, od0, .func (PySem.W.fnOf "__init__" "Gate.__init__" (defArgs s_Gate___init__) (defBody s_Gate___init__) (defScope s_Gate___init__) .none kV0 dc0 pm0 an0 cd0 ct0), sl0⟩) (c0 : PySem.W.codeIn K cd0 "Gate.__init__" = true) (k0 : PySem.W.keepIn K (.ref f0) = true)
    (a1 : PySem.W.findIn K (.ref C) "put" = some (some (.ref f1))) (i1 : PySem.W.isFn K (.ref f1) = true) (l1 : K.lookup f1 = some ⟨oc1, od1, .func (PySem.W.fnOf "put" "Gate.put" (defArgs s_Gate_put) (defBody s_Gate_put) (defScope s_Gate_put) .none kV1 dc1 pm1 an1 cd1 ct1), sl1⟩) (c1 : PySem.W.codeIn K cd1 "Gate.put" = true) (k1 : PySem.W.keepIn K (.ref f1) = true)
    (a2 : PySem.W.findIn K (.ref C) "out" = some (some (.ref f2))) (i2 : PySem.W.isFn K (.ref f2) = true) (l2 : K.lookup f2 = some ⟨oc2, od2, .func (PySem.W.fnOf "out" "Gate.out" (defArgs s_Gate_out) (defBody s_Gate_out) (defScope s_Gate_out) .none kV2 dc2 pm2 an2 cd2 ct2), sl2⟩) (c2 : PySem.W.codeIn K cd2 "Gate.out" = true) (k2 : PySem.W.keepIn K (.ref f2) = true)
    (a3 : PySem.W.findIn K (.ref C) "give_one" = some (some (.ref f3))) (i3 : PySem.W.isFn K (.ref f3) = true) (l3 : K.lookup f3 = some ⟨oc3, od3, .func (PySem.W.fnOf "give_one" "Gate.give_one" (defArgs s_Gate_give_one) (defBody s_Gate_give_one) (defScope s_Gate_give_one) .none kV3 dc3 pm3 an3 cd3 ct3), sl3⟩) (c3 : PySem.W.codeIn K cd3 "Gate.give_one" = true) (k3 : PySem.W.keepIn K (.ref f3) = true)
    (a4 : PySem.W.findIn K (.ref C) "waiting" = some (some (.ref f4))) (i4 : PySem.W.isFn K (.ref f4) = true) (l4 : K.lookup f4 = some ⟨oc4, od4, .func (PySem.W.fnOf "waiting" "Gate.waiting" (defArgs s_Gate_waiting) (defBody s_Gate_waiting) (defScope s_Gate_waiting) .none kV4 dc4 pm4 an4 cd4 ct4), sl4⟩) (c4 : PySem.W.codeIn K cd4 "Gate.waiting" = true) (k4 : PySem.W.keepIn K (.ref f4) = true)
    (a5 : PySem.W.findIn K (.ref C) "waits" = some (some (.ref f5))) (i5 : PySem.W.isFn K (.ref f5) = true) (l5 : K.lookup f5 = some ⟨oc5, od5, .func (PySem.W.fnOf "waits" "Gate.waits" (defArgs s_Gate_waits) (defBody s_Gate_waits) (defScope s_Gate_waits) .none kV5 dc5 pm5 an5 cd5 ct5), sl5⟩) (c5 : PySem.W.codeIn K cd5 "Gate.waits" = true) (k5 : PySem.W.keepIn K (.ref f5) = true)
    : ∃ C, ClsD K mg "Gate" C at_Gate ∧ DefI K C "Gate.__init__" s_Gate___init__ ∧ DefM K C "put" "Gate.put" s_Gate_put ∧ DefM K C "out" "Gate.out" s_Gate_out ∧ DefM K C "give_one" "Gate.give_one" s_Gate_give_one ∧ DefM K C "waiting" "Gate.waiting" s_Gate_waiting ∧ DefM K C "waits" "Gate.waits" s_Gate_waits := by
  refine ⟨C, ⟨PySem.W.mg_of X G aC, ⟨pg, hd, po, sa⟩, fun f hf => ?_⟩, defI_mk a0 i0 l0 c0 k0 mk kc, defM_mk a1 i1 l1 c1 k1, defM_mk a2 i2 l2 c2 k2, defM_mk a3 i3 l3 c3 k3, defM_mk a4 i4 l4 c4 k4, defM_mk a5 i5 l5 c5 k5⟩
  simp only [List.mem_cons, List.not_mem_nil, or_false] at hf
  rcases hf with rfl | rfl | rfl
  · exact n0
  · exact n1
  · exact n2
theorem last {fa : Addr} (E1 : DefI K C "Gate.__init__" s_Gate___init__) (E2 : DefM K C "put" "Gate.put" s_Gate_put) (E3 : DefM K C "out" "Gate.out" s_Gate_out) (E4 : DefM K C "give_one" "Gate.give_one" s_Gate_give_one) (E5 : DefM K C "waiting" "Gate.waiting" s_Gate_waiting) (E6 : DefM K C "waits" "Gate.waits" s_Gate_waits)
    (D0 : Def K mg "own_copy" s_own_copy) (D1 : Def K mg "_law_cell_at" s__law_cell_at) (D2 : Def K mg "_law_digits" s__law_digits) (D3 : Def K mg "_law_key" s__law_key) (D4 : Def K mg "_law_parcel" s__law_parcel) (D5 : Def K mg "_law_put" s__law_put) (D6 : Def K mg "_law_out" s__law_out) (D7 : Def K mg "_law_right" s__law_right) (D8 : Def K mg "_law_does" s__law_does) (DE : Def K mg "law" s_law)
    (T : ClsD K mg "Gate" C at_Gate) (hb : Blt mg) (hmg : mg "law" = some (.ref fa)) :
    ∃ fd : FuncData, (∀ (s : Shared) (u : Value), BindsTo s fd ⟨[u], []⟩ [("_law_script", u)]) ∧ ∀ base : Heap, K.In base → base.Ns mainGlobals mg → FnOk P w K mg base CX0 9 fa fd ["_law_script"] (sp_law K) := by
  obtain ⟨f, fd, hm, F⟩ := DE
  have e := hmg.symm.trans hm
  cases e
  refine ⟨fd, ?_, fun base _ _ => ?_⟩
  · obtain ⟨oc, od, kV, doc, pm, an, cdv, ct, osl, rfl, lk, hcd⟩ := F.ex
    exact fun s u => .of_eq rfl
  · exact law_fn F hb T (own_ginit E1 T) (own_waiting E5 hb T) (own_out E3 hb T (own_give E4 hb T)) (own_cell D1 hb) (own_digits D2 hb) (own_does D8 hb T (own_put E2 hb T (own_cpy D0 hb 5)) (own_out E3 hb T (own_give E4 hb T)) (own_key D3 hb) (own_parcel D4 hb) (own_lput D5 hb) (own_lout D6 hb)) (own_right D7 hb T (own_waiting E5 hb T) (own_waits E6 hb T) (own_key D3 hb)) (own_lout D6 hb)
end
end K31
open PySem PySem.W PyProof.Rows
set_option maxHeartbeats 0 in
theorem PySem.Challenge.cw_roadnet_k31_what_waits_at_a_gate_holds : PySem.Challenge.rw_roadnet_k31_what_waits_at_a_gate.Holds := by
  w_on; o_law; k_head; (case hw => w_witness2)
  k_fill
  refine L2.walk_ofK (l := PySem.Challenge.rw_roadnet_k31_what_waits_at_a_gate) (n := 63) (k := 9) (x := "_law_script") (CX := L2.CX0) (sp := K31.sp_law) rfl (by decide) rfl ⟨rfl, by decide, by decide⟩ (fun w h Y => PySem.W.kIn_of Y) ?F (fun _ _ a ns hl _ hS => ⟨a, ns, rfl, hS, hl, fun _ => rfl⟩) fun _ _ _ _ z => z
  case F =>
    intro w mg fa h KX G hmg
    have D_own_copy : L2.Def (L2.KOf KX) mg "own_copy" K31.s_own_copy := by
      dsimp only [L2.KOf]
      refine' L2.def_mk KX G ?a ?l ?c ?k
      (case a => k_is); (case l => k_is); (case c => k_is); (case k => k_is)
    have D__law_cell_at : L2.Def (L2.KOf KX) mg "_law_cell_at" K31.s__law_cell_at := by
      dsimp only [L2.KOf]
      refine' L2.def_mk KX G ?a ?l ?c ?k
      (case a => k_is); (case l => k_is); (case c => k_is); (case k => k_is)
    have D__law_digits : L2.Def (L2.KOf KX) mg "_law_digits" K31.s__law_digits := by
      dsimp only [L2.KOf]
      refine' L2.def_mk KX G ?a ?l ?c ?k
      (case a => k_is); (case l => k_is); (case c => k_is); (case k => k_is)
    have D__law_key : L2.Def (L2.KOf KX) mg "_law_key" K31.s__law_key := by
      dsimp only [L2.KOf]
      refine' L2.def_mk KX G ?a ?l ?c ?k
      (case a => k_is); (case l => k_is); (case c => k_is); (case k => k_is)
    have D__law_parcel : L2.Def (L2.KOf KX) mg "_law_parcel" K31.s__law_parcel := by
      dsimp only [L2.KOf]
      refine' L2.def_mk KX G ?a ?l ?c ?k
      (case a => k_is); (case l => k_is); (case c => k_is); (case k => k_is)
    have D__law_put : L2.Def (L2.KOf KX) mg "_law_put" K31.s__law_put := by
      dsimp only [L2.KOf]
      refine' L2.def_mk KX G ?a ?l ?c ?k
      (case a => k_is); (case l => k_is); (case c => k_is); (case k => k_is)
    have D__law_out : L2.Def (L2.KOf KX) mg "_law_out" K31.s__law_out := by
      dsimp only [L2.KOf]
      refine' L2.def_mk KX G ?a ?l ?c ?k
      (case a => k_is); (case l => k_is); (case c => k_is); (case k => k_is)
    have D__law_right : L2.Def (L2.KOf KX) mg "_law_right" K31.s__law_right := by
      dsimp only [L2.KOf]
      refine' L2.def_mk KX G ?a ?l ?c ?k
      (case a => k_is); (case l => k_is); (case c => k_is); (case k => k_is)
    have D__law_does : L2.Def (L2.KOf KX) mg "_law_does" K31.s__law_does := by
      dsimp only [L2.KOf]
      refine' L2.def_mk KX G ?a ?l ?c ?k
      (case a => k_is); (case l => k_is); (case c => k_is); (case k => k_is)
    have D_law : L2.Def (L2.KOf KX) mg "law" K31.s_law := by
      dsimp only [L2.KOf]
      refine' L2.def_mk KX G ?a ?l ?c ?k
      (case a => k_is); (case l => k_is); (case c => k_is); (case k => k_is)
    have Z_Gate : ∃ C, L2.ClsD (L2.KOf KX) mg "Gate" C K31.at_Gate ∧ L2.DefI (L2.KOf KX) C "Gate.__init__" K31.s_Gate___init__ ∧ L2.DefM (L2.KOf KX) C "put" "Gate.put" K31.s_Gate_put ∧ L2.DefM (L2.KOf KX) C "out" "Gate.out" K31.s_Gate_out ∧ L2.DefM (L2.KOf KX) C "give_one" "Gate.give_one" K31.s_Gate_give_one ∧ L2.DefM (L2.KOf KX) C "waiting" "Gate.waiting" K31.s_Gate_waiting ∧ L2.DefM (L2.KOf KX) C "waits" "Gate.waits" K31.s_Gate_waits := by
      dsimp only [L2.KOf]
      refine' K31.mk_Gate KX G ?aC ?pg ?hd ?po ?sa ?n0 ?n1 ?n2 ?mk ?kc ?a0 ?i0 ?l0 ?c0 ?k0 ?a1 ?i1 ?l1 ?c1 ?k1 ?a2 ?i2 ?l2 ?c2 ?k2 ?a3 ?i3 ?l3 ?c3 ?k3 ?a4 ?i4 ?l4 ?c4 ?k4 ?a5 ?i5 ?l5 ?c5 ?k5
      (case aC => k_is)
      (case pg => k_is)
      (case hd => k_is)
      (case po => k_is)
      (case sa => k_is)
      (case n0 => k_is)
      (case n1 => k_is)
      (case n2 => k_is)
      (case mk => k_is)
      (case kc => k_is)
      (case a0 => k_is)
      (case i0 => k_is)
      (case l0 => k_is)
      (case c0 => k_is)
      (case k0 => k_is)
      (case a1 => k_is)
      (case i1 => k_is)
      (case l1 => k_is)
      (case c1 => k_is)
      (case k1 => k_is)
      (case a2 => k_is)
      (case i2 => k_is)
      (case l2 => k_is)
      (case c2 => k_is)
      (case k2 => k_is)
      (case a3 => k_is)
      (case i3 => k_is)
      (case l3 => k_is)
      (case c3 => k_is)
      (case k3 => k_is)
      (case a4 => k_is)
      (case i4 => k_is)
      (case l4 => k_is)
      (case c4 => k_is)
      (case k4 => k_is)
      (case a5 => k_is)
      (case i5 => k_is)
      (case l5 => k_is)
      (case c5 => k_is)
      (case k5 => k_is)
    obtain ⟨C_Gate, T_Gate, DI_Gate, DM_Gate_put, DM_Gate_out, DM_Gate_give_one, DM_Gate_waiting, DM_Gate_waits⟩ := Z_Gate
    have hb : L2.Blt mg := by
      refine' L2.blt_mk (K := L2.KOf KX) KX G ?b1 ?b2 ?b3 ?b4 ?b5 ?b6 ?b7 ?b8 ?b9 ?b10 ?b11 ?b12 ?b13
      all_goals (dsimp only [L2.KOf]; k_is)
    exact K31.last DI_Gate DM_Gate_put DM_Gate_out DM_Gate_give_one DM_Gate_waiting DM_Gate_waits D_own_copy D__law_cell_at D__law_digits D__law_key D__law_parcel D__law_put D__law_out D__law_right D__law_does D_law T_Gate hb hmg
#print axioms PySem.Challenge.cw_roadnet_k31_what_waits_at_a_gate_holds
