import PyProof.Rows.All
import Wide.All
import OpenK.AllK
import Wide.FinOn
import Lean
import PyProof.EqAt
import PyProof.EqKinds
import PyProof.TupleCall
import PyProof.NeData
import PyProof.EqLayable
import PyProof.ConsumeWalk
import PyProof.StrWalks
import PyProof.FString5
import PyProof.CallStr
import KE.KDictList
import KE.KDictSum
import PyProof.Rows.SortWalk
import PyProof.ListRange
import PyProof.EnumFor
import PyProof.EnumMake
import PyProof.EnumStmt
import PyProof.DictWalks
import PyProof.DictItems
import KE.KEqDict
import PyProof.Claim2Refuses
import KE.KDictLaws
import PyProof.WalkInts
import PySem.Challenge.RW_roadnet_k22_whole_a_link_in_time
set_option Elab.async false
set_option linter.all false
set_option maxRecDepth 100000
/-! THE HAND LAYER, for ints, bools, texts, own classes, LISTS and tuples (index, slices, in, append, pop ..), calls, loops. Paste it whole ahead of your own text; what your proof does not reach may be deleted. -/
namespace L2
open PySem PySem.Spec PyProof.Rows

/-- a key: an int or a str -/
abbrev Key := Sum Int Str
def keyIs : Key → Value → Bool
  | .inl k, v => Value.isInt k v
  | .inr x, v => Value.isStrOf x v
def keyH (w : World) : Key → Int
  | .inl k => hashInt k
  | .inr x => hashStr w x
theorem keyIs_shape : ∀ {k : Key} {v : Value}, keyIs k v = true → (∃ i t, k = Sum.inl i ∧ v = Value.int i t) ∨ (∃ x t, k = Sum.inr x ∧ v = Value.str x t)
  | .inl i, v, h => by
    obtain ⟨t, e⟩ := Value.isInt_shape (k := i) (v := v) h
    exact .inl ⟨i, t, rfl, e⟩
  | .inr x, v, h => by
    obtain ⟨t, e⟩ := Value.isStrOf_shape (x := x) (v := v) h
    exact .inr ⟨x, t, rfl, e⟩
theorem keyIs_int (i : Int) (t : Tok) : keyIs (.inl i) (.int i t) = true := by simp [keyIs, Value.isInt]
theorem keyIs_str (x : Str) (t : Tok) : keyIs (.inr x) (.str x t) = true := by simp [keyIs, Value.isStrOf]
theorem key_ll (a b : Int) : decide ((Sum.inl a : Key) = Sum.inl b) = (a == b) := by
  by_cases e : a = b
  · subst e; simp
  · have h : ¬ (Sum.inl a : Key) = Sum.inl b := fun q => e (Sum.inl.inj q)
    rw [decide_eq_false h]
    exact (beq_eq_false_iff_ne.mpr e).symm
theorem key_rr (a b : Str) : decide ((Sum.inr a : Key) = Sum.inr b) = decide (a = b) := by
  by_cases e : a = b
  · subst e; simp
  · have h : ¬ (Sum.inr a : Key) = Sum.inr b := fun q => e (Sum.inr.inj q)
    rw [decide_eq_false h, decide_eq_false e]
theorem key_lr (a : Int) (b : Str) : decide ((Sum.inl a : Key) = Sum.inr b) = false := decide_eq_false (fun q => nomatch q)
theorem key_rl (a : Str) (b : Int) : decide ((Sum.inr a : Key) = Sum.inl b) = false := decide_eq_false (fun q => nomatch q)

def mixKind (prog : Program) (w : World) : PySem.KeyKind prog w Key where
  is := keyIs
  hash := keyH w
  inj := fun v a b ha hb => by
    rcases keyIs_shape ha with ⟨i, t, rfl, rfl⟩ | ⟨x, t, rfl, rfl⟩
    · rcases keyIs_shape hb with ⟨j, u, rfl, e⟩ | ⟨y, u, rfl, e⟩
      · injection e with e1 _; rw [e1]
      · exact nomatch e
    · rcases keyIs_shape hb with ⟨j, u, rfl, e⟩ | ⟨y, u, rfl, e⟩
      · exact nomatch e
      · injection e with e1 _; rw [e1]
  byValue := fun k v h => by
    rcases keyIs_shape h with ⟨i, t, rfl, rfl⟩ | ⟨x, t, rfl, rfl⟩ <;> rfl
  pyHash := fun hv h => by
    rcases keyIs_shape hv with ⟨i, t, rfl, rfl⟩ | ⟨x, t, rfl, rfl⟩
    · exact wpAny_pyHash_int h
    · exact wpAny_pyHash_str h
  eqBool := fun hu hv h => by
    rcases keyIs_shape hu with ⟨i, t, rfl, rfl⟩ | ⟨x, t, rfl, rfl⟩
    · rcases keyIs_shape hv with ⟨j, u, rfl, rfl⟩ | ⟨y, u, rfl, rfl⟩
      · rw [key_ll] at h; exact wpAny_eqBool_int h
      · rw [key_lr] at h; exact SeqAt.EqAt.int_str i t y u _ _ _ _ h
    · rcases keyIs_shape hv with ⟨j, u, rfl, rfl⟩ | ⟨y, u, rfl, rfl⟩
      · rw [key_rl] at h; exact SeqAt.EqAt.str_int x t j u _ _ _ _ h
      · rw [key_rr] at h; exact wpAny_eqBool_str h
  «strs» := fun k x t v h => by
    rcases keyIs_shape h with ⟨i, u, rfl, e⟩ | ⟨y, u, rfl, e⟩
    · exact nomatch e
    · injection e with e1 _
      subst e1
      cases v <;> rfl

theorem mixKind_int (prog : Program) (w : World) (i : Int) (t : Tok) : (mixKind prog w).is (.inl i) (.int i t) = true := keyIs_int i t
theorem mixKind_str (prog : Program) (w : World) (x : Str) (t : Tok) : (mixKind prog w).is (.inr x) (.str x t) = true := keyIs_str x t
end L2

namespace L2
open PySem PySem.Spec PyProof.Rows

/-- a value, without the heap -/
inductive V where
  | non | bl (b : Bool) | int (i : Int) | str (x : Str) | byt (b : Array UInt8) | flt (b : UInt64) | ref (a : Addr) | ty (n : String)
  deriving DecidableEq

def RelV : V → Value → Prop
  | .non, u => u = Value.none
  | .bl b, u => u = Value.bool b
  | .int i, u => ∃ t, u = Value.int i t
  | .str x, u => ∃ t, u = Value.str x t
  | .byt b, u => ∃ t, u = Value.bytes b t
  | .flt b, u => ∃ t, u = Value.float b t
  | .ref a, u => u = Value.ref a
  | .ty n, u => u = Value.type n

abbrev Vals : List V → List Value → Prop := Paired RelV
theorem Vals.length {xs : List V} {us : List Value} (r : Vals xs us) : xs.length = us.length := Paired.length r
theorem Vals.get : ∀ {xs : List V} {us : List Value} {i : Nat} {x : V}, Vals xs us → xs[i]? = some x → ∃ u, us[i]? = some u ∧ RelV x u
  | _, _, _, _, .nil, e => by simp at e
  | _, _, 0, _, .cons r _, e => by simp at e; subst e; exact ⟨_, rfl, r⟩
  | _, _, i + 1, x, .cons _ t, e => by
    obtain ⟨u, h1, h2⟩ := Vals.get (i := i) (x := x) t (by simpa using e)
    exact ⟨u, by simpa using h1, h2⟩
theorem Vals.set {x : V} {u : Value} (r : RelV x u) : ∀ {xs : List V} {us : List Value} (i : Nat), Vals xs us → Vals (xs.set i x) (us.set i u)
  | _, _, _, .nil => .nil
  | _, _, 0, .cons _ t => .cons r t
  | _, _, i + 1, .cons q t => .cons q (Vals.set r i t)
theorem Vals.append : ∀ {xs ys : List V} {us ws : List Value}, Vals xs us → Vals ys ws → Vals (xs ++ ys) (us ++ ws)
  | _, _, _, _, .nil, s => s
  | _, _, _, _, .cons r t, s => .cons r (Vals.append t s)
theorem Vals.take : ∀ {xs : List V} {us : List Value} (n : Nat), Vals xs us → Vals (xs.take n) (us.take n)
  | _, _, 0, _ => .nil
  | _, _, _ + 1, .nil => .nil
  | _, _, n + 1, .cons r t => .cons r (Vals.take n t)
theorem Vals.drop : ∀ {xs : List V} {us : List Value} (n : Nat), Vals xs us → Vals (xs.drop n) (us.drop n)
  | _, _, 0, r => r
  | _, _, _ + 1, .nil => .nil
  | _, _, n + 1, .cons _ t => Vals.drop n t
theorem Vals.none_of : ∀ {xs : List V} {us : List Value} {i : Nat}, Vals xs us → xs[i]? = none → us[i]? = none := fun {xs us i} r e => by
  have h1 := r.length
  have h2 : xs.length ≤ i := List.getElem?_eq_none_iff.mp e
  exact List.getElem?_eq_none_iff.mpr (by omega)

def RelO : Option V → Option Value → Prop
  | some v, some u => RelV v u
  | none, none => True
  | _, _ => False
def KV {κ : Type} : List (κ × V) → List (κ × Value) → Prop := Paired fun (p : κ × V) (q : κ × Value) => p.1 = q.1 ∧ RelV p.2 q.2

/-- a key of a dict (00_mix): an int or a text -/
def kV : Key → V
  | .inl i => .int i
  | .inr x => .str x

/-- what stands at a tracked address -/
inductive HO where
  /-- a list -/
  | lst (xs : List V)
  /-- a tuple (never changes) -/
  | tup (xs : List V)
  /-- a dict whose keys are ints and texts; one whose keys are tuples of ints and texts (the empty one is both) -/
  | dK (kvs : List (Key × V)) | dT (kvs : List (List Key × V))
  /-- a set of ints: its members, its size -/
  | set (S : Int → Bool) (n : Nat)
  /-- an instance of the class at C, its dict at dx, its attributes -/
  | ins (C dx : Addr) (fs : List (Str × V))
  /-- the dict of the instance at x -/
  | own (x : Addr)
  /-- the dict of an exception -/
  | xd (fs : List (Str × V))
  /-- a bound method, f of x -/
  | met (f x : Addr)
  /-- a range object lo, lo + 1, .. below hi -/
  | rng (lo hi : Int)
  /-- a thing that is known to the object (the script; a dict while a loop walks it): read, never written while it is so -/
  | frz (o : Obj) (u : HO)
  /-- a code object's table -/
  | tbl (ps : Array Value)
  /-- any other thing, by what is true of its one object (a def of one's own: SetO a S n := HO.ext fun h => ..) -/
  | ext (φ : Heap → Prop)

abbrev Hp := Addr → Option HO
def upd (H : Hp) (a : Addr) (o : HO) : Hp := fun b => if b = a then some o else H b
theorem upd_same {H : Hp} {a : Addr} {o : HO} : upd H a o a = some o := by unfold upd; rw [if_pos rfl]
theorem upd_ne {H : Hp} {a b : Addr} {o : HO} (h : b ≠ a) : upd H a o b = H b := by unfold upd; rw [if_neg h]
theorem upd_upd {H : Hp} {a : Addr} {o u : HO} : upd (upd H a o) a u = upd H a u := by
  funext b; unfold upd; split <;> rfl
/-- two objects of different content stand apart -/
theorem ne_of {H : Hp} {a b : Addr} {o u : HO} (h : H a = some o) (h' : H b = some u) (d : o ≠ u) : a ≠ b := by
  intro e; subst e; rw [h] at h'; exact d (Option.some.inj h')
theorem ne_of_none {H : Hp} {a b : Addr} {o : HO} (h : H a = some o) (h' : H b = none) : a ≠ b := by
  intro e; subst e; rw [h] at h'; cases h'

section
variable (P : Program) (w : World)
def ObjOk (H : Hp) (h : Heap) (a : Addr) : HO → Prop
  | .lst xs => xs.length ≤ sizeLine ∧ ∃ (its : List Value) (n : Nat), Vals xs its ∧ h.get? a = some { cls := .type "list", data := .seq its.toArray n }
  | .tup xs => xs.length ≤ sizeLine ∧ ∃ its : List Value, Vals xs its ∧ IsTup h a its.toArray
  | .dK kvs => kvs.length ≤ sizeLine ∧ (a == sysModules) = false ∧ ∃ vs, KV kvs vs ∧ h.DictOf (mixKind P w) a vs
  | .dT kvs => kvs.length ≤ sizeLine ∧ (a == sysModules) = false ∧ ∃ xs : List (List Key × Addr × Value),
      Paired (fun (p : List Key × V) (q : List Key × Addr × Value) => p.1 = q.1 ∧ H q.2.1 = some (.tup (p.1.map kV)) ∧ RelV p.2 q.2.2) kvs xs ∧
      ∃ o es ep, h.get? a = some o ∧ o.ExactDict ∧ o.data = .dict es ep ∧ es.toList = xs.map (entryOfKey (tupleKind (mixKind P w))) ∧ (xs.map (·.1)).Nodup
  | .set S n => h.SetOf (intKind P w) a S n
  | .ins C dx fs => H dx = some (.own a) ∧ fs.length ≤ 1000 ∧ dx ≠ a ∧ h.get? a = some (PySem.W.instObj C dx) ∧
      ∃ mA, h.Ns1 dx mA ∧ (∀ f, RelO (fs.lookup f) (mA f)) ∧ PySem.Within mA (fs.map (·.1))
  | .own _ => ∃ o, h.get? a = some o
  | .xd fs => ∃ mA, h.Ns1 a mA ∧ ∀ f, RelO (fs.lookup f) (mA f)
  | .rng lo hi => ∃ t u v, h.get? a = some { cls := .type "range", data := .fields #[.int lo t, .int hi u, .int 1 v] }
  | .frz o u => h.get? a = some o ∧ ObjOk H h a u
  | .tbl ps => h.get? a = some { cls := .none, data := .fields ps }
  | .met f x => h.get? a = some (PySem.W.methodObj (.ref f) (.ref x))
  | .ext φ => φ h ∧ (∃ o, h.get? a = some o) ∧ ∀ h1 h2 : Heap, φ h1 → (∀ o, h1.get? a = some o → h2.get? a = some o) → φ h2
/-- the abstract heap is held -/
def HOk (H : Hp) (h : Heap) : Prop := ∀ a o, H a = some o → ObjOk P w H h a o
end

section
variable {P : Program} {w : World} {H H' : Hp} {h h' : Heap} {a : Addr} {o : HO}
theorem ObjOk.lt (x : ObjOk P w H h a o) : a < h.objs.size := by
  cases o with
  | lst xs => obtain ⟨_, _, _, _, e⟩ := x; exact Heap.lt_size e
  | tup xs => obtain ⟨_, _, _, p⟩ := x; exact p.lt
  | dK kvs => obtain ⟨_, _, _, _, o, _, _, e, _⟩ := x; exact Heap.lt_size e
  | dT kvs => obtain ⟨_, _, _, _, o, _, _, e, _⟩ := x; exact Heap.lt_size e
  | set S n => obtain ⟨o, _, _, _, e, _⟩ := x; exact Heap.lt_size e
  | ins C dx fs => obtain ⟨_, _, _, e, _⟩ := x; exact Heap.lt_size e
  | own y => obtain ⟨_, e⟩ := x; exact Heap.lt_size e
  | xd fs => obtain ⟨_, ⟨_, _, _, e, _⟩, _⟩ := x; exact Heap.lt_size e
  | rng lo hi => obtain ⟨_, _, _, e⟩ := x; exact Heap.lt_size e
  | frz ob u => obtain ⟨e, _⟩ := x; exact Heap.lt_size e
  | tbl ps => exact Heap.lt_size (show h.get? a = some _ from x)
  | met f y => exact Heap.lt_size (show h.get? a = some _ from x)
  | ext φ => obtain ⟨_, ⟨_, e⟩, _⟩ := x; exact Heap.lt_size e
theorem Paired.mapP {α β : Type} {F G : α → β → Prop} : ∀ {l₁ : List α} {l₂ : List β}, Paired F l₁ l₂ → (∀ a b, F a b → G a b) → Paired G l₁ l₂
  | _, _, .nil, _ => .nil
  | _, _, .cons r t, f => .cons (f _ _ r) (Paired.mapP t f)
/-- what an object's description leans on: its own object, its own dict, the tuples -/
theorem ObjOk.stay (x : ObjOk P w H h a o) (k : ∀ b u, (b = a ∨ H b = some (.own a)) → h.get? b = some u → h'.get? b = some u)
    (ho : ∀ b, H b = some (.own a) → H' b = some (.own a)) (ht : ∀ b xs, H b = some (.tup xs) → H' b = some (.tup xs)) : ObjOk P w H' h' a o := by
  induction o with
  | lst xs => obtain ⟨z, its, n, r, e⟩ := x; exact ⟨z, its, n, r, k _ _ (.inl rfl) e⟩
  | tup xs => obtain ⟨z, its, r, ob, e, c⟩ := x; exact ⟨z, its, r, ob, k _ _ (.inl rfl) e, c⟩
  | dK kvs => obtain ⟨z, y, vs, r, ob, es, ep, e, c⟩ := x; exact ⟨z, y, vs, r, ob, es, ep, k _ _ (.inl rfl) e, c⟩
  | dT kvs =>
    obtain ⟨z, y, xs, r, ob, es, ep, e, c⟩ := x
    exact ⟨z, y, xs, Paired.mapP r fun p q z => ⟨z.1, ht _ _ z.2.1, z.2.2⟩, ob, es, ep, k _ _ (.inl rfl) e, c⟩
  | set S n => obtain ⟨ob, es, ep, t, e, c⟩ := x; exact ⟨ob, es, ep, t, k _ _ (.inl rfl) e, c⟩
  | ins C dx fs =>
    obtain ⟨d, z, ne, e, mA, ⟨od, es, ep, e2, c⟩, r⟩ := x
    exact ⟨ho _ d, z, ne, k _ _ (.inl rfl) e, mA, ⟨od, es, ep, k _ _ (.inr d) e2, c⟩, r⟩
  | own y => obtain ⟨ob, e⟩ := x; exact ⟨ob, k _ _ (.inl rfl) e⟩
  | xd fs => obtain ⟨mA, ⟨od, es, ep, e, c⟩, r⟩ := x; exact ⟨mA, ⟨od, es, ep, k _ _ (.inl rfl) e, c⟩, r⟩
  | rng lo hi => obtain ⟨t, u, v, e⟩ := x; exact ⟨t, u, v, k _ _ (.inl rfl) e⟩
  | frz ob u ih => obtain ⟨e, q⟩ := x; exact ⟨k _ _ (.inl rfl) e, ih q⟩
  | tbl ps =>
    have e : h.get? a = some { cls := .none, data := .fields ps } := x
    show h'.get? a = some { cls := .none, data := .fields ps }
    exact k a _ (.inl rfl) e
  | met f y =>
    have e : h.get? a = some (PySem.W.methodObj (.ref f) (.ref y)) := x
    show h'.get? a = some (PySem.W.methodObj (.ref f) (.ref y))
    exact k a _ (.inl rfl) e
  | ext φ => obtain ⟨p, ⟨o, e⟩, st⟩ := x; exact ⟨st _ _ p fun o q => k _ _ (.inl rfl) q, ⟨o, k _ _ (.inl rfl) e⟩, st⟩
theorem HOk.lt (x : HOk P w H h) (e : H a = some o) : a < h.objs.size := (x a o e).lt
theorem HOk.fresh (x : HOk P w H h) (e : h.objs.size ≤ a) : H a = none := by
  cases q : H a with
  | none => rfl
  | some u => exact absurd (Nat.lt_of_lt_of_le (x.lt q) e) (Nat.lt_irrefl _)
/-- every object of the heap is kept -/
theorem HOk.kept (x : HOk P w H h) (k : ∀ b u, h.get? b = some u → h'.get? b = some u) : HOk P w H h' := fun a o e =>
  (x a o e).stay (fun b u _ q => k b u q) (fun _ q => q) fun _ _ q => q
/-- a new object is laid and tracked -/
theorem HOk.laid (x : HOk P w H h) (k : ∀ b u, h.get? b = some u → h'.get? b = some u) (hp : h.objs.size ≤ a) (new : ObjOk P w (upd H a o) h' a o) : HOk P w (upd H a o) h' := fun b u e => by
  have hn := x.fresh hp
  by_cases hb : b = a
  · subst hb; rw [upd_same] at e; cases e; exact new
  · rw [upd_ne hb] at e
    exact (x b u e).stay (fun c v _ q => k c v q) (fun c q => by rw [upd_ne (ne_of_none q hn)]; exact q) fun c xs q => by rw [upd_ne (ne_of_none q hn)]; exact q
end

/-- what may be read as u: it is u, or a known u -/
def Rd (H : Hp) (a : Addr) (u : HO) : Prop := H a = some u ∨ ∃ o, H a = some (.frz o u)
theorem Rd.of {H : Hp} {a : Addr} {u : HO} (h : H a = some u) : Rd H a u := .inl h
theorem Rd.ok {P : Program} {w : World} {H : Hp} {h : Heap} {a : Addr} {u : HO} (r : Rd H a u) (x : HOk P w H h) : ObjOk P w H h a u := by
  rcases r with r | ⟨o, r⟩
  · exact x a u r
  · obtain ⟨_, q⟩ := x a _ r
    exact q
/-- what may be written -/
def Mut : Option HO → Prop
  | some (.lst _) => True
  | some (.dK _) => True
  | some (.dT _) => True
  | some (.set _ _) => True
  | some (.ins _ _ _) => True
  | some (.ext _) => True
  | _ => False
section
variable {P : Program} {w : World} {H : Hp} {h h' : Heap} {x e : Addr} {o' : HO}
/-- the object at e is changed: x itself, or the dict of the instance x -/
theorem HOk.write (ok : HOk P w H h) (mu : Mut (H x)) (he : e = x ∨ H e = some (.own x)) (k : ∀ b u, b ≠ e → h.get? b = some u → h'.get? b = some u) (heo : ∃ u, h'.get? e = some u)
    (new : ObjOk P w (upd H x o') h' x o') : HOk P w (upd H x o') h' := fun b u q => by
  have nown : ∀ c y, H c = some (.own y) → c ≠ x := fun c y r z => by subst z; rw [r] at mu; exact mu
  have ntup : ∀ c xs, H c = some (.tup xs) → c ≠ x := fun c xs r z => by subst z; rw [r] at mu; exact mu
  by_cases hb : b = x
  · subst hb; rw [upd_same] at q; cases q; exact new
  · rw [upd_ne hb] at q
    by_cases hbe : b = e
    · have q' : H b = some (.own x) := by
        rcases he with z | z
        · exact absurd (hbe.trans z) hb
        · rw [hbe]; exact z
      rw [q] at q'; cases q'
      obtain ⟨v, hv⟩ := heo
      exact ⟨v, by rw [hbe]; exact hv⟩
    · refine (ok b u q).stay (fun c v hc r => k c v ?_ r) (fun c r => by rw [upd_ne (nown c b r)]; exact r) fun c xs r => by rw [upd_ne (ntup c xs r)]; exact r
      rcases hc with rfl | hc
      · exact hbe
      · rintro rfl
        rcases he with z | z
        · exact nown c b hc z
        · rw [hc] at z; cases z; exact hb rfl
end

/-! ### kept unless tracked; of the frames at fs (the callers') the slots may change (an exception that passes writes there); of the records at ex (iterators) nothing is said -/
structure Un (fs ex : List Addr) (H H' : Hp) (h h' : Heap) : Prop where
  keep : ∀ b o, h.get? b = some o → H b = none → b ∉ fs → b ∉ ex → h'.get? b = some o
  slot : ∀ b o, h.get? b = some o → H b = none → b ∈ fs → b ∉ ex → ∃ sl, h'.get? b = some { o with slots := sl }
  free : ∀ b o, h.get? b = some o → H b = none → b ∉ ex → H' b = none
  there : ∀ b o, h.get? b = some o → b ∉ ex → ∃ o', h'.get? b = some o'
  tups : ∀ b xs, H b = some (.tup xs) → H' b = some (.tup xs)
  frzs : ∀ b o u, H b = some (.frz o u) → H' b = some (.frz o u)
  tbls : ∀ b ps, H b = some (.tbl ps) → ∃ more, H' b = some (.tbl (ps ++ more))
section
variable {fs fs' ex ex' : List Addr} {H H1 H2 : Hp} {h h1 h2 h' : Heap} {a x e : Addr} {o : HO}
theorem Un.any (u : Un fs ex H H1 h h1) {b : Addr} {ob : Obj} (q : h.get? b = some ob) (n : H b = none) (hx : b ∉ ex) : ∃ sl, h1.get? b = some { ob with slots := sl } := by
  by_cases hb : b ∈ fs
  · exact u.slot b ob q n hb hx
  · exact ⟨ob.slots, u.keep b ob q n hb hx⟩
theorem Un.trans (a : Un fs ex H H1 h h1) (b : Un fs ex H1 H2 h1 h2) : Un fs ex H H2 h h2 where
  keep := fun c ob q n hc hx => b.keep c ob (a.keep c ob q n hc hx) (a.free c ob q n hx) hc hx
  slot := fun c ob q n hc hx => by
    obtain ⟨sl, e1⟩ := a.slot c ob q n hc hx
    obtain ⟨sl', e2⟩ := b.slot c _ e1 (a.free c ob q n hx) hc hx
    exact ⟨sl', e2⟩
  free := fun c ob q n hx => by
    obtain ⟨o', e1⟩ := a.there c ob q hx
    exact b.free c o' e1 (a.free c ob q n hx) hx
  there := fun c ob q hx => by
    obtain ⟨o', e1⟩ := a.there c ob q hx
    exact b.there c o' e1 hx
  tups := fun c xs q => b.tups c xs (a.tups c xs q)
  frzs := fun c ob xs q => b.frzs c ob xs (a.frzs c ob xs q)
  tbls := fun c ps q => by
    obtain ⟨m1, e1⟩ := a.tbls c ps q
    obtain ⟨m2, e2⟩ := b.tbls c _ e1
    exact ⟨m1 ++ m2, by rw [e2, Array.append_assoc]⟩
theorem Un.kept (k : ∀ b u, h.get? b = some u → h'.get? b = some u) : Un fs ex H H h h' :=
  ⟨fun b ob q _ _ _ => k b ob q, fun b ob q _ _ _ => ⟨ob.slots, k b ob q⟩, fun _ _ _ n _ => n, fun b ob q _ => ⟨ob, k b ob q⟩, fun _ _ q => q, fun _ _ _ q => q, fun _ ps q => ⟨#[], by rw [q]; simp⟩⟩
theorem Un.refl : Un fs ex H H h h := Un.kept fun _ _ q => q
theorem Un.laid (k : ∀ b u, h.get? b = some u → h'.get? b = some u) (hp : h.objs.size ≤ a) (hn : H a = none) : Un fs ex H (upd H a o) h h' where
  keep := fun b u q _ _ _ => k b u q
  slot := fun b u q _ _ _ => ⟨u.slots, k b u q⟩
  free := fun b u q n _ => by rw [upd_ne (Nat.ne_of_lt (Nat.lt_of_lt_of_le (Heap.lt_size q) hp))]; exact n
  there := fun b u q _ => ⟨u, k b u q⟩
  tups := fun b xs q => by rw [upd_ne (ne_of_none q hn)]; exact q
  frzs := fun b u xs q => by rw [upd_ne (ne_of_none q hn)]; exact q
  tbls := fun b ps q => ⟨#[], by rw [upd_ne (ne_of_none q hn), q]; simp⟩
theorem Un.write (mu : Mut (H x)) (he : e = x ∨ H e = some (.own x)) (k : ∀ b u, b ≠ e → h.get? b = some u → h'.get? b = some u) (heo : ∃ u, h'.get? e = some u) : Un fs ex H (upd H x o) h h' := by
  have hx : ∀ b, H b = none → b ≠ x := fun b n z => by subst z; rw [n] at mu; exact mu
  have hb : ∀ b, H b = none → b ≠ e := fun b n z => by
    subst z
    rcases he with r | r
    · exact hx b n r
    · rw [n] at r; cases r
  have hm : ∀ b u, H b = some u → ¬ Mut (some u) → b ≠ x := fun b u q nm z => by subst z; rw [q] at mu; exact nm mu
  refine ⟨fun b u q n _ _ => k b u (hb b n) q, fun b u q n _ _ => ⟨u.slots, k b u (hb b n) q⟩, fun b u q n _ => by rw [upd_ne (hx b n)]; exact n, fun b u q _ => ?_,
    fun b xs q => by rw [upd_ne (hm b _ q fun z => z)]; exact q, fun b u xs q => by rw [upd_ne (hm b _ q fun z => z)]; exact q, fun b ps q => ⟨#[], by rw [upd_ne (hm b _ q fun z => z), q]; simp⟩⟩
  by_cases hbe : b = e
  · subst hbe; exact heo
  · exact ⟨u, k b u hbe q⟩
theorem Un.mono (u : Un fs ex H H1 h h1) (hs : ∀ b ∈ fs, b ∈ fs') (hx : ∀ b ∈ ex, b ∈ ex') : Un fs' ex' H H1 h h1 :=
  ⟨fun b ob q n hb he => u.keep b ob q n (fun z => hb (hs b z)) fun z => he (hx b z), fun _ _ q n _ he => u.any q n fun z => he (hx _ z), fun b ob q n he => u.free b ob q n fun z => he (hx b z), fun b ob q he => u.there b ob q fun z => he (hx b z), u.tups, u.frzs, u.tbls⟩
end

/-! ### the heap without what is tracked -/
def trk (h : Heap) (H : Hp) : List Addr := (List.range h.objs.size).filter fun a => (H a).isSome
def hidT (h : Heap) (H : Hp) : Heap := PySem.W.hideAll h (trk h H)
theorem hidT_size (h : Heap) (H : Hp) : (hidT h H).objs.size = h.objs.size := PySem.W.hideAll_size _ _
theorem hidT_get {h : Heap} {H : Hp} {b : Addr} {o : Obj} (e : h.get? b = some o) (n : H b = none) : (hidT h H).get? b = some o :=
  PySem.W.hideAll_get _ e fun hm => by
    have q : (H b).isSome = true := (List.mem_filter.mp hm).2
    rw [n] at q; simp at q
theorem of_hidT {h : Heap} {H : Hp} {b : Addr} {o : Obj} (e : (hidT h H).get? b = some o) : h.get? b = some o ∧ H b = none := by
  have e' : h.get? b = some o := PySem.W.of_hideAll (trk h H) e
  refine ⟨e', ?_⟩
  cases q : H b with
  | none => rfl
  | some x =>
    have hm : b ∈ trk h H := List.mem_filter.mpr ⟨List.mem_range.mpr (Heap.lt_size e'), by simp [q]⟩
    have z : (hidT h H).get? b = none := PySem.W.hideAll_none (trk h H) hm
    rw [z] at e; cases e

/-! ### OpenK's ledger, filled with every new object but one -/
def allNews (g h : Heap) (L : Addr) : List (Addr × Obj) := (List.range h.objs.size).filterMap fun a => if a = L ∨ (g.get? a).isSome = true then none else (h.get? a).map fun o => (a, o)
def rest (g h : Heap) (L d : Addr) : List (Addr × Obj) := (allNews g h L).filter fun p => decide (p.1 ≠ d)
end L2

namespace L2
open PySem PySem.Spec PyProof.Rows

/-- the module's facts, over the base: the heap at the law's entry without what is tracked there -/
structure Mod (K : PySem.W.Frag) (mg : Str → Option Value) (base : Heap) : Prop where
  kin : K.In base
  glob : base.Ns mainGlobals mg
  blt : ∃ mb, base.Ns builtinsNs mb ∧ ∀ x : Str, x ≠ "__name__" → mb x = bootBuiltins x
  nolimit : base.NoLimit

/-- the context: a def's body (or a comprehension's block) running. base: fixed through the whole law; s₀, H₀: the entry; outer: the frames whose slots others may change (a def's callers); stack: all frames that run;
   ex: iterators that were made ahead of the entry and are walked here (a comprehension's); fn: the names whose cells were made at the entry (a def: all; a comprehension's block: its own); calm: not within an except suite; pn: pins that every state bears; xe: what is wanted of an exception that leaves the code -/
structure Cx where
  prog : Program
  w : World
  K : PySem.W.Frag
  mg : Str → Option Value
  base : Heap
  A : Around
  N : List Str
  s₀ : Shared
  H₀ : Hp
  env : Env
  outer : List Env
  stack : List Env
  ex : List Addr
  fn : Str → Bool
  calm : Bool
  pn : List (Addr × Obj)
  xe : Value → Shared → Prop
/-- the callers' frames -/
def frs (l : List Env) : List Addr := l.filterMap (·.frame)
abbrev Cx.fs (X : Cx) : List Addr := frs X.outer

def Vis (sc : Scope) (x : Str) : Prop := sc.names.lookup x = some .local ∨ sc.names.lookup x = some .cell ∨ sc.names.lookup x = some .free
def Loc (sc : Scope) (x : Str) : Prop := sc.names.lookup x = some .local ∨ sc.names.lookup x = some .cell
def Look (env : Env) (h : Heap) (m : Str → Option Value) (x : Str) (u : Value) : Prop :=
  (env.kindOf x = some .local ∧ m x = some u) ∨ ((env.kindOf x = some .cell ∨ env.kindOf x = some .free) ∧ ∃ c, env.cells.lookup x = some c ∧ h.IsCell c (some u))

structure Cx.Ok (X : Cx) : Prop where
  mod : Mod X.K X.mg X.base
  kind : X.env.scope.kind = .function
  glob : X.env.globals = mainGlobals
  blt : X.env.builtins = builtinsNs
  above : X.s₀.heap.objs.size ≤ X.env.locals
  inj : ∀ x y c, X.env.cells.lookup x = some c → X.env.cells.lookup y = some c → x = y
  has : ∀ x, (X.env.kindOf x = some .cell ∨ X.env.kindOf x = some .free) → ∃ c, X.env.cells.lookup x = some c
  cab : ∀ x c, X.fn x = true → X.env.cells.lookup x = some c → X.s₀.heap.objs.size ≤ c
  hd : X.calm = true → X.A.handled = none
  frames : X.A.frames = some X.stack
  stk : X.stack = X.outer ∨ (X.stack = X.env :: X.outer ∧ X.env.frame = some X.env.locals)
  exf : ∀ b ∈ X.ex, b ≠ X.env.locals ∧ ∀ x c, X.env.cells.lookup x = some c → c ≠ b
  bs : ∀ b o, X.base.get? b = some o → X.s₀.heap.get? b = some o ∧ X.H₀ b = none
  bsz : X.base.objs.size ≤ X.s₀.heap.objs.size
  noex : ∀ b o, X.base.get? b = some o → b ∉ X.ex
  exfs : ∀ b ∈ X.ex, b ∉ X.fs
  funs : X.s₀.heap.FunFrames X.base X.outer
  frf : ∀ b ∈ X.fs, X.H₀ b = none

structure Inv (X : Cx) (pins : List (Addr × Obj)) (σ : List (Option V)) (H : Hp) (s : Shared) : Prop where
  ok : X.Ok
  os : s.os = X.s₀.os
  bare : AllBare s.gens
  base : Un X.fs X.ex X.H₀ H X.s₀.heap s.heap
  loc : ∃ m, s.heap.Ns X.env.locals m ∧ ∀ (i : Nat) (x : Str) (v : V), X.N[i]? = some x → σ[i]? = some (some v) → Vis X.env.scope x → ∃ u, RelV v u ∧ Look X.env s.heap m x u
  cell : ∀ x c, X.env.cells.lookup x = some c → ∃ v, s.heap.IsCell c v
  free : H X.env.locals = none
  freeC : ∀ x c, X.env.cells.lookup x = some c → H c = none
  pin : ∀ p ∈ X.pn ++ pins, s.heap.get? p.1 = some p.2 ∧ H p.1 = none ∧ p.1 ≠ X.env.locals ∧ p.1 ∉ X.fs ∧ ∀ v, p.2.data ≠ .cell v
  hok : HOk X.prog X.w H s.heap
  len : σ.length = X.N.length

section
variable {X : Cx} {pins : List (Addr × Obj)} {σ : List (Option V)} {H H' : Hp} {s : Shared} {h' : Heap}

theorem Cx.Ok.nofr (ok : X.Ok) {b : Addr} {o : Obj} (e : X.base.get? b = some o) : b ∉ X.fs := fun hb => by
  have := (ok.funs.mem hb).1
  rw [e] at this; cases this
theorem Inv.bs (I : Inv X pins σ H s) : ∀ b o, X.base.get? b = some o → s.heap.get? b = some o ∧ H b = none := fun b o e =>
  ⟨I.base.keep b o (I.ok.bs b o e).1 (I.ok.bs b o e).2 (I.ok.nofr e) (I.ok.noex b o e), I.base.free b o (I.ok.bs b o e).1 (I.ok.bs b o e).2 (I.ok.noex b o e)⟩
theorem Inv.bk (I : Inv X pins σ H s) : ∀ b o, X.base.get? b = some o → s.heap.get? b = some o := fun b o e => (I.bs b o e).1
theorem Inv.mod (I : Inv X pins σ H s) : Mod X.K X.mg X.base := I.ok.mod
theorem Inv.kIn (I : Inv X pins σ H s) : X.K.In s.heap := I.ok.mod.kin.keeps I.bk
theorem Inv.nolimit (I : Inv X pins σ H s) : s.heap.NoLimit := I.ok.mod.nolimit.keeps I.bk
/-- the frame over the base: for OpenK's rules (K.In X.base is I.mod.kin) -/
theorem Inv.fr (I : Inv X pins σ H s) : ∃ m, Fr X.base X.env.locals s.heap m :=
  let ⟨m, hn, _⟩ := I.loc
  ⟨m, hn, I.bk, Nat.le_trans I.ok.bsz I.ok.above⟩
theorem Inv.lt (I : Inv X pins σ H s) : X.env.locals < s.heap.objs.size := let ⟨_, hn, _⟩ := I.loc; hn.lt
theorem Inv.sz (I : Inv X pins σ H s) : X.s₀.heap.objs.size ≤ s.heap.objs.size := Nat.le_trans I.ok.above (Nat.le_of_lt I.lt)
theorem Inv.nofs (I : Inv X pins σ H s) {a : Addr} (h : s.heap.objs.size ≤ a) : a ∉ X.fs := fun hb => by
  obtain ⟨_, o, ho, _⟩ := I.ok.funs.mem hb
  exact absurd (Nat.lt_of_lt_of_le (Heap.lt_size ho) (Nat.le_trans I.sz h)) (Nat.lt_irrefl _)
theorem Inv.cne (I : Inv X pins σ H s) : ∀ x c, X.env.cells.lookup x = some c → c ≠ X.env.locals := fun x c e z => by
  obtain ⟨v, o, ho, hd⟩ := I.cell x c e
  obtain ⟨m, ⟨o', es, ep, ho', hd', _⟩, _⟩ := I.loc
  rw [z, ho'] at ho; cases ho; rw [hd'] at hd; cases hd
theorem Inv.funs (I : Inv X pins σ H s) : s.heap.FunFrames X.base X.outer := by
  have all : ∀ (l : List Env), (∀ b ∈ frs l, b ∈ X.fs) → X.s₀.heap.FunFrames X.base l → s.heap.FunFrames X.base l := by
    intro l
    induction l with
    | nil => intro _ _; trivial
    | cons env r ih =>
      intro hs hl
      obtain ⟨hk, ⟨L, o, hf, hn, ho, hd⟩, hr⟩ := hl
      have hL : L ∈ X.fs := hs L (by unfold frs; rw [List.filterMap_cons, hf]; exact List.mem_cons_self)
      obtain ⟨sl, e⟩ := I.base.slot L o ho (I.ok.frf L hL) hL fun z => I.ok.exfs L z hL
      exact ⟨hk, ⟨L, _, hf, hn, e, hd⟩, ih (fun b hb => hs b (by unfold frs; rw [List.filterMap_cons, hf]; exact List.mem_cons_of_mem _ hb)) hr⟩
  exact all X.outer (fun _ hb => hb) I.ok.funs

/-- the frames that run, for a call -/
theorem Inv.stack (I : Inv X pins σ H s) : s.heap.FunFrames X.base X.stack := by
  rcases I.ok.stk with e | ⟨e, hf⟩
  · rw [e]; exact I.funs
  · rw [e]
    obtain ⟨m, hn, _⟩ := I.loc
    refine .cons (by rw [I.ok.kind]; decide) hf hn ?_ I.funs
    exact Heap.get?_none_of_le (Nat.le_trans I.ok.bsz I.ok.above)
theorem Inv.stkSub (I : Inv X pins σ H s) : ∀ b ∈ frs X.stack, b ∈ X.env.locals :: X.fs := fun b hb => by
  rcases I.ok.stk with e | ⟨e, hf⟩
  · rw [e] at hb; exact List.mem_cons_of_mem _ hb
  · rw [e] at hb
    unfold frs at hb
    rw [List.filterMap_cons, hf] at hb
    exact hb
theorem Inv.stkFree (I : Inv X pins σ H s) : ∀ b ∈ frs X.stack, H b = none := fun b hb => by
  rcases List.mem_cons.mp (I.stkSub b hb) with e | hb
  · rw [e]; exact I.free
  · obtain ⟨_, o, ho, _⟩ := I.ok.funs.mem hb
    exact I.base.free b o ho (I.ok.frf b hb) fun z => I.ok.exfs b z hb

/-- THE STEP: the untracked objects but the frame and the records at ch are kept (the callers' frames up to slots), the frame's map is kept, the new abstract heap is held -/
theorem Inv.step {g' : Array GenState} {t' : Nat} {d' : Drawn} {ch : List Addr} (I : Inv X pins σ H s)
    (hch : ∀ b ∈ ch, (b ∈ X.ex ∨ X.s₀.heap.objs.size ≤ b) ∧ b ≠ X.env.locals ∧ (∀ x c, X.env.cells.lookup x = some c → c ≠ b) ∧ ∀ p ∈ X.pn ++ pins, p.1 ≠ b)
    (keep : ∀ b o, b ≠ X.env.locals → b ∉ X.fs → b ∉ ch → s.heap.get? b = some o → H b = none → h'.get? b = some o)
    (slot : ∀ b o, b ≠ X.env.locals → b ∈ X.fs → b ∉ ch → s.heap.get? b = some o → H b = none → ∃ sl, h'.get? b = some { o with slots := sl }) (free : ∀ b o, b ∉ ch → s.heap.get? b = some o → H b = none → H' b = none)
    (there : ∀ b o, b ∉ ch → s.heap.get? b = some o → ∃ o', h'.get? b = some o')
    (tups : ∀ b xs, H b = some (.tup xs) → H' b = some (.tup xs)) (frzs : ∀ b o u, H b = some (.frz o u) → H' b = some (.frz o u)) (tbls : ∀ b ps, H b = some (.tbl ps) → ∃ more, H' b = some (.tbl (ps ++ more)))
    (ns : ∀ m, s.heap.Ns X.env.locals m → h'.Ns X.env.locals m) (hok : HOk X.prog X.w H' h') (hg : AllBare g') :
    Inv X pins σ H' { s with heap := h', gens := g', drawn := d', toks := t' } := by
  have neL : ∀ b o, X.s₀.heap.get? b = some o → b ≠ X.env.locals := fun b o e => Nat.ne_of_lt (Nat.lt_of_lt_of_le (Heap.lt_size e) I.ok.above)
  have neC : ∀ b o, X.s₀.heap.get? b = some o → b ∉ X.ex → b ∉ ch := fun b o e hx hb => by
    rcases (hch b hb).1 with z | z
    · exact hx z
    · exact absurd (Nat.lt_of_lt_of_le (Heap.lt_size e) z) (Nat.lt_irrefl _)
  have cellK : ∀ x c, X.env.cells.lookup x = some c → ∀ v, s.heap.IsCell c v → h'.IsCell c v := fun x c e v ⟨o, ho, hd⟩ => by
    have nch : c ∉ ch := fun z => (hch c z).2.2.1 x c e rfl
    by_cases hc : c ∈ X.fs
    · obtain ⟨sl, q⟩ := slot c o (I.cne x c e) hc nch ho (I.freeC x c e)
      exact ⟨_, q, hd⟩
    · exact ⟨o, keep c o (I.cne x c e) hc nch ho (I.freeC x c e), hd⟩
  refine ⟨I.ok, I.os, hg, ⟨fun b o e n hb hx => ?_, fun b o e n hb hx => ?_, fun b o e n hx => ?_, fun b o e hx => ?_, fun b xs e => tups b xs (I.base.tups b xs e), fun b o xs e => frzs b o xs (I.base.frzs b o xs e), fun b ps e => ?_⟩, ?_, fun x c e => ?_, ?_, fun x c e => ?_, fun p hp => ?_, hok, I.len⟩
  · exact keep b o (neL b o e) hb (neC b o e hx) (I.base.keep b o e n hb hx) (I.base.free b o e n hx)
  · obtain ⟨sl, e1⟩ := I.base.slot b o e n hb hx
    obtain ⟨sl', e2⟩ := slot b _ (neL b o e) hb (neC b o e hx) e1 (I.base.free b o e n hx)
    exact ⟨sl', e2⟩
  · obtain ⟨o', e1⟩ := I.base.there b o e hx
    exact free b o' (neC b o e hx) e1 (I.base.free b o e n hx)
  · obtain ⟨o', e1⟩ := I.base.there b o e hx
    exact there b o' (neC b o e hx) e1
  · obtain ⟨m1, e1⟩ := I.base.tbls b ps e
    obtain ⟨m2, e2⟩ := tbls b _ e1
    exact ⟨m1 ++ m2, by rw [e2, Array.append_assoc]⟩
  · obtain ⟨m, hn, hl⟩ := I.loc
    refine ⟨m, ns m hn, fun i x v e1 e2 e3 => ?_⟩
    obtain ⟨u, r, l⟩ := hl i x v e1 e2 e3
    refine ⟨u, r, ?_⟩
    rcases l with l | ⟨k, c, e, z⟩
    · exact .inl l
    · exact .inr ⟨k, c, e, cellK x c e _ z⟩
  · obtain ⟨v, z⟩ := I.cell x c e
    exact ⟨v, cellK x c e v z⟩
  · obtain ⟨m, ⟨o, _, _, ho, _⟩, _⟩ := I.loc
    exact free _ o (fun z => (hch _ z).2.1 rfl) ho I.free
  · obtain ⟨v, o, ho, hd⟩ := I.cell x c e
    exact free c o (fun z => (hch c z).2.2.1 x c e rfl) ho (I.freeC x c e)
  · obtain ⟨e, n, ne, nf, d⟩ := I.pin p hp
    have nch : p.1 ∉ ch := fun z => (hch p.1 z).2.2.2 p hp rfl
    exact ⟨keep p.1 p.2 ne nf nch e n, free p.1 p.2 nch e n, ne, nf, d⟩
/-- .. where the frame's own object is kept too -/
theorem Inv.un {t' : Nat} (I : Inv X pins σ H s) (u : Un X.fs [] H H' s.heap h') (hok : HOk X.prog X.w H' h') : Inv X pins σ H' { s with heap := h', toks := t' } := by
  obtain ⟨m, ⟨o, es, ep, ho, r⟩, _⟩ := id I.loc
  obtain ⟨sl, hL⟩ := u.any ho I.free (by simp)
  exact I.step (g' := s.gens) (d' := s.drawn) (ch := []) (fun _ z => nomatch z) (fun b o _ hb _ e n => u.keep b o e n hb (by simp)) (fun b o _ hb _ e n => u.slot b o e n hb (by simp)) (fun b o _ e n => u.free b o e n (by simp)) (fun b o _ e => u.there b o e (by simp)) u.tups u.frzs u.tbls (fun m' hm => by
    obtain ⟨o', es', ep', ho', r'⟩ := hm
    rw [ho] at ho'; cases ho'
    exact ⟨_, es', ep', hL, r'⟩) hok I.bare
/-- behind a call (or a comprehension's block): the slots of this frame may have changed too, the records at ch may have turned -/
theorem Inv.call {g' : Array GenState} {t' : Nat} {d' : Drawn} {ch : List Addr} (I : Inv X pins σ H s) (u : Un (frs X.stack) ch H H' s.heap h') (hok : HOk X.prog X.w H' h') (hg : AllBare g')
    (hch : ∀ b ∈ ch, (b ∈ X.ex ∨ X.s₀.heap.objs.size ≤ b) ∧ b ≠ X.env.locals ∧ (∀ x c, X.env.cells.lookup x = some c → c ≠ b) ∧ ∀ p ∈ X.pn ++ pins, p.1 ≠ b) :
    Inv X pins σ H' { s with heap := h', gens := g', drawn := d', toks := t' } := by
  obtain ⟨m, ⟨o, es, ep, ho, r⟩, _⟩ := id I.loc
  obtain ⟨sl, hL⟩ := u.any ho I.free fun z => (hch _ z).2.1 rfl
  exact I.step (ch := ch) hch (fun b o hL hb hc e n => u.keep b o e n (fun z => (List.mem_cons.mp (I.stkSub b z)).elim hL hb) hc) (fun b o _ _ hc e n => u.any e n hc) (fun b o hc e n => u.free b o e n hc) (fun b o hc e => u.there b o e hc) u.tups u.frzs u.tbls (fun m' hm => by
    obtain ⟨o', es', ep', ho', r'⟩ := hm
    rw [ho] at ho'; cases ho'
    exact ⟨_, es', ep', hL, r'⟩) hok hg
/-- an untracked record of ours (an iterator) has turned -/
theorem Inv.turned {t' : Nat} {it : Addr} (I : Inv X pins σ H s) (k : ∀ b o, b ≠ it → s.heap.get? b = some o → h'.get? b = some o) (hn : H it = none) (hL : it ≠ X.env.locals)
    (h1 : it ∈ X.ex ∨ X.s₀.heap.objs.size ≤ it) (h2 : ∀ x c, X.env.cells.lookup x = some c → c ≠ it) (h3 : ∀ p ∈ X.pn ++ pins, p.1 ≠ it) : Inv X pins σ H { s with heap := h', toks := t' } := by
  have nit : ∀ b u, H b = some u → b ≠ it := fun b u e z => by rw [z, hn] at e; cases e
  refine I.step (g' := s.gens) (d' := s.drawn) (ch := [it]) (fun b hb => ?_) (fun b o _ _ hc e _ => k b o (fun z => hc (by simp [z])) e) (fun b o _ _ hc e _ => ⟨o.slots, k b o (fun z => hc (by simp [z])) e⟩) (fun _ _ _ _ n => n)
    (fun b o hc e => ⟨o, k b o (fun z => hc (by simp [z])) e⟩) (fun _ _ e => e) (fun _ _ _ e => e) (fun b ps e => ⟨#[], by rw [e]; simp⟩) (fun m hm => ?_) (fun b u e => ?_) I.bare
  · have e : b = it := by simpa using hb
    subst e
    exact ⟨h1, hL, h2, h3⟩
  · obtain ⟨o, es, ep, ho, r⟩ := hm
    exact ⟨o, es, ep, k _ o (Ne.symm hL) ho, r⟩
  · refine (I.hok b u e).stay (fun c v hc q => k c v ?_ q) (fun _ q => q) fun _ _ q => q
    rcases hc with z | z
    · rw [z]; exact nit b u e
    · exact nit c _ z
theorem Inv.tok (I : Inv X pins σ H s) (t : Nat) : Inv X pins σ H { s with toks := t } := I.un (h' := s.heap) (t' := t) Un.refl I.hok
/-- all objects kept -/
theorem Inv.kept {t' : Nat} (I : Inv X pins σ H s) (k : ∀ b u, s.heap.get? b = some u → h'.get? b = some u) : Inv X pins σ H { s with heap := h', toks := t' } := I.un (Un.kept k) (I.hok.kept k)
/-- a new object laid and tracked -/
theorem Inv.laid {a : Addr} {o : HO} {t' : Nat} (I : Inv X pins σ H s) (k : ∀ b u, s.heap.get? b = some u → h'.get? b = some u) (hp : s.heap.objs.size ≤ a) (new : ObjOk X.prog X.w (upd H a o) h' a o) :
    Inv X pins σ (upd H a o) { s with heap := h', toks := t' } := I.un (Un.laid k hp (I.hok.fresh hp)) (I.hok.laid k hp new)
/-- an object written -/
theorem Inv.write {x e : Addr} {o : HO} {t' : Nat} (I : Inv X pins σ H s) (mu : Mut (H x)) (he : e = x ∨ H e = some (.own x)) (k : ∀ b u, b ≠ e → s.heap.get? b = some u → h'.get? b = some u) (heo : ∃ u, h'.get? e = some u)
    (new : ObjOk X.prog X.w (upd H x o) h' x o) : Inv X pins σ (upd H x o) { s with heap := h', toks := t' } := I.un (Un.write mu he k heo) (I.hok.write mu he k heo new)
/-- forgetting slots, pins -/
theorem Inv.weak {σ' : List (Option V)} (I : Inv X pins σ H s) (hl : σ'.length = σ.length) (w : ∀ (i : Nat) v, σ'[i]? = some (some v) → σ[i]? = some (some v)) : Inv X pins σ' H s :=
  ⟨I.ok, I.os, I.bare, I.base, let ⟨m, hn, hl'⟩ := I.loc; ⟨m, hn, fun i x v e1 e2 e3 => hl' i x v e1 (w i v e2) e3⟩, I.cell, I.free, I.freeC, I.pin, I.hok, hl.trans I.len⟩
theorem Inv.pins_of {pins' : List (Addr × Obj)} (I : Inv X pins σ H s) (h : ∀ p ∈ pins', s.heap.get? p.1 = some p.2 ∧ H p.1 = none ∧ p.1 ≠ X.env.locals ∧ p.1 ∉ X.fs ∧ ∀ v, p.2.data ≠ .cell v) : Inv X pins' σ H s :=
  ⟨I.ok, I.os, I.bare, I.base, I.loc, I.cell, I.free, I.freeC, fun p hp => (List.mem_append.mp hp).elim (fun z => I.pin p (List.mem_append_left _ z)) (h p), I.hok, I.len⟩

theorem nodup_ix {N : List Str} (hN : N.Nodup) {i j : Nat} {x : Str} (a : N[i]? = some x) (b : N[j]? = some x) : i = j := by
  obtain ⟨h1, e1⟩ := List.getElem?_eq_some_iff.mp a
  obtain ⟨h2, e2⟩ := List.getElem?_eq_some_iff.mp b
  exact (List.getElem_inj hN).mp (e1.trans e2.symm)

/-- a name is stored; what changed -/
theorem store_ok2 {M : Model} {A : Around} {E : Value → Shared → Prop} {i : Nat} {x : Str} {v : V} {u : Value} {Q : Unit → Shared → Prop} (I : Inv X pins σ H s) (hN : X.N.Nodup) (hi : X.N[i]? = some x) (hx : Loc X.env.scope x) (r : RelV v u)
    (h : ∀ s', Inv X pins (σ.set i (some v)) H s' → (∃ a, Heap.SameBut a s.heap s'.heap ∧ (a = X.env.locals ∨ X.env.cells.lookup x = some a)) → Q () s') (hf : X.fn x = true ∨ X.env.scope.names.lookup x = some .local := by first | exact .inl rfl | exact .inr rfl | assumption) : wpAny M A (storeName X.env x u) Q E s := by
  obtain ⟨m, hn, hl⟩ := id I.loc
  have hcls : (X.env.scope.kind == .class || (X.env.scope.kind == .module && X.env.locals != X.env.globals)) = false := by rw [I.ok.kind]; rfl
  have hiσ : i < σ.length := by rw [I.len]; exact (List.getElem?_eq_some_iff.mp hi).1
  have cne := I.cne
  have tracked : ∀ {a : Addr} {h' : Heap}, (∃ o, s.heap.get? a = some o ∧ H a = none) → Heap.SameBut a s.heap h' → HOk X.prog X.w H h' := fun {a h'} ha hs b ob e => by
    obtain ⟨_, _, hfree⟩ := ha
    refine (I.hok b ob e).stay (fun c w' hc q => (hs.2 c ?_).trans q) (fun _ q => q) fun _ _ q => q
    rintro rfl
    rcases hc with rfl | hc
    · rw [hfree] at e; cases e
    · rw [hfree] at hc; cases hc
  rcases hx with hk | hk
  · refine wpAny_storeName_local hk hn (fun h' hn' hs => ?_) hcls
    obtain ⟨oL, _, _, hoL, _⟩ := id hn
    refine h _ ⟨I.ok, I.os, I.bare, ⟨fun b o e n hb hx => ?_, fun b o e n hb hx => ?_, I.base.free, fun b o e hx => ?_, I.base.tups, I.base.frzs, I.base.tbls⟩, ⟨_, hn', fun j y v' e1 e2 e3 => ?_⟩, fun y c e => ?_, I.free, I.freeC, fun p hp => ?_, tracked ⟨oL, hoL, I.free⟩ hs, by simpa using I.len⟩ ⟨_, hs, .inl rfl⟩
    · exact (hs.2 b (Nat.ne_of_lt (Nat.lt_of_lt_of_le (Heap.lt_size e) I.ok.above))).trans (I.base.keep b o e n hb hx)
    · obtain ⟨sl, e1⟩ := I.base.slot b o e n hb hx
      exact ⟨sl, (hs.2 b (Nat.ne_of_lt (Nat.lt_of_lt_of_le (Heap.lt_size e) I.ok.above))).trans e1⟩
    · obtain ⟨o', e1⟩ := I.base.there b o e hx
      exact ⟨o', (hs.2 b (Nat.ne_of_lt (Nat.lt_of_lt_of_le (Heap.lt_size e) I.ok.above))).trans e1⟩
    · by_cases hj : j = i
      · subst hj
        rw [hi] at e1; cases e1
        rw [List.getElem?_set_self hiσ] at e2
        cases e2
        exact ⟨u, r, .inl ⟨hk, by simp⟩⟩
      · rw [List.getElem?_set_ne (Ne.symm hj)] at e2
        obtain ⟨u', r', q⟩ := hl j y v' e1 e2 e3
        refine ⟨u', r', ?_⟩
        rcases q with ⟨k, e⟩ | ⟨k, c, e, z⟩
        · refine .inl ⟨k, ?_⟩
          have : y ≠ x := fun e => hj (nodup_ix hN e1 (e ▸ hi))
          simp [this, e]
        · exact .inr ⟨k, c, e, z.sameBut hs (cne y c e)⟩
    · obtain ⟨w', z⟩ := I.cell y c e
      exact ⟨w', z.sameBut hs (cne y c e)⟩
    · obtain ⟨e, n, ne, nf, d⟩ := I.pin p hp
      exact ⟨(hs.2 p.1 ne).trans e, n, ne, nf, d⟩
  · have hfn : X.fn x = true := by
      rcases hf with z | z
      · exact z
      · rw [z] at hk; cases hk
    obtain ⟨c, hc⟩ := I.ok.has x (.inl hk)
    obtain ⟨w', z⟩ := I.cell x c hc
    refine wpAny_storeName_cell I.ok.kind hk hc z (fun h' hc' hs => ?_)
    obtain ⟨oc, hoc, hocd⟩ := id z
    refine h { s with heap := h' } ⟨I.ok, I.os, I.bare, ⟨fun b o e n hb hx => ?_, fun b o e n hb hx => ?_, I.base.free, fun b o e hx => ?_, I.base.tups, I.base.frzs, I.base.tbls⟩, ⟨m, hn.sameBut hs (Ne.symm (cne x c hc)), fun j y v' e1 e2 e3 => ?_⟩, fun y c' e => ?_, I.free, I.freeC, fun p hp => ?_, tracked ⟨oc, hoc, I.freeC x c hc⟩ hs, by simpa using I.len⟩ ⟨c, hs, .inr hc⟩
    · exact (hs.2 b (Nat.ne_of_lt (Nat.lt_of_lt_of_le (Heap.lt_size e) (I.ok.cab x c hfn hc)))).trans (I.base.keep b o e n hb hx)
    · obtain ⟨sl, e1⟩ := I.base.slot b o e n hb hx
      exact ⟨sl, (hs.2 b (Nat.ne_of_lt (Nat.lt_of_lt_of_le (Heap.lt_size e) (I.ok.cab x c hfn hc)))).trans e1⟩
    · obtain ⟨o', e1⟩ := I.base.there b o e hx
      exact ⟨o', (hs.2 b (Nat.ne_of_lt (Nat.lt_of_lt_of_le (Heap.lt_size e) (I.ok.cab x c hfn hc)))).trans e1⟩
    · by_cases hj : j = i
      · subst hj
        rw [hi] at e1; cases e1
        rw [List.getElem?_set_self hiσ] at e2
        cases e2
        exact ⟨u, r, .inr ⟨.inl hk, c, hc, hc'⟩⟩
      · rw [List.getElem?_set_ne (Ne.symm hj)] at e2
        obtain ⟨u', r', q⟩ := hl j y v' e1 e2 e3
        refine ⟨u', r', ?_⟩
        rcases q with q | ⟨k, c', e, z'⟩
        · exact .inl q
        · refine .inr ⟨k, c', e, z'.sameBut hs ?_⟩
          rintro rfl
          exact hj (nodup_ix hN e1 (I.ok.inj _ _ _ e hc ▸ hi))
    · by_cases hcc : c' = c
      · subst hcc; exact ⟨_, hc'⟩
      · obtain ⟨w2, z2⟩ := I.cell y c' e
        exact ⟨w2, z2.sameBut hs hcc⟩
    · obtain ⟨e, n, ne, nf, d⟩ := I.pin p hp
      refine ⟨(hs.2 p.1 ?_).trans e, n, ne, nf, d⟩
      intro q
      rw [q, hoc] at e
      have q' : oc = p.2 := Option.some.inj e
      exact d w' (by rw [← q']; exact hocd)
theorem store_ok {M : Model} {A : Around} {E : Value → Shared → Prop} {i : Nat} {x : Str} {v : V} {u : Value} {Q : Unit → Shared → Prop} (I : Inv X pins σ H s) (hN : X.N.Nodup) (hi : X.N[i]? = some x) (hx : Loc X.env.scope x) (r : RelV v u)
    (h : ∀ s', Inv X pins (σ.set i (some v)) H s' → Q () s') (hf : X.fn x = true ∨ X.env.scope.names.lookup x = some .local := by first | exact .inl rfl | exact .inr rfl | assumption) : wpAny M A (storeName X.env x u) Q E s :=
  store_ok2 I hN hi hx r (fun s' I' _ => h s' I') hf
/-- behind a call or a block, the state as it is -/
theorem Inv.call' {s' : Shared} {ch : List Addr} (I : Inv X pins σ H s) (ho : s'.os = s.os) (u : Un (frs X.stack) ch H H' s.heap s'.heap) (hok : HOk X.prog X.w H' s'.heap) (hg : AllBare s'.gens)
    (hch : ∀ b ∈ ch, (b ∈ X.ex ∨ X.s₀.heap.objs.size ≤ b) ∧ b ≠ X.env.locals ∧ (∀ x c, X.env.cells.lookup x = some c → c ≠ b) ∧ ∀ p ∈ X.pn ++ pins, p.1 ≠ b) : Inv X pins σ H' s' := by
  obtain ⟨h', g', d', t', o'⟩ := s'
  have e : o' = s.os := ho
  subst e
  exact I.call (g' := g') (t' := t') (d' := d') u hok hg hch
end

/-! ### the judgements -/
/-- an exception: its class, its own dict's address (where it has one), the abstract heap behind it -/
abbrev XK := Value → Option Addr → Hp → Prop
abbrev St := List (Option V)
abbrev VK := V → Hp → Prop
/-- an expression's reading; a test's; an argument list's -/
abbrev TE := St → Hp → VK → Prop
abbrev TT := St → Hp → (Bool → Hp → Prop) → Prop
abbrev TA := St → Hp → (List V → Hp → Prop) → Prop
/-- what is wanted behind a statement -/
structure Ends where
  nx : St → Hp → Prop
  rt : VK
  bk : St → Hp → Prop := fun _ _ => False
  ct : St → Hp → Prop := fun _ _ => False
abbrev TS := Ends → St → Hp → Prop

def EP (X : Cx) (pins : List (Addr × Obj)) (σ : St) (Q : VK) (u : Value) (s' : Shared) : Prop := ∃ v H', Inv X pins σ H' s' ∧ RelV v u ∧ Q v H'
def TP (X : Cx) (pins : List (Addr × Obj)) (σ : St) (Q : Bool → Hp → Prop) (b : Bool) (s' : Shared) : Prop := ∃ H', Inv X pins σ H' s' ∧ Q b H'
def AP (X : Cx) (pins : List (Addr × Obj)) (σ : St) (Q : List V → Hp → Prop) (us : List Value) (s' : Shared) : Prop := ∃ vs H', Inv X pins σ H' s' ∧ Vals vs us ∧ Q vs H'
def SP (X : Cx) (pins : List (Addr × Obj)) (D : Ends) (f : Flow) (s' : Shared) : Prop :=
  match f with
  | .next => ∃ σ' H', Inv X pins σ' H' s' ∧ D.nx σ' H'
  | .brk => ∃ σ' H', Inv X pins σ' H' s' ∧ D.bk σ' H'
  | .cont => ∃ σ' H', Inv X pins σ' H' s' ∧ D.ct σ' H'
  | .ret u => ∃ v σ' H', Inv X pins σ' H' s' ∧ RelV v u ∧ D.rt v H'

def PE (X : Cx) (e : Expr) (t : TE) : Prop :=
  ∀ (pins : List (Addr × Obj)) (s : Shared) (σ : St) (H : Hp) (Q : VK), Inv X pins σ H s → t σ H Q → wpAny (model X.prog X.w) X.A (eval e X.env) (EP X pins σ Q) X.xe s
def PT (X : Cx) (e : Expr) (t : TT) : Prop :=
  ∀ (pins : List (Addr × Obj)) (s : Shared) (σ : St) (H : Hp) (Q : Bool → Hp → Prop), Inv X pins σ H s → t σ H Q → wpAny (model X.prog X.w) X.A (isTrue e X.env (eval e X.env)) (TP X pins σ Q) X.xe s
/-- a test whatever its 'whole' is (and, or) -/
def PW (X : Cx) (e : Expr) (t : TT) : Prop :=
  ∀ (whole : Sem Value) (pins : List (Addr × Obj)) (s : Shared) (σ : St) (H : Hp) (Q : Bool → Hp → Prop), Inv X pins σ H s → t σ H Q → wpAny (model X.prog X.w) X.A (isTrue e X.env whole) (TP X pins σ Q) X.xe s
theorem PW.pt {X : Cx} {e : Expr} {t : TT} (h : PW X e t) : PT X e t := h _
/-- an argument list (no star), from the left -/
def PA (X : Cx) (es : List Expr) (t : TA) : Prop :=
  ∀ (pos : Pos) (pins : List (Addr × Obj)) (s : Shared) (σ : St) (H : Hp) (Q : List V → Hp → Prop), Inv X pins σ H s → t σ H Q → wpAny (model X.prog X.w) X.A (spliced (backTo pos (starEach es X.env))) (AP X pins σ Q) X.xe s
def PS (X : Cx) (st : Stmt) (t : TS) : Prop :=
  ∀ (pins : List (Addr × Obj)) (s : Shared) (σ : St) (H : Hp) (D : Ends), Inv X pins σ H s → t D σ H → wpAny (model X.prog X.w) X.A (exec st X.env) (SP X pins D) X.xe s
def PSs (X : Cx) (st : List Stmt) (t : TS) : Prop :=
  ∀ (pins : List (Addr × Obj)) (s : Shared) (σ : St) (H : Hp) (D : Ends), Inv X pins σ H s → t D σ H → wpAny (model X.prog X.w) X.A (execs st X.env) (SP X pins D) X.xe s
/-- weaken the end -/
theorem thn {α : Type} {t : Sem α} {Q Q' : α → Shared → Prop} {M : Model} {A : Around} {E : Value → Shared → Prop} {s : Shared} (h : wpAny M A t Q E s) (hQ : ∀ a s, Q a s → Q' a s) : wpAny M A t Q' E s := wpAny_mono h hQ fun _ _ x => x
end L2

namespace L2
open PySem PySem.Spec PyProof.Rows
section
variable {X : Cx}

/-! ### names and constants -/
def tVar (i : Nat) : TE := fun σ H Q => ∃ v, σ[i]? = some (some v) ∧ Q v H
def tC (v : V) : TE := fun _ H Q => Q v H
theorem pe_var {i : Nat} {x : Str} {pos : Pos} (hN : X.N[i]? = some x) (hv : Vis X.env.scope x) (hd : (x == ("__debug__" : Str)) = false := by decide) (hcd : (x == ("__classdict__" : Str)) = false := by decide) : PE X (.Name x pos) (tVar i) := by
  intro pins s σ H Q I h
  obtain ⟨v, e, h⟩ := h
  obtain ⟨m, hn, hl⟩ := I.loc
  obtain ⟨u, r, l⟩ := hl i x v hN e hv
  have fin : EP X pins σ Q u s := ⟨v, H, I, r, h⟩
  rcases l with ⟨hk, hm⟩ | ⟨hk, c, hc, hcell⟩
  · exact wpAny_Name (wpAny_loadName_local I.ok.kind hk hn hm fin) hd
  · rcases hk with hk | hk
    · exact wpAny_Name (wpAny_loadName_cell I.ok.kind hk hc hcell fin) hd
    · exact wpAny_Name (wpAny_loadName_free I.ok.kind hk hc hcell fin hcd) hd
theorem pe_int {i j pos} : PE X (.Constant (.int i) j pos) (tC (.int i)) := fun _ _ _ H _ I h => wpAny_Constant_int ⟨.int i, H, I.tok _, ⟨_, rfl⟩, h⟩
theorem pe_bl {b j pos} : PE X (.Constant (.bool b) j pos) (tC (.bl b)) := fun _ _ _ H _ I h => Constant_bool ⟨.bl b, H, I, rfl, h⟩
/-- a global name of the def -/
def Gl (X : Cx) (x : Str) : Prop := X.env.kindOf x = some .globalImplicit
theorem ld_glob {E : Value → Shared → Prop} {pins : List (Addr × Obj)} {s : Shared} {σ : St} {H : Hp} {x : Str} {u : Value} {pos : Pos} {Q : Value → Shared → Prop} (I : Inv X pins σ H s) (hg : Gl X x) (hm : X.mg x = some u) (h : Q u s)
    (hd : (x == ("__debug__" : Str)) = false := by decide) : wpAny (model X.prog X.w) X.A (eval (.Name x pos) X.env) Q E s :=
  Calls.Name_function_global I.ok.kind hg (Calls.loadGlobal_global (by rw [I.ok.glob]; exact I.mod.glob.keeps I.bk) hm h) hd
theorem ld_blt {E : Value → Shared → Prop} {pins : List (Addr × Obj)} {s : Shared} {σ : St} {H : Hp} {x : Str} {u : Value} {pos : Pos} {Q : Value → Shared → Prop} (I : Inv X pins σ H s) (hg : Gl X x) (hm : X.mg x = none) (hv : bootBuiltins x = some u) (h : Q u s)
    (hn : x ≠ "__name__" := by decide) (hd : (x == ("__debug__" : Str)) = false := by decide) : wpAny (model X.prog X.w) X.A (eval (.Name x pos) X.env) Q E s := by
  obtain ⟨mb, h1, h2⟩ := I.mod.blt
  exact Calls.Name_function_global I.ok.kind hg (Calls.loadGlobal_builtin (by rw [I.ok.glob]; exact I.mod.glob.keeps I.bk) hm (by rw [I.ok.blt]; exact h1.keeps I.bk) ((h2 x hn).trans hv) h) hd
theorem pe_bltn {x : Str} {v : V} {u : Value} {pos : Pos} (hg : Gl X x) (hm : X.mg x = none) (hv : bootBuiltins x = some u) (r : RelV v u) (hn : x ≠ "__name__" := by decide) (hd : (x == ("__debug__" : Str)) = false := by decide) : PE X (.Name x pos) (tC v) :=
  fun _ _ _ H _ I h => ld_blt I hg hm hv ⟨v, H, I, r, h⟩ hn hd

/-! ### arithmetic -/
variable {a b : Expr} {ta tb : TE} {pos : Pos}
/-! ### comparisons -/
/-! ### and, or, not -/
variable {tA tB' : TT} {rest : List Expr}
def tAnd (t u : TT) : TT := fun σ H Q => t σ H fun c H1 => if c = true then u σ H1 Q else Q false H1
def tOr (t u : TT) : TT := fun σ H Q => t σ H fun c H1 => if c = true then Q true H1 else u σ H1 Q
def tNot (t : TT) : TT := fun σ H Q => t σ H fun c H1 => Q (!c) H1
theorem pw_and1 (ha : PT X a tA) : PW X (.BoolOp .And [a] pos) tA := by
  intro wh pins s σ H Q I h
  refine isTrue_and (thn (ha pins s σ H Q I h) fun c s1 e => ?_)
  cases c with
  | true => exact isTrue_and_nil e
  | false => exact e
theorem pw_and (ha : PT X a tA) (hb : PW X (.BoolOp .And (b :: rest) pos) tB') : PW X (.BoolOp .And (a :: b :: rest) pos) (tAnd tA tB') := by
  intro wh pins s σ H Q I h
  refine isTrue_and (thn (ha pins s σ H _ I h) fun c s1 ⟨H1, I1, q1⟩ => ?_)
  cases c with
  | true => exact hb wh pins s1 σ H1 Q I1 q1
  | false => exact ⟨H1, I1, q1⟩
/-- .. as values (bools) -/
def tAndV (ta tb : TE) : TE := fun σ H Q => ta σ H fun x H1 => ∃ c, x = .bl c ∧ if c = true then tb σ H1 Q else Q (.bl false) H1
def tOrV (ta tb : TE) : TE := fun σ H Q => ta σ H fun x H1 => ∃ c, x = .bl c ∧ if c = true then Q (.bl true) H1 else tb σ H1 Q
def tNotV (ta : TE) : TE := fun σ H Q => ta σ H fun x H1 => ∃ c, x = .bl c ∧ Q (.bl (!c)) H1
/-- a if t else b -/
def tIf (t : TT) (ta tb : TE) : TE := fun σ H Q => t σ H fun c H1 => if c = true then ta σ H1 Q else tb σ H1 Q
end
end L2

namespace L2
open PySem PySem.Spec PyProof.Rows

/-! ### a list, a tuple that is read: tracked, frozen, or an object of the module -/
def SqL (K : PySem.W.Frag) (H : Hp) (a : Addr) (xs : List V) : Prop :=
  Rd H a (.lst xs) ∨
    ∃ (o : Obj) (its : Array Value) (n : Nat), K.lookup a = some o ∧ o.cls = .type "list" ∧ o.dict = none ∧ o.data = .seq its n ∧ its.size ≤ sizeLine ∧ Vals xs its.toList
def SqT (K : PySem.W.Frag) (H : Hp) (a : Addr) (xs : List V) : Prop :=
  Rd H a (.tup xs) ∨
    ∃ (o : Obj) (its : Array Value) (n : Nat), K.lookup a = some o ∧ o.cls = .type "tuple" ∧ o.data = .seq its n ∧ its.size ≤ sizeLine ∧ Vals xs its.toList
def absV : Value → Option V
  | .none => some .non
  | .bool b => some (.bl b)
  | .int i _ => some (.int i)
  | .str x _ => some (.str x)
  | .bytes b _ => some (.byt b)
  | .float b _ => some (.flt b)
  | .ref a => some (.ref a)
  | .type n => some (.ty n)
  | _ => none
theorem RelV.abs {x : V} {u : Value} (r : RelV x u) : absV u = some x := by
  cases x with
  | non => cases r; rfl
  | bl _ => cases r; rfl
  | int _ => obtain ⟨t, rfl⟩ := r; rfl
  | str _ => obtain ⟨t, rfl⟩ := r; rfl
  | byt _ => obtain ⟨t, rfl⟩ := r; rfl
  | flt _ => obtain ⟨t, rfl⟩ := r; rfl
  | ref _ => cases r; rfl
  | ty _ => cases r; rfl
theorem RelV.inj {x y : V} {u : Value} (r : RelV x u) (q : RelV y u) : x = y := Option.some.inj (r.abs.symm.trans q.abs)
theorem Vals.inj : ∀ {xs ys : List V} {us : List Value}, Vals xs us → Vals ys us → xs = ys
  | _, _, _, .nil, .nil => rfl
  | _, _, _, .cons r t, .cons r' t' => by rw [r.inj r', Vals.inj t t']
section
variable {X : Cx} {pins : List (Addr × Obj)} {σ : St} {H : Hp} {s : Shared} {a : Addr} {xs ys : List V}
theorem SqL.of {K : PySem.W.Frag} (h : H a = some (.lst xs)) : SqL K H a xs := .inl (.inl h)
theorem SqT.of {K : PySem.W.Frag} (h : H a = some (.tup xs)) : SqT K H a xs := .inl (.inl h)
theorem Inv.list (I : Inv X pins σ H s) (h : SqL X.K H a xs) : ∃ its : List Value, Vals xs its ∧ PlainL s.heap a its.toArray ∧ xs.length ≤ sizeLine := by
  rcases h with h | ⟨o, its, n, hk, hc, hd, hs, hz, r⟩
  · obtain ⟨z, its, n, r, e⟩ := h.ok I.hok
    exact ⟨its, r, ⟨_, n, e, rfl, rfl, rfl⟩, z⟩
  · refine ⟨its.toList, r, ⟨o, n, I.kIn a o hk, hc, hd, by simpa using hs⟩, ?_⟩
    have e := r.length
    simp only [Array.length_toList] at e
    omega
theorem Inv.tuple (I : Inv X pins σ H s) (h : SqT X.K H a xs) : ∃ its : List Value, Vals xs its ∧ IsTup s.heap a its.toArray ∧ xs.length ≤ sizeLine := by
  rcases h with h | ⟨o, its, n, hk, hc, hs, hz, r⟩
  · obtain ⟨z, its, r, p⟩ := h.ok I.hok
    exact ⟨its, r, p, z⟩
  · refine ⟨its.toList, r, ⟨o, I.kIn a o hk, hc, n, by simpa using hs⟩, ?_⟩
    have e := r.length
    simp only [Array.length_toList] at e
    omega
theorem Inv.list_inj (I : Inv X pins σ H s) (h : SqL X.K H a xs) (h' : SqL X.K H a ys) : xs = ys := by
  obtain ⟨its, r, ⟨o, n, e, _, _, d⟩, _⟩ := I.list h
  obtain ⟨its', r', ⟨o', n', e', _, _, d'⟩, _⟩ := I.list h'
  rw [e] at e'; cases e'
  rw [d] at d'
  injection d' with d1 _
  have : its = its' := by simpa using congrArg Array.toList d1
  subst this
  exact r.inj r'
theorem Inv.tuple_inj (I : Inv X pins σ H s) (h : SqT X.K H a xs) (h' : SqT X.K H a ys) : xs = ys := by
  obtain ⟨its, r, ⟨o, e, _, n, d⟩, _⟩ := I.tuple h
  obtain ⟨its', r', ⟨o', e', _, n', d'⟩, _⟩ := I.tuple h'
  rw [e] at e'; cases e'
  rw [d] at d'
  injection d' with d1 _
  have : its = its' := by simpa using congrArg Array.toList d1
  subst this
  exact r.inj r'
end

/-! ### another wish about exceptions -/
abbrev Cx.wish (X : Cx) (E : Value → Shared → Prop) : Cx := { X with xe := E }
/-- no exception leaves -/
abbrev Cx.nox (X : Cx) : Cx := X.wish fun _ _ => False
theorem Cx.Ok.wish {X : Cx} (ok : X.Ok) (E : Value → Shared → Prop) : (X.wish E).Ok :=
  ⟨ok.mod, ok.kind, ok.glob, ok.blt, ok.above, ok.inj, ok.has, ok.cab, ok.hd, ok.frames, ok.stk, ok.exf, ok.bs, ok.bsz, ok.noex, ok.exfs, ok.funs, ok.frf⟩
theorem Cx.Ok.unwish {X : Cx} {E : Value → Shared → Prop} (ok : (X.wish E).Ok) : X.Ok :=
  ⟨ok.mod, ok.kind, ok.glob, ok.blt, ok.above, ok.inj, ok.has, ok.cab, ok.hd, ok.frames, ok.stk, ok.exf, ok.bs, ok.bsz, ok.noex, ok.exfs, ok.funs, ok.frf⟩
section
variable {X : Cx} {pins : List (Addr × Obj)} {σ : St} {H : Hp} {s : Shared} {E : Value → Shared → Prop}
theorem Inv.wish (I : Inv X pins σ H s) (E : Value → Shared → Prop) : Inv (X.wish E) pins σ H s := ⟨I.ok.wish E, I.os, I.bare, I.base, I.loc, I.cell, I.free, I.freeC, I.pin, I.hok, I.len⟩
theorem Inv.unwish (I : Inv (X.wish E) pins σ H s) : Inv X pins σ H s := ⟨I.ok.unwish, I.os, I.bare, I.base, I.loc, I.cell, I.free, I.freeC, I.pin, I.hok, I.len⟩
theorem SP.unwish {D : Ends} {f : Flow} {s' : Shared} (h : SP (X.wish E) pins D f s') : SP X pins D f s' := by
  cases f with
  | next => obtain ⟨σ', H', I, q⟩ := h; exact ⟨σ', H', I.unwish, q⟩
  | brk => obtain ⟨σ', H', I, q⟩ := h; exact ⟨σ', H', I.unwish, q⟩
  | cont => obtain ⟨σ', H', I, q⟩ := h; exact ⟨σ', H', I.unwish, q⟩
  | ret u => obtain ⟨v, σ', H', I, r, q⟩ := h; exact ⟨v, σ', H', I.unwish, r, q⟩
theorem PE.nox {e : Expr} {t : TE} (h : PE X.nox e t) : PE X e t := fun pins s σ H Q I hw =>
  wpAny_mono (h pins s σ H Q (I.wish _) hw) (fun _ _ ⟨v, H', I', r, q⟩ => ⟨v, H', I'.unwish, r, q⟩) fun _ _ z => False.elim z
theorem PT.nox {e : Expr} {t : TT} (h : PT X.nox e t) : PT X e t := fun pins s σ H Q I hw =>
  wpAny_mono (h pins s σ H Q (I.wish _) hw) (fun _ _ ⟨H', I', q⟩ => ⟨H', I'.unwish, q⟩) fun _ _ z => False.elim z
theorem PSs.nox {st : List Stmt} {t : TS} (h : PSs X.nox st t) : PSs X st t := fun pins s σ H D I hw =>
  wpAny_mono (h pins s σ H D (I.wish _) hw) (fun _ _ q => q.unwish) fun _ _ z => False.elim z
end

/-! ### blocks and small statements -/
section
variable {X : Cx} {st : Stmt} {rest : List Stmt} {t u : TS} {e : Expr} {te : TE} {pos : Pos}
def tNext : TS := fun D σ H => D.nx σ H
def tSeq (t u : TS) : TS := fun D σ H => t { D with nx := u D } σ H
theorem pss_nil : PSs X [] tNext := fun _ _ σ H _ I h => wpAny_execs_nil ⟨σ, H, I, h⟩
theorem pss_cons (h1 : PS X st t) (h2 : PSs X rest u) : PSs X (st :: rest) (tSeq t u) := by
  intro pins s σ H D I h
  refine wpAny_execs_cons (thn (h1 pins s σ H { D with nx := u D } I h) fun f s1 q => ?_)
  cases f with
  | next =>
    obtain ⟨σ', H', I', q⟩ := q
    exact h2 pins s1 σ' H' D I' q
  | ret v => exact q
  | brk => exact q
  | cont => exact q
theorem pss_one (h1 : PS X st t) : PSs X [st] t := by
  intro pins s σ H D I h
  refine wpAny_execs_cons (thn (h1 pins s σ H D I h) fun f s1 q => ?_)
  cases f with
  | next => exact wpAny_execs_nil q
  | ret v => exact q
  | brk => exact q
  | cont => exact q
/-- in a def's body nothing is shown -/
theorem Inv.quiet {pins : List (Addr × Obj)} {σ : St} {H : Hp} {s : Shared} (I : Inv X pins σ H s) : interactive X.env = false := by simp [interactive, I.ok.kind]
/-- an expression whose value is dropped -/
def tDrop (te : TE) : TS := fun D σ H => te σ H fun _ H1 => D.nx σ H1
theorem ps_expr (he : PE X e te) (hs : swapsWith e none pos.line X.env = pure false := by rfl) : PS X (.Expr e pos) (tDrop te) := by
  intro pins s σ H D I h
  exact wpAny_Expr_any (thn (he pins s σ H _ I h) fun v s1 ⟨x, H1, I1, r1, q1⟩ => ⟨σ, H1, I1, q1⟩) I.quiet hs
def tRet (te : TE) : TS := fun D σ H => te σ H D.rt
theorem ps_ret (he : PE X e te) : PS X (.Return (some e) pos) (tRet te) := by
  intro pins s σ H D I h
  exact wpAny_Return_some (thn (he pins s σ H _ I h) fun v s1 ⟨x, H1, I1, r1, q1⟩ => ⟨x, σ, H1, I1, r1, q1⟩)
def tRetN : TS := fun D _ H => D.rt .non H
def tIfS (c : TT) (t u : TS) : TS := fun D σ H => c σ H fun b H1 => if b = true then t D σ H1 else u D σ H1
theorem ps_if {c : Expr} {a b : List Stmt} {tc : TT} (hc : PT X c tc) (ha : PSs X a t) (hb : PSs X b u) : PS X (.If c a b pos) (tIfS tc t u) := by
  intro pins s σ H D I h
  refine wpAny_If (thn (hc pins s σ H _ I h) fun d s1 ⟨H1, I1, q1⟩ => ?_)
  cases d with
  | true => exact ha pins s1 σ H1 D I1 q1
  | false => exact hb pins s1 σ H1 D I1 q1
/-- code that the proof never comes to -/
def tNever : TS := fun _ _ _ => False
theorem ps_never : PS X st tNever := fun _ _ _ _ _ _ h => h.elim
end

/-! ### targets -/
abbrev TG := V → St → Hp → (St → Hp → Prop) → Prop
abbrev TGs := List V → St → Hp → (St → Hp → Prop) → Prop
def PG (X : Cx) (target : Expr) (t : TG) : Prop :=
  ∀ (pins : List (Addr × Obj)) (s : Shared) (σ : St) (H : Hp) (v : V) (u : Value) (Q : St → Hp → Prop), Inv X pins σ H s → RelV v u → t v σ H Q →
    wpAny (model X.prog X.w) X.A (assign target X.env u) (fun _ s' => ∃ σ' H', Inv X pins σ' H' s' ∧ Q σ' H') X.xe s
/-- several targets, one after another -/
def PGs (X : Cx) (ts : List Expr) (t : TGs) : Prop :=
  ∀ (pins : List (Addr × Obj)) (s : Shared) (σ : St) (H : Hp) (vs : List V) (us : List Value) (Q : St → Hp → Prop), Inv X pins σ H s → Vals vs us → t vs σ H Q →
    wpAny (model X.prog X.w) X.A (assignInOrder ((assignEach ts X.env).map (·.2)) us) (fun _ s' => ∃ σ' H', Inv X pins σ' H' s' ∧ Q σ' H') X.xe s
/-- o[i] = v, by values -/
abbrev TSet := V → V → V → Hp → (Hp → Prop) → Prop
def PSet (X : Cx) (t : TSet) : Prop :=
  ∀ (pins : List (Addr × Obj)) (s : Shared) (σ : St) (H : Hp) (o i v : V) (ov iv u : Value) (Q : Hp → Prop), Inv X pins σ H s → RelV o ov → RelV i iv → RelV v u → t o i v H Q →
    wpAny (model X.prog X.w) X.A (setItem ov iv u) (fun _ s' => ∃ H', Inv X pins σ H' s' ∧ Q H') X.xe s
section
variable {X : Cx} {pos : Pos}
def gName (i : Nat) : TG := fun v σ H Q => Q (σ.set i (some v)) H
theorem pg_name {i : Nat} {x : Str} (hN : X.N.Nodup) (hi : X.N[i]? = some x) (hx : Loc X.env.scope x) (hf : X.fn x = true ∨ X.env.scope.names.lookup x = some .local := by first | exact .inl rfl | exact .inr rfl | assumption) : PG X (.Name x pos) (gName i) := by
  intro pins s σ H v u Q I r h
  exact wpAny_assign_Name (store_ok I hN hi hx r (fun s' I' => ⟨_, H, I', h⟩) hf)
def gNil : TGs := fun vs σ H Q => vs = [] ∧ Q σ H
def gCons (t : TG) (u : TGs) : TGs := fun vs σ H Q => ∃ v r, vs = v :: r ∧ t v σ H fun σ' H' => u r σ' H' Q
theorem pgs_nil : PGs X [] gNil := by
  intro pins s σ H vs us Q I r h
  obtain ⟨e, h⟩ := h
  subst e
  cases r
  exact assignInOrder_nil ⟨σ, H, I, h⟩
theorem pgs_cons {e : Expr} {es : List Expr} {t : TG} {u : TGs} (h1 : PG X e t) (h2 : PGs X es u)
    (hs : (assignEach (e :: es) X.env).map (·.2) = assign e X.env :: (assignEach es X.env).map (·.2) := by rfl) : PGs X (e :: es) (gCons t u) := by
  intro pins s σ H vs us Q I r h
  obtain ⟨v, vr, e1, h⟩ := h
  subst e1
  cases r with
  | cons r rr =>
    rw [hs]
    refine assignInOrder_cons (thn (h1 pins s σ H _ _ _ I r h) fun _ s1 ⟨σ1, H1, I1, q1⟩ => ?_)
    exact h2 pins s1 σ1 H1 _ _ Q I1 rr q1
/-- (a, b, ..) = a tuple of that length -/
def gTup (K : PySem.W.Frag) (n : Nat) (t : TGs) : TG := fun v σ H Q => ∃ a xs, v = .ref a ∧ SqT K H a xs ∧ xs.length = n ∧ t xs σ H Q
theorem pg_tup {es : List Expr} {k : Nat} {t : TGs} {n : Nat} (hc : X.calm = true) (h : PGs X es t)
    (hn : (assignEach es X.env).length = n := by rfl) (hst : (assignEach es X.env).findIdx? (·.1) = none := by rfl) : PG X (.Tuple es k pos) (gTup X.K n t) := by
  intro pins s σ H v u Q I r hw
  obtain ⟨a, xs, e1, hq, hl, hw⟩ := hw
  subst e1
  cases r
  obtain ⟨its, rv, ht, hz⟩ := I.tuple hq
  refine assign_Tuple_tuple (I.ok.hd hc) ht (by simp [hn, ← hl, rv.length]) hst fun h' hx => ?_
  have I1 : Inv X pins σ H { s with heap := h' } := I.kept (t' := s.toks) fun b o e => hx b o (Nat.ne_of_lt (Heap.lt_size e)) e
  exact h pins _ σ H xs _ Q I1 (by simpa using rv) hw
/-- o[i] = .. -/
def gSub (to ti : TE) (t : TSet) : TG := fun v σ H Q => to σ H fun o H1 => ti σ H1 fun i H2 => t o i v H2 fun H3 => Q σ H3
theorem pg_sub {o i : Expr} {to ti : TE} {t : TSet} (ho : PE X o to) (hi : PE X i ti) (hs : PSet X t)
    (ha : ∀ v, assign (.Subscript o i pos) X.env v = (do
      let ov ← holding [v] (eval o X.env)
      let iv ← holding [v, ov] (eval i X.env)
      standAt pos
      holding [v, ov, iv] (setItem ov iv v)
      release [v, ov, iv] []) := by intro _; rfl) : PG X (.Subscript o i pos) (gSub to ti t) := by
  intro pins s σ H v u Q I r h
  rw [ha]
  refine wpAny_bind (wpAny_holding (thn (ho pins s σ H _ I h) fun ov s1 ⟨x, H1, I1, r1, q1⟩ => ?_))
  refine wpAny_bind (wpAny_holding (thn (hi pins s1 σ H1 _ I1 q1) fun iv s2 ⟨y, H2, I2, r2, q2⟩ => ?_))
  refine wpAny_bind (wpAny_standAt (wpAny_bind (wpAny_holding (thn (hs pins s2 σ H2 x y v ov iv u _ I2 r1 r2 r q2) fun _ s3 ⟨H3, I3, q3⟩ => ?_))))
  exact wpAny_release ⟨σ, H3, I3, q3⟩
/-- target = value -/
def tAsg (te : TE) (g : TG) : TS := fun D σ H => te σ H fun x H1 => g x σ H1 D.nx
theorem ps_asg {tg e : Expr} {te : TE} {g : TG} (he : PE X e te) (hg : PG X tg g) (hs : swapsWithSole [tg] e pos.line X.env = pure false := by rfl) (hw : swappedStores [tg] e X.env = pure none := by rfl)
    (h1 : (assignEach [tg] X.env).map (·.2) = [assign tg X.env] := by rfl) : PS X (.Assign [tg] e pos) (tAsg te g) := by
  intro pins s σ H D I h
  refine wpAny_Assign_stores (thn (he pins s σ H _ I h) fun v s1 ⟨x, H1, I1, r1, q1⟩ => ?_) hs hw
  rw [h1]
  exact thn (hg pins s1 σ H1 x v _ I1 r1 q1) fun _ s2 q => q
/-- name = value -/
theorem ps_set {i : Nat} {x : Str} {e : Expr} {te : TE} {pos' : Pos} (hN : X.N.Nodup) (hi : X.N[i]? = some x) (hx : Loc X.env.scope x) (he : PE X e te) (hs : swapsWith e (some (.Name x pos')) pos.line X.env = pure false := by rfl) (hf : X.fn x = true ∨ X.env.scope.names.lookup x = some .local := by first | exact .inl rfl | exact .inr rfl | assumption) :
    PS X (.Assign [.Name x pos'] e pos) (tAsg te (gName i)) := by
  intro pins s σ H D I h
  refine wpAny_Assign_Name (thn (he pins s σ H _ I h) fun v s1 ⟨y, H1, I1, r1, q1⟩ => ?_) hs
  exact store_ok I1 hN hi hx r1 (fun s2 I2 => ⟨_, H1, I2, q1⟩) hf
end

/-! ### while -/
section
variable {X : Cx} {pos : Pos}
/-- the invariant W with its measure -/
def tWhile (c : TT) (tb : TS) : TS := fun D σ H => ∃ W : Nat → St → Hp → Prop, (∃ m, W m σ H) ∧ ∀ m σ H, W m σ H →
  c σ H fun b H1 => if b = true then ∃ N : St → Hp → Prop, (∀ σ' H', N σ' H' → ∃ m', m' < m ∧ W m' σ' H') ∧ tb { D with nx := N, ct := N, bk := D.nx } σ H1 else D.nx σ H1
end

/-! ### what a loop or a comprehension walks -/
/-- at turn i: it yields x (the heap may grow), or it stops -/
structure It where
  go : Nat → Hp → Prop
  yld : Nat → Hp → V → Hp → Prop
  stop : Nat → Hp → Prop
/-- the iterator's own objects may turn: they are not the frame's, not pinned, younger than the entry (or a comprehension's own) -/
def FpOk (X : Cx) (pins : List (Addr × Obj)) (H : Hp) (b : Addr) : Prop :=
  H b = none ∧ b ≠ X.env.locals ∧ b ∉ X.fs ∧ (b ∈ X.ex ∨ X.s₀.heap.objs.size ≤ b) ∧ (∀ x c, X.env.cells.lookup x = some c → c ≠ b) ∧ ∀ p ∈ X.pn ++ pins, p.1 ≠ b
theorem Inv.fpOk {X : Cx} {pins : List (Addr × Obj)} {σ : St} {H H' : Hp} {s : Shared} {b : Addr} (I : Inv X pins σ H s) (hb : s.heap.objs.size ≤ b) (hn : H' b = none) : FpOk X pins H' b := by
  refine ⟨hn, Nat.ne_of_gt (Nat.lt_of_lt_of_le I.lt hb), I.nofs hb, .inr (Nat.le_trans I.sz hb), fun x c e z => ?_, fun p hp z => ?_⟩
  · obtain ⟨v, q⟩ := I.cell x c e
    exact absurd (Nat.lt_of_lt_of_le q.lt (by rw [z]; exact hb)) (Nat.lt_irrefl _)
  · exact absurd (Nat.lt_of_lt_of_le (Heap.lt_size (I.pin p hp).1) (by rw [z]; exact hb)) (Nat.lt_irrefl _)
structure Turn (P : Program) (w : World) (K : PySem.W.Frag) (tg : Expr) (J : It) (fp : List Addr) (it : Addr) (tn : Nat → Heap → Prop) : Prop where
  mem : it ∈ fp
  obj : ∀ i h, tn i h → ∀ b ∈ fp, ∃ o, h.get? b = some o ∧ ∀ v, o.data ≠ .cell v
  keep : ∀ i h h', tn i h → (∀ b ∈ fp, ∀ o, h.get? b = some o → h'.get? b = some o) → tn i h'
  item : ∀ (X : Cx), X.prog = P → X.w = w → X.K = K → X.calm = true → ∀ (i : Nat) (pins : List (Addr × Obj)) (s : Shared) (σ : St) (H : Hp) (E : Value → Shared → Prop), Inv X pins σ H s → (∀ b ∈ fp, FpOk X pins H b) → tn i s.heap → J.go i H →
    wpAny (model P w) X.A (pyNext (.ref it)) (fun r s1 => ∃ u, r = some u ∧
      wpAny (model P w) X.A (letOwnedTupleGo tg (.ref it) u) (fun _ s2 => ∃ x H', Inv X pins σ H' s2 ∧ RelV x u ∧ J.yld i H x H' ∧ tn (i + 1) s2.heap ∧ ∀ b ∈ fp, H' b = none) E s1) E s
  done : ∀ (X : Cx), X.prog = P → X.w = w → X.K = K → X.calm = true → ∀ (i : Nat) (pins : List (Addr × Obj)) (s : Shared) (σ : St) (H : Hp) (E : Value → Shared → Prop), Inv X pins σ H s → (∀ b ∈ fp, FpOk X pins H b) → tn i s.heap → J.stop i H →
    wpAny (model P w) X.A (pyNext (.ref it)) (fun r s1 => r = none ∧ Inv X pins σ H s1) E s
  self : ∀ (A : Around) (i : Nat) (s : Shared) (Q : Value → Shared → Prop) (E : Value → Shared → Prop), tn i s.heap → Q (.ref it) s → wpAny (model P w) A (pyIter (.ref it)) Q E s
abbrev TI := St → Hp → (It → Hp → Prop) → Prop
/-- an iterator has come -/
def PIE (X : Cx) (pins : List (Addr × Obj)) (σ : St) (tg : Expr) (R : It → Hp → Prop) (itv : Value) (s2 : Shared) : Prop :=
  ∃ (it : Addr) (fp : List Addr) (tn : Nat → Heap → Prop) (J : It) (H' : Hp), itv = .ref it ∧ Inv X pins σ H' s2 ∧ Turn X.prog X.w X.K tg J fp it tn ∧ tn 0 s2.heap ∧ (∀ b ∈ fp, FpOk X pins H' b) ∧ R J H'
def PI (X : Cx) (tg iter : Expr) (wi : TI) : Prop :=
  ∀ (pins : List (Addr × Obj)) (s : Shared) (σ : St) (H : Hp) (R : It → Hp → Prop), Inv X pins σ H s → wi σ H R →
    wpAny (model X.prog X.w) X.A (eval iter X.env) (fun v s1 => wpAny (model X.prog X.w) X.A (pyIter v) (PIE X pins σ tg R) X.xe s1) X.xe s

/-- the step ahead of the store is nothing for an iterator that keeps no tuple -/
theorem go_of {M : Model} {A : Around} {E : Value → Shared → Prop} {s : Shared} {tg : Expr} {it : Addr} {u : Value} {o : Obj} {n : String} {vs : Array Value} {Q : Unit → Shared → Prop} (ho : s.heap.get? it = some o) (hc : o.cls = .type n) (hd : o.data = .fields vs)
    (hn : ["enumerate", "zip", "dict_itemiterator", "dict_reverseitemiterator", "odict_iterator", "itertools.zip_longest", "itertools.pairwise"].contains n = false) (hQ : Q () s) : wpAny M A (letOwnedTupleGo tg (.ref it) u) Q E s := by
  unfold letOwnedTupleGo
  cases tg <;> first
    | exact wpAny_pure hQ
    | (cases u <;> first
        | exact wpAny_pure hQ
        | (refine wpAny_bind (wpAny_load ho ?_)
           rw [hc, hd]
           show wpAny M A (if (["enumerate", "zip", "dict_itemiterator", "dict_reverseitemiterator", "odict_iterator", "itertools.zip_longest", "itertools.pairwise"].contains n && vs[0]? == some (rawInt _)) = true then _ else _) Q E s
           rw [if_neg (by intro h; rw [hn, Bool.false_and] at h; cases h)]
           exact wpAny_pure hQ))

/-- the list at a, as it stands at each turn (a loop may append to it) -/
def Itl (K : PySem.W.Frag) (a : Addr) : It :=
  ⟨fun i H => ∃ xs x, SqL K H a xs ∧ xs[i]? = some x, fun i H x H' => H' = H ∧ ∀ xs, SqL K H a xs → xs[i]? = some x, fun i H => ∃ xs, SqL K H a xs ∧ xs.length ≤ i⟩
def Itt (K : PySem.W.Frag) (a : Addr) : It :=
  ⟨fun i H => ∃ xs x, SqT K H a xs ∧ xs[i]? = some x, fun i H x H' => H' = H ∧ ∀ xs, SqT K H a xs → xs[i]? = some x, fun i H => ∃ xs, SqT K H a xs ∧ xs.length ≤ i⟩
/-- lo, lo + 1, .. (n of them) -/
def Itr (lo : Int) (n : Nat) : It := ⟨fun i _ => i < n, fun i H x H' => H' = H ∧ x = .int (lo + i), fun i _ => n ≤ i⟩
theorem turn_list {P : Program} {w : World} {K : PySem.W.Frag} {tg : Expr} (a it : Addr) : Turn P w K tg (Itl K a) [it] it (fun i h => h.IsListIter it a i) where
  mem := by simp
  obj := fun i h st b hb => by
    have e : b = it := by simpa using hb
    subst e
    obtain ⟨o, e, c, d⟩ := st
    exact ⟨o, e, fun v z => by rw [d] at z; cases z⟩
  keep := fun i h h' st k => st.at fun o e => k it (by simp) o e
  item := by
    intro X hP hw hK hc i pins s σ H E I hf st hg
    subst hP hw hK
    obtain ⟨xs, x, hq, hx⟩ := hg
    obtain ⟨its, rv, p, hz⟩ := I.list hq
    obtain ⟨u, hu, ru⟩ := rv.get hx
    obtain ⟨f0, f1, f2, f3, f4, f5⟩ := hf it (by simp)
    refine wpAny_pyNext_list_item st p.isList (x := u) (by simpa using hu) fun h' st' sb => ?_
    have I1 : Inv X pins σ H { s with heap := h' } := I.turned (t' := s.toks) (fun b o hb e => (sb.2 b hb).trans e) f0 f1 f3 f4 f5
    obtain ⟨o, e, c, d⟩ := id st'
    exact ⟨u, rfl, go_of (s := { s with heap := h' }) e c d (by decide) ⟨x, H, I1, ru, ⟨rfl, fun ys hy => by rw [I.list_inj hy hq]; exact hx⟩, st', fun b hb => (hf b hb).1⟩⟩
  done := by
    intro X hP hw hK hc i pins s σ H E I hf st hg
    subst hP hw hK
    obtain ⟨xs, hq, hx⟩ := hg
    obtain ⟨its, rv, p, hz⟩ := I.list hq
    obtain ⟨f0, f1, f2, f3, f4, f5⟩ := hf it (by simp)
    have hl := rv.length
    exact wpAny_pyNext_list_end (I.ok.hd hc) st p.isList (by simp; omega) fun h' eb => ⟨rfl, I.turned (t' := s.toks) (fun b o hb e => eb b o hb e) f0 f1 f3 f4 f5⟩
  self := fun _ _ _ _ _ st h => wpAny_pyIter_listiter st h
theorem turn_tuple {P : Program} {w : World} {K : PySem.W.Frag} {tg : Expr} (a it : Addr) : Turn P w K tg (Itt K a) [it] it (fun i h => h.IsTupleIter it a i) where
  mem := by simp
  obj := fun i h st b hb => by
    have e : b = it := by simpa using hb
    subst e
    obtain ⟨o, e, c, d⟩ := st
    exact ⟨o, e, fun v z => by rw [d] at z; cases z⟩
  keep := fun i h h' st k => st.at fun o e => k it (by simp) o e
  item := by
    intro X hP hw hK hc i pins s σ H E I hf st hg
    subst hP hw hK
    obtain ⟨xs, x, hq, hx⟩ := hg
    obtain ⟨its, rv, p, hz⟩ := I.tuple hq
    obtain ⟨u, hu, ru⟩ := rv.get hx
    obtain ⟨f0, f1, f2, f3, f4, f5⟩ := hf it (by simp)
    refine wpAny_pyNext_tuple_item st (show s.heap.IsTuple a its.toArray from p) (x := u) (by simpa using hu) fun h' st' sb => ?_
    have I1 : Inv X pins σ H { s with heap := h' } := I.turned (t' := s.toks) (fun b o hb e => (sb.2 b hb).trans e) f0 f1 f3 f4 f5
    obtain ⟨o, e, c, d⟩ := id st'
    exact ⟨u, rfl, go_of (s := { s with heap := h' }) e c d (by decide) ⟨x, H, I1, ru, ⟨rfl, fun ys hy => by rw [I.tuple_inj hy hq]; exact hx⟩, st', fun b hb => (hf b hb).1⟩⟩
  done := by
    intro X hP hw hK hc i pins s σ H E I hf st hg
    subst hP hw hK
    obtain ⟨xs, hq, hx⟩ := hg
    obtain ⟨its, rv, p, hz⟩ := I.tuple hq
    obtain ⟨f0, f1, f2, f3, f4, f5⟩ := hf it (by simp)
    have hl := rv.length
    exact wpAny_pyNext_tuple_end (I.ok.hd hc) st (show s.heap.IsTuple a its.toArray from p) (by simp; omega) fun h' eb => ⟨rfl, I.turned (t' := s.toks) (fun b o hb e => eb b o hb e) f0 f1 f3 f4 f5⟩
  self := fun _ _ _ _ _ st h => wpAny_pyIter_tupleiter st h
theorem turn_range {P : Program} {w : World} {K : PySem.W.Frag} {tg : Expr} (it : Addr) (lo : Int) (n : Nat) : Turn P w K tg (Itr lo n) [it] it (fun i h => IsRangeIter h it (lo + (i : Nat) * 1) ((n : Int) - (i : Nat)) 1) where
  mem := by simp
  obj := fun i h st b hb => by
    have e : b = it := by simpa using hb
    subst e
    exact ⟨_, st, fun v z => by
      have z' : Data.fields _ = Data.cell v := z
      cases z'⟩
  keep := fun i h h' st k => k it (by simp) _ st
  item := by
    intro X hP hw hK hc i pins s σ H E I hf st hg
    subst hP hw hK
    obtain ⟨f0, f1, f2, f3, f4, f5⟩ := hf it (by simp)
    have W := Walks.range (prog := X.prog) (w := X.w) (I.ok.hd hc) it lo 1 n
    refine W.item i s _ _ hg st fun v h' tk hv st' kk => ?_
    obtain ⟨t, rfl⟩ := hv
    have I1 : Inv X pins σ H { s with heap := h', toks := tk } := I.turned (fun b o hb e => kk b o (by simpa using hb) e) f0 f1 f3 f4 f5
    refine ⟨_, rfl, go_of (s := { s with heap := h', toks := tk }) (n := "range_iterator") st' rfl rfl (by decide) ⟨.int (lo + i), H, I1, ⟨t, ?_⟩, ⟨rfl, rfl⟩, st', fun b hb => (hf b hb).1⟩⟩
    rw [Int.mul_one]
  done := by
    intro X hP hw hK hc i pins s σ H E I hf st hg
    subst hP hw hK
    obtain ⟨f0, f1, f2, f3, f4, f5⟩ := hf it (by simp)
    exact wpAny_pyNext_range_end (I.ok.hd hc) st (by have : n ≤ i := hg; omega) fun h' eb => ⟨rfl, I.turned (t' := s.toks) (fun b o hb e => eb b o hb e) f0 f1 f3 f4 f5⟩
  self := fun _ _ _ _ _ st h => wpAny_pyIter_rangeiter st h
end L2

namespace L2
open PySem PySem.Spec PyProof.Rows
section
variable {X : Cx} {tg : Expr}
def iList (K : PySem.W.Frag) (tl : TE) : TI := fun σ H R => tl σ H fun x H1 => ∃ a, x = .ref a ∧ (∃ xs, SqL K H1 a xs) ∧ R (Itl K a) H1
def iTup (K : PySem.W.Frag) (tl : TE) : TI := fun σ H R => tl σ H fun x H1 => ∃ a, x = .ref a ∧ (∃ xs, SqT K H1 a xs) ∧ R (Itt K a) H1
theorem pi_list {l : Expr} {tl : TE} (hl : PE X l tl) : PI X tg l (iList X.K tl) := by
  intro pins s σ H R I h
  refine thn (hl pins s σ H _ I h) fun v s1 ⟨x, H1, I1, r1, q1⟩ => ?_
  obtain ⟨a, e, ⟨xs, hq⟩, q⟩ := q1
  subst e
  cases r1
  obtain ⟨its, rv, p, hz⟩ := I1.list hq
  refine wpAny_pyIter_list p.isList ?_
  refine ⟨s1.heap.objs.size, [s1.heap.objs.size], _, _, H1, rfl, I1.kept (t' := s1.toks) fun b o e => Heap.get?_push_of_some _ e, turn_list a _, ⟨_, Heap.get?_push_size _ rfl, rfl, rfl⟩, fun b hb => ?_, q⟩
  have e : b = s1.heap.objs.size := by simpa using hb
  subst e
  exact I1.fpOk (Nat.le_refl _) (I1.hok.fresh (Nat.le_refl _))
theorem pi_tup {l : Expr} {tl : TE} (hl : PE X l tl) : PI X tg l (iTup X.K tl) := by
  intro pins s σ H R I h
  refine thn (hl pins s σ H _ I h) fun v s1 ⟨x, H1, I1, r1, q1⟩ => ?_
  obtain ⟨a, e, ⟨xs, hq⟩, q⟩ := q1
  subst e
  cases r1
  obtain ⟨its, rv, p, hz⟩ := I1.tuple hq
  refine wpAny_pyIter_tuple (show s1.heap.IsTuple a its.toArray from p) ?_
  refine ⟨s1.heap.objs.size, [s1.heap.objs.size], _, _, H1, rfl, I1.kept (t' := s1.toks) fun b o e => Heap.get?_push_of_some _ e, turn_tuple a _, ⟨_, Heap.get?_push_size _ rfl, rfl, rfl⟩, fun b hb => ?_, q⟩
  have e : b = s1.heap.objs.size := by simpa using hb
  subst e
  exact I1.fpOk (Nat.le_refl _) (I1.hok.fresh (Nat.le_refl _))
/-- a range object just made, walked -/
theorem range_it {pins : List (Addr × Obj)} {σ : St} {H : Hp} {s : Shared} {R : It → Hp → Prop} {E : Value → Shared → Prop} {lo hi : Int} {t u v : Tok} {tk : Nat} (I : Inv X pins σ H s) (h1 : -(2 ^ 62) ≤ lo) (h2 : lo < 2 ^ 62) (h3 : -(2 ^ 62) ≤ hi) (h4 : hi < 2 ^ 62)
    (q : R (Itr lo (hi - lo).toNat) H) : wpAny (model X.prog X.w) X.A (pyIter (.ref s.heap.objs.size)) (PIE X pins σ tg R) E { s with heap := s.heap.push { cls := .type "range", data := .fields #[.int lo t, .int hi u, .int 1 v] }, toks := tk } := by
  refine wpAny_pyIter_range (IsRange.new ..) (small_one h1 h2 h3 h4) ?_
  have I1 : Inv X pins σ H { s with heap := s.heap.push { cls := .type "range", data := .fields #[.int lo t, .int hi u, .int 1 v] }, toks := tk } := I.kept fun b o e => Heap.get?_push_of_some _ e
  refine ⟨(s.heap.push { cls := .type "range", data := .fields #[.int lo t, .int hi u, .int 1 v] }).objs.size, [(s.heap.push { cls := .type "range", data := .fields #[.int lo t, .int hi u, .int 1 v] }).objs.size], _, _, H, rfl,
    I1.kept (t' := tk) fun b o e => Heap.get?_push_of_some _ e, turn_range _ lo (hi - lo).toNat, ?_, fun b hb => ?_, q⟩
  · have e1 : lo + ((0 : Nat) : Int) * 1 = lo := by simp
    have e2 : (((hi - lo).toNat : Nat) : Int) - ((0 : Nat) : Int) = Builtin.Range.rangeSize lo hi 1 := by rw [rangeSize_one]; split <;> omega
    show IsRangeIter _ _ (lo + ((0 : Nat) : Int) * 1) ((((hi - lo).toNat : Nat) : Int) - ((0 : Nat) : Int)) 1
    rw [e1, e2]
    exact Heap.get?_push_size _ rfl
  · have e : b = (s.heap.push { cls := .type "range", data := .fields #[.int lo t, .int hi u, .int 1 v] }).objs.size := by simpa using hb
    subst e
    exact I1.fpOk (Nat.le_refl _) (I1.hok.fresh (Nat.le_refl _))
def iRng1 (ta : TA) : TI := fun σ H R => ta σ H fun vs H1 => ∃ j : Int, vs = [.int j] ∧ -(2 ^ 62) ≤ j ∧ j < 2 ^ 62 ∧ R (Itr 0 j.toNat) H1
def iRng2 (ta : TA) : TI := fun σ H R => ta σ H fun vs H1 => ∃ i j : Int, vs = [.int i, .int j] ∧ (-(2 ^ 62) ≤ i ∧ i < 2 ^ 62 ∧ -(2 ^ 62) ≤ j ∧ j < 2 ^ 62) ∧ R (Itr i (j - i).toNat) H1
theorem pi_range1 {a : Expr} {ta : TA} {p pos : Pos} (hg : Gl X "range") (hm : X.mg "range" = none) (ha : PA X [a] ta) (hs : starEach [a] X.env = [(false, eval a X.env)] := by rfl) : PI X tg (.Call (.Name "range" p) [a] [] pos) (iRng1 ta) := by
  intro pins s σ H R I h
  refine Call_ (ld_blt I hg hm boot_range (PyProof.Rows.callWith_type1 (thn (ha pos pins s σ H _ I h) fun us s1 ⟨vs, H1, I1, r1, q1⟩ => ?_) hs rfl))
  obtain ⟨j, e, q1, q2, q⟩ := q1
  subst e
  cases r1 with
  | cons r rr =>
    cases rr
    obtain ⟨t, rfl⟩ := r
    exact call_range_1 (range_it I1 (by omega) (by omega) q1 q2 (by simpa using q))
/-! ### for -/
/-- W: the invariant by the turn and a measure; N: what the body is to reach -/
def tFor (wi : TI) (g : TG) (tb : TS) : TS := fun D σ H => wi σ H fun J H1 => ∃ W : Nat → Nat → St → Hp → Prop, (∃ m, W 0 m σ H1) ∧ ∀ i m σ H, W i m σ H →
  (J.stop i H ∧ D.nx σ H) ∨ (J.go i H ∧ ∃ N : St → Hp → Prop, (∀ σ' H', N σ' H' → ∃ m', m' < m ∧ W (i + 1) m' σ' H') ∧ ∀ x H', J.yld i H x H' → g x σ H' fun σ2 H2 => tb { D with nx := N, ct := N, bk := D.nx } σ2 H2)
/-- the records at fp as they stand -/
def pinsAt (fp : List Addr) (h : Heap) : List (Addr × Obj) := fp.filterMap fun b => (h.get? b).map fun o => (b, o)
theorem mem_pinsAt {fp : List Addr} {h : Heap} {b : Addr} {o : Obj} (hb : b ∈ fp) (e : h.get? b = some o) : (b, o) ∈ pinsAt fp h := List.mem_filterMap.mpr ⟨b, hb, by rw [e]; rfl⟩
theorem of_pinsAt {fp : List Addr} {h : Heap} {p : Addr × Obj} (hp : p ∈ pinsAt fp h) : p.1 ∈ fp ∧ h.get? p.1 = some p.2 := by
  obtain ⟨b, hb, e⟩ := List.mem_filterMap.mp hp
  cases q : h.get? b with
  | none => rw [q] at e; cases e
  | some o =>
    rw [q] at e
    have e' : (b, o) = p := Option.some.inj e
    subst e'
    exact ⟨hb, q⟩
theorem Inv.pinned {pins : List (Addr × Obj)} {σ : St} {H : Hp} {s : Shared} {fp : List Addr} (I : Inv X pins σ H s) (hf : ∀ b ∈ fp, FpOk X pins H b) (ho : ∀ b ∈ fp, ∃ o, s.heap.get? b = some o ∧ ∀ v, o.data ≠ .cell v) : Inv X (pins ++ pinsAt fp s.heap) σ H s :=
  I.pins_of fun p hp => (List.mem_append.mp hp).elim (fun z => I.pin p (List.mem_append_right _ z)) fun z => by
    obtain ⟨hb, e⟩ := of_pinsAt z
    obtain ⟨f0, f1, f2, _⟩ := hf p.1 hb
    obtain ⟨o, e', d⟩ := ho p.1 hb
    rw [e] at e'; cases e'
    exact ⟨e, f0, f1, f2, d⟩
theorem Inv.unpinned {pins pl : List (Addr × Obj)} {σ : St} {H : Hp} {s : Shared} (I : Inv X (pins ++ pl) σ H s) : Inv X pins σ H s := I.pins_of fun p hp => I.pin p (List.mem_append_right _ (List.mem_append_left _ hp))
theorem ps_for {iter : Expr} {body : List Stmt} {wi : TI} {g : TG} {tb : TS} {pos : Pos} (hp : PassesOwn (model X.prog X.w) X.A X.env X.xe) (hc : X.calm = true) (hi : PI X tg iter wi) (hg : PG X tg g) (hb : PSs X body tb)
    (hs : ∀ x, foldedSetIterable iter X.env x = pure x := by intro _; rfl) : PS X (.For tg iter body [] pos) (tFor wi g tb) := by
  intro pins s σ H D I h
  refine wpAny_For (thn (hi pins s σ H _ I h) fun v s1 h1 => thn h1 fun itv s2 h2 => ?_) hs
  obtain ⟨it, fp, tn, J, H2, e, I2, T, st2, f2, W, ⟨m0, w0⟩, turn⟩ := h2
  subst e
  -- what stays true of the iterator's objects through the loop
  have stat : ∀ {H' : Hp}, (∀ b ∈ fp, H' b = none) → ∀ b ∈ fp, FpOk X pins H' b := fun hn b hb => ⟨hn b hb, (f2 b hb).2⟩
  refine codeAny_forLoop_any (fun n s' => ∃ i σ' H', Inv X pins σ' H' s' ∧ tn i s'.heap ∧ (∀ b ∈ fp, H' b = none) ∧ W i n σ' H') ?_ m0 ⟨0, σ, H2, I2, st2, fun b hb => (f2 b hb).1, w0⟩
  rintro n s3 ⟨i, σ3, H3, I3, st3, fr3, w3⟩
  rcases turn i n σ3 H3 w3 with ⟨stop, qn⟩ | ⟨go, N, hN, step⟩
  · refine wpAny_passesOwn hp (thn (T.done X rfl rfl rfl hc i pins s3 σ3 H3 X.xe I3 (stat fr3) st3 stop) fun r s4 ⟨hr, I4⟩ => ?_)
    subst hr
    exact wpAny_execs_nil ⟨σ3, H3, I4, qn⟩
  · refine wpAny_passesOwn hp (thn (T.item X rfl rfl rfl hc i pins s3 σ3 H3 X.xe I3 (stat fr3) st3 go) fun r s4 ⟨u, hr, h4⟩ => ?_)
    subst hr
    refine wpAny_passesOwn hp (thn h4 fun _ s5 ⟨x, H5, I5, r5, y5, st5, fr5⟩ => ?_)
    have I5' := I5.pinned (stat fr5) (T.obj _ _ st5)
    refine wpAny_passesOwn hp (thn (hg _ s5 σ3 H5 x u _ I5' r5 (step x H5 y5)) fun _ s6 ⟨σ6, H6, I6, q6⟩ => ?_)
    refine wpAny_passesOwn hp (thn (hb _ s6 σ6 H6 _ I6 q6) fun f s7 q7 => ?_)
    have again : ∀ {σ7 : St} {H7 : Hp}, Inv X (pins ++ pinsAt fp s5.heap) σ7 H7 s7 → N σ7 H7 → ∃ m, m < n ∧ ∃ i σ' H', Inv X pins σ' H' s7 ∧ tn i s7.heap ∧ (∀ b ∈ fp, H' b = none) ∧ W i m σ' H' := fun {σ7 H7} I7 n7 => by
      obtain ⟨m', hm, w7⟩ := hN σ7 H7 n7
      refine ⟨m', hm, i + 1, σ7, H7, I7.unpinned, T.keep _ _ _ st5 fun b hb o e => (I7.pin (b, o) (List.mem_append_right _ (List.mem_append_right _ (mem_pinsAt hb e)))).1, fun b hb => ?_, w7⟩
      obtain ⟨o, e, d⟩ := T.obj _ _ st5 b hb
      exact (I7.pin (b, o) (List.mem_append_right _ (List.mem_append_right _ (mem_pinsAt hb e)))).2.1
    cases f with
    | next => obtain ⟨σ7, H7, I7, n7⟩ := q7; exact again I7 n7
    | cont => obtain ⟨σ7, H7, I7, n7⟩ := q7; exact again I7 n7
    | brk => obtain ⟨σ7, H7, I7, q7⟩ := q7; exact ⟨σ7, H7, I7.unpinned, q7⟩
    | ret v => obtain ⟨x7, σ7, H7, I7, r7, q7⟩ := q7; exact ⟨x7, σ7, H7, I7.unpinned, r7, q7⟩
end

/-! ### the forms one uses -/
/-- over a list that the body leaves as it is -/
theorem for_list {K : PySem.W.Frag} {a : Addr} {xs : List V} {g : TG} {tb : TS} {D : Ends} {σ : St} {H : Hp} (Pv : Nat → St → Hp → Prop) (h0 : Pv 0 σ H) (hl : ∀ i σ H, i ≤ xs.length → Pv i σ H → SqL K H a xs)
    (hs : ∀ i x σ H, xs[i]? = some x → Pv i σ H → g x σ H fun σ2 H2 => tb { D with nx := Pv (i + 1), ct := Pv (i + 1), bk := D.nx } σ2 H2) (hd : ∀ σ H, Pv xs.length σ H → D.nx σ H) :
    ∃ W : Nat → Nat → St → Hp → Prop, (∃ m, W 0 m σ H) ∧ ∀ i m σ H, W i m σ H →
      ((Itl K a).stop i H ∧ D.nx σ H) ∨ ((Itl K a).go i H ∧ ∃ N : St → Hp → Prop, (∀ σ' H', N σ' H' → ∃ m', m' < m ∧ W (i + 1) m' σ' H') ∧ ∀ x H', (Itl K a).yld i H x H' → g x σ H' fun σ2 H2 => tb { D with nx := N, ct := N, bk := D.nx } σ2 H2) := by
  refine ⟨fun i m σ H => m = xs.length - i ∧ i ≤ xs.length ∧ Pv i σ H, ⟨xs.length, by simp, Nat.zero_le _, h0⟩, ?_⟩
  rintro i m σ H ⟨rfl, hi, p⟩
  have q := hl i σ H hi p
  by_cases hlt : i < xs.length
  · refine .inr ⟨⟨xs, xs[i], q, by simp [hlt]⟩, Pv (i + 1), fun σ' H' p' => ⟨xs.length - (i + 1), by omega, rfl, hlt, p'⟩, fun x H' y => ?_⟩
    obtain ⟨e, y⟩ := y
    subst e
    exact hs i x σ _ (y xs q) p
  · have e : i = xs.length := by omega
    subst e
    exact .inl ⟨⟨xs, q, Nat.le_refl _⟩, hd σ H p⟩
theorem for_tup {K : PySem.W.Frag} {a : Addr} {xs : List V} {g : TG} {tb : TS} {D : Ends} {σ : St} {H : Hp} (Pv : Nat → St → Hp → Prop) (h0 : Pv 0 σ H) (hl : ∀ i σ H, i ≤ xs.length → Pv i σ H → SqT K H a xs)
    (hs : ∀ i x σ H, xs[i]? = some x → Pv i σ H → g x σ H fun σ2 H2 => tb { D with nx := Pv (i + 1), ct := Pv (i + 1), bk := D.nx } σ2 H2) (hd : ∀ σ H, Pv xs.length σ H → D.nx σ H) :
    ∃ W : Nat → Nat → St → Hp → Prop, (∃ m, W 0 m σ H) ∧ ∀ i m σ H, W i m σ H →
      ((Itt K a).stop i H ∧ D.nx σ H) ∨ ((Itt K a).go i H ∧ ∃ N : St → Hp → Prop, (∀ σ' H', N σ' H' → ∃ m', m' < m ∧ W (i + 1) m' σ' H') ∧ ∀ x H', (Itt K a).yld i H x H' → g x σ H' fun σ2 H2 => tb { D with nx := N, ct := N, bk := D.nx } σ2 H2) := by
  refine ⟨fun i m σ H => m = xs.length - i ∧ i ≤ xs.length ∧ Pv i σ H, ⟨xs.length, by simp, Nat.zero_le _, h0⟩, ?_⟩
  rintro i m σ H ⟨rfl, hi, p⟩
  have q := hl i σ H hi p
  by_cases hlt : i < xs.length
  · refine .inr ⟨⟨xs, xs[i], q, by simp [hlt]⟩, Pv (i + 1), fun σ' H' p' => ⟨xs.length - (i + 1), by omega, rfl, hlt, p'⟩, fun x H' y => ?_⟩
    obtain ⟨e, y⟩ := y
    subst e
    exact hs i x σ _ (y xs q) p
  · have e : i = xs.length := by omega
    subst e
    exact .inl ⟨⟨xs, q, Nat.le_refl _⟩, hd σ H p⟩
theorem for_range {lo : Int} {n : Nat} {g : TG} {tb : TS} {D : Ends} {σ : St} {H : Hp} (Pv : Nat → St → Hp → Prop) (h0 : Pv 0 σ H)
    (hs : ∀ i σ H, i < n → Pv i σ H → g (.int (lo + i)) σ H fun σ2 H2 => tb { D with nx := Pv (i + 1), ct := Pv (i + 1), bk := D.nx } σ2 H2) (hd : ∀ σ H, Pv n σ H → D.nx σ H) :
    ∃ W : Nat → Nat → St → Hp → Prop, (∃ m, W 0 m σ H) ∧ ∀ i m σ H, W i m σ H →
      ((Itr lo n).stop i H ∧ D.nx σ H) ∨ ((Itr lo n).go i H ∧ ∃ N : St → Hp → Prop, (∀ σ' H', N σ' H' → ∃ m', m' < m ∧ W (i + 1) m' σ' H') ∧ ∀ x H', (Itr lo n).yld i H x H' → g x σ H' fun σ2 H2 => tb { D with nx := N, ct := N, bk := D.nx } σ2 H2) := by
  refine ⟨fun i m σ H => m = n - i ∧ i ≤ n ∧ Pv i σ H, ⟨n, by simp, Nat.zero_le _, h0⟩, ?_⟩
  rintro i m σ H ⟨rfl, hi, p⟩
  by_cases hlt : i < n
  · refine .inr ⟨hlt, Pv (i + 1), fun σ' H' p' => ⟨n - (i + 1), by omega, rfl, hlt, p'⟩, fun x H' y => ?_⟩
    obtain ⟨e, y⟩ := y
    subst e y
    exact hs i σ _ hlt p
  · have e : i = n := by omega
    subst e
    exact .inl ⟨Nat.le_refl _, hd σ H p⟩
/-- while, by a word and a measure of the state -/
theorem while_by {c : TT} {tb : TS} {D : Ends} {σ : St} {H : Hp} (Pv : St → Hp → Prop) (μ : St → Hp → Nat) (h0 : Pv σ H)
    (hs : ∀ σ H, Pv σ H → c σ H fun b H1 => if b = true then tb { D with nx := fun σ' H' => Pv σ' H' ∧ μ σ' H' < μ σ H, ct := fun σ' H' => Pv σ' H' ∧ μ σ' H' < μ σ H, bk := D.nx } σ H1 else D.nx σ H1)
    (mono : ∀ σ H Q Q', (∀ b H1, Q b H1 → Q' b H1) → c σ H Q → c σ H Q') : tWhile c tb D σ H := by
  refine ⟨fun m σ H => m = μ σ H ∧ Pv σ H, ⟨_, rfl, h0⟩, ?_⟩
  rintro m σ H ⟨rfl, p⟩
  refine mono σ H _ _ (fun b H1 q => ?_) (hs σ H p)
  cases b with
  | true => exact ⟨_, fun σ' H' ⟨p', l⟩ => ⟨_, l, rfl, p'⟩, q⟩
  | false => exact q
end L2

namespace L2
open PySem PySem.Spec PyProof.Rows

abbrev R2 := V → V → Hp → VK → Prop
/-- a two-place operation on values: f is binaryOp op, inplaceOp op or compareOp op -/
def OpR (X : Cx) (f : Value → Value → Sem Value) (r : R2) : Prop :=
  ∀ (pins : List (Addr × Obj)) (s : Shared) (σ : St) (H : Hp) (x y : V) (v u : Value) (Q : VK), Inv X pins σ H s → RelV x v → RelV y u → r x y H Q →
    wpAny (model X.prog X.w) X.A (f v u) (EP X pins σ Q) X.xe s
/-- a call of a value that is known (a builtin, a type) with values -/
def CallR (X : Cx) (f : Value) (r : List V → Hp → VK → Prop) : Prop :=
  ∀ (pins : List (Addr × Obj)) (s : Shared) (σ : St) (H : Hp) (xs : List V) (us : List Value) (Q : VK), Inv X pins σ H s → Vals xs us → r xs H Q →
    wpAny (model X.prog X.w) X.A (call f us) (EP X pins σ Q) X.xe s
/-- a value's truth -/
def TruR (X : Cx) (r : V → Hp → (Bool → Hp → Prop) → Prop) : Prop :=
  ∀ (pins : List (Addr × Obj)) (s : Shared) (σ : St) (H : Hp) (x : V) (v : Value) (Q : Bool → Hp → Prop), Inv X pins σ H s → RelV x v → r x H Q →
    wpAny (model X.prog X.w) X.A (truthy v) (TP X pins σ Q) X.xe s

def tOp (r : R2) (ta tb : TE) : TE := fun σ H Q => ta σ H fun x H1 => tb σ H1 fun y H2 => r x y H2 Q
def tUn (r : V → Hp → VK → Prop) (ta : TE) : TE := fun σ H Q => ta σ H fun x H1 => r x H1 Q
/-- ints in, under C, and a value out -/
def rI (C : Int → Int → Prop) (g : Int → Int → V) : R2 := fun x y H Q => ∃ i j, x = .int i ∧ y = .int j ∧ C i j ∧ Q (g i j) H
def rI0 (g : Int → Int → V) : R2 := fun x y H Q => ∃ i j, x = .int i ∧ y = .int j ∧ Q (g i j) H
def rU (g : Int → V) : V → Hp → VK → Prop := fun x H Q => ∃ i, x = .int i ∧ Q (g i) H

section
variable {X : Cx} {a b c : Expr} {ta tb tc : TE} {pos : Pos}

theorem binT (ha : PE X a ta) (hb : PE X b tb) {pins : List (Addr × Obj)} {s : Shared} {σ : St} {H : Hp} {R : V → V → Hp → Prop} (I : Inv X pins σ H s)
    (h : ta σ H fun x H1 => tb σ H1 fun y H2 => R x y H2) {Q : Value → Shared → Prop} {f : Value → Value → Sem Value}
    (hf : ∀ v u s2 x y H2, Inv X pins σ H2 s2 → RelV x v → RelV y u → R x y H2 → wpAny (model X.prog X.w) X.A (f v u) Q X.xe s2) :
    wpAny (model X.prog X.w) X.A (eval a X.env) (fun v s₁ => wpAny (model X.prog X.w) X.A (eval b X.env) (fun u s₂ => wpAny (model X.prog X.w) X.A (f v u) Q X.xe s₂) X.xe s₁) X.xe s := by
  refine thn (ha pins s σ H _ I h) fun v s1 ⟨x, H1, I1, r1, q1⟩ => ?_
  refine thn (hb pins s1 σ H1 _ I1 q1) fun u s2 ⟨y, H2, I2, r2, q2⟩ => ?_
  exact hf v u s2 x y H2 I2 r1 r2 q2

theorem pe_op {op : Operator} {r : R2} (ho : OpR X (binaryOp op) r) (ha : PE X a ta) (hb : PE X b tb) : PE X (.BinOp a op b pos) (tOp r ta tb) := by
  intro pins s σ H Q I h
  exact wpAny_BinOp (binT ha hb I h fun v u s2 x y H2 I2 rx ry q => ho pins s2 σ H2 x y v u Q I2 rx ry q)
/-! ### ints -/
theorem opI {f : Value → Value → Sem Value} {C : Int → Int → Prop} {g : Int → Int → Int}
    (rule : ∀ (i j : Int) (t u : Tok) (s : Shared) (Q : Value → Shared → Prop) (E : Value → Shared → Prop), C i j → Q (.int (g i j) s.toks) { s with toks := s.toks + 1 } → wpAny (model X.prog X.w) X.A (f (.int i t) (.int j u)) Q E s) :
    OpR X f (rI C fun i j => .int (g i j)) := by
  intro pins s σ H x y v u Q I rx ry h
  obtain ⟨i, j, rfl, rfl, hc, q⟩ := h
  obtain ⟨t, rfl⟩ := rx
  obtain ⟨t', rfl⟩ := ry
  exact rule i j t t' s _ _ hc ⟨.int (g i j), H, I.tok _, ⟨_, rfl⟩, q⟩
theorem opI0 {f : Value → Value → Sem Value} {g : Int → Int → Int}
    (rule : ∀ (i j : Int) (t u : Tok) (s : Shared) (Q : Value → Shared → Prop) (E : Value → Shared → Prop), Q (.int (g i j) s.toks) { s with toks := s.toks + 1 } → wpAny (model X.prog X.w) X.A (f (.int i t) (.int j u)) Q E s) :
    OpR X f (rI0 fun i j => .int (g i j)) := by
  intro pins s σ H x y v u Q I rx ry h
  obtain ⟨i, j, rfl, rfl, q⟩ := h
  obtain ⟨t, rfl⟩ := rx
  obtain ⟨t', rfl⟩ := ry
  exact rule i j t t' s _ _ ⟨.int (g i j), H, I.tok _, ⟨_, rfl⟩, q⟩
theorem opB0 {f : Value → Value → Sem Value} {g : Int → Int → Bool}
    (rule : ∀ (i j : Int) (t u : Tok) (s : Shared) (Q : Value → Shared → Prop) (E : Value → Shared → Prop), Q (.bool (g i j)) s → wpAny (model X.prog X.w) X.A (f (.int i t) (.int j u)) Q E s) :
    OpR X f (rI0 fun i j => .bl (g i j)) := by
  intro pins s σ H x y v u Q I rx ry h
  obtain ⟨i, j, rfl, rfl, q⟩ := h
  obtain ⟨t, rfl⟩ := rx
  obtain ⟨t', rfl⟩ := ry
  exact rule i j t t' s _ _ ⟨.bl (g i j), H, I, rfl, q⟩

def CDiv (i j : Int) : Prop := 0 < j ∧ j < 1073741824
def CMul (i j : Int) : Prop := (-(2 ^ 64) < i ∧ i < 2 ^ 64) ∨ (-(2 ^ 64) < j ∧ j < 2 ^ 64)
theorem CMul.ok {i j : Int} (h : CMul i j) : IntMulOk i j := by
  rcases h with ⟨h1, h2⟩ | ⟨h1, h2⟩
  · exact .of_left (intBits_le_64 h1 h2)
  · exact .of_right (intBits_le_64 h1 h2)
theorem op_add : OpR X (binaryOp .Add) (rI0 fun i j => .int (i + j)) := opI0 fun _ _ _ _ _ _ _ q => add_int q
theorem op_sub : OpR X (binaryOp .Sub) (rI0 fun i j => .int (i - j)) := opI0 fun _ _ _ _ _ _ _ q => sub_int q
theorem op_mul : OpR X (binaryOp .Mult) (rI CMul fun i j => .int (i * j)) := opI fun _ _ _ _ _ _ _ hc q => mul_int q hc.ok
/-- // by a positive divisor -/
theorem op_fdiv : OpR X (binaryOp .FloorDiv) (rI CDiv fun i j => .int (i / j)) := opI fun i j _ _ _ _ _ hc q => by
  have h1 : (0 : Int) < j := hc.1
  have h2 : j < 1073741824 := hc.2
  exact floordiv_int (by omega) (by rw [Int.fdiv_eq_ediv_of_nonneg i (by omega)]; exact q) (.inl (PyProof.noPylong_small (by omega)))
/-- % by a positive divisor of any size -/
theorem op_mod : OpR X (binaryOp .Mod) (rI (fun _ j => 0 < j) fun i j => .int (i % j)) := opI fun i j _ _ _ _ _ hc q => by
  have h1 : (0 : Int) < j := hc
  exact mod_int' (by omega) (by rw [Int.fmod_eq_emod_of_nonneg i (by omega)]; exact q)
/-! ### bools among ints: n += (a < b) -/
end

/-! ### comparisons -/
/-- the scalars that == tells apart as data does -/
def scal : V → V → Bool
  | .non, .non => true | .non, .int _ => true | .int _, .non => true | .non, .bl _ => true | .bl _, .non => true | .non, .str _ => true | .str _, .non => true
  | .int _, .int _ => true | .bl _, .bl _ => true | .str _, .str _ => true | .byt _, .byt _ => true
  | .int _, .str _ => true | .str _, .int _ => true | .bl _, .str _ => true | .str _, .bl _ => true
  | _, _ => false
def rEq : R2 := fun x y H Q => scal x y = true ∧ Q (.bl (decide (x = y))) H
def rNe : R2 := fun x y H Q => scal x y = true ∧ Q (.bl (!decide (x = y))) H

theorem dec_int {i j : Int} : decide (V.int i = V.int j) = (i == j) := by
  rw [Bool.eq_iff_iff]
  simp
theorem dec_bl {i j : Bool} : decide (V.bl i = V.bl j) = (i == j) := by
  rw [Bool.eq_iff_iff]
  simp
theorem dec_str {i j : Str} : decide (V.str i = V.str j) = (i == j) := by
  rw [Bool.eq_iff_iff]
  simp
theorem dec_byt {i j : Array UInt8} : decide (V.byt i = V.byt j) = (i.toList == j.toList) := by
  rw [Bool.eq_iff_iff]
  cases i
  cases j
  simp

section
variable {X : Cx} {a b c : Expr} {ta tb tc : TE} {pos : Pos}
theorem fin_bl {pins : List (Addr × Obj)} {σ : St} {H : Hp} {s : Shared} {Q : VK} {k k' : Bool} (I : Inv X pins σ H s) (q : Q (.bl k) H) (e : k = k') : EP X pins σ Q (.bool k') s := by
  subst e
  exact ⟨.bl k, H, I, rfl, q⟩
theorem op_eq : OpR X (compareOp .Eq) rEq := by
  intro pins s σ H x y v u Q I rx ry h
  obtain ⟨hs, q⟩ := h
  cases x with
  | non =>
    cases rx
    cases y with
    | non => cases ry; exact PySem.EqNone.eq_none_none (fin_bl I q (by simp))
    | bl j => cases ry; exact PySem.EqNone.eq_none_bool (fin_bl I q (by simp))
    | int j => obtain ⟨t', rfl⟩ := ry; exact PySem.EqNone.eq_none_int (fin_bl I q (by simp))
    | str j => obtain ⟨t', rfl⟩ := ry; exact PySem.EqNone.eq_none_str (fin_bl I q (by simp))
    | _ => exact absurd (show false = true from hs) Bool.false_ne_true
  | bl i =>
    cases rx
    cases y with
    | non => cases ry; exact PySem.EqNone.eq_bool_none (fin_bl I q (by simp))
    | bl j => cases ry; exact eq_bool (fin_bl I q dec_bl)
    | str j => obtain ⟨t', rfl⟩ := ry; exact PySem.EqMixed.eq_bool_str (fin_bl I q (by simp))
    | _ => exact absurd (show false = true from hs) Bool.false_ne_true
  | int i =>
    obtain ⟨t, rfl⟩ := rx
    cases y with
    | non => cases ry; exact PySem.EqNone.eq_int_none (fin_bl I q (by simp))
    | int j => obtain ⟨t', rfl⟩ := ry; exact eq_int (fin_bl I q dec_int)
    | str j => obtain ⟨t', rfl⟩ := ry; exact PySem.EqMixed.eq_int_str (fin_bl I q (by simp))
    | _ => exact absurd (show false = true from hs) Bool.false_ne_true
  | str i =>
    obtain ⟨t, rfl⟩ := rx
    cases y with
    | non => cases ry; exact PySem.EqNone.eq_str_none (fin_bl I q (by simp))
    | bl j => cases ry; exact PySem.EqMixed.eq_str_bool (fin_bl I q (by simp))
    | int j => obtain ⟨t', rfl⟩ := ry; exact PySem.EqMixed.eq_str_int (fin_bl I q (by simp))
    | str j => obtain ⟨t', rfl⟩ := ry; exact eq_str (fin_bl I q dec_str)
    | _ => exact absurd (show false = true from hs) Bool.false_ne_true
  | byt i =>
    obtain ⟨t, rfl⟩ := rx
    cases y with
    | byt j => obtain ⟨t', rfl⟩ := ry; exact PySem.W.eq_bytes (fin_bl I q dec_byt)
    | _ => exact absurd (show false = true from hs) Bool.false_ne_true
  | _ => cases y <;> exact absurd (show false = true from hs) Bool.false_ne_true
theorem op_lt : OpR X (compareOp .Lt) (rI0 fun i j => .bl (decide (i < j))) := opB0 fun _ _ _ _ _ _ _ q => lt_int q
theorem op_gt : OpR X (compareOp .Gt) (rI0 fun i j => .bl (decide (j < i))) := opB0 fun _ _ _ _ _ _ _ q => gt_int q
theorem op_ge : OpR X (compareOp .GtE) (rI0 fun i j => .bl (decide (j ≤ i))) := opB0 fun _ _ _ _ _ _ _ q => ge_int q
/-- two rules for one operation: by cases -/
theorem OpR.or {f : Value → Value → Sem Value} {r r' : R2} (h : OpR X f r) (h' : OpR X f r') : OpR X f (fun x y H Q => r x y H Q ∨ r' x y H Q) := by
  intro pins s σ H x y v u Q I rx ry q
  rcases q with q | q
  · exact h pins s σ H x y v u Q I rx ry q
  · exact h' pins s σ H x y v u Q I rx ry q

theorem nomark (b : Expr) {op : CmpOp} (h : op ≠ .In := by decide) (h2 : op ≠ .NotIn := by decide) : behindInMarks op b = false := by
  have e1 : (op == CmpOp.In) = false := by cases op <;> first | rfl | exact absurd rfl h
  have e2 : (op == CmpOp.NotIn) = false := by cases op <;> first | rfl | exact absurd rfl h2
  cases b <;> simp [behindInMarks, e1, e2]
/-- a comparison as a value; hm: nomark b, or (for in, not in) by with_unfolding_all rfl -/
theorem pe_cmpR {op : CmpOp} {r : R2} (ho : OpR X (compareOp op) r) (ha : PE X a ta) (hb : PE X b tb) (hm : behindInMarks op b = false) : PE X (.Compare a [op] [b] pos) (tOp r ta tb) := by
  intro pins s σ H Q I h
  exact wpAny_Compare1 (binT ha hb I h fun v u s2 x y H2 I2 rx ry q => ho pins s2 σ H2 x y v u Q I2 rx ry q) hm
/-- a reading of a value as a test -/
def tTest (t : TE) : TT := fun σ H Q => t σ H fun x H' => ∃ k, x = .bl k ∧ Q k H'
theorem pt_cmpR {op : CmpOp} {r : R2} (ho : OpR X (compareOp op) r) (ha : PE X a ta) (hb : PE X b tb) (hm : behindInMarks op b = false) : PT X (.Compare a [op] [b] pos) (tTest (tOp r ta tb)) := by
  intro pins s σ H Q I h
  refine wpAny_isTrue_Compare1 (thn (ha pins s σ H _ I h) fun v s1 ⟨x, H1, I1, r1, q1⟩ => thn (hb pins s1 σ H1 _ I1 q1) fun u s2 ⟨y, H2, I2, r2, q2⟩ =>
    thn (ho pins s2 σ H2 x y v u _ I2 r1 r2 q2) fun c s3 ⟨z, H3, I3, r3, k, e, q3⟩ => ?_) hm
  subst e
  cases r3
  exact wpAny_truthy_bool ⟨H3, I3, q3⟩
/-- a op1 b op2 c -/
def tChain (r r' : R2) (ta tb tc : TE) : TE := fun σ H Q => ta σ H fun x H1 => tb σ H1 fun y H2 => r x y H2 fun z H3 => ∃ k, z = .bl k ∧
  (if k = true then tc σ H3 fun w' H4 => r' y w' H4 Q else Q (.bl false) H3)
/-! ### truth -/
/-- a value's truth by the abstract heap -/
def TruV (K : PySem.W.Frag) (x : V) (H : Hp) (k : Bool) : Prop :=
  match x with
  | .non => k = false
  | .bl b => k = b
  | .int i => k = (i != 0)
  | .str y => y.length ≤ sizeLine ∧ k = ((y.length : Int) != 0)
  | .byt y => y.size ≤ sizeLine ∧ k = ((y.size : Int) != 0)
  | .ref p => (∃ xs, SqL K H p xs ∧ k = !xs.isEmpty) ∨ (∃ xs, SqT K H p xs ∧ k = !xs.isEmpty) ∨ ∃ kvs, H p = some (.dK kvs) ∧ k = !kvs.isEmpty
  | _ => False
theorem isEmpty_kv {κ : Type} {kvs : List (κ × V)} {vs : List (κ × Value)} (r : KV kvs vs) : (!vs.isEmpty) = !kvs.isEmpty := by
  cases r <;> rfl
theorem isEmpty_of {xs : List V} {its : List Value} (r : Vals xs its) : (!its.toArray.isEmpty) = !xs.isEmpty := by
  cases r <;> simp
theorem line63 : (sizeLine : Nat) < 2 ^ 63 := by rw [sizeLine_eq]; decide
theorem tru_ok : TruR X (fun x H Q => ∃ k, TruV X.K x H k ∧ Q k H) := by
  intro pins s σ H x v Q I rx h
  obtain ⟨k, e, q⟩ := h
  have hl := line63
  have hs : sizeLine = 16777216 := sizeLine_eq
  cases x with
  | non =>
    cases rx
    have e' : k = false := e
    subst e'
    exact truthy_none ⟨H, I, q⟩
  | bl b =>
    cases rx
    have e' : k = b := e
    subst e'
    exact wpAny_truthy_bool ⟨H, I, q⟩
  | int i =>
    obtain ⟨t, rfl⟩ := rx
    have e' : k = (i != 0) := e
    subst e'
    exact PySem.P.truthy_int ⟨H, I, q⟩
  | str y =>
    obtain ⟨t, rfl⟩ := rx
    obtain ⟨hy, e'⟩ : y.length ≤ sizeLine ∧ k = ((y.length : Int) != 0) := e
    subst e'
    exact PySem.P.truthy_str (by omega) ⟨H, I.tok _, q⟩
  | byt y =>
    obtain ⟨t, rfl⟩ := rx
    obtain ⟨hy, e'⟩ : y.size ≤ sizeLine ∧ k = ((y.size : Int) != 0) := e
    subst e'
    exact PySem.W.truthy_bytes (by omega) ⟨H, I.tok _, q⟩
  | ref p =>
    cases rx
    have e' : (∃ xs, SqL X.K H p xs ∧ k = !xs.isEmpty) ∨ (∃ xs, SqT X.K H p xs ∧ k = !xs.isEmpty) ∨ ∃ kvs, H p = some (.dK kvs) ∧ k = !kvs.isEmpty := e
    rcases e' with ⟨xs, hx, e'⟩ | ⟨xs, hx, e'⟩ | ⟨kvs, hx, e'⟩
    · subst e'
      obtain ⟨its, r, pl, hz⟩ := I.list hx
      have hlen := r.length
      exact wpAny_truthy_list pl.isList (by simp only [List.size_toArray]; omega) ⟨H, I.tok _, by rw [isEmpty_of r]; exact q⟩
    · subst e'
      obtain ⟨its, r, pl, hz⟩ := I.tuple hx
      have hlen := r.length
      exact truthy_tuple pl (by simp only [List.size_toArray]; omega) ⟨H, I.tok _, by rw [isEmpty_of r]; exact q⟩
    · subst e'
      obtain ⟨hz, hS, vs, r, m⟩ : kvs.length ≤ sizeLine ∧ (p == sysModules) = false ∧ ∃ vs, KV kvs vs ∧ s.heap.DictOf (mixKind X.prog X.w) p vs := I.hok p _ hx
      have hlen : kvs.length = vs.length := Paired.length r
      exact wpAny_truthy_dict hS m (by omega) ⟨H, I.tok _, by rw [isEmpty_kv r]; exact q⟩
  | _ => exact (show False from e).elim
/-- any expression whose test is its value's truth (a name, a call, a subscript, a field ..: he by fun _ => rfl) -/
theorem pt_truth (ha : PE X a ta) (he : ∀ whole, isTrue a X.env whole = (do let v ← whole; standAt a.pos; holding [v] (truthy v))) :
    PT X a (fun σ H Q => ta σ H fun x H' => ∃ k, TruV X.K x H' k ∧ Q k H') := by
  intro pins s σ H Q I h
  exact isTrue_plain (thn (ha pins s σ H _ I h) fun v s1 ⟨x, H1, I1, r1, q1⟩ => tru_ok pins s1 σ H1 x v Q I1 r1 q1) (he _)

/-! ### strs and bytes -/
/-! ### scalar builtins, by CallR -/
theorem vals1 {x : V} {us : List Value} (r : Vals [x] us) : ∃ u, us = [u] ∧ RelV x u := by
  cases r with
  | cons r1 r2 => cases r2; exact ⟨_, rfl, r1⟩
theorem vals2 {x y : V} {us : List Value} (r : Vals [x, y] us) : ∃ u w', us = [u, w'] ∧ RelV x u ∧ RelV y w' := by
  cases r with
  | cons r1 r2 =>
    cases r2 with
    | cons r3 r4 => cases r4; exact ⟨_, _, rfl, r1, r3⟩
theorem call_max2 (hc : X.calm = true) : CallR X (.builtin "max") (fun xs H Q => ∃ i j, xs = [.int i, .int j] ∧ Q (.int (if j > i then j else i)) H) := by
  intro pins s σ H xs us Q I r h
  obtain ⟨i, j, rfl, q⟩ := h
  obtain ⟨u, w', rfl, ⟨t, rfl⟩, ⟨t', rfl⟩⟩ := vals2 r
  refine max_two_ints (I.ok.hd hc) fun h' tk k => ⟨_, H, I.kept k, ?_, q⟩
  by_cases hj : j > i
  · rw [if_pos hj, if_pos hj]; exact ⟨_, rfl⟩
  · rw [if_neg hj, if_neg hj]; exact ⟨_, rfl⟩
end
end L2

namespace L2
open PySem PySem.Spec PyProof.Rows

/-! ### an instance, its attributes a map -/
structure ObjM (h : Heap) (x dx C : Addr) (mA : Str → Option Value) : Prop where
  obj : h.get? x = some (PySem.W.instObj C dx)
  ns : h.Ns1 dx mA
  ne : dx ≠ x

theorem lookIn_ns {h : Heap} {dx : Addr} {mA : Str → Option Value} (n : h.Ns1 dx mA) : ∃ od, h.get? dx = some od ∧ ∀ name, PySem.W.lookIn name od = some (mA name) := by
  obtain ⟨o, es, ep, ho, hd, hk, _, hm⟩ := n
  refine ⟨o, ho, fun name => ?_⟩
  have e := hm name
  unfold nsFind findBy at e
  rw [← Array.find?_toList] at e
  unfold PySem.W.lookIn
  rw [hd]
  dsimp only
  split
  · rename_i y q
    rw [q] at e
    exact congrArg some e
  · rename_i q
    rw [q] at e
    have a : es.toList.any (·.refKey) = false := by
      rw [List.any_eq_false]
      intro y hy
      obtain ⟨z, t, hkey⟩ := hk y (Array.mem_toList_iff.mp hy)
      simp [DictEntry.refKey, hkey]
    have a' : ¬ es.toList.any (·.refKey) = true := by rw [a]; exact Bool.false_ne_true
    rw [if_neg a']
    exact congrArg some e

theorem ObjM.look {h : Heap} {x dx C : Addr} {mA : Str → Option Value} (I : ObjM h x dx C mA) : ∃ od, PySem.W.InstAt h x (PySem.W.instObj C dx) C (some od) ∧ ∀ name, PySem.W.lookIn name od = some (mA name) :=
  let ⟨od, ho, hl⟩ := lookIn_ns I.ns
  ⟨od, ⟨I.obj, rfl, rfl, ho⟩, hl⟩

section
variable {prog : Program} {w : World} {A : Around} {E : Value → Shared → Prop} {s : Shared} {K : PySem.W.Frag} {x dx C f : Addr} {mA : Str → Option Value} {name : Str} {v : Value}

theorem get_map {expr : Bool} {Q : Value → Shared → Prop} (X : K.In s.heap) (I : ObjM s.heap x dx C mA) (hg : PySem.W.plainGet K C name = true) (hh : PySem.W.hasDictIn K C = true)
    (ha : PySem.W.findIn K (.ref C) name = some none) (hv : mA name = some v) (hv' : PySem.W.handedIn v = true) (h : Q v { s with toks := s.toks + 1 }) :
    wpAny (model prog w) A (getAttr (.ref x) name expr) Q E s := by
  obtain ⟨od, J, hl⟩ := I.look
  exact PySem.W.get_value X J (PySem.W.plainGet_of hg).1 (PySem.W.findObj_own hh ha rfl (by rw [hl, hv])) hv' h

theorem get_meth {pl : Sem Bool} {Q : Value × List Value → Shared → Prop} (X : K.In s.heap) (I : ObjM s.heap x dx C mA) (hg : PySem.W.plainGet K C name = true)
    (hf : PySem.W.findIn K (.ref C) name = some (some (.ref f))) (ht : PySem.W.isFn K (.ref f) = true) (hv : mA name = none) (h : Q (.ref f, [.ref x]) s) :
    wpAny (model prog w) A (getMethod (.ref x) name pl) Q E s := by
  obtain ⟨od, J, hl⟩ := I.look
  exact PySem.W.method_fn X J (PySem.W.plainGet_of hg).1 (PySem.W.plainGet_of hg).2 hf (beq_iff_eq.mp ht) (by show (PySem.W.lookIn name od).map (·.isSome) = some false; rw [hl, hv]; rfl) h

theorem set_map {ns : List Str} {Q : Unit → Shared → Prop} (X : K.In s.heap) (I : ObjM s.heap x dx C mA)
    (hs : PySem.W.findIn K (.ref C) "__setattr__" = some (some (.builtin "object.__setattr__"))) (hp : PySem.W.plainOver K C = true) (ht : PySem.W.takerIn K C name = some none) (hh : PySem.W.hasDictIn K C = true)
    (hw : PySem.Within mA ns) (hsz : ns.length ≤ sizeLine)
    (h : ∀ h', ObjM h' x dx C (fun y => if y = name then some v else mA y) → Heap.SameBut dx s.heap h' → Q () { s with heap := h', toks := s.toks + 2 }) :
    wpAny (model prog w) A (setAttr (.ref x) name v) Q E s := by
  obtain ⟨od, J, hl⟩ := I.look
  refine PySem.W.set_plain X J hs (PySem.W.osa_open (s := { s with toks := s.toks + 1 }) (r := none) X J hp ht fun b => ?_)
  obtain ⟨cd, hc, hd'⟩ := PySem.W.any_some hh
  have hx : s.heap.get? x = some ⟨.ref C, some dx, .plain, #[]⟩ := I.obj
  refine wpAny_bind (wpAny_pure (wpAny_bind (wpAny_bind (wpAny_loadPart hx (wpAny_bind (PySem.W.Looks.here (s := { s with toks := s.toks + 1 }) (PySem.W.looks_clsIn X hc) ?_))))))
  rw [hd']
  refine wpAny_pure (a := some dx) (wpAny_bind (wpAny_pure (wpAny_bind ?_)))
  refine wpAny_nsSet1 (s := { s with toks := s.toks + 1 }) I.ns fun h' hn2 hs2 => ?_
  obtain ⟨oD, esD, epD, hoD, hdD, hcD⟩ := hn2.count (PySem.Within.cons name v hw)
  refine wpAny_bind (wpAny_lookBehind hoD (by rw [hdD]; exact pastItsLine_dict (Nat.le_trans hcD (by rw [List.length_cons]; omega))) ?_)
  exact wpAny_pure (h _ ⟨(hs2.2 _ (Ne.symm I.ne)).trans I.obj, hn2, I.ne⟩ hs2)

/-- C(..): the dict at the heap's end, the instance behind it; then its __init__ -/
theorem make_map {R : Result → Shared → Prop} {vs : List Value} {kw : List (Str × Value)} (X : K.In s.heap) (hm : PySem.W.makesIn K C = true)
    (hi : PySem.W.findIn K (.ref C) "__init__" = some (some (.ref f))) (hf : PySem.W.typeIn K (.ref f) = some (.type "function"))
    (h : codeAny (model prog w) (A.under (.builtin "type.__call__" ⟨.ref C :: vs, kw⟩)) (.call (.ref f) ⟨.ref (s.heap.objs.size + 1) :: vs, kw⟩) (PySem.W.InitBack (s.heap.objs.size + 1) R)
      { s with heap := (s.heap.push PySem.W.emptyDict).push (PySem.W.instObj C s.heap.objs.size) }) :
    codeAny (model prog w) A (.call (.ref C) ⟨vs, kw⟩) R s := by
  obtain ⟨hh, g, d, t, os⟩ := s
  exact PySem.W.make_core (PySem.W.makes_of X hm) (PySem.W.looks_findIn X hi) (fun self => PySem.W.bind_fn X self hf) (.inl rfl) h
end

/-! ### the attributes as a list of pairs -/
def putF (f : Str) (v : V) : List (Str × V) → List (Str × V)
  | [] => [(f, v)]
  | (g, x) :: r => if g = f then (g, v) :: r else (g, x) :: putF f v r
theorem lookup_putF (f g : Str) (v : V) : ∀ fs : List (Str × V), (putF f v fs).lookup g = if g = f then some v else fs.lookup g
  | [] => by
    show List.lookup g [(f, v)] = _
    by_cases h : g = f
    · have hb : (g == f) = true := beq_iff_eq.mpr h
      simp only [List.lookup, hb, if_pos h]
    · have hb : (g == f) = false := beq_eq_false_iff_ne.mpr h
      simp only [List.lookup, hb, if_neg h]
  | (k, x) :: r => by
    have ih := lookup_putF f g v r
    rw [show putF f v ((k, x) :: r) = (if k = f then (k, v) :: r else (k, x) :: putF f v r) from rfl]
    by_cases hk : k = f
    · rw [if_pos hk]
      by_cases h : g = k
      · have hb : (g == k) = true := beq_iff_eq.mpr h
        simp only [List.lookup, hb, if_pos (h.trans hk)]
      · have hb : (g == k) = false := beq_eq_false_iff_ne.mpr h
        simp only [List.lookup, hb, if_neg (fun e : g = f => h (e.trans hk.symm))]
    · rw [if_neg hk]
      by_cases h : g = k
      · have hb : (g == k) = true := beq_iff_eq.mpr h
        simp only [List.lookup, hb, if_neg (fun e : g = f => hk (h.symm.trans e))]
      · have hb : (g == k) = false := beq_eq_false_iff_ne.mpr h
        simp only [List.lookup, hb]
        exact ih
theorem keys_putF (f : Str) (v : V) : ∀ fs : List (Str × V), f ∈ (putF f v fs).map (·.1) ∧ ∀ g, g ∈ fs.map (·.1) → g ∈ (putF f v fs).map (·.1)
  | [] => ⟨by simp [putF], fun g h => by simp at h⟩
  | (k, x) :: r => by
    obtain ⟨i1, i2⟩ := keys_putF f v r
    rw [show putF f v ((k, x) :: r) = (if k = f then (k, v) :: r else (k, x) :: putF f v r) from rfl]
    by_cases hk : k = f
    · rw [if_pos hk]
      subst hk
      exact ⟨by simp, fun g h => by simpa using h⟩
    · rw [if_neg hk]
      refine ⟨?_, fun g h => ?_⟩
      · rw [List.map_cons]
        exact List.mem_cons_of_mem _ i1
      · rw [List.map_cons] at h ⊢
        rcases List.mem_cons.mp h with e | e
        · exact List.mem_cons.mpr (.inl e)
        · exact List.mem_cons_of_mem _ (i2 g e)
theorem length_putF (f : Str) (v : V) : ∀ fs : List (Str × V), (putF f v fs).length ≤ fs.length + 1
  | [] => by simp [putF]
  | (k, x) :: r => by
    have ih := length_putF f v r
    rw [show putF f v ((k, x) :: r) = (if k = f then (k, v) :: r else (k, x) :: putF f v r) from rfl]
    by_cases hk : k = f
    · rw [if_pos hk, List.length_cons, List.length_cons]; omega
    · rw [if_neg hk, List.length_cons, List.length_cons]; omega

theorem RelO.some_of {v : V} {o : Option Value} (r : RelO (some v) o) : ∃ u, o = some u ∧ RelV v u := by
  cases o with
  | none => exact (show False from r).elim
  | some u => exact ⟨u, rfl, r⟩
theorem RelO.none_of {o : Option Value} (r : RelO none o) : o = none := by
  cases o with
  | none => rfl
  | some u => exact (show False from r).elim
theorem handed_of {v : V} {u : Value} (r : RelV v u) : PySem.W.handedIn u = true := by
  cases v with
  | non => cases (show u = Value.none from r); rfl
  | bl b => cases (show u = Value.bool b from r); rfl
  | int i => obtain ⟨t, e⟩ := (show ∃ t, u = Value.int i t from r); cases e; rfl
  | str x => obtain ⟨t, e⟩ := (show ∃ t, u = Value.str x t from r); cases e; rfl
  | byt b => obtain ⟨t, e⟩ := (show ∃ t, u = Value.bytes b t from r); cases e; rfl
  | flt b => obtain ⟨t, e⟩ := (show ∃ t, u = Value.float b t from r); cases e; rfl
  | ref a => cases (show u = Value.ref a from r); rfl
  | ty n => cases (show u = Value.type n from r); rfl

section
variable {P : Program} {w : World} {H H' : Hp} {h h' : Heap} {a C dx : Addr} {fs fs' : List (Str × V)}
theorem ins_get (hok : HOk P w H h) (e : H a = some (.ins C dx fs)) : ∃ mA, ObjM h a dx C mA ∧ (∀ f, RelO (fs.lookup f) (mA f)) ∧ PySem.Within mA (fs.map (·.1)) ∧ fs.length ≤ 1000 ∧ H dx = some (.own a) := by
  obtain ⟨d, z, ne, ob, mA, n, r, q⟩ := (show ObjOk P w H h a (.ins C dx fs) from hok a _ e)
  exact ⟨mA, ⟨ob, n, ne⟩, r, q, z, d⟩
end

/-! ### what of the text a class must have -/
structure Cls (K : PySem.W.Frag) (C : Addr) : Prop where
  pg : PySem.W.plainGet K C Str.empty = true
  hd : PySem.W.hasDictIn K C = true
  po : PySem.W.plainOver K C = true
  sa : PySem.W.findIn K (.ref C) "__setattr__" = some (some (.builtin "object.__setattr__"))
theorem Cls.get {K : PySem.W.Frag} {C : Addr} (c : Cls K C) (f : Str) : PySem.W.plainGet K C f = true := c.pg
/-- no class of it has the name -/
def NoAttr (K : PySem.W.Frag) (C : Addr) (f : Str) : Prop := PySem.W.findIn K (.ref C) f = some none
theorem NoAttr.taker {K : PySem.W.Frag} {C : Addr} {f : Str} (n : NoAttr K C f) : PySem.W.takerIn K C f = some none := by
  unfold PySem.W.takerIn
  rw [show PySem.W.findIn K (.ref C) f = some none from n]
  rfl
/-- a constant of the class -/
structure Con (K : PySem.W.Frag) (C : Addr) (f : Str) (v : V) (u : Value) : Prop where
  at_ : PySem.W.findIn K (.ref C) f = some (some u)
  rel : RelV v u
  get : PySem.W.specialIn K u "__get__" = some none
  cp : PySem.W.copiedNames.contains f = false
/-- a method: a plain def of the class or of one above it -/
structure Meth (K : PySem.W.Frag) (C : Addr) (m : Str) (f : Addr) : Prop where
  at_ : PySem.W.findIn K (.ref C) m = some (some (.ref f))
  fn : PySem.W.isFn K (.ref f) = true
  kp : PySem.W.keepIn K (.ref f) = true

section
variable {X : Cx} {pins : List (Addr × Obj)} {σ : St} {H : Hp} {s : Shared} {a C dx : Addr} {fs : List (Str × V)} {f : Str} {v : V} {A : Around} {E : Value → Shared → Prop}

theorem getattr_ok {b : Bool} {Q : Value → Shared → Prop} (I : Inv X pins σ H s) (e : H a = some (.ins C dx fs)) (c : Cls X.K C) (n : NoAttr X.K C f) (l : fs.lookup f = some v)
    (h : ∀ u s', Inv X pins σ H s' → RelV v u → Q u s') : wpAny (model X.prog X.w) A (getAttr (.ref a) f b) Q E s := by
  obtain ⟨mA, O, r, _, _, _⟩ := ins_get I.hok e
  obtain ⟨u, hu, ru⟩ := RelO.some_of (v := v) (o := mA f) (by rw [← l]; exact r f)
  exact get_map I.kIn O (c.get f) c.hd n hu (handed_of ru) (h u _ (I.tok _) ru)

theorem getmeth_ok {m : Str} {g : Addr} {pl : Sem Bool} {Q : Value × List Value → Shared → Prop} (I : Inv X pins σ H s) (e : H a = some (.ins C dx fs)) (c : Cls X.K C) (k : Meth X.K C m g) (l : fs.lookup m = none)
    (h : Q (.ref g, [.ref a]) s) : wpAny (model X.prog X.w) A (getMethod (.ref a) m pl) Q E s := by
  obtain ⟨mA, O, r, _, _, _⟩ := ins_get I.hok e
  have hn : mA m = none := RelO.none_of (by rw [← l]; exact r m)
  exact get_meth I.kIn O (c.get m) k.at_ k.fn hn h

theorem setattr_ok {y : V} {u : Value} {Q : Unit → Shared → Prop} (I : Inv X pins σ H s) (e : H a = some (.ins C dx fs)) (c : Cls X.K C) (n : NoAttr X.K C f) (hl : fs.length < 1000) (ry : RelV y u)
    (h : ∀ s', Inv X pins σ (upd H a (.ins C dx (putF f y fs))) s' → Q () s') : wpAny (model X.prog X.w) A (setAttr (.ref a) f u) Q E s := by
  obtain ⟨mA, O, r, wi, _, ho⟩ := ins_get I.hok e
  have hz : (fs.map (·.1)).length ≤ sizeLine := by rw [List.length_map, sizeLine_eq]; omega
  refine set_map I.kIn O c.sa c.po n.taker c.hd wi hz fun h' O' sb => h _ ?_
  have hd : ∃ o, h'.get? dx = some o := let ⟨o, _, _, e', _⟩ := O'.ns; ⟨o, e'⟩
  refine I.write (x := a) (e := dx) (by rw [e]; exact True.intro) (.inr ho) (fun b q hb z => (sb.2 b hb).trans z) hd ?_
  refine ⟨by rw [upd_ne O.ne]; exact ho, ?_, O.ne, O'.obj, _, O'.ns, fun g => ?_, fun g hg => ?_⟩
  · have := length_putF f y fs; omega
  · show RelO ((putF f y fs).lookup g) (if g = f then some u else mA g)
    rw [lookup_putF]
    by_cases q : g = f
    · rw [if_pos q, if_pos q]; exact ry
    · rw [if_neg q, if_neg q]; exact r g
  · by_cases q : g = f
    · rw [q]; exact (keys_putF f y fs).1
    · refine (keys_putF f y fs).2 g (wi g fun z => hg ?_)
      show (if g = f then some u else mA g) = none
      rw [if_neg q]; exact z

/-- a new instance, tracked, without attributes -/
theorem Inv.made (I : Inv X pins σ H s) : Inv X pins σ (upd (upd H s.heap.objs.size (.own (s.heap.objs.size + 1))) (s.heap.objs.size + 1) (.ins C s.heap.objs.size []))
    { s with heap := (s.heap.push PySem.W.emptyDict).push (PySem.W.instObj C s.heap.objs.size) } := by
  have e1 : (s.heap.push PySem.W.emptyDict).get? s.heap.objs.size = some PySem.W.emptyDict := Heap.get?_push_size s.heap rfl
  have e2 : ((s.heap.push PySem.W.emptyDict).push (PySem.W.instObj C s.heap.objs.size)).get? (s.heap.objs.size + 1) = some (PySem.W.instObj C s.heap.objs.size) := by
    have := Heap.get?_push_size (s.heap.push PySem.W.emptyDict) (o := PySem.W.instObj C s.heap.objs.size) rfl
    rwa [Heap.size_push] at this
  have e3 : (s.heap.push PySem.W.emptyDict).Ns s.heap.objs.size (fun _ => none) := ⟨PySem.W.emptyDict, #[], _, e1, rfl, (fun e he => absurd he (by simp)), fun _ => rfl⟩
  have I1 := I.laid (a := s.heap.objs.size) (o := .own (s.heap.objs.size + 1)) (h' := s.heap.push PySem.W.emptyDict) (t' := s.toks) (fun b u q => Heap.get?_push_of_some _ q) (Nat.le_refl _) ⟨_, e1⟩
  refine I1.laid (a := s.heap.objs.size + 1) (o := .ins C s.heap.objs.size []) (t' := s.toks) (fun b u q => Heap.get?_push_of_some _ q) (Nat.le_of_eq (Heap.size_push _ _)) ?_
  have ne : s.heap.objs.size ≠ s.heap.objs.size + 1 := Nat.ne_of_lt (Nat.lt_succ_self _)
  refine ⟨by rw [upd_ne ne, upd_same], Nat.zero_le _, ne, e2, fun _ => none, (Heap.Ns1.of_empty e3).at fun o q => Heap.get?_push_of_some _ q, fun _ => True.intro, fun y hy => absurd rfl hy⟩

/-- e.f where nothing but the object is asked: through attributeBase (super) and the last hold -/
theorem attr_of {prog : Program} {w : World} {env : Env} {e : Expr} {f : Str} {pos : Pos} {s : Shared} {Q : Value → Shared → Prop} (hb : attributeBase e f env (eval e env) = eval e env)
    (h : wpAny (model prog w) A (eval e env) (fun o s₁ => wpAny (model prog w) A (getAttr o f true) Q E s₁) E s) : wpAny (model prog w) A (eval (.Attribute e f pos) env) Q E s :=
  Attribute_any_ h (by rw [arm_eval_Attribute, hb])
end

/-! ### readings and rules -/
/-- e.f, an attribute of the instance -/
def tFld (K : PySem.W.Frag) (ta : TE) (f : Str) : TE := fun σ H Q => ta σ H fun x H1 => ∃ a C dx fs v, x = .ref a ∧ H1 a = some (.ins C dx fs) ∧ Cls K C ∧ NoAttr K C f ∧ fs.lookup f = some v ∧ Q v H1
/-- e.f = value -/
def sFld (K : PySem.W.Frag) (ta tv : TE) (f : Str) : TS := fun D σ H => tv σ H fun y H1 => ta σ H1 fun x H2 => ∃ a C dx fs, x = .ref a ∧ H2 a = some (.ins C dx fs) ∧ Cls K C ∧ NoAttr K C f ∧ fs.length < 1000 ∧
  D.nx σ (upd H2 a (.ins C dx (putF f y fs)))
section
variable {X : Cx} {o e value : Expr} {f : Str} {pos pos' tpos : Pos} {ta tv : TE}
theorem pe_fld (he : PE X e ta) (hb : attributeBase e f X.env (eval e X.env) = eval e X.env) : PE X (.Attribute e f pos) (tFld X.K ta f) := by
  intro pins s σ H Q I h
  refine attr_of hb (thn (he pins s σ H _ I h) fun u s1 ⟨x, H1, I1, rx, a, C, dx, fs, v, ex, ea, c, n, l, q⟩ => ?_)
  subst ex
  obtain rfl : u = Value.ref a := rx
  exact getattr_ok I1 ea c n l fun u' s2 I2 ru => ⟨v, H1, I2, ru, q⟩
theorem ps_fld (ha : PE X o ta) (hv : PE X value tv) (hs : swapsWith value (some (.Attribute o f pos')) pos.line X.env = pure false) : PS X (.Assign [.Attribute o f pos'] value pos) (sFld X.K ta tv f) := by
  intro pins s σ H D I h
  refine plainObj_wpAny_Assign_Attribute (thn (hv pins s σ H _ I h) fun u s1 ⟨y, H1, I1, ry, q⟩ => thn (ha pins s1 σ H1 _ I1 q) fun ov s2 ⟨x, H2, I2, rx, a, C, dx, fs, ex, ea, c, n, l, q2⟩ => ?_) hs
  subst ex
  obtain rfl : ov = Value.ref a := rx
  exact setattr_ok I2 ea c n l ry fun s3 I3 => ⟨σ, _, I3, q2⟩
end

/-! ### isinstance -/
section
variable {X : Cx} {pins : List (Addr × Obj)} {σ : St} {H : Hp} {s : Shared} {A : Around} {E : Value → Shared → Prop} {Q : Value → Shared → Prop} {c : Value} {b : Bool}
/-- the type of a value, as the fragment's deciders take it; for an instance its class -/
inductive TyOf (K : PySem.W.Frag) (H : Hp) : V → Value → Prop where
  | non : TyOf K H .non (.type "NoneType")
  | bl (x : Bool) : TyOf K H (.bl x) (.type "bool")
  | int (i : Int) : TyOf K H (.int i) (.type "int")
  | str (x : Str) : TyOf K H (.str x) (.type "str")
  | flt (x : UInt64) : TyOf K H (.flt x) (.type "float")
  | lst {a : Addr} {xs : List V} (e : H a = some (.lst xs)) : TyOf K H (.ref a) (.type "list")
  | frz {a : Addr} {o : Obj} {xs : List V} (e : H a = some (.frz o (.lst xs))) : TyOf K H (.ref a) (.type "list")
  | tup {a : Addr} {xs : List V} (e : H a = some (.tup xs)) : TyOf K H (.ref a) (.type "tuple")
  | dK {a : Addr} {kvs : List (Key × V)} (e : H a = some (.dK kvs)) : TyOf K H (.ref a) (.type "dict")
  | dT {a : Addr} {kvs : List (List Key × V)} (e : H a = some (.dT kvs)) : TyOf K H (.ref a) (.type "dict")
  | ins {a C dx : Addr} {fs : List (Str × V)} (e : H a = some (.ins C dx fs)) (cl : Cls K C) (ha : PySem.W.findIn K (.ref C) "__class__" = some (some (.builtin "object.__class__")))
      (hn : PySem.W.specialIn K (.builtin "object.__class__") "__get__" = some (some (.builtin "getset_descriptor.__get__"))) (htk : PySem.W.takesIn K (.builtin "object.__class__") = some true)
      (hm : PySem.W.mroIn K C (.type "object") = some true) : TyOf K H (.ref a) (.ref C)
/-- isinstance(x, c) for one class c, a built-in or an own one: kitOne's answer -/
theorem isinst_ok {x : V} {u t : Value} (I : Inv X pins σ H s) (rx : RelV x u) (ty : TyOf X.K H x t) (e : PySem.W.kitOne X.K t c = some b) (h : ∀ tk, Q (.bool b) { s with toks := tk }) :
    wpAny (model X.prog X.w) A (call (.builtin "isinstance") [u, c]) Q E s := by
  cases ty with
  | non => cases (show u = Value.none from rx); exact PySem.W.kia_one PySem.W.kitx_none I.kIn True.intro e (fun z => nomatch z) h
  | bl y => cases (show u = Value.bool y from rx); exact PySem.W.kia_one PySem.W.kitx_bool I.kIn True.intro e (fun z => nomatch z) h
  | int i => obtain ⟨t, q⟩ := (show ∃ t, u = Value.int i t from rx); cases q; exact PySem.W.kia_one PySem.W.kitx_int I.kIn True.intro e (fun z => nomatch z) h
  | str y => obtain ⟨t, q⟩ := (show ∃ t, u = Value.str y t from rx); cases q; exact PySem.W.kia_one PySem.W.kitx_str I.kIn True.intro e (fun z => nomatch z) h
  | flt y => obtain ⟨t, q⟩ := (show ∃ t, u = Value.float y t from rx); cases q; exact PySem.W.kia_one PySem.W.kitx_float I.kIn True.intro e (fun z => nomatch z) h
  | @lst a xs ea =>
    cases (show u = Value.ref a from rx)
    obtain ⟨_, _, n, _, h1⟩ := (show ObjOk X.prog X.w H s.heap a (.lst xs) from I.hok a _ ea)
    exact PySem.W.kia_one PySem.W.kitx_list I.kIn ⟨_, h1, rfl⟩ e (fun z => nomatch z) h
  | @frz a ob xs ea =>
    cases (show u = Value.ref a from rx)
    obtain ⟨_, _, _, n, _, h1⟩ := (show ObjOk X.prog X.w H s.heap a (.frz ob (.lst xs)) from I.hok a _ ea)
    exact PySem.W.kia_one PySem.W.kitx_list I.kIn ⟨_, h1, rfl⟩ e (fun z => nomatch z) h
  | @tup a xs ea =>
    cases (show u = Value.ref a from rx)
    obtain ⟨_, _, _, p⟩ := (show ObjOk X.prog X.w H s.heap a (.tup xs) from I.hok a _ ea)
    obtain ⟨o, h1, h2, _⟩ := p
    exact PySem.W.kia_one PySem.W.kitx_tuple I.kIn ⟨o, h1, h2⟩ e (fun z => nomatch z) h
  | @dK a kvs ea =>
    cases (show u = Value.ref a from rx)
    obtain ⟨_, _, vs, _, p⟩ := (show ObjOk X.prog X.w H s.heap a (.dK kvs) from I.hok a _ ea)
    obtain ⟨o, es, ep, h1, h2, _⟩ := p
    exact PySem.W.kia_one PySem.W.kitx_dict I.kIn ⟨o, h1, h2.1⟩ e (fun z => nomatch z) h
  | @dT a kvs ea =>
    cases (show u = Value.ref a from rx)
    obtain ⟨_, _, xs, _, o, es, ep, h1, h2, _⟩ := (show ObjOk X.prog X.w H s.heap a (.dT kvs) from I.hok a _ ea)
    exact PySem.W.kia_one PySem.W.kitx_dict I.kIn ⟨o, h1, h2.1⟩ e (fun z => nomatch z) h
  | @ins a C dx fs ea cl ha hn htk hm =>
    cases (show u = Value.ref a from rx)
    obtain ⟨mA, O, _⟩ := ins_get I.hok ea
    obtain ⟨od, J, _⟩ := O.look
    exact PySem.W.kia_one (PySem.W.kitx_own (cl.get _) cl.hd ha hn htk hm) I.kIn J e (fun z => nomatch z) h
end
end L2

namespace L2
open PySem PySem.Spec PyProof.Rows

/-! ### room -/
structure Room (k : Nat) (A : Around) : Prop where
  hd : A.handled = none
  dp : A.depth + 3 * k + 5 < recursionLimit
  un : A.units + 16 * k + 200 < cLine
theorem Room.mono {j k : Nat} {A : Around} (r : Room k A) (h : j ≤ k) : Room j A := ⟨r.hd, by have := r.dp; omega, by have := r.un; omega⟩
theorem Room.deeper {k : Nat} {A : Around} (r : Room (k + 1) A) (env : Env) : Room k (A.deeper env) :=
  ⟨r.hd, by have := r.dp; show A.depth + 1 + 3 * k + 5 < _; omega, by have := r.un; show A.units + 3 + 16 * k + 200 < _; omega⟩
theorem Room.in1 {k : Nat} {A : Around} (r : Room (k + 1) A) : Room k A.in1 :=
  ⟨r.hd, by have := r.dp; show A.depth + 3 * k + 5 < _; omega, by have := r.un; show A.units + 1 + 16 * k + 200 < _; omega⟩
theorem make_depth {A : Around} {C : Addr} {us : List Value} {kw : List (Str × Value)} : (A.under (.builtin "type.__call__" ⟨.ref C :: us, kw⟩)).depth = A.depth + 1 := by
  first | rfl | simp [Around.under, Code.weight, Code.isCreation, Code.isGuard, Code.isCaller, Code.frames, Code.isFrame, guardIds]
theorem make_units {A : Around} {C : Addr} {us : List Value} {kw : List (Str × Value)} : (A.under (.builtin "type.__call__" ⟨.ref C :: us, kw⟩)).units = A.units + 1 := by
  first | rfl | simp [Around.under, Code.cUnits, Code.frames, Code.isFrame]
theorem Room.make {k : Nat} {A : Around} (r : Room (k + 1) A) (C : Addr) (us : List Value) (kw : List (Str × Value)) : Room k (A.under (.builtin "type.__call__" ⟨.ref C :: us, kw⟩)) :=
  ⟨r.hd, by have := r.dp; rw [make_depth]; omega, by have := r.un; rw [make_units]; omega⟩
theorem Room.depth {k : Nat} {A : Around} (r : Room k A) : A.depth < recursionLimit := by have := r.dp; omega
theorem Room.units {k : Nat} {A : Around} (r : Room k A) : A.units + 64 < cLine := by have := r.un; omega
/-! ### argument lists and displays -/
def tNil : TA := fun _ H Q => Q [] H
def tCons (ta : TE) (tr : TA) : TA := fun σ H Q => ta σ H fun x H1 => tr σ H1 fun xs H2 => Q (x :: xs) H2
section
variable {X : Cx} {e : Expr} {es : List Expr} {te : TE} {t : TA} {pos : Pos}
theorem pa_nil : PA X [] tNil := fun _ _ _ _ H Q I h => Calls.spliced_nil ⟨[], H, I, .nil, h⟩
theorem pa_cons (ha : PE X e te) (hr : PA X es t) (hs : starEach (e :: es) X.env = (false, eval e X.env) :: starEach es X.env := by rfl) : PA X (e :: es) (tCons te t) := by
  intro pos pins s σ H Q I h
  rw [hs]
  show wpAny _ _ (spliced ((false, eval e X.env) :: backTo pos (starEach es X.env))) _ _ s
  refine Calls.spliced_cons (thn (ha pins s σ H _ I h) fun u s1 ⟨x, H1, I1, r1, q1⟩ => ?_)
  exact thn (hr pos pins s1 σ H1 _ I1 q1) fun us s2 ⟨xs, H2, I2, r2, q2⟩ => ⟨x :: xs, H2, I2, .cons r1 r2, q2⟩

/-- a tuple, a list of written items -/
def tTup (t : TA) : TE := fun σ H Q => t σ H fun xs H1 => xs.length ≤ sizeLine ∧ ∀ p, H1 p = none → Q (.ref p) (upd H1 p (.tup xs))
def tLst (t : TA) : TE := fun σ H Q => t σ H fun xs H1 => xs.length ≤ sizeLine ∧ ∀ p, H1 p = none → Q (.ref p) (upd H1 p (.lst xs))
theorem pe_tup {x1} (h : PA X es t) : PE X (.Tuple es x1 pos) (tTup t) := by
  intro pins s σ H Q I hq
  refine wpAny_Tuple_spliced (thn (h pos pins s σ H _ I hq) fun us s1 ⟨xs, H1, I1, r, z, q⟩ => ⟨by rw [← r.length]; exact z, ?_⟩)
  have hf : H1 s1.heap.objs.size = none := I1.hok.fresh (Nat.le_refl _)
  refine ⟨.ref s1.heap.objs.size, upd H1 s1.heap.objs.size (.tup xs), I1.laid (t' := s1.toks) (fun b u e => Heap.get?_push_of_some _ e) (Nat.le_refl _) ?_, rfl, q _ hf⟩
  exact ⟨z, us, r, ⟨_, Heap.get?_push_size _ rfl, rfl, _, rfl⟩⟩
theorem pe_lst (h : PA X es t) : PE X (.List es pos) (tLst t) := by
  intro pins s σ H Q I hq
  refine wpAny_List_spliced (thn (h pos pins s σ H _ I hq) fun us s1 ⟨xs, H1, I1, r, z, q⟩ => ⟨by rw [← r.length]; exact z, ?_⟩)
  have hf : H1 s1.heap.objs.size = none := I1.hok.fresh (Nat.le_refl _)
  refine ⟨.ref s1.heap.objs.size, upd H1 s1.heap.objs.size (.lst xs), I1.laid (t' := s1.toks) (fun b u e => Heap.get?_push_of_some _ e) (Nat.le_refl _) ?_, rfl, q _ hf⟩
  exact ⟨z, us, 0, r, Heap.get?_push_size _ rfl⟩
end

/-! ### what a def promises -/
/-- a def's promise: the bound arguments in the parameters' order, the heap, the wanted end, the wanted exception -/
abbrev Sp := List V → Hp → VK → XK → Prop
/-- how an exception lies behind a call (file 08 gives it): the callers' frames, abstract heap and state ahead of the call, the wish, the exception, the state -/
abbrev CXT := List Env → Hp → Shared → XK → Value → Shared → Prop

/-- the state at a call -/
structure Env0 (P : Program) (w : World) (K : PySem.W.Frag) (mg : Str → Option Value) (base : Heap) (A : Around) (outer : List Env) (s : Shared) (H : Hp) : Prop where
  frames : A.frames = some outer
  mod : Mod K mg base
  bs : ∀ b o, base.get? b = some o → s.heap.get? b = some o ∧ H b = none
  bsz : base.objs.size ≤ s.heap.objs.size
  funs : s.heap.FunFrames base outer
  frf : ∀ b ∈ frs outer, H b = none
  hok : HOk P w H s.heap
  bare : AllBare s.gens
/-- a call's end -/
def CE (outer : List Env) (P : Program) (w : World) (H : Hp) (s : Shared) (Q : VK) (u : Value) (s' : Shared) : Prop :=
  ∃ v H', s'.os = s.os ∧ AllBare s'.gens ∧ Un (frs outer) [] H H' s.heap s'.heap ∧ HOk P w H' s'.heap ∧ RelV v u ∧ Q v H'
def CR (CX : CXT) (outer : List Env) (P : Program) (w : World) (H : Hp) (s : Shared) (Q : VK) (E : XK) (r : Result) (s' : Shared) : Prop :=
  match r with
  | .ok (.ret u) => CE outer P w H s Q u s'
  | .ok _ => False
  | .error e => CX outer H s E e s'
structure FnOk (P : Program) (w : World) (K : PySem.W.Frag) (mg : Str → Option Value) (base : Heap) (CX : CXT) (k : Nat) (f : Addr) (fd : FuncData) (ps : List Str) (sp : Sp) : Prop where
  len : ∀ vs H Q E, sp vs H Q E → vs.length = ps.length
  run : ∀ (A : Around) (outer : List Env) (s : Shared) (H : Hp) (args : Args) (us : List Value) (vs : List V) (Q : VK) (E : XK), Room k A → Env0 P w K mg base A outer s H → BindsTo s fd args (ps.zip us) → Vals vs us → sp vs H Q E →
    codeAny (model P w) A (.call (.ref f) args) (CR CX outer P w H s Q E) s
theorem FnOk.mono {P : Program} {w : World} {K : PySem.W.Frag} {mg : Str → Option Value} {base : Heap} {CX : CXT} {j k : Nat} {f : Addr} {fd : FuncData} {ps : List Str} {sp : Sp} (F : FnOk P w K mg base CX j f fd ps sp) (h : j ≤ k) :
    FnOk P w K mg base CX k f fd ps sp := ⟨F.len, fun A outer s H args us vs Q E hr => F.run A outer s H args us vs Q E (hr.mono h)⟩
/-- a weaker promise -/
theorem FnOk.imp {P : Program} {w : World} {K : PySem.W.Frag} {mg : Str → Option Value} {base : Heap} {CX : CXT} {k : Nat} {f : Addr} {fd : FuncData} {ps : List Str} {sp sp' : Sp} (F : FnOk P w K mg base CX k f fd ps sp)
    (h : ∀ vs H Q E, sp' vs H Q E → sp vs H Q E) : FnOk P w K mg base CX k f fd ps sp' :=
  ⟨fun vs H Q E q => F.len vs H Q E (h _ _ _ _ q), fun A outer s H args us vs Q E hr he hb hv hs => F.run A outer s H args us vs Q E hr he hb hv (h _ _ _ _ hs)⟩

theorem Env0.make {P : Program} {w : World} {K : PySem.W.Frag} {mg : Str → Option Value} {base : Heap} {A : Around} {outer : List Env} {s : Shared} {H : Hp} (e : Env0 P w K mg base A outer s H) (C : Addr) (us : List Value) (kw : List (Str × Value)) :
    Env0 P w K mg base (A.under (.builtin "type.__call__" ⟨.ref C :: us, kw⟩)) outer s H := ⟨by first | exact e.frames | (simpa [Around.under, Code.envs, Code.isFrame, pushEnvs] using e.frames), e.mod, e.bs, e.bsz, e.funs, e.frf, e.hok, e.bare⟩
theorem Env0.in1 {P : Program} {w : World} {K : PySem.W.Frag} {mg : Str → Option Value} {base : Heap} {A : Around} {outer : List Env} {s : Shared} {H : Hp} (e : Env0 P w K mg base A outer s H) :
    Env0 P w K mg base A.in1 outer s H := ⟨e.frames, e.mod, e.bs, e.bsz, e.funs, e.frf, e.hok, e.bare⟩

section
variable {X : Cx} {pins : List (Addr × Obj)} {σ : St} {H : Hp} {s s' : Shared}
/-- from a body: what a callee wants -/
theorem Inv.env0 (I : Inv X pins σ H s) : Env0 X.prog X.w X.K X.mg X.base X.A X.stack s H :=
  ⟨I.ok.frames, I.ok.mod, I.bs, Nat.le_trans I.ok.bsz I.sz, I.stack, I.stkFree, I.hok, I.bare⟩
/-- behind a call -/
theorem Inv.after {Q : VK} {u : Value} (I : Inv X pins σ H s) (h : CE X.stack X.prog X.w H s Q u s') : EP X pins σ Q u s' := by
  obtain ⟨v, H', os, bare, un, hok, r, q⟩ := h
  obtain ⟨hh, g, d, t, os'⟩ := s'
  obtain rfl : os' = s.os := os
  exact ⟨v, H', I.call (h' := hh) (g' := g) (d' := d) (t' := t) (ch := []) un hok bare (fun b z => absurd z (by simp)), r, q⟩
end

/-! ### calls -/
/-- f(..): the written arguments, then the defaults dvs; E: what is wanted of an exception -/
def tCall (sp : Sp) (dvs : List V) (E : XK) (t : TA) : TE := fun σ H Q => t σ H fun vs H1 => sp (vs ++ dvs) H1 Q E
/-- o.m(..) of an instance of the class at C -/
def tMeth (C : Addr) (m : Str) (sp : Sp) (dvs : List V) (E : XK) (ta : TE) (t : TA) : TE := fun σ H Q => ta σ H fun x H1 => ∃ a dx fs, x = .ref a ∧ H1 a = some (.ins C dx fs) ∧ fs.lookup m = none ∧
  t σ H1 fun vs H2 => sp (x :: (vs ++ dvs)) H2 Q E
/-- C(..): a new instance and its dict, then __init__ -/
def tMake (C : Addr) (sp : Sp) (dvs : List V) (E : XK) (t : TA) : TE := fun σ H Q => t σ H fun vs H1 => ∀ x dx, H1 x = none → H1 dx = none → dx ≠ x →
  sp (.ref x :: (vs ++ dvs)) (upd (upd H1 dx (.own x)) x (.ins C dx [])) (fun v H2 => v = .non ∧ Q (.ref x) H2) E

/-- how the parameters are bound: us the positional arguments, kw the keywords' values by name, ds the defaults that fill up -/
def Binds (K : PySem.W.Frag) (fd : FuncData) (ps : List Str) (ds : List Value) : Prop :=
  ∀ (s : Shared) (us : List Value), K.In s.heap → (us ++ ds).length = ps.length → BindsTo s fd ⟨us, []⟩ (ps.zip (us ++ ds))
/-- every parameter is given -/
theorem Binds.all {K : PySem.W.Frag} {fd : FuncData} {ps : List Str} (h : ∀ us : List Value, us.length = ps.length → bindArgs fd ⟨us, []⟩ = pure (ps.zip us)) : Binds K fd ps [] := fun s us _ hl => by
  rw [List.append_nil] at hl ⊢
  exact .of_eq (h us hl)

/-- an exception of a callee reaches what this body wants of exceptions -/
def Passes (CX : CXT) (X : Cx) (E : XK) : Prop := ∀ (pins : List (Addr × Obj)) (σ : St) (H : Hp) (s : Shared) (e : Value) (s' : Shared), Inv X pins σ H s → CX X.stack H s E e s' → X.xe e s'

section
variable {X : Cx} {CX : CXT} {k : Nat} {f C : Addr} {fd : FuncData} {ps : List Str} {sp : Sp} {dvs : List V} {ds : List Value} {E : XK} {x m : Str} {p pos apos : Pos} {e o : Expr} {es : List Expr} {ta : TE} {t : TA}

/-- the callee runs -/
theorem run_fn {pins : List (Addr × Obj)} {σ : St} {H : Hp} {s : Shared} {Q : VK} {us : List Value} {vs : List V} (F : FnOk X.prog X.w X.K X.mg X.base CX k f fd ps sp) (hr : Room k X.A) (hb : Binds X.K fd ps ds) (hd : Vals dvs ds) (hx : Passes CX X E)
    (I : Inv X pins σ H s) (r : Vals vs us) (h : sp (vs ++ dvs) H Q E) : wpAny (model X.prog X.w) X.A (call (.ref f) us) (EP X pins σ Q) X.xe s := by
  have r2 : Vals (vs ++ dvs) (us ++ ds) := r.append hd
  have hl : (us ++ ds).length = ps.length := by rw [← r2.length]; exact F.len _ _ _ _ h
  refine wpAny_call (codeAny_mono (F.run X.A X.stack s H ⟨us, []⟩ (us ++ ds) (vs ++ dvs) Q E hr I.env0 (hb s us I.kIn hl) r2 h) fun r s' hq => ?_)
  cases r with
  | error e => exact hx pins σ H s e s' I hq
  | ok fl =>
    cases fl with
    | ret u => exact I.after hq
    | next => exact False.elim hq
    | brk => exact False.elim hq
    | cont => exact False.elim hq

theorem pe_call (F : FnOk X.prog X.w X.K X.mg X.base CX k f fd ps sp) (hr : Room k X.A) (hg : Gl X x) (hm : X.mg x = some (.ref f)) (hk : PySem.W.keepIn X.K (.ref f) = true) (hb : Binds X.K fd ps ds) (hd : Vals dvs ds) (hx : Passes CX X E)
    (ha : PA X (e :: es) t) (hdb : (x == ("__debug__" : Str)) = false := by decide) (he : starEach (e :: es) X.env = (false, eval e X.env) :: starEach es X.env := by rfl) (hpl : (backTo pos (starEach es X.env)).any (·.1) = false := by rfl) :
    PE X (.Call (.Name x p) (e :: es) [] pos) (tCall sp dvs E t) := by
  intro pins s σ H Q I h
  refine wpAny_Call_Name_kw (ld_glob I hg hm ?_ hdb)
  refine PySem.W.callWith_K (h₀ := X.base) I.ok.mod.kin hk (thn (ha pos pins s σ H _ I h) fun us s1 ⟨vs, H1, I1, r, q⟩ => ⟨I1.kIn, ?_⟩) he hpl
  exact run_fn F hr hb hd hx I1 r q
/-- o.m(e, ..) -/
theorem pe_meth {pl : Sem Bool} (he : PE X o ta) (c : Cls X.K C) (hm : Meth X.K C m f) (F : FnOk X.prog X.w X.K X.mg X.base CX k f fd ps sp) (hr : Room k X.A) (hb : Binds X.K fd ps ds) (hd : Vals dvs ds) (hx : Passes CX X E) (ha : PA X (e :: es) t)
    (hst : starEach (e :: es) X.env = (false, eval e X.env) :: starEach es X.env := by rfl) (hpl : (backTo pos (starEach es X.env)).any (·.1) = false := by rfl)
    (ht : eval (.Call (.Attribute o m apos) (e :: es) [] pos) X.env = (do
      let ov ← eval o X.env
      standAt apos.atName
      let (f, first) ← holding [ov] (getMethod ov m pl)
      callWith pos f first (backTo pos (starEach (e :: es) X.env)) (backToKw pos (keywordEach [] X.env))) := by rfl) :
    PE X (.Call (.Attribute o m apos) (e :: es) [] pos) (tMeth C m sp dvs E ta t) := by
  intro pins s σ H Q I h
  refine PySem.W.methodCall_KW (pl := pl) (thn (he pins s σ H _ I h) fun u s1 ⟨x, H1, I1, rx, a, dx, fs, ex, ea, l, q⟩ => ?_) ht
  subst ex
  obtain rfl : u = Value.ref a := rx
  refine getmeth_ok I1 ea c hm l ?_
  refine PySem.W.callWith_K (first := [.ref a]) (h₀ := X.base) I.ok.mod.kin hm.kp (thn (ha pos pins s1 σ H1 _ I1 q) fun us s2 ⟨vs, H2, I2, r, q2⟩ => ⟨I2.kIn, ?_⟩) hst hpl
  exact run_fn (us := .ref a :: us) (vs := .ref a :: vs) F hr hb hd hx I2 (.cons rfl r) q2
/-- o.m() -/
theorem pe_meth0 {pl : Sem Bool} (he : PE X o ta) (c : Cls X.K C) (hm : Meth X.K C m f) (F : FnOk X.prog X.w X.K X.mg X.base CX k f fd ps sp) (hr : Room k X.A) (hb : Binds X.K fd ps ds) (hd : Vals dvs ds) (hx : Passes CX X E)
    (ht : eval (.Call (.Attribute o m apos) [] [] pos) X.env = (do
      let ov ← eval o X.env
      standAt apos.atName
      let (f, first) ← holding [ov] (getMethod ov m pl)
      callWith pos f first (backTo pos (starEach [] X.env)) (backToKw pos (keywordEach [] X.env))) := by rfl) :
    PE X (.Call (.Attribute o m apos) [] [] pos) (tMeth C m sp dvs E ta tNil) := by
  intro pins s σ H Q I h
  refine PySem.W.methodCall_KW (pl := pl) (thn (he pins s σ H _ I h) fun u s1 ⟨x, H1, I1, rx, a, dx, fs, ex, ea, l, q⟩ => ?_) ht
  subst ex
  obtain rfl : u = Value.ref a := rx
  refine getmeth_ok I1 ea c hm l ?_
  exact PySem.W.callWith_K0 (first := [.ref a]) I1.kIn hm.kp (run_fn (us := [.ref a]) (vs := [.ref a]) F hr hb hd hx I1 (.cons rfl .nil) q)

/-- what a class must have to be made -/
structure Mk (K : PySem.W.Frag) (C f : Addr) : Prop where
  makes : PySem.W.makesIn K C = true
  init : PySem.W.findIn K (.ref C) "__init__" = some (some (.ref f))
  fn : PySem.W.isFn K (.ref f) = true
  kp : PySem.W.keepIn K (.ref C) = true

theorem run_make {pins : List (Addr × Obj)} {σ : St} {H : Hp} {s : Shared} {Q : VK} {us : List Value} {vs : List V} (M : Mk X.K C f) (F : FnOk X.prog X.w X.K X.mg X.base CX k f fd ps sp) (hr : Room (k + 1) X.A) (hb : Binds X.K fd ps ds) (hd : Vals dvs ds)
    (hx : Passes CX X E) (I : Inv X pins σ H s) (r : Vals vs us)
    (h : ∀ x dx, H x = none → H dx = none → dx ≠ x → sp (.ref x :: (vs ++ dvs)) (upd (upd H dx (.own x)) x (.ins C dx [])) (fun v H2 => v = .non ∧ Q (.ref x) H2) E) :
    wpAny (model X.prog X.w) X.A (call (.ref C) us) (EP X pins σ Q) X.xe s := by
  have hq := h (s.heap.objs.size + 1) s.heap.objs.size (I.hok.fresh (Nat.le_succ _)) (I.hok.fresh (Nat.le_refl _)) (Nat.ne_of_lt (Nat.lt_succ_self _))
  have I2 := Inv.made (C := C) I
  have r2 : Vals (V.ref (s.heap.objs.size + 1) :: (vs ++ dvs)) (Value.ref (s.heap.objs.size + 1) :: (us ++ ds)) := .cons rfl (r.append hd)
  have hl : (Value.ref (s.heap.objs.size + 1) :: us ++ ds).length = ps.length := by
    have e := r2.length
    rw [F.len _ _ _ _ hq] at e
    exact e.symm
  refine wpAny_call (make_map (f := f) I.kIn M.makes M.init (beq_iff_eq.mp M.fn) (codeAny_mono (F.run _ X.stack _ _ ⟨Value.ref (s.heap.objs.size + 1) :: us, []⟩ (Value.ref (s.heap.objs.size + 1) :: (us ++ ds)) _ _ E (hr.make C us [])
    (I2.env0.make C us []) (hb _ (Value.ref (s.heap.objs.size + 1) :: us) I2.kIn hl) r2 hq) fun r s' hq' => ?_))
  cases r with
  | error e => exact hx pins σ _ _ e s' I2 hq'
  | ok fl =>
    cases fl with
    | ret u =>
      obtain ⟨v, H', I3, rv, ev, q3⟩ := I2.after hq'
      subst ev
      exact ⟨rv, ⟨V.ref (s.heap.objs.size + 1), H', I3, rfl, q3⟩⟩
    | next => exact False.elim hq'
    | brk => exact False.elim hq'
    | cont => exact False.elim hq'
theorem pe_make (M : Mk X.K C f) (F : FnOk X.prog X.w X.K X.mg X.base CX k f fd ps sp) (hr : Room (k + 1) X.A) (hg : Gl X x) (hm : X.mg x = some (.ref C)) (hb : Binds X.K fd ps ds) (hd : Vals dvs ds) (hx : Passes CX X E)
    (ha : PA X (e :: es) t) (hdb : (x == ("__debug__" : Str)) = false := by decide) (he : starEach (e :: es) X.env = (false, eval e X.env) :: starEach es X.env := by rfl) (hpl : (backTo pos (starEach es X.env)).any (·.1) = false := by rfl) :
    PE X (.Call (.Name x p) (e :: es) [] pos) (tMake C sp dvs E t) := by
  intro pins s σ H Q I h
  refine wpAny_Call_Name_kw (ld_glob I hg hm ?_ hdb)
  refine PySem.W.callWith_K (h₀ := X.base) I.ok.mod.kin M.kp (thn (ha pos pins s σ H _ I h) fun us s1 ⟨vs, H1, I1, r, q⟩ => ⟨I1.kIn, ?_⟩) he hpl
  exact run_make M F hr hb hd hx I1 r q
theorem pe_make0 (M : Mk X.K C f) (F : FnOk X.prog X.w X.K X.mg X.base CX k f fd ps sp) (hr : Room (k + 1) X.A) (hg : Gl X x) (hm : X.mg x = some (.ref C)) (hb : Binds X.K fd ps ds) (hd : Vals dvs ds) (hx : Passes CX X E)
    (hdb : (x == ("__debug__" : Str)) = false := by decide) : PE X (.Call (.Name x p) [] [] pos) (tMake C sp dvs E tNil) := by
  intro pins s σ H Q I h
  refine wpAny_Call_Name_kw (ld_glob I hg hm ?_ hdb)
  exact PySem.W.callWith_K0 I.kIn M.kp (run_make (us := []) M F hr hb hd hx I .nil h)
end

/-! ### keywords -/
section
variable {X : Cx} {CX : CXT} {k : Nat} {f C : Addr} {fd : FuncData} {ps ks : List Str} {sp : Sp} {E : XK} {x m : Str} {p pos apos kpos : Pos} {e o : Expr} {es : List Expr} {kws : List Keyword} {te ta : TE} {t tk : TA} {nm : Option Str}
/-- how a call with keywords binds: g puts the positional values us and the keywords' values ws (names ks) in the parameters' order, defaults among them -/
structure KBinds (K : PySem.W.Frag) (fd : FuncData) (ps ks : List Str) (g : List Value → List Value → List Value) (gV : List V → List V → List V) : Prop where
  to : ∀ (s : Shared) (us ws : List Value), K.In s.heap → (g us ws).length = ps.length → BindsTo s fd ⟨us, ks.zip ws⟩ (ps.zip (g us ws))
  rel : ∀ {vs : List V} {us : List Value} {zs : List V} {ws : List Value}, Vals vs us → Vals zs ws → Vals (gV vs zs) (g us ws)
variable {g : List Value → List Value → List Value} {gV : List V → List V → List V}
end

/-! ### a def's body keeps its promise -/
/-- names: the parameters first -/
structure FnScope (N P : List Str) (sc : Scope) : Prop where
  kind : sc.kind = .function
  co : sc.isCoroutine = false
  gen : sc.isGenerator = false
  nd : N.Nodup
  pre : N.take P.length = P
  par : ∀ x ∈ P, sc.names.lookup x = some .local ∨ sc.names.lookup x = some .cell
  nofree : ∀ y ∈ sc.names, y.2 ≠ .free

theorem bindL_out {kindOf : Str → Option NameKind} {x : Str} : ∀ {binds : List (Str × Value)} {m : Str → Option Value}, (∀ v, (x, v) ∉ binds) → bindL kindOf binds m x = m x
  | [], _, _ => rfl
  | (n, v) :: r, m, h => by
    unfold bindL
    rw [bindL_out fun w hw => h w (List.mem_cons_of_mem _ hw)]
    split
    · have : x ≠ n := by rintro rfl; exact h v List.mem_cons_self
      simp [this]
    · rfl
theorem bindC_out {kindOf : Str → Option NameKind} {x : Str} : ∀ {binds : List (Str × Value)} {m : Str → Option Value}, (∀ v, (x, v) ∉ binds) → bindC kindOf binds m x = m x
  | [], _, _ => rfl
  | (n, v) :: r, m, h => by
    unfold bindC
    rw [bindC_out fun w hw => h w (List.mem_cons_of_mem _ hw)]
    split
    · rfl
    · have : x ≠ n := by rintro rfl; exact h v List.mem_cons_self
      simp [this]
theorem bindL_get {kindOf : Str → Option NameKind} {x : Str} {v : Value} : ∀ {P : List Str} {vs : List Value} {i : Nat} {m : Str → Option Value}, P.Nodup → P[i]? = some x → vs[i]? = some v → kindOf x = some .local →
    bindL kindOf (P.zip vs) m x = some v
  | [], _, _, _, _, h, _, _ => by simp at h
  | _ :: _, [], _, _, _, _, h, _ => by simp at h
  | p :: P, w :: vs, 0, m, nd, h1, h2, hk => by
    simp at h1 h2; subst h1; subst h2
    show bindL kindOf ((p, w) :: P.zip vs) m p = _
    unfold bindL
    rw [bindL_out fun v hv => (List.nodup_cons.mp nd).1 (List.of_mem_zip hv).1, if_pos hk]
    simp
  | p :: P, w :: vs, i + 1, m, nd, h1, h2, hk => by
    show bindL kindOf ((p, w) :: P.zip vs) m x = _
    unfold bindL
    exact bindL_get (i := i) (List.nodup_cons.mp nd).2 (by simpa using h1) (by simpa using h2) hk
theorem bindC_get {kindOf : Str → Option NameKind} {x : Str} {v : Value} : ∀ {P : List Str} {vs : List Value} {i : Nat} {m : Str → Option Value}, P.Nodup → P[i]? = some x → vs[i]? = some v → kindOf x ≠ some .local →
    bindC kindOf (P.zip vs) m x = some v
  | [], _, _, _, _, h, _, _ => by simp at h
  | _ :: _, [], _, _, _, _, h, _ => by simp at h
  | p :: P, w :: vs, 0, m, nd, h1, h2, hk => by
    simp at h1 h2; subst h1; subst h2
    show bindC kindOf ((p, w) :: P.zip vs) m p = _
    unfold bindC
    rw [bindC_out fun v hv => (List.nodup_cons.mp nd).1 (List.of_mem_zip hv).1, if_neg hk]
    simp
  | p :: P, w :: vs, i + 1, m, nd, h1, h2, hk => by
    show bindC kindOf ((p, w) :: P.zip vs) m x = _
    unfold bindC
    exact bindC_get (i := i) (List.nodup_cons.mp nd).2 (by simpa using h1) (by simpa using h2) hk

/-- the names' values at the entry -/
def start (N : List Str) (vs : List V) : St := vs.map some ++ List.replicate (N.length - vs.length) none

/-- the context of a def's body, at its entry; an exception leaves the frame, then lies as CX says -/
def cxOf (CX : CXT) (P : Program) (w : World) (K : PySem.W.Frag) (mg : Str → Option Value) (base : Heap) (N : List Str) (qual : Str) (scope : Scope) (f : Addr) (cd : Value) (A : Around) (outer : List Env) (s : Shared) (H : Hp) (E : XK) : Cx where
  prog := P
  w := w
  K := K
  mg := mg
  base := base
  A := A.deeper (envOfC qual scope s.heap.objs.size f cd)
  N := N
  s₀ := s
  H₀ := H
  env := envOfC qual scope s.heap.objs.size f cd
  outer := outer
  stack := envOfC qual scope s.heap.objs.size f cd :: outer
  ex := []
  calm := true
  fn := fun _ => true
  pn := []
  xe := fun e s' => wpAny (model P w) (A.deeper (envOfC qual scope s.heap.objs.size f cd)) (leaving (envOfC qual scope s.heap.objs.size f cd) e) (fun _ s'' => CX outer H s E e s'') (fun e' s'' => CX outer H s E e' s'') s'

theorem cell_has {sc : Scope} {n : Nat} {x : Str} (h : sc.names.lookup x = some .cell) : ∃ c, (cellsFrom n sc.names []).lookup x = some c := by
  have q := PySem.W.cellsFrom_some sc.names n [] (.inl h)
  exact Option.isSome_iff_exists.mp q

theorem inv_start {CX : CXT} {P : Program} {w : World} {K : PySem.W.Frag} {mg : Str → Option Value} {base : Heap} {N ps : List Str} {qual : Str} {scope : Scope} {f : Addr} {cd : Value} {A : Around} {outer : List Env} {s s1 : Shared} {H : Hp} {E : XK} {us : List Value} {vs : List V}
    (S : FnScope N ps scope) (hd : A.handled = none) (e0 : Env0 P w K mg base A outer s H) (hl : vs.length = ps.length) (r : Vals vs us)
    (x : InCallC s s.heap.objs.size (bindL (envOfC qual scope s.heap.objs.size f cd).kindOf (ps.zip us) fun _ => none) (cellsFrom (s.heap.objs.size + 1) scope.names []) (bindC (envOfC qual scope s.heap.objs.size f cd).kindOf (ps.zip us) fun _ => none) s1) :
    Inv (cxOf CX P w K mg base N qual scope f cd A outer s H E) [] (start N vs) H s1 := by
  have hpl : ps.length ≤ N.length := by have := congrArg List.length S.pre; rw [List.length_take] at this; omega
  obtain ⟨h1, tk, rfl, hk⟩ := x.done
  have noA : ∀ b : Addr, b ∉ (cxOf CX P w K mg base N qual scope f cd A outer s H E).ex := fun b z => absurd (show b ∈ ([] : List Addr) from z) (by simp)
  refine ⟨⟨e0.mod, S.kind, rfl, rfl, Nat.le_refl _, fun y z c h1 h2 => ?_, fun y hy => ?_, fun y c _ h => ?_, fun _ => hd, Around.frames_deeper e0.frames, .inr ⟨rfl, rfl⟩, fun b z => absurd z (noA b), e0.bs, e0.bsz, fun b _ _ => noA b, fun b z => absurd z (noA b), e0.funs, e0.frf⟩,
    rfl, e0.bare, Un.kept hk, ⟨_, x.toInCall.ns, fun i y v h1 h2 h3 => ?_⟩, fun y c h => ⟨_, x.cell y c h⟩, e0.hok.fresh (Nat.le_refl _), fun y c h => ?_, fun p hp => absurd (show p ∈ ([] : List (Addr × Obj)) from hp) (by simp), e0.hok.kept hk, ?_⟩
  · exact name_of_addr x.apart (PySem.mem_of_lookup h1) (PySem.mem_of_lookup h2)
  · have hy : scope.names.lookup y = some .cell ∨ scope.names.lookup y = some .free := hy
    rcases hy with hy | hy
    · exact cell_has hy
    · exact absurd rfl (S.nofree _ (PySem.mem_of_lookup hy))
  · exact Nat.le_of_lt (x.above y c (PySem.mem_of_lookup h))
  · have hi : i < vs.length := by
      unfold start at h2
      by_cases hi : i < vs.length
      · exact hi
      · rw [List.getElem?_append_right (by simpa using hi)] at h2
        rw [List.getElem?_replicate] at h2
        split at h2 <;> cases h2
    have ha : vs[i]? = some v := by
      unfold start at h2
      rw [List.getElem?_append_left (by simpa using hi), List.getElem?_map] at h2
      cases e : vs[i]? with
      | none => rw [e] at h2; cases h2
      | some a => rw [e] at h2; cases h2; rfl
    obtain ⟨u, hu, rv⟩ := r.get ha
    have hp : ps[i]? = some y := by
      rw [← S.pre, List.getElem?_take_of_lt (by omega)]; exact h1
    have ndP : ps.Nodup := by rw [← S.pre]; exact S.nd.sublist (List.take_sublist _ _)
    refine ⟨u, rv, ?_⟩
    rcases S.par y (List.mem_of_getElem? hp) with k | k
    · exact .inl ⟨k, bindL_get ndP hp hu k⟩
    · obtain ⟨c, e⟩ := cell_has (n := s.heap.objs.size + 1) k
      refine .inr ⟨.inl k, c, e, ?_⟩
      have q := x.cell y c e
      rw [bindC_get ndP hp hu (by show scope.names.lookup y ≠ _; rw [k]; decide)] at q
      exact q
  · exact e0.hok.fresh (Nat.le_of_lt (x.above y c (PySem.mem_of_lookup h)))
  · unfold start
    show _ = N.length
    rw [List.length_append, List.length_map, List.length_replicate]
    omega

/-- THE RULE: a def (or a method) of the text, by its body. The body's reading t is chosen for each entry; it is run at the parameters' values -/
theorem fn_of {CX : CXT} {P : Program} {w : World} {K : PySem.W.Frag} {mg : Str → Option Value} {base : Heap} {k : Nat} {f : Addr} {name qual : Str} {params : Arguments} {body : List Stmt} {scope : Scope} {dV kV doc pm cdv ct oc : Value} {an od : Option Addr}
    {osl : Array (Option Value)} {N ps : List Str} {sp : Sp} (lk : K.lookup f = some ⟨oc, od, .func (PySem.W.fnOf name qual params body scope dV kV doc pm an cdv ct), osl⟩) (hcd : PySem.W.codeIn K cdv qual = true) (S : FnScope N ps scope)
    (len : ∀ vs H Q E, sp vs H Q E → vs.length = ps.length)
    (hbody : ∀ (A : Around) (outer : List Env) (s : Shared) (H : Hp) (vs : List V) (Q : VK) (E : XK), Room k (A.deeper (envOfC qual scope s.heap.objs.size f cdv)) → sp vs H Q E →
      ∃ t, PSs (cxOf CX P w K mg base N qual scope f cdv A outer s H E) body t ∧ t { nx := fun _ H' => Q .non H', rt := Q } (start N vs) H) :
    FnOk P w K mg base CX (k + 1) f (PySem.W.fnOf name qual params body scope dV kV doc pm an cdv ct) ps sp := by
  refine ⟨len, fun A outer s H args us vs Q E hr e0 hb r hsp => ?_⟩
  have hl := len _ _ _ _ hsp
  have KX : K.In s.heap := e0.mod.kin.keeps fun b o e => (e0.bs b o e).1
  have lim : s.heap.NoLimit := e0.mod.nolimit.keeps fun b o e => (e0.bs b o e).1
  have hkind : ∀ y ∈ ps.zip us, scope.names.lookup y.1 = some .local ∨ (scope.names.lookup y.1 = some .cell ∧ ((cellsFrom (s.heap.objs.size + 1) scope.names []).lookup y.1).isSome = true) := fun ⟨n, v⟩ hy => by
    rcases S.par n (List.of_mem_zip hy).1 with q | q
    · exact .inl q
    · exact .inr ⟨q, PySem.W.cellsFrom_some _ _ _ (.inl q)⟩
  refine codeAny_call_function hr.depth (KX _ _ lk) rfl S.co S.gen rfl (PySem.W.codeRec_of KX hcd) (hb _ _ _ _ ?_)
  refine wpAny_newFunctionEnv_cells S.kind hkind fun env he s1 x => ?_
  subst he
  refine ⟨lim.keeps x.toInCall.keep, codeAny_func ?_⟩
  obtain ⟨t, ht, hq⟩ := hbody A outer s H vs Q E (hr.deeper _) hsp
  have I : Inv (cxOf CX P w K mg base N qual scope f cdv A outer s H E) [] (start N vs) H s1 := inv_start S hr.hd e0 hl r x
  refine wpAny_mono (ht [] s1 (start N vs) H _ I hq) (fun fl s' hs => ?_) fun e s' hs => hs
  have fin : ∀ {σ' : St} {H' : Hp} {v : V} {u : Value}, Inv (cxOf CX P w K mg base N qual scope f cdv A outer s H E) [] σ' H' s' → RelV v u → Q v H' → CE outer P w H s Q u s' :=
    fun {σ' H' v u} J rv q => ⟨v, H', J.os, J.bare, J.base, J.hok, rv, q⟩
  cases fl with
  | ret u =>
    obtain ⟨v, σ', H', J, rv, q⟩ := hs
    exact fin J rv q
  | next =>
    obtain ⟨σ', H', J, q⟩ := hs
    exact fin (v := V.non) (u := Value.none) J rfl q
  | brk =>
    obtain ⟨_, _, _, q⟩ := hs
    exact False.elim q
  | cont =>
    obtain ⟨_, _, _, q⟩ := hs
    exact False.elim q
end L2

namespace L2
open PySem PySem.Spec PyProof.Rows
section
variable {X : Cx} {x : Str} {p pos : Pos} {e : Expr} {es : List Expr} {t : TA} {id T : String} {r : List V → Hp → VK → Prop}

def tCB (r : List V → Hp → VK → Prop) (t : TA) : TE := fun σ H Q => t σ H fun vs H1 => r vs H1 Q
/-- f(e, ..), f a built-in function -/
theorem pe_callB (hc : CallR X (.builtin id) r) (hg : Gl X x) (hm : X.mg x = none) (hv : bootBuiltins x = some (.builtin id)) (ha : PA X (e :: es) t) (hn : x ≠ "__name__" := by decide) (hdb : (x == ("__debug__" : Str)) = false := by decide)
    (he : starEach (e :: es) X.env = (false, eval e X.env) :: starEach es X.env := by rfl) (hpl : (backTo pos (starEach es X.env)).any (·.1) = false := by rfl) : PE X (.Call (.Name x p) (e :: es) [] pos) (tCB r t) := by
  intro pins s σ H Q I h
  refine wpAny_Call_Name_kw (ld_blt I hg hm hv ?_ hn hdb)
  exact PyProof.Rows.callWith_builtin1 (thn (ha pos pins s σ H _ I h) fun us s1 ⟨vs, H1, I1, r1, q1⟩ => hc pins s1 σ H1 vs us Q I1 r1 q1) he hpl
/-- T(e, ..), T a built-in type -/
theorem pe_callTy (hc : CallR X (.type T) r) (hg : Gl X x) (hm : X.mg x = none) (hv : bootBuiltins x = some (.type T)) (ha : PA X (e :: es) t) (hn : x ≠ "__name__" := by decide) (hdb : (x == ("__debug__" : Str)) = false := by decide)
    (he : starEach (e :: es) X.env = (false, eval e X.env) :: starEach es X.env := by rfl) (hpl : (backTo pos (starEach es X.env)).any (·.1) = false := by rfl) : PE X (.Call (.Name x p) (e :: es) [] pos) (tCB r t) := by
  intro pins s σ H Q I h
  refine wpAny_Call_Name_kw (ld_blt I hg hm hv ?_ hn hdb)
  exact PyProof.Rows.callWith_type1 (thn (ha pos pins s σ H _ I h) fun us s1 ⟨vs, H1, I1, r1, q1⟩ => hc pins s1 σ H1 vs us Q I1 r1 q1) he hpl
end
end L2

namespace HT
open PySem PyProof.Rows

section
open PySem.SeqAt
open PySem.AutoSeq1 (wpAny_loadPart')
open PySem.MeetsSeq PySem.MeetsSeq2 PySem.MeetsSeq3

end

section
variable {prog : Program} {w : World} {A : Around} {E : Value → Shared → Prop} {s : Shared}

/-! ### t[a:b], not the whole -/
/-- a slice's bound as a place among n (d where it is left out) -/
def sIx (n d : Nat) : Option Int → Nat
  | none => d
  | some v => if v < 0 then (v + (n : Int)).toNat else min v.toNat n
end
end HT

namespace L2
open PySem PySem.Spec PyProof.Rows

/-! ### the parts of a slice -/
abbrev TO := St → Hp → (Option Int → Hp → Prop) → Prop
/-- a slice's part (left out, or an int) -/
def PO (X : Cx) (e : Option Expr) (t : TO) : Prop :=
  ∀ (pins : List (Addr × Obj)) (s : Shared) (σ : St) (H : Hp) (Q : Option Int → Hp → Prop), Inv X pins σ H s → t σ H Q →
    wpAny (model X.prog X.w) X.A (evalPart e X.env) (fun u s' => ∃ o H', Inv X pins σ H' s' ∧ IsPart u o ∧ Q o H') X.xe s
def tNoPart : TO := fun _ H Q => Q none H
def tPart (t : TE) : TO := fun σ H Q => t σ H fun x H1 => ∃ i, x = .int i ∧ Q (some i) H1

section
variable {X : Cx} {e : Expr} {te : TE} {lo hi : Option Expr} {tl th : TO} {pos p2 : Pos}

theorem po_none : PO X none tNoPart := by
  intro pins s σ H Q I h
  rw [evalPart_none]
  exact wpAny_pure ⟨none, H, I, .none, h⟩
theorem po_some (h : PE X e te) : PO X (some e) (tPart te) := by
  intro pins s σ H Q I hw
  rw [evalPart_some]
  refine thn (h pins s σ H _ I hw) fun u s1 ⟨x, H1, I1, r1, q1⟩ => ?_
  obtain ⟨i, rfl, q⟩ := q1
  obtain ⟨t, rfl⟩ := r1
  exact ⟨some i, H1, I1, .int i t, q⟩

/-- what a slice of a value is, by values: the slice object stands at sl -/
def SlR (X : Cx) (r : V → Option Int → Option Int → Hp → VK → Prop) : Prop :=
  ∀ (pins : List (Addr × Obj)) (s : Shared) (σ : St) (H : Hp) (x : V) (v vl vu : Value) (lo hi : Option Int) (sl : Addr) (Q : VK), Inv X pins σ H s → RelV x v → s.heap.IsSliceOf sl vl vu .none → IsPart vl lo → IsPart vu hi → r x lo hi H Q →
    ∃ T id, typeLookup (.type T) "__getitem__" = pure (some (.builtin id)) ∧ s.TypeIs v T ∧ wpAny (model X.prog X.w) X.A (getItem v (.ref sl)) (EP X pins σ Q) X.xe s
theorem SlR.or {r r' : V → Option Int → Option Int → Hp → VK → Prop} (h : SlR X r) (h' : SlR X r') : SlR X (fun x lo hi H Q => r x lo hi H Q ∨ r' x lo hi H Q) := by
  intro pins s σ H x v vl vu lo hi sl Q I rx hs pl pu q
  rcases q with q | q
  · exact h pins s σ H x v vl vu lo hi sl Q I rx hs pl pu q
  · exact h' pins s σ H x v vl vu lo hi sl Q I rx hs pl pu q
def tSl (r : V → Option Int → Option Int → Hp → VK → Prop) (te : TE) (tl th : TO) : TE := fun σ H Q => te σ H fun x H1 => tl σ H1 fun l H2 => th σ H2 fun u H3 => r x l u H3 Q
/-- a[lo:hi], any a -/
theorem pe_slice {r : V → Option Int → Option Int → Hp → VK → Prop} (hr : SlR X r) (he : PE X e te) (hl : PO X lo tl) (hu : PO X hi th) : PE X (.Subscript e (.Slice lo hi none p2) pos) (tSl r te tl th) := by
  intro pins s σ H Q I h
  refine Subscript_ (thn (he pins s σ H _ I h) fun v s1 ⟨x, H1, I1, r1, q1⟩ => ?_)
  refine wpAny_Slice (thn (hl pins s1 σ H1 _ I1 q1) fun vl s2 ⟨l, H2, I2, pl, q2⟩ => thn (hu pins s2 σ H2 _ I2 q2) fun vu s3 ⟨u, H3, I3, pu, q3⟩ => ?_)
  rw [evalPart_none]
  refine wpAny_pure ?_
  have I4 : Inv X pins σ H3 { s3 with heap := s3.heap.push { cls := .type "slice", data := .fields #[vl, vu, .none] } } := I3.kept (t' := s3.toks) fun b ob q => Heap.get?_push_of_some _ q
  obtain ⟨T, id, hT, ht, hg⟩ := hr pins { s3 with heap := s3.heap.push { cls := .type "slice", data := .fields #[vl, vu, .none] } } σ H3 x v vl vu l u s3.heap.objs.size Q I4 r1 (Heap.IsSliceOf.new ..) pl pu q3
  show wpAny (model X.prog X.w) X.A (subscriptTail e (.Slice lo hi none p2) v (.ref s3.heap.objs.size)) (EP X pins σ Q) X.xe { s3 with heap := s3.heap.push { cls := .type "slice", data := .fields #[vl, vu, .none] } }
  exact tail_any (ops := [.ref s3.heap.objs.size, v]) ht hT hg (by with_unfolding_all rfl)

/-- the items of xs[lo:hi] -/
def cutV (xs : List V) (lo hi : Option Int) : List V := (xs.drop (HT.sIx xs.length 0 lo)).take (HT.sIx xs.length xs.length hi - HT.sIx xs.length 0 lo)
theorem cutV_length (xs : List V) (lo hi : Option Int) : (cutV xs lo hi).length ≤ xs.length := by
  unfold cutV
  rw [List.length_take, List.length_drop]
  omega
/-! ### t < u, t + u -/
end
end L2

namespace L2
open PySem PySem.Spec PyProof.Rows

/-! ### places -/
/-- the place that an index of any sign means -/
def ixN (n : Nat) (i : Int) : Option Nat := if 0 ≤ i then (if i < n then some i.toNat else none) else if -(n : Int) ≤ i then some (i + n).toNat else none
def atI {α : Type} (xs : List α) (i : Int) : Option α := (ixN xs.length i).bind fun j => xs[j]?
theorem ixN_seq {n : Nat} {i : Int} {j : Nat} (h : ixN n i = some j) : seqIndex? i n = some j ∧ j < n ∧ -(n : Int) ≤ i ∧ i < n := by
  unfold ixN at h
  by_cases h0 : 0 ≤ i
  · rw [if_pos h0] at h
    by_cases h1 : i < n
    · rw [if_pos h1] at h
      have e : i.toNat = j := Option.some.inj h
      exact ⟨by rw [seqIndex_of h0 h1, e], by omega, by omega, h1⟩
    · rw [if_neg h1] at h; cases h
  · rw [if_neg h0] at h
    by_cases h1 : -(n : Int) ≤ i
    · rw [if_pos h1] at h
      have e : (i + n).toNat = j := Option.some.inj h
      exact ⟨by rw [seqIndex_neg (by omega) h1, e], by omega, h1, by omega⟩
    · rw [if_neg h1] at h; cases h
theorem atI_get {α : Type} {xs : List α} {i : Int} {v : α} (h : atI xs i = some v) : ∃ j, seqIndex? i xs.length = some j ∧ xs[j]? = some v ∧ j < xs.length ∧ -(xs.length : Int) ≤ i ∧ i < xs.length := by
  unfold atI at h
  cases e : ixN xs.length i with
  | none => rw [e] at h; cases h
  | some j =>
    rw [e] at h
    obtain ⟨h1, h2, h3, h4⟩ := ixN_seq e
    exact ⟨j, h1, h, h2, h3, h4⟩
theorem atI_nat {α : Type} {xs : List α} {j : Nat} {v : α} (h : xs[j]? = some v) : atI xs (j : Int) = some v := by
  have hj : j < xs.length := (List.getElem?_eq_some_iff.mp h).1
  have e : ixN xs.length (j : Int) = some j := by
    unfold ixN
    rw [if_pos (by omega), if_pos (by omega)]; simp
  unfold atI; rw [e]; exact h
/-! ### what may be subscripted -/
/-- what stands as an index of a plain subscript -/
def PlainIx (b : Expr) : Prop := ∀ o i, subscripted b false o i = operate [o, i] (getItem o i)
/-- a subscript by values -/
def IxR (X : Cx) (r : R2) : Prop :=
  ∀ (value slice : Expr) (pins : List (Addr × Obj)) (s : Shared) (σ : St) (H : Hp) (x y : V) (v u : Value) (Q : VK), Inv X pins σ H s → RelV x v → RelV y u → r x y H Q →
    subscripted slice false v u = operate [v, u] (getItem v u) → wpAny (model X.prog X.w) X.A (subscriptTail value slice v u) (EP X pins σ Q) X.xe s
/-- a call of a builtin's method by values: the receiver, the arguments -/
def MtR (X : Cx) (id : String) (r : V → List V → Hp → VK → Prop) : Prop :=
  ∀ (pins : List (Addr × Obj)) (s : Shared) (σ : St) (H : Hp) (x : V) (xs : List V) (v : Value) (us : List Value) (Q : VK), Inv X pins σ H s → RelV x v → Vals xs us → r x xs H Q →
    wpAny (model X.prog X.w) X.A (call (.builtin id) (v :: us)) (EP X pins σ Q) X.xe s
section
variable {X : Cx} {a b : Expr} {ta tb : TE} {pos : Pos}
theorem IxR.or {r r' : R2} (h : IxR X r) (h' : IxR X r') : IxR X (fun x y H Q => r x y H Q ∨ r' x y H Q) := by
  intro value slice pins s σ H x y v u Q I rx ry q hs
  rcases q with q | q
  · exact h value slice pins s σ H x y v u Q I rx ry q hs
  · exact h' value slice pins s σ H x y v u Q I rx ry q hs
theorem MtR.or {id : String} {r r' : V → List V → Hp → VK → Prop} (h : MtR X id r) (h' : MtR X id r') : MtR X id (fun x xs H Q => r x xs H Q ∨ r' x xs H Q) := by
  intro pins s σ H x xs v us Q I rx rs q
  rcases q with q | q
  · exact h pins s σ H x xs v us Q I rx rs q
  · exact h' pins s σ H x xs v us Q I rx rs q
/-- a[b] -/
theorem pe_ix {r : R2} (hr : IxR X r) (ha : PE X a ta) (hb : PE X b tb) (hs : PlainIx b) : PE X (.Subscript a b pos) (tOp r ta tb) := by
  intro pins s σ H Q I h
  exact Subscript_ (binT ha hb I h fun v u s2 x y H2 I2 rx ry q => hr a b pins s2 σ H2 x y v u Q I2 rx ry q (hs _ _))

def rIxL (K : PySem.W.Frag) : R2 := fun x y H Q => ∃ p xs i v, x = .ref p ∧ y = .int i ∧ SqL K H p xs ∧ atI xs i = some v ∧ Q v H
def rIxT (K : PySem.W.Frag) : R2 := fun x y H Q => ∃ p xs i v, x = .ref p ∧ y = .int i ∧ SqT K H p xs ∧ atI xs i = some v ∧ Q v H
theorem ix_list : IxR X (rIxL X.K) := by
  intro value slice pins s σ H x y v u Q I rx ry h hs
  obtain ⟨p, xs, i, z, rfl, rfl, hq, he, q⟩ := h
  cases rx
  obtain ⟨t, rfl⟩ := ry
  obtain ⟨its, r, pl, hz⟩ := I.list hq
  obtain ⟨j, h1, h2, h3, h4, h5⟩ := atI_get he
  obtain ⟨w, ew, rw'⟩ := r.get h2
  have hl := r.length
  have hn := line63
  have fin : EP X pins σ Q w s := ⟨z, H, I, rw', q⟩
  by_cases h0 : 0 ≤ i
  · have hj : i.toNat = j := by
      rw [seqIndex_of h0 h5] at h1
      exact Option.some.inj h1
    exact item_listR pl.isList h0 (by omega) (by rw [hj]; simpa using ew) fin hs
  · have hj : (i + (its.toArray.size : Int)).toNat = j := by
      rw [seqIndex_neg (by omega) h4] at h1
      rw [List.size_toArray, ← hl]
      exact Option.some.inj h1
    exact subscriptTail_builtinR (x := w) pl.isList.typeIs slot_list_getitem.lookup
      (wpAny_getItem_list_neg (Q := fun r s' => r = w ∧ EP X pins σ Q r s') pl.isList (by omega) (by rw [List.size_toArray] <;> omega) (by omega) (by rw [hj]; simpa using ew) ⟨rfl, fin⟩) hs
theorem ix_tup : IxR X (rIxT X.K) := by
  intro value slice pins s σ H x y v u Q I rx ry h hs
  obtain ⟨p, xs, i, z, rfl, rfl, hq, he, q⟩ := h
  cases rx
  obtain ⟨t, rfl⟩ := ry
  obtain ⟨its, r, pl, hz⟩ := I.tuple hq
  obtain ⟨j, h1, h2, h3, h4, h5⟩ := atI_get he
  obtain ⟨w, ew, rw'⟩ := r.get h2
  have hl := r.length
  have hn := line63
  have fin : EP X pins σ Q w s := ⟨z, H, I, rw', q⟩
  exact subscriptTail_builtinR (x := w) pl.typeIs slot_tuple_getitem.lookup
    (getItem_tuple (j := j) (Q := fun r s' => r = w ∧ EP X pins σ Q r s') pl (by omega) (by omega) (by rw [List.size_toArray, ← hl]; exact h1) (by simpa using ew) ⟨rfl, fin⟩) hs
/-! ### xs[i] = v, any sign -/
/-- the list's object behind a store -/
theorem mapSeq_set (its : List Value) (n j : Nat) (u : Value) : Obj.mapSeq (·.setIfInBounds j u) { cls := .type "list", data := .seq its.toArray n } = { cls := .type "list", data := .seq (its.set j u).toArray n } := by
  simp [Obj.mapSeq]
theorem Inv.lst {pins : List (Addr × Obj)} {σ : St} {H : Hp} {s : Shared} {p : Addr} {xs : List V} (I : Inv X pins σ H s) (h : H p = some (.lst xs)) :
    ∃ (its : List Value) (n : Nat), Vals xs its ∧ s.heap.get? p = some { cls := .type "list", data := .seq its.toArray n } ∧ xs.length ≤ sizeLine := by
  obtain ⟨z, its, n, r, e⟩ := I.hok p _ h
  exact ⟨its, n, r, e, z⟩
/-- the list at p is written by an update of its object -/
theorem Inv.lstUpd {pins : List (Addr × Obj)} {σ : St} {H : Hp} {s : Shared} {p : Addr} {xs ys : List V} {its its' : List Value} {n n' : Nat} {f : Obj → Obj} (I : Inv X pins σ H s) (h : H p = some (.lst xs))
    (ho : s.heap.get? p = some { cls := .type "list", data := .seq its.toArray n }) (hf : f { cls := .type "list", data := .seq its.toArray n } = { cls := .type "list", data := .seq its'.toArray n' }) (r : Vals ys its') (hz : ys.length ≤ sizeLine) (t : Nat) :
    Inv X pins σ (upd H p (.lst ys)) { s with heap := s.heap.update p f, toks := t } := by
  have e : (s.heap.update p f).get? p = some { cls := .type "list", data := .seq its'.toArray n' } := by
    rw [Heap.get?_update_self f ho (by rw [hf] <;> rfl), hf]
  refine I.write (x := p) (e := p) (by rw [h]; trivial) (.inl rfl) (fun b u hb q => (Heap.get?_update_other _ _ (Ne.symm hb)).trans q) ⟨_, e⟩ ?_
  exact ⟨hz, its', n', r, e⟩
def rSetL : V → V → V → Hp → (Hp → Prop) → Prop := fun o i v H Q => ∃ p xs k j, o = .ref p ∧ i = .int k ∧ H p = some (.lst xs) ∧ ixN xs.length k = some j ∧ Q (upd H p (.lst (xs.set j v)))
theorem set_list : PSet X rSetL := by
  intro pins s σ H o i v ov iv u Q I ro ri rv h
  obtain ⟨p, xs, k, j, rfl, rfl, hp, hj, q⟩ := h
  cases ro
  obtain ⟨t, rfl⟩ := ri
  obtain ⟨its, n, r, ho, hz⟩ := I.lst hp
  obtain ⟨h1, h2, h3, h4⟩ := ixN_seq hj
  have hl := r.length
  have hn := line63
  have I' : Inv X pins σ (upd H p (.lst (xs.set j v))) { s with heap := s.heap.update p (Obj.mapSeq (·.setIfInBounds j u)) } :=
    I.lstUpd hp ho (mapSeq_set its n j u) (r.set rv j) (by rw [List.length_set]; exact hz) s.toks
  by_cases h0 : 0 ≤ k
  · have hk : k.toNat = j := by
      rw [seqIndex_of h0 h4] at h1
      exact Option.some.inj h1
    exact PySem.W.ki_setAt ho h0 (by omega) (by rw [List.size_toArray, ← hl]; exact h4) (by rw [hk]; exact ⟨_, I', q⟩)
  · have hk : (k + (its.toArray.size : Int)).toNat = j := by
      rw [seqIndex_neg (by omega) h3] at h1
      rw [List.size_toArray, ← hl]
      exact Option.some.inj h1
    exact PySem.W.ki_setBack ho (by omega) (by rw [List.size_toArray, ← hl]; exact h3) (by omega) (by rw [hk]; exact ⟨_, I', q⟩)

/-! ### slices -/
theorem slice_bounds (lo hi : Option Int) (n : Nat) : (sliceBounds lo hi none n).1 = ((HT.sIx n 0 lo : Nat) : Int) ∧ (sliceBounds lo hi none n).2.1 = ((HT.sIx n n hi : Nat) : Int) ∧ (sliceBounds lo hi none n).2.2 = 1 := by
  refine ⟨?_, ?_, rfl⟩
  · cases lo with
    | none => simp [sliceBounds, HT.sIx]
    | some i =>
      simp only [sliceBounds, HT.sIx, Option.getD_none, show (1 : Int) > 0 by decide, if_true]
      by_cases h : i < 0
      · simp only [h, if_true] <;> omega
      · simp only [h, if_false] <;> omega
  · cases hi with
    | none => simp [sliceBounds, HT.sIx]
    | some i =>
      simp only [sliceBounds, HT.sIx, Option.getD_none, show (1 : Int) > 0 by decide, if_true]
      by_cases h : i < 0
      · simp only [h, if_true] <;> omega
      · simp only [h, if_false] <;> omega
theorem slicePick_cut (its : List Value) (lo hi : Option Int) : slicePick its.toArray lo hi none = ((its.drop (HT.sIx its.length 0 lo)).take (HT.sIx its.length its.length hi - HT.sIx its.length 0 lo)).toArray := by
  obtain ⟨h1, h2, h3⟩ := slice_bounds lo hi its.toArray.size
  unfold slicePick
  rw [h1, h2, h3]
  simp only [sliceRange_one, pick_run, List.size_toArray] <;> rfl
/-- xs[lo:hi] of a list: a new list -/
def rSlL (K : PySem.W.Frag) : V → Option Int → Option Int → Hp → VK → Prop := fun x lo hi H Q => ∃ a xs, x = .ref a ∧ SqL K H a xs ∧ ∀ p, H p = none → Q (.ref p) (upd H p (.lst (cutV xs lo hi)))
theorem sl_list : SlR X (rSlL X.K) := by
  intro pins s σ H x v vl vu lo hi sl Q I rx hs pl pu h
  obtain ⟨a, xs, rfl, hx, q⟩ := h
  cases rx
  obtain ⟨its, r, ht, hz⟩ := I.list hx
  have hlen := r.length
  refine ⟨"list", _, slot_list_getitem.lookup, ht.isList.typeIs, ?_⟩
  refine wpAny_getItem_list_slice ht.isList hs pl pu .none (by simp) ?_ (by rw [List.size_toArray] <;> omega)
  rw [slicePick_cut, ← hlen]
  refine ⟨.ref s.heap.objs.size, _, I.laid (t' := s.toks) (o := .lst (cutV xs lo hi)) (fun b ob q => Heap.get?_push_of_some _ q) (Nat.le_refl _) ?_, rfl, q _ (I.hok.fresh (Nat.le_refl _))⟩
  exact ⟨Nat.le_trans (cutV_length xs lo hi) hz, _, 0, (r.drop (HT.sIx xs.length 0 lo)).take (HT.sIx xs.length xs.length hi - HT.sIx xs.length 0 lo), Heap.get?_push_size _ rfl⟩

/-! ### in, not in: flat items -/
def flatV : V → Bool
  | .non => true
  | .bl _ => true
  | .int _ => true
  | .str _ => true
  | _ => false
/-- == of flat values -/
def eqV : V → V → Bool
  | .non, .non => true
  | .bl a, .bl b => a == b
  | .bl a, .int b => (if a then 1 else 0) == b
  | .int a, .bl b => a == (if b then 1 else 0)
  | .int a, .int b => a == b
  | .str a, .str b => a == b
  | _, _ => false
theorem eqAt_V {A : Around} {s : Shared} {y x : V} {u v : Value} (ry : RelV y u) (rx : RelV x v) (fy : flatV y = true) (fx : flatV x = true) : SeqAt.EqAt A s u v (eqV y x) := by
  cases y with
  | non =>
    cases ry
    cases x with
    | non => cases rx; exact SeqAt.EqAt.same _
    | bl b => cases rx; exact SeqAt.EqAt.none_bool b
    | int b => obtain ⟨t, rfl⟩ := rx; exact SeqAt.EqAt.none_int b t
    | str b => obtain ⟨t, rfl⟩ := rx; exact SeqAt.EqAt.none_str b t
    | _ => exact absurd (show false = true from fx) Bool.false_ne_true
  | bl a =>
    cases ry
    cases x with
    | non => cases rx; exact SeqAt.EqAt.bool_none a
    | bl b => cases rx; exact SeqAt.EqAt.bool_bool a b
    | int b => obtain ⟨t, rfl⟩ := rx; exact SeqAt.EqAt.bool_int a b t
    | str b => obtain ⟨t, rfl⟩ := rx; exact SeqAt.EqAt.bool_str a b t
    | _ => exact absurd (show false = true from fx) Bool.false_ne_true
  | int a =>
    obtain ⟨t', rfl⟩ := ry
    cases x with
    | non => cases rx; exact SeqAt.EqAt.int_none a t'
    | bl b => cases rx; exact SeqAt.EqAt.int_bool a t' b
    | int b => obtain ⟨t, rfl⟩ := rx; exact SeqAt.EqAt.int_int a t' b t
    | str b => obtain ⟨t, rfl⟩ := rx; exact SeqAt.EqAt.int_str a t' b t
    | _ => exact absurd (show false = true from fx) Bool.false_ne_true
  | str a =>
    obtain ⟨t', rfl⟩ := ry
    cases x with
    | non => cases rx; exact SeqAt.EqAt.str_none a t'
    | bl b => cases rx; exact SeqAt.EqAt.str_bool a t' b
    | int b => obtain ⟨t, rfl⟩ := rx; exact SeqAt.EqAt.str_int a t' b t
    | str b => obtain ⟨t, rfl⟩ := rx; exact SeqAt.EqAt.str_str a t' b t
    | _ => exact absurd (show false = true from fx) Bool.false_ne_true
  | _ => exact absurd (show false = true from fy) Bool.false_ne_true
/-- the items' answers, read off the values (a value's own answer does not lean on its token) -/
def eqU (x : V) (u : Value) : Bool := match u with
  | .none => eqV .non x
  | .bool b => eqV (.bl b) x
  | .int i _ => eqV (.int i) x
  | .str z _ => eqV (.str z) x
  | _ => false
theorem eqU_of {x y : V} {u : Value} (r : RelV y u) (f : flatV y = true) : eqU x u = eqV y x := by
  cases y with
  | non => cases r; rfl
  | bl b => cases r; rfl
  | int i => obtain ⟨t, rfl⟩ := r; rfl
  | str z => obtain ⟨t, rfl⟩ := r; rfl
  | _ => exact absurd (show false = true from f) Bool.false_ne_true
theorem any_eqU {x : V} : ∀ {xs : List V} {us : List Value}, Vals xs us → xs.all flatV = true → us.any (eqU x) = xs.any fun y => eqV y x
  | _, _, .nil, _ => rfl
  | y :: xs, u :: us, .cons r t, f => by
    rw [List.all_cons, Bool.and_eq_true] at f
    rw [List.any_cons, List.any_cons, eqU_of r f.1, any_eqU t f.2]
theorem mem_eqAt {A : Around} {s : Shared} {x : V} {v : Value} (rx : RelV x v) (fx : flatV x = true) : ∀ {xs : List V} {us : List Value}, Vals xs us → xs.all flatV = true → ∀ u ∈ us, SeqAt.EqAt A s u v (eqU x u)
  | _, _, .nil, _ => fun u hu => by cases hu
  | y :: xs, u :: us, .cons r t, f => fun u' hu => by
    rw [List.all_cons, Bool.and_eq_true] at f
    rcases List.mem_cons.mp hu with rfl | hu
    · rw [eqU_of r f.1]; exact eqAt_V r rx f.1 fx
    · exact mem_eqAt rx fx t f.2 u' hu
def inV (x : V) (xs : List V) : Bool := xs.any fun y => eqV y x
/-- x in a list or tuple of flat items -/
def rIn (K : PySem.W.Frag) (neg : Bool) : R2 := fun x y H Q => ∃ p xs, y = .ref p ∧ (SqL K H p xs ∨ SqT K H p xs) ∧ flatV x = true ∧ xs.all flatV = true ∧ Q (.bl (if neg then !inV x xs else inV x xs)) H
theorem op_in_seq : OpR X (compareOp .In) (rIn X.K false) := by
  intro pins s σ H x y v u Q I rx ry h
  obtain ⟨p, xs, rfl, hq, fx, fs, q⟩ := h
  cases ry
  rcases hq with hq | hq
  · obtain ⟨its, r, pl, hz⟩ := I.list hq
    refine SeqAt.in_listAt (eqU x) pl.isList (fun w hw => mem_eqAt rx fx r fs w (by simpa using hw)) ⟨.bl _, H, I, rfl, ?_⟩
    rw [show its.toArray.any (eqU x) = its.any (eqU x) by simp, any_eqU r fs]
    exact q
  · obtain ⟨its, r, pl, hz⟩ := I.tuple hq
    refine SeqAt.in_tupleAt (eqU x) pl (fun w hw => mem_eqAt rx fx r fs w (by simpa using hw)) ⟨.bl _, H, I, rfl, ?_⟩
    rw [show its.toArray.any (eqU x) = its.any (eqU x) by simp, any_eqU r fs]
    exact q
theorem op_notIn_seq : OpR X (compareOp .NotIn) (rIn X.K true) := by
  intro pins s σ H x y v u Q I rx ry h
  obtain ⟨p, xs, rfl, hq, fx, fs, q⟩ := h
  cases ry
  rcases hq with hq | hq
  · obtain ⟨its, r, pl, hz⟩ := I.list hq
    refine SeqAt.notIn_listAt (eqU x) pl.isList (fun w hw => mem_eqAt rx fx r fs w (by simpa using hw)) ⟨.bl _, H, I, rfl, ?_⟩
    rw [show its.toArray.any (eqU x) = its.any (eqU x) by simp, any_eqU r fs]
    exact q
  · obtain ⟨its, r, pl, hz⟩ := I.tuple hq
    refine SeqAt.notIn_tupleAt (eqU x) pl (fun w hw => mem_eqAt rx fx r fs w (by simpa using hw)) ⟨.bl _, H, I, rfl, ?_⟩
    rw [show its.toArray.any (eqU x) = its.any (eqU x) by simp, any_eqU r fs]
    exact q
/-! ### len, list(x), tuple(x) of any list or tuple that is read -/
theorem call_len_seq : CallR X (.builtin "len") (fun xs H Q => ∃ p ys, xs = [.ref p] ∧ (SqL X.K H p ys ∨ SqT X.K H p ys) ∧ Q (.int ys.length) H) := by
  intro pins s σ H xs us Q I r h
  obtain ⟨p, ys, rfl, hq, q⟩ := h
  obtain ⟨u, rfl, rx⟩ := vals1 r
  cases rx
  have hn := line63
  rcases hq with hq | hq
  · obtain ⟨its, r', pl, hz⟩ := I.list hq
    have hlen := r'.length
    exact Calls.call_len_list pl.isList (by simp only [List.size_toArray] <;> omega) ⟨.int ys.length, H, I.tok _, ⟨s.toks + 1, by rw [List.size_toArray, hlen]⟩, q⟩
  · obtain ⟨its, r', pl, hz⟩ := I.tuple hq
    have hlen := r'.length
    exact len_tuple pl (by simp only [List.size_toArray] <;> omega) ⟨.int ys.length, H, I.tok _, ⟨s.toks + 1, by rw [List.size_toArray, hlen]⟩, q⟩
theorem call_len_str : CallR X (.builtin "len") (fun xs H Q => ∃ z, xs = [.str z] ∧ z.length ≤ sizeLine ∧ Q (.int z.length) H) := by
  intro pins s σ H xs us Q I r h
  obtain ⟨z, rfl, hz, q⟩ := h
  obtain ⟨u, rfl, t, rfl⟩ := vals1 r
  have hn := line63
  exact len_str (by omega) ⟨.int z.length, H, I.tok _, ⟨_, rfl⟩, q⟩
theorem CallR.or {f : Value} {r r' : List V → Hp → VK → Prop} (h : CallR X f r) (h' : CallR X f r') : CallR X f (fun xs H Q => r xs H Q ∨ r' xs H Q) := by
  intro pins s σ H xs us Q I rs q
  rcases q with q | q
  · exact h pins s σ H xs us Q I rs q
  · exact h' pins s σ H xs us Q I rs q
theorem call_tuple_of : CallR X (.type "tuple") (fun xs H Q => ∃ p ys, xs = [.ref p] ∧ ((SqL X.K H p ys ∧ ∀ l, H l = none → Q (.ref l) (upd H l (.tup ys))) ∨ (SqT X.K H p ys ∧ Q (.ref p) H))) := by
  intro pins s σ H xs us Q I r h
  obtain ⟨p, ys, rfl, h⟩ := h
  obtain ⟨u, rfl, rx⟩ := vals1 r
  cases rx
  rcases h with ⟨hq, q⟩ | ⟨hq, q⟩
  · obtain ⟨its, r', pl, hz⟩ := I.list hq
    have hlen := r'.length
    refine call_tuple_list pl.isList (fun h' kp => ?_) (by simp only [List.size_toArray] <;> omega)
    have I1 : Inv X pins σ H { s with heap := h' } := I.kept (t' := s.toks) kp
    have I2 : Inv X pins σ (upd H h'.objs.size (.tup ys)) { s with heap := h'.push { cls := .type "tuple", data := .seq its.toArray } } :=
      I1.laid (t' := s.toks) (fun b o e => Heap.get?_push_of_some _ e) (Nat.le_refl _) (show ObjOk X.prog X.w _ _ _ (.tup ys) from ⟨hz, its, r', IsTup.new _ _⟩)
    exact ⟨.ref h'.objs.size, _, I2, rfl, q _ (I1.hok.fresh (Nat.le_refl _))⟩
  · obtain ⟨its, r', pl, hz⟩ := I.tuple hq
    exact call_tuple_same pl ⟨.ref p, H, I, rfl, q⟩

/-! ### the call of a builtin's method: o.m(..) -/
/-- the value is of that builtin type -/
def tyV (K : PySem.W.Frag) (T : String) (x : V) (H : Hp) : Prop := match x with
  | .str _ => T = "str"
  | .int _ => T = "int"
  | .ref p => (T = "list" ∧ ∃ xs, SqL K H p xs) ∨ (T = "tuple" ∧ ∃ o, K.lookup p = some o ∧ o.cls = .type "tuple" ∧ o.dict = none) ∨
      (T = "dict" ∧ ((∃ kvs, H p = some (.dK kvs)) ∨ ∃ kvs, H p = some (.dT kvs))) ∨ (T = "set" ∧ ∃ S n, H p = some (.set S n))
  | _ => False
theorem tyV_is {pins : List (Addr × Obj)} {σ : St} {H : Hp} {s : Shared} {T : String} {x : V} {v : Value} (I : Inv X pins σ H s) (r : RelV x v) (ty : tyV X.K T x H) :
    s.TypeIs v T ∧ ∀ a, v = .ref a → ∃ ob, s.heap.get? a = some ob ∧ ob.dict = none := by
  cases x with
  | str z =>
    obtain ⟨t, rfl⟩ := r
    cases (show T = "str" from ty)
    exact ⟨typeIs_str s z t, fun _ e => nomatch e⟩
  | int i =>
    obtain ⟨t, rfl⟩ := r
    cases (show T = "int" from ty)
    exact ⟨typeIs_int s i t, fun _ e => nomatch e⟩
  | ref p =>
    cases r
    rcases ty with ⟨rfl, xs, hq⟩ | ⟨rfl, o, hk, hc, hd⟩ | ⟨rfl, hk⟩ | ⟨rfl, S, n, hk⟩
    · obtain ⟨its, _, pl, _⟩ := I.list hq
      refine ⟨pl.isList.typeIs, fun a e => ?_⟩
      cases e
      obtain ⟨o, n, e, c, hd, _⟩ := pl
      exact ⟨o, e, hd⟩
    · refine ⟨⟨o, I.kIn p o hk, hc⟩, fun a e => ?_⟩
      cases e
      exact ⟨o, I.kIn _ o hk, hd⟩
    · have z : ∃ o, s.heap.get? p = some o ∧ o.ExactDict := by
        rcases hk with ⟨kvs, hk⟩ | ⟨kvs, hk⟩
        · obtain ⟨_, _, _, _, o, _, _, e, ex, _⟩ := I.hok p _ hk
          exact ⟨o, e, ex⟩
        · obtain ⟨_, _, _, _, o, _, _, e, ex, _⟩ := I.hok p _ hk
          exact ⟨o, e, ex⟩
      obtain ⟨o, e, ex⟩ := z
      refine ⟨⟨o, e, ex.1⟩, fun a e2 => ?_⟩
      cases e2
      exact ⟨o, e, ex.2.1⟩
    · obtain ⟨o, _, _, _, e, ex, _⟩ := I.hok p _ hk
      refine ⟨⟨o, e, ex.1⟩, fun a e2 => ?_⟩
      cases e2
      exact ⟨o, e, ex.2.1⟩
  | _ => exact False.elim ty
def tBM0 (K : PySem.W.Frag) (T : String) (r : V → List V → Hp → VK → Prop) (to : TE) : TE := fun σ H Q => to σ H fun x H1 => tyV K T x H1 ∧ r x [] H1 Q
def tBM (K : PySem.W.Frag) (T : String) (r : V → List V → Hp → VK → Prop) (to : TE) (t : TA) : TE := fun σ H Q => to σ H fun x H1 => tyV K T x H1 ∧ t σ H1 fun xs H2 => r x xs H2 Q
variable {o e : Expr} {es : List Expr} {to : TE} {t : TA} {name : Str} {apos cpos : Pos} {T id : String} {r : V → List V → Hp → VK → Prop}
theorem pe_bm (pa : PlainAttrs T) (slot : Slot T name id) (hty : typeOf (.builtin id) = pure (.type "method_descriptor")) (hm : MtR X id r) (ho : PE X o to) (ha : PA X (e :: es) t)
    (hbase : attributeBase o name X.env (eval o X.env) = eval o X.env := by rfl)
    (hfew : ((backTo cpos (starEach (e :: es) X.env)).all (fun x => !x.1) && (backToKw cpos (keywordEach [] X.env)).all (fun x => x.1.isSome)
      && decide ((e :: es).length + ([] : List Keyword).length + (if ([] : List Keyword).isEmpty then 0 else 1) < 30)) = true := by rfl)
    (hline : (apos.endLine == cpos.line) = true := by rfl) (hs : starEach (e :: es) X.env = (false, eval e X.env) :: starEach es X.env := by rfl) (hplain : (backTo cpos (starEach es X.env)).any (·.1) = false := by rfl) :
    PE X (.Call (.Attribute o name apos) (e :: es) [] cpos) (tBM X.K T r to t) := by
  intro pins s σ H Q I h
  refine wpAny_Call_method_late hbase hfew hline rfl (thn (ho pins s σ H _ I h) fun v s1 ⟨x, H1, I1, r1, ty, q1⟩ => ?_)
  obtain ⟨h1, h2⟩ := tyV_is I1 r1 ty
  refine ⟨T, id, pa, slot, hty, h1, h2, ?_⟩
  have hA := ha cpos pins s1 σ H1 _ I1 q1
  rw [hs] at hA ⊢
  refine Calls.callWith_builtin (by show (false || (backTo cpos (starEach es X.env)).any (·.1)) = false; rw [hplain] <;> rfl) (Calls.evalArgs_plain ?_)
  exact thn hA fun us s2 ⟨vs, H2, I2, r2, q2⟩ => hm pins s2 σ H2 x vs v us Q I2 r1 r2 q2
/- xs.append(e), list.index on a module's tuple .. are MtR facts of 06m -/
end
end L2

namespace L2
open PySem PySem.Spec PyProof.Rows

def MtM (X : Cx) (id : String) (r : V → List V → Hp → VK → Prop) : Prop :=
  ∀ (pins : List (Addr × Obj)) (s : Shared) (σ : St) (H : Hp) (x : V) (xs : List V) (v : Value) (us : List Value) (Q : VK), Inv X pins σ H s → RelV x v → Vals xs us → r x xs H Q →
    wpAny (model X.prog X.w) X.A (call (.builtin id) (v :: us)) (EP X pins σ Q) X.xe s

/-! ### lists of values -/
theorem Vals.one : ∀ {x : V} {us : List Value}, Vals [x] us → ∃ u, us = [u] ∧ RelV x u
  | _, _, .cons r .nil => ⟨_, rfl, r⟩
theorem Vals.two : ∀ {x y : V} {us : List Value}, Vals [x, y] us → ∃ u v, us = [u, v] ∧ RelV x u ∧ RelV y v
  | _, _, _, .cons r (.cons q .nil) => ⟨_, _, rfl, r, q⟩
theorem Vals.zero : ∀ {us : List Value}, Vals [] us → us = []
  | _, .nil => rfl
theorem Vals.reverse {xs : List V} {us : List Value} (h : Vals xs us) : Vals xs.reverse us.reverse := by
  induction h with
  | nil => exact .nil
  | cons r t ih => rw [List.reverse_cons, List.reverse_cons]; exact Vals.append ih (.cons r .nil)
section
variable {X : Cx} {pins : List (Addr × Obj)} {σ : St} {H : Hp} {s : Shared} {l b : Addr} {xs ys zs : List V}

/-! ### the two steps: a tracked list is rewritten, a new list is laid -/
theorem Inv.lset {its its' : List Value} {n : Nat} {f : Array Value → Array Value} {t' : Nat} (I : Inv X pins σ H s) (hH : H l = some (.lst xs))
    (e : s.heap.get? l = some { cls := .type "list", data := .seq its.toArray n }) (hf : f its.toArray = its'.toArray) (hv : Vals ys its') (hz : ys.length ≤ sizeLine) :
    Inv X pins σ (upd H l (.lst ys)) { s with heap := s.heap.update l (Obj.mapSeq f), toks := t' } := by
  have q := PySem.IsL.update e f
  rw [hf] at q
  refine I.write (x := l) (e := l) (by rw [hH]; exact trivial) (.inl rfl) (fun b' u hb hu => (Heap.get?_update_other s.heap (Obj.mapSeq f) (Ne.symm hb)).trans hu) ⟨_, q⟩ ?_
  exact ⟨hz, its', _, hv, q⟩
theorem Inv.lnew {its : List Value} {t' : Nat} (I : Inv X pins σ H s) (hv : Vals ys its) (hz : ys.length ≤ sizeLine) :
    Inv X pins σ (upd H s.heap.objs.size (.lst ys)) { s with heap := s.heap.push { cls := .type "list", data := .seq its.toArray }, toks := t' } :=
  I.laid (fun _ _ q => Heap.get?_push_of_some _ q) (Nat.le_refl _) ⟨hz, its, 0, hv, Heap.get?_push_size _ rfl⟩
theorem Inv.fresh (I : Inv X pins σ H s) : H s.heap.objs.size = none := I.hok.fresh (Nat.le_refl _)
theorem Inv.lstM (I : Inv X pins σ H s) (hH : H l = some (.lst xs)) : xs.length ≤ sizeLine ∧ ∃ (its : List Value) (n : Nat), Vals xs its ∧ xs.length = its.length ∧ s.heap.get? l = some { cls := .type "list", data := .seq its.toArray n } := by
  obtain ⟨z, its, n, r, e⟩ := I.hok l _ hH
  exact ⟨z, its, n, r, r.length, e⟩

end

section
variable {X : Cx}

/-! ### methods -/
def rAppend : V → List V → Hp → VK → Prop := fun x vs H Q => ∃ l xs y, x = .ref l ∧ vs = [y] ∧ H l = some (.lst xs) ∧ xs.length < sizeLine ∧ Q .non (upd H l (.lst (xs ++ [y])))
theorem mt_append : MtM X "list.append" rAppend := by
  intro pins s σ H x vs v us Q I rx rv h
  obtain ⟨l, xs, y, rfl, rfl, hH, hz, q⟩ := h
  cases rx
  obtain ⟨u, rfl, ru⟩ := rv.one
  obtain ⟨z, its, n, r, hl, e⟩ := I.lstM hH
  refine call_meets F.slot_list_append ⟨_, e, rfl⟩ F.entry_list_append (F.args_list_append_2 _ _) (PySem.list_append l its.toArray n u (by rw [List.size_toArray]; omega)) ⟨e, ?_⟩
  refine ⟨.non, _, I.lset (its' := its ++ [u]) hH e (by simp) (r.append (.cons ru .nil)) ?_, rfl, q⟩
  rw [List.length_append, List.length_singleton]
  omega

/-! ### list + list, list += list, list * int -/
def rCat : R2 := fun x y H Q => ∃ l b xs zs, x = .ref l ∧ y = .ref b ∧ H l = some (.lst xs) ∧ H b = some (.lst zs) ∧ xs.length + zs.length ≤ sizeLine ∧ ∀ p, H p = none → Q (.ref p) (upd H p (.lst (xs ++ zs)))
theorem op_cat : OpR X (binaryOp .Add) rCat := by
  intro pins s σ H x y v u Q I rx ry h
  obtain ⟨l, b, xs, zs, rfl, rfl, hH, hB, hz, q⟩ := h
  cases rx
  cases ry
  obtain ⟨z, its, n, r, hl, e⟩ := I.lstM hH
  obtain ⟨z2, its2, n2, r2, hl2, e2⟩ := I.lstM hB
  refine PySem.P.add_list e e2 ?_ (by rw [List.size_toArray, List.size_toArray]; omega)
  have ea : its.toArray ++ its2.toArray = (its ++ its2).toArray := by simp
  rw [ea]
  exact ⟨.ref _, _, I.lnew (t' := s.toks) (r.append r2) (by rw [List.length_append]; omega), rfl, q _ I.fresh⟩
/-! ### del xs[i] -/
end

/-! ### xs[a:b] = ys -/
section
variable {prog : Program} {w : World} {A : Around} {E : Value → Shared → Prop} {s : Shared}
end

section
variable {X : Cx}
end
end L2

namespace Att
open PySem PySem.W PySem.Calls PyProof.Rows

/-! ### the script -/
theorem ints_of_wellAll {P : Params} {h : Heap} : ∀ (ns : List Int) (vs : List Value), WellAll P h vs (ns.map WData.int) → IntsAre vs ns := by
  intro ns
  induction ns with
  | nil =>
    intro vs w
    rw [List.map_nil] at w
    cases w
    exact .nil
  | cons n ns ih =>
    intro vs w
    rw [List.map_cons] at w
    cases w with
    | cons a b =>
      cases a
      exact .cons _ _ (ih _ b)

theorem script_of {l : OpenLaw} {n : Nat} (hn : l.most = some n) {P : Params} {h : Heap} {args : List WData} {vals : List Value}
    (hpre : l.row.toRowW.claim.pre args = true) (hwl : WellAll P h vals args) :
    ∃ a vs ns, vals = [Value.ref a] ∧ args = [WData.list (ns.map WData.int)] ∧ h.get? a = some { cls := .type "list", data := .seq vs.toArray } ∧ IntsAre vs ns ∧ ns.length ≤ n := by
  have hsh : WShape.hasAll [] args [.list .int] = true := (pre_splitW hpre).1
  have hc : l.pre.holds [] { args := args } = true := (pre_splitW hpre).2
  obtain ⟨d, r, rfl, h1, h2⟩ := hasAllW_cons hsh
  obtain rfl := hasAllW_nil h2
  obtain ⟨xs, rfl, h3⟩ := hasW_list h1
  obtain ⟨ns, rfl⟩ := items_int h3
  have hlen : ns.length ≤ n := by
    unfold OpenLaw.pre at hc
    have h4 : (WTm.not (.lt (.lit (.int (n : Int))) (.len (.arg 0)))).holds [] { args := [.list (ns.map .int)] } = true := by
      have h4 := (holds_andW hc).1
      rw [hn] at h4
      exact h4
    have h5 := condW_of h4 (w_not (w_lt w_lit (w_len_list (w_arg rfl))))
    rw [List.length_map] at h5
    refine Nat.le_of_not_lt fun q => ?_
    have q' : (n : Int) < ((ns.length : Nat) : Int) := by omega
    first
      | (rw [decide_eq_true q'] at h5; exact absurd h5 (by decide))
      | (simp at h5; omega)
  cases hwl with
  | cons w1 w2 =>
    cases w2
    cases w1 with
    | list ho hall => exact ⟨_, _, ns, rfl, rfl, ho, ints_of_wellAll ns _ hall, hlen⟩

theorem post_true (l : OpenLaw) (args : List WData) : l.row.toRowW.claim.post args (.bool true) args = true :=
  postW_of (r := l.row.toRowW) (X := (true == true))
    (show WShape.has [] (.bool true) .bool = true by first | rfl | decide | simp [WShape.has, WShape.arms, WShape.armsAll])
    (show (WTm.eq .res (.lit (.bool true))).value [] { args := args, res := some (.bool true), after := args } = some (.bool (true == true)) from w_eq_bool (w_res rfl) w_lit) rfl

/-! ### the attachment: holds_open's last premise (the goal 'hc' behind k_head) from a wpAny of the law's body -/
/-- the same from a codeAny of the CALL (for a layer whose function contracts speak of calls) -/
theorem attach_call {l : OpenLaw} {n : Nat} {q : Program} {loose : List Str} {XP : (Str → Option Value) → Heap → Prop} {YP : World → Heap → Prop} {d : DefRec}
    (hn : l.most = some n) (hdf : d.params.defaults = [])
    (call : ∀ (w : World) (s₀ s₁ : Shared) (mg mb : Str → Option Value) (fa : Addr) (o : Obj) (pm cd doc : Value) (a : Addr) (vs : List Value) (ns : List Int),
      Ground q loose [] XP w s₀ mg mb s₁.heap → YP w s₁.heap →
      s₁.heap.get? fa = some o → o.data = .func (docDef d.name d.params d.body d.scope pm cd doc) → s₁.heap.CodeRec cd d.name → mg d.name = some (.ref fa) →
      s₁.heap.get? a = some { cls := .type "list", data := .seq vs.toArray } → IntsAre vs ns → ns.length ≤ n → s₁.gens = #[] →
      codeAny (model l.prog w) callerA (.call (.ref fa) ⟨[.ref a], []⟩) (fun r s' => r = .ok (.ret (.bool true)) ∧ OldK s₁.heap s'.heap ∧ s'.os = s₁.os ∧ AllBare s'.gens) s₁) :
    WalkO q loose XP YP l.row.toRowW d [] (fun f vs => PySem.call f vs) := by
  intro w s₀ s₁ mg mb G Y fa o pm cd doc dV kV ho hd hcd hD hmg hg args vals as hpre hlay hrd hwl hlo
  obtain rfl : dV = .none := Dflts.none hD hdf
  obtain rfl : kV = .none := Dflts.noKw hD
  obtain ⟨a, vs, ns, rfl, rfl, hobj, hints, hlen⟩ := script_of hn hpre hwl
  refine enter_call (codeAny_mono (call w s₀ s₁ mg mb fa o pm cd doc a vs ns G Y ho (fd_plain hd) hcd hmg hobj hints hlen hg) fun r s' hq => ?_)
  obtain ⟨rfl, h2, h3, h4⟩ := hq
  exact ⟨.inl ⟨.bool true, .bool true, [], rfl, fun _ => rfl, .bool true, post_true l _, fun _ => ⟨List.Pairwise.nil, fun _ hm => (nomatch hm)⟩⟩, h2, h3, h4⟩

/-! ### rules over ANY heap (no ledger) from facts about the written part K: the library's own take a ledger (News) for what they write -/
section
variable {prog : Program} {w : World} {A : Around} {E : Value → Shared → Prop} {s : Shared} {K : Frag}

/-! the whole heap as the ledger: makes every rule that writes through a ledger a rule over any heap -/
def ledger (h : Heap) (L d : Addr) : List (Addr × Obj) := (List.range h.objs.size).filterMap fun a => if a = L ∨ a = d then none else (h.get? a).map fun o => (a, o)
end
end Att

namespace L2
open PySem PySem.Spec PyProof.Rows

theorem vals_ints : ∀ {vs : List Value} {ns : List Int}, IntsAre vs ns → Vals (ns.map V.int) vs
  | _, _, .nil => .nil
  | _, _, .cons n t h => .cons ⟨t, rfl⟩ (vals_ints h)

/-- nothing is tracked but the script, known to the object (or it is an object of the module) -/
def Only (H : Hp) : Prop := ∀ b, H b = none ∨ ∃ o xs, H b = some (.frz o (.lst xs))

/-- THE HEAD: the law's promise, at the heap behind the top. F, the promise of the law's def, may use that base is part of the heap (so K.In base, base.Ns mainGlobals mg stand in Mod) -/
theorem law_call {P : Program} {w : World} {K : PySem.W.Frag} {mg mb : Str → Option Value} {CX : CXT} {k : Nat} {fa a : Addr} {fd : FuncData} {x : Str} {sp : Sp} {s₁ : Shared} {vs : List Value} {ns : List Int}
    (KX : K.In s₁.heap) (hns : s₁.heap.Ns mainGlobals mg) (hb : s₁.heap.Ns builtinsNs mb) (hbb : ∀ x : Str, x ≠ "__name__" → mb x = bootBuiltins x) (hlim : s₁.heap.NoLimit) (hg : s₁.gens = #[])
    (ha : s₁.heap.get? a = some { cls := .type "list", data := .seq vs.toArray }) (hi : IntsAre vs ns) (hl : ns.length ≤ sizeLine) (hr : Room k callerA)
    (F : ∀ base : Heap, K.In base → base.Ns mainGlobals mg → FnOk P w K mg base CX k fa fd [x] sp) (hbind : ∀ (s : Shared) (u : Value), BindsTo s fd ⟨[u], []⟩ [(x, u)])
    (hsp : ∀ H : Hp, Only H → SqL K H a (ns.map V.int) → sp [.ref a] H (fun v _ => v = .bl true) fun _ _ _ => False)
    (hCX : ∀ H e s', CX [] H s₁ (fun _ _ _ => False) e s' → False) :
    codeAny (model P w) callerA (.call (.ref fa) ⟨[.ref a], []⟩) (fun r s' => r = .ok (.ret (.bool true)) ∧ OldK s₁.heap s'.heap ∧ s'.os = s₁.os ∧ AllBare s'.gens) s₁ := by
  have rv := vals_ints hi
  have lenV := hi.length
  -- from an abstract heap in which nothing but the script may be tracked
  have core : ∀ H : Hp, Only H → SqL K H a (ns.map V.int) → HOk P w H s₁.heap → (∀ b, H b ≠ none → b = a) → (H a ≠ none → K.lookup a = none) →
      codeAny (model P w) callerA (.call (.ref fa) ⟨[.ref a], []⟩) (fun r s' => r = .ok (.ret (.bool true)) ∧ OldK s₁.heap s'.heap ∧ s'.os = s₁.os ∧ AllBare s'.gens) s₁ := by
    intro H hO hS hok hA hK
    have base_of : ∀ {b : Addr} {o : Obj}, s₁.heap.get? b = some o → H b = none → (hidT s₁.heap H).get? b = some o := fun e n => hidT_get e n
    have noA : ∀ {b : Addr} {o : Obj} {es : Array DictEntry} {ep : Nat}, s₁.heap.get? b = some o → o.data = .dict es ep → H b = none := fun {b o es ep} e d => by
      cases q : H b with
      | none => rfl
      | some u =>
        have e' : b = a := hA b (by rw [q]; simp)
        subst e'
        rw [ha] at e; cases e
        have d' : Data.seq vs.toArray _ = Data.dict es ep := d
        cases d'
    have nsK : ∀ {b : Addr} {m : Str → Option Value}, s₁.heap.Ns b m → (hidT s₁.heap H).Ns b m := fun {b m} ⟨o, es, ep, e, d, r⟩ => ⟨o, es, ep, base_of e (noA e d), d, r⟩
    have hKb : K.In (hidT s₁.heap H) := fun b o e => base_of (KX b o e) (by
      cases q : H b with
      | none => rfl
      | some u =>
        have e' : b = a := hA b (by rw [q]; simp)
        subst e'
        rw [hK (by rw [q]; simp)] at e; cases e)
    have hM : Mod K mg (hidT s₁.heap H) := ⟨hKb, nsK hns, ⟨mb, nsK hb, hbb⟩, let ⟨mc, h1, h2⟩ := hlim; ⟨mc, nsK h1, h2⟩⟩
    have e0 : Env0 P w K mg (hidT s₁.heap H) callerA [] s₁ H := ⟨rfl, hM, fun b o e => of_hidT e, Nat.le_of_eq (hidT_size _ _), trivial, fun b hb => absurd (show b ∈ ([] : List Addr) from hb) (by simp), hok, .of_eq hg⟩
    refine codeAny_mono ((F _ hKb (nsK hns)).run callerA [] s₁ H ⟨[.ref a], []⟩ [.ref a] [.ref a] _ _ hr e0 (hbind s₁ (.ref a)) (.cons rfl .nil) (hsp H hO hS)) fun r s' h => ?_
    cases r with
    | error e => exact (hCX H e s' h).elim
    | ok fl =>
      cases fl with
      | next => exact False.elim h
      | brk => exact False.elim h
      | cont => exact False.elim h
      | ret u =>
        obtain ⟨v, H', os, bare, un, hok', r', q⟩ := h
        have q' : v = .bl true := q
        subst q'
        obtain rfl : u = Value.bool true := r'
        refine ⟨rfl, OldK.of_keep fun b o e => ?_, os, bare⟩
        cases q : H b with
        | none => exact un.keep b o e q (by intro z; exact absurd (show b ∈ ([] : List Addr) from z) (by simp)) (by simp)
        | some u =>
          rcases hO b with z | ⟨ob, xs, z⟩
          · rw [q] at z; cases z
          · have z2 := un.frzs b ob _ z
            obtain ⟨e1, _⟩ := hok b _ z
            obtain ⟨e2, _⟩ := hok' b _ z2
            rw [e] at e1; cases e1
            exact e2
  cases hk : K.lookup a with
  | some o =>
    -- the script is one of the module's own objects
    have e := KX a o hk
    rw [ha] at e
    cases e
    refine core (fun _ => none) (fun _ => .inl rfl) (.inr ⟨_, vs.toArray, _, hk, rfl, rfl, rfl, by rw [List.size_toArray, lenV]; exact hl, by simpa using rv⟩) (fun b u z => by have z' : (none : Option HO) = some u := z; cases z') (fun b z => absurd rfl z) fun z => absurd rfl z
  | none =>
    refine core (fun b => if b = a then some (.frz { cls := .type "list", data := .seq vs.toArray } (.lst (ns.map V.int))) else none) (fun b => ?_) (.inl (.inr ⟨{ cls := .type "list", data := .seq vs.toArray }, if_pos rfl⟩)) (fun b u z => ?_) (fun b z => ?_) fun _ => hk
    · by_cases hb : b = a
      · exact .inr ⟨_, _, if_pos hb⟩
      · exact .inl (if_neg hb)
    · by_cases hb : b = a
      · have z' := (if_pos hb).symm.trans z
        cases z'
        subst hb
        exact ⟨ha, by rw [List.length_map]; exact hl, vs, _, rv, ha⟩
      · have z' := (if_neg hb).symm.trans z
        cases z'
    · by_cases hb : b = a
      · exact hb
      · exact absurd (if_neg hb) z
end L2

namespace L2
open PySem PySem.Spec PyProof.Rows

abbrev KOf {K : PySem.W.Frag} {h : Heap} (_ : K.In h) : PySem.W.Frag := K

/-- the goal that k_head leaves (case hc), from the law's promise. F gives the function object fd (K's own) once, then the promise over every base -/
theorem walk_of {l : PySem.W.OpenLaw} {n k : Nat} {q : Program} {loose : List Str} {XP : (Str → Option Value) → Heap → Prop} {YP : World → Heap → Prop} {d : DefRec} {K : Params → PySem.W.Frag} {CX : World → CXT} {sp : World → Sp} {x : Str}
    (hn : l.most = some n) (hn2 : n ≤ sizeLine) (hdf : d.params.defaults = []) (hr : Room k callerA)
    (hY : ∀ (w : World) (h : Heap), YP w h → (K w.params).In h)
    (F : ∀ (w : World) (mg : Str → Option Value) (fa : Addr) (h : Heap), (K w.params).In h → h.Ns mainGlobals mg → mg d.name = some (.ref fa) →
      ∃ fd : FuncData, (∀ (s : Shared) (u : Value), BindsTo s fd ⟨[u], []⟩ [(x, u)]) ∧
        ∀ base : Heap, (K w.params).In base → base.Ns mainGlobals mg → FnOk l.prog w (K w.params) mg base (CX w) k fa fd [x] (sp w))
    (hsp : ∀ (w : World) (H : Hp) (a : Addr) (ns : List Int), ns.length ≤ n → Only H → SqL (K w.params) H a (ns.map V.int) → sp w [.ref a] H (fun v _ => v = .bl true) fun _ _ _ => False)
    (hCX : ∀ (w : World) (H : Hp) (s : Shared) (e : Value) (s' : Shared), CX w [] H s (fun _ _ _ => False) e s' → False) :
    PySem.W.WalkO q loose XP YP l.row.toRowW d [] (fun f vs => PySem.call f vs) := by
  refine Att.attach_call hn hdf fun w s₀ s₁ mg mb fa o pm cd doc a vs ns G Y ho hd hcd hmg hobj hints hlen hg => ?_
  have KX := hY w _ Y
  obtain ⟨fd, hb, hF⟩ := F w mg fa _ KX G.T.g hmg
  exact law_call KX G.T.g G.T.b G.T.builtins G.T.nolimit hg hobj hints (Nat.le_trans hlen hn2) hr hF hb (fun H hO hS => hsp w H a ns hlen hO hS) fun H e s' => hCX w H s₁ e s'
/-- the same where the promise hangs on the written part alone: (sp := My.sp_law), no hole under a binder -/
theorem walk_ofK {l : PySem.W.OpenLaw} {n k : Nat} {q : Program} {loose : List Str} {XP : (Str → Option Value) → Heap → Prop} {YP : World → Heap → Prop} {d : DefRec} {K : Params → PySem.W.Frag} {CX : CXT} {sp : PySem.W.Frag → Sp} {x : Str}
    (hn : l.most = some n) (hn2 : n ≤ sizeLine) (hdf : d.params.defaults = []) (hr : Room k callerA)
    (hY : ∀ (w : World) (h : Heap), YP w h → (K w.params).In h)
    (F : ∀ (w : World) (mg : Str → Option Value) (fa : Addr) (h : Heap), (K w.params).In h → h.Ns mainGlobals mg → mg d.name = some (.ref fa) →
      ∃ fd : FuncData, (∀ (s : Shared) (u : Value), BindsTo s fd ⟨[u], []⟩ [(x, u)]) ∧
        ∀ base : Heap, (K w.params).In base → base.Ns mainGlobals mg → FnOk l.prog w (K w.params) mg base CX k fa fd [x] (sp (K w.params)))
    (hsp : ∀ (K : PySem.W.Frag) (H : Hp) (a : Addr) (ns : List Int), ns.length ≤ n → Only H → SqL K H a (ns.map V.int) → sp K [.ref a] H (fun v _ => v = .bl true) fun _ _ _ => False)
    (hCX : ∀ (H : Hp) (s : Shared) (e : Value) (s' : Shared), CX [] H s (fun _ _ _ => False) e s' → False) :
    PySem.W.WalkO q loose XP YP l.row.toRowW d [] (fun f vs => PySem.call f vs) :=
  walk_of (K := K) (CX := fun _ => CX) (sp := fun w => sp (K w.params)) hn hn2 hdf hr hY F (fun w H a ns h1 h2 h3 => hsp (K w.params) H a ns h1 h2 h3) fun _ H s e s' => hCX H s e s'
end L2

/-! SHORT WORDS over the layer: a def of the text, its body, what a loop and a test want. -/
namespace L2
open PySem PySem.Spec PyProof.Rows

/-! ### the text by places -/
/-- the j-th statement of a class's body -/
def inClass (s : Stmt) (j : Nat) : Stmt := match s with
  | .ClassDef _ _ _ body _ _ _ _ _ _ _ => body.getD j (.Pass ⟨0, 0, 0, 0⟩)
  | _ => .Pass ⟨0, 0, 0, 0⟩
def defArgs (s : Stmt) : Arguments := match s with
  | .FunctionDef _ a _ _ _ _ _ _ _ _ => a
  | _ => { posonlyargs := [], args := [], vararg := none, kwonlyargs := [], kw_defaults := [], kwarg := none, defaults := [] }
def defBody (s : Stmt) : List Stmt := match s with
  | .FunctionDef _ _ b _ _ _ _ _ _ _ => b
  | _ => []
def defScope (s : Stmt) : Scope := match s with
  | .FunctionDef _ _ _ _ _ _ sc _ _ _ => sc
  | _ => { kind := .function, names := [], isGenerator := false, isCoroutine := false }

/-! ### no exception leaves a def -/
abbrev CX0 : CXT := fun _ _ _ _ _ _ => False
abbrev E0 : XK := fun _ _ _ => False
theorem pass0 {X : Cx} : Passes CX0 X E0 := fun _ _ _ _ _ _ _ h => h.elim

/-! ### a def (or method) of the text as it stands behind the top -/
structure Fun (K : PySem.W.Frag) (x qual : Str) (st : Stmt) (f : Addr) (fd : FuncData) : Prop where
  ex : ∃ (oc : Value) (od : Option Addr) (kV doc pm : Value) (an : Option Addr) (cdv ct : Value) (osl : Array (Option Value)),
    fd = PySem.W.fnOf x qual (defArgs st) (defBody st) (defScope st) .none kV doc pm an cdv ct ∧ K.lookup f = some ⟨oc, od, .func fd, osl⟩ ∧ PySem.W.codeIn K cdv qual = true
  kp : PySem.W.keepIn K (.ref f) = true
section
variable {P : Program} {w : World} {K : PySem.W.Frag} {mg : Str → Option Value} {base : Heap}
/-- THE RULE for a def: its body as a term of rules, and the reading of that term -/
theorem Fun.ok {x qual : Str} {st : Stmt} {f : Addr} {fd : FuncData} {N ps : List Str} {k : Nat} {sp : Sp} (F : Fun K x qual st f fd) (S : FnScope N ps (defScope st)) (len : ∀ vs H Q E, sp vs H Q E → vs.length = ps.length)
    (hbody : ∀ (cdv : Value) (A : Around) (outer : List Env) (s : Shared) (H : Hp) (vs : List V) (Q : VK) (E : XK), Room k (A.deeper (envOfC qual (defScope st) s.heap.objs.size f cdv)) → sp vs H Q E →
      ∃ t, PSs (cxOf CX0 P w K mg base N qual (defScope st) f cdv A outer s H E).nox (defBody st) t ∧ t { nx := fun _ H' => Q .non H', rt := Q } (start N vs) H) : FnOk P w K mg base CX0 (k + 1) f fd ps sp := by
  obtain ⟨oc, od, kV, doc, pm, an, cdv, ct, osl, rfl, lk, hcd⟩ := F.ex
  refine fn_of lk hcd S len fun A outer s H vs Q E hr hsp => ?_
  obtain ⟨t, h, q⟩ := hbody cdv A outer s H vs Q E hr hsp
  exact ⟨t, h.nox, q⟩
/-- how its arguments bind (no defaults): h is «fun _ _ _ _ _ _ us hl => match us, hl with | [_, _], _ => rfl», one _ a parameter -/
theorem Fun.binds {x qual : Str} {st : Stmt} {f : Addr} {fd : FuncData} {ps : List Str} (F : Fun K x qual st f fd)
    (h : ∀ (kV doc pm : Value) (an : Option Addr) (cdv ct : Value) (us : List Value), us.length = ps.length → bindArgs (PySem.W.fnOf x qual (defArgs st) (defBody st) (defScope st) .none kV doc pm an cdv ct) ⟨us, []⟩ = pure (ps.zip us)) : Binds K fd ps [] := by
  obtain ⟨oc, od, kV, doc, pm, an, cdv, ct, osl, rfl, lk, hcd⟩ := F.ex
  exact .all (h kV doc pm an cdv ct)
theorem fun_mk {x qual : Str} {st : Stmt} {f : Addr} {oc : Value} {od an : Option Addr} {osl : Array (Option Value)} {kV doc pm cdv ct : Value} (l : K.lookup f = some ⟨oc, od, .func (PySem.W.fnOf x qual (defArgs st) (defBody st) (defScope st) .none kV doc pm an cdv ct), osl⟩)
    (c : PySem.W.codeIn K cdv qual = true) (k : PySem.W.keepIn K (.ref f) = true) : Fun K x qual st f (PySem.W.fnOf x qual (defArgs st) (defBody st) (defScope st) .none kV doc pm an cdv ct) := ⟨⟨oc, od, kV, doc, pm, an, cdv, ct, osl, rfl, l, c⟩, k⟩
end
theorem small1000 {n : Nat} (h : n ≤ 1000) : n < sizeLine := Nat.lt_of_le_of_lt h (by decide)

/-! ### expressions in short: the name that stands in the i-th slot -/
section
variable {X : Cx}
theorem pv (i : Nat) {x : Str} {pos : Pos} (hN : X.N[i]? = some x := by rfl) (hv : Vis X.env.scope x := by first | exact Or.inl rfl | exact Or.inr (Or.inl rfl) | exact Or.inr (Or.inr rfl)) (hd : (x == ("__debug__" : Str)) = false := by decide)
    (hcd : (x == ("__classdict__" : Str)) = false := by decide) : PE X (.Name x pos) (tVar i) := pe_var hN hv hd hcd
end

/-! ### tests -/
theorem iteF {A B : Prop} (h : B) : if false = true then A else B := by
  rw [if_neg Bool.false_ne_true]
  exact h
theorem iteT {A B : Prop} (h : A) : if true = true then A else B := by
  rw [if_pos rfl]
  exact h
theorem ite2 {c A B : Prop} [Decidable c] (h1 : c → A) (h2 : ¬ c → B) : if c then A else B := by
  by_cases h : c
  · rw [if_pos h]
    exact h1 h
  · rw [if_neg h]
    exact h2 h
/-! ### heaps -/
/-- all that was tracked is as it was -/
def Same (H H' : Hp) : Prop := ∀ b o, H b = some o → H' b = some o
theorem Same.refl (H : Hp) : Same H H := fun _ _ h => h
theorem Same.trans {H H1 H2 : Hp} (a : Same H H1) (b : Same H1 H2) : Same H H2 := fun c o h => b c o (a c o h)
theorem Same.free {H H' : Hp} (e : Same H H') {l : Addr} (h : H' l = Option.none) : H l = Option.none := by
  cases q : H l with
  | none => rfl
  | some o =>
    rw [e l o q] at h
    cases h
theorem Same.seq {K : PySem.W.Frag} {H H' : Hp} {a : Addr} {xs : List V} (e : Same H H') (h : SqL K H a xs) : SqL K H' a xs := by
  rcases h with (h | ⟨o, h⟩) | h
  · exact .inl (.inl (e _ _ h))
  · exact .inl (.inr ⟨o, e _ _ h⟩)
  · exact .inr h

end L2
namespace L2
open PySem PySem.Spec PyProof.Rows

/-! ### lists of pairs as tables -/
section
variable {κ : Type} [DecidableEq κ]
def valV (kvs : List (κ × V)) (k : κ) : Option V := (kvs.find? fun kv => decide (kv.1 = k)).map (·.2)
/-- in its place, or at the end -/
def putK (kvs : List (κ × V)) (k : κ) (v : V) : List (κ × V) :=
  if (kvs.any fun kv => decide (kv.1 = k)) = true then kvs.map (fun kv => if kv.1 = k then (kv.1, v) else kv) else kvs ++ [(k, v)]
def dropK (kvs : List (κ × V)) (k : κ) : List (κ × V) := kvs.filter fun kv => decide (kv.1 ≠ k)

theorem valV_pos {p : κ × V} {r : List (κ × V)} {k : κ} (e : p.1 = k) : valV (p :: r) k = some p.2 := by simp [valV, List.find?_cons, e]
theorem valV_neg {p : κ × V} {r : List (κ × V)} {k : κ} (e : ¬ p.1 = k) : valV (p :: r) k = valV r k := by simp [valV, List.find?_cons, e]
theorem valV_any (k : κ) : ∀ kvs : List (κ × V), (kvs.any fun kv => decide (kv.1 = k)) = (valV kvs k).isSome
  | [] => rfl
  | p :: r => by
    rw [List.any_cons]
    by_cases e : p.1 = k
    · simp only [valV_pos e, decide_eq_true e, Bool.true_or, Option.isSome_some]
    · rw [valV_neg e, decide_eq_false e, Bool.false_or]; exact valV_any k r
theorem length_putK (kvs : List (κ × V)) (k : κ) (v : V) : (putK kvs k v).length ≤ kvs.length + 1 := by
  unfold putK
  split
  · rw [List.length_map]; omega
  · rw [List.length_append, List.length_cons, List.length_nil]; omega
theorem putK_new {kvs : List (κ × V)} {k : κ} (v : V) (h : valV kvs k = none) : putK kvs k v = kvs ++ [(k, v)] := by
  unfold putK
  rw [valV_any, h]
  exact if_neg (by decide)

theorem RelO.isSome_eq {o : Option V} {u : Option Value} (r : RelO o u) : o.isSome = u.isSome := by
  cases o with
  | none => cases u with
    | none => rfl
    | some _ => exact (show False from r).elim
  | some _ => cases u with
    | none => exact (show False from r).elim
    | some _ => rfl
theorem RelO.getD {o : Option V} {u : Option Value} {d : V} {d' : Value} (r : RelO o u) (rd : RelV d d') : RelV (o.getD d) (u.getD d') := by
  cases o with
  | none => cases u with
    | none => exact rd
    | some _ => exact (show False from r).elim
  | some _ => cases u with
    | none => exact (show False from r).elim
    | some _ => exact r

/-- raw tables of the same keys -/
theorem KV.val {kvs : List (κ × V)} {vs : List (κ × Value)} (r : KV kvs vs) (k : κ) : RelO (valV kvs k) (valueAt vs k) := by
  unfold KV at r
  induction r with
  | nil => exact True.intro
  | @cons p q ps qs h t ih =>
    obtain ⟨h1, h2⟩ := h
    by_cases e : p.1 = k
    · have e' : q.1 = k := h1.symm.trans e
      have b : valueAt (q :: qs) k = some q.2 := by simp [valueAt, List.find?_cons, e']
      rw [valV_pos e, b]; exact h2
    · have e' : ¬ q.1 = k := fun z => e (h1.trans z)
      have b : valueAt (q :: qs) k = valueAt qs k := by simp [valueAt, List.find?_cons, e']
      rw [valV_neg e, b]; exact ih
theorem KV.any {kvs : List (κ × V)} {vs : List (κ × Value)} (r : KV kvs vs) (k : κ) : (kvs.any fun kv => decide (kv.1 = k)) = vs.any fun kv => decide (kv.1 = k) := by
  unfold KV at r
  induction r with
  | nil => rfl
  | cons h t ih => rw [List.any_cons, List.any_cons, ih, h.1]
theorem KV.repl {kvs : List (κ × V)} {vs : List (κ × Value)} (r : KV kvs vs) (k : κ) {y : V} {u : Value} (ry : RelV y u) :
    KV (kvs.map fun kv => if kv.1 = k then (kv.1, y) else kv) (vs.map fun kv => if kv.1 = k then (kv.1, u) else kv) := by
  unfold KV at r ⊢
  induction r with
  | nil => exact .nil
  | @cons p q ps qs h t ih =>
    rw [List.map_cons, List.map_cons]
    refine .cons ?_ ih
    obtain ⟨h1, h2⟩ := h
    by_cases e : p.1 = k
    · rw [if_pos e, if_pos (h1.symm.trans e)]; exact ⟨h1, ry⟩
    · rw [if_neg e, if_neg (fun z => e (h1.trans z))]; exact ⟨h1, h2⟩
theorem KV.put {kvs : List (κ × V)} {vs : List (κ × Value)} (r : KV kvs vs) (k : κ) {y : V} {u : Value} (ry : RelV y u) : KV (putK kvs k y) (stored vs k u) := by
  unfold putK stored
  rw [r.any k]
  by_cases e : (vs.any fun kv => decide (kv.1 = k)) = true
  · rw [if_pos e, if_pos e]; exact r.repl k ry
  · rw [if_neg e, if_neg e]; exact Paired.snoc r ⟨rfl, ry⟩
theorem KV.drop {kvs : List (κ × V)} {vs : List (κ × Value)} (r : KV kvs vs) (k : κ) : KV (dropK kvs k) (without vs k) := by
  unfold KV at r ⊢
  unfold dropK without
  induction r with
  | nil => exact .nil
  | @cons p q ps qs h t ih =>
    obtain ⟨h1, h2⟩ := h
    rw [List.filter_cons, List.filter_cons]
    by_cases e : p.1 = k
    · have a : ¬ decide (p.1 ≠ k) = true := by simp [e]
      have b : ¬ decide (q.1 ≠ k) = true := by simp [h1.symm.trans e]
      rw [if_neg a, if_neg b]; exact ih
    · have e' : ¬ q.1 = k := fun z => e (h1.trans z)
      have a : decide (p.1 ≠ k) = true := by simp [e]
      have b : decide (q.1 ≠ k) = true := by simp [e']
      rw [if_pos a, if_pos b]; exact .cons ⟨h1, h2⟩ ih
theorem KV.keys {kvs : List (κ × V)} {vs : List (κ × Value)} (r : KV kvs vs) : kvs.map (·.1) = vs.map (·.1) := by
  unfold KV at r
  induction r with
  | nil => rfl
  | cons h t ih => rw [List.map_cons, List.map_cons, ih, h.1]
theorem KV.length {kvs : List (κ × V)} {vs : List (κ × Value)} (r : KV kvs vs) : kvs.length = vs.length := Paired.length r
end


/-! ### a tracked dict, its keys ints and texts or tuples of these -/
theorem kV_is {P : Program} {w : World} {k : Key} {u : Value} (r : RelV (kV k) u) : (mixKind P w).is k u = true := by
  cases k with
  | inl i => obtain ⟨t, e⟩ := (show ∃ t, u = Value.int i t from r); subst e; exact mixKind_int P w i t
  | inr x => obtain ⟨t, e⟩ := (show ∃ t, u = Value.str x t from r); subst e; exact mixKind_str P w x t
theorem items_are {P : Program} {w : World} : ∀ {ks : List Key} {us : List Value}, Vals (ks.map kV) us → ItemsAre (mixKind P w) ks us
  | [], _, r => by rw [List.map_nil] at r; cases r; exact .nil
  | k :: ks, _, r => by
    rw [List.map_cons] at r
    cases r with
    | cons h t => exact .cons (kV_is h) (items_are t)

/-- raw entries of a dict with tuple keys -/
abbrev KT (H : Hp) : List (List Key × V) → List (List Key × Addr × Value) → Prop := Paired fun p q => p.1 = q.1 ∧ H q.2.1 = some (.tup (p.1.map kV)) ∧ RelV p.2 q.2.2
theorem KT.val {H : Hp} {kvs : List (List Key × V)} {xs : List (List Key × Addr × Value)} (r : KT H kvs xs) (k : List Key) : RelO (valV kvs k) ((atKey xs k).map (·.2)) := by
  induction r with
  | nil => exact True.intro
  | @cons p q ps qs h t ih =>
    obtain ⟨h1, _, h2⟩ := h
    by_cases e : p.1 = k
    · have e' : q.1 = k := h1.symm.trans e
      have b : atKey (q :: qs) k = some q.2 := by simp [atKey, List.find?_cons, e']
      rw [valV_pos e, b]; exact h2
    · have e' : ¬ q.1 = k := fun z => e (h1.trans z)
      have b : atKey (q :: qs) k = atKey qs k := by simp [atKey, List.find?_cons, e']
      rw [valV_neg e, b]; exact ih
theorem KT.repl {H : Hp} {kvs : List (List Key × V)} {xs : List (List Key × Addr × Value)} (r : KT H kvs xs) (k : List Key) {y : V} {u : Value} (ry : RelV y u) :
    KT H (kvs.map fun kv => if kv.1 = k then (kv.1, y) else kv) (xs.map (putAt k u)) := by
  induction r with
  | nil => exact .nil
  | @cons p q ps qs h t ih =>
    rw [List.map_cons, List.map_cons]
    refine .cons ?_ ih
    obtain ⟨h1, h2, h3⟩ := h
    unfold putAt
    by_cases e : p.1 = k
    · rw [if_pos e, if_pos (h1.symm.trans e)]; exact ⟨h1, h2, ry⟩
    · rw [if_neg e, if_neg (fun z => e (h1.trans z))]; exact ⟨h1, h2, h3⟩
theorem KT.put {H : Hp} {kvs : List (List Key × V)} {xs : List (List Key × Addr × Value)} (r : KT H kvs xs) (k : List Key) {b : Addr} {y : V} {u : Value} (hb : H b = some (.tup (k.map kV))) (ry : RelV y u) :
    KT H (putK kvs k y) (storedH xs k b u) := by
  have e : (kvs.any fun kv => decide (kv.1 = k)) = (atKey xs k).isSome := by
    rw [valV_any, (r.val k).isSome_eq, Option.isSome_map]
  unfold putK storedH
  rw [e]
  by_cases q : (atKey xs k).isSome = true
  · rw [if_pos q, if_pos q]; exact r.repl k ry
  · rw [if_neg q, if_neg q]; exact Paired.snoc r ⟨rfl, hb, ry⟩
theorem KT.keeps {H H' : Hp} {kvs : List (List Key × V)} {xs : List (List Key × Addr × Value)} (r : KT H kvs xs) (ht : ∀ b ys, H b = some (.tup ys) → H' b = some (.tup ys)) : KT H' kvs xs :=
  Paired.mapP r fun _ _ z => ⟨z.1, ht _ _ z.2.1, z.2.2⟩

section
variable {P : Program} {w : World} {H : Hp} {h : Heap} {a : Addr}
theorem rd_of {u : HO} (ok : HOk P w H h) (e : Rd H a u) : ObjOk P w H h a u := e.ok ok
theorem dk_rd {kvs : List (Key × V)} (ok : HOk P w H h) (e : Rd H a (.dK kvs)) : kvs.length ≤ sizeLine ∧ (a == sysModules) = false ∧ ∃ vs, KV kvs vs ∧ h.DictOf (mixKind P w) a vs :=
  show ObjOk P w H h a (.dK kvs) from rd_of ok e
theorem dk_of {kvs : List (Key × V)} (ok : HOk P w H h) (e : H a = some (.dK kvs)) : kvs.length ≤ sizeLine ∧ (a == sysModules) = false ∧ ∃ vs, KV kvs vs ∧ h.DictOf (mixKind P w) a vs := dk_rd ok (.inl e)
/-- a tracked tuple of ints and texts is a key -/
theorem key_of {ks : List Key} (ok : HOk P w H h) (e : H a = some (.tup (ks.map kV))) : (tupleKind (mixKind P w)).is h ks a := by
  obtain ⟨_, its, r, o, h1, h2, n, h3⟩ := (show ObjOk P w H h a (.tup (ks.map kV)) from ok a _ e)
  exact ⟨o, its.toArray, n, h1, h2, h3, by simpa using items_are r⟩
theorem dt_rd {kvs : List (List Key × V)} (ok : HOk P w H h) (e : Rd H a (.dT kvs)) : kvs.length ≤ sizeLine ∧ (a == sysModules) = false ∧
    ∃ xs, KT H kvs xs ∧ h.DictOfH (tupleKind (mixKind P w)) a xs := by
  obtain ⟨z, y, xs, r, o, es, ep, h1, h2, h3, h4, h5⟩ := (show ObjOk P w H h a (.dT kvs) from rd_of ok e)
  refine ⟨z, y, xs, r, o, es, ep, h1, h2, h3, h4, fun x hx => ?_, h5⟩
  have all : ∀ {l : List (List Key × V)} {m : List (List Key × Addr × Value)}, KT H l m → ∀ x ∈ m, (tupleKind (mixKind P w)).is h x.1 x.2.1 := by
    intro l m q
    induction q with
    | nil => intro x hx; exact nomatch hx
    | @cons p q ps qs hq t ih =>
      intro x hx
      rcases List.mem_cons.mp hx with e | hx
      · subst e
        exact key_of ok (by rw [← hq.1]; exact hq.2.1)
      · exact ih x hx
  exact all r x hx
theorem dt_of {kvs : List (List Key × V)} (ok : HOk P w H h) (e : H a = some (.dT kvs)) : kvs.length ≤ sizeLine ∧ (a == sysModules) = false ∧
    ∃ xs, KT H kvs xs ∧ h.DictOfH (tupleKind (mixKind P w)) a xs := dt_rd ok (.inl e)
end

/-- what the dict at a holds at the key y -/
def DGet (H : Hp) (a : Addr) (y : V) (r : Option V) : Prop :=
  (∃ kvs k, Rd H a (.dK kvs) ∧ y = kV k ∧ r = valV kvs k) ∨ ∃ kvs k b, Rd H a (.dT kvs) ∧ y = .ref b ∧ H b = some (.tup (k.map kV)) ∧ r = valV kvs k
/-- the heap behind a[y] = v -/
def DPut (H : Hp) (a : Addr) (y v : V) (H' : Hp) : Prop :=
  (∃ kvs k, H a = some (.dK kvs) ∧ y = kV k ∧ kvs.length < sizeLine ∧ H' = upd H a (.dK (putK kvs k v))) ∨
  ∃ kvs k b, H a = some (.dT kvs) ∧ y = .ref b ∧ H b = some (.tup (k.map kV)) ∧ kvs.length < sizeLine ∧ H' = upd H a (.dT (putK kvs k v))
theorem DGet.k {H : Hp} {a : Addr} {kvs : List (Key × V)} {k : Key} (e : H a = some (.dK kvs)) : DGet H a (kV k) (valV kvs k) := .inl ⟨kvs, k, .inl e, rfl, rfl⟩
theorem DGet.t {H : Hp} {a b : Addr} {kvs : List (List Key × V)} {k : List Key} (e : H a = some (.dT kvs)) (eb : H b = some (.tup (k.map kV))) : DGet H a (.ref b) (valV kvs k) := .inr ⟨kvs, k, b, .inl e, rfl, eb, rfl⟩
theorem DPut.k {H : Hp} {a : Addr} {kvs : List (Key × V)} {k : Key} {v : V} (e : H a = some (.dK kvs)) (hl : kvs.length < sizeLine) : DPut H a (kV k) v (upd H a (.dK (putK kvs k v))) := .inl ⟨kvs, k, e, rfl, hl, rfl⟩
theorem DPut.t {H : Hp} {a b : Addr} {kvs : List (List Key × V)} {k : List Key} {v : V} (e : H a = some (.dT kvs)) (eb : H b = some (.tup (k.map kV))) (hl : kvs.length < sizeLine) :
    DPut H a (.ref b) v (upd H a (.dT (putK kvs k v))) := .inr ⟨kvs, k, b, e, rfl, eb, hl, rfl⟩


section
variable {X : Cx} {pins : List (Addr × Obj)} {σ : St} {H : Hp} {s : Shared} {a : Addr} {y v : V} {u r : Value} {o : Option V} {A : Around} {E : Value → Shared → Prop}

theorem Inv.big (I : Inv X pins σ H s) : sysModules < s.heap.objs.size := by
  have h : mainGlobals < s.heap.objs.size := (I.mod.glob.keeps I.bk).lt
  exact Nat.lt_trans (by decide) h

/-- d[y], there -/
theorem d_getItem {Q : Value → Shared → Prop} (hu : A.units + 1 < cLine) (I : Inv X pins σ H s) (g : DGet H a y (some v)) (ry : RelV y u) (h : ∀ w' s', Inv X pins σ H s' → RelV v w' → Q w' s') :
    wpAny (model X.prog X.w) A (getItem (.ref a) u) Q E s := by
  rcases g with ⟨kvs, k, e, ey, l⟩ | ⟨kvs, k, b, e, ey, eb, l⟩
  · subst ey
    obtain ⟨z, hd, vs, rel, dd⟩ := dk_rd I.hok e
    obtain ⟨w', hw, rw'⟩ := RelO.some_of (v := v) (o := valueAt vs k) (by rw [l]; exact rel.val k)
    exact wpAny_getItem_of (kV_is ry) dd.mapOf hw (h w' _ (I.tok _) rw')
  · subst ey
    cases (show u = Value.ref b from ry)
    obtain ⟨z, hd, xs, rel, dd⟩ := dt_rd I.hok e
    obtain ⟨w', hw, rw'⟩ := RelO.some_of (v := v) (o := (atKey xs k).map (·.2)) (by rw [l]; exact rel.val k)
    obtain ⟨p, hp, hp2⟩ := Option.map_eq_some_iff.mp hw
    refine wpAny_getItem_heap (tupleKind_room_in1 hu) (key_of I.hok eb) dd hp ?_
    rw [hp2]
    exact h w' _ (I.tok _) rw'
/-- y in d -/
theorem d_in {Q : Value → Shared → Prop} (hu : A.units + 1 < cLine) (I : Inv X pins σ H s) (g : DGet H a y o) (ry : RelV y u) (h : ∀ s', Inv X pins σ H s' → Q (.bool o.isSome) s') :
    wpAny (model X.prog X.w) A (compareOp .In u (.ref a)) Q E s := by
  rcases g with ⟨kvs, k, e, ey, l⟩ | ⟨kvs, k, b, e, ey, eb, l⟩
  · subst ey
    obtain ⟨z, hd, vs, rel, dd⟩ := dk_rd I.hok e
    refine wpAny_in_of (kV_is ry) hd dd.mapOf ?_
    rw [← (rel.val k).isSome_eq, ← l]
    exact h _ (I.tok _)
  · subst ey
    cases (show u = Value.ref b from ry)
    obtain ⟨z, hd, xs, rel, dd⟩ := dt_rd I.hok e
    refine wpAny_in_heap (tupleKind_room_in1 hu) (key_of I.hok eb) hd dd ?_
    have q := (rel.val k).isSome_eq
    rw [Option.isSome_map] at q
    rw [← q, ← l]
    exact h _ (I.tok _)
theorem d_notIn {Q : Value → Shared → Prop} (hu : A.units + 1 < cLine) (I : Inv X pins σ H s) (g : DGet H a y o) (ry : RelV y u) (h : ∀ s', Inv X pins σ H s' → Q (.bool (!o.isSome)) s') :
    wpAny (model X.prog X.w) A (compareOp .NotIn u (.ref a)) Q E s := by
  rcases g with ⟨kvs, k, e, ey, l⟩ | ⟨kvs, k, b, e, ey, eb, l⟩
  · subst ey
    obtain ⟨z, hd, vs, rel, dd⟩ := dk_rd I.hok e
    refine wpAny_notIn_of (kV_is ry) hd dd.mapOf ?_
    rw [← (rel.val k).isSome_eq, ← l]
    exact h _ (I.tok _)
  · subst ey
    cases (show u = Value.ref b from ry)
    obtain ⟨z, hd, xs, rel, dd⟩ := dt_rd I.hok e
    refine wpAny_notIn_heap (tupleKind_room_in1 hu) (key_of I.hok eb) hd dd ?_
    have q := (rel.val k).isSome_eq
    rw [Option.isSome_map] at q
    rw [← q, ← l]
    exact h _ (I.tok _)
/-- a dict's object is replaced -/
theorem d_write {h' : Heap} {t' : Nat} {ob : HO} (I : Inv X pins σ H s) (mu : Mut (H a)) (hs : Heap.SameBut a s.heap h') (he : ∃ q, h'.get? a = some q) (new : ObjOk X.prog X.w (upd H a ob) h' a ob) :
    Inv X pins σ (upd H a ob) { s with heap := h', toks := t' } :=
  I.write (x := a) (e := a) mu (.inl rfl) (fun b q hb z => (hs.2 b hb).trans z) he new
theorem dk_new {P : Program} {w : World} {H' : Hp} {h' : Heap} {kvs : List (Key × V)} {vs : List (Key × Value)} (z : kvs.length ≤ sizeLine) (hd : (a == sysModules) = false) (rel : KV kvs vs) (dd : h'.DictOf (mixKind P w) a vs) :
    ObjOk P w H' h' a (.dK kvs) := ⟨z, hd, vs, rel, dd⟩
/-- d[y] = v -/
theorem d_setItem {H' : Hp} {Q : Unit → Shared → Prop} (hu : A.units + 1 < cLine) (I : Inv X pins σ H s) (g : DPut H a y v H') (ry : RelV y u) (rv : RelV v r) (h : ∀ s', Inv X pins σ H' s' → Q () s') :
    wpAny (model X.prog X.w) A (setItem (.ref a) u r) Q E s := by
  rcases g with ⟨kvs, k, e, ey, l, eH⟩ | ⟨kvs, k, b, e, ey, eb, l, eH⟩
  · subst ey eH
    obtain ⟨z, hd, vs, rel, dd⟩ := dk_of I.hok e
    have hz : vs.length ≤ sizeLine := by rw [← rel.length]; exact z
    have hl : (putK kvs k v).length ≤ sizeLine := by have := length_putK kvs k v; omega
    refine wpAny_setItem_pairs (hsz := hz) (kV_is ry) dd fun h' dd' hs => h _ ?_
    have he : ∃ q, h'.get? a = some q := let ⟨q, _, _, hq, _⟩ := dd'; ⟨q, hq⟩
    exact d_write I (by rw [e]; exact True.intro) hs he (dk_new hl hd (rel.put k rv) dd')
  · subst ey eH
    cases (show u = Value.ref b from ry)
    obtain ⟨z, hd, xs, rel, dd⟩ := dt_of I.hok e
    have hz : xs.length ≤ sizeLine := by rw [← Paired.length rel]; exact z
    have hl : (putK kvs k v).length ≤ sizeLine := by have := length_putK kvs k v; omega
    refine wpAny_setItem_heap (hsz := hz) (tupleKind_room_in1 hu) (key_of I.hok eb) dd fun h' dd' hs => h _ ?_
    obtain ⟨q, es, ep, hq, h2, h3, h4, _, h5⟩ := dd'
    refine d_write I (by rw [e]; exact True.intro) hs ⟨q, hq⟩ ⟨hl, hd, _, (rel.put k eb rv).keeps fun c ys ec => ?_, q, es, ep, hq, h2, h3, h4, h5⟩
    rw [upd_ne (ne_of ec e (fun z => nomatch z))]
    exact ec
end

section
variable {X : Cx} {pins : List (Addr × Obj)} {σ : St} {H : Hp} {s : Shared} {a : Addr} {kvs : List (Key × V)} {k : Key} {u : Value} {A : Around} {E : Value → Shared → Prop}
/-- len(d) -/
theorem d_len {Q : Value → Shared → Prop} (I : Inv X pins σ H s) (e : Rd H a (.dK kvs)) (h : ∀ t s', Inv X pins σ H s' → Q (.int kvs.length t) s') : wpAny (model X.prog X.w) A (call (.builtin "len") [.ref a]) Q E s := by
  obtain ⟨z, hd, vs, rel, dd⟩ := dk_rd I.hok e
  refine call_len_dict hd dd (by rw [← rel.length]; rw [sizeLine_eq] at z; omega) ?_
  rw [← rel.length]
  exact h _ _ (I.tok _)
end


/-! ### readings and rules -/
/-- the element of a subscription, not a slice -/
def NoSl (i : Expr) : Prop := ∀ ov iv, subscripted i false ov iv = operate [ov, iv] (getItem ov iv)
theorem subD_of {prog : Program} {w : World} {A : Around} {E : Value → Shared → Prop} {s : Shared} {env : Env} {value slice : Expr} {pos : Pos} {T id : String} {Q : Value → Shared → Prop}
    (hl : typeLookup (.type T) "__getitem__" = pure (some (.builtin id))) (hs : NoSl slice)
    (h : wpAny (model prog w) A (eval value env) (fun o s₁ => wpAny (model prog w) A (eval slice env) (fun i s₂ => s₂.TypeIs o T ∧ wpAny (model prog w) A (getItem o i) Q E s₂) E s₁) E s) :
    wpAny (model prog w) A (eval (.Subscript value slice pos) env) Q E s := by
  refine Subscript_ (wpAny_mono h (fun o s₁ h₁ => wpAny_mono h₁ (fun i s₂ h₂ => ?_) fun _ _ x => x) fun _ _ x => x)
  obtain ⟨hT, h₂⟩ := h₂
  unfold subscriptTail
  refine wpAny_bind ?_
  rw [getitemInPython_of_ne hT.not_modules]
  refine wpAny_bind (wpAny_specialOf hT hl ?_)
  have fin : wpAny (model prog w) A (subscripted slice false o i) (fun r s₃ => wpAny (model prog w) A (letTemporaryGo value o r >>= fun _ => pure r) Q E s₃) E s₂ := by
    rw [hs o i]
    exact wpAny_operating (wpAny_mono h₂ (fun r s₃ h₃ => wpAny_bind (wpAny_letTemporaryGo (wpAny_pure h₃))) fun _ _ x => x)
  first
    | exact wpAny_pure (wpAny_bind fin)
    | exact wpAny_bind (wpAny_pure (wpAny_bind fin))
    | exact wpAny_bind fin

theorem dict_typeIs {X : Cx} {pins : List (Addr × Obj)} {σ : St} {H : Hp} {s : Shared} {a : Addr} {y : V} {o : Option V} (I : Inv X pins σ H s) (g : DGet H a y o) : s.TypeIs (.ref a) "dict" := by
  rcases g with ⟨kvs, k, e, _, _⟩ | ⟨kvs, k, b, e, _, _, _⟩
  · obtain ⟨_, _, vs, _, dd⟩ := dk_rd I.hok e
    exact dd.typeIs
  · obtain ⟨_, _, xs, _, dd⟩ := dt_rd I.hok e
    exact dd.typeIs
/-- d[y] -/
def tDGet (td ty : TE) : TE := fun σ H Q => td σ H fun x H1 => ty σ H1 fun y H2 => ∃ a v, x = .ref a ∧ DGet H2 a y (some v) ∧ Q v H2
/-- d[y] = v -/
def sDPut (td ty tv : TE) : TS := fun D σ H => tv σ H fun v H1 => td σ H1 fun x H2 => ty σ H2 fun y H3 => ∃ a H4, x = .ref a ∧ DPut H3 a y v H4 ∧ D.nx σ H4
section
variable {X : Cx} {o i e value : Expr} {pos pos' tpos : Pos} {td ty tv : TE}
theorem pe_dget (hu : X.A.units + 1 < cLine) (ho : PE X o td) (hi : PE X i ty) (hs : NoSl i) : PE X (.Subscript o i pos) (tDGet td ty) := by
  intro pins s σ H Q I h
  refine subD_of PySem.F.slot_dict_getitem.lookup hs (thn (ho pins s σ H _ I h) fun u s1 ⟨x, H1, I1, rx, q1⟩ => thn (hi pins s1 σ H1 _ I1 q1) fun iv s2 ⟨y, H2, I2, ry, a, v, ex, g, q2⟩ => ?_)
  subst ex
  obtain rfl : u = Value.ref a := rx
  exact ⟨dict_typeIs I2 g, d_getItem hu I2 g ry fun w' s3 I3 rw' => ⟨v, H2, I3, rw', q2⟩⟩
end


/-! ### displays -/
theorem dk_empty {P : Program} {w : World} {H : Hp} (h : Heap) (hb : sysModules < h.objs.size) : ObjOk P w H (h.push { cls := .type "dict", data := .dict #[] }) h.objs.size (.dK []) :=
  ⟨Nat.zero_le _, beq_eq_false_iff_ne.mpr (Ne.symm (Nat.ne_of_lt hb)), [], .nil, Heap.DictOf.new h⟩
/-- {}, to be a dict of the kind that is wanted -/
def tDNewK : TE := fun _ H Q => ∀ p, H p = none → Q (.ref p) (upd H p (.dK []))
section
variable {X : Cx} {pos : Pos}
theorem pe_dnewK : PE X (.Dict [] [] pos) tDNewK := fun pins s σ H Q I h =>
  wpAny_Dict_empty ⟨.ref s.heap.objs.size, _, I.laid (a := s.heap.objs.size) (o := .dK []) (t' := s.toks) (fun _ _ q => Heap.get?_push_of_some _ q) (Nat.le_refl _) (dk_empty s.heap I.big), rfl, h _ (I.hok.fresh (Nat.le_refl _))⟩
end

/-- the pairs of a display, from the left -/
def tPairs : List (TE × TE) → St → Hp → (List (V × V) → Hp → Prop) → Prop
  | [], _, H, Q => Q [] H
  | (tk, tv) :: r, σ, H, Q => tk σ H fun x H1 => tv σ H1 fun y H2 => tPairs r σ H2 fun ps H3 => Q ((x, y) :: ps) H3
def mergeK (kvs more : List (Key × V)) : List (Key × V) := more.foldl (fun acc kv => putK acc kv.1 kv.2) kvs
/-- {k: v, ..} with keys ints and texts; the new dict stands empty while the pairs are made -/
def tDisp (trs : List (TE × TE)) : TE := fun σ H Q => ∀ p, H p = none → tPairs trs σ (upd H p (.dK [])) fun ps H2 => H2 p = some (.dK []) ∧ ∃ kvs : List (Key × V), ps = kvs.map (fun kv => (kV kv.1, kv.2)) ∧ kvs.length ≤ 15 ∧ Q (.ref p) (upd H2 p (.dK (mergeK [] kvs)))
/-! ### methods -/
/-- a method call o.m(e) of a built-in, with one argument: what must be seen of the text -/
structure M1 (X : Cx) (o : Expr) (m : Str) (apos : Pos) (e : Expr) (cpos : Pos) : Prop where
  base : attributeBase o m X.env (eval o X.env) = eval o X.env
  few : ((backTo cpos (starEach [e] X.env)).all (fun x => !x.1) && (backToKw cpos (keywordEach [] X.env)).all (fun x => x.1.isSome)
    && decide (([e] : List Expr).length + ([] : List Keyword).length + (if ([] : List Keyword).isEmpty then 0 else 1) < 30)) = true
  line : (apos.endLine == cpos.line) = true
  trees : backTo cpos (starEach [e] X.env) = [(false, eval e X.env)]
structure M2 (X : Cx) (o : Expr) (m : Str) (apos : Pos) (e f : Expr) (cpos : Pos) : Prop where
  base : attributeBase o m X.env (eval o X.env) = eval o X.env
  few : ((backTo cpos (starEach [e, f] X.env)).all (fun x => !x.1) && (backToKw cpos (keywordEach [] X.env)).all (fun x => x.1.isSome)
    && decide (([e, f] : List Expr).length + ([] : List Keyword).length + (if ([] : List Keyword).isEmpty then 0 else 1) < 30)) = true
  line : (apos.endLine == cpos.line) = true
  trees : backTo cpos (starEach [e, f] X.env) = [(false, eval e X.env), (false, eval f X.env)]

section
variable {X : Cx} {pins : List (Addr × Obj)} {σ : St} {H : Hp} {s : Shared} {a : Addr} {y d : V} {u r : Value} {o : Option V} {A : Around} {E : Value → Shared → Prop}
end

section
variable {X : Cx} {o e f : Expr} {apos cpos : Pos} {td ty tx : TE}
end

/-! ### dict(d): a copy -/
section
variable {X : Cx} {pins : List (Addr × Obj)} {σ : St} {H : Hp} {s : Shared} {a : Addr} {kvs : List (Key × V)} {A : Around} {E : Value → Shared → Prop}
end


section
variable {X : Cx} {pins : List (Addr × Obj)} {σ : St} {H : Hp} {s : Shared} {a : Addr} {y : V} {u : Value} {A : Around} {E : Value → Shared → Prop}
end
end L2

namespace L2
open PySem PySem.Spec PyProof.Rows
/-! ### a dict's pairs: keys that differ -/
section
variable {κ : Type} [DecidableEq κ]
end
end L2
/-! A list comprehension in the hand layer: one clause, any target, any tests. -/
namespace L2
open PySem PySem.Spec PyProof.Rows

section
variable {prog : Program} {w : World} {A : Around} {R : Result → Shared → Prop} {s : Shared}
abbrev testsOf (ifs : List Expr) (env : Env) : Sem Bool :=
  forIn ifs true fun c r => if r = true then do let ok ← isTrue c env (eval c env); pure (ForInStep.yield ok) else pure (ForInStep.yield r)

theorem compLoop_gen {elt target iter : Expr} {ifs : List Expr} {scope : Scope} {pos : Pos} {it acc : Value} {env : Env} {nE : Value → Shared → Prop} (hE : nE = notedBy (model prog w) A env fun e s' => R (.error e) s') (I : Nat → Shared → Prop)
    (turn : ∀ n s, I n s → wpAny (model prog w) A (pyNext it) (fun r s1 => match r with
      | none => R (.ok .next) s1
      | some v => wpAny (model prog w) A (letOwnedTupleGo target it v) (fun _ s1b => wpAny (model prog w) A (assign target env v) (fun _ s2 =>
          wpAny (model prog w) A (testsOf ifs env) (fun ok s3 =>
            if ok = true then wpAny (model prog w) A (eval elt env) (fun x s4 =>
              wpAny (model prog w) A (call (.builtin "list.append") [acc, x]) (fun _ s5 => ∃ m, m < n ∧ I m s5) nE s4) nE s3
            else ∃ m, m < n ∧ I m s3) nE s2) nE s1b) nE s1) nE s)
    (n : Nat) (h : I n s) :
    codeAny (model prog w) A (.compLoop (.ListComp elt [⟨target, iter, ifs, 0⟩] scope pos) 0 it acc env) R s := by
  subst hE
  refine codeAny_loop rfl I (fun n s hI => ?_) n h
  show wpAny _ A ((compTurn (.ListComp elt [⟨target, iter, ifs, 0⟩] scope pos) 0 it acc env).onRaise (fun x => do noteFrame x env; theTreesLotGoes x)) _ _ s
  refine wpAny_noted ?_
  rw [compTurn_list]
  refine wpAny_bind (wpAny_standAt (wpAny_bind (wpAny_mono (turn n s hI) (fun r s1 h1 => ?_) fun _ _ h' => h')))
  cases r with
  | none => exact wpAny_pure h1
  | some v =>
    refine wpAny_bind (wpAny_mono h1 (fun _ s1b h1b => ?_) fun _ _ h' => h')
    refine wpAny_bind (wpAny_mono h1b (fun _ s2 h2 => wpAny_bind (wpAny_mono h2 (fun ok s3 h3 => ?_) fun _ _ h' => h')) fun _ _ h' => h')
    cases ok with
    | false => exact wpAny_pure ⟨rfl, h3⟩
    | true =>
      exact wpAny_bind (wpAny_bind (wpAny_mono h3 (fun x s4 h4 => wpAny_bind (wpAny_mono h4 (fun _ s5 h5 => wpAny_pure (wpAny_pure ⟨rfl, h5⟩)) fun _ _ h' => h')) fun _ _ h' => h'))
end

/-! ### the block's cells -/
def clOf (cells : List (Str × Addr)) : List (Str × NameKind) → List (Str × Addr) → List (Str × Addr)
  | [], acc => acc
  | (n, k) :: r, acc => clOf cells r (if k == NameKind.free then (n, (cells.lookup n).getD 0) :: acc else acc)

theorem closure_forIn (env : Env) : ∀ (names : List (Str × NameKind)) (acc : List (Str × Addr)), (∀ y ∈ names, y.2 = .free → ∃ c, env.cells.lookup y.1 = some c) →
    (forIn names acc fun x (r : List (Str × Addr)) => match x with
      | (name, kind) => if (kind == NameKind.free) = true then (do let a ← cellOf env name; pure (ForInStep.yield ((name, a) :: r))) else pure (ForInStep.yield r) : Sem (List (Str × Addr))) = pure (clOf env.cells names acc)
  | [], acc, _ => by simp [clOf]
  | (n, k) :: r, acc, h => by
    have ih := fun acc => closure_forIn env r acc fun y hy => h y (List.mem_cons_of_mem _ hy)
    rw [List.forIn_cons]
    unfold clOf
    by_cases hk : k = .free
    · subst hk
      obtain ⟨c, e⟩ := h (n, .free) List.mem_cons_self rfl
      simp only [beq_self_eq_true, if_true, cellOf, e, Option.getD_some, pure_bind]
      exact ih _
    · have hb : (k == NameKind.free) = false := by simpa using hk
      simp only [hb, Bool.false_eq_true, if_false, pure_bind]
      exact ih _

theorem closureFor_eq {scope : Scope} {env : Env} (h : ∀ y ∈ scope.names, y.2 = .free → ∃ c, env.cells.lookup y.1 = some c) : closureFor scope env = pure (clOf env.cells scope.names []) := by
  have e := closure_forIn env scope.names [] h
  unfold closureFor
  first
    | (rw [e]; rfl)
    | (simp only [bind_pure]; exact e)
    | (show (_ >>= _) = _; rw [e]; rfl)

theorem clOf_lookup {cells : List (Str × Addr)} {x : Str} {c : Addr} : ∀ (names : List (Str × NameKind)) (acc : List (Str × Addr)), (∀ y ∈ names, y.2 = .free → ∃ c, cells.lookup y.1 = some c) →
    (∀ d, acc.lookup x = some d → cells.lookup x = some d) → (clOf cells names acc).lookup x = some c → cells.lookup x = some c
  | [], acc, _, ha, e => ha c e
  | (n, k) :: r, acc, h, ha, e => by
    unfold clOf at e
    refine clOf_lookup r _ (fun y hy => h y (List.mem_cons_of_mem _ hy)) (fun d hd => ?_) e
    by_cases hk : k = .free
    · subst hk
      obtain ⟨c', e'⟩ := h (n, .free) List.mem_cons_self rfl
      have e2 : cells.lookup n = some c' := e'
      rw [if_pos (beq_self_eq_true _), e2] at hd
      cases hx : x == n with
      | true =>
        have : x = n := eq_of_beq hx
        subst this
        simp only [List.lookup_cons, hx, Option.getD_some] at hd
        rw [e2]
        exact hd
      | false =>
        simp only [List.lookup_cons, hx] at hd
        exact ha d hd
    · have hb : ¬ (k == NameKind.free) = true := by simpa using hk
      rw [if_neg hb] at hd
      exact ha d hd

theorem clOf_keeps {cells : List (Str × Addr)} {x : Str} : ∀ (names : List (Str × NameKind)) (acc : List (Str × Addr)), (acc.lookup x).isSome = true → ((clOf cells names acc).lookup x).isSome = true
  | [], _, h => h
  | (n, k) :: r, acc, h => by
    unfold clOf
    refine clOf_keeps r _ ?_
    by_cases hk : (k == NameKind.free) = true
    · rw [if_pos hk]
      cases hx : x == n with
      | true => simp only [List.lookup_cons, hx, Option.isSome_some]
      | false => simp only [List.lookup_cons, hx]; exact h
    · rw [if_neg hk]; exact h

theorem clOf_has {cells : List (Str × Addr)} {x : Str} : ∀ (names : List (Str × NameKind)) (acc : List (Str × Addr)), (x, NameKind.free) ∈ names → ((clOf cells names acc).lookup x).isSome = true
  | (n, k) :: r, acc, h => by
    unfold clOf
    rcases List.mem_cons.mp h with e | h
    · cases e
      refine clOf_keeps r _ ?_
      rw [if_pos (beq_self_eq_true _)]
      simp only [List.lookup_cons, beq_self_eq_true, Option.isSome_some]
    · exact clOf_has r _ h

theorem relab_lookup {env : Env} (x : Str) : ∀ names : List (Str × NameKind),
    (names.map fun (n, k) => if (k == NameKind.free && env.scope.kind == .function && env.kindOf n == some .cell) then (n, NameKind.cell) else (n, k)).lookup x =
      (names.lookup x).map fun k => if (k == NameKind.free && env.scope.kind == .function && env.kindOf x == some .cell) then NameKind.cell else k
  | [] => rfl
  | (n, k) :: r => by
    have ih := relab_lookup (env := env) x r
    rw [List.map_cons]
    cases hx : x == n with
    | true =>
      have : x = n := eq_of_beq hx
      subst this
      show List.lookup x ((if (k == NameKind.free && env.scope.kind == .function && env.kindOf x == some .cell) = true then (x, NameKind.cell) else (x, k)) :: _) = _
      by_cases hc : (k == NameKind.free && env.scope.kind == .function && env.kindOf x == some .cell) = true
      · rw [if_pos hc]; simp only [List.lookup_cons, hx, Option.map_some]; rw [if_pos hc]
      · rw [if_neg hc]; simp only [List.lookup_cons, hx, Option.map_some]; rw [if_neg hc]
    | false =>
      show List.lookup x ((if (k == NameKind.free && env.scope.kind == .function && env.kindOf n == some .cell) = true then (n, NameKind.cell) else (n, k)) :: _) = _
      by_cases hc : (k == NameKind.free && env.scope.kind == .function && env.kindOf n == some .cell) = true
      · rw [if_pos hc]; simp only [List.lookup_cons, hx]; exact ih
      · rw [if_neg hc]; simp only [List.lookup_cons, hx]; exact ih

/-- what is asked of the block's names: own are the clause's, caps are captured -/
structure CScope (own caps : List Str) (scope osc : Scope) : Prop where
  kind : scope.kind = .function
  nocell : ∀ y ∈ scope.names, y.2 ≠ .cell
  loc : ∀ y ∈ scope.names, y.2 = .local → scope.names.lookup y.1 = some .local
  fr : ∀ y ∈ scope.names, y.2 = .free → osc.names.lookup y.1 = some .cell ∨ osc.names.lookup y.1 = some .free
  cap : ∀ x ∈ caps, scope.names.lookup x = some .free
  nd : (own ++ caps).Nodup

/-- the block's context -/
def cxC (X : Cx) (scope : Scope) (N' : List Str) (C : Addr) (fp : List Addr) (s : Shared) (H : Hp) : Cx where
  prog := X.prog
  w := X.w
  K := X.K
  mg := X.mg
  base := X.base
  A := X.A
  N := N'
  s₀ := s
  H₀ := H
  env := compEnvC scope (clOf X.env.cells scope.names []) C X.env
  outer := X.stack
  stack := X.stack
  ex := fp
  fn := fun _ => false
  calm := X.calm
  pn := X.pn
  xe := fun _ _ => False

/-- the block's slots: own ones unset, captured ones as they stand -/
def cSt (n : Nat) (js : List Nat) (σ : St) : St := List.replicate n none ++ js.map fun j => (σ[j]?).join

/-- the tests of a clause -/
def PF (X : Cx) (ifs : List Expr) (t : TT) : Prop :=
  ∀ (pins : List (Addr × Obj)) (s : Shared) (σ : St) (H : Hp) (Q : Bool → Hp → Prop), Inv X pins σ H s → t σ H Q → wpAny (model X.prog X.w) X.A (testsOf ifs X.env) (TP X pins σ Q) X.xe s
def tYes : TT := fun _ H Q => Q true H
theorem pf_nil {X : Cx} : PF X [] tYes := fun pins s σ H Q I h => by
  show wpAny _ _ (forIn [] true _) _ _ s
  rw [List.forIn_nil]
  exact wpAny_pure ⟨H, I, h⟩
theorem pf_one {X : Cx} {c : Expr} {tc : TT} (hc : PT X c tc) : PF X [c] tc := fun pins s σ H Q I h => by
  show wpAny _ _ (forIn [c] true _) _ _ s
  rw [List.forIn_cons]
  simp only [List.forIn_nil, if_true]
  refine wpAny_bind (wpAny_bind (thn (hc pins s σ H Q I h) fun b s1 q => wpAny_pure ?_))
  exact wpAny_pure q

/-- W: the invariant by the turn, a measure, what was gathered; D: where it is gathered -/
def tComp (n : Nat) (js : List Nat) (wi : TI) (g : TG) (tc : TT) (te : TE) : TE := fun σ H Q => wi σ H fun J H1 => ∀ D, H1 D = none → ∃ W : Nat → Nat → List V → Hp → Prop, (∃ m, W 0 m [] (upd H1 D (.lst []))) ∧ ∀ i m acc H, W i m acc H →
  H D = some (.lst acc) ∧ ((J.stop i H ∧ Q (.ref D) H) ∨ (J.go i H ∧ acc.length < sizeLine ∧ ∃ Nx : List V → Hp → Prop, (∀ acc' H', Nx acc' H' → ∃ m', m' < m ∧ W (i + 1) m' acc' H') ∧
    ∀ x H', J.yld i H x H' → g x (cSt n js σ) H' fun σ2 H2 => σ2.drop n = (cSt n js σ).drop n ∧ tc σ2 H2 fun b H3 => if b = true then te σ2 H3 fun v H4 => H4 D = some (.lst acc) ∧ Nx (acc ++ [v]) (upd H4 D (.lst (acc ++ [v]))) else H3 D = some (.lst acc) ∧ Nx acc H3))

section
variable {X : Cx} {pins : List (Addr × Obj)} {σ : St} {H : Hp} {s : Shared}

abbrev capN (X : Cx) (js : List Nat) : List Str := js.map fun j => (X.N[j]?).getD Str.empty
theorem js_ok {X : Cx} {js : List Nat} (h : (js.all fun j => decide (j < X.N.length)) = true) : ∀ j ∈ js, ∃ x, X.N[j]? = some x := fun j hj => by
  have := of_decide_eq_true (List.all_eq_true.mp h j hj)
  exact ⟨X.N[j], List.getElem?_eq_getElem this⟩

/-- the block begins: its frame is laid at C -/
theorem Inv.block {scope : Scope} {own : List Str} {js : List Nat} {fp : List Addr} {h' : Heap} {t' : Nat} {m : Str → Option Value} (I : Inv X pins σ H s) (S : CScope own (capN X js) scope X.env.scope) (hj : ∀ j ∈ js, ∃ x, X.N[j]? = some x)
    (hf : ∀ b ∈ fp, FpOk X pins H b) (hfo : ∀ b ∈ fp, ∃ o, s.heap.get? b = some o) (hn : h'.Ns s.heap.objs.size m) (hk : ∀ b o, s.heap.get? b = some o → h'.get? b = some o) :
    Inv (cxC X scope (own ++ capN X js) s.heap.objs.size fp s H) pins (cSt own.length js σ) H { s with heap := h', toks := t' } := by
  have hfr : ∀ y ∈ scope.names, y.2 = .free → ∃ c, X.env.cells.lookup y.1 = some c := fun y hy e => I.ok.has y.1 (S.fr y hy e)
  have hcl : ∀ x c, (clOf X.env.cells scope.names []).lookup x = some c → X.env.cells.lookup x = some c := fun x c e => clOf_lookup scope.names [] hfr (fun d z => nomatch z) e
  have hlt : ∀ b o, s.heap.get? b = some o → b ≠ s.heap.objs.size := fun b o e => Nat.ne_of_lt (Heap.lt_size e)
  have nstk : ∀ b, b ≠ X.env.locals → b ∉ X.fs → b ∉ frs X.stack := fun b h1 h2 hb => (List.mem_cons.mp (I.stkSub b hb)).elim h1 h2
  have hrl : ∀ x, (relabel scope X.env).names.lookup x = (scope.names.lookup x).map fun k => if (k == NameKind.free && X.env.scope.kind == .function && X.env.kindOf x == some .cell) then NameKind.cell else k := fun x => relab_lookup x scope.names
  refine ⟨⟨I.ok.mod, S.kind, I.ok.glob, I.ok.blt, Nat.le_refl _, fun x y c h1 h2 => I.ok.inj x y c (hcl x c h1) (hcl y c h2), fun x hx => ?_, (fun x c z => nomatch z), I.ok.hd, I.ok.frames, .inl rfl, fun b hb => ?_, I.bs, Nat.le_trans I.ok.bsz I.sz, fun b o e hb => ?_, fun b hb => ?_, I.stack, I.stkFree⟩,
    rfl, I.bare, Un.kept hk, ⟨m, hn, fun i x v h1 h2 h3 => ?_⟩, fun x c e => ?_, I.hok.fresh (Nat.le_refl _), fun x c e => I.freeC x c (hcl x c e), fun p hp => ?_, I.hok.kept hk, ?_⟩
  · have hx' : (relabel scope X.env).names.lookup x = some .cell ∨ (relabel scope X.env).names.lookup x = some .free := hx
    rw [hrl] at hx'
    cases e : scope.names.lookup x with
    | none => rw [e] at hx'; rcases hx' with z | z <;> cases z
    | some k =>
      have hm : (x, k) ∈ scope.names := PySem.mem_of_lookup e
      have hkf : k = .free := by
        rw [e] at hx'
        cases k with
        | free => rfl
        | cell => exact absurd rfl (S.nocell _ hm)
        | _ => exfalso; revert hx'; simp
      subst hkf
      exact Option.isSome_iff_exists.mp (clOf_has scope.names [] hm)
  · obtain ⟨o, e⟩ := hfo b hb
    obtain ⟨_, _, _, _, f4, _⟩ := hf b hb
    exact ⟨hlt b o e, fun x c z => f4 x c (hcl x c z)⟩
  · obtain ⟨_, _, _, f3, _⟩ := hf b hb
    rcases f3 with z | z
    · exact I.ok.noex b o e z
    · exact absurd (Nat.lt_of_lt_of_le (Heap.lt_size (I.ok.bs b o e).1) z) (Nat.lt_irrefl _)
  · obtain ⟨_, f1, f2, _⟩ := hf b hb
    exact nstk b f1 f2
  · -- a captured name
    have h1' : (own ++ capN X js)[i]? = some x := h1
    have hi : own.length ≤ i := by
      rcases Nat.lt_or_ge i own.length with z | z
      · exfalso
        unfold cSt at h2
        rw [List.getElem?_append_left (by simpa using z), List.getElem?_replicate] at h2
        split at h2 <;> cases h2
      · exact z
    rw [List.getElem?_append_right hi] at h1'
    unfold cSt at h2
    rw [List.getElem?_append_right (by simpa using hi), List.length_replicate, List.getElem?_map] at h2
    unfold capN at h1'
    rw [List.getElem?_map] at h1'
    cases ej : js[i - own.length]? with
    | none => rw [ej] at h2; cases h2
    | some j =>
      rw [ej] at h1' h2
      obtain ⟨y, ey⟩ := hj j (List.mem_of_getElem? ej)
      have exy : y = x := by
        have z : some ((X.N[j]?).getD Str.empty) = some x := h1'
        rw [ey] at z
        exact Option.some.inj z
      subst exy
      have es : σ[j]? = some (some v) := by
        have z : some ((σ[j]?).join) = some (some v) := h2
        cases q : σ[j]? with
        | none => rw [q] at z; cases z
        | some o => rw [q] at z; cases o with
          | none => cases z
          | some v' => cases z; rfl
      have hcap : y ∈ capN X js := List.mem_map.mpr ⟨j, List.mem_of_getElem? ej, by rw [ey]; rfl⟩
      have hfree : scope.names.lookup y = some .free := S.cap y hcap
      have hm : (y, NameKind.free) ∈ scope.names := PySem.mem_of_lookup hfree
      have ho := S.fr _ hm rfl
      obtain ⟨m0, hn0, hl0⟩ := I.loc
      obtain ⟨u, r, l⟩ := hl0 j y v ey es (ho.elim (fun z => .inr (.inl z)) fun z => .inr (.inr z))
      refine ⟨u, r, .inr ⟨?_, ?_⟩⟩
      · show (relabel scope X.env).names.lookup y = _ ∨ (relabel scope X.env).names.lookup y = _
        rw [hrl, hfree, Option.map_some]
        by_cases hcc : (NameKind.free == NameKind.free && X.env.scope.kind == .function && X.env.kindOf y == some .cell) = true
        · rw [if_pos hcc]; exact .inl rfl
        · rw [if_neg hcc]; exact .inr rfl
      · rcases l with ⟨k, _⟩ | ⟨_, c, e, z⟩
        · have k' : X.env.scope.names.lookup y = some .local := k
          rcases ho with z | z <;> (rw [k'] at z; cases z)
        · obtain ⟨c', e'⟩ := Option.isSome_iff_exists.mp (clOf_has (cells := X.env.cells) scope.names [] hm)
          have := hcl y c' e'
          rw [e] at this
          cases this
          refine ⟨c, e', ?_⟩
          obtain ⟨oc, ho', hd⟩ := z
          exact ⟨oc, hk c oc ho', hd⟩
  · obtain ⟨v, o, ho, hd⟩ := I.cell x c (hcl x c e)
    exact ⟨v, o, hk c o ho, hd⟩
  · obtain ⟨e, n, ne, nf, d⟩ := I.pin p hp
    exact ⟨hk _ _ e, n, hlt _ _ e, nstk p.1 ne nf, d⟩
  · unfold cSt
    show _ = (own ++ capN X js).length
    simp

/-- the block is left: its frame's object may have changed -/
theorem Inv.unblock {scope : Scope} {N' : List Str} {fp : List Addr} {σb : St} {H' : Hp} {s' : Shared} {h' : Heap} (I : Inv X pins σ H s) (hf : ∀ b ∈ fp, FpOk X pins H b)
    (B : Inv (cxC X scope N' s.heap.objs.size fp s H) pins σb H' s') (hs : Heap.SameBut s.heap.objs.size s'.heap h') : Inv X pins σ H' { s' with heap := h' } := by
  have hlt : ∀ b o, s.heap.get? b = some o → b ≠ s.heap.objs.size := fun b o e => Nat.ne_of_lt (Heap.lt_size e)
  have hu : Un (frs X.stack) fp H H' s.heap s'.heap := B.base
  have hfree : H' s.heap.objs.size = none := B.free
  refine I.call' (s' := { s' with heap := h' }) (ch := fp) B.os ⟨fun b o e n hb hx => ?_, fun b o e n hb hx => ?_, hu.free, fun b o e hx => ?_, hu.tups, hu.frzs, hu.tbls⟩ (fun b u e => ?_) B.bare fun b hb => ?_
  · exact (hs.2 b (hlt b o e)).trans (hu.keep b o e n hb hx)
  · obtain ⟨sl, z⟩ := hu.slot b o e n hb hx
    exact ⟨sl, (hs.2 b (hlt b o e)).trans z⟩
  · obtain ⟨o', z⟩ := hu.there b o e hx
    exact ⟨o', (hs.2 b (hlt b o e)).trans z⟩
  · refine (B.hok b u e).stay (fun c v hc q => (hs.2 c ?_).trans q) (fun _ q => q) fun _ _ q => q
    rintro rfl
    rcases hc with z | z
    · rw [← z, hfree] at e; cases e
    · rw [hfree] at z; cases z
  · obtain ⟨_, f1, f2, f3, f4, f5⟩ := hf b hb
    exact ⟨f3, f1, f4, f5⟩
end

section
variable {X : Cx} {elt tg iter : Expr} {ifs : List Expr} {scope : Scope} {pos : Pos} {own : List Str} {js : List Nat} {wi : TI} {g : TG} {tc : TT} {te : TE}

theorem comp_core (hc : X.calm = true) (S : CScope own (capN X js) scope X.env.scope) (hj : ∀ j ∈ js, ∃ x, X.N[j]? = some x) (hi : PI X tg iter wi)
    (hg : ∀ C fp s H, PG (cxC X scope (own ++ capN X js) C fp s H) tg g) (ht : ∀ C fp s H, PF (cxC X scope (own ++ capN X js) C fp s H) ifs tc) (he : ∀ C fp s H, PE (cxC X scope (own ++ capN X js) C fp s H) elt te)
    {pins : List (Addr × Obj)} {σ : St} {H : Hp} {s : Shared} {Q : VK} (I : Inv X pins σ H s) (h : tComp own.length js wi g tc te σ H Q) {RR : Value → Addr → Result → Shared → Prop}
    (hRR : ∀ D C s' m H', s'.heap.Ns C m → H' C = none → C ≠ X.env.locals → C ∉ X.fs → (∀ x c, X.env.cells.lookup x = some c → c ≠ C) → X.s₀.heap.objs.size ≤ C → (∀ p ∈ X.pn ++ pins, p.1 ≠ C) → (∀ h', Heap.SameBut C s'.heap h' → Inv X pins σ H' { s' with heap := h' }) → Q (.ref D) H' → RR (.ref D) C (.ok .next) s') :
    wpAny (model X.prog X.w) X.A (eval iter X.env) (fun x s1 => wpAny (model X.prog X.w) X.A (pyIter x) (fun it s2 => wpAny (model X.prog X.w) X.A (newList []) (fun acc s3 =>
      wpAny (model X.prog X.w) X.A (newFunctionEnv scope X.env.globals (clOf X.env.cells scope.names []) [] X.env.qual none .none (some X.env)) (fun cenv s4 =>
        codeAny (model X.prog X.w) X.A (.compStart (.ListComp elt [⟨tg, iter, ifs, 0⟩] scope pos) 0 it acc { cenv with scope := relabel scope X.env }) (RR acc cenv.locals) s4) X.xe s3) X.xe s2) X.xe s1) X.xe s := by
  refine thn (hi pins s σ H _ I h) fun v s1 h1 => thn h1 fun itv s2 h2 => ?_
  obtain ⟨it, fp, tn, J, H2, e, I2, T, st2, f2, hq⟩ := h2
  subst e
  refine wpAny_newList ?_ (by simp)
  have I3 := I2.lnew (t' := s2.toks) (ys := []) (its := []) .nil (by simp)
  have hDn : H2 s2.heap.objs.size = none := I2.fresh
  generalize hD : s2.heap.objs.size = D at I3 hDn ⊢
  generalize hH3 : upd H2 D (.lst []) = H3 at I3
  generalize hs3 : ({ s2 with heap := s2.heap.push { cls := .type "list", data := .seq ([] : List Value).toArray }, toks := s2.toks } : Shared) = s3 at I3
  have k3 : ∀ b o, s2.heap.get? b = some o → s3.heap.get? b = some o := fun b o e => by rw [← hs3]; exact Heap.get?_push_of_some _ e
  have st3 : tn 0 s3.heap := T.keep _ _ _ st2 fun b _ o e => k3 b o e
  have fo2 : ∀ b ∈ fp, ∃ o, s2.heap.get? b = some o := fun b hb => (T.obj _ _ st2 b hb).imp fun _ z => z.1
  have neD : ∀ b ∈ fp, b ≠ D := fun b hb => by
    obtain ⟨o, e⟩ := fo2 b hb
    rw [← hD]
    exact Nat.ne_of_lt (Heap.lt_size e)
  have f3 : ∀ b ∈ fp, FpOk X pins H3 b := fun b hb => by
    obtain ⟨a0, a1⟩ := f2 b hb
    exact ⟨by rw [← hH3, upd_ne (neD b hb)]; exact a0, a1⟩
  have fo3 : ∀ b ∈ fp, ∃ o, s3.heap.get? b = some o := fun b hb => (fo2 b hb).imp fun o e => k3 b o e
  obtain ⟨W, ⟨m0, w0⟩, turn⟩ := hq D hDn
  rw [hH3] at w0
  refine wpAny_newFunctionEnv S.nocell (by intro y hy; simp at hy) (fun h4 hns4 hsb4 => ?_) S.kind
  have k4 : ∀ b o, s3.heap.get? b = some o → h4.get? b = some o := fun b o e => hsb4.extBut b o (Nat.ne_of_lt (Heap.lt_size e)) (Heap.get?_push_of_some _ e)
  have B4 := I3.block (t' := s3.toks + ([] : List (Str × Value)).length) S hj f3 fo3 hns4 k4
  have st4 : tn 0 h4 := T.keep _ _ _ st3 fun b _ o e => k4 b o e
  have f4 : ∀ b ∈ fp, FpOk (cxC X scope (own ++ capN X js) s3.heap.objs.size fp s3 H3) pins H3 b := fun b hb => by
    obtain ⟨a0, a1, a2, a3, a4, a5⟩ := f3 b hb
    obtain ⟨o, e⟩ := fo3 b hb
    exact ⟨a0, (B4.ok.exf b hb).1, B4.ok.exfs b hb, .inl hb, (B4.ok.exf b hb).2, a5⟩
  have nL : s3.heap.objs.size ≠ X.env.locals := Nat.ne_of_gt I3.lt
  have nF : s3.heap.objs.size ∉ X.fs := I3.nofs (Nat.le_refl _)
  have nC : ∀ x c, X.env.cells.lookup x = some c → c ≠ s3.heap.objs.size := fun x c e => by
    obtain ⟨_, o, ho, _⟩ := I3.cell x c e
    exact Nat.ne_of_lt (Heap.lt_size ho)
  -- the loop
  have loop : ∀ s5 : Shared, s5 = { s3 with heap := h4, toks := s3.toks + ([] : List (Str × Value)).length } →
      codeAny (model X.prog X.w) X.A (.compLoop (.ListComp elt [⟨tg, iter, ifs, 0⟩] scope pos) 0 (.ref it) (.ref D) (compEnvC scope (clOf X.env.cells scope.names []) s3.heap.objs.size X.env)) (RR (.ref D) s3.heap.objs.size) s5 := by
    rintro s5 rfl
    have stat : ∀ {H' : Hp}, (∀ b ∈ fp, H' b = none) → ∀ b ∈ fp, FpOk (cxC X scope (own ++ capN X js) s3.heap.objs.size fp s3 H3) pins H' b := fun hn b hb => ⟨hn b hb, (f4 b hb).2⟩
    refine compLoop_gen rfl (fun n s' => ∃ i acc H', Inv (cxC X scope (own ++ capN X js) s3.heap.objs.size fp s3 H3) pins (cSt own.length js σ) H' s' ∧ tn i s'.heap ∧ (∀ b ∈ fp, H' b = none) ∧ W i n acc H') ?_ m0
      ⟨0, [], H3, B4, st4, fun b hb => (f3 b hb).1, w0⟩
    rintro n s6 ⟨i, acc, H6, B6, st6, fr6, w6⟩
    obtain ⟨hacc, way⟩ := turn i n acc H6 w6
    rcases way with ⟨stop, q⟩ | ⟨go, hz, Nx, hN, step⟩
    · refine thn (T.done (cxC X scope (own ++ capN X js) s3.heap.objs.size fp s3 H3) rfl rfl rfl hc i pins s6 _ H6 _ B6 (stat fr6) st6 stop) fun r s7 ⟨hr, B7⟩ => ?_
      subst hr
      obtain ⟨m, hm, _⟩ := B7.loc
      exact hRR D _ s7 m H6 hm B7.free nL nF nC I3.sz (fun p hp => Nat.ne_of_lt (Heap.lt_size (I3.pin p hp).1)) (fun h' hs => I3.unblock f3 B7 hs) q
    · refine thn (T.item (cxC X scope (own ++ capN X js) s3.heap.objs.size fp s3 H3) rfl rfl rfl hc i pins s6 _ H6 _ B6 (stat fr6) st6 go) fun r s7 ⟨u, hr, h7⟩ => ?_
      subst hr
      refine thn h7 fun _ s8 ⟨x, H8, B8, r8, y8, st8, fr8⟩ => ?_
      have B8' := B8.pinned (stat fr8) (T.obj _ _ st8)
      have away : ∀ {s9 : Shared} {σ9 : St} {H9 : Hp} {acc' : List V}, Inv (cxC X scope (own ++ capN X js) s3.heap.objs.size fp s3 H3) (pins ++ pinsAt fp s8.heap) σ9 H9 s9 → σ9.drop own.length = (cSt own.length js σ).drop own.length → Nx acc' H9 →
          ∃ m', m' < n ∧ ∃ i acc H', Inv (cxC X scope (own ++ capN X js) s3.heap.objs.size fp s3 H3) pins (cSt own.length js σ) H' s9 ∧ tn i s9.heap ∧ (∀ b ∈ fp, H' b = none) ∧ W i m' acc H' := fun {s9 σ9 H9 acc'} B9 hd nx => by
        obtain ⟨m', hm, w9⟩ := hN acc' H9 nx
        refine ⟨m', hm, i + 1, acc', H9, B9.unpinned.weak ?_ ?_, T.keep _ _ _ st8 fun b hb o e => (B9.pin (b, o) (List.mem_append_right _ (List.mem_append_right _ (mem_pinsAt hb e)))).1, fun b hb => ?_, w9⟩
        · rw [B9.len, B6.len]
        · intro k v hv
          unfold cSt at hv
          have hk : own.length ≤ k := by
            rcases Nat.lt_or_ge k own.length with z | z
            · exfalso
              rw [List.getElem?_append_left (by simpa using z), List.getElem?_replicate] at hv
              split at hv <;> cases hv
            · exact z
          have e1 : σ9[k]? = (σ9.drop own.length)[k - own.length]? := by rw [List.getElem?_drop]; congr 1; omega
          rw [e1, hd, List.getElem?_drop]
          have e2 : own.length + (k - own.length) = k := by omega
          rw [e2]
          exact hv
        · obtain ⟨o, e, d⟩ := T.obj _ _ st8 b hb
          exact (B9.pin (b, o) (List.mem_append_right _ (List.mem_append_right _ (mem_pinsAt hb e)))).2.1
      refine wpAny_mono (hg _ _ _ _ _ s8 _ H8 x u _ B8' r8 (step x H8 y8)) (fun _ s9 ⟨σ9, H9, B9, hd9, q9⟩ => ?_) fun _ _ f => f.elim
      refine wpAny_mono (ht _ _ _ _ _ s9 σ9 H9 _ B9 q9) (fun b s10 ⟨H10, B10, q10⟩ => ?_) fun _ _ f => f.elim
      cases b with
      | false =>
        rw [if_neg Bool.false_ne_true] at q10 ⊢
        exact away B10 hd9 q10.2
      | true =>
        rw [if_pos rfl] at q10 ⊢
        refine wpAny_mono (he _ _ _ _ _ s10 σ9 H10 _ B10 q10) (fun y s11 ⟨z, H11, B11, r11, q11⟩ => ?_) fun _ _ f => f.elim
        obtain ⟨hl11, nx⟩ := q11
        refine wpAny_mono (mt_append (X := cxC X scope (own ++ capN X js) s3.heap.objs.size fp s3 H3) _ s11 σ9 H11 (.ref D) [z] (.ref D) [y] (fun _ H12 => Nx (acc ++ [z]) H12) B11 rfl (.cons r11 .nil) ⟨D, acc, z, rfl, rfl, hl11, hz, nx⟩) (fun _ s12 ⟨_, H12, B12, _, q12⟩ => ?_) fun _ _ f => f.elim
        exact away B12 hd9 q12
  exact codeAny_compStart_list (loop _ rfl) (T.self X.A 0 _ _ _ st4 (loop _ rfl))

/-- a list comprehension -/
theorem pe_comp (own caps : List Str) (js : List Nat) (hc : X.calm = true) {osc : Scope} (S : CScope own caps scope osc) (hi : PI X tg iter wi)
    (hg : ∀ C fp s H, PG (cxC X scope (own ++ caps) C fp s H) tg g) (ht : ∀ C fp s H, PF (cxC X scope (own ++ caps) C fp s H) ifs tc) (he : ∀ C fp s H, PE (cxC X scope (own ++ caps) C fp s H) elt te)
    (ho : X.env.scope = osc := by rfl) (hcp : capN X js = caps := by rfl) (hj : (js.all fun j => decide (j < X.N.length)) = true := by rfl)
    (hs : ∀ x, foldedSetIterable iter X.env x = pure x := by intro _; rfl) : PE X (.ListComp elt [⟨tg, iter, ifs, 0⟩] scope pos) (tComp own.length js wi g tc te) := by
  subst ho
  subst hcp
  intro pins s σ H Q I h
  have hfr : ∀ y ∈ scope.names, y.2 = .free → ∃ c, X.env.cells.lookup y.1 = some c := fun y hy e => I.ok.has y.1 (S.fr y hy e)
  rw [eval_ListComp]
  refine wpAny_comprehension_free (use := none) rfl hs (closureFor_eq hfr) S.kind S.loc ?_
  refine comp_core hc S (js_ok hj) hi hg ht he I h (RR := fun acc C => compPost (model X.prog X.w) X.A X.xe none (EP X pins σ Q) acc C) ?_
  intro D C s' m H' hn hf h1 h2 h3 h4 h5 hI hq
  exact ⟨m, hn, fun h' hs' => ⟨.ref D, H', hI h' hs', rfl, hq⟩⟩

/-- x = [ .. for .. ], where the store goes ahead of the block's end -/
theorem ps_setC {i : Nat} {x : Str} {pos' spos : Pos} (own caps : List Str) (js : List Nat) (hc : X.calm = true) (hN : X.N.Nodup) (hxi : X.N[i]? = some x) (hx : Loc X.env.scope x)
    {osc : Scope} (S : CScope own caps scope osc) (hi : PI X tg iter wi)
    (hg : ∀ C fp s H, PG (cxC X scope (own ++ caps) C fp s H) tg g) (ht : ∀ C fp s H, PF (cxC X scope (own ++ caps) C fp s H) ifs tc) (he : ∀ C fp s H, PE (cxC X scope (own ++ caps) C fp s H) elt te)
    (hsw : swapsWith (.ListComp elt [⟨tg, iter, ifs, 0⟩] scope pos) (some (.Name x pos')) spos.line X.env = pure true)
    (ho : X.env.scope = osc := by rfl) (hcp : capN X js = caps := by rfl) (hj : (js.all fun j => decide (j < X.N.length)) = true := by rfl)
    (hf : X.fn x = true ∨ X.env.scope.names.lookup x = some .local := by first | exact .inl rfl | exact .inr rfl | assumption)
    (hs : ∀ x, foldedSetIterable iter X.env x = pure x := by intro _; rfl) : PS X (.Assign [.Name x pos'] (.ListComp elt [⟨tg, iter, ifs, 0⟩] scope pos) spos) (tAsg (tComp own.length js wi g tc te) (gName i)) := by
  subst ho
  subst hcp
  intro pins s σ H D0 I h
  have hfr : ∀ y ∈ scope.names, y.2 = .free → ∃ c, X.env.cells.lookup y.1 = some c := fun y hy e => I.ok.has y.1 (S.fr y hy e)
  have h' : tComp own.length js wi g tc te σ H (fun v H1 => D0.nx (σ.set i (some v)) H1) := h
  unfold exec
  refine wpAny_bind (wpAny_standAt (wpAny_bind (wpAny_of_eq (show swapsWithSole _ _ _ _ = _ from hsw) ?_)))
  simp only [if_true]
  unfold evalThenUse
  refine wpAny_bind (wpAny_bind ?_)
  refine wpAny_comprehension_free (use := some _) (Q := fun _ s' => wpAny _ _ (pure PUnit.unit) (fun _ s'' => wpAny _ _ (pure Flow.next) (SP X pins D0) X.xe s'') X.xe s') rfl hs (closureFor_eq hfr) S.kind S.loc ?_
  refine comp_core hc S (js_ok hj) hi hg ht he I h' (RR := fun acc C => compPost (model X.prog X.w) X.A X.xe (some _) _ acc C) ?_
  intro D C s' m H' hn hfree h1 h2 h3 h4 h5 hI hq
  have I' : Inv X pins σ H' s' := hI s'.heap (.refl ..)
  obtain ⟨o, es, ep, ho, hod, r⟩ := id hn
  show wpAny _ _ (assign (.Name x pos') X.env (.ref D)) _ _ s'
  refine wpAny_assign_Name (store_ok2 I' hN hxi hx (v := .ref D) rfl (fun s2 I2 ⟨a, hsa, ha⟩ => ?_) hf)
  have hCa : C ≠ a := by
    rcases ha with z | z
    · rw [z]; exact h1
    · exact (h3 x a z).symm
  refine ⟨m, hn.sameBut hsa hCa, fun h'' hs'' => wpAny_pure (wpAny_pure ?_)⟩
  refine ⟨_, H', ?_, hq⟩
  -- what is left: the block's frame changes once more
  exact I2.turned (t' := s2.toks) (it := C) (fun b o hb e => (hs''.2 b hb).trans e) hfree (Ne.symm h1 |>.symm) (.inr h4) h3 h5
end
end L2
/-! Data and its equality, any and all, isinstance, slices of tuples, own defs in short. -/
namespace L2
open PySem PySem.Spec PyProof.Rows

/-! ### data -/
mutual
inductive Has (K : PySem.W.Frag) (H : Hp) : V → PyData → Prop
  | non : Has K H .non .none
  | bl (b : Bool) : Has K H (.bl b) (.bool b)
  | int (i : Int) : Has K H (.int i) (.int i)
  | str (x : Str) : Has K H (.str x) (.str x)
  | lst {a : Addr} {xs : List V} {ds : List PyData} : SqL K H a xs → HasAll K H xs ds → Has K H (.ref a) (.list ds)
  | tup {a : Addr} {xs : List V} {ds : List PyData} : SqT K H a xs → HasAll K H xs ds → Has K H (.ref a) (.tuple ds)
inductive HasAll (K : PySem.W.Frag) (H : Hp) : List V → List PyData → Prop
  | nil : HasAll K H [] []
  | cons {x : V} {xs : List V} {d : PyData} {ds : List PyData} : Has K H x d → HasAll K H xs ds → HasAll K H (x :: xs) (d :: ds)
end

section
variable {X : Cx} {pins : List (Addr × Obj)} {σ : St} {H : Hp} {s : Shared}
mutual
theorem Has.reads (I : Inv X pins σ H s) : ∀ {x : V} {d : PyData} {u : Value}, Has X.K H x d → RelV x u → ∃ as, Reads s.heap u d as
  | _, _, _, .non, r => by cases r; exact ⟨_, .none⟩
  | _, _, _, .bl b, r => by cases r; exact ⟨_, .bool b⟩
  | _, _, _, .int i, r => by obtain ⟨t, rfl⟩ := r; exact ⟨_, .int i t⟩
  | _, _, _, .str x, r => by obtain ⟨t, rfl⟩ := r; exact ⟨_, .str x t⟩
  | _, _, _, .lst h hs, r => by
    cases r
    obtain ⟨its, rv, ⟨o, n, ho, hc, hd, hs'⟩, hz⟩ := I.list h
    obtain ⟨as, ra⟩ := HasAll.reads I hs rv
    exact ⟨_, .list ho hc hs' ra⟩
  | _, _, _, .tup h hs, r => by
    cases r
    obtain ⟨its, rv, ⟨o, ho, hc, n, hs'⟩, hz⟩ := I.tuple h
    obtain ⟨as, ra⟩ := HasAll.reads I hs rv
    exact ⟨_, .tuple ho hc hs' ra⟩
theorem HasAll.reads (I : Inv X pins σ H s) : ∀ {xs : List V} {ds : List PyData} {us : List Value}, HasAll X.K H xs ds → Vals xs us → ∃ as, ReadsAll s.heap us ds as
  | _, _, _, .nil, r => by cases r; exact ⟨_, .nil⟩
  | _, _, _, .cons h hs, .cons r rs => by
    obtain ⟨as, ra⟩ := Has.reads I h r
    obtain ⟨bs, rb⟩ := HasAll.reads I hs rs
    exact ⟨_, .cons ra rb⟩
end
end

def rEqD (K : PySem.W.Frag) : R2 := fun x y H Q => ∃ d e, Has K H x d ∧ Has K H y e ∧ SeqAt.shaped d = true ∧ SeqAt.shaped e = true ∧ Q (.bl (PyData.eqv d e)) H
section
variable {X : Cx}
theorem op_eqD (hu : X.A.units + 64 < cLine) : OpR X (compareOp .Eq) (rEqD X.K) := by
  intro pins s σ H x y v u Q I rx ry h
  obtain ⟨d, e, hd, he, sd, se, q⟩ := h
  obtain ⟨as, ra⟩ := hd.reads I rx
  obtain ⟨bs, rb⟩ := he.reads I ry
  exact SeqAt.compareEq_reads ra rb (SeqAt.canLay_of_shaped sd) (SeqAt.canLay_of_shaped se) (SeqAt.room_of_shaped sd hu) ⟨.bl _, H, I, rfl, q⟩
/-! ### any, all of a list of truths -/
/-! ### isinstance -/
def clsV : V → Value
  | .ty n => .type n
  | .ref a => .ref a
  | _ => .none
theorem call_isinst : CallR X (.builtin "isinstance") (fun xs H Q => ∃ x c t b, xs = [x, c] ∧ (∃ n, c = .ty n) ∧ TyOf X.K H x t ∧ PySem.W.kitOne X.K t (clsV c) = some b ∧ Q (.bl b) H) := by
  intro pins s σ H xs us Q I r h
  obtain ⟨x, c, t, b, rfl, ⟨n, rfl⟩, ty, e, q⟩ := h
  obtain ⟨u, w', rfl, rx, rc⟩ := vals2 r
  cases rc
  exact isinst_ok I rx ty e fun tk => ⟨.bl b, H, I.tok _, rfl, q⟩
end
end L2

/-! ### a def of the text, and its promise, in short -/
namespace L2
open PySem PySem.Spec PyProof.Rows
/-- the def x stands at the top as st -/
def Def (K : PySem.W.Frag) (mg : Str → Option Value) (x : Str) (st : Stmt) : Prop := ∃ f fd, mg x = some (.ref f) ∧ Fun K x x st f fd
/-- the def x keeps the promise sp -/
def Own (P : Program) (w : World) (K : PySem.W.Frag) (mg : Str → Option Value) (base : Heap) (k : Nat) (x : Str) (ps : List Str) (sp : Sp) : Prop :=
  ∃ f fd, mg x = some (.ref f) ∧ PySem.W.keepIn K (.ref f) = true ∧ Binds K fd ps [] ∧ FnOk P w K mg base CX0 k f fd ps sp
theorem Def.own {P : Program} {w : World} {K : PySem.W.Frag} {mg : Str → Option Value} {base : Heap} {x : Str} {st : Stmt} {N ps : List Str} {k : Nat} {sp : Sp} (D : Def K mg x st) (S : FnScope N ps (defScope st))
    (hb : ∀ (kV doc pm : Value) (an : Option Addr) (cdv ct : Value) (us : List Value), us.length = ps.length → bindArgs (PySem.W.fnOf x x (defArgs st) (defBody st) (defScope st) .none kV doc pm an cdv ct) ⟨us, []⟩ = pure (ps.zip us))
    (len : ∀ vs H Q E, sp vs H Q E → vs.length = ps.length)
    (hbody : ∀ (f : Addr) (cdv : Value) (A : Around) (outer : List Env) (s : Shared) (H : Hp) (vs : List V) (Q : VK) (E : XK), Room k (A.deeper (envOfC x (defScope st) s.heap.objs.size f cdv)) → sp vs H Q E →
      ∃ t, PSs (cxOf CX0 P w K mg base N x (defScope st) f cdv A outer s H E).nox (defBody st) t ∧ t { nx := fun _ H' => Q .non H', rt := Q } (start N vs) H) : Own P w K mg base (k + 1) x ps sp := by
  obtain ⟨f, fd, hm, F⟩ := D
  exact ⟨f, fd, hm, F.kp, F.binds hb, F.ok S len (hbody f)⟩
theorem def_mk {K : PySem.W.Frag} {h : Heap} {mg : Str → Option Value} (X : K.In h) (G : h.Ns mainGlobals mg) {x : Str} {st : Stmt} {f : Addr} {oc : Value} {od an : Option Addr} {osl : Array (Option Value)} {kV doc pm cdv ct : Value}
    (a : PySem.W.nsIn K mainGlobals x = some (some (.ref f)))
    (l : K.lookup f = some ⟨oc, od, .func (PySem.W.fnOf x x (defArgs st) (defBody st) (defScope st) .none kV doc pm an cdv ct), osl⟩) (c : PySem.W.codeIn K cdv x = true) (k : PySem.W.keepIn K (.ref f) = true) : Def K mg x st :=
  ⟨f, _, PySem.W.mg_of X G a, fun_mk l c k⟩
section
variable {X : Cx} {j k : Nat} {x : Str} {ps : List Str} {sp : Sp} {p pos : Pos} {e : Expr} {es : List Expr} {t : TA}
theorem pe_fn (F : Own X.prog X.w X.K X.mg X.base j x ps sp) (hr : Room k X.A) (ha : PA X (e :: es) t) (hk : j ≤ k := by decide) (hg : Gl X x := by rfl)
    (hdb : (x == ("__debug__" : Str)) = false := by decide) (he : starEach (e :: es) X.env = (false, eval e X.env) :: starEach es X.env := by rfl) (hpl : (backTo pos (starEach es X.env)).any (·.1) = false := by rfl) :
    PE X (.Call (.Name x p) (e :: es) [] pos) (tCall sp [] E0 t) := by
  obtain ⟨f, fd, hm, kp, hb, F⟩ := F
  exact pe_call F (hr.mono hk) hg hm kp hb .nil pass0 ha hdb he hpl
end
/-- the names of built-ins that no def of the text takes -/
def Blt (mg : Str → Option Value) : Prop := ∀ x : Str, x ∈ (["len", "any", "all", "max", "min", "isinstance", "list", "tuple", "int", "bool", "str", "dict", "range"] : List Str) → mg x = none
theorem blt_mk {K : PySem.W.Frag} {h : Heap} {mg : Str → Option Value} (X : K.In h) (G : h.Ns mainGlobals mg) (z0 : PySem.W.nsIn K mainGlobals "len" = some none) (z1 : PySem.W.nsIn K mainGlobals "any" = some none) (z2 : PySem.W.nsIn K mainGlobals "all" = some none) (z3 : PySem.W.nsIn K mainGlobals "max" = some none) (z4 : PySem.W.nsIn K mainGlobals "min" = some none) (z5 : PySem.W.nsIn K mainGlobals "isinstance" = some none) (z6 : PySem.W.nsIn K mainGlobals "list" = some none) (z7 : PySem.W.nsIn K mainGlobals "tuple" = some none) (z8 : PySem.W.nsIn K mainGlobals "int" = some none) (z9 : PySem.W.nsIn K mainGlobals "bool" = some none) (z10 : PySem.W.nsIn K mainGlobals "str" = some none) (z11 : PySem.W.nsIn K mainGlobals "dict" = some none) (z12 : PySem.W.nsIn K mainGlobals "range" = some none) : Blt mg := by
  intro x hx
  simp only [List.mem_cons, List.not_mem_nil, or_false] at hx
  rcases hx with rfl | rfl | rfl | rfl | rfl | rfl | rfl | rfl | rfl | rfl | rfl | rfl | rfl
  · exact PySem.W.mg_none_of X G z0
  · exact PySem.W.mg_none_of X G z1
  · exact PySem.W.mg_none_of X G z2
  · exact PySem.W.mg_none_of X G z3
  · exact PySem.W.mg_none_of X G z4
  · exact PySem.W.mg_none_of X G z5
  · exact PySem.W.mg_none_of X G z6
  · exact PySem.W.mg_none_of X G z7
  · exact PySem.W.mg_none_of X G z8
  · exact PySem.W.mg_none_of X G z9
  · exact PySem.W.mg_none_of X G z10
  · exact PySem.W.mg_none_of X G z11
  · exact PySem.W.mg_none_of X G z12
theorem bt_len : bootBuiltins "len" = some (.builtin "len") := by decide +kernel
theorem bt_max : bootBuiltins "max" = some (.builtin "max") := by decide +kernel
theorem bt_isinstance : bootBuiltins "isinstance" = some (.builtin "isinstance") := by decide +kernel
theorem bt_list : bootBuiltins "list" = some (.type "list") := by decide +kernel
theorem bt_tuple : bootBuiltins "tuple" = some (.type "tuple") := by decide +kernel
theorem bt_dict : bootBuiltins "dict" = some (.type "dict") := by decide +kernel
theorem bt_range : bootBuiltins "range" = some (.type "range") := by decide +kernel
end L2

namespace HT
open PySem PySem.Spec PyProof.Rows
section
variable {prog : Program} {w : World} {A : Around} {E : Value → Shared → Prop} {s : Shared}
end
end HT

namespace L2
open PySem PySem.Spec PyProof.Rows
section
variable {X : Cx}
end
end L2
/-! The rules that read through the fragment, with the fragment named: so that a block's terms do not hang on the block's context. -/
namespace L2
open PySem PySem.Spec PyProof.Rows
section
variable {X : Cx} (K : PySem.W.Frag)
theorem ix_listK (h : X.K = K := by rfl) : IxR X (rIxL K) := by subst h; exact ix_list
theorem ix_tupK (h : X.K = K := by rfl) : IxR X (rIxT K) := by subst h; exact ix_tup
theorem sl_listK (h : X.K = K := by rfl) : SlR X (rSlL K) := by subst h; exact sl_list
def rLen (K : PySem.W.Frag) : List V → Hp → VK → Prop := fun xs H Q => ∃ p ys, xs = [.ref p] ∧ (SqL K H p ys ∨ SqT K H p ys) ∧ Q (.int ys.length) H
theorem call_lenK (h : X.K = K := by rfl) : CallR X (.builtin "len") (rLen K) := by subst h; exact call_len_seq
def rListOf (K : PySem.W.Frag) : List V → Hp → VK → Prop := fun xs H Q => ∃ p ys, xs = [.ref p] ∧ (SqL K H p ys ∨ SqT K H p ys) ∧ ∀ l, H l = none → Q (.ref l) (upd H l (.lst ys))
def rTupOf (K : PySem.W.Frag) : List V → Hp → VK → Prop := fun xs H Q => ∃ p ys, xs = [.ref p] ∧ ((SqL K H p ys ∧ ∀ l, H l = none → Q (.ref l) (upd H l (.tup ys))) ∨ (SqT K H p ys ∧ Q (.ref p) H))
theorem call_tupleK (h : X.K = K := by rfl) : CallR X (.type "tuple") (rTupOf K) := by subst h; exact call_tuple_of
def rAny (K : PySem.W.Frag) : List V → Hp → VK → Prop := fun xs H Q => ∃ (p : Addr) (bs : List Bool), xs = [.ref p] ∧ SqL K H p (bs.map V.bl) ∧ Q (.bl (bs.any id)) H
def rAll (K : PySem.W.Frag) : List V → Hp → VK → Prop := fun xs H Q => ∃ (p : Addr) (bs : List Bool), xs = [.ref p] ∧ SqL K H p (bs.map V.bl) ∧ Q (.bl (bs.all id)) H
def rIsI (K : PySem.W.Frag) : List V → Hp → VK → Prop := fun xs H Q => ∃ x c t b, xs = [x, c] ∧ (∃ n, c = .ty n) ∧ TyOf K H x t ∧ PySem.W.kitOne K t (clsV c) = some b ∧ Q (.bl b) H
theorem call_isiK (h : X.K = K := by rfl) : CallR X (.builtin "isinstance") (rIsI K) := by subst h; exact call_isinst
theorem pi_listK {tg l : Expr} {tl : TE} (hl : PE X l tl) (h : X.K = K := by rfl) : PI X tg l (iList K tl) := by subst h; exact pi_list hl
theorem pi_tupK {tg l : Expr} {tl : TE} (hl : PE X l tl) (h : X.K = K := by rfl) : PI X tg l (iTup K tl) := by subst h; exact pi_tup hl
def tTru (K : PySem.W.Frag) (ta : TE) : TT := fun σ H Q => ta σ H fun x H' => ∃ k, TruV K x H' k ∧ Q k H'
theorem pt_truK {a : Expr} {ta : TE} (ha : PE X a ta) (he : ∀ whole, isTrue a X.env whole = (do let v ← whole; standAt a.pos; holding [v] (truthy v)) := by intro _; rfl) (h : X.K = K := by rfl) : PT X a (tTru K ta) := by
  subst h; exact pt_truth ha he
theorem pg_tupK {es : List Expr} {k : Nat} {t : TGs} {n : Nat} {pos : Pos} (hc : X.calm = true) (hg : PGs X es t)
    (hn : (assignEach es X.env).length = n := by rfl) (hst : (assignEach es X.env).findIdx? (·.1) = none := by rfl) (h : X.K = K := by rfl) : PG X (.Tuple es k pos) (gTup K n t) := by
  subst h; exact pg_tup hc hg hn hst
theorem pe_fldK {e : Expr} {ta : TE} {f : Str} {pos : Pos} (he : PE X e ta) (hb : attributeBase e f X.env (eval e X.env) = eval e X.env := by rfl) (h : X.K = K := by rfl) : PE X (.Attribute e f pos) (tFld K ta f) := by subst h; exact pe_fld he hb
end
end L2
/-! The forms of a comprehension that one uses. -/
namespace L2
open PySem PySem.Spec PyProof.Rows

/-- what tComp asks of an iterator -/
def CompW (n : Nat) (js : List Nat) (g : TG) (tc : TT) (te : TE) (σ : St) (Q : VK) (J : It) (H1 : Hp) : Prop :=
  ∀ D, H1 D = none → ∃ W : Nat → Nat → List V → Hp → Prop, (∃ m, W 0 m [] (upd H1 D (.lst []))) ∧ ∀ i m acc H, W i m acc H →
    H D = some (.lst acc) ∧ ((J.stop i H ∧ Q (.ref D) H) ∨ (J.go i H ∧ acc.length < sizeLine ∧ ∃ Nx : List V → Hp → Prop, (∀ acc' H', Nx acc' H' → ∃ m', m' < m ∧ W (i + 1) m' acc' H') ∧
      ∀ x H', J.yld i H x H' → g x (cSt n js σ) H' fun σ2 H2 => σ2.drop n = (cSt n js σ).drop n ∧ tc σ2 H2 fun b H3 => if b = true then te σ2 H3 fun v H4 => H4 D = some (.lst acc) ∧ Nx (acc ++ [v]) (upd H4 D (.lst (acc ++ [v]))) else H3 D = some (.lst acc) ∧ Nx acc H3))
section
variable {n : Nat} {js : List Nat} {g : TG} {tc : TT} {te : TE} {σ : St} {Q : VK} {H1 : Hp}
/-- over a list that stays -/
theorem comp_list {K : PySem.W.Frag} {a : Addr} {xs : List V} (hz : xs.length ≤ sizeLine) (Pv : Addr → Nat → List V → Hp → Prop) (h0 : ∀ D, H1 D = none → Pv D 0 [] (upd H1 D (.lst [])))
    (hl : ∀ D i acc H, H1 D = none → i ≤ xs.length → Pv D i acc H → H D = some (.lst acc) ∧ SqL K H a xs ∧ acc.length ≤ i)
    (hs : ∀ D i x acc H, H1 D = none → xs[i]? = some x → Pv D i acc H → g x (cSt n js σ) H fun σ2 H2 => σ2.drop n = (cSt n js σ).drop n ∧ tc σ2 H2 fun b H3 => if b = true then te σ2 H3 fun v H4 => H4 D = some (.lst acc) ∧ Pv D (i + 1) (acc ++ [v]) (upd H4 D (.lst (acc ++ [v]))) else H3 D = some (.lst acc) ∧ Pv D (i + 1) acc H3)
    (hd : ∀ D acc H, H1 D = none → Pv D xs.length acc H → Q (.ref D) H) : CompW n js g tc te σ Q (Itl K a) H1 := by
  intro D hD
  refine ⟨fun i m acc H => m = xs.length - i ∧ i ≤ xs.length ∧ Pv D i acc H, ⟨xs.length, by simp, Nat.zero_le _, h0 D hD⟩, ?_⟩
  rintro i m acc H ⟨rfl, hi, p⟩
  obtain ⟨e1, q, e3⟩ := hl D i acc H hD hi p
  refine ⟨e1, ?_⟩
  by_cases hlt : i < xs.length
  · refine .inr ⟨⟨xs, xs[i], q, by simp [hlt]⟩, by omega, Pv D (i + 1), fun acc' H' p' => ⟨xs.length - (i + 1), by omega, rfl, hlt, p'⟩, fun x H' y => ?_⟩
    obtain ⟨e, y⟩ := y
    subst e
    exact hs D i x acc _ hD (y xs q) p
  · have e : i = xs.length := by omega
    subst e
    exact .inl ⟨⟨xs, q, Nat.le_refl _⟩, hd D acc H hD p⟩
/-- over a range -/
theorem comp_range {lo : Int} {m : Nat} (hz : m ≤ sizeLine) (Pv : Addr → Nat → List V → Hp → Prop) (h0 : ∀ D, H1 D = none → Pv D 0 [] (upd H1 D (.lst [])))
    (hl : ∀ D i acc H, H1 D = none → i ≤ m → Pv D i acc H → H D = some (.lst acc) ∧ acc.length ≤ i)
    (hs : ∀ D i acc H, H1 D = none → i < m → Pv D i acc H → g (.int (lo + i)) (cSt n js σ) H fun σ2 H2 => σ2.drop n = (cSt n js σ).drop n ∧ tc σ2 H2 fun b H3 => if b = true then te σ2 H3 fun v H4 => H4 D = some (.lst acc) ∧ Pv D (i + 1) (acc ++ [v]) (upd H4 D (.lst (acc ++ [v]))) else H3 D = some (.lst acc) ∧ Pv D (i + 1) acc H3)
    (hd : ∀ D acc H, H1 D = none → Pv D m acc H → Q (.ref D) H) : CompW n js g tc te σ Q (Itr lo m) H1 := by
  intro D hD
  refine ⟨fun i k acc H => k = m - i ∧ i ≤ m ∧ Pv D i acc H, ⟨m, by simp, Nat.zero_le _, h0 D hD⟩, ?_⟩
  rintro i k acc H ⟨rfl, hi, p⟩
  obtain ⟨e1, e3⟩ := hl D i acc H hD hi p
  refine ⟨e1, ?_⟩
  by_cases hlt : i < m
  · refine .inr ⟨hlt, by omega, Pv D (i + 1), fun acc' H' p' => ⟨m - (i + 1), by omega, rfl, hlt, p'⟩, fun x H' y => ?_⟩
    obtain ⟨e, y⟩ := y
    subst e y
    exact hs D i acc _ hD hlt p
  · have e : i = m := by omega
    subst e
    exact .inl ⟨Nat.le_refl _, hd D acc H hD p⟩

theorem Same.upd_new {H : Hp} {a : Addr} {o : HO} (h : H a = none) : Same H (upd H a o) := fun b u e => by
  rw [upd_ne (ne_of_none e h)]
  exact e
theorem Same.upd {H0 H : Hp} {a : Addr} {o : HO} (e : Same H0 H) (h : H0 a = none) : Same H0 (upd H a o) := fun b u q => by
  rw [upd_ne (ne_of_none q h)]
  exact e b u q
end

/-! ### readings in short, for simp -/
theorem cxOf_K {CX : CXT} {P : Program} {w : World} {K : PySem.W.Frag} {mg : Str → Option Value} {base : Heap} {N : List Str} {qual : Str} {scope : Scope} {f : Addr} {cd : Value} {A : Around} {outer : List Env} {s : Shared} {H : Hp} {E : XK} :
    (cxOf CX P w K mg base N qual scope f cd A outer s H E).K = K := rfl
theorem cxC_K {X : Cx} {scope : Scope} {N' : List Str} {C : Addr} {fp : List Addr} {s : Shared} {H : Hp} : (cxC X scope N' C fp s H).K = X.K := rfl
theorem upd_none {H : Hp} {p a : Addr} {o : HO} (h : upd H p o a = none) : a ≠ p ∧ H a = none := by
  unfold upd at h
  split at h
  · cases h
  · rename_i z; exact ⟨z, h⟩
section
variable {H : Hp} {Q : VK} {i j : Int} {b c : Bool} {x y : Str}
theorem rEq_ii : rEq (.int i) (.int j) H Q = Q (.bl (decide (i = j))) H := by simp [rEq, scal]
theorem rNe_ii : rNe (.int i) (.int j) H Q = Q (.bl (!decide (i = j))) H := by simp [rNe, scal]
theorem rEq_bb : rEq (.bl b) (.bl c) H Q = Q (.bl (decide (b = c))) H := by simp [rEq, scal]
theorem rNe_bb : rNe (.bl b) (.bl c) H Q = Q (.bl (!decide (b = c))) H := by simp [rNe, scal]
theorem cmul_mod {a m b : Int} (h0 : 0 < m) (h1 : m ≤ 2147483648) : CMul (a % m) b := by
  have h2 := Int.emod_nonneg a (show m ≠ 0 by omega)
  have h3 := Int.emod_lt_of_pos a h0
  exact .inl ⟨by omega, by omega⟩
theorem atI_in {α : Type} {xs : List α} {k : Int} (h0 : 0 ≤ k) (h1 : k < xs.length) : ∃ v, v ∈ xs ∧ atI xs k = some v := by
  obtain ⟨n, rfl⟩ := Int.eq_ofNat_of_zero_le h0
  have hn : n < xs.length := by omega
  exact ⟨xs[n], List.getElem_mem hn, atI_nat (List.getElem?_eq_getElem hn)⟩
end
theorem truV_bl {K : PySem.W.Frag} {H : Hp} {b k : Bool} : TruV K (.bl b) H k = (k = b) := rfl
theorem clsV_ty {n : String} : clsV (.ty n) = .type n := rfl
/-- what tFor asks of an iterator -/
def ForW (g : TG) (tb : TS) (D : Ends) (σ : St) (J : It) (H1 : Hp) : Prop := ∃ W : Nat → Nat → St → Hp → Prop, (∃ m, W 0 m σ H1) ∧ ∀ i m σ H, W i m σ H →
  (J.stop i H ∧ D.nx σ H) ∨ (J.go i H ∧ ∃ N : St → Hp → Prop, (∀ σ' H', N σ' H' → ∃ m', m' < m ∧ W (i + 1) m' σ' H') ∧ ∀ x H', J.yld i H x H' → g x σ H' fun σ2 H2 => tb { D with nx := N, ct := N, bk := D.nx } σ2 H2)
theorem tFor_eq {wi : TI} {g : TG} {tb : TS} {D : Ends} {σ : St} {H : Hp} : tFor wi g tb D σ H = wi σ H fun J H1 => ForW g tb D σ J H1 := rfl
theorem tComp_eq {n : Nat} {js : List Nat} {wi : TI} {g : TG} {tc : TT} {te : TE} {σ : St} {H : Hp} {Q : VK} : tComp n js wi g tc te σ H Q = wi σ H fun J H1 => CompW n js g tc te σ Q J H1 := rfl
/-- what was just made -/
theorem new_same {H H' : Hp} {p : Addr} {o : HO} (h : upd H p o = H') (hp : H p = none) : Same H H' ∧ H' p = some o := by
  subst h
  exact ⟨Same.upd_new hp, upd_same⟩
end L2
/-! Lists of tuples of ints on the abstract heap. -/
namespace L2
open PySem PySem.Spec PyProof.Rows
def TupI (H : Hp) (x : V) (d : List Int) : Prop := ∃ t, x = .ref t ∧ H t = some (.tup (d.map V.int))
abbrev DeedsX (H : Hp) (xs : List V) (ds : List (List Int)) : Prop := Paired (TupI H) xs ds
def DeedsAt (H : Hp) (a : Addr) (ds : List (List Int)) : Prop := ∃ xs, H a = some (.lst xs) ∧ DeedsX H xs ds
def dD (d : List Int) : PyData := .tuple (d.map PyData.int)
section
variable {H H' : Hp} {x : V} {d : List Int} {xs ys : List V} {ds es : List (List Int)} {a : Addr} {o : HO}
theorem TupI.same (e : Same H H') (h : TupI H x d) : TupI H' x d := let ⟨t, p, q⟩ := h; ⟨t, p, e _ _ q⟩
theorem TupI.upd (h : TupI H x d) (ha : ∀ zs, H a ≠ some (.tup zs)) : TupI (upd H a o) x d := by
  obtain ⟨t, p, q⟩ := h
  refine ⟨t, p, ?_⟩
  rw [upd_ne]
  · exact q
  · rintro rfl; exact ha _ q
theorem DeedsX.same (e : Same H H') (h : DeedsX H xs ds) : DeedsX H' xs ds := Paired.mapP h fun _ _ z => z.same e
theorem DeedsX.upd (h : DeedsX H xs ds) (ha : ∀ zs, H a ≠ some (.tup zs)) : DeedsX (upd H a o) xs ds := Paired.mapP h fun _ _ z => z.upd ha
theorem DeedsX.len (h : DeedsX H xs ds) : xs.length = ds.length := Paired.length h
theorem paired_append {α β : Type} {F : α → β → Prop} : ∀ {l1 m1 : List α} {l2 m2 : List β}, Paired F l1 l2 → Paired F m1 m2 → Paired F (l1 ++ m1) (l2 ++ m2)
  | _, _, _, _, .nil, s => s
  | _, _, _, _, .cons r t, s => .cons r (paired_append t s)
theorem paired_get {α β : Type} {F : α → β → Prop} : ∀ {l1 : List α} {l2 : List β} {i : Nat} {x : α}, Paired F l1 l2 → l1[i]? = some x → ∃ y, l2[i]? = some y ∧ F x y
  | _, _, _, _, .nil, e => by simp at e
  | _, _, 0, _, .cons r _, e => by simp at e; subst e; exact ⟨_, rfl, r⟩
  | _, _, i + 1, x, .cons _ t, e => by
    obtain ⟨u, h1, h2⟩ := paired_get (i := i) (x := x) t (by simpa using e)
    exact ⟨u, by simpa using h1, h2⟩
theorem DeedsAt.same (e : Same H H') (h : DeedsAt H a ds) : DeedsAt H' a ds := let ⟨xs, p, q⟩ := h; ⟨xs, e _ _ p, q.same e⟩
theorem hasAll_ints {K : PySem.W.Frag} : ∀ d : List Int, HasAll K H (d.map V.int) (d.map PyData.int)
  | [] => .nil
  | i :: d => .cons (.int i) (hasAll_ints d)
theorem TupI.has {K : PySem.W.Frag} (h : TupI H x d) : Has K H x (dD d) := by
  obtain ⟨t, rfl, e⟩ := h
  exact .tup (SqT.of e) (hasAll_ints d)
theorem DeedsX.has {K : PySem.W.Frag} : ∀ {xs : List V} {ds : List (List Int)}, DeedsX H xs ds → HasAll K H xs (ds.map dD)
  | _, _, .nil => .nil
  | _, _, .cons r t => .cons r.has (DeedsX.has t)
theorem DeedsAt.has {K : PySem.W.Frag} (h : DeedsAt H a ds) : Has K H (.ref a) (.list (ds.map dD)) := let ⟨_, p, q⟩ := h; .lst (SqL.of p) q.has
/-! equality of such data -/
/-! cuts -/
theorem cutV_map (d : List Int) (lo hi : Option Int) : ∃ e : List Int, cutV (d.map V.int) lo hi = e.map V.int := by
  unfold cutV
  exact ⟨(d.drop (HT.sIx (d.map V.int).length 0 lo)).take (HT.sIx (d.map V.int).length (d.map V.int).length hi - HT.sIx (d.map V.int).length 0 lo), by rw [List.map_take, List.map_drop]⟩
end
end L2
/-! Own classes in short; dicts with written keys; is with a truth. -/
namespace L2
open PySem PySem.Spec PyProof.Rows
/-- the method m of the class at C stands as st -/
def DefM (K : PySem.W.Frag) (C : Addr) (m qual : Str) (st : Stmt) : Prop := ∃ f fd, Meth K C m f ∧ Fun K m qual st f fd
/-- the class's __init__ stands as st, and the class can be made -/
def DefI (K : PySem.W.Frag) (C : Addr) (qual : Str) (st : Stmt) : Prop := ∃ f fd, Mk K C f ∧ Fun K "__init__" qual st f fd
def OwnM (P : Program) (w : World) (K : PySem.W.Frag) (mg : Str → Option Value) (base : Heap) (k : Nat) (C : Addr) (m : Str) (ps : List Str) (sp : Sp) : Prop :=
  ∃ f fd, Meth K C m f ∧ Binds K fd ps [] ∧ FnOk P w K mg base CX0 k f fd ps sp
def OwnI (P : Program) (w : World) (K : PySem.W.Frag) (mg : Str → Option Value) (base : Heap) (k : Nat) (C : Addr) (ps : List Str) (sp : Sp) : Prop :=
  ∃ f fd, Mk K C f ∧ Binds K fd ps [] ∧ FnOk P w K mg base CX0 k f fd ps sp
/-- the class x stands at C; none of it or above it has the names -/
structure ClsD (K : PySem.W.Frag) (mg : Str → Option Value) (x : Str) (C : Addr) (attrs : List Str) : Prop where
  mgC : mg x = some (.ref C)
  cl : Cls K C
  no : ∀ f ∈ attrs, NoAttr K C f
section
variable {P : Program} {w : World} {K : PySem.W.Frag} {mg : Str → Option Value} {base : Heap} {C : Addr} {m qual : Str} {st : Stmt} {N ps : List Str} {k : Nat} {sp : Sp}
theorem DefM.own (D : DefM K C m qual st) (S : FnScope N ps (defScope st))
    (hb : ∀ (kV doc pm : Value) (an : Option Addr) (cdv ct : Value) (us : List Value), us.length = ps.length → bindArgs (PySem.W.fnOf m qual (defArgs st) (defBody st) (defScope st) .none kV doc pm an cdv ct) ⟨us, []⟩ = pure (ps.zip us))
    (len : ∀ vs H Q E, sp vs H Q E → vs.length = ps.length)
    (hbody : ∀ (f : Addr) (cdv : Value) (A : Around) (outer : List Env) (s : Shared) (H : Hp) (vs : List V) (Q : VK) (E : XK), Room k (A.deeper (envOfC qual (defScope st) s.heap.objs.size f cdv)) → sp vs H Q E →
      ∃ t, PSs (cxOf CX0 P w K mg base N qual (defScope st) f cdv A outer s H E).nox (defBody st) t ∧ t { nx := fun _ H' => Q .non H', rt := Q } (start N vs) H) : OwnM P w K mg base (k + 1) C m ps sp := by
  obtain ⟨f, fd, hm, F⟩ := D
  exact ⟨f, fd, hm, F.binds hb, F.ok S len (hbody f)⟩
theorem DefI.own (D : DefI K C qual st) (S : FnScope N ps (defScope st))
    (hb : ∀ (kV doc pm : Value) (an : Option Addr) (cdv ct : Value) (us : List Value), us.length = ps.length → bindArgs (PySem.W.fnOf "__init__" qual (defArgs st) (defBody st) (defScope st) .none kV doc pm an cdv ct) ⟨us, []⟩ = pure (ps.zip us))
    (len : ∀ vs H Q E, sp vs H Q E → vs.length = ps.length)
    (hbody : ∀ (f : Addr) (cdv : Value) (A : Around) (outer : List Env) (s : Shared) (H : Hp) (vs : List V) (Q : VK) (E : XK), Room k (A.deeper (envOfC qual (defScope st) s.heap.objs.size f cdv)) → sp vs H Q E →
      ∃ t, PSs (cxOf CX0 P w K mg base N qual (defScope st) f cdv A outer s H E).nox (defBody st) t ∧ t { nx := fun _ H' => Q .non H', rt := Q } (start N vs) H) : OwnI P w K mg base (k + 1) C ps sp := by
  obtain ⟨f, fd, hm, F⟩ := D
  exact ⟨f, fd, hm, F.binds hb, F.ok S len (hbody f)⟩
theorem defM_mk {f : Addr} {oc : Value} {od an : Option Addr} {osl : Array (Option Value)} {kV doc pm cdv ct : Value} (a : PySem.W.findIn K (.ref C) m = some (some (.ref f))) (i : PySem.W.isFn K (.ref f) = true)
    (l : K.lookup f = some ⟨oc, od, .func (PySem.W.fnOf m qual (defArgs st) (defBody st) (defScope st) .none kV doc pm an cdv ct), osl⟩) (c : PySem.W.codeIn K cdv qual = true) (k : PySem.W.keepIn K (.ref f) = true) : DefM K C m qual st :=
  ⟨f, _, ⟨a, i, k⟩, fun_mk l c k⟩
theorem defI_mk {f : Addr} {oc : Value} {od an : Option Addr} {osl : Array (Option Value)} {kV doc pm cdv ct : Value} (a : PySem.W.findIn K (.ref C) "__init__" = some (some (.ref f))) (i : PySem.W.isFn K (.ref f) = true)
    (l : K.lookup f = some ⟨oc, od, .func (PySem.W.fnOf "__init__" qual (defArgs st) (defBody st) (defScope st) .none kV doc pm an cdv ct), osl⟩) (c : PySem.W.codeIn K cdv qual = true) (k : PySem.W.keepIn K (.ref f) = true)
    (mk : PySem.W.makesIn K C = true) (kc : PySem.W.keepIn K (.ref C) = true) : DefI K C qual st :=
  ⟨f, _, ⟨mk, a, i, kc⟩, fun_mk l c k⟩
end
section
variable {X : Cx} {j k : Nat} {C : Addr} {x m : Str} {ps : List Str} {sp : Sp} {p pos apos : Pos} {o e : Expr} {es : List Expr} {ta : TE} {t : TA}
theorem pe_mth {pl : Sem Bool} (M : OwnM X.prog X.w X.K X.mg X.base j C m ps sp) (c : Cls X.K C) (hr : Room k X.A) (he : PE X o ta) (ha : PA X (e :: es) t) (hk : j ≤ k := by decide)
    (hst : starEach (e :: es) X.env = (false, eval e X.env) :: starEach es X.env := by rfl) (hpl : (backTo pos (starEach es X.env)).any (·.1) = false := by rfl)
    (ht : eval (.Call (.Attribute o m apos) (e :: es) [] pos) X.env = (do
      let ov ← eval o X.env
      standAt apos.atName
      let (f, first) ← holding [ov] (getMethod ov m pl)
      callWith pos f first (backTo pos (starEach (e :: es) X.env)) (backToKw pos (keywordEach [] X.env))) := by rfl) :
    PE X (.Call (.Attribute o m apos) (e :: es) [] pos) (tMeth C m sp [] E0 ta t) := by
  obtain ⟨f, fd, hm, hb, F⟩ := M
  exact pe_meth (pl := pl) he c hm F (hr.mono hk) hb .nil pass0 ha hst hpl ht
theorem pe_mak (M : OwnI X.prog X.w X.K X.mg X.base j C ps sp) (hr : Room k X.A) (hm : X.mg x = some (.ref C)) (ha : PA X (e :: es) t) (hk : j + 1 ≤ k := by decide) (hg : Gl X x := by rfl)
    (hdb : (x == ("__debug__" : Str)) = false := by decide) (he : starEach (e :: es) X.env = (false, eval e X.env) :: starEach es X.env := by rfl) (hpl : (backTo pos (starEach es X.env)).any (·.1) = false := by rfl) :
    PE X (.Call (.Name x p) (e :: es) [] pos) (tMake C sp [] E0 t) := by
  obtain ⟨f, fd, hk', hb, F⟩ := M
  exact pe_make hk' F (hr.mono hk) hg hm hb .nil pass0 ha hdb he hpl
/-- x is True, x is False, of a truth -/
def rIsB : R2 := fun x y H Q => ∃ a b, x = .bl a ∧ y = .bl b ∧ Q (.bl (decide (a = b))) H
def rIsntB : R2 := fun x y H Q => ∃ a b, x = .bl a ∧ y = .bl b ∧ Q (.bl (!decide (a = b))) H
end
/-! dicts with written text keys -/
theorem DGet.s {H : Hp} {a : Addr} {kvs : List (Key × V)} {x : Str} {v : V} (e : H a = some (.dK kvs)) (h : valV kvs (Sum.inr x : Key) = some v) : DGet H a (.str x) (some v) := by
  have := DGet.k (k := Sum.inr x) e
  rw [h] at this
  exact this
theorem DPut.s {H : Hp} {a : Addr} {kvs : List (Key × V)} {x : Str} {v : V} {kvs' : List (Key × V)} (e : H a = some (.dK kvs)) (hl : kvs.length < sizeLine) (h : putK kvs (Sum.inr x : Key) v = kvs') : DPut H a (.str x) v (upd H a (.dK kvs')) := by
  subst h
  exact DPut.k (k := Sum.inr x) e hl
def tDGs (td : TE) (x : Str) : TE := fun σ H Q => td σ H fun d H1 => ∃ a kvs v, d = .ref a ∧ H1 a = some (.dK kvs) ∧ valV kvs (Sum.inr x : Key) = some v ∧ Q v H1
def sDPs (td tv : TE) (x : Str) : TS := fun D σ H => tv σ H fun v H1 => td σ H1 fun d H2 => ∃ a kvs, d = .ref a ∧ H2 a = some (.dK kvs) ∧ kvs.length < sizeLine ∧ D.nx σ (upd H2 a (.dK (putK kvs (Sum.inr x : Key) v)))
section
variable {X : Cx} {o value : Expr} {td tv : TE} {x : Str} {j : Nat} {pos pos' cpos : Pos}
end
/-- a block over a tuple -/
theorem comp_tup {n : Nat} {js : List Nat} {g : TG} {tc : TT} {te : TE} {σ : St} {Q : VK} {H1 : Hp} {K : PySem.W.Frag} {a : Addr} {xs : List V} (hz : xs.length ≤ sizeLine) (Pv : Addr → Nat → List V → Hp → Prop) (h0 : ∀ D, H1 D = none → Pv D 0 [] (upd H1 D (.lst [])))
    (hl : ∀ D i acc H, H1 D = none → i ≤ xs.length → Pv D i acc H → H D = some (.lst acc) ∧ SqT K H a xs ∧ acc.length ≤ i)
    (hs : ∀ D i x acc H, H1 D = none → xs[i]? = some x → Pv D i acc H → g x (cSt n js σ) H fun σ2 H2 => σ2.drop n = (cSt n js σ).drop n ∧ tc σ2 H2 fun b H3 => if b = true then te σ2 H3 fun v H4 => H4 D = some (.lst acc) ∧ Pv D (i + 1) (acc ++ [v]) (upd H4 D (.lst (acc ++ [v]))) else H3 D = some (.lst acc) ∧ Pv D (i + 1) acc H3)
    (hd : ∀ D acc H, H1 D = none → Pv D xs.length acc H → Q (.ref D) H) : CompW n js g tc te σ Q (Itt K a) H1 := by
  intro D hD
  refine ⟨fun i m acc H => m = xs.length - i ∧ i ≤ xs.length ∧ Pv D i acc H, ⟨xs.length, by simp, Nat.zero_le _, h0 D hD⟩, ?_⟩
  rintro i m acc H ⟨rfl, hi, p⟩
  obtain ⟨e1, q, e3⟩ := hl D i acc H hD hi p
  refine ⟨e1, ?_⟩
  by_cases hlt : i < xs.length
  · refine .inr ⟨⟨xs, xs[i], q, by simp [hlt]⟩, by omega, Pv D (i + 1), fun acc' H' p' => ⟨xs.length - (i + 1), by omega, rfl, hlt, p'⟩, fun x H' y => ?_⟩
    obtain ⟨e, y⟩ := y
    subst e
    exact hs D i x acc _ hD (y xs q) p
  · have e : i = xs.length := by omega
    subst e
    exact .inl ⟨⟨xs, q, Nat.le_refl _⟩, hd D acc H hD p⟩
end L2
namespace K04
/-! The mathematics of a list's fairness: over flags, true where a deed has no delay. -/
def stepF (p : Int × Int) (e : Bool) : Int × Int := let l := if e then p.2 + 1 else 0; (if l > p.1 then l else p.1, l)
def longF (c : List Bool) : Int := (c.foldl stepF (0, 0)).1

def Run (c : List Bool) (k : Nat) : Prop := ∃ i, i + k ≤ c.length ∧ ∀ j, j < k → c[i + j]? = some true
def Tail (c : List Bool) (k : Nat) : Prop := k ≤ c.length ∧ ∀ j, j < k → c[c.length - k + j]? = some true

theorem Run.zero (c : List Bool) : Run c 0 := ⟨0, by omega, fun j h => by omega⟩
theorem Tail.zero (c : List Bool) : Tail c 0 := ⟨by omega, fun j h => by omega⟩

theorem Tail.snoc_true {c : List Bool} {k : Nat} : Tail (c ++ [true]) (k + 1) ↔ Tail c k := by
  unfold Tail
  constructor
  · rintro ⟨h1, h2⟩
    simp at h1
    refine ⟨by omega, fun j hj => ?_⟩
    have := h2 j (by omega)
    have e : (c ++ [true]).length - (k + 1) + j = c.length - k + j := by simp
    rw [e, List.getElem?_append_left (by omega)] at this
    exact this
  · rintro ⟨h1, h2⟩
    refine ⟨by simp; omega, fun j hj => ?_⟩
    have e : (c ++ [true]).length - (k + 1) + j = c.length - k + j := by simp
    rw [e]
    by_cases hjk : j < k
    · rw [List.getElem?_append_left (by omega)]; exact h2 j hjk
    · have : c.length - k + j = c.length := by omega
      rw [this]; simp
theorem Tail.snoc_false {c : List Bool} {k : Nat} : Tail (c ++ [false]) k ↔ k = 0 := by
  constructor
  · rintro ⟨h1, h2⟩
    rcases Nat.eq_zero_or_pos k with h | h
    · exact h
    · have := h2 (k - 1) (by omega)
      have e : (c ++ [false]).length - k + (k - 1) = c.length := by simp at h1 ⊢; omega
      rw [e] at this
      simp at this
  · rintro rfl; exact Tail.zero _
theorem Run.snoc {c : List Bool} {e : Bool} {k : Nat} : Run (c ++ [e]) k ↔ Run c k ∨ Tail (c ++ [e]) k := by
  constructor
  · rintro ⟨i, h1, h2⟩
    simp at h1
    by_cases h : i + k = c.length + 1
    · refine .inr ⟨by simp; omega, fun j hj => ?_⟩
      have e2 : (c ++ [e]).length - k + j = i + j := by simp; omega
      rw [e2]; exact h2 j hj
    · refine .inl ⟨i, by omega, fun j hj => ?_⟩
      have := h2 j hj
      rw [List.getElem?_append_left (by omega)] at this
      exact this
  · rintro (⟨i, h1, h2⟩ | ⟨h1, h2⟩)
    · exact ⟨i, by simp; omega, fun j hj => by rw [List.getElem?_append_left (by omega)]; exact h2 j hj⟩
    · exact ⟨(c ++ [e]).length - k, by omega, h2⟩

theorem fold_spec (c : List Bool) : 0 ≤ (c.foldl stepF (0, 0)).1 ∧ 0 ≤ (c.foldl stepF (0, 0)).2 ∧ (∀ k : Nat, (k : Int) ≤ (c.foldl stepF (0, 0)).1 ↔ Run c k) ∧ (∀ k : Nat, (k : Int) ≤ (c.foldl stepF (0, 0)).2 ↔ Tail c k) := by
  suffices H : ∀ (r : List Bool), 0 ≤ (r.reverse.foldl stepF (0, 0)).1 ∧ 0 ≤ (r.reverse.foldl stepF (0, 0)).2 ∧ (∀ k : Nat, (k : Int) ≤ (r.reverse.foldl stepF (0, 0)).1 ↔ Run r.reverse k) ∧ (∀ k : Nat, (k : Int) ≤ (r.reverse.foldl stepF (0, 0)).2 ↔ Tail r.reverse k) by
    have := H c.reverse
    rwa [List.reverse_reverse] at this
  intro r
  induction r with
  | nil =>
    refine ⟨by simp, by simp, fun k => ?_, fun k => ?_⟩
    · simp only [List.reverse_nil, List.foldl_nil]
      constructor
      · intro h; have : k = 0 := by omega
        subst this; exact Run.zero _
      · rintro ⟨i, h, _⟩; simp at h; omega
    · simp only [List.reverse_nil, List.foldl_nil]
      constructor
      · intro h; have : k = 0 := by omega
        subst this; exact Tail.zero _
      · rintro ⟨h, _⟩; simp at h; omega
  | cons e r ih =>
    rw [List.reverse_cons, List.foldl_append, List.foldl_cons, List.foldl_nil]
    generalize hp : r.reverse.foldl stepF (0, 0) = p at ih
    obtain ⟨i1, i2, i3, i4⟩ := ih
    have tl : 0 ≤ (stepF p e).2 ∧ ∀ k : Nat, (k : Int) ≤ (stepF p e).2 ↔ Tail (r.reverse ++ [e]) k := by
      cases e with
      | true =>
        refine ⟨by simp [stepF]; omega, fun k => ?_⟩
        have e2 : (stepF p true).2 = p.2 + 1 := by simp [stepF]
        rw [e2]
        cases k with
        | zero => exact ⟨fun _ => Tail.zero _, fun _ => by simp; omega⟩
        | succ k => rw [Tail.snoc_true, ← i4]; omega
      | false =>
        refine ⟨by simp [stepF], fun k => ?_⟩
        have e2 : (stepF p false).2 = 0 := by simp [stepF]
        rw [e2, Tail.snoc_false]; omega
    have e1 : (stepF p e).1 = if (stepF p e).2 > p.1 then (stepF p e).2 else p.1 := rfl
    refine ⟨by rw [e1]; split <;> omega, tl.1, fun k => ?_, tl.2⟩
    rw [Run.snoc, ← i3, ← tl.2, e1]
    split <;> omega

theorem longF_run (c : List Bool) (k : Nat) : (k : Int) ≤ longF c ↔ Run c k := (fold_spec c).2.2.1 k
theorem longF_nonneg (c : List Bool) : 0 ≤ longF c := (fold_spec c).1

/-- of k places one after another, round and round, none has a delay -/
def Ring (b : List Bool) (k : Nat) : Prop := ∃ st, st < b.length ∧ ∀ j, j < k → b[(st + j) % b.length]? = some true

theorem Ring.lt {b : List Bool} {k : Nat} (hf : false ∈ b) (h : Ring b k) : k < b.length := by
  obtain ⟨st, hs, h⟩ := h
  rcases Nat.lt_or_ge k b.length with z | z
  · exact z
  · exfalso
    obtain ⟨i, hi, e⟩ := List.mem_iff_getElem.mp hf
    have q := h ((i + b.length - st) % b.length) (Nat.lt_of_lt_of_le (Nat.mod_lt _ (by omega)) z)
    have e2 : (st + (i + b.length - st) % b.length) % b.length = i := by
      rw [Nat.add_mod_mod]
      have : st + (i + b.length - st) = i + b.length := by omega
      rw [this, Nat.add_mod_right, Nat.mod_eq_of_lt hi]
    rw [e2, List.getElem?_eq_getElem hi, e] at q
    cases q

theorem twice_get (b : List Bool) {i : Nat} (h : i < b.length + b.length) : (b ++ b)[i]? = b[i % b.length]? := by
  by_cases hi : i < b.length
  · rw [List.getElem?_append_left hi, Nat.mod_eq_of_lt hi]
  · rw [List.getElem?_append_right (by omega)]
    congr 1
    have : i = b.length + (i - b.length) := by omega
    rw [this, Nat.add_mod_left, Nat.add_sub_cancel_left, Nat.mod_eq_of_lt (by omega)]

theorem ring_long {b : List Bool} (hf : false ∈ b) (k : Nat) : (k : Int) ≤ longF (b ++ b) ↔ Ring b k := by
  have hb : 0 < b.length := by cases b with
    | nil => cases hf
    | cons => simp
  rw [longF_run]
  constructor
  · rintro ⟨i, h1, h2⟩
    rw [List.length_append] at h1
    refine ⟨i % b.length, Nat.mod_lt _ hb, fun j hj => ?_⟩
    have q := h2 j hj
    rw [twice_get b (by omega)] at q
    rw [Nat.mod_add_mod]; exact q
  · intro h
    have hk := h.lt hf
    obtain ⟨st, hs, h⟩ := h
    refine ⟨st, by rw [List.length_append]; omega, fun j hj => ?_⟩
    rw [twice_get b (by omega)]
    exact h j hj

theorem fair_bounds {b : List Bool} (hf : false ∈ b) : 1 ≤ longF (b ++ b) + 1 ∧ longF (b ++ b) + 1 ≤ (b.length : Int) := by
  have h0 := longF_nonneg (b ++ b)
  refine ⟨by omega, ?_⟩
  have : Ring b (longF (b ++ b)).toNat := (ring_long hf _).mp (by omega)
  have := this.lt hf
  omega
theorem fair_ring {b : List Bool} (hf : false ∈ b) : ¬ Ring b (longF (b ++ b) + 1).toNat ∧ Ring b (longF (b ++ b) + 1 - 1).toNat := by
  have h0 := longF_nonneg (b ++ b)
  exact ⟨fun h => by have := (ring_long hf _).mpr h; omega, (ring_long hf _).mp (by omega)⟩
end K04
/-! Letters, pairs under way, a road, over the abstract heap. -/
namespace L2
open PySem PySem.Spec PyProof.Rows
def optV : Option Int → V
  | some n => .int n
  | none => .non
/-- all but the places of S stays -/
def Keep (S : List Addr) (H H' : Hp) : Prop := ∀ b o, H b = some o → b ∉ S → H' b = some o
section
variable {S T : List Addr} {H H1 H2 : Hp} {a b : Addr} {o : HO}
theorem Keep.refl : Keep S H H := fun _ _ h _ => h
theorem Keep.trans (k : Keep S H H1) (j : Keep S H1 H2) : Keep S H H2 := fun b o h n => j b o (k b o h n) n
theorem Same.keep (s : Same H H1) : Keep S H H1 := fun b o h _ => s b o h
theorem Keep.same (k : Keep S H H1) (s : Same H1 H2) : Keep S H H2 := fun b o h n => s b o (k b o h n)
theorem Keep.mono (k : Keep S H H1) (h : ∀ b ∈ S, b ∈ T) : Keep T H H1 := fun b o e n => k b o e fun z => n (h b z)
theorem Keep.upd (k : Keep S H H1) (h : a ∈ S ∨ H a = none) : Keep S H (upd H1 a o) := fun b u e n => by
  rw [upd_ne]
  · exact k b u e n
  · rintro rfl
    rcases h with z | z
    · exact n z
    · rw [z] at e; cases e
theorem Keep.free (k : Keep S H H1) (h : H1 b = none) (hb : b ∉ S) : H b = none := by
  cases e : H b with
  | none => rfl
  | some o => rw [k b o e hb] at h; cases h
/-- what is new may change -/
theorem Keep.less (k : Keep S H1 H2) (s : Same H H1) (h : ∀ b ∈ S, b ∈ T ∨ H b = none) : Keep T H H2 := fun b o e n => k b o (s b o e) fun z => by
  rcases h b z with q | q
  · exact n q
  · rw [q] at e; cases e
end
/-- a letter and what it says -/
inductive LetV (H : Hp) : V → PyData → Prop
  | str {t : Str} (ok : PyData.strOk t = true) : LetV H (.str t) (.str t)
  | int (n : Int) : LetV H (.int n) (.int n)
  | lst {p : Addr} {n : Int} : H p = some (.lst [.int n]) → LetV H (.ref p) (.list [.int n])
  | tup {p : Addr} {t : Str} {n : Int} (ok : PyData.strOk t = true) : H p = some (.tup [.str t, .int n]) → LetV H (.ref p) (.tuple [.str t, .int n])
/-- no letter lies here -/
def Soft (H : Hp) (b : Addr) : Prop := (∀ xs, H b ≠ some (.tup xs)) ∧ ∀ n, H b ≠ some (.lst [.int n])
section
variable {S : List Addr} {H H' : Hp} {x : V} {d : PyData} {b : Addr}
theorem Soft.of_ins {C dx : Addr} {fs : List (Str × V)} (h : H b = some (.ins C dx fs)) : Soft H b := ⟨(fun xs e => by rw [h] at e; cases e), (fun n e => by rw [h] at e; cases e)⟩
theorem Soft.of_dK {kvs : List (Key × V)} (h : H b = some (.dK kvs)) : Soft H b := ⟨(fun xs e => by rw [h] at e; cases e), (fun n e => by rw [h] at e; cases e)⟩
theorem Soft.of_none (h : H b = none) : Soft H b := ⟨(fun xs e => by rw [h] at e; cases e), (fun n e => by rw [h] at e; cases e)⟩
theorem LetV.keep (k : Keep S H H') (hs : ∀ b ∈ S, Soft H b) : LetV H x d → LetV H' x d
  | .str ok => .str ok
  | .int n => .int n
  | .lst h => .lst (k _ _ h fun z => (hs _ z).2 _ h)
  | .tup ok h => .tup ok (k _ _ h fun z => (hs _ z).1 _ h)
theorem LetV.same (s : Same H H') (h : LetV H x d) : LetV H' x d := h.keep (S := []) s.keep (fun _ z => nomatch z)
theorem LetV.has {K : PySem.W.Frag} : LetV H x d → Has K H x d
  | .str _ => .str _
  | .int n => .int n
  | .lst h => .lst (SqL.of h) (.cons (.int _) .nil)
  | .tup _ h => .tup (SqT.of h) (.cons (.str _) (.cons (.int _) .nil))
theorem LetV.refl : LetV H x d → PyData.eqv d d = true
  | .str t => by simp [PyData.eqv]
  | .int n => by simp [PyData.eqv]
  | .lst h => by simp [PyData.eqv, PyData.eqvAll]
  | .tup _ h => by simp [PyData.eqv, PyData.eqvAll]
theorem LetV.lay : LetV H x d → PyData.canLay0 d = true
  | .str ok => by simp [PyData.canLay0, ok]
  | .int n => by simp [PyData.canLay0]
  | .lst h => by simp [PyData.canLay0, PyData.canLayAll0]
  | .tup ok h => by simp [PyData.canLay0, PyData.canLayAll0, ok]
theorem LetV.depth : LetV H x d → d.depth ≤ 3
  | .str t => by simp [PyData.depth]
  | .int n => by simp [PyData.depth]
  | .lst h => by simp [PyData.depth, PyData.depthAll]
  | .tup _ h => by simp [PyData.depth, PyData.depthAll]
end
def LetsX (H : Hp) (zs : List V) (qs : List PyData) : Prop := Paired (LetV H) zs qs
section
variable {S : List Addr} {H H' : Hp}
theorem LetsX.keep (k : Keep S H H') (hs : ∀ b ∈ S, Soft H b) {zs : List V} {qs : List PyData} (h : LetsX H zs qs) : LetsX H' zs qs := Paired.mapP h fun _ _ z => z.keep k hs
theorem LetsX.same (s : Same H H') {zs : List V} {qs : List PyData} (h : LetsX H zs qs) : LetsX H' zs qs := Paired.mapP h fun _ _ z => z.same s
theorem LetsX.has {K : PySem.W.Frag} : ∀ {zs : List V} {qs : List PyData}, LetsX H zs qs → HasAll K H zs qs
  | _, _, .nil => .nil
  | _, _, .cons r t => .cons r.has (LetsX.has t)
theorem LetsX.refl : ∀ {zs : List V} {qs : List PyData}, LetsX H zs qs → PyData.eqvAll qs qs = true
  | _, _, .nil => by simp [PyData.eqvAll]
  | _, _, .cons r t => by rw [PyData.eqvAll, r.refl, LetsX.refl t]; rfl
theorem LetsX.lay : ∀ {zs : List V} {qs : List PyData}, LetsX H zs qs → PyData.canLayAll0 qs = true
  | _, _, .nil => by simp [PyData.canLayAll0]
  | _, _, .cons r t => by rw [PyData.canLayAll0, r.lay, LetsX.lay t]; rfl
theorem LetsX.depth : ∀ {zs : List V} {qs : List PyData}, LetsX H zs qs → PyData.depthAll qs ≤ 3
  | _, _, .nil => by simp [PyData.depthAll]
  | _, _, .cons r t => by
    have h1 := r.depth
    have h2 := LetsX.depth t
    rw [PyData.depthAll]
    omega
theorem LetsX.shaped {zs : List V} {qs : List PyData} (h : LetsX H zs qs) : SeqAt.shaped (.list qs) = true := by
  have := h.depth
  unfold SeqAt.shaped
  rw [PyData.canLay0, h.lay, PyData.depth, decide_eq_true (by omega)]; rfl
end
/-- a pair of a turn and a letter -/
def PairV (H : Hp) (x : V) (p : Int × PyData) : Prop := ∃ t y, x = .ref t ∧ H t = some (.tup [.int p.1, y]) ∧ LetV H y p.2
def PairsX (H : Hp) (xs : List V) (us : List (Int × PyData)) : Prop := Paired (PairV H) xs us
section
variable {S : List Addr} {H H' : Hp} {xs : List V} {us : List (Int × PyData)} {b : Addr}
theorem PairV.keep (k : Keep S H H') (hs : ∀ b ∈ S, Soft H b) {x : V} {p : Int × PyData} (h : PairV H x p) : PairV H' x p := by
  obtain ⟨t, y, e, h1, h2⟩ := h
  exact ⟨t, y, e, k _ _ h1 fun z => (hs _ z).1 _ h1, h2.keep k hs⟩
theorem PairsX.keep (k : Keep S H H') (hs : ∀ b ∈ S, Soft H b) (h : PairsX H xs us) : PairsX H' xs us := Paired.mapP h fun _ _ z => z.keep k hs
theorem PairsX.same (s : Same H H') (h : PairsX H xs us) : PairsX H' xs us := h.keep (S := []) s.keep (fun _ z => nomatch z)
theorem PairsX.len (h : PairsX H xs us) : xs.length = us.length := Paired.length h
theorem deeds_keep {a : Addr} {ds : List (List Int)} (k : Keep S H H') (hs : ∀ b ∈ S, Soft H b) (ha : a ∉ S) (h : DeedsAt H a ds) : DeedsAt H' a ds := by
  obtain ⟨xs, e, d⟩ := h
  exact ⟨xs, k _ _ e ha, Paired.mapP d fun _ _ ⟨t, p, q⟩ => ⟨t, p, k _ _ q fun z => (hs _ z).1 _ q⟩⟩
theorem Soft.keep {T : List Addr} (k : Keep T H H') (hb : b ∉ T) (hn : H b ≠ none) (h : Soft H b) : Soft H' b := by
  cases e : H b with
  | none => exact absurd e hn
  | some o =>
    have := k b o e hb
    refine ⟨fun xs q => h.1 xs ?_, fun n q => h.2 n ?_⟩
    · rw [this] at q; rw [e]; exact q
    · rw [this] at q; rw [e]; exact q
end
/-- the delays of what is sent in turn z -/
def del (ds : List (List Int)) (z : Int) : List Int := if ds = [] then [1] else ds.getD (z.toNat % ds.length) []
/-! ### a road -/
def rf (l : Addr) (ls la : Option Int) (u : Addr) : List (Str × V) := [("deeds", .ref l), ("last_sent", optV ls), ("last_asked", optV la), ("underway", .ref u)]
section
variable {l u : Addr} {ls la : Option Int}
end
structure RoadAt (C : Addr) (H : Hp) (x dx l u : Addr) (ds : List (List Int)) (ls la : Option Int) (us : List (Int × PyData)) : Prop where
  ins : H x = some (.ins C dx (rf l ls la u))
  deeds : DeedsAt H l ds
  und : ∃ xs, H u = some (.lst xs) ∧ PairsX H xs us
  ne : l ≠ u
section
variable {S : List Addr} {C : Addr} {H H' : Hp} {x dx l u : Addr} {ds : List (List Int)} {ls la : Option Int} {us : List (Int × PyData)}
theorem RoadAt.keep (k : Keep S H H') (hs : ∀ b ∈ S, Soft H b) (hx : x ∉ S) (hl : l ∉ S) (hu : u ∉ S) (R : RoadAt C H x dx l u ds ls la us) : RoadAt C H' x dx l u ds ls la us := by
  obtain ⟨xs, e, p⟩ := R.und
  exact ⟨k _ _ R.ins hx, deeds_keep k hs hl R.deeds, ⟨xs, k _ _ e hu, p.keep k hs⟩, R.ne⟩
theorem RoadAt.same (s : Same H H') (R : RoadAt C H x dx l u ds ls la us) : RoadAt C H' x dx l u ds ls la us := R.keep (S := []) s.keep (fun _ z => nomatch z) (fun z => nomatch z) (fun z => nomatch z) (fun z => nomatch z)
theorem RoadAt.xl (R : RoadAt C H x dx l u ds ls la us) : x ≠ l := let ⟨_, e, _⟩ := R.deeds; ne_of R.ins e (by intro z; cases z)
end
/-! ### what isinstance tells of a letter -/
theorem kit_sl (K : PySem.W.Frag) : PySem.W.kitOne K (.type "str") (.type "list") = some false := by with_unfolding_all rfl
theorem kit_st (K : PySem.W.Frag) : PySem.W.kitOne K (.type "str") (.type "tuple") = some false := by with_unfolding_all rfl
theorem kit_sd (K : PySem.W.Frag) : PySem.W.kitOne K (.type "str") (.type "dict") = some false := by with_unfolding_all rfl
theorem kit_il (K : PySem.W.Frag) : PySem.W.kitOne K (.type "int") (.type "list") = some false := by with_unfolding_all rfl
theorem kit_it (K : PySem.W.Frag) : PySem.W.kitOne K (.type "int") (.type "tuple") = some false := by with_unfolding_all rfl
theorem kit_id (K : PySem.W.Frag) : PySem.W.kitOne K (.type "int") (.type "dict") = some false := by with_unfolding_all rfl
theorem kit_tl (K : PySem.W.Frag) : PySem.W.kitOne K (.type "tuple") (.type "list") = some false := by with_unfolding_all rfl
theorem kit_tt (K : PySem.W.Frag) : PySem.W.kitOne K (.type "tuple") (.type "tuple") = some true := by rfl
end L2
namespace L2
open PySem PySem.Spec PyProof.Rows
theorem Same.seqT {K : PySem.W.Frag} {H H' : Hp} {a : Addr} {xs : List V} (e : Same H H') (h : SqT K H a xs) : SqT K H' a xs := by
  rcases h with h | h
  · rcases h with h | ⟨o, h⟩
    · exact .inl (.inl (e _ _ h))
    · exact .inl (.inr ⟨o, e _ _ h⟩)
  · exact .inr h
theorem SqT.keep {K : PySem.W.Frag} {S : List Addr} {H H' : Hp} {a : Addr} {xs : List V} (k : Keep S H H') (hs : ∀ b ∈ S, ∃ ys, H b = some (.lst ys)) (h : SqT K H a xs) : SqT K H' a xs := by
  rcases h with h | h
  · rcases h with h | ⟨o, h⟩
    · exact .inl (.inl (k _ _ h fun z => by obtain ⟨ys, e⟩ := hs _ z; rw [h] at e; cases e))
    · exact .inl (.inr ⟨o, k _ _ h fun z => by obtain ⟨ys, e⟩ := hs _ z; rw [h] at e; cases e⟩)
  · exact .inr h
end L2
/-! Data that cannot change: numbers, texts, tuples of such. -/
namespace L2
open PySem PySem.Spec PyProof.Rows
mutual
inductive Im (H : Hp) : V → PyData → Prop
  | non : Im H .non .none
  | bl (b : Bool) : Im H (.bl b) (.bool b)
  | int (n : Int) : Im H (.int n) (.int n)
  | str {t : Str} (ok : PyData.strOk t = true) : Im H (.str t) (.str t)
  | tup {p : Addr} {xs : List V} {ds : List PyData} : H p = some (.tup xs) → Ims H xs ds → xs.length ≤ 1000 → Im H (.ref p) (.tuple ds)
inductive Ims (H : Hp) : List V → List PyData → Prop
  | nil : Ims H [] []
  | cons {x : V} {xs : List V} {d : PyData} {ds : List PyData} : Im H x d → Ims H xs ds → Ims H (x :: xs) (d :: ds)
end
/-- no tuple lies here -/
def NoT (H : Hp) (b : Addr) : Prop := ∀ xs, H b ≠ some (.tup xs)
section
variable {S : List Addr} {H H' : Hp} {b : Addr}
theorem NoT.of_ins {C dx : Addr} {fs : List (Str × V)} (h : H b = some (.ins C dx fs)) : NoT H b := fun xs e => by rw [h] at e; cases e
theorem NoT.of_lst {xs : List V} (h : H b = some (.lst xs)) : NoT H b := fun xs e => by rw [h] at e; cases e
theorem NoT.of_dK {kvs : List (Key × V)} (h : H b = some (.dK kvs)) : NoT H b := fun xs e => by rw [h] at e; cases e
theorem NoT.of_none (h : H b = none) : NoT H b := fun xs e => by rw [h] at e; cases e
mutual
theorem Im.keep (k : Keep S H H') (hs : ∀ b ∈ S, NoT H b) : ∀ {x : V} {d : PyData}, Im H x d → Im H' x d
  | _, _, .non => .non
  | _, _, .bl b => .bl b
  | _, _, .int n => .int n
  | _, _, .str ok => .str ok
  | _, _, .tup h hx hl => .tup (k _ _ h fun z => hs _ z _ h) (Ims.keep k hs hx) hl
theorem Ims.keep (k : Keep S H H') (hs : ∀ b ∈ S, NoT H b) : ∀ {xs : List V} {ds : List PyData}, Ims H xs ds → Ims H' xs ds
  | _, _, .nil => .nil
  | _, _, .cons r t => .cons (Im.keep k hs r) (Ims.keep k hs t)
end
theorem Im.same (s : Same H H') {x : V} {d : PyData} (h : Im H x d) : Im H' x d := h.keep (S := []) s.keep (fun _ z => nomatch z)
theorem Ims.same (s : Same H H') {xs : List V} {ds : List PyData} (h : Ims H xs ds) : Ims H' xs ds := h.keep (S := []) s.keep (fun _ z => nomatch z)
mutual
theorem Im.has {K : PySem.W.Frag} : ∀ {x : V} {d : PyData}, Im H x d → Has K H x d
  | _, _, .non => .non
  | _, _, .bl b => .bl b
  | _, _, .int n => .int n
  | _, _, .str _ => .str _
  | _, _, .tup h hx _ => .tup (SqT.of h) (Ims.has hx)
theorem Ims.has {K : PySem.W.Frag} : ∀ {xs : List V} {ds : List PyData}, Ims H xs ds → HasAll K H xs ds
  | _, _, .nil => .nil
  | _, _, .cons r t => .cons (Im.has r) (Ims.has t)
end
mutual
theorem Im.refl : ∀ {x : V} {d : PyData}, Im H x d → PyData.eqv d d = true
  | _, _, .non => by simp [PyData.eqv]
  | _, _, .bl b => by simp [PyData.eqv]
  | _, _, .int n => by simp [PyData.eqv]
  | _, _, .str _ => by simp [PyData.eqv]
  | _, _, .tup _ hx _ => by rw [PyData.eqv]; exact Ims.refl hx
theorem Ims.refl : ∀ {xs : List V} {ds : List PyData}, Ims H xs ds → PyData.eqvAll ds ds = true
  | _, _, .nil => by simp [PyData.eqvAll]
  | _, _, .cons r t => by rw [PyData.eqvAll, Im.refl r, Ims.refl t]; rfl
end
mutual
theorem Im.lay : ∀ {x : V} {d : PyData}, Im H x d → PyData.canLay0 d = true
  | _, _, .non => by simp [PyData.canLay0]
  | _, _, .bl b => by simp [PyData.canLay0]
  | _, _, .int n => by simp [PyData.canLay0]
  | _, _, .str ok => by simp [PyData.canLay0, ok]
  | _, _, .tup _ hx _ => by rw [PyData.canLay0]; exact Ims.lay hx
theorem Ims.lay : ∀ {xs : List V} {ds : List PyData}, Ims H xs ds → PyData.canLayAll0 ds = true
  | _, _, .nil => by simp [PyData.canLayAll0]
  | _, _, .cons r t => by rw [PyData.canLayAll0, Im.lay r, Ims.lay t]; rfl
end
theorem Ims.len : ∀ {xs : List V} {ds : List PyData}, Ims H xs ds → xs.length = ds.length
  | _, _, .nil => rfl
  | _, _, .cons _ t => by rw [List.length_cons, List.length_cons, Ims.len t]
theorem Ims.get : ∀ {xs : List V} {ds : List PyData} {i : Nat} {x : V}, Ims H xs ds → xs[i]? = some x → ∃ d, ds[i]? = some d ∧ Im H x d
  | _, _, _, _, .nil, e => by simp at e
  | _, _, 0, _, .cons r _, e => by simp at e; subst e; exact ⟨_, rfl, r⟩
  | _, _, i + 1, x, .cons _ t, e => by
    obtain ⟨u, h1, h2⟩ := Ims.get (i := i) (x := x) t (by simpa using e)
    exact ⟨u, by simpa using h1, h2⟩
theorem Ims.app : ∀ {xs ys : List V} {ds es : List PyData}, Ims H xs ds → Ims H ys es → Ims H (xs ++ ys) (ds ++ es)
  | _, _, _, _, .nil, s => s
  | _, _, _, _, .cons r t, s => .cons r (Ims.app t s)
theorem Ims.take : ∀ {xs : List V} {ds : List PyData} (n : Nat), Ims H xs ds → Ims H (xs.take n) (ds.take n)
  | _, _, 0, _ => by simp only [List.take_zero]; exact .nil
  | _, _, _ + 1, .nil => .nil
  | _, _, n + 1, .cons r t => .cons r (Ims.take n t)
theorem Ims.drop : ∀ {xs : List V} {ds : List PyData} (n : Nat), Ims H xs ds → Ims H (xs.drop n) (ds.drop n)
  | _, _, 0, r => r
  | _, _, _ + 1, .nil => .nil
  | _, _, n + 1, .cons _ t => Ims.drop n t
theorem Ims.one {x : V} {d : PyData} (h : Im H x d) : Ims H [x] [d] := .cons h .nil
theorem shaped_of {d : PyData} (h : PyData.canLay0 d = true) (hd : d.depth ≤ 64) : SeqAt.shaped d = true := by
  unfold SeqAt.shaped
  rw [h, decide_eq_true hd]; rfl
theorem depthAll_le {n : Nat} : ∀ {ds : List PyData}, (∀ d ∈ ds, d.depth ≤ n) → PyData.depthAll ds ≤ n
  | [], _ => Nat.zero_le _
  | d :: ds, h => by
    rw [PyData.depthAll]
    exact Nat.max_le.mpr ⟨h d (.head _), depthAll_le fun e he => h e (.tail _ he)⟩
theorem le_depthAll : ∀ {ds : List PyData} {d : PyData}, d ∈ ds → d.depth ≤ PyData.depthAll ds
  | _ :: _, _, .head _ => by rw [PyData.depthAll]; exact Nat.le_max_left _ _
  | _ :: _, _, .tail _ h => by rw [PyData.depthAll]; exact Nat.le_trans (le_depthAll h) (Nat.le_max_right _ _)
end
theorem kitI_nl (K : PySem.W.Frag) : PySem.W.kitOne K (.type "NoneType") (.type "list") = some false := by with_unfolding_all rfl
theorem kitI_nt (K : PySem.W.Frag) : PySem.W.kitOne K (.type "NoneType") (.type "tuple") = some false := by with_unfolding_all rfl
theorem kitI_nd (K : PySem.W.Frag) : PySem.W.kitOne K (.type "NoneType") (.type "dict") = some false := by with_unfolding_all rfl
theorem kitI_bl (K : PySem.W.Frag) : PySem.W.kitOne K (.type "bool") (.type "list") = some false := by with_unfolding_all rfl
theorem kitI_bt (K : PySem.W.Frag) : PySem.W.kitOne K (.type "bool") (.type "tuple") = some false := by with_unfolding_all rfl
theorem kitI_bd (K : PySem.W.Frag) : PySem.W.kitOne K (.type "bool") (.type "dict") = some false := by with_unfolding_all rfl
/-! ### sum of a list of numbers -/
theorem ints_vals : ∀ {ns : List Int} {us : List Value}, Vals (ns.map V.int) us → IntsAre us ns
  | [], _, .nil => .nil
  | _ :: _, _, .cons ⟨_, rfl⟩ r => .cons _ _ (ints_vals r)
section
variable {X : Cx}
theorem call_sum (hc : X.calm = true) : CallR X (.builtin "sum") (fun xs H Q => ∃ (p : Addr) (ns : List Int), xs = [.ref p] ∧ SqL X.K H p (ns.map V.int) ∧ Q (.int ns.sum) H) := by
  intro pins s σ H xs us Q I r h
  obtain ⟨p, ns, rfl, hq, q⟩ := h
  obtain ⟨u, rfl, rx⟩ := vals1 r
  cases rx
  obtain ⟨its, rv, pl, hz⟩ := I.list hq
  have hi := ints_vals rv
  obtain ⟨xs, hx⟩ := hi.allInts.items
  have hl := pl.isList
  rw [hx] at hl
  refine sum_intListG (show X.A.handled = none from I.ok.hd hc) hl fun h' tk t' hk => ⟨.int ns.sum, H, I.kept (t' := tk) hk, ?_, q⟩
  have e1 : ns = xs.toList.map (·.1) := by
    rw [← nums_intItems, ← hx]
    exact (show numsOf its.toArray.toList = ns from hi.numsOf).symm
  rw [preSum_eq, List.take_of_length_le (by simp), ← e1]
  exact ⟨_, rfl⟩
end
theorem bt_sum : bootBuiltins "sum" = some (.builtin "sum") := by decide +kernel
/-- what own_copy promises of data that cannot change -/
def sp_cpy (n : Nat) : Sp := fun vs H Q _ => ∃ (v : V) (d : PyData), vs = [v] ∧ Im H v d ∧ d.depth ≤ n ∧ ∀ v' H', Same H H' → Im H' v' d → Q v' H'
section
variable {X : Cx} {j k : Nat} {C : Addr} {x m : Str} {ps : List Str} {sp : Sp} {p pos apos : Pos} {o : Expr} {ta : TE}
theorem pe_mth0 {pl : Sem Bool} (M : OwnM X.prog X.w X.K X.mg X.base j C m ps sp) (c : Cls X.K C) (hr : Room k X.A) (he : PE X o ta) (hk : j ≤ k := by decide)
    (ht : eval (.Call (.Attribute o m apos) [] [] pos) X.env = (do
      let ov ← eval o X.env
      standAt apos.atName
      let (f, first) ← holding [ov] (getMethod ov m pl)
      callWith pos f first (backTo pos (starEach [] X.env)) (backToKw pos (keywordEach [] X.env))) := by rfl) :
    PE X (.Call (.Attribute o m apos) [] [] pos) (tMeth C m sp [] E0 ta tNil) := by
  obtain ⟨f, fd, hm, hb, F⟩ := M
  exact pe_meth0 (pl := pl) he c hm F (hr.mono hk) hb .nil pass0 ht
theorem pe_mak0 (M : OwnI X.prog X.w X.K X.mg X.base j C ps sp) (hr : Room k X.A) (hm : X.mg x = some (.ref C)) (hk : j + 1 ≤ k := by decide) (hg : Gl X x := by rfl) (hdb : (x == ("__debug__" : Str)) = false := by decide) :
    PE X (.Call (.Name x p) [] [] pos) (tMake C sp [] E0 tNil) := by
  obtain ⟨f, fd, hk', hb, F⟩ := M
  exact pe_make0 hk' F (hr.mono hk) hg hm hb .nil pass0 hdb
end
/-! ### numbered parcels -/
/-- a pair of a number and a parcel -/
def pd (p : Int × PyData) : PyData := .tuple [.int p.1, p.2]
section
variable {S : List Addr} {H H' : Hp}
theorem Ims.pair {v : V} {p : Int × PyData} (h : Im H v (pd p)) : ∃ t y, v = .ref t ∧ H t = some (.tup [.int p.1, y]) ∧ Im H y p.2 := by
  unfold pd at h
  cases h with
  | @tup t xs ds e hx hl =>
    cases hx with
    | cons r1 hx =>
      cases r1
      cases hx with
      | cons r2 hx =>
        cases hx
        exact ⟨t, _, rfl, e, r2⟩
theorem Im.pair {t : Addr} {y : V} {n : Int} {d : PyData} (e : H t = some (.tup [.int n, y])) (h : Im H y d) : Im H (.ref t) (pd (n, d)) := .tup e (.cons (.int n) (.cons h .nil)) (by simp)
end
theorem pd_depth {p : Int × PyData} {n : Nat} (h : p.2.depth ≤ n) : (pd p).depth ≤ n + 1 := by
  unfold pd
  simp only [PyData.depth, PyData.depthAll]
  omega
theorem pds_depth {ks : List (Int × PyData)} {n : Nat} (h : ∀ p ∈ ks, p.2.depth ≤ n) : (PyData.tuple (ks.map pd)).depth ≤ n + 2 := by
  simp only [PyData.depth]
  have : PyData.depthAll (ks.map pd) ≤ n + 1 := depthAll_le fun d hd => by
    obtain ⟨p, hp, rfl⟩ := List.mem_map.mp hd
    exact pd_depth (h p hp)
  omega
/-- what the taker does with a pair -/
def tk (s : Int × List PyData) (p : Int × PyData) : Int × List PyData := if p.1 = s.1 then (s.1 + 1, s.2 ++ [p.2]) else s
end L2
/-! Readings that may be weakened: what while_by asks of a test. -/
namespace L2
open PySem PySem.Spec PyProof.Rows
/-! ### a list and another one, both only read -/
section
variable {X : Cx}
end
end L2
/-! Readings by what stands at an address itself: they run by simp alone. -/
namespace L2
open PySem PySem.Spec PyProof.Rows
section
variable {X : Cx}
theorem OpR.weak {f : Value → Value → Sem Value} {r r' : R2} (h : OpR X f r) (w : ∀ x y H Q, r' x y H Q → r x y H Q) : OpR X f r' :=
  fun pins s σ H x y v u Q I rx ry q => h pins s σ H x y v u Q I rx ry (w _ _ _ _ q)
theorem IxR.weak {r r' : R2} (h : IxR X r) (w : ∀ x y H Q, r' x y H Q → r x y H Q) : IxR X r' :=
  fun value slice pins s σ H x y v u Q I rx ry q hs => h value slice pins s σ H x y v u Q I rx ry (w _ _ _ _ q) hs
theorem CallR.weak {f : Value} {r r' : List V → Hp → VK → Prop} (h : CallR X f r) (w : ∀ xs H Q, r' xs H Q → r xs H Q) : CallR X f r' :=
  fun pins s σ H xs us Q I rs q => h pins s σ H xs us Q I rs (w _ _ _ q)
theorem SlR.weak {r r' : V → Option Int → Option Int → Hp → VK → Prop} (h : SlR X r) (w : ∀ x l u H Q, r' x l u H Q → r x l u H Q) : SlR X r' :=
  fun pins s σ H x v vl vu lo hi sl Q I rx hs pl pu q => h pins s σ H x v vl vu lo hi sl Q I rx hs pl pu (w _ _ _ _ _ q)

/-! ### a subscript -/
def getO : HO → V → Option V
  | .lst xs, .int i => atI xs i
  | .tup xs, .int i => atI xs i
  | .dK kvs, .int i => valV kvs (Sum.inl i)
  | .dK kvs, .str x => valV kvs (Sum.inr x)
  | _, _ => none
theorem getO_l {xs : List V} {i : Int} : getO (.lst xs) (.int i) = atI xs i := rfl
theorem getO_t {xs : List V} {i : Int} : getO (.tup xs) (.int i) = atI xs i := rfl
def rGet : R2 := fun x y H Q => ∃ p o v, x = .ref p ∧ H p = some o ∧ getO o y = some v ∧ Q v H
theorem ix_dict (hu : X.A.units + 1 < cLine) : IxR X (fun x y H Q => ∃ a v, x = .ref a ∧ DGet H a y (some v) ∧ Q v H) := by
  intro value slice pins s σ H x y v u Q I rx ry h hs
  obtain ⟨a, z, rfl, g, q⟩ := h
  cases rx
  exact tail_any (dict_typeIs I g) PySem.F.slot_dict_getitem.lookup (d_getItem hu I g ry fun w' s3 I3 rw' => ⟨z, H, I3, rw', q⟩) hs
theorem ix_get (hu : X.A.units + 1 < cLine) : IxR X rGet := by
  intro value slice pins s σ H x y v u Q I rx ry h hs
  obtain ⟨p, o, z, rfl, e, g, q⟩ := h
  cases o with
  | lst xs => cases y <;> first | exact ix_list value slice pins s σ H _ _ v u Q I rx ry ⟨p, xs, _, z, rfl, rfl, SqL.of e, g, q⟩ hs | cases g
  | tup xs => cases y <;> first | exact ix_tup value slice pins s σ H _ _ v u Q I rx ry ⟨p, xs, _, z, rfl, rfl, SqT.of e, g, q⟩ hs | cases g
  | dK kvs =>
    cases y with
    | int i => exact ix_dict hu value slice pins s σ H _ _ v u Q I rx ry ⟨p, z, rfl, .inl ⟨kvs, Sum.inl i, .inl e, rfl, g.symm⟩, q⟩ hs
    | str x => exact ix_dict hu value slice pins s σ H _ _ v u Q I rx ry ⟨p, z, rfl, .inl ⟨kvs, Sum.inr x, .inl e, rfl, g.symm⟩, q⟩ hs
    | _ => cases g
  | _ => cases y <;> cases g

/-! ### len -/
def lenO : HO → Option Nat
  | .lst xs => some xs.length
  | .tup xs => some xs.length
  | .dK kvs => some kvs.length
  | _ => none
def lenX (H : Hp) : V → Option Nat
  | .ref p => (H p).bind lenO
  | .str z => if z.length ≤ sizeLine then some z.length else none
  | _ => none
theorem lenX_r {H : Hp} {p : Addr} : lenX H (.ref p) = (H p).bind lenO := rfl
theorem lenO_l {xs : List V} : lenO (.lst xs) = some xs.length := rfl
theorem lenO_d {kvs : List (Key × V)} : lenO (.dK kvs) = some kvs.length := rfl
def rLenX : List V → Hp → VK → Prop := fun xs H Q => ∃ x n, xs = [x] ∧ lenX H x = some n ∧ Q (.int n) H
theorem call_lenX : CallR X (.builtin "len") rLenX := by
  intro pins s σ H xs us Q I r h
  obtain ⟨x, n, rfl, g, q⟩ := h
  cases x with
  | ref p =>
    cases e : H p with
    | none => rw [lenX_r, e] at g; cases g
    | some o =>
      rw [lenX_r, e] at g
      cases o with
      | lst xs => cases g; exact call_len_seq pins s σ H _ us Q I r ⟨p, xs, rfl, .inl (SqL.of e), q⟩
      | tup xs => cases g; exact call_len_seq pins s σ H _ us Q I r ⟨p, xs, rfl, .inr (SqT.of e), q⟩
      | dK kvs =>
        cases g
        obtain ⟨u, rfl, rx⟩ := vals1 r
        cases rx
        exact d_len I (.inl e) fun t s' I' => ⟨.int _, H, I', ⟨t, rfl⟩, q⟩
      | _ => cases g
  | str z =>
    have g' : (if z.length ≤ sizeLine then some z.length else none) = some n := g
    split at g'
    · cases g'
      rename_i hz
      exact call_len_str pins s σ H _ us Q I r ⟨z, rfl, hz, q⟩
    · cases g'
  | _ => cases g

/-! ### truth -/
def truO : HO → Option Bool
  | .lst xs => some (!xs.isEmpty)
  | .tup xs => some (!xs.isEmpty)
  | .dK kvs => some (!kvs.isEmpty)
  | _ => none
def truX (H : Hp) : V → Option Bool
  | .non => some false
  | .bl b => some b
  | .int i => some (i != 0)
  | .ref p => (H p).bind truO
  | _ => none
theorem truX_b {H : Hp} {b : Bool} : truX H (.bl b) = some b := rfl
theorem truX_r {H : Hp} {p : Addr} : truX H (.ref p) = (H p).bind truO := rfl
def tTruX (ta : TE) : TT := fun σ H Q => ta σ H fun x H' => ∃ k, truX H' x = some k ∧ Q k H'
theorem tru_x : TruR X (fun x H Q => ∃ k, truX H x = some k ∧ Q k H) := by
  intro pins s σ H x v Q I rx h
  obtain ⟨k, g, q⟩ := h
  refine tru_ok pins s σ H x v Q I rx ⟨k, ?_, q⟩
  cases x with
  | non => cases g; rfl
  | bl b => cases g; rfl
  | int i => cases g; rfl
  | ref p =>
    cases e : H p with
    | none => rw [truX_r, e] at g; cases g
    | some o =>
      rw [truX_r, e] at g
      cases o with
      | lst xs => cases g; exact .inl ⟨xs, SqL.of e, rfl⟩
      | tup xs => cases g; exact .inr (.inl ⟨xs, SqT.of e, rfl⟩)
      | dK kvs => cases g; exact .inr (.inr ⟨kvs, e, rfl⟩)
      | _ => cases g
  | _ => cases g
theorem pt_truX {a : Expr} {ta : TE} (ha : PE X a ta) (he : ∀ whole, isTrue a X.env whole = (do let v ← whole; standAt a.pos; holding [v] (truthy v)) := by intro _; rfl) : PT X a (tTruX ta) := by
  intro pins s σ H Q I h
  exact isTrue_plain (thn (ha pins s σ H _ I h) fun v s1 ⟨x, H1, I1, r1, q1⟩ => tru_x pins s1 σ H1 x v Q I1 r1 q1) (he _)

/-! ### in, not in -/
def inO : HO → V → Option Bool
  | .lst xs, x => if flatV x = true ∧ xs.all flatV = true then some (inV x xs) else none
  | .tup xs, x => if flatV x = true ∧ xs.all flatV = true then some (inV x xs) else none
  | .dK kvs, .int i => some (valV kvs (Sum.inl i)).isSome
  | .dK kvs, .str z => some (valV kvs (Sum.inr z)).isSome
  | _, _ => none
theorem inO_di {kvs : List (Key × V)} {i : Int} : inO (.dK kvs) (.int i) = some (valV kvs (Sum.inl i)).isSome := rfl
def rInX : R2 := fun x y H Q => ∃ p o b, y = .ref p ∧ H p = some o ∧ inO o x = some b ∧ Q (.bl b) H
def rNotInX : R2 := fun x y H Q => ∃ p o b, y = .ref p ∧ H p = some o ∧ inO o x = some b ∧ Q (.bl (!b)) H
theorem op_inX (hu : X.A.units + 1 < cLine) : OpR X (compareOp .In) rInX := by
  intro pins s σ H x y v u Q I rx ry h
  obtain ⟨p, o, b, rfl, e, g, q⟩ := h
  cases o with
  | lst xs =>
    have g' : (if flatV x = true ∧ xs.all flatV = true then some (inV x xs) else none) = some b := g
    split at g'
    · rename_i hz
      cases g'
      exact op_in_seq pins s σ H _ _ v u Q I rx ry ⟨p, xs, rfl, .inl (SqL.of e), hz.1, hz.2, q⟩
    · cases g'
  | tup xs =>
    have g' : (if flatV x = true ∧ xs.all flatV = true then some (inV x xs) else none) = some b := g
    split at g'
    · rename_i hz
      cases g'
      exact op_in_seq pins s σ H _ _ v u Q I rx ry ⟨p, xs, rfl, .inr (SqT.of e), hz.1, hz.2, q⟩
    · cases g'
  | dK kvs =>
    cases ry
    cases x with
    | int i => cases g; exact d_in hu I (.inl ⟨kvs, Sum.inl i, .inl e, rfl, rfl⟩) rx fun s' I' => ⟨.bl _, H, I', rfl, q⟩
    | str z => cases g; exact d_in hu I (.inl ⟨kvs, Sum.inr z, .inl e, rfl, rfl⟩) rx fun s' I' => ⟨.bl _, H, I', rfl, q⟩
    | _ => cases g
  | _ => cases x <;> cases g
theorem op_notinX (hu : X.A.units + 1 < cLine) : OpR X (compareOp .NotIn) rNotInX := by
  intro pins s σ H x y v u Q I rx ry h
  obtain ⟨p, o, b, rfl, e, g, q⟩ := h
  cases o with
  | lst xs =>
    have g' : (if flatV x = true ∧ xs.all flatV = true then some (inV x xs) else none) = some b := g
    split at g'
    · rename_i hz
      cases g'
      exact op_notIn_seq pins s σ H _ _ v u Q I rx ry ⟨p, xs, rfl, .inl (SqL.of e), hz.1, hz.2, q⟩
    · cases g'
  | tup xs =>
    have g' : (if flatV x = true ∧ xs.all flatV = true then some (inV x xs) else none) = some b := g
    split at g'
    · rename_i hz
      cases g'
      exact op_notIn_seq pins s σ H _ _ v u Q I rx ry ⟨p, xs, rfl, .inr (SqT.of e), hz.1, hz.2, q⟩
    · cases g'
  | dK kvs =>
    cases ry
    cases x with
    | int i => cases g; exact d_notIn hu I (.inl ⟨kvs, Sum.inl i, .inl e, rfl, rfl⟩) rx fun s' I' => ⟨.bl _, H, I', rfl, q⟩
    | str z => cases g; exact d_notIn hu I (.inl ⟨kvs, Sum.inr z, .inl e, rfl, rfl⟩) rx fun s' I' => ⟨.bl _, H, I', rfl, q⟩
    | _ => cases g
  | _ => cases x <;> cases g

/-! ### o[i] = v -/
def setO : HO → V → V → Option HO
  | .lst xs, .int k, v => (ixN xs.length k).map fun j => .lst (xs.set j v)
  | .dK kvs, .int i, v => if kvs.length < sizeLine then some (.dK (putK kvs (Sum.inl i) v)) else none
  | .dK kvs, .str z, v => if kvs.length < sizeLine then some (.dK (putK kvs (Sum.inr z) v)) else none
  | _, _, _ => none
theorem setO_l {xs : List V} {k : Int} {v : V} : setO (.lst xs) (.int k) v = (ixN xs.length k).map fun j => .lst (xs.set j v) := rfl
def rSetX : V → V → V → Hp → (Hp → Prop) → Prop := fun o i v H Q => ∃ p ob ob', o = .ref p ∧ H p = some ob ∧ setO ob i v = some ob' ∧ Q (upd H p ob')
theorem set_x (hu : X.A.units + 1 < cLine) : PSet X rSetX := by
  intro pins s σ H o i v ov iv u Q I ro ri rv h
  obtain ⟨p, ob, ob', rfl, e, g, q⟩ := h
  cases ob with
  | lst xs =>
    cases i with
    | int k =>
      cases z : ixN xs.length k with
      | none => rw [setO_l, z] at g; cases g
      | some j =>
        rw [setO_l, z] at g
        cases g
        exact set_list pins s σ H _ _ v ov iv u Q I ro ri rv ⟨p, xs, k, j, rfl, rfl, e, z, q⟩
    | _ => cases g
  | dK kvs =>
    cases ro
    cases i with
    | int k =>
      have g' : (if kvs.length < sizeLine then some (HO.dK (putK kvs (Sum.inl k) v)) else none) = some ob' := g
      split at g'
      · rename_i hz
        cases g'
        exact d_setItem hu I (.inl ⟨kvs, Sum.inl k, e, rfl, hz, rfl⟩) ri rv fun s' I' => ⟨_, I', q⟩
      · cases g'
    | str k =>
      have g' : (if kvs.length < sizeLine then some (HO.dK (putK kvs (Sum.inr k) v)) else none) = some ob' := g
      split at g'
      · rename_i hz
        cases g'
        exact d_setItem hu I (.inl ⟨kvs, Sum.inr k, e, rfl, hz, rfl⟩) ri rv fun s' I' => ⟨_, I', q⟩
      · cases g'
    | _ => cases g
  | _ => cases i <;> cases g

/-! ### slices, list(x), tuple(x) -/
def seqO : HO → Option (List V)
  | .lst xs => some xs
  | .tup xs => some xs
  | _ => none
theorem seqO_t {xs : List V} : seqO (.tup xs) = some xs := rfl
/-! ### targets and loops -/
/-! ### equality of scalars, of data -/
/-- data that may be compared -/
def Dt (H : Hp) (v : V) (d : PyData) : Prop := (∀ K : PySem.W.Frag, Has K H v d) ∧ PyData.canLay0 d = true ∧ PyData.eqv d d = true
def Dts (H : Hp) (xs : List V) (ds : List PyData) : Prop := (∀ K : PySem.W.Frag, HasAll K H xs ds) ∧ PyData.canLayAll0 ds = true ∧ PyData.eqvAll ds ds = true
theorem Ims.dts {H : Hp} {v : List V} {d : List PyData} (h : Ims H v d) : Dts H v d := ⟨fun _ => h.has, h.lay, h.refl⟩
theorem Dt.has {K : PySem.W.Frag} {H : Hp} {v : V} {d : PyData} (h : Dt H v d) : Has K H v d := h.1 K
theorem Dt.lay {H : Hp} {v : V} {d : PyData} (h : Dt H v d) : PyData.canLay0 d = true := h.2.1
theorem Dt.ls {H : Hp} {l : Addr} {xs : List V} {ds : List PyData} (e : H l = some (.lst xs)) (m : Dts H xs ds) : Dt H (.ref l) (.list ds) := ⟨fun K => .lst (SqL.of e) (m.1 K), by rw [PyData.canLay0]; exact m.2.1, by rw [PyData.eqv]; exact m.2.2⟩
theorem Dt.tp {H : Hp} {l : Addr} {xs : List V} {ds : List PyData} (e : H l = some (.tup xs)) (m : Dts H xs ds) : Dt H (.ref l) (.tuple ds) := ⟨fun K => .tup (SqT.of e) (m.1 K), by rw [PyData.canLay0]; exact m.2.1, by rw [PyData.eqv]; exact m.2.2⟩
theorem Dt.l {H : Hp} {l : Addr} {xs : List V} {ds : List PyData} (e : H l = some (.lst xs)) (m : Ims H xs ds) : Dt H (.ref l) (.list ds) := .ls e m.dts
theorem Dts.nil {H : Hp} : Dts H [] [] := ⟨fun _ => .nil, by simp [PyData.canLayAll0], by simp [PyData.eqvAll]⟩
theorem Dts.cons {H : Hp} {x : V} {xs : List V} {d : PyData} {ds : List PyData} (h : Dt H x d) (t : Dts H xs ds) : Dts H (x :: xs) (d :: ds) :=
  ⟨fun K => .cons (h.1 K) (t.1 K), by rw [PyData.canLayAll0, h.2.1, t.2.1]; rfl, by rw [PyData.eqvAll, h.2.2, t.2.2]; rfl⟩
theorem Dts.app {H : Hp} {ys : List V} {es : List PyData} (t : Dts H ys es) : ∀ {xs : List V} {ds : List PyData}, Dts H xs ds → Dts H (xs ++ ys) (ds ++ es)
  | [], [], _ => t
  | [], _ :: _, h => by cases h.1 [] 
  | _ :: _, [], h => by cases h.1 []
  | x :: xs, d :: ds, h => by
    refine .cons ⟨fun K => ?_, ?_, ?_⟩ (Dts.app t ⟨fun K => ?_, ?_, ?_⟩)
    · cases h.1 K with | cons a b => exact a
    · have := h.2.1; rw [PyData.canLayAll0, Bool.and_eq_true] at this; exact this.1
    · have := h.2.2; rw [PyData.eqvAll, Bool.and_eq_true] at this; exact this.1
    · cases h.1 K with | cons a b => exact b
    · have := h.2.1; rw [PyData.canLayAll0, Bool.and_eq_true] at this; exact this.2
    · have := h.2.2; rw [PyData.eqvAll, Bool.and_eq_true] at this; exact this.2
def rEqX : R2 := fun x y H Q => ∃ d e, Dt H x d ∧ Dt H y e ∧ d.depth ≤ 60 ∧ e.depth ≤ 60 ∧ Q (.bl (PyData.eqv d e)) H
theorem op_eqX (hu : X.A.units + 64 < cLine) : OpR X (compareOp .Eq) rEqX := (op_eqD hu).weak fun _ _ _ _ ⟨d, e, h1, h2, d1, d2, q⟩ => ⟨d, e, h1.has, h2.has, shaped_of h1.lay (by omega), shaped_of h2.lay (by omega), q⟩
/-! ### methods of a list -/
def tBL (r : V → List V → Hp → VK → Prop) (to : TE) (t : TA) : TE := fun σ H Q => to σ H fun x H1 => ∃ p xs, x = .ref p ∧ H1 p = some (.lst xs) ∧ t σ H1 fun xs H2 => r x xs H2 Q
theorem PE.weak {e : Expr} {t t' : TE} (h : PE X e t) (w : ∀ σ H Q, t' σ H Q → t σ H Q) : PE X e t' := fun pins s σ H Q I q => h pins s σ H Q I (w _ _ _ q)
theorem pe_lm {o e : Expr} {es : List Expr} {to : TE} {t : TA} {name : Str} {apos cpos : Pos} {id : String} {r : V → List V → Hp → VK → Prop}
    (slot : Slot "list" name id) (hty : typeOf (.builtin id) = pure (.type "method_descriptor")) (hm : MtR X id r) (ho : PE X o to) (ha : PA X (e :: es) t)
    (hbase : attributeBase o name X.env (eval o X.env) = eval o X.env := by rfl)
    (hfew : ((backTo cpos (starEach (e :: es) X.env)).all (fun x => !x.1) && (backToKw cpos (keywordEach [] X.env)).all (fun x => x.1.isSome)
      && decide ((e :: es).length + ([] : List Keyword).length + (if ([] : List Keyword).isEmpty then 0 else 1) < 30)) = true := by rfl)
    (hline : (apos.endLine == cpos.line) = true := by rfl) (hs : starEach (e :: es) X.env = (false, eval e X.env) :: starEach es X.env := by rfl) (hplain : (backTo cpos (starEach es X.env)).any (·.1) = false := by rfl) :
    PE X (.Call (.Attribute o name apos) (e :: es) [] cpos) (tBL r to t) := by
  intro pins s σ H Q I h
  refine wpAny_Call_method_late hbase hfew hline rfl (thn (ho pins s σ H _ I h) fun v s1 ⟨x, H1, I1, r1, p, xs, ex, ep, q1⟩ => ?_)
  subst ex
  obtain ⟨h1, h2⟩ := tyV_is I1 r1 (show tyV X.K "list" (.ref p) H1 from .inl ⟨rfl, xs, SqL.of ep⟩)
  refine ⟨"list", id, PySem.F.plainAttrs_list, slot, hty, h1, h2, ?_⟩
  have hA := ha cpos pins s1 σ H1 _ I1 q1
  rw [hs] at hA ⊢
  refine Calls.callWith_builtin (by show (false || (backTo cpos (starEach es X.env)).any (·.1)) = false; rw [hplain] <;> rfl) (Calls.evalArgs_plain ?_)
  exact thn hA fun us s2 ⟨vs, H2, I2, r2, q2⟩ => hm pins s2 σ H2 _ vs v us Q I2 r1 r2 q2
def rSumX : List V → Hp → VK → Prop := fun xs H Q => ∃ (p : Addr) (ns : List Int), xs = [.ref p] ∧ H p = some (.lst (ns.map V.int)) ∧ Q (.int ns.sum) H
theorem call_sumX (hc : X.calm = true) : CallR X (.builtin "sum") rSumX := (call_sum hc).weak fun _ _ _ ⟨p, ns, e, h, q⟩ => ⟨p, ns, e, SqL.of h, q⟩
theorem make_same {H H' : Hp} {x dx : Addr} {o1 o2 : HO} (hx : H x = none) (hdx : H dx = none) (k : Keep [x] (upd (upd H dx o1) x o2) H') : Same H H' := fun b o e => by
  have n1 : b ≠ x := ne_of_none e hx
  have n2 : b ≠ dx := ne_of_none e hdx
  exact k b o (by rw [upd_ne n1, upd_ne n2]; exact e) (by simp; exact n1)
/-! ### a body in parts -/
theorem use3 {t1 t2 t3 R : TS} {D : Ends} {σ : St} {H : Hp} (Pm : St → Hp → Prop) (key : ∀ σ' H', Pm σ' H' → R D σ' H') (go : ∀ R' : TS, (∀ σ' H', Pm σ' H' → R' D σ' H') → tSeq t1 (tSeq t2 (tSeq t3 R')) D σ H) : tSeq t1 (tSeq t2 (tSeq t3 R)) D σ H := go R key
theorem use6 {t1 t2 t3 t4 t5 t6 R : TS} {D : Ends} {σ : St} {H : Hp} (Pm : St → Hp → Prop) (key : ∀ σ' H', Pm σ' H' → R D σ' H') (go : ∀ R' : TS, (∀ σ' H', Pm σ' H' → R' D σ' H') → tSeq t1 (tSeq t2 (tSeq t3 (tSeq t4 (tSeq t5 (tSeq t6 R'))))) D σ H) : tSeq t1 (tSeq t2 (tSeq t3 (tSeq t4 (tSeq t5 (tSeq t6 R))))) D σ H := go R key
theorem ims_ints {H : Hp} : ∀ ns : List Int, Ims H (ns.map V.int) (ns.map PyData.int)
  | [] => .nil
  | n :: ns => .cons (.int n) (ims_ints ns)
theorem noT1 {H : Hp} {b : Addr} (h : NoT H b) : ∀ c ∈ [b], NoT H c := fun c hc => by rw [List.mem_singleton] at hc; subst hc; exact h
theorem noT2 {H : Hp} {a b : Addr} (h1 : NoT H a) (h2 : NoT H b) : ∀ c ∈ [a, b], NoT H c := fun c hc => by
  rcases List.mem_cons.mp hc with rfl | hc
  · exact h1
  · rw [List.mem_singleton] at hc; subst hc; exact h2
theorem ixN_20 : ixN 2 0 = some 0 := rfl
theorem ixN_21 : ixN 2 1 = some 1 := rfl
theorem SqL.keepX {K : PySem.W.Frag} {S : List Addr} {H H' : Hp} {a : Addr} {xs : List V} (k : Keep S H H') (hs : ∀ b ∈ S, (∃ C dx fs, H b = some (.ins C dx fs)) ∨ (∃ kvs, H b = some (.dK kvs)) ∨ H b = none) (h : SqL K H a xs) : SqL K H' a xs := by
  have no : ∀ o, H a = some o → (∀ C dx fs, o ≠ .ins C dx fs) → (∀ kvs, o ≠ .dK kvs) → a ∉ S := fun o e n1 n2 z => by
    rcases hs a z with ⟨C, dx, fs, e'⟩ | ⟨kvs, e'⟩ | e'
    · rw [e] at e'; exact n1 _ _ _ (Option.some.inj e')
    · rw [e] at e'; exact n2 _ (Option.some.inj e')
    · rw [e] at e'; cases e'
  rcases h with (h | ⟨o, h⟩) | h
  · exact .inl (.inl (k _ _ h (no _ h (fun _ _ _ z => nomatch z) (fun _ z => nomatch z))))
  · exact .inl (.inr ⟨o, k _ _ h (no _ h (fun _ _ _ z => nomatch z) (fun _ z => nomatch z))⟩)
  · exact .inr h
/-! ### the first branch of an if in parts -/
/-! ### small facts for simp -/
theorem atI_0 {α : Type} {a : α} {l : List α} : atI (a :: l) 0 = some a := by simp [atI, ixN]
theorem atI_1 {α : Type} {a b : α} {l : List α} : atI (a :: b :: l) 1 = some b := by
  simp only [atI, ixN, List.length_cons]
  rw [if_pos (by decide), if_pos (by omega)]
  rfl
theorem atI_nat' {α : Type} {l : List α} {n : Nat} : atI l (n : Int) = l[n]? := by
  unfold atI ixN
  rw [if_pos (by omega)]
  split
  · simp
  · rw [List.getElem?_eq_none (by omega)]; rfl
theorem atI_pos {α : Type} {l : List α} {k : Int} (h0 : 0 ≤ k) : atI l k = l[k.toNat]? := by
  obtain ⟨n, rfl⟩ := Int.eq_ofNat_of_zero_le h0
  exact atI_nat'
theorem eqX_same {H : Hp} {x y : V} {d : PyData} {Q : VK} (h1 : Dt H x d) (h2 : Dt H y d) (hd : d.depth ≤ 60) (q : Q (.bl true) H) : rEqX x y H Q :=
  ⟨d, d, h1, h2, hd, hd, by rw [h1.2.2]; exact q⟩
/-! ### isinstance with a built-in class -/
theorem depth_list {n : Nat} {ds : List PyData} (h : ∀ d ∈ ds, d.depth ≤ n) : (PyData.list ds).depth ≤ n + 1 := by
  have := depthAll_le h
  rw [PyData.depth]
  omega
theorem setO_di' {kvs : List (Key × V)} {i : Int} {v : V} : setO (.dK kvs) (.int i) v = if kvs.length < sizeLine then some (.dK (putK kvs (Sum.inl i) v)) else none := rfl
theorem inO_l' {xs : List V} {x : V} : inO (.lst xs) x = if flatV x = true ∧ xs.all flatV = true then some (inV x xs) else none := rfl
end
end L2
/-! Loops over texts and over a dict's keys; texts compared. -/
namespace L2
open PySem PySem.Spec PyProof.Rows
section
variable {X : Cx}
/-! ### loops and comprehensions over what stands fast -/
/-! ### texts -/
/-! ### list(d) -/
theorem vals_of : ∀ {xs : List V} {us : List Value}, xs.length = us.length → (∀ (j : Nat) (x : V) (u : Value), xs[j]? = some x → us[j]? = some u → RelV x u) → Vals xs us
  | [], [], _, _ => .nil
  | [], _ :: _, h, _ => nomatch h
  | _ :: _, [], h, _ => nomatch h
  | x :: xs, u :: us, h, f => .cons (f 0 x u rfl rfl) (vals_of (by simpa using h) fun j y v e1 e2 => f (j + 1) y v (by simpa using e1) (by simpa using e2))
theorem keyIs_rel {k : Key} {v : Value} (h : keyIs k v = true) : RelV (kV k) v := by
  rcases keyIs_shape h with ⟨i, t, rfl, rfl⟩ | ⟨x, t, rfl, rfl⟩
  · exact ⟨t, rfl⟩
  · exact ⟨t, rfl⟩
theorem keys_vals {kvs : List (Key × V)} {vs : List (Key × Value)} {us : List Value} (rel : KV kvs vs) (hl : us.length = vs.length) (hv : ∀ (j : Nat) (v : Value), us[j]? = some v → ∃ k x, vs[j]? = some (k, x) ∧ keyIs k v = true) : Vals (kvs.map fun q => kV q.1) us := by
  have hk := rel.keys
  refine vals_of (by rw [List.length_map, rel.length, hl]) fun j x u e1 e2 => ?_
  obtain ⟨k, y, e3, e4⟩ := hv j u e2
  rw [List.getElem?_map] at e1
  obtain ⟨q, hq, rfl⟩ := Option.map_eq_some_iff.mp e1
  have : (kvs.map (·.1))[j]? = (vs.map (·.1))[j]? := by rw [hk]
  rw [List.getElem?_map, List.getElem?_map, hq, e3] at this
  have hkq : q.1 = k := by simpa using this
  rw [hkq]
  exact keyIs_rel e4
def rListD : List V → Hp → VK → Prop := fun xs H Q => ∃ p kvs, xs = [.ref p] ∧ H p = some (.dK kvs) ∧ ∀ l, H l = none → Q (.ref l) (upd H l (.lst (kvs.map fun q => kV q.1)))
theorem call_listD (hc : X.calm = true) : CallR X (.type "list") rListD := by
  intro pins s σ H xs us Q I r h
  obtain ⟨p, kvs, rfl, e, q⟩ := h
  obtain ⟨u, rfl, rx⟩ := vals1 r
  cases rx
  obtain ⟨hz, hS, vs, rel, dd⟩ := dk_of I.hok e
  obtain ⟨ep, hat⟩ := dd.dictAt
  refine PySem.W.kdl_call (PySem.W.kdl_dict (knd := mixKind X.prog X.w) (kvs := vs) (ep := ep) hS) (I.ok.hd hc) hat (by rw [← rel.length]; exact hz) fun h' tk acc' c' hk hD hacc => ?_
  have hn := I.hok.fresh (Nat.le_refl s.heap.objs.size)
  refine ⟨.ref s.heap.objs.size, _, I.laid (o := .lst (kvs.map fun q => kV q.1)) hk (Nat.le_refl _) ?_, rfl, q _ hn⟩
  refine ⟨by rw [List.length_map]; exact hz, acc'.toList, c', ?_, by rw [Array.toArray_toList]; exact hD⟩
  exact keys_vals rel (by rw [Array.length_toList]; exact hacc.1) fun j v e => hacc.2 j v (by rw [← Array.getElem?_toList]; exact e)
/-! ### a, b = a list -/
theorem draw_list {prog : Program} {w : World} {A : Around} {E : Value → Shared → Prop} {it l : Addr} {items : Array Value} (hne : l ≠ it) : ∀ (n i : Nat) (s : Shared) (Q : List Value → Shared → Prop), s.heap.IsListIter it l i → s.heap.IsList l items → i + n ≤ items.size →
    (∀ h', h'.IsListIter it l (i + n) → Heap.SameBut it s.heap h' → Q ((items.toList.drop i).take n) { s with heap := h' }) → wpAny (model prog w) A (draw (.ref it) n) Q E s
  | 0, i, s, Q, hit, _, _, hQ => by
    show wpAny _ _ (pure []) Q E s
    exact wpAny_pure (by simpa using hQ s.heap hit (Heap.SameBut.refl ..))
  | n + 1, i, s, Q, hit, ht, hle, hQ => by
    have hlt : i < items.size := by omega
    show wpAny _ _ (pyNext (.ref it) >>= _) Q E s
    refine wpAny_bind (wpAny_pyNext_list_item hit ht (x := items[i]) (by simp [hlt]) fun h₁ hit₁ hs₁ => ?_)
    have ht1 : h₁.IsList l items := by
      obtain ⟨o, ho, r⟩ := ht
      exact ⟨o, hs₁.extBut _ _ hne ho, r⟩
    refine wpAny_bind (wpAny_holding (draw_list hne n (i + 1) _ _ hit₁ ht1 (by omega) fun h₂ hit₂ hs₂ => wpAny_pure ?_))
    have hd : items.toList.drop i = items[i] :: items.toList.drop (i + 1) := by simp [List.drop_eq_getElem_cons, hlt]
    have := hQ h₂ (by rw [show i + (n + 1) = i + 1 + n by omega]; exact hit₂) (hs₁.trans hs₂)
    rw [hd, List.take_succ_cons] at this
    exact this
theorem unpackItems_list {prog : Program} {w : World} {A : Around} {E : Value → Shared → Prop} {s : Shared} {t : Addr} {items : Array Value} {Q : List Value → Shared → Prop} (hh : A.handled = none) (ht : s.heap.IsList t items)
    (hQ : ∀ h', Heap.ExtBut s.heap.objs.size s.heap h' → Q items.toList { s with heap := h' }) : wpAny (model prog w) A (unpackItems (.ref t) items.size none) Q E s := by
  have hlt : t ≠ s.heap.objs.size := by obtain ⟨o, ho, _⟩ := ht; exact Nat.ne_of_lt (Heap.lt_size ho)
  unfold unpackItems
  refine wpAny_bind ?_
  · unfold notIterableAtAll
    refine wpAny_bind (wpAny_specialOf ht.typeIs PySem.F.slot_list_iter.lookup ?_)
    refine wpAny_pure ?_
    simp only [Bool.false_eq_true, if_false]
    refine wpAny_bind (wpAny_holding (wpAny_pyIter_list ht ?_))
    have ht0 : ∀ o', (s.heap.push o').IsList t items := fun o' => by
      obtain ⟨o, ho, r⟩ := ht
      exact ⟨o, Heap.get?_push_of_some _ ho, r⟩
    refine wpAny_bind (wpAny_holding (draw_list hlt items.size 0 _ _ ⟨_, Heap.get?_push_size _ rfl, rfl, rfl⟩ (ht0 _) (by omega) fun h₁ hit₁ hs₁ => ?_))
    have hall : List.take items.size (List.drop 0 items.toList) = items.toList := by
      rw [List.drop_zero]; exact List.take_of_length_le (by simp)
    rw [hall]
    rw [if_neg (by simp)]
    have ht₁ : h₁.IsList t items := by
      obtain ⟨o, ho, r⟩ := ht0 _
      exact ⟨o, hs₁.extBut _ _ hlt ho, r⟩
    refine wpAny_bind (wpAny_holding (wpAny_pyNext_list_end hh hit₁ ht₁ (by simp) fun h₂ he₂ => ?_))
    simp only [Option.isSome_none, Bool.false_eq_true, if_false]
    refine wpAny_pure (hQ h₂ fun b o hb e => he₂ b o hb (hs₁.extBut b o hb (Heap.get?_push_of_some _ e)))
theorem assign_Tuple_list {prog : Program} {w : World} {A : Around} {E : Value → Shared → Prop} {s : Shared} {env : Env} {elts : List Expr} {x1} {pos : Pos} {t : Addr} {items : Array Value} {Q : Unit → Shared → Prop} (hh : A.handled = none) (ht : s.heap.IsList t items)
    (hn : (assignEach elts env).length = items.size) (hstar : (assignEach elts env).findIdx? (·.1) = none)
    (h : ∀ h', Heap.ExtBut s.heap.objs.size s.heap h' → wpAny (model prog w) A (assignInOrder ((assignEach elts env).map (·.2)) items.toList) Q E { s with heap := h' }) :
    wpAny (model prog w) A (assign (.Tuple elts x1 pos) env (.ref t)) Q E s := by
  rw [assign_Tuple]
  refine wpAny_bind (wpAny_standAt ?_)
  unfold unpack
  rw [hn, hstar]
  exact wpAny_bind (wpAny_holding (unpackItems_list hh ht h))
/-- a, b, .. = a tuple or a list of that length -/
def gSeqX (n : Nat) (t : TGs) : TG := fun v σ H Q => ∃ a o xs, v = .ref a ∧ H a = some o ∧ seqO o = some xs ∧ xs.length = n ∧ t xs σ H Q
theorem pg_seqX {es : List Expr} {k : Nat} {t : TGs} {n : Nat} {pos : Pos} (hc : X.calm = true) (hg : PGs X es t)
    (hn : (assignEach es X.env).length = n := by rfl) (hst : (assignEach es X.env).findIdx? (·.1) = none := by rfl) : PG X (.Tuple es k pos) (gSeqX n t) := by
  intro pins s σ H v u Q I rv q
  obtain ⟨a, o, xs, e, hx, g, hl, q⟩ := q
  cases o with
  | tup ys => cases g; exact pg_tupK (K := X.K) (k := k) (pos := pos) hc hg hn hst rfl pins s σ H v u Q I rv ⟨a, _, e, SqT.of hx, hl, q⟩
  | lst ys =>
    cases g
    subst e
    cases rv
    obtain ⟨its, r, ht, hz⟩ := I.list (SqL.of (K := X.K) hx)
    refine assign_Tuple_list (I.ok.hd hc) ht.isList (by simp [hn, ← hl, r.length]) hst fun h' hx' => ?_
    have I1 : Inv X pins σ H { s with heap := h' } := I.kept (t' := s.toks) fun b o e => hx' b o (Nat.ne_of_lt (Heap.lt_size e)) e
    exact hg pins _ σ H _ _ Q I1 (by simpa using r) q
  | _ => cases g
end
end L2
/-! A dict's keys as a view; sorted. -/
namespace L2
open PySem PySem.Spec PyProof.Rows
section
variable {X : Cx}
/-! ### range objects, list(range(..)) -/
theorem rng_laid {pins : List (Addr × Obj)} {σ : St} {H : Hp} {s : Shared} {lo hi : Int} {t u v : Tok} {tk : Nat} {Q : VK} (I : Inv X pins σ H s) (q : ∀ p, H p = none → Q (.ref p) (upd H p (.rng lo hi))) :
    EP X pins σ Q (.ref s.heap.objs.size) { s with heap := s.heap.push { cls := .type "range", data := .fields #[.int lo t, .int hi u, .int 1 v] }, toks := tk } :=
  ⟨.ref s.heap.objs.size, _, I.laid (o := .rng lo hi) (fun b o e => Heap.get?_push_of_some _ e) (Nat.le_refl _) ⟨t, u, v, Heap.get?_push_size _ rfl⟩, rfl, q _ (I.hok.fresh (Nat.le_refl _))⟩
def rRngs : List V → Hp → VK → Prop := fun xs H Q => (∃ j : Int, xs = [.int j] ∧ ∀ p, H p = none → Q (.ref p) (upd H p (.rng 0 j))) ∨ ∃ i j : Int, xs = [.int i, .int j] ∧ ∀ p, H p = none → Q (.ref p) (upd H p (.rng i j))
theorem call_rngs : CallR X (.type "range") rRngs := by
  intro pins s σ H xs us Q I r h
  rcases h with ⟨j, rfl, q⟩ | ⟨i, j, rfl, q⟩
  · obtain ⟨u, rfl, t, rfl⟩ := vals1 r
    exact call_range_1 (rng_laid I q)
  · obtain ⟨u, w', rfl, ⟨t, rfl⟩, ⟨t', rfl⟩⟩ := vals2 r
    exact call_range_2 (rng_laid I q)
def rListR : List V → Hp → VK → Prop := fun xs H Q => ∃ (p : Addr) (lo hi : Int), xs = [.ref p] ∧ H p = some (.rng lo hi) ∧ -(2 ^ 62) ≤ lo ∧ lo < 2 ^ 62 ∧ -(2 ^ 62) ≤ hi ∧ hi < 2 ^ 62 ∧ (hi - lo).toNat ≤ 100000 ∧ ∀ l, H l = none → Q (.ref l) (upd H l (.lst (((List.range (hi - lo).toNat).map fun (i : Nat) => lo + (i : Int)).map V.int)))
theorem call_listR (hc : X.calm = true) : CallR X (.type "list") rListR := by
  intro pins s σ H xs us Q I r h
  obtain ⟨p, lo, hi, rfl, ep, h1, h2, h3, h4, hl, q⟩ := h
  obtain ⟨u, rfl, rx⟩ := vals1 r
  cases rx
  obtain ⟨t, u, v, e⟩ := I.hok p _ ep
  have hsz : Builtin.Range.rangeSize lo hi 1 = (((hi - lo).toNat : Nat) : Int) := by rw [rangeSize_one]; split <;> omega
  refine call_list_range (I.ok.hd hc) (show IsRange s.heap p lo hi 1 t u v from e) (small_one h1 h2 h3 h4) hsz (by omega) fun h' tk acc' c' hk hD hacc => ?_
  have hn := I.hok.fresh (Nat.le_refl s.heap.objs.size)
  refine ⟨.ref s.heap.objs.size, _, I.laid (o := .lst (((List.range (hi - lo).toNat).map fun (i : Nat) => lo + (i : Int)).map V.int)) hk (Nat.le_refl _) ?_, rfl, q _ hn⟩
  refine ⟨by rw [List.length_map, List.length_map, List.length_range, sizeLine_eq]; omega, acc'.toList, c', ?_, by rw [Array.toArray_toList]; exact hD⟩
  refine vals_of (by rw [List.length_map, List.length_map, List.length_range, Array.length_toList]; exact hacc.1.symm) fun j x z e1 e2 => ?_
  obtain ⟨t2, rfl⟩ := hacc.2 j z (by rw [← Array.getElem?_toList]; exact e2)
  rw [List.getElem?_map, List.getElem?_map] at e1
  have hj : j < (hi - lo).toNat := by
    have := (Array.getElem?_eq_some_iff.mp (show acc'[j]? = some _ by rw [← Array.getElem?_toList]; exact e2)).1
    rw [hacc.1] at this; exact this
  rw [List.getElem?_range hj] at e1
  simp at e1
  subst e1
  exact ⟨t2, by simp⟩
end
end L2
/-! for i, x in enumerate(a list). -/
namespace L2
open PySem PySem.Spec PyProof.Rows
section
variable {X : Cx}
end
end L2
namespace L2
open PySem
/-- not a starred one -/
def noStar : Expr → Bool
  | .Starred .. => false
  | _ => true
theorem star_cons {e : Expr} {es : List Expr} {env : Env} (h : noStar e = true) : starEach (e :: es) env = (false, eval e env) :: starEach es env := by
  cases e <;> first | rfl | cases h
section
variable {X : Cx} {e : Expr} {es : List Expr} {te : TE} {t : TA}
/-- pa_cons, quick in long lists -/
theorem pa_cX (ha : PE X e te) (hr : PA X es t) (h : noStar e = true := by rfl) : PA X (e :: es) (tCons te t) := pa_cons ha hr (star_cons h)
end
/-! PSs, PS closed to the elaborator: it can't evaluate the program's text inside them -/
structure WSs (X : Cx) (sts : List Stmt) (t : TS) : Prop where
  h : PSs X sts t
structure WS (X : Cx) (st : Stmt) (t : TS) : Prop where
  h : PS X st t
section
variable {X : Cx} {st : Stmt} {rest : List Stmt} {t u : TS}
end
end L2
/-! Slices and multiples of texts. -/
namespace L2
open PySem PySem.Spec PyProof.Rows
section
variable {X : Cx}
end
mutual
theorem Has.same {K : PySem.W.Frag} {H H' : Hp} (s : Same H H') : ∀ {x : V} {d : PyData}, Has K H x d → Has K H' x d
  | _, _, .non => .non
  | _, _, .bl b => .bl b
  | _, _, .int i => .int i
  | _, _, .str x => .str x
  | _, _, .lst h hs => .lst (s.seq h) (HasAll.same s hs)
  | _, _, .tup h hs => .tup (s.seqT h) (HasAll.same s hs)
theorem HasAll.same {K : PySem.W.Frag} {H H' : Hp} (s : Same H H') : ∀ {xs : List V} {ds : List PyData}, HasAll K H xs ds → HasAll K H' xs ds
  | _, _, .nil => .nil
  | _, _, .cons h hs => .cons (Has.same s h) (HasAll.same s hs)
end
theorem Dt.same {H H' : Hp} {x : V} {d : PyData} (h : Dt H x d) (s : Same H H') : Dt H' x d := ⟨fun K => (h.1 K).same s, h.2⟩
theorem Dts.same {H H' : Hp} {x : List V} {d : List PyData} (h : Dts H x d) (s : Same H H') : Dts H' x d := ⟨fun K => (h.1 K).same s, h.2⟩
end L2
/-! Floor division by a wide divisor. -/
namespace L2
open PySem PySem.Spec PyProof.Rows
section
variable {X : Cx}
def CDivW (_i j : Int) : Prop := 0 < j ∧ j.natAbs.log2 < 9000
theorem op_fdivW : OpR X (binaryOp .FloorDiv) (rI CDivW fun i j => .int (i / j)) := opI fun i j _ _ _ _ _ hc q => by
  have h1 : (0 : Int) < j := hc.1
  exact floordiv_int (by omega) (by rw [Int.fdiv_eq_ediv_of_nonneg i (by omega)]; exact q) (.inl (PyProof.noPylong_of_log2 hc.2))
theorem cdivw_of {i j : Int} (h : 0 < j) (h2 : j < 2 ^ 200) : CDivW i j := by
  refine ⟨h, ?_⟩
  have hz : j.natAbs ≠ 0 := by omega
  rw [Nat.log2_lt hz]
  have h3 : j.natAbs < 2 ^ 200 := by omega
  exact Nat.lt_of_lt_of_le h3 (Nat.pow_le_pow_right (by decide) (by decide))
end
end L2
/-! Loops over a dict: its keys, its values, its items. While it is walked, the dict is held as it is. -/
namespace L2
open PySem PySem.Spec PyProof.Rows
section
variable {X : Cx} {pins : List (Addr × Obj)} {σ : St} {H : Hp} {s : Shared} {d : Addr} {kvs : List (Key × V)}
theorem Inv.frz (I : Inv X pins σ H s) (e : H d = some (.dK kvs)) : ∃ o, s.heap.get? d = some o ∧ Inv X pins σ (upd H d (.frz o (.dK kvs))) s := by
  obtain ⟨hz, hS, vs, rel, o, es, ep, ho, r⟩ := I.hok d _ e
  refine ⟨o, ho, I.un (t' := s.toks) (h' := s.heap) ⟨fun b o q _ _ _ => q, fun b o q _ _ _ => ⟨o.slots, q⟩, fun b o _ n _ => ?_, fun b o q _ => ⟨o, q⟩, fun b xs q => ?_, fun b o u q => ?_, fun b ps q => ?_⟩ fun b u q => ?_⟩
  · rw [upd_ne (Ne.symm (ne_of_none e n))]; exact n
  · rw [upd_ne (ne_of q e (by intro z; cases z))]; exact q
  · rw [upd_ne (ne_of q e (by intro z; cases z))]; exact q
  · exact ⟨#[], by rw [upd_ne (ne_of q e (by intro z; cases z)), q]; simp⟩
  · by_cases hb : b = d
    · subst hb
      rw [upd_same] at q
      cases q
      exact ⟨ho, hz, hS, vs, rel, o, es, ep, ho, r⟩
    · rw [upd_ne hb] at q
      exact (I.hok b u q).stay (fun _ _ _ r => r) (fun c r => by rw [upd_ne (ne_of r e (by intro z; cases z))]; exact r) fun c xs r => by rw [upd_ne (ne_of r e (by intro z; cases z))]; exact r
theorem Inv.unf {o : Obj} (I : Inv X pins σ H s) (e : H d = some (.frz o (.dK kvs))) (hn : ∀ o u, X.H₀ d ≠ some (.frz o u)) : Inv X pins σ (upd H d (.dK kvs)) s := by
  have ne : ∀ {b : Addr}, H b = none → b ≠ d := fun h z => by rw [z, e] at h; cases h
  refine ⟨I.ok, I.os, I.bare, ⟨I.base.keep, I.base.slot, fun b o q n hx => ?_, I.base.there, fun b xs q => ?_, fun b o u q => ?_, fun b ps q => ?_⟩, I.loc, I.cell, ?_, fun x c h => ?_, fun p hp => ?_, fun b u q => ?_, I.len⟩
  · have := I.base.free b o q n hx
    rw [upd_ne (ne this)]; exact this
  · have := I.base.tups b xs q
    rw [upd_ne (ne_of this e (by intro z; cases z))]; exact this
  · have := I.base.frzs b o u q
    have hb : b ≠ d := fun z => hn o u (z ▸ q)
    rw [upd_ne hb]; exact this
  · obtain ⟨more, this⟩ := I.base.tbls b ps q
    exact ⟨more, by rw [upd_ne (ne_of this e (by intro z; cases z))]; exact this⟩
  · rw [upd_ne (ne I.free)]; exact I.free
  · rw [upd_ne (ne (I.freeC x c h))]; exact I.freeC x c h
  · obtain ⟨h1, h2, h3⟩ := I.pin p hp
    exact ⟨h1, by rw [upd_ne (ne h2)]; exact h2, h3⟩
  · by_cases hb : b = d
    · subst hb
      rw [upd_same] at q
      cases q
      exact (I.hok b _ e).2
    · rw [upd_ne hb] at q
      exact (I.hok b u q).stay (fun _ _ _ r => r) (fun c r => by rw [upd_ne (ne_of r e (by intro z; cases z))]; exact r) fun c xs r => by rw [upd_ne (ne_of r e (by intro z; cases z))]; exact r
def epOf (o : Obj) : Nat := match o.data with
  | .dict _ ep => ep
  | _ => 0
theorem frz_at {P : Program} {w : World} {h : Heap} {o : Obj} (ok : HOk P w H h) (e : H d = some (.frz o (.dK kvs))) : h.get? d = some o ∧ (d == sysModules) = false ∧ kvs.length ≤ sizeLine ∧ ∃ vs, KV kvs vs ∧ h.DictAt (mixKind P w) d vs (epOf o) := by
  obtain ⟨ho, hz, hS, vs, rel, o', es, ep, ho', hx, hd, r⟩ := ok d _ e
  rw [ho] at ho'
  cases ho'
  have : epOf o = ep := by unfold epOf; rw [hd]
  rw [this]
  exact ⟨ho, hS, hz, vs, rel, o, es, ho, hx, hd, r⟩
theorem is_kV {P : Program} {w : World} {k : Key} {u : Value} (h : (mixKind P w).is k u = true) : RelV (kV k) u := by
  rcases keyIs_shape (show keyIs k u = true from h) with ⟨i, t, rfl, rfl⟩ | ⟨x, t, rfl, rfl⟩
  · exact ⟨t, rfl⟩
  · exact ⟨t, rfl⟩
theorem KV.at {vs : List (Key × Value)} (r : KV kvs vs) {i : Nat} {p : Key × V} (h : kvs[i]? = some p) : ∃ u, vs[i]? = some (p.1, u) ∧ RelV p.2 u := by
  obtain ⟨q, hq, h1, h2⟩ := paired_get r h
  exact ⟨q.2, by rw [hq, h1], h2⟩
end
/-- what is walked of the dict at d, held as o -/
def ItF (d : Addr) (o : Obj) (kvs : List (Key × V)) (xs : List V) : It := ⟨fun i H => i < xs.length ∧ H d = some (.frz o (.dK kvs)), fun i H x H' => H' = H ∧ xs[i]? = some x, fun i H => i = xs.length ∧ H d = some (.frz o (.dK kvs))⟩
section
variable {P : Program} {w : World} {K : PySem.W.Frag} {tg : Expr} {d it : Addr} {o : Obj} {kvs : List (Key × V)}
theorem turn_dkey : Turn P w K tg (ItF d o kvs (kvs.map fun q => kV q.1)) [it] it (fun i h => h.IsKeyIter it d i kvs.length (epOf o)) where
  mem := by simp
  obj := fun i h st b hb => by
    have e : b = it := by simpa using hb
    subst e
    obtain ⟨o, e, c, d⟩ := st
    exact ⟨o, e, fun v z => by rw [d] at z; cases z⟩
  keep := fun i h h' st k => st.at fun o e => k it (by simp) o e
  item := by
    intro X hP hw hK hc i pins s σ H E I hf st hg
    subst hP hw hK
    obtain ⟨hi, hd⟩ := hg
    obtain ⟨ho, hS, hz, vs, rel, hat⟩ := frz_at I.hok hd
    obtain ⟨f0, f1, f2, f3, f4, f5⟩ := hf it (by simp)
    rw [List.length_map] at hi
    obtain ⟨u, hu, ru⟩ := rel.at (List.getElem?_eq_getElem hi)
    have hl := rel.length
    rw [hl] at st
    refine wpAny_pyNext_dict_item st hat hu fun key h' hk st' sb => ?_
    rw [← hl] at st'
    have I1 : Inv X pins σ H { s with heap := h' } := I.turned (t' := s.toks) (fun b o hb e => (sb.2 b hb).trans e) f0 f1 f3 f4 f5
    obtain ⟨o', e, c, d'⟩ := id st'
    refine ⟨key, rfl, go_of (s := { s with heap := h' }) e c d' (by decide) ⟨_, H, I1, is_kV hk, ⟨rfl, ?_⟩, st', fun b hb => (hf b hb).1⟩⟩
    rw [List.getElem?_map, List.getElem?_eq_getElem hi]
    rfl
  done := by
    intro X hP hw hK hc i pins s σ H E I hf st hg
    subst hP hw hK
    obtain ⟨hi, hd⟩ := hg
    obtain ⟨ho, hS, hz, vs, rel, hat⟩ := frz_at I.hok hd
    obtain ⟨f0, f1, f2, f3, f4, f5⟩ := hf it (by simp)
    have hl := rel.length
    rw [hl] at st
    rw [List.length_map] at hi
    exact wpAny_pyNext_dict_end (I.ok.hd hc) st hat (List.getElem?_eq_none (by omega)) fun h' eb => ⟨rfl, I.turned (t' := s.toks) (fun b o hb e => eb b o hb e) f0 f1 f3 f4 f5⟩
  self := fun _ _ _ _ _ st h => wpAny_pyIter_keyiter st h
end
section
variable {X : Cx}
def iDKey (td : TE) : TI := fun σ H R => td σ H fun x H1 => ∃ d kvs, x = .ref d ∧ H1 d = some (.dK kvs) ∧ ∀ o, R (ItF d o kvs (kvs.map fun q => kV q.1)) (upd H1 d (.frz o (.dK kvs)))
theorem pi_dkey {tg l : Expr} {td : TE} (hl : PE X l td) : PI X tg l (iDKey td) := by
  intro pins s σ H R I h
  refine thn (hl pins s σ H _ I h) fun v s1 ⟨x, H1, I1, r1, q1⟩ => ?_
  obtain ⟨d, kvs, rfl, hd, q⟩ := q1
  cases r1
  obtain ⟨o, ho, I2⟩ := I1.frz hd
  obtain ⟨_, hS, hz, vs, rel, hat⟩ := frz_at I2.hok upd_same
  refine wpAny_pyIter_dict hS hat ?_
  have hne : s1.heap.objs.size ≠ d := Nat.ne_of_gt (Heap.lt_size ho)
  refine ⟨s1.heap.objs.size, [s1.heap.objs.size], _, _, _, rfl, I2.kept (t' := s1.toks) fun b o e => Heap.get?_push_of_some _ e, turn_dkey (o := o), ⟨_, Heap.get?_push_size _ rfl, rfl, by rw [rel.length]; rfl⟩, fun b hb => ?_, q o⟩
  have e : b = s1.heap.objs.size := by simpa using hb
  subst e
  exact I2.fpOk (Nat.le_refl _) (I2.hok.fresh (Nat.le_refl _))
/-! ### behind the loop -/
def Unf (H H' H'' : Hp) : Prop := H'' = H' ∨ ∃ d o kvs, H' d = some (.frz o (.dK kvs)) ∧ (∀ o u, H d ≠ some (.frz o u)) ∧ H'' = upd H' d (.dK kvs)
theorem Inv.unfs {pins : List (Addr × Obj)} {σ σ' : St} {H H' H'' : Hp} {s s' : Shared} (I : Inv X pins σ H s) (I' : Inv X pins σ' H' s') (u : Unf H H' H'') : Inv X pins σ' H'' s' := by
  rcases u with rfl | ⟨d, o, kvs, e, hn, rfl⟩
  · exact I'
  · exact I'.unf e fun o u z => hn o u (I.base.frzs d o u z)
def tUnf (t : TS) : TS := fun D σ H => t { nx := fun σ' H' => ∃ H'', Unf H H' H'' ∧ D.nx σ' H'', rt := fun v H' => ∃ H'', Unf H H' H'' ∧ D.rt v H'', bk := D.bk, ct := D.ct } σ H
theorem ps_unf {st : Stmt} {t : TS} (h : PS X st t) : PS X st (tUnf t) := by
  intro pins s σ H D I q
  refine thn (h pins s σ H _ I q) fun f s' hs => ?_
  cases f with
  | next =>
    obtain ⟨σ', H', I', H'', u, q⟩ := hs
    exact ⟨σ', H'', I.unfs I' u, q⟩
  | brk => exact hs
  | cont => exact hs
  | ret v =>
    obtain ⟨v', σ', H', I', rv, H'', u, q⟩ := hs
    exact ⟨v', σ', H'', I.unfs I' u, rv, q⟩
def eUnf (t : TE) : TE := fun σ H Q => t σ H fun v H' => ∃ H'', Unf H H' H'' ∧ Q v H''
theorem pe_unf {e : Expr} {t : TE} (h : PE X e t) : PE X e (eUnf t) := by
  intro pins s σ H Q I q
  refine thn (h pins s σ H _ I q) fun f s' hs => ?_
  obtain ⟨v, H', I', rv, H'', u, q⟩ := hs
  exact ⟨v, H'', I.unfs I' u, rv, q⟩
theorem Unf.of {H H' : Hp} {d : Addr} {o : Obj} {kvs kvs0 : List (Key × V)} (e : H' d = some (.frz o (.dK kvs))) (e0 : H d = some (.dK kvs0)) : Unf H H' (upd H' d (.dK kvs)) := .inr ⟨d, o, kvs, e, (fun o u z => by rw [e0] at z; cases z), rfl⟩
end
theorem for_itf {d : Addr} {o : Obj} {kvs : List (Key × V)} {xs : List V} {g : TG} {tb : TS} {D : Ends} {σ : St} {H : Hp} (Pv : Nat → St → Hp → Prop) (h0 : Pv 0 σ H) (hf : ∀ i σ H, Pv i σ H → H d = some (.frz o (.dK kvs)))
    (hs : ∀ i x σ H, xs[i]? = some x → Pv i σ H → g x σ H fun σ2 H2 => tb { D with nx := Pv (i + 1), ct := Pv (i + 1), bk := D.nx } σ2 H2) (hd : ∀ σ H, Pv xs.length σ H → D.nx σ H) : ForW g tb D σ (ItF d o kvs xs) H := by
  refine ⟨fun i m σ H => m = xs.length - i ∧ i ≤ xs.length ∧ Pv i σ H, ⟨xs.length, by simp, Nat.zero_le _, h0⟩, ?_⟩
  rintro i m σ H ⟨rfl, hi, p⟩
  have hh := hf i σ H p
  by_cases hlt : i < xs.length
  · refine .inr ⟨⟨hlt, hh⟩, Pv (i + 1), fun σ' H' p' => ⟨xs.length - (i + 1), by omega, rfl, hlt, p'⟩, fun x H' y => ?_⟩
    obtain ⟨e, y⟩ := y
    subst e
    exact hs i x σ _ y p
  · have e : i = xs.length := by omega
    subst e
    exact .inl ⟨⟨rfl, hh⟩, hd σ H p⟩
theorem comp_itf {d : Addr} {o : Obj} {kvs : List (Key × V)} {n : Nat} {js : List Nat} {g : TG} {tc : TT} {te : TE} {σ : St} {Q : VK} {H1 : Hp} {xs : List V} (hz : xs.length ≤ 100000) (Pv : Addr → Nat → List V → Hp → Prop) (h0 : ∀ D, H1 D = none → Pv D 0 [] (upd H1 D (.lst [])))
    (hl : ∀ D i acc H, H1 D = none → i ≤ xs.length → Pv D i acc H → H D = some (.lst acc) ∧ acc.length ≤ i ∧ H d = some (.frz o (.dK kvs)))
    (hs : ∀ D i x acc H, H1 D = none → xs[i]? = some x → Pv D i acc H → g x (cSt n js σ) H fun σ2 H2 => σ2.drop n = (cSt n js σ).drop n ∧ tc σ2 H2 fun b H3 => if b = true then te σ2 H3 fun v H4 => H4 D = some (.lst acc) ∧ Pv D (i + 1) (acc ++ [v]) (upd H4 D (.lst (acc ++ [v]))) else H3 D = some (.lst acc) ∧ Pv D (i + 1) acc H3)
    (hd : ∀ D acc H, H1 D = none → Pv D xs.length acc H → Q (.ref D) H) : CompW n js g tc te σ Q (ItF d o kvs xs) H1 := by
  intro D hD
  refine ⟨fun i m acc H => m = xs.length - i ∧ i ≤ xs.length ∧ Pv D i acc H, ⟨xs.length, by simp, Nat.zero_le _, h0 D hD⟩, ?_⟩
  rintro i m acc H ⟨rfl, hi, p⟩
  obtain ⟨e1, e3, hh⟩ := hl D i acc H hD hi p
  refine ⟨e1, ?_⟩
  by_cases hlt : i < xs.length
  · refine .inr ⟨⟨hlt, hh⟩, by rw [sizeLine_eq]; omega, Pv D (i + 1), fun acc' H' p' => ⟨xs.length - (i + 1), by omega, rfl, hlt, p'⟩, fun x H' y => ?_⟩
    obtain ⟨e, y⟩ := y
    subst e
    exact hs D i x acc _ hD y p
  · have e : i = xs.length := by omega
    subst e
    exact .inl ⟨⟨rfl, hh⟩, hd D acc H hD p⟩
/-! ### a dict and an empty one -/
end L2
/-! d.get, d.pop by the dict's content; data in a list of data. -/
namespace L2
open PySem PySem.Spec PyProof.Rows
section
variable {X : Cx} {o e f : Expr} {td ty tx : TE} {apos cpos : Pos}
/-! ### data in a list of data -/
end
end L2
/-! d.setdefault, sorted(d), min of two tuples of numbers. -/
namespace L2
open PySem PySem.Spec PyProof.Rows
section
variable {X : Cx} {o e f : Expr} {td ty tx : TE} {apos cpos : Pos}
end
/-! ### sorted(d) -/
section
variable {X : Cx}
end
/-! ### the less of two tuples -/
section
variable {prog : Program} {w : World} {A : Around} {E : Value → Shared → Prop} {s : Shared}
end
section
variable {X : Cx}
end
end L2
namespace L2
open PySem PySem.Spec PyProof.Rows
/-! a list and an empty one, whatever the list holds -/
def rNeNil : R2 := fun x y H Q => ∃ (p q : Addr) (xs : List V), x = .ref p ∧ y = .ref q ∧ H p = some (.lst xs) ∧ H q = some (.lst []) ∧ Q (.bl (!xs.isEmpty)) H
theorem op_neNil {X : Cx} (hu : X.A.units + 64 < cLine) : OpR X (compareOp .NotEq) rNeNil := by
  intro pins s σ H x y v u Q I rx ry h
  obtain ⟨p, q, xs, rfl, rfl, hp, hq, k⟩ := h
  cases rx
  cases ry
  obtain ⟨its, r, pl, z1⟩ := I.list (SqL.of (K := X.K) hp)
  obtain ⟨its2, r2, pl2, z2⟩ := I.list (SqL.of (K := X.K) hq)
  have l1 := r.length
  have l2 := r2.length
  have e2 : its2 = [] := List.length_eq_zero_iff.mp l2.symm
  subst e2
  cases xs with
  | nil =>
    have e1 : its = [] := List.length_eq_zero_iff.mp l1.symm
    subst e1
    exact SeqAt.RcNeAt.lists (e := fun _ => true) pl.isList pl2.isList rfl (by omega) (fun j h1 h2 => absurd h1 (by simp)) _ _ _ _ ⟨.bl false, H, I, rfl, k⟩
  | cons a b =>
    refine SeqAt.RcNeAt.lists_lengths pl.isList pl2.isList ?_ (by omega) _ _ _ _ ⟨.bl true, H, I, rfl, k⟩
    simp at l1
    simp
    intro z
    rw [z] at l1
    simp at l1
end L2
/-! Two dicts keyed by tuples that hold the same. -/
namespace L2
open PySem PySem.Spec PyProof.Rows
section
variable {prog : Program} {w : World} {κ : Type} [DecidableEq κ] {knd : HeapKind prog w κ} {A : Around} {E : Value → Shared → Prop} {s : Shared}
end
/-! ### a list, or a tuple, and an empty one, whatever it holds -/
def rEqNil : R2 := fun x y H Q => ∃ (p q : Addr) (xs : List V), x = .ref p ∧ y = .ref q ∧ H p = some (.lst xs) ∧ H q = some (.lst []) ∧ Q (.bl xs.isEmpty) H
theorem op_eqNil {X : Cx} (hu : X.A.units + 64 < cLine) : OpR X (compareOp .Eq) rEqNil := by
  intro pins s σ H x y v u Q I rx ry h
  obtain ⟨p, q, xs, rfl, rfl, hp, hq, k⟩ := h
  cases rx
  cases ry
  obtain ⟨its, r, pl, z1⟩ := I.list (SqL.of (K := X.K) hp)
  obtain ⟨its2, r2, pl2, z2⟩ := I.list (SqL.of (K := X.K) hq)
  have l1 := r.length
  have l2 := r2.length
  have e2 : its2 = [] := List.length_eq_zero_iff.mp l2.symm
  subst e2
  cases xs with
  | nil =>
    have e1 : its = [] := List.length_eq_zero_iff.mp l1.symm
    subst e1
    exact SeqAt.RcAt.lists (e := fun _ => true) pl.isList pl2.isList rfl (by omega) (fun j h1 h2 => absurd h1 (by simp)) _ _ _ _ ⟨.bl true, H, I, rfl, k⟩
  | cons a b =>
    refine SeqAt.RcAt.lists_lengths pl.isList pl2.isList ?_ (by omega) _ _ _ _ ⟨.bl false, H, I, rfl, k⟩
    simp at l1
    simp
    intro z
    rw [z] at l1
    simp at l1
end L2
/-! sum of lists, the greatest of a list. -/
namespace L2
open PySem PySem.Spec PyProof.Rows
/-- the first i lists, one behind another -/
def preCat (vss : Nat → List Value) : Nat → List Value
  | 0 => []
  | i + 1 => preCat vss i ++ vss i
theorem preCat_le {vss : Nat → List Value} : ∀ {i n : Nat}, i ≤ n → (preCat vss i).length ≤ (preCat vss n).length
  | i, 0, h => by
    have : i = 0 := by omega
    subst this
    exact Nat.le_refl _
  | i, n + 1, h => by
    by_cases e : i = n + 1
    · subst e; exact Nat.le_refl _
    · have := preCat_le (vss := vss) (i := i) (n := n) (by omega)
      show _ ≤ (preCat vss n ++ vss n).length
      rw [List.length_append]
      omega
abbrev LO (its : List Value) (n : Nat) : Obj := { cls := .type "list", data := .seq its.toArray n }
section
variable {prog : Program} {w : World} {A : Around} {R : Result → Shared → Prop} {I : Addr} {fp wr : List Addr} {n : Nat} {P : Nat → Value → Prop} {St : Nat → Heap → Prop}
theorem codeAny_sum_lists (W : Walks prog w A.in1 I fp wr n P St) (ps : Nat → Addr) (vss : Nat → List Value) (hval : ∀ i v, P i v → v = .ref (ps i)) (S : Addr) (hSf : S ∉ fp) (hps : ∀ j, j < n → ps j ∉ wr ∧ ps j ≠ S) (hfp : ∀ b ∈ fp, b < S) (hsz : (preCat vss n).length ≤ sizeLine) :
    ∀ (k i : Nat) (s : Shared) (t : Addr) (c m : Nat), n - i = k → i ≤ n → St i s.heap → s.heap.get? S = some (LO [.ref t] c) → s.heap.get? t = some (LO (preCat vss i) m) → t ∉ wr → t ≠ S → (∀ j, j < n → ∃ m, s.heap.get? (ps j) = some (LO (vss j) m)) →
    (∀ h' tk t' m', (∀ b o, b ∉ wr → b ≠ S → s.heap.get? b = some o → h'.get? b = some o) → h'.get? t' = some (LO (preCat vss n) m') → (t' = t ∧ i = n ∨ S < t') → R (.ok (.ret (.ref t'))) { s with heap := h', toks := tk }) →
    codeAny (model prog w) A (.builtin "sum.loop" ⟨[.ref I, .ref S, rawInt 2, rawInt 0], []⟩) R s := by
  have hSw : S ∉ wr := fun h => hSf (W.sub _ h)
  intro k
  induction k with
  | zero =>
    intro i s t c m hk hi hst hS ht htw htS hl hR
    have hin : i = n := by omega
    subst hin
    refine codeAny_builtin F.entry_sum_loop ?_
    rw [Around.under_plainId F.plain_sum_loop _]
    change wpAny _ A.in1 (seqItems? (.ref S) >>= _) _ _ s
    refine wpAny_bind (wpAny_seqItems hS rfl ?_)
    change wpAny _ A.in1 (tryCatch (pyNext (.ref I)) _ >>= _) _ _ s
    refine wpAny_bind (wpAny_tryCatch (W.done s _ _ hst fun h' tk hk' => ?_))
    exact wpAny_pure (hR h' tk t m (fun b o hbw _ e => hk' b o hbw e) (hk' _ _ htw ht) (.inl ⟨rfl, rfl⟩))
  | succ k ih =>
    intro i s t c m hk hi hst hS ht htw htS hl hR
    have hlt : i < n := by omega
    refine codeAny_builtin F.entry_sum_loop ?_
    rw [Around.under_plainId F.plain_sum_loop _]
    change wpAny _ A.in1 (seqItems? (.ref S) >>= _) _ _ s
    refine wpAny_bind (wpAny_seqItems hS rfl ?_)
    change wpAny _ A.in1 (tryCatch (pyNext (.ref I)) _ >>= _) _ _ s
    refine wpAny_bind (wpAny_tryCatch (W.item i s _ _ hlt hst fun v h' tk hP hst' hk' => ?_))
    obtain rfl := hval i v hP
    have hS' := hk' S _ hSw hS
    have ht' := hk' t _ htw ht
    obtain ⟨m2, hp⟩ := hl i hlt
    have hp' := hk' _ _ (hps i hlt).1 hp
    change wpAny _ A.in1 ((holding [Value.ref (ps i)] (binaryOp .Add (.ref t) (.ref (ps i)))).attempt >>= _) _ _ _
    refine wpAny_bind (wpAny_attempt (wpAny_holding ?_))
    have hz : (preCat vss i).length + (vss i).length ≤ sizeLine := by
      have := preCat_le (vss := vss) (i := i + 1) (n := n) hlt
      have e : (preCat vss (i + 1)).length = (preCat vss i).length + (vss i).length := List.length_append
      omega
    have e1 : (preCat vss i).toArray ++ (vss i).toArray = (preCat vss (i + 1)).toArray := by
      change _ = (preCat vss i ++ vss i).toArray
      simp
    refine PySem.P.add_list ht' hp' ?_ (by simpa using hz)
    rw [e1]
    have hSn : S < h'.objs.size := Heap.lt_size hS'
    have hnew : (h'.push (LO (preCat vss (i + 1)) 0)).get? h'.objs.size = some (LO (preCat vss (i + 1)) 0) := Heap.get?_push_size _ rfl
    have hkp : ∀ b o, h'.get? b = some o → (h'.push (LO (preCat vss (i + 1)) 0)).get? b = some o := fun b o e => Heap.get?_push_of_some _ e
    have hsz' : (h'.push (LO (preCat vss (i + 1)) 0)).objs.size = h'.objs.size + 1 := Heap.size_push ..
    generalize hh1 : h'.push (LO (preCat vss (i + 1)) 0) = h1 at hnew hkp hsz' ⊢
    have hS1 := hkp _ _ hS'
    change wpAny _ A.in1 (updateSeq S (fun _ => #[Value.ref h'.objs.size]) >>= _) _ _ _
    refine wpAny_bind (wpAny_updateSeq hS1 rfl (wpAny_bind (wpAny_letGo ?_)))
    have hS2 := Heap.get?_update_self (Obj.mapSeq fun _ => #[Value.ref h'.objs.size]) hS1 rfl
    change wpAny _ A.in1 (updateSeq S (fun _ => #[Value.ref h'.objs.size]) >>= _) _ _ _
    refine wpAny_bind (wpAny_updateSeq hS2 rfl ?_)
    have hS3 := Heap.get?_update_self (Obj.mapSeq fun _ => #[Value.ref h'.objs.size]) hS2 rfl
    have oth : ∀ b o, b ≠ S → h'.get? b = some o → ((h1.update S (Obj.mapSeq fun _ => #[Value.ref h'.objs.size])).update S (Obj.mapSeq fun _ => #[Value.ref h'.objs.size])).get? b = some o := fun b o hb e =>
      (Heap.get?_update_other _ _ (Ne.symm hb)).trans ((Heap.get?_update_other _ _ (Ne.symm hb)).trans (hkp _ _ e))
    have oth1 : ((h1.update S (Obj.mapSeq fun _ => #[Value.ref h'.objs.size])).update S (Obj.mapSeq fun _ => #[Value.ref h'.objs.size])).get? h'.objs.size = some (LO (preCat vss (i + 1)) 0) :=
      (Heap.get?_update_other _ _ (Nat.ne_of_lt hSn)).trans ((Heap.get?_update_other _ _ (Nat.ne_of_lt hSn)).trans hnew)
    have htw' : h'.objs.size ∉ wr := fun hm => Nat.lt_irrefl _ (Nat.lt_trans hSn (hfp _ (W.sub _ hm)))
    refine wpAny_pure ⟨plainId_quiet F.plain_sum_loop _, ih (i + 1) _ h'.objs.size _ 0 (by omega) hlt (W.frame _ _ _ hst' fun b hb o e => oth b o (fun z => hSf (z ▸ hb)) e) hS3 oth1 htw' (Nat.ne_of_gt hSn) (fun j hj => ?_) fun h'' tk'' t'' m'' hk'' ht'' hor => ?_⟩
    · obtain ⟨mj, ej⟩ := hl j hj
      exact ⟨mj, oth _ _ (hps j hj).2 (hk' _ _ (hps j hj).1 ej)⟩
    · refine hR h'' tk'' t'' m'' (fun b o hbw hbS e => hk'' b o hbw hbS (oth b o hbS (hk' b o hbw e))) ht'' (.inr ?_)
      rcases hor with ⟨e, _⟩ | e
      · rw [e]; exact hSn
      · exact e
end
namespace SL
theorem args_sum2 (a b : Value) : argsOk "sum" ⟨[a, b], []⟩ := by unfold argsOk; kernel_rfl
theorem sub_list_str : isSubtype (.type "list") (.type "str") = pure false := by rw [isSubtype_type]; kernel_rfl
theorem sub_list_bytes : isSubtype (.type "list") (.type "bytes") = pure false := by rw [isSubtype_type]; kernel_rfl
theorem sub_list_bytearray : isSubtype (.type "list") (.type "bytearray") = pure false := by rw [isSubtype_type]; kernel_rfl
end SL
section
variable {prog : Program} {w : World} {A : Around} {E : Value → Shared → Prop} {s : Shared}
theorem call_sum_lists {l q : Addr} {its : List Value} {nq : Nat} (ps : Nat → Addr) (vss : Nat → List Value) {Q : Value → Shared → Prop} (hh : A.handled = none) (hl : s.heap.IsList l its.toArray) (hq : s.heap.get? q = some (LO [] nq)) (hits : ∀ i v, its.toArray[i]? = some v → v = Value.ref (ps i))
    (hv : ∀ j, j < its.length → ∃ m, s.heap.get? (ps j) = some (LO (vss j) m)) (hn : 0 < its.length) (hsz : (preCat vss its.length).length ≤ sizeLine)
    (h : ∀ h' tk t' m', (∀ b o, s.heap.get? b = some o → h'.get? b = some o) → h'.get? t' = some (LO (preCat vss its.length) m') → s.heap.objs.size ≤ t' → Q (.ref t') { s with heap := h', toks := tk }) :
    wpAny (model prog w) A (call (.builtin "sum") [.ref l, .ref q]) Q E s := by
  refine call_function_tree F.kind_sum F.plain_sum F.entry_sum (SL.args_sum2 _ _) ?_
  unfold Builtin.«sum»
  simp only [List.length_cons, List.length_nil]
  rw [if_neg (by decide)]
  refine wpAny_bind (wpAny_of_eq (show Builtin.Builtins.bindParams "sum" ["start"] 0 { pos := [Value.ref q] } = pure [some (.ref q)] from rfl) ?_)
  have hlt : l < s.heap.objs.size := by obtain ⟨_, e, _⟩ := hl; exact Heap.lt_size e
  refine wpAny_bind (wpAny_pyIter_list hl ?_)
  have hq1 : (s.heap.push { cls := .type "list_iterator", data := .fields #[.ref l, .int 0 0] }).get? q = some (LO [] nq) := Heap.get?_push_of_some _ hq
  have hty : ∀ h : Heap, h.get? q = some (LO [] nq) → ({ s with heap := h } : Shared).TypeIs (.ref q) "list" := fun h e => ⟨_, e, rfl⟩
  refine wpAny_bind (wpAny_pure ?_)
  simp only [List.forIn_cons, List.forIn_nil]
  refine wpAny_bind (wpAny_bind (wpAny_bind (wpAny_isInstance (T := "list") (b := false) (hty _ hq1) SL.sub_list_str ?_)))
  simp only [Bool.false_eq_true, if_false]
  refine wpAny_pure (wpAny_bind (wpAny_bind (wpAny_isInstance (T := "list") (b := false) (hty _ hq1) SL.sub_list_bytes ?_)))
  simp only [Bool.false_eq_true, if_false]
  refine wpAny_pure (wpAny_bind (wpAny_bind (wpAny_isInstance (T := "list") (b := false) (hty _ hq1) SL.sub_list_bytearray ?_)))
  simp only [Bool.false_eq_true, if_false]
  refine wpAny_pure (wpAny_pure ?_)
  refine wpAny_bind (wpAny_newObj_type ?_)
  have hs1 : (s.heap.push { cls := .type "list_iterator", data := .fields #[.ref l, .int 0 0] }).objs.size = s.heap.objs.size + 1 := Heap.size_push ..
  have st0 : (s.heap.push { cls := .type "list_iterator", data := .fields #[.ref l, .int 0 0] }).IsListIter s.heap.objs.size l 0 ∧ (s.heap.push { cls := .type "list_iterator", data := .fields #[.ref l, .int 0 0] }).IsList l its.toArray := ⟨⟨_, Heap.get?_push_size _ rfl, rfl, rfl⟩, hl.push _⟩
  have kp : ∀ b o, s.heap.get? b = some o → (s.heap.push { cls := .type "list_iterator", data := .fields #[.ref l, .int 0 0] }).get? b = some o := fun b o e => Heap.get?_push_of_some _ e
  generalize hh1 : s.heap.push { cls := .type "list_iterator", data := .fields #[.ref l, .int 0 0] } = h1 at hq1 hs1 st0 kp ⊢
  have W := Walks.list (prog := prog) (w := w) (A := A.in1) hh s.heap.objs.size l (Nat.ne_of_lt hlt) its.toArray
  have hqlt : q < s.heap.objs.size := Heap.lt_size hq
  have kp2 : ∀ b o, s.heap.get? b = some o → (h1.push { cls := .type "list", data := .seq #[Value.ref q] }).get? b = some o := fun b o e => Heap.get?_push_of_some _ (kp b o e)
  have hsz0 : its.toArray.size = its.length := by simp
  have ltS : ∀ {b : Addr}, b < s.heap.objs.size → b ≠ h1.objs.size := fun {b} hb => by
    rw [hs1]
    exact Nat.ne_of_lt (Nat.lt_succ_of_lt hb)
  have inF : ∀ {b : Addr}, b ∈ [s.heap.objs.size, l] → b < h1.objs.size := fun {b} hb => by
    rw [hs1]
    rcases List.mem_cons.mp hb with e | e
    · rw [e]; exact Nat.lt_succ_self _
    · rw [List.mem_singleton.mp e]; exact Nat.lt_succ_of_lt hlt
  have outW : ∀ {b : Addr}, b < s.heap.objs.size → b ∉ [s.heap.objs.size] := fun {b} hb hm => by
    rw [List.mem_singleton.mp hm] at hb
    exact Nat.lt_irrefl _ hb
  refine wpAny_pure ⟨plainId_quiet F.plain_sum_loop _, codeAny_sum_lists W ps vss hits h1.objs.size (fun hm => Nat.lt_irrefl _ (inF hm)) (fun j hj => ?_) (fun b hb => inF hb) (by rw [hsz0]; exact hsz) its.toArray.size 0 _ q 0 nq rfl (Nat.zero_le _) (W.frame _ _ _ st0 fun b _ o e => Heap.get?_push_of_some _ e) (Heap.get?_push_size _ rfl) (kp2 _ _ hq) (outW hqlt) (ltS hqlt) (fun j hj => ?_) fun h' tk t' m' hk ht hor => ?_⟩
  · rw [hsz0] at hj
    obtain ⟨m, e⟩ := hv j hj
    exact ⟨outW (Heap.lt_size e), ltS (Heap.lt_size e)⟩
  · rw [hsz0] at hj
    obtain ⟨m, e⟩ := hv j hj
    exact ⟨m, kp2 _ _ e⟩
  · rw [hsz0] at ht
    refine h h' tk t' m' (fun b o e => hk b o (outW (Heap.lt_size e)) (ltS (Heap.lt_size e)) (kp2 _ _ e)) ht ?_
    rcases hor with ⟨_, e⟩ | e
    · rw [hsz0] at e
      rw [← e] at hn
      exact absurd hn (Nat.lt_irrefl _)
    · rw [hs1] at e
      exact Nat.le_of_lt (Nat.lt_of_succ_lt e)
end
section
variable {X : Cx}
def rSumL : List V → Hp → VK → Prop := fun xs H Q => ∃ (p q : Addr) (ps : List Addr) (xss : List (List V)), xs = [.ref p, .ref q] ∧ H p = some (.lst (ps.map V.ref)) ∧ H q = some (.lst []) ∧ Paired (fun (b : Addr) (ys : List V) => H b = some (.lst ys)) ps xss ∧ ps ≠ [] ∧ xss.flatten.length ≤ 100000 ∧
  ∀ l, H l = none → Q (.ref l) (upd H l (.lst xss.flatten))
theorem preCat_flat {H : Hp} {pins : List (Addr × Obj)} {σ : St} {s : Shared} (I : Inv X pins σ H s) : ∀ {ps : List Addr} {xss : List (List V)}, Paired (fun (b : Addr) (ys : List V) => H b = some (.lst ys)) ps xss →
    ∃ vss : Nat → List Value, (∀ j, j < ps.length → ∃ m, s.heap.get? (ps.getD j 0) = some (LO (vss j) m)) ∧ ∀ i, i ≤ ps.length → Vals (xss.take i).flatten (preCat vss i)
  | _, _, .nil => ⟨fun _ => [], fun j hj => absurd hj (by simp), fun i hi => by
      have : i = 0 := by simpa using hi
      subst this
      exact .nil⟩
  | b :: ps, ys :: xss, .cons h t => by
    obtain ⟨vss, h1, h2⟩ := preCat_flat I t
    obtain ⟨z, its, n, r, hl, e⟩ := I.lstM h
    have hcat : ∀ i, preCat (fun j => match j with | 0 => its | j + 1 => vss j) (i + 1) = its ++ preCat vss i := fun i => by
      induction i with
      | zero => simp [preCat]
      | succ i ih =>
        change preCat _ (i + 1) ++ vss i = _
        rw [ih, List.append_assoc]
        rfl
    refine ⟨fun j => match j with | 0 => its | j + 1 => vss j, fun j hj => ?_, fun i hi => ?_⟩
    · cases j with
      | zero => exact ⟨n, e⟩
      | succ j => exact h1 j (by simpa using hj)
    · cases i with
      | zero => exact .nil
      | succ i =>
        rw [hcat, List.take_succ_cons, List.flatten_cons]
        exact r.append (h2 i (by simpa using hi))
theorem refs_vals : ∀ {ps : List Addr} {its : List Value}, Vals (ps.map V.ref) its → its = ps.map Value.ref
  | [], _, .nil => rfl
  | a :: b, _, .cons h t => by
    cases h
    rw [List.map_cons, refs_vals t]
theorem call_sumL (hc : X.calm = true) : CallR X (.builtin "sum") rSumL := by
  intro pins s σ H xs us Q I r h
  obtain ⟨p, q, ps, xss, rfl, hp, hq, hpr, hne, hlen, k⟩ := h
  obtain ⟨u1, u2, rfl, r1, r2⟩ := vals2 r
  cases r1
  cases r2
  obtain ⟨z, its, n, rv, hl, e⟩ := I.lstM hp
  obtain ⟨z2, its2, n2, rv2, hl2, e2⟩ := I.lstM hq
  cases rv2
  obtain ⟨vss, h1, h2⟩ := preCat_flat I hpr
  have hps : its = ps.map Value.ref := refs_vals rv
  subst hps
  have hpl : (ps.map Value.ref).length = ps.length := List.length_map ..
  have hll := hpr.length
  have hv := h2 ps.length (Nat.le_refl _)
  rw [List.take_of_length_le (by omega)] at hv
  have hvl := hv.length
  have hpos : 0 < ps.length := Nat.pos_of_ne_zero fun z => hne (List.eq_nil_of_length_eq_zero z)
  refine call_sum_lists (fun j => ps.getD j 0) vss (show X.A.handled = none from I.ok.hd hc) ⟨_, e, rfl, n, rfl⟩ e2 (fun i v hi => ?_) (fun j hj => h1 j (by omega)) (by omega) (by rw [hpl, ← hvl, sizeLine_eq]; omega) fun h' tk t' m' hk ht hs => ⟨.ref t', _, I.laid (o := .lst xss.flatten) (t' := tk) hk hs ⟨by rw [sizeLine_eq]; omega, _, m', ?_, ht⟩, rfl, k t' (I.hok.fresh hs)⟩
  · rw [List.getElem?_toArray, List.getElem?_map] at hi
    obtain ⟨b, hb, rfl⟩ := Option.map_eq_some_iff.mp hi
    rw [List.getD_eq_getElem?_getD, hb]
    rfl
  · rw [hpl]
    exact hv
/-- the greatest of a list of numbers -/
def rMaxL : List V → Hp → VK → Prop := fun xs H Q => ∃ (p : Addr) (ns : List Int), xs = [.ref p] ∧ H p = some (.lst (ns.map V.int)) ∧ ns ≠ [] ∧ ∀ m : Int, m ∈ ns → (∀ n ∈ ns, n ≤ m) → Q (.int m) H
theorem best_is (f : Nat → Int) : ∀ n, argBest (fun i j => decide (f i > f j)) n ≤ n ∧ ∀ j, j ≤ n → f j ≤ f (argBest (fun i j => decide (f i > f j)) n)
  | 0 => ⟨Nat.le_refl _, fun j hj => by
      have : j = 0 := by omega
      subst this
      exact Int.le_refl _⟩
  | n + 1 => by
    obtain ⟨h1, h2⟩ := best_is f n
    have e : argBest (fun i j => decide (f i > f j)) (n + 1) = if f (n + 1) > f (argBest (fun i j => decide (f i > f j)) n) then n + 1 else argBest (fun i j => decide (f i > f j)) n := by
      simp [argBest]
    rw [e]
    split
    · rename_i h
      refine ⟨Nat.le_refl _, fun j hj => ?_⟩
      by_cases ej : j = n + 1
      · subst ej; exact Int.le_refl _
      · have := h2 j (by omega); omega
    · rename_i h
      refine ⟨by omega, fun j hj => ?_⟩
      by_cases ej : j = n + 1
      · subst ej; omega
      · exact h2 j (by omega)
theorem call_maxL (hc : X.calm = true) : CallR X (.builtin "max") rMaxL := by
  intro pins s σ H xs us Q I r h
  obtain ⟨p, ns, rfl, hp, hne, k⟩ := h
  obtain ⟨u, rfl, rx⟩ := vals1 r
  cases rx
  obtain ⟨its, rv, pl, hz⟩ := I.list (SqL.of (K := X.K) hp)
  have hi := ints_vals rv
  obtain ⟨xs, hx⟩ := hi.allInts.items
  have hl := pl.isList
  rw [hx] at hl
  have e1 : ns = xs.toList.map (·.1) := by
    rw [← nums_intItems, ← hx]
    exact (show numsOf its.toArray.toList = ns from hi.numsOf).symm
  have hlen : ns.length = xs.size := by rw [e1]; simp
  have hpos : 0 < xs.size := by rw [← hlen]; exact Nat.pos_of_ne_zero fun z => hne (List.eq_nil_of_length_eq_zero z)
  refine max_intList (show X.A.handled = none from I.ok.hd hc) hl hpos fun v h' tk hv hk => ?_
  obtain ⟨b1, b2⟩ := best_is (numAt xs) (xs.size - 1)
  generalize argBest (fun i j => decide (numAt xs i > numAt xs j)) (xs.size - 1) = b at hv b1 b2
  have hb : b < xs.size := by omega
  have hnum : ∀ j, j < xs.size → ns[j]? = some (numAt xs j) := fun j hj => by
    unfold numAt
    rw [e1, List.getElem?_map, Array.getElem?_toList, Array.getElem?_eq_getElem hj]
    rfl
  obtain ⟨t, rfl⟩ := intItems_at hv
  refine ⟨.int (numAt xs b), H, I.kept (t' := tk) hk, ⟨t, rfl⟩, k _ (List.mem_of_getElem? (hnum b hb)) fun n hn => ?_⟩
  obtain ⟨j, hj⟩ := List.mem_iff_getElem?.mp hn
  have hjl : j < ns.length := (List.getElem?_eq_some_iff.mp hj).1
  rw [hnum j (by omega)] at hj
  cases hj
  exact b2 j (by omega)
end
end L2
namespace K22
open PySem L2
def top (i : Nat) : Stmt := PySem.Challenge.pw_roadnet_k22_whole_a_link_in_time.main.body.getD i (.Pass ⟨0, 0, 0, 0⟩)
abbrev s__law_cell_at : Stmt := top 11
theorem sc__law_cell_at : FnScope ["_law_script", "_law_k"] ["_law_script", "_law_k"] (defScope s__law_cell_at) := ⟨rfl, rfl, rfl, by decide +kernel, rfl, by decide +kernel, by decide +kernel⟩
section
variable {P : Program} {w : World} {K : PySem.W.Frag} {mg : Str → Option Value} {base : Heap}
def sp_cell (K : PySem.W.Frag) : Sp := fun vs H Q _ => ∃ (a : Addr) (ns : List Int) (k : Int), vs = [.ref a, .int k] ∧ 0 ≤ k ∧ SqL K H a (ns.map V.int) ∧ ∀ r : Int, Q (.int r) H
theorem own_cell (D : Def K mg "_law_cell_at" s__law_cell_at) (hb : Blt mg) : Own P w K mg base 1 "_law_cell_at" ["_law_script", "_law_k"] (sp_cell K) := by
  refine D.own sc__law_cell_at (fun _ _ _ _ _ _ us hl => match us, hl with | [_, _], _ => rfl) (fun vs H Q E h => ?_) (fun f cdv A outer s H vs Q E hr h => ?_)
  · obtain ⟨a, ns, k, rfl, _⟩ := h
    rfl
  · obtain ⟨a, ns, k, rfl, hk, hS, q⟩ := h
    refine ⟨_, (pss_cons (ps_if (pt_cmpR op_lt (pv 1) (pe_callB (call_lenK K) rfl (hb _ (by decide)) bt_len (pa_cons (pv 0) pa_nil)) (nomark _))
      (pss_one (ps_ret (pe_ix (ix_listK K) (pv 0) (pv 1) (fun _ _ => rfl))))
      pss_nil)
      (pss_one (ps_ret pe_int))), ?_⟩
    simp only [tDGs, sDPs, rIsB, rIsntB, tMeth, tMake, tDGet, sDPut, tFld, sFld, tDisp, tPairs, tNever, decide_true, decide_false, truV_bl, clsV_ty, V.ty.injEq, exists_eq', exists_eq, Bool.not_true, Bool.not_false, Bool.not_not, rLen, rListOf, rTupOf, rAny, rAll, rIsI, tTru, iRng1, iRng2, iList, tYes, cSt, List.drop_succ_cons, List.drop_zero, cxOf_K, cxC_K,  tBM, tBM0, rAppend, tSl, rSlL, tNoPart, tPart, rIxL, rIxT, rCat, List.cons.injEq, rEq_ii, rNe_ii, rEq_bb, rNe_bb, tSeq, exists_and_left, if_false, if_true, reduceIte, Bool.false_eq_true, tIfS, tAnd, tOr, tNot, tTest, tOp, tUn, tVar, tC, rI, rI0, rU, tRet, tRetN, tAsg, gName, tNext, tAndV, tOrV, tNotV, tIf, tCall, tCons, tNil, tCB, tDrop, tLst, tTup, tChain, L2.start, List.map_cons, List.map_nil, List.length_cons, List.length_nil, List.replicate, List.cons_append, List.nil_append, List.getElem?_cons_zero, List.getElem?_cons_succ, List.set_cons_zero, List.set_cons_succ, Option.some.injEq, exists_eq_left', exists_eq_left, V.int.injEq, V.bl.injEq, V.ref.injEq, V.str.injEq, exists_const, and_true, true_and, reduceCtorEq, false_and, exists_false, or_false, false_or, and_assoc, List.append_nil]
    refine ⟨_, .inl hS, ite2 (fun h => ?_) (fun _ => q 0)⟩
    have h' := of_decide_eq_true h
    obtain ⟨v, hv, ev⟩ := atI_in (xs := ns.map V.int) hk h'
    obtain ⟨z, _, rfl⟩ := List.mem_map.mp hv
    exact ⟨_, hS, _, ev, q z⟩
abbrev s_own_copy : Stmt := top 4
theorem sc_own_copy : FnScope ["thing"] ["thing"] (defScope s_own_copy) := ⟨rfl, rfl, rfl, by decide +kernel, rfl, by decide +kernel, by decide +kernel⟩
theorem cs_own_copy_1 : CScope ["part"] [] { kind := .function, names := [(".0", .local), ("part", .local), ("own_copy", .globalImplicit)], isGenerator := false, isCoroutine := false, more := [] } (defScope s_own_copy) := ⟨rfl, by decide +kernel, by decide +kernel, by decide +kernel, by decide +kernel, by decide +kernel⟩
theorem own_cpy0 (D : Def K mg "own_copy" s_own_copy) (hb : Blt mg) : Own P w K mg base 1 "own_copy" ["thing"] (sp_cpy 0) := by
  refine D.own sc_own_copy (fun _ _ _ _ _ _ us hl => match us, hl with | [_], _ => rfl) (fun vs H Q E h => ?_) (fun f cdv A outer s H vs Q E hr h => ?_)
  · obtain ⟨v, d, rfl, _⟩ := h
    rfl
  · obtain ⟨v, d, rfl, hv, hd, q⟩ := h
    refine ⟨_, (pss_cons (ps_if (pt_truK K (pe_callB (call_isiK K) rfl (hb _ (by decide)) bt_isinstance (pa_cons (pv 0) (pa_cons (pe_bltn (v := .ty "list") rfl (hb _ (by decide)) bt_list rfl) pa_nil))))
      (pss_one ps_never)
      pss_nil)
      (pss_cons (ps_if (pt_truK K (pe_callB (call_isiK K) rfl (hb _ (by decide)) bt_isinstance (pa_cons (pv 0) (pa_cons (pe_bltn (v := .ty "tuple") rfl (hb _ (by decide)) bt_tuple rfl) pa_nil))))
      (pss_one ps_never)
      pss_nil)
      (pss_cons (ps_if (pt_truK K (pe_callB (call_isiK K) rfl (hb _ (by decide)) bt_isinstance (pa_cons (pv 0) (pa_cons (pe_bltn (v := .ty "dict") rfl (hb _ (by decide)) bt_dict rfl) pa_nil))))
      (pss_one ps_never)
      pss_nil)
      (pss_one (ps_ret (pv 0)))))), ?_⟩
    cases hv with
    | non =>
      simp only [tFor_eq, tComp_eq, tDGs, sDPs, rIsB, rIsntB, tMeth, tMake, tDGet, sDPut, tFld, sFld, tDisp, tPairs, tNever, decide_true, decide_false, truV_bl, clsV_ty, V.ty.injEq, exists_eq', exists_eq, Bool.not_true, Bool.not_false, Bool.not_not, rLen, rListOf, rTupOf, rAny, rAll, rIsI, tTru, iRng1, iRng2, iList, tYes, cSt, List.drop_succ_cons, List.drop_zero, cxOf_K, cxC_K,  tBM, tBM0, rAppend, tSl, rSlL, tNoPart, tPart, rIxL, rIxT, rCat, List.cons.injEq, rEq_ii, rNe_ii, rEq_bb, rNe_bb, tSeq, exists_and_left, if_false, if_true, reduceIte, Bool.false_eq_true, tIfS, tAnd, tOr, tNot, tTest, tOp, tUn, tVar, tC, rI, rI0, rU, tRet, tRetN, tAsg, gName, tNext, tAndV, tOrV, tNotV, tIf, tCall, tCons, tNil, tCB, tDrop, tLst, tTup, tChain, L2.start, List.map_cons, List.map_nil, List.length_cons, List.length_nil, List.replicate, List.cons_append, List.nil_append, List.getElem?_cons_zero, List.getElem?_cons_succ, List.set_cons_zero, List.set_cons_succ, Option.some.injEq, exists_eq_left', exists_eq_left, V.int.injEq, V.bl.injEq, V.ref.injEq, V.str.injEq, exists_const, and_true, true_and, reduceCtorEq, false_and, exists_false, or_false, false_or, and_assoc, List.append_nil]
      exact ⟨_, .non, _, kitI_nl K, iteF ⟨_, .non, _, kitI_nt K, iteF ⟨_, .non, _, kitI_nd K, iteF (q _ _ (Same.refl _) .non)⟩⟩⟩
    | bl b =>
      simp only [tFor_eq, tComp_eq, tDGs, sDPs, rIsB, rIsntB, tMeth, tMake, tDGet, sDPut, tFld, sFld, tDisp, tPairs, tNever, decide_true, decide_false, truV_bl, clsV_ty, V.ty.injEq, exists_eq', exists_eq, Bool.not_true, Bool.not_false, Bool.not_not, rLen, rListOf, rTupOf, rAny, rAll, rIsI, tTru, iRng1, iRng2, iList, tYes, cSt, List.drop_succ_cons, List.drop_zero, cxOf_K, cxC_K,  tBM, tBM0, rAppend, tSl, rSlL, tNoPart, tPart, rIxL, rIxT, rCat, List.cons.injEq, rEq_ii, rNe_ii, rEq_bb, rNe_bb, tSeq, exists_and_left, if_false, if_true, reduceIte, Bool.false_eq_true, tIfS, tAnd, tOr, tNot, tTest, tOp, tUn, tVar, tC, rI, rI0, rU, tRet, tRetN, tAsg, gName, tNext, tAndV, tOrV, tNotV, tIf, tCall, tCons, tNil, tCB, tDrop, tLst, tTup, tChain, L2.start, List.map_cons, List.map_nil, List.length_cons, List.length_nil, List.replicate, List.cons_append, List.nil_append, List.getElem?_cons_zero, List.getElem?_cons_succ, List.set_cons_zero, List.set_cons_succ, Option.some.injEq, exists_eq_left', exists_eq_left, V.int.injEq, V.bl.injEq, V.ref.injEq, V.str.injEq, exists_const, and_true, true_and, reduceCtorEq, false_and, exists_false, or_false, false_or, and_assoc, List.append_nil]
      exact ⟨_, .bl b, _, kitI_bl K, iteF ⟨_, .bl b, _, kitI_bt K, iteF ⟨_, .bl b, _, kitI_bd K, iteF (q _ _ (Same.refl _) (.bl b))⟩⟩⟩
    | int n =>
      simp only [tFor_eq, tComp_eq, tDGs, sDPs, rIsB, rIsntB, tMeth, tMake, tDGet, sDPut, tFld, sFld, tDisp, tPairs, tNever, decide_true, decide_false, truV_bl, clsV_ty, V.ty.injEq, exists_eq', exists_eq, Bool.not_true, Bool.not_false, Bool.not_not, rLen, rListOf, rTupOf, rAny, rAll, rIsI, tTru, iRng1, iRng2, iList, tYes, cSt, List.drop_succ_cons, List.drop_zero, cxOf_K, cxC_K,  tBM, tBM0, rAppend, tSl, rSlL, tNoPart, tPart, rIxL, rIxT, rCat, List.cons.injEq, rEq_ii, rNe_ii, rEq_bb, rNe_bb, tSeq, exists_and_left, if_false, if_true, reduceIte, Bool.false_eq_true, tIfS, tAnd, tOr, tNot, tTest, tOp, tUn, tVar, tC, rI, rI0, rU, tRet, tRetN, tAsg, gName, tNext, tAndV, tOrV, tNotV, tIf, tCall, tCons, tNil, tCB, tDrop, tLst, tTup, tChain, L2.start, List.map_cons, List.map_nil, List.length_cons, List.length_nil, List.replicate, List.cons_append, List.nil_append, List.getElem?_cons_zero, List.getElem?_cons_succ, List.set_cons_zero, List.set_cons_succ, Option.some.injEq, exists_eq_left', exists_eq_left, V.int.injEq, V.bl.injEq, V.ref.injEq, V.str.injEq, exists_const, and_true, true_and, reduceCtorEq, false_and, exists_false, or_false, false_or, and_assoc, List.append_nil]
      exact ⟨_, .int n, _, kit_il K, iteF ⟨_, .int n, _, kit_it K, iteF ⟨_, .int n, _, kit_id K, iteF (q _ _ (Same.refl _) (.int n))⟩⟩⟩
    | str ok =>
      simp only [tFor_eq, tComp_eq, tDGs, sDPs, rIsB, rIsntB, tMeth, tMake, tDGet, sDPut, tFld, sFld, tDisp, tPairs, tNever, decide_true, decide_false, truV_bl, clsV_ty, V.ty.injEq, exists_eq', exists_eq, Bool.not_true, Bool.not_false, Bool.not_not, rLen, rListOf, rTupOf, rAny, rAll, rIsI, tTru, iRng1, iRng2, iList, tYes, cSt, List.drop_succ_cons, List.drop_zero, cxOf_K, cxC_K,  tBM, tBM0, rAppend, tSl, rSlL, tNoPart, tPart, rIxL, rIxT, rCat, List.cons.injEq, rEq_ii, rNe_ii, rEq_bb, rNe_bb, tSeq, exists_and_left, if_false, if_true, reduceIte, Bool.false_eq_true, tIfS, tAnd, tOr, tNot, tTest, tOp, tUn, tVar, tC, rI, rI0, rU, tRet, tRetN, tAsg, gName, tNext, tAndV, tOrV, tNotV, tIf, tCall, tCons, tNil, tCB, tDrop, tLst, tTup, tChain, L2.start, List.map_cons, List.map_nil, List.length_cons, List.length_nil, List.replicate, List.cons_append, List.nil_append, List.getElem?_cons_zero, List.getElem?_cons_succ, List.set_cons_zero, List.set_cons_succ, Option.some.injEq, exists_eq_left', exists_eq_left, V.int.injEq, V.bl.injEq, V.ref.injEq, V.str.injEq, exists_const, and_true, true_and, reduceCtorEq, false_and, exists_false, or_false, false_or, and_assoc, List.append_nil]
      exact ⟨_, .str _, _, kit_sl K, iteF ⟨_, .str _, _, kit_st K, iteF ⟨_, .str _, _, kit_sd K, iteF (q _ _ (Same.refl _) (.str ok))⟩⟩⟩
    | tup e hx hl => rw [PyData.depth] at hd; omega
theorem own_cpyS {n : Nat} (D : Def K mg "own_copy" s_own_copy) (hb : Blt mg) (F_own_copy : Own P w K mg base (n + 1) "own_copy" ["thing"] (sp_cpy n)) : Own P w K mg base (n + 2) "own_copy" ["thing"] (sp_cpy (n + 1)) := by
  refine D.own sc_own_copy (fun _ _ _ _ _ _ us hl => match us, hl with | [_], _ => rfl) (fun vs H Q E h => ?_) (fun f cdv A outer s H vs Q E hr h => ?_)
  · obtain ⟨v, d, rfl, _⟩ := h
    rfl
  · obtain ⟨v, d, rfl, hv, hd, q⟩ := h
    refine ⟨_, (pss_cons (ps_if (pt_truK K (pe_callB (call_isiK K) rfl (hb _ (by decide)) bt_isinstance (pa_cons (pv 0) (pa_cons (pe_bltn (v := .ty "list") rfl (hb _ (by decide)) bt_list rfl) pa_nil))))
      (pss_one ps_never)
      pss_nil)
      (pss_cons (ps_if (pt_truK K (pe_callB (call_isiK K) rfl (hb _ (by decide)) bt_isinstance (pa_cons (pv 0) (pa_cons (pe_bltn (v := .ty "tuple") rfl (hb _ (by decide)) bt_tuple rfl) pa_nil))))
      (pss_one (ps_ret (pe_callTy (call_tupleK K) rfl (hb _ (by decide)) bt_tuple (pa_cons (pe_comp ["part"] [] [] rfl cs_own_copy_1 (pi_tupK K (pv 0)) (fun _ _ _ _ => (pg_name (i := 0) cs_own_copy_1.nd rfl (by first | exact Or.inl rfl | exact Or.inr rfl))) (fun _ _ _ _ => pf_nil) (fun _ _ _ _ => (pe_fn F_own_copy hr (pa_cons (pv 0) pa_nil) (Nat.le_refl _)))) pa_nil))))
      pss_nil)
      (pss_cons (ps_if (pt_truK K (pe_callB (call_isiK K) rfl (hb _ (by decide)) bt_isinstance (pa_cons (pv 0) (pa_cons (pe_bltn (v := .ty "dict") rfl (hb _ (by decide)) bt_dict rfl) pa_nil))))
      (pss_one ps_never)
      pss_nil)
      (pss_one (ps_ret (pv 0)))))), ?_⟩
    cases hv with
    | non =>
      simp only [tFor_eq, tComp_eq, tDGs, sDPs, rIsB, rIsntB, tMeth, tMake, tDGet, sDPut, tFld, sFld, tDisp, tPairs, tNever, decide_true, decide_false, truV_bl, clsV_ty, V.ty.injEq, exists_eq', exists_eq, Bool.not_true, Bool.not_false, Bool.not_not, rLen, rListOf, rTupOf, rAny, rAll, rIsI, tTru, iRng1, iRng2, iList, tYes, cSt, List.drop_succ_cons, List.drop_zero, cxOf_K, cxC_K,  tBM, tBM0, rAppend, tSl, rSlL, tNoPart, tPart, rIxL, rIxT, rCat, List.cons.injEq, rEq_ii, rNe_ii, rEq_bb, rNe_bb, tSeq, exists_and_left, if_false, if_true, reduceIte, Bool.false_eq_true, tIfS, tAnd, tOr, tNot, tTest, tOp, tUn, tVar, tC, rI, rI0, rU, tRet, tRetN, tAsg, gName, tNext, tAndV, tOrV, tNotV, tIf, tCall, tCons, tNil, tCB, tDrop, tLst, tTup, tChain, L2.start, List.map_cons, List.map_nil, List.length_cons, List.length_nil, List.replicate, List.cons_append, List.nil_append, List.getElem?_cons_zero, List.getElem?_cons_succ, List.set_cons_zero, List.set_cons_succ, Option.some.injEq, exists_eq_left', exists_eq_left, V.int.injEq, V.bl.injEq, V.ref.injEq, V.str.injEq, exists_const, and_true, true_and, reduceCtorEq, false_and, exists_false, or_false, false_or, and_assoc, List.append_nil]
      exact ⟨_, .non, _, kitI_nl K, iteF ⟨_, .non, _, kitI_nt K, iteF ⟨_, .non, _, kitI_nd K, iteF (q _ _ (Same.refl _) .non)⟩⟩⟩
    | bl b =>
      simp only [tFor_eq, tComp_eq, tDGs, sDPs, rIsB, rIsntB, tMeth, tMake, tDGet, sDPut, tFld, sFld, tDisp, tPairs, tNever, decide_true, decide_false, truV_bl, clsV_ty, V.ty.injEq, exists_eq', exists_eq, Bool.not_true, Bool.not_false, Bool.not_not, rLen, rListOf, rTupOf, rAny, rAll, rIsI, tTru, iRng1, iRng2, iList, tYes, cSt, List.drop_succ_cons, List.drop_zero, cxOf_K, cxC_K,  tBM, tBM0, rAppend, tSl, rSlL, tNoPart, tPart, rIxL, rIxT, rCat, List.cons.injEq, rEq_ii, rNe_ii, rEq_bb, rNe_bb, tSeq, exists_and_left, if_false, if_true, reduceIte, Bool.false_eq_true, tIfS, tAnd, tOr, tNot, tTest, tOp, tUn, tVar, tC, rI, rI0, rU, tRet, tRetN, tAsg, gName, tNext, tAndV, tOrV, tNotV, tIf, tCall, tCons, tNil, tCB, tDrop, tLst, tTup, tChain, L2.start, List.map_cons, List.map_nil, List.length_cons, List.length_nil, List.replicate, List.cons_append, List.nil_append, List.getElem?_cons_zero, List.getElem?_cons_succ, List.set_cons_zero, List.set_cons_succ, Option.some.injEq, exists_eq_left', exists_eq_left, V.int.injEq, V.bl.injEq, V.ref.injEq, V.str.injEq, exists_const, and_true, true_and, reduceCtorEq, false_and, exists_false, or_false, false_or, and_assoc, List.append_nil]
      exact ⟨_, .bl b, _, kitI_bl K, iteF ⟨_, .bl b, _, kitI_bt K, iteF ⟨_, .bl b, _, kitI_bd K, iteF (q _ _ (Same.refl _) (.bl b))⟩⟩⟩
    | int n =>
      simp only [tFor_eq, tComp_eq, tDGs, sDPs, rIsB, rIsntB, tMeth, tMake, tDGet, sDPut, tFld, sFld, tDisp, tPairs, tNever, decide_true, decide_false, truV_bl, clsV_ty, V.ty.injEq, exists_eq', exists_eq, Bool.not_true, Bool.not_false, Bool.not_not, rLen, rListOf, rTupOf, rAny, rAll, rIsI, tTru, iRng1, iRng2, iList, tYes, cSt, List.drop_succ_cons, List.drop_zero, cxOf_K, cxC_K,  tBM, tBM0, rAppend, tSl, rSlL, tNoPart, tPart, rIxL, rIxT, rCat, List.cons.injEq, rEq_ii, rNe_ii, rEq_bb, rNe_bb, tSeq, exists_and_left, if_false, if_true, reduceIte, Bool.false_eq_true, tIfS, tAnd, tOr, tNot, tTest, tOp, tUn, tVar, tC, rI, rI0, rU, tRet, tRetN, tAsg, gName, tNext, tAndV, tOrV, tNotV, tIf, tCall, tCons, tNil, tCB, tDrop, tLst, tTup, tChain, L2.start, List.map_cons, List.map_nil, List.length_cons, List.length_nil, List.replicate, List.cons_append, List.nil_append, List.getElem?_cons_zero, List.getElem?_cons_succ, List.set_cons_zero, List.set_cons_succ, Option.some.injEq, exists_eq_left', exists_eq_left, V.int.injEq, V.bl.injEq, V.ref.injEq, V.str.injEq, exists_const, and_true, true_and, reduceCtorEq, false_and, exists_false, or_false, false_or, and_assoc, List.append_nil]
      exact ⟨_, .int n, _, kit_il K, iteF ⟨_, .int n, _, kit_it K, iteF ⟨_, .int n, _, kit_id K, iteF (q _ _ (Same.refl _) (.int n))⟩⟩⟩
    | str ok =>
      simp only [tFor_eq, tComp_eq, tDGs, sDPs, rIsB, rIsntB, tMeth, tMake, tDGet, sDPut, tFld, sFld, tDisp, tPairs, tNever, decide_true, decide_false, truV_bl, clsV_ty, V.ty.injEq, exists_eq', exists_eq, Bool.not_true, Bool.not_false, Bool.not_not, rLen, rListOf, rTupOf, rAny, rAll, rIsI, tTru, iRng1, iRng2, iList, tYes, cSt, List.drop_succ_cons, List.drop_zero, cxOf_K, cxC_K,  tBM, tBM0, rAppend, tSl, rSlL, tNoPart, tPart, rIxL, rIxT, rCat, List.cons.injEq, rEq_ii, rNe_ii, rEq_bb, rNe_bb, tSeq, exists_and_left, if_false, if_true, reduceIte, Bool.false_eq_true, tIfS, tAnd, tOr, tNot, tTest, tOp, tUn, tVar, tC, rI, rI0, rU, tRet, tRetN, tAsg, gName, tNext, tAndV, tOrV, tNotV, tIf, tCall, tCons, tNil, tCB, tDrop, tLst, tTup, tChain, L2.start, List.map_cons, List.map_nil, List.length_cons, List.length_nil, List.replicate, List.cons_append, List.nil_append, List.getElem?_cons_zero, List.getElem?_cons_succ, List.set_cons_zero, List.set_cons_succ, Option.some.injEq, exists_eq_left', exists_eq_left, V.int.injEq, V.bl.injEq, V.ref.injEq, V.str.injEq, exists_const, and_true, true_and, reduceCtorEq, false_and, exists_false, or_false, false_or, and_assoc, List.append_nil]
      exact ⟨_, .str _, _, kit_sl K, iteF ⟨_, .str _, _, kit_st K, iteF ⟨_, .str _, _, kit_sd K, iteF (q _ _ (Same.refl _) (.str ok))⟩⟩⟩
    | @tup p xs ds e hx hl =>
      rw [PyData.depth] at hd
      simp only [tFor_eq, tComp_eq, tDGs, sDPs, rIsB, rIsntB, tMeth, tMake, tDGet, sDPut, tFld, sFld, tDisp, tPairs, tNever, decide_true, decide_false, truV_bl, clsV_ty, V.ty.injEq, exists_eq', exists_eq, Bool.not_true, Bool.not_false, Bool.not_not, rLen, rListOf, rTupOf, rAny, rAll, rIsI, tTru, iRng1, iRng2, iList, tYes, cSt, List.drop_succ_cons, List.drop_zero, cxOf_K, cxC_K,  tBM, tBM0, rAppend, tSl, rSlL, tNoPart, tPart, rIxL, rIxT, rCat, List.cons.injEq, rEq_ii, rNe_ii, rEq_bb, rNe_bb, tSeq, exists_and_left, if_false, if_true, reduceIte, Bool.false_eq_true, tIfS, tAnd, tOr, tNot, tTest, tOp, tUn, tVar, tC, rI, rI0, rU, tRet, tRetN, tAsg, gName, tNext, tAndV, tOrV, tNotV, tIf, tCall, tCons, tNil, tCB, tDrop, tLst, tTup, tChain, L2.start, List.map_cons, List.map_nil, List.length_cons, List.length_nil, List.replicate, List.cons_append, List.nil_append, List.getElem?_cons_zero, List.getElem?_cons_succ, List.set_cons_zero, List.set_cons_succ, Option.some.injEq, exists_eq_left', exists_eq_left, V.int.injEq, V.bl.injEq, V.ref.injEq, V.str.injEq, exists_const, and_true, true_and, reduceCtorEq, false_and, exists_false, or_false, false_or, and_assoc, List.append_nil, iTup]
      refine ⟨_, .tup e, _, kit_tl K, iteF ⟨_, .tup e, _, kit_tt K, iteT ⟨⟨_, SqT.of e⟩, comp_tup (K := K) (xs := xs) (Nat.le_of_lt (small1000 hl)) (fun D i acc H' => Same H H' ∧ H' D = some (.lst acc) ∧ Ims H' acc (ds.take i)) (fun D hD => ⟨Same.upd_new hD, upd_same, .nil⟩) ?_ ?_ ?_⟩⟩⟩
      · rintro D i acc H' hD hi ⟨s1, e1, h1⟩
        have := h1.len
        rw [List.length_take] at this
        exact ⟨e1, SqT.of (s1 _ _ e), by omega⟩
      · rintro D i x acc H' hD hi ⟨s1, e1, h1⟩
        obtain ⟨d, hd', hxd⟩ := hx.get hi
        simp only [tFor_eq, tComp_eq, tDGs, sDPs, rIsB, rIsntB, tMeth, tMake, tDGet, sDPut, tFld, sFld, tDisp, tPairs, tNever, decide_true, decide_false, truV_bl, clsV_ty, V.ty.injEq, exists_eq', exists_eq, Bool.not_true, Bool.not_false, Bool.not_not, rLen, rListOf, rTupOf, rAny, rAll, rIsI, tTru, iRng1, iRng2, iList, tYes, cSt, List.drop_succ_cons, List.drop_zero, cxOf_K, cxC_K,  tBM, tBM0, rAppend, tSl, rSlL, tNoPart, tPart, rIxL, rIxT, rCat, List.cons.injEq, rEq_ii, rNe_ii, rEq_bb, rNe_bb, tSeq, exists_and_left, if_false, if_true, reduceIte, Bool.false_eq_true, tIfS, tAnd, tOr, tNot, tTest, tOp, tUn, tVar, tC, rI, rI0, rU, tRet, tRetN, tAsg, gName, tNext, tAndV, tOrV, tNotV, tIf, tCall, tCons, tNil, tCB, tDrop, tLst, tTup, tChain, L2.start, List.map_cons, List.map_nil, List.length_cons, List.length_nil, List.replicate, List.cons_append, List.nil_append, List.getElem?_cons_zero, List.getElem?_cons_succ, List.set_cons_zero, List.set_cons_succ, Option.some.injEq, exists_eq_left', exists_eq_left, V.int.injEq, V.bl.injEq, V.ref.injEq, V.str.injEq, exists_const, and_true, true_and, reduceCtorEq, false_and, exists_false, or_false, false_or, and_assoc, List.append_nil, sp_cpy, List.map_cons, Option.join_some]
        refine ⟨d, hxd.same s1, Nat.le_trans (le_depthAll (List.mem_of_getElem? hd')) (by omega), fun v' H2 s2 h2 => ⟨s2 _ _ e1, (s1.trans s2).upd hD, upd_same, ?_⟩⟩
        have k : Keep [D] H2 (upd H2 D (.lst (acc ++ [v']))) := Keep.refl.upd (.inl (.head _))
        have hs : ∀ b ∈ [D], NoT H2 b := fun b hb => by rw [List.mem_singleton] at hb; subst hb; exact .of_lst (s2 _ _ e1)
        rw [List.take_add_one, hd', Option.toList_some]
        exact ((h1.same s2).keep k hs).app (.one (h2.keep k hs))
      · rintro D acc H' hD ⟨s1, e1, h1⟩
        rw [hx.len, List.take_length] at h1
        refine ⟨D, rfl, acc, .inl ⟨SqL.of e1, fun l hl' => ?_⟩⟩
        refine q _ _ (s1.trans (Same.upd_new hl')) (.tup upd_same (h1.same (Same.upd_new hl')) ?_)
        have := h1.len
        have := hx.len
        omega
theorem own_cpy (D : Def K mg "own_copy" s_own_copy) (hb : Blt mg) : ∀ n, Own P w K mg base (n + 1) "own_copy" ["thing"] (sp_cpy n)
  | 0 => own_cpy0 D hb
  | n + 1 => own_cpyS D hb (own_cpy D hb n)
abbrev s_Out___init__ : Stmt := inClass (top 6) 0
theorem sc_Out___init__ : FnScope ["self", "room"] ["self", "room"] (defScope s_Out___init__) := ⟨rfl, rfl, rfl, by decide +kernel, rfl, by decide +kernel, by decide +kernel⟩
abbrev s_Out_free : Stmt := inClass (top 6) 1
theorem sc_Out_free : FnScope ["self"] ["self"] (defScope s_Out_free) := ⟨rfl, rfl, rfl, by decide +kernel, rfl, by decide +kernel, by decide +kernel⟩
abbrev s_Out_put : Stmt := inClass (top 6) 2
theorem sc_Out_put : FnScope ["self", "parcel", "number"] ["self", "parcel"] (defScope s_Out_put) := ⟨rfl, rfl, rfl, by decide +kernel, rfl, by decide +kernel, by decide +kernel⟩
abbrev s_Out_told : Stmt := inClass (top 6) 3
theorem sc_Out_told : FnScope ["self", "got"] ["self", "got"] (defScope s_Out_told) := ⟨rfl, rfl, rfl, by decide +kernel, rfl, by decide +kernel, by decide +kernel⟩
theorem cs_Out_told_0 : CScope ["pair"] ["got"] { kind := .function, names := [(".0", .local), ("pair", .local), ("got", .free)], isGenerator := false, isCoroutine := false, more := [] } (defScope s_Out_told) := ⟨rfl, by decide +kernel, by decide +kernel, by decide +kernel, by decide +kernel, by decide +kernel⟩
abbrev s_Out_parcels : Stmt := inClass (top 6) 4
theorem sc_Out_parcels : FnScope ["self"] ["self"] (defScope s_Out_parcels) := ⟨rfl, rfl, rfl, by decide +kernel, rfl, by decide +kernel, by decide +kernel⟩
abbrev s_In___init__ : Stmt := inClass (top 7) 0
theorem sc_In___init__ : FnScope ["self"] ["self"] (defScope s_In___init__) := ⟨rfl, rfl, rfl, by decide +kernel, rfl, by decide +kernel, by decide +kernel⟩
abbrev s_In_took : Stmt := inClass (top 7) 1
theorem sc_In_took : FnScope ["self", "pairs", "handed_on", "number", "parcel"] ["self", "pairs"] (defScope s_In_took) := ⟨rfl, rfl, rfl, by decide +kernel, rfl, by decide +kernel, by decide +kernel⟩
/-! ### the ends of a link -/
abbrev oAttrs : List Str := ["room", "given", "kept"]
abbrev iAttrs : List Str := ["got"]
def lf (r g : Int) (l : Addr) : List (Str × V) := [("room", .int r), ("given", .int g), ("kept", .ref l)]
def nf (g : Int) : List (Str × V) := [("got", .int g)]
section
variable {r g : Int} {l : Addr}
theorem lf_room : (lf r g l).lookup ("room" : Str) = some (.int r) := rfl
theorem lf_given : (lf r g l).lookup ("given" : Str) = some (.int g) := rfl
theorem lf_kept : (lf r g l).lookup ("kept" : Str) = some (.ref l) := rfl
theorem lf_free : (lf r g l).lookup ("free" : Str) = none := rfl
theorem lf_put : (lf r g l).lookup ("put" : Str) = none := rfl
theorem lf_told : (lf r g l).lookup ("told" : Str) = none := rfl
theorem lf_parcels : (lf r g l).lookup ("parcels" : Str) = none := rfl
theorem lf_lt : (lf r g l).length < 1000 := by show 3 < 1000; decide
theorem lf_pgiven {n : Int} : putF "given" (.int n) (lf r g l) = lf r n l := by with_unfolding_all rfl
theorem lf_pkept {m : Addr} : putF "kept" (.ref m) (lf r g l) = lf r g m := by with_unfolding_all rfl
theorem nf_got : (nf g).lookup ("got" : Str) = some (.int g) := rfl
theorem nf_took : (nf g).lookup ("took" : Str) = none := rfl
theorem nf_lt : (nf g).length < 1000 := by show 1 < 1000; decide
theorem nf_pgot {n : Int} : putF "got" (.int n) (nf g) = nf n := by with_unfolding_all rfl
end
structure OutAt (C : Addr) (H : Hp) (x dx l : Addr) (r g : Int) (ks : List (Int × PyData)) : Prop where
  ins : H x = some (.ins C dx (lf r g l))
  kept : ∃ xs, H l = some (.lst xs) ∧ Ims H xs (ks.map pd)
theorem OutAt.keep {C : Addr} {S : List Addr} {H H' : Hp} {x dx l : Addr} {r g : Int} {ks : List (Int × PyData)} (h : OutAt C H x dx l r g ks) (k : Keep S H H') (hs : ∀ b ∈ S, NoT H b) (hx : x ∉ S) (hl : l ∉ S) : OutAt C H' x dx l r g ks := by
  obtain ⟨e, xs, el, hm⟩ := h
  exact ⟨k _ _ e hx, xs, k _ _ el hl, hm.keep k hs⟩
theorem OutAt.same {C : Addr} {H H' : Hp} {x dx l : Addr} {r g : Int} {ks : List (Int × PyData)} (h : OutAt C H x dx l r g ks) (s : Same H H') : OutAt C H' x dx l r g ks :=
  h.keep (S := []) s.keep (fun _ z => nomatch z) (fun z => nomatch z) (fun z => nomatch z)
theorem OutAt.xl {C : Addr} {H : Hp} {x dx l : Addr} {r g : Int} {ks : List (Int × PyData)} (h : OutAt C H x dx l r g ks) : x ≠ l := by
  obtain ⟨e, xs, el, hm⟩ := h
  exact ne_of e el (by intro z; cases z)
theorem noT1 {H : Hp} {b : Addr} (h : NoT H b) : ∀ c ∈ [b], NoT H c := fun c hc => by rw [List.mem_singleton] at hc; subst hc; exact h
theorem noT2 {H : Hp} {a b : Addr} (h1 : NoT H a) (h2 : NoT H b) : ∀ c ∈ [a, b], NoT H c := fun c hc => by
  rcases List.mem_cons.mp hc with rfl | hc
  · exact h1
  · rw [List.mem_singleton] at hc; subst hc; exact h2
section
variable {C : Addr}
def sp_oinit (C : Addr) : Sp := fun vs H Q _ => ∃ (x dx : Addr) (r : Int), vs = [.ref x, .int r] ∧ H x = some (.ins C dx []) ∧ ∀ l H', H l = none → OutAt C H' x dx l r 0 [] → Keep [x] H H' → Q .non H'
theorem own_oinit (D : DefI K C "Out.__init__" s_Out___init__) (T_Out : ClsD K mg "Out" C oAttrs) : OwnI P w K mg base 1 C ["self", "room"] (sp_oinit C) := by
  refine D.own sc_Out___init__ (fun _ _ _ _ _ _ us hl => match us, hl with | [_, _], _ => rfl) (fun vs H Q E h => ?_) (fun f cdv A outer s H vs Q E hr h => ?_)
  · obtain ⟨x, dx, r, rfl, _⟩ := h
    rfl
  · obtain ⟨x, dx, r, rfl, e, q⟩ := h
    refine ⟨_, (pss_cons (ps_fld (pv 0) (pv 1) rfl)
      (pss_cons (ps_fld (pv 0) pe_int rfl)
      (pss_one (ps_fld (pv 0) (pe_lst pa_nil) rfl)))), ?_⟩
    simp only [tDGs, sDPs, rIsB, rIsntB, tMeth, tMake, tDGet, sDPut, tFld, sFld, tDisp, tPairs, tNever, decide_true, decide_false, truV_bl, clsV_ty, V.ty.injEq, exists_eq', exists_eq, Bool.not_true, Bool.not_false, Bool.not_not, rLen, rListOf, rTupOf, rAny, rAll, rIsI, tTru, iRng1, iRng2, iList, tYes, cSt, List.drop_succ_cons, List.drop_zero, cxOf_K, cxC_K,  tBM, tBM0, rAppend, tSl, rSlL, tNoPart, tPart, rIxL, rIxT, rCat, List.cons.injEq, rEq_ii, rNe_ii, rEq_bb, rNe_bb, tSeq, exists_and_left, if_false, if_true, reduceIte, Bool.false_eq_true, tIfS, tAnd, tOr, tNot, tTest, tOp, tUn, tVar, tC, rI, rI0, rU, tRet, tRetN, tAsg, gName, tNext, tAndV, tOrV, tNotV, tIf, tCall, tCons, tNil, tCB, tDrop, tLst, tTup, tChain, L2.start, List.map_cons, List.map_nil, List.length_cons, List.length_nil, List.replicate, List.cons_append, List.nil_append, List.getElem?_cons_zero, List.getElem?_cons_succ, List.set_cons_zero, List.set_cons_succ, Option.some.injEq, exists_eq_left', exists_eq_left, V.int.injEq, V.bl.injEq, V.ref.injEq, V.str.injEq, exists_const, and_true, true_and, reduceCtorEq, false_and, exists_false, or_false, false_or, and_assoc, List.append_nil]
    have l1 : (putF "room" (.int r) ([] : List (Str × V))).length = 1 := rfl
    have l2 := length_putF "given" (.int 0) (putF "room" (.int r) ([] : List (Str × V)))
    refine ⟨C, dx, [], e, T_Out.cl, T_Out.no _ (by decide), by decide, C, dx, _, upd_same, T_Out.cl, T_Out.no _ (by decide), by omega, Nat.zero_le _, fun l hl => ?_⟩
    rw [upd_upd] at hl ⊢
    obtain ⟨nlx, hl1⟩ := upd_none hl
    refine ⟨C, dx, _, by rw [upd_ne (Ne.symm nlx), upd_same], T_Out.cl, T_Out.no _ (by decide), by omega, ?_⟩
    have e4 : putF "kept" (.ref l) (putF "given" (.int 0) (putF "room" (.int r) ([] : List (Str × V)))) = lf r 0 l := by with_unfolding_all rfl
    rw [e4]
    exact q l _ hl1 ⟨upd_same, [], by rw [upd_ne nlx, upd_same], .nil⟩ (((Keep.refl.upd (.inl (.head _))).upd (.inr hl1)).upd (.inl (.head _)))
def sp_free (C : Addr) : Sp := fun vs H Q _ => ∃ (x dx l : Addr) (r g : Int) (ks : List (Int × PyData)), vs = [.ref x] ∧ OutAt C H x dx l r g ks ∧ Q (.int (r - ks.length)) H
theorem own_free (D : DefM K C "free" "Out.free" s_Out_free) (hb : Blt mg) (T_Out : ClsD K mg "Out" C oAttrs) : OwnM P w K mg base 1 C "free" ["self"] (sp_free C) := by
  refine D.own sc_Out_free (fun _ _ _ _ _ _ us hl => match us, hl with | [_], _ => rfl) (fun vs H Q E h => ?_) (fun f cdv A outer s H vs Q E hr h => ?_)
  · obtain ⟨x, dx, l, r, g, ks, rfl, _⟩ := h
    rfl
  · obtain ⟨x, dx, l, r, g, ks, rfl, ⟨ex, xs, el, hm⟩, q⟩ := h
    have n1 : NoAttr K C "room" := T_Out.no _ (by decide)
    have n3 : NoAttr K C "kept" := T_Out.no _ (by decide)
    refine ⟨_, (pss_one (ps_ret (pe_op op_sub (pe_fldK K (pv 0)) (pe_callB (call_lenK K) rfl (hb _ (by decide)) bt_len (pa_cons (pe_fldK K (pv 0)) pa_nil))))), ?_⟩
    simp only [tDGs, sDPs, rIsB, rIsntB, tMeth, tMake, tDGet, sDPut, tFld, sFld, tDisp, tPairs, tNever, decide_true, decide_false, truV_bl, clsV_ty, V.ty.injEq, exists_eq', exists_eq, Bool.not_true, Bool.not_false, Bool.not_not, rLen, rListOf, rTupOf, rAny, rAll, rIsI, tTru, iRng1, iRng2, iList, tYes, cSt, List.drop_succ_cons, List.drop_zero, cxOf_K, cxC_K,  tBM, tBM0, rAppend, tSl, rSlL, tNoPart, tPart, rIxL, rIxT, rCat, List.cons.injEq, rEq_ii, rNe_ii, rEq_bb, rNe_bb, tSeq, exists_and_left, if_false, if_true, reduceIte, Bool.false_eq_true, tIfS, tAnd, tOr, tNot, tTest, tOp, tUn, tVar, tC, rI, rI0, rU, tRet, tRetN, tAsg, gName, tNext, tAndV, tOrV, tNotV, tIf, tCall, tCons, tNil, tCB, tDrop, tLst, tTup, tChain, L2.start, List.map_cons, List.map_nil, List.length_cons, List.length_nil, List.replicate, List.cons_append, List.nil_append, List.getElem?_cons_zero, List.getElem?_cons_succ, List.set_cons_zero, List.set_cons_succ, Option.some.injEq, exists_eq_left', exists_eq_left, V.int.injEq, V.bl.injEq, V.ref.injEq, V.str.injEq, exists_const, and_true, true_and, reduceCtorEq, false_and, exists_false, or_false, false_or, and_assoc, List.append_nil, HO.ins.injEq, T_Out.cl, n1, n3, lf_room, lf_kept, ex]
    have := hm.len
    rw [List.length_map] at this
    refine ⟨xs, .inl (SqL.of el), ?_⟩
    rw [this]
    exact q
def sp_put (C : Addr) : Sp := fun vs H Q _ => ∃ (x dx l : Addr) (r g : Int) (ks : List (Int × PyData)) (v : V) (d : PyData), vs = [.ref x, v] ∧ OutAt C H x dx l r g ks ∧ Im H v d ∧ d.depth ≤ 3 ∧ (ks.length : Int) < r ∧ ks.length ≤ 900 ∧
  ∀ H', OutAt C H' x dx l r (g + 1) (ks ++ [(g, d)]) → Keep [x, l] H H' → Q (.int g) H'
theorem own_put (D : DefM K C "put" "Out.put" s_Out_put) (hb : Blt mg) (T_Out : ClsD K mg "Out" C oAttrs) (F_own_copy : Own P w K mg base 4 "own_copy" ["thing"] (sp_cpy 3)) : OwnM P w K mg base 5 C "put" ["self", "parcel"] (sp_put C) := by
  refine D.own sc_Out_put (fun _ _ _ _ _ _ us hl => match us, hl with | [_, _], _ => rfl) (fun vs H Q E h => ?_) (fun f cdv A outer s H vs Q E hr h => ?_)
  · obtain ⟨x, dx, l, r, g, ks, v, d, rfl, _⟩ := h
    rfl
  · obtain ⟨x, dx, l, r, g, ks, v, d, rfl, O, hv, hd, hlt, hl9, q⟩ := h
    have nxl := O.xl
    obtain ⟨ex, xs, el, hm⟩ := O
    have n1 : NoAttr K C "room" := T_Out.no _ (by decide)
    have n2 : NoAttr K C "given" := T_Out.no _ (by decide)
    have n3 : NoAttr K C "kept" := T_Out.no _ (by decide)
    refine ⟨_, (pss_cons (ps_if (pt_cmpR op_ge (pe_callB (call_lenK K) rfl (hb _ (by decide)) bt_len (pa_cons (pe_fldK K (pv 0)) pa_nil)) (pe_fldK K (pv 0)) (nomark _))
      (pss_one ps_never)
      pss_nil)
      (pss_cons (ps_set (i := 2) sc_Out_put.nd rfl (by first | exact Or.inl rfl | exact Or.inr rfl) (pe_fldK K (pv 0)))
      (pss_cons (ps_expr (pe_bm PySem.F.plainAttrs_list PySem.F.slot_list_append PySem.F.type_list_append mt_append (pe_fldK K (pv 0)) (pa_cons (pe_tup (pa_cons (pv 2) (pa_cons (pe_fn F_own_copy hr (pa_cons (pv 1) pa_nil)) pa_nil))) pa_nil)))
      (pss_cons (ps_fld (pv 0) (pe_op op_add (pv 2) pe_int) rfl)
      (pss_one (ps_ret (pv 2))))))), ?_⟩
    have hlen := hm.len
    rw [List.length_map] at hlen
    simp only [tDGs, sDPs, rIsB, rIsntB, tMeth, tMake, tDGet, sDPut, tFld, sFld, tDisp, tPairs, tNever, decide_true, decide_false, truV_bl, clsV_ty, V.ty.injEq, exists_eq', exists_eq, Bool.not_true, Bool.not_false, Bool.not_not, rLen, rListOf, rTupOf, rAny, rAll, rIsI, tTru, iRng1, iRng2, iList, tYes, cSt, List.drop_succ_cons, List.drop_zero, cxOf_K, cxC_K,  tBM, tBM0, rAppend, tSl, rSlL, tNoPart, tPart, rIxL, rIxT, rCat, List.cons.injEq, rEq_ii, rNe_ii, rEq_bb, rNe_bb, tSeq, exists_and_left, if_false, if_true, reduceIte, Bool.false_eq_true, tIfS, tAnd, tOr, tNot, tTest, tOp, tUn, tVar, tC, rI, rI0, rU, tRet, tRetN, tAsg, gName, tNext, tAndV, tOrV, tNotV, tIf, tCall, tCons, tNil, tCB, tDrop, tLst, tTup, tChain, L2.start, List.map_cons, List.map_nil, List.length_cons, List.length_nil, List.replicate, List.cons_append, List.nil_append, List.getElem?_cons_zero, List.getElem?_cons_succ, List.set_cons_zero, List.set_cons_succ, Option.some.injEq, exists_eq_left', exists_eq_left, V.int.injEq, V.bl.injEq, V.ref.injEq, V.str.injEq, exists_const, and_true, true_and, reduceCtorEq, false_and, exists_false, or_false, false_or, and_assoc, List.append_nil, sp_cpy, HO.ins.injEq, T_Out.cl, n1, n2, n3, lf_room, lf_given, lf_kept, ex]
    refine ⟨xs, .inl (SqL.of el), ?_⟩
    rw [decide_eq_false (show ¬ r ≤ (xs.length : Int) by omega)]
    refine iteF ⟨.inl ⟨rfl, _, SqL.of el⟩, d, hv, hd, fun v' H1 s1 h1 => ⟨by decide, fun t ht => ?_⟩⟩
    have ex1 := s1 _ _ ex
    have el1 := s1 _ _ el
    have hm1 := hm.same s1
    generalize h2 : upd H1 t _ = H2
    obtain ⟨s2, e2⟩ := new_same h2 ht
    have el2 := s2 _ _ el1
    have ex2 := s2 _ _ ex1
    refine ⟨xs, el2, small1000 (by omega), C, dx, _, by rw [upd_ne nxl]; exact ex2, T_Out.cl, n2, lf_lt, ?_⟩
    rw [lf_pgiven]
    have k3 : Keep [x, l] H2 (upd (upd H2 l (.lst (xs ++ [V.ref t]))) x (.ins C dx (lf r (g + 1) l))) := (Keep.refl.upd (.inl (.tail _ (.head _)))).upd (.inl (.head _))
    have hs2 : ∀ b ∈ [x, l], NoT H2 b := noT2 (.of_ins ex2) (.of_lst el2)
    refine q _ ⟨upd_same, xs ++ [V.ref t], by rw [upd_ne (Ne.symm nxl), upd_same], ?_⟩ (((s1.trans s2).keep).trans k3)
    rw [List.map_append]
    exact ((hm1.same s2).keep k3 hs2).app (.one ((Im.pair e2 (h1.same s2)).keep k3 hs2))
def sp_told (C : Addr) : Sp := fun vs H Q _ => ∃ (x dx l : Addr) (r g : Int) (ks : List (Int × PyData)) (n : Int), vs = [.ref x, .int n] ∧ OutAt C H x dx l r g ks ∧ ks.length ≤ 900 ∧
  ∀ l' H', H l' = none → OutAt C H' x dx l' r g (ks.filter fun p => decide (n ≤ p.1)) → Keep [x] H H' → Q .non H'
theorem own_told (D : DefM K C "told" "Out.told" s_Out_told) (hb : Blt mg) (T_Out : ClsD K mg "Out" C oAttrs) : OwnM P w K mg base 1 C "told" ["self", "got"] (sp_told C) := by
  refine D.own sc_Out_told (fun _ _ _ _ _ _ us hl => match us, hl with | [_, _], _ => rfl) (fun vs H Q E h => ?_) (fun f cdv A outer s H vs Q E hr h => ?_)
  · obtain ⟨x, dx, l, r, g, ks, n, rfl, _⟩ := h
    rfl
  · obtain ⟨x, dx, l, r, g, ks, n, rfl, O, hl9, q⟩ := h
    have nxl := O.xl
    obtain ⟨ex, xs, el, hm⟩ := O
    have n3 : NoAttr K C "kept" := T_Out.no _ (by decide)
    refine ⟨_, (pss_one (ps_fld (pv 0) (pe_comp ["pair"] ["got"] [1] rfl cs_Out_told_0 (pi_listK K (pe_fldK K (pv 0))) (fun _ _ _ _ => (pg_name (i := 0) cs_Out_told_0.nd rfl (by first | exact Or.inl rfl | exact Or.inr rfl))) (fun _ _ _ _ => (pf_one (pt_cmpR op_ge (pe_ix (ix_tupK K) (pv 0) pe_int (fun _ _ => rfl)) (pv 1) (nomark _)))) (fun _ _ _ _ => (pv 0))) rfl)), ?_⟩
    have hlen := hm.len
    rw [List.length_map] at hlen
    simp only [tFor_eq, tComp_eq, tDGs, sDPs, rIsB, rIsntB, tMeth, tMake, tDGet, sDPut, tFld, sFld, tDisp, tPairs, tNever, decide_true, decide_false, truV_bl, clsV_ty, V.ty.injEq, exists_eq', exists_eq, Bool.not_true, Bool.not_false, Bool.not_not, rLen, rListOf, rTupOf, rAny, rAll, rIsI, tTru, iRng1, iRng2, iList, tYes, cSt, List.drop_succ_cons, List.drop_zero, cxOf_K, cxC_K,  tBM, tBM0, rAppend, tSl, rSlL, tNoPart, tPart, rIxL, rIxT, rCat, List.cons.injEq, rEq_ii, rNe_ii, rEq_bb, rNe_bb, tSeq, exists_and_left, if_false, if_true, reduceIte, Bool.false_eq_true, tIfS, tAnd, tOr, tNot, tTest, tOp, tUn, tVar, tC, rI, rI0, rU, tRet, tRetN, tAsg, gName, tNext, tAndV, tOrV, tNotV, tIf, tCall, tCons, tNil, tCB, tDrop, tLst, tTup, tChain, L2.start, List.map_cons, List.map_nil, List.length_cons, List.length_nil, List.replicate, List.cons_append, List.nil_append, List.getElem?_cons_zero, List.getElem?_cons_succ, List.set_cons_zero, List.set_cons_succ, Option.some.injEq, exists_eq_left', exists_eq_left, V.int.injEq, V.bl.injEq, V.ref.injEq, V.str.injEq, exists_const, and_true, true_and, reduceCtorEq, false_and, exists_false, or_false, false_or, and_assoc, List.append_nil, HO.ins.injEq, T_Out.cl, n3, lf_kept, ex]
    refine ⟨⟨xs, SqL.of el⟩, comp_list (K := K) (xs := xs) (Nat.le_of_lt (small1000 (by omega))) (fun D i acc H' => H' = upd H D (.lst acc) ∧ acc.length ≤ i ∧ Ims H acc (((ks.take i).filter fun p => decide (n ≤ p.1)).map pd)) (fun D hD => ⟨rfl, Nat.le_refl _, .nil⟩) ?_ ?_ ?_⟩
    · rintro D i acc H' hD hi ⟨rfl, ha, _⟩
      exact ⟨upd_same, (Same.upd_new hD).seq (SqL.of el), ha⟩
    · rintro D i y acc H' hD hy ⟨rfl, ha, hL⟩
      obtain ⟨d, hud, hp⟩ := hm.get hy
      rw [List.getElem?_map] at hud
      cases hk : ks[i]? with
      | none => rw [hk] at hud; cases hud
      | some p =>
        rw [hk] at hud
        cases hud
        obtain ⟨t, z, rfl, et, hz⟩ := Ims.pair hp
        have et' : (upd H D (.lst acc)) t = some (.tup [.int p.1, z]) := by rw [upd_ne (ne_of_none et hD)]; exact et
        simp only [tFor_eq, tComp_eq, tDGs, sDPs, rIsB, rIsntB, tMeth, tMake, tDGet, sDPut, tFld, sFld, tDisp, tPairs, tNever, decide_true, decide_false, truV_bl, clsV_ty, V.ty.injEq, exists_eq', exists_eq, Bool.not_true, Bool.not_false, Bool.not_not, rLen, rListOf, rTupOf, rAny, rAll, rIsI, tTru, iRng1, iRng2, iList, tYes, cSt, List.drop_succ_cons, List.drop_zero, cxOf_K, cxC_K,  tBM, tBM0, rAppend, tSl, rSlL, tNoPart, tPart, rIxL, rIxT, rCat, List.cons.injEq, rEq_ii, rNe_ii, rEq_bb, rNe_bb, tSeq, exists_and_left, if_false, if_true, reduceIte, Bool.false_eq_true, tIfS, tAnd, tOr, tNot, tTest, tOp, tUn, tVar, tC, rI, rI0, rU, tRet, tRetN, tAsg, gName, tNext, tAndV, tOrV, tNotV, tIf, tCall, tCons, tNil, tCB, tDrop, tLst, tTup, tChain, L2.start, List.map_cons, List.map_nil, List.length_cons, List.length_nil, List.replicate, List.cons_append, List.nil_append, List.getElem?_cons_zero, List.getElem?_cons_succ, List.set_cons_zero, List.set_cons_succ, Option.some.injEq, exists_eq_left', exists_eq_left, V.int.injEq, V.bl.injEq, V.ref.injEq, V.str.injEq, exists_const, and_true, true_and, reduceCtorEq, false_and, exists_false, or_false, false_or, and_assoc, List.append_nil, List.map_cons, List.map_nil, Option.join_some]
        refine ⟨_, SqT.of et', _, rfl, p.1, rfl, ?_⟩
        rw [List.take_add_one, hk, Option.toList_some, List.filter_append]
        refine ite2 (fun h => ?_) (fun h => ?_)
        · refine ⟨upd_same, upd_upd, by rw [List.length_append]; exact Nat.add_le_add_right ha 1, ?_⟩
          rw [List.filter_cons, if_pos h, List.filter_nil, List.map_append]
          exact hL.app (.one (Im.pair et hz))
        · refine ⟨upd_same, Nat.le_succ_of_le ha, ?_⟩
          rw [List.filter_cons, if_neg h, List.filter_nil, List.append_nil]
          exact hL
    · rintro D acc H' hD ⟨rfl, ha, hL⟩
      rw [hlen, List.take_length] at hL
      have nxD : x ≠ D := ne_of_none ex hD
      refine ⟨C, dx, _, by rw [upd_ne nxD]; exact ex, T_Out.cl, n3, lf_lt, ?_⟩
      rw [lf_pkept]
      have k3 : Keep [x] H (upd (upd H D (.lst acc)) x (.ins C dx (lf r g D))) := (Keep.refl.upd (.inr hD)).upd (.inl (.head _))
      exact q D _ hD ⟨upd_same, acc, by rw [upd_ne (Ne.symm nxD), upd_same], hL.keep k3 (noT1 (.of_ins ex))⟩ k3
def sp_parcels (C : Addr) : Sp := fun vs H Q _ => ∃ (x dx l : Addr) (r g : Int) (ks : List (Int × PyData)), vs = [.ref x] ∧ OutAt C H x dx l r g ks ∧ ks.length ≤ 900 ∧ (∀ p ∈ ks, p.2.depth ≤ 3) ∧
  ∀ v H', Same H H' → Im H' v (.tuple (ks.map pd)) → Q v H'
theorem own_parcels (D : DefM K C "parcels" "Out.parcels" s_Out_parcels) (hb : Blt mg) (T_Out : ClsD K mg "Out" C oAttrs) (F_own_copy : Own P w K mg base 6 "own_copy" ["thing"] (sp_cpy 5)) : OwnM P w K mg base 7 C "parcels" ["self"] (sp_parcels C) := by
  refine D.own sc_Out_parcels (fun _ _ _ _ _ _ us hl => match us, hl with | [_], _ => rfl) (fun vs H Q E h => ?_) (fun f cdv A outer s H vs Q E hr h => ?_)
  · obtain ⟨x, dx, l, r, g, ks, rfl, _⟩ := h
    rfl
  · obtain ⟨x, dx, l, r, g, ks, rfl, ⟨ex, xs, el, hm⟩, hl9, hd, q⟩ := h
    have n3 : NoAttr K C "kept" := T_Out.no _ (by decide)
    have hlen := hm.len
    rw [List.length_map] at hlen
    refine ⟨_, (pss_one (ps_ret (pe_fn F_own_copy hr (pa_cons (pe_callTy (call_tupleK K) rfl (hb _ (by decide)) bt_tuple (pa_cons (pe_fldK K (pv 0)) pa_nil)) pa_nil)))), ?_⟩
    simp only [tDGs, sDPs, rIsB, rIsntB, tMeth, tMake, tDGet, sDPut, tFld, sFld, tDisp, tPairs, tNever, decide_true, decide_false, truV_bl, clsV_ty, V.ty.injEq, exists_eq', exists_eq, Bool.not_true, Bool.not_false, Bool.not_not, rLen, rListOf, rTupOf, rAny, rAll, rIsI, tTru, iRng1, iRng2, iList, tYes, cSt, List.drop_succ_cons, List.drop_zero, cxOf_K, cxC_K,  tBM, tBM0, rAppend, tSl, rSlL, tNoPart, tPart, rIxL, rIxT, rCat, List.cons.injEq, rEq_ii, rNe_ii, rEq_bb, rNe_bb, tSeq, exists_and_left, if_false, if_true, reduceIte, Bool.false_eq_true, tIfS, tAnd, tOr, tNot, tTest, tOp, tUn, tVar, tC, rI, rI0, rU, tRet, tRetN, tAsg, gName, tNext, tAndV, tOrV, tNotV, tIf, tCall, tCons, tNil, tCB, tDrop, tLst, tTup, tChain, L2.start, List.map_cons, List.map_nil, List.length_cons, List.length_nil, List.replicate, List.cons_append, List.nil_append, List.getElem?_cons_zero, List.getElem?_cons_succ, List.set_cons_zero, List.set_cons_succ, Option.some.injEq, exists_eq_left', exists_eq_left, V.int.injEq, V.bl.injEq, V.ref.injEq, V.str.injEq, exists_const, and_true, true_and, reduceCtorEq, false_and, exists_false, or_false, false_or, and_assoc, List.append_nil, sp_cpy, HO.ins.injEq, T_Out.cl, n3, lf_kept, ex]
    refine ⟨xs, .inl ⟨SqL.of el, fun t ht => ?_⟩⟩
    have s1 := Same.upd_new (o := .tup xs) ht
    exact ⟨_, .tup upd_same (hm.same s1) (by omega), pds_depth hd, fun v' H' s2 h2 => q _ _ (s1.trans s2) h2⟩
def sp_iinit (C : Addr) : Sp := fun vs H Q _ => ∃ (y dy : Addr), vs = [.ref y] ∧ H y = some (.ins C dy []) ∧ Q .non (upd H y (.ins C dy (nf 0)))
theorem own_iinit (D : DefI K C "In.__init__" s_In___init__) (T_In : ClsD K mg "In" C iAttrs) : OwnI P w K mg base 1 C ["self"] (sp_iinit C) := by
  refine D.own sc_In___init__ (fun _ _ _ _ _ _ us hl => match us, hl with | [_], _ => rfl) (fun vs H Q E h => ?_) (fun f cdv A outer s H vs Q E hr h => ?_)
  · obtain ⟨y, dy, rfl, _⟩ := h
    rfl
  · obtain ⟨y, dy, rfl, e, q⟩ := h
    refine ⟨_, (pss_one (ps_fld (pv 0) pe_int rfl)), ?_⟩
    simp only [tDGs, sDPs, rIsB, rIsntB, tMeth, tMake, tDGet, sDPut, tFld, sFld, tDisp, tPairs, tNever, decide_true, decide_false, truV_bl, clsV_ty, V.ty.injEq, exists_eq', exists_eq, Bool.not_true, Bool.not_false, Bool.not_not, rLen, rListOf, rTupOf, rAny, rAll, rIsI, tTru, iRng1, iRng2, iList, tYes, cSt, List.drop_succ_cons, List.drop_zero, cxOf_K, cxC_K,  tBM, tBM0, rAppend, tSl, rSlL, tNoPart, tPart, rIxL, rIxT, rCat, List.cons.injEq, rEq_ii, rNe_ii, rEq_bb, rNe_bb, tSeq, exists_and_left, if_false, if_true, reduceIte, Bool.false_eq_true, tIfS, tAnd, tOr, tNot, tTest, tOp, tUn, tVar, tC, rI, rI0, rU, tRet, tRetN, tAsg, gName, tNext, tAndV, tOrV, tNotV, tIf, tCall, tCons, tNil, tCB, tDrop, tLst, tTup, tChain, L2.start, List.map_cons, List.map_nil, List.length_cons, List.length_nil, List.replicate, List.cons_append, List.nil_append, List.getElem?_cons_zero, List.getElem?_cons_succ, List.set_cons_zero, List.set_cons_succ, Option.some.injEq, exists_eq_left', exists_eq_left, V.int.injEq, V.bl.injEq, V.ref.injEq, V.str.injEq, exists_const, and_true, true_and, reduceCtorEq, false_and, exists_false, or_false, false_or, and_assoc, List.append_nil]
    refine ⟨C, dy, [], e, T_In.cl, T_In.no _ (by decide), by decide, ?_⟩
    have e4 : putF "got" (.int 0) ([] : List (Str × V)) = nf 0 := by with_unfolding_all rfl
    rw [e4]
    exact q
def sp_took (C : Addr) : Sp := fun vs H Q _ => ∃ (y dy : Addr) (g : Int) (v : V) (ps : List (Int × PyData)), vs = [.ref y, v] ∧ H y = some (.ins C dy (nf g)) ∧ Im H v (.tuple (ps.map pd)) ∧ (∀ p ∈ ps, p.2.depth ≤ 3) ∧
  ∀ l zs H', H l = none → H' l = some (.lst zs) → Ims H' zs (ps.foldl tk (g, [])).2 → H' y = some (.ins C dy (nf (ps.foldl tk (g, [])).1)) → Keep [y] H H' → Q (.ref l) H'
def Lt (C y dy l : Addr) (v : V) (g : Int) (ps : List (Int × PyData)) (H : Hp) (i : Nat) (σ : St) (H' : Hp) : Prop :=
  ∃ v3 v4 zs, σ = [some (.ref y), some v, some (.ref l), v3, v4] ∧ Keep [y, l] H H' ∧ H' l = some (.lst zs) ∧ Ims H' zs ((ps.take i).foldl tk (g, [])).2 ∧ H' y = some (.ins C dy (nf ((ps.take i).foldl tk (g, [])).1)) ∧ zs.length ≤ i
theorem own_took (D : DefM K C "took" "In.took" s_In_took) (hb : Blt mg) (T_In : ClsD K mg "In" C iAttrs) (F_own_copy : Own P w K mg base 4 "own_copy" ["thing"] (sp_cpy 3)) : OwnM P w K mg base 5 C "took" ["self", "pairs"] (sp_took C) := by
  refine D.own sc_In_took (fun _ _ _ _ _ _ us hl => match us, hl with | [_, _], _ => rfl) (fun vs H Q E h => ?_) (fun f cdv A outer s H vs Q E hr h => ?_)
  · obtain ⟨y, dy, g, v, ps, rfl, _⟩ := h
    rfl
  · obtain ⟨y, dy, g, v, ps, rfl, ey, hv, hd, q⟩ := h
    have n1 : NoAttr K C "got" := T_In.no _ (by decide)
    refine ⟨_, (pss_cons (ps_set (i := 2) sc_In_took.nd rfl (by first | exact Or.inl rfl | exact Or.inr rfl) (pe_lst pa_nil))
      (pss_cons (ps_for PassesOwn.never rfl (pi_tupK K (pv 1)) (pg_tupK K (n := 2) rfl (pgs_cons (pg_name (i := 3) sc_In_took.nd rfl (by first | exact Or.inl rfl | exact Or.inr rfl)) (pgs_cons (pg_name (i := 4) sc_In_took.nd rfl (by first | exact Or.inl rfl | exact Or.inr rfl)) pgs_nil)))
      (pss_one (ps_if (pt_cmpR op_eq (pv 3) (pe_fldK K (pv 0)) (nomark _))
      (pss_cons (ps_fld (pv 0) (pe_op op_add (pv 3) pe_int) rfl)
      (pss_one (ps_expr (pe_bm PySem.F.plainAttrs_list PySem.F.slot_list_append PySem.F.type_list_append mt_append (pv 2) (pa_cons (pe_fn F_own_copy hr (pa_cons (pv 4) pa_nil)) pa_nil)))))
      pss_nil)))
      (pss_one (ps_ret (pv 2))))), ?_⟩
    cases hv with
    | @tup p xs ds e hx hl9 =>
      have hlen := hx.len
      rw [List.length_map] at hlen
      simp only [tFor_eq, tComp_eq, tDGs, sDPs, rIsB, rIsntB, tMeth, tMake, tDGet, sDPut, tFld, sFld, tDisp, tPairs, tNever, decide_true, decide_false, truV_bl, clsV_ty, V.ty.injEq, exists_eq', exists_eq, Bool.not_true, Bool.not_false, Bool.not_not, rLen, rListOf, rTupOf, rAny, rAll, rIsI, tTru, iRng1, iRng2, iList, tYes, cSt, List.drop_succ_cons, List.drop_zero, cxOf_K, cxC_K,  tBM, tBM0, rAppend, tSl, rSlL, tNoPart, tPart, rIxL, rIxT, rCat, List.cons.injEq, rEq_ii, rNe_ii, rEq_bb, rNe_bb, tSeq, exists_and_left, if_false, if_true, reduceIte, Bool.false_eq_true, tIfS, tAnd, tOr, tNot, tTest, tOp, tUn, tVar, tC, rI, rI0, rU, tRet, tRetN, tAsg, gName, tNext, tAndV, tOrV, tNotV, tIf, tCall, tCons, tNil, tCB, tDrop, tLst, tTup, tChain, L2.start, List.map_cons, List.map_nil, List.length_cons, List.length_nil, List.replicate, List.cons_append, List.nil_append, List.getElem?_cons_zero, List.getElem?_cons_succ, List.set_cons_zero, List.set_cons_succ, Option.some.injEq, exists_eq_left', exists_eq_left, V.int.injEq, V.bl.injEq, V.ref.injEq, V.str.injEq, exists_const, and_true, true_and, reduceCtorEq, false_and, exists_false, or_false, false_or, and_assoc, List.append_nil, iTup]
      refine ⟨Nat.zero_le _, fun l hl => ⟨⟨_, (Same.upd_new hl).seqT (SqT.of e)⟩, ?_⟩⟩
      have nyl : y ≠ l := ne_of_none ey hl
      have hs0 : ∀ b ∈ [y, l], NoT H b := noT2 (.of_ins ey) (.of_none hl)
      refine for_tup (K := K) (xs := xs) (Lt C y dy l (.ref p) g ps H) ⟨none, none, [], rfl, Keep.refl.upd (.inl (.tail _ (.head _))), upd_same, .nil, by rw [upd_ne nyl]; exact ey, Nat.le_refl _⟩ ?_ ?_ ?_
      · rintro i σ H1 hi ⟨v3, v4, zs, rfl, k1, e1, h1, ey1, hz1⟩
        exact SqT.of (k1 _ _ e fun z => hs0 _ z _ e)
      · rintro i z σ H1 hz ⟨v3, v4, zs, rfl, k1, e1, h1, ey1, hz1⟩
        obtain ⟨d, hud, hp⟩ := hx.get hz
        rw [List.getElem?_map] at hud
        cases hk : ps[i]? with
        | none => rw [hk] at hud; cases hud
        | some u =>
          rw [hk] at hud
          cases hud
          obtain ⟨t, y2, rfl, et, hy2⟩ := Ims.pair (hp.keep k1 hs0)
          have hi9 : i < xs.length := (List.getElem?_eq_some_iff.mp hz).1
          simp only [tFor_eq, tComp_eq, tDGs, sDPs, rIsB, rIsntB, tMeth, tMake, tDGet, sDPut, tFld, sFld, tDisp, tPairs, tNever, decide_true, decide_false, truV_bl, clsV_ty, V.ty.injEq, exists_eq', exists_eq, Bool.not_true, Bool.not_false, Bool.not_not, rLen, rListOf, rTupOf, rAny, rAll, rIsI, tTru, iRng1, iRng2, iList, tYes, cSt, List.drop_succ_cons, List.drop_zero, cxOf_K, cxC_K,  tBM, tBM0, rAppend, tSl, rSlL, tNoPart, tPart, rIxL, rIxT, rCat, List.cons.injEq, rEq_ii, rNe_ii, rEq_bb, rNe_bb, tSeq, exists_and_left, if_false, if_true, reduceIte, Bool.false_eq_true, tIfS, tAnd, tOr, tNot, tTest, tOp, tUn, tVar, tC, rI, rI0, rU, tRet, tRetN, tAsg, gName, tNext, tAndV, tOrV, tNotV, tIf, tCall, tCons, tNil, tCB, tDrop, tLst, tTup, tChain, L2.start, List.map_cons, List.map_nil, List.length_cons, List.length_nil, List.replicate, List.cons_append, List.nil_append, List.getElem?_cons_zero, List.getElem?_cons_succ, List.set_cons_zero, List.set_cons_succ, Option.some.injEq, exists_eq_left', exists_eq_left, V.int.injEq, V.bl.injEq, V.ref.injEq, V.str.injEq, exists_const, and_true, true_and, reduceCtorEq, false_and, exists_false, or_false, false_or, and_assoc, List.append_nil, sp_cpy, gTup, gCons, gNil, HO.ins.injEq, T_In.cl, n1, nf_got, ey1]
          have nxt : (ps.take (i + 1)).foldl tk (g, []) = tk ((ps.take i).foldl tk (g, [])) u := by
            rw [List.take_add_one, hk, Option.toList_some, List.foldl_append]
            rfl
          have hdu := hd u (List.mem_of_getElem? hk)
          have nly : l ≠ y := Ne.symm nyl
          refine ⟨_, SqT.of et, rfl, _, _, rfl, _, _, rfl, rfl, ?_⟩
          simp only [tFor_eq, tComp_eq, tDGs, sDPs, rIsB, rIsntB, tMeth, tMake, tDGet, sDPut, tFld, sFld, tDisp, tPairs, tNever, decide_true, decide_false, truV_bl, clsV_ty, V.ty.injEq, exists_eq', exists_eq, Bool.not_true, Bool.not_false, Bool.not_not, rLen, rListOf, rTupOf, rAny, rAll, rIsI, tTru, iRng1, iRng2, iList, tYes, cSt, List.drop_succ_cons, List.drop_zero, cxOf_K, cxC_K,  tBM, tBM0, rAppend, tSl, rSlL, tNoPart, tPart, rIxL, rIxT, rCat, List.cons.injEq, rEq_ii, rNe_ii, rEq_bb, rNe_bb, tSeq, exists_and_left, if_false, if_true, reduceIte, Bool.false_eq_true, tIfS, tAnd, tOr, tNot, tTest, tOp, tUn, tVar, tC, rI, rI0, rU, tRet, tRetN, tAsg, gName, tNext, tAndV, tOrV, tNotV, tIf, tCall, tCons, tNil, tCB, tDrop, tLst, tTup, tChain, L2.start, List.map_cons, List.map_nil, List.length_cons, List.length_nil, List.replicate, List.cons_append, List.nil_append, List.getElem?_cons_zero, List.getElem?_cons_succ, List.set_cons_zero, List.set_cons_succ, Option.some.injEq, exists_eq_left', exists_eq_left, V.int.injEq, V.bl.injEq, V.ref.injEq, V.str.injEq, exists_const, and_true, true_and, reduceCtorEq, false_and, exists_false, or_false, false_or, and_assoc, List.append_nil]
          by_cases hu : u.1 = ((ps.take i).foldl tk (g, [])).1
          · rw [decide_eq_true hu]
            have ht1 : tk ((ps.take i).foldl tk (g, [])) u = (((ps.take i).foldl tk (g, [])).1 + 1, ((ps.take i).foldl tk (g, [])).2 ++ [u.2]) := if_pos hu
            rw [ht1] at nxt
            refine iteT ⟨C, dy, _, ey1, T_In.cl, n1, nf_lt, ?_⟩
            rw [nf_pgot]
            have k12 : Keep [y] H1 (upd H1 y (.ins C dy (nf (u.1 + 1)))) := Keep.refl.upd (.inl (.head _))
            have n12 : ∀ b ∈ [y], NoT H1 b := noT1 (.of_ins ey1)
            have e2 : (upd H1 y (.ins C dy (nf (u.1 + 1)))) y = some (.ins C dy (nf (u.1 + 1))) := upd_same
            have el2 : (upd H1 y (.ins C dy (nf (u.1 + 1)))) l = some (.lst zs) := by rw [upd_ne nly]; exact e1
            generalize upd H1 y (.ins C dy (nf (u.1 + 1))) = H2 at k12 e2 el2 ⊢
            refine ⟨.inl ⟨rfl, _, SqL.of el2⟩, u.2, hy2.keep k12 n12, hdu, fun v' H3 s3 hv' => ⟨zs, s3 _ _ el2, small1000 (by omega), ?_⟩⟩
            have kl : Keep [l] H3 (upd H3 l (.lst (zs ++ [v']))) := Keep.refl.upd (.inl (.head _))
            have nl : ∀ b ∈ [l], NoT H3 b := noT1 (.of_lst (s3 _ _ el2))
            refine ⟨_, _, zs ++ [v'], rfl, fun b o e n => ?_, upd_same, ?_, ?_, by rw [List.length_append]; exact Nat.add_le_add_right hz1 1⟩
            · have nb : b ≠ y ∧ b ≠ l := ⟨(fun z => n (by rw [z]; exact .head _)), (fun z => n (by rw [z]; exact .tail _ (.head _)))⟩
              rw [upd_ne nb.2]
              exact s3 _ _ (k12 _ _ (k1 b o e n) fun z => nb.1 (List.mem_singleton.mp z))
            · rw [nxt]
              exact (((h1.keep k12 n12).same s3).keep kl nl).app (.one (hv'.keep kl nl))
            · rw [nxt, upd_ne nyl, ← hu]
              exact s3 _ _ e2
          · rw [decide_eq_false hu]
            have ht1 : tk ((ps.take i).foldl tk (g, [])) u = (ps.take i).foldl tk (g, []) := if_neg hu
            rw [ht1] at nxt
            exact iteF ⟨_, _, zs, rfl, k1, e1, by rw [nxt]; exact h1, by rw [nxt]; exact ey1, by omega⟩
      · rintro σ H1 ⟨v3, v4, zs, rfl, k1, e1, h1, ey1, hz1⟩
        rw [hlen, List.take_length] at h1 ey1
        simp only [tFor_eq, tComp_eq, tDGs, sDPs, rIsB, rIsntB, tMeth, tMake, tDGet, sDPut, tFld, sFld, tDisp, tPairs, tNever, decide_true, decide_false, truV_bl, clsV_ty, V.ty.injEq, exists_eq', exists_eq, Bool.not_true, Bool.not_false, Bool.not_not, rLen, rListOf, rTupOf, rAny, rAll, rIsI, tTru, iRng1, iRng2, iList, tYes, cSt, List.drop_succ_cons, List.drop_zero, cxOf_K, cxC_K,  tBM, tBM0, rAppend, tSl, rSlL, tNoPart, tPart, rIxL, rIxT, rCat, List.cons.injEq, rEq_ii, rNe_ii, rEq_bb, rNe_bb, tSeq, exists_and_left, if_false, if_true, reduceIte, Bool.false_eq_true, tIfS, tAnd, tOr, tNot, tTest, tOp, tUn, tVar, tC, rI, rI0, rU, tRet, tRetN, tAsg, gName, tNext, tAndV, tOrV, tNotV, tIf, tCall, tCons, tNil, tCB, tDrop, tLst, tTup, tChain, L2.start, List.map_cons, List.map_nil, List.length_cons, List.length_nil, List.replicate, List.cons_append, List.nil_append, List.getElem?_cons_zero, List.getElem?_cons_succ, List.set_cons_zero, List.set_cons_succ, Option.some.injEq, exists_eq_left', exists_eq_left, V.int.injEq, V.bl.injEq, V.ref.injEq, V.str.injEq, exists_const, and_true, true_and, reduceCtorEq, false_and, exists_false, or_false, false_or, and_assoc, List.append_nil]
        refine q l zs H1 hl e1 h1 ey1 fun b o eb nb => k1 b o eb fun z => ?_
        rcases List.mem_cons.mp z with z | z
        · exact nb (by rw [z]; exact .head _)
        · rw [List.mem_singleton] at z
          rw [z, hl] at eb
          cases eb
end
end
end K22
namespace K22
open PySem L2 K04
section
variable {P : Program} {w : World} {K : PySem.W.Frag} {mg : Str → Option Value} {base : Heap} {C : Addr}
abbrev s__law_draw : Stmt := top 9
theorem sc__law_draw : FnScope ["_law_cell"] ["_law_cell"] (defScope s__law_draw) := ⟨rfl, rfl, rfl, by decide +kernel, rfl, by decide +kernel, by decide +kernel⟩
abbrev s__law_next : Stmt := top 10
theorem sc__law_next : FnScope ["_law_draw_here", "_law_size", "_law_digit", "_law_number"] ["_law_draw_here", "_law_size"] (defScope s__law_next) := ⟨rfl, rfl, rfl, by decide +kernel, rfl, by decide +kernel, by decide +kernel⟩
def sp_draw : Sp := fun vs H Q _ => ∃ c : Int, vs = [.int c] ∧ ∀ (p : Addr) (a b : Int) H', H p = none → H' p = some (.lst [.int a, .int b]) → Same H H' → Q (.ref p) H'
theorem own_draw (D : Def K mg "_law_draw" s__law_draw) : Own P w K mg base 1 "_law_draw" ["_law_cell"] sp_draw := by
  refine D.own sc__law_draw (fun _ _ _ _ _ _ us hl => match us, hl with | [_], _ => rfl) (fun vs H Q E h => ?_) (fun f cdv A outer s H vs Q E hr h => ?_)
  · obtain ⟨c, rfl, _⟩ := h
    rfl
  · obtain ⟨c, rfl, q⟩ := h
    refine ⟨_, (@pss_one _ _ _ (@ps_ret _ _ _ _ (@pe_lst _ _ _ _ (@pa_cX _ _ _ _ _ (@pe_op _ _ _ _ _ _ _ _ op_mul (@pe_op _ _ _ _ _ _ _ _ op_fdiv (@pv _ 0 _ _ (by rfl) (by first | exact Or.inl rfl | exact Or.inr (Or.inl rfl) | exact Or.inr (Or.inr rfl)) (by decide) (by decide)) (@pe_int _ _ _ _)) (@pe_op _ _ _ _ _ _ _ _ op_sub (@pe_int _ _ _ _) (@pe_op _ _ _ _ _ _ _ _ op_mod (@pv _ 0 _ _ (by rfl) (by first | exact Or.inl rfl | exact Or.inr (Or.inl rfl) | exact Or.inr (Or.inr rfl)) (by decide) (by decide)) (@pe_int _ _ _ _)))) (@pa_cX _ _ _ _ _ (@pv _ 0 _ _ (by rfl) (by first | exact Or.inl rfl | exact Or.inr (Or.inl rfl) | exact Or.inr (Or.inr rfl)) (by decide) (by decide)) (@pa_nil _) (by rfl)) (by rfl))))), ?_⟩
    simp (maxSteps := 1000000) only [Nat.reduceSub, Int.reduceLT, Nat.reduceAdd, exists_and_left, tOp, tVar, tC, rI, rI0, tRet, tCons, tNil, tLst, L2.start, List.map_cons, List.map_nil, List.length_cons, List.length_nil, List.replicate, List.getElem?_cons_zero, Option.some.injEq, exists_eq_left', V.int.injEq, true_and, List.append_nil]
    refine ⟨⟨by decide, by decide⟩, .inr ⟨by omega, by omega⟩, by decide, fun p hp => q p _ _ _ hp upd_same (Same.upd_new hp)⟩
def sp_next : Sp := fun vs H Q _ => ∃ (p : Addr) (a b n : Int), vs = [.ref p, .int n] ∧ H p = some (.lst [.int a, .int b]) ∧ 1 ≤ n ∧ n < 2 ^ 200 ∧ ∀ (r a' b' : Int), 0 ≤ r → r < n → Q (.int r) (upd H p (.lst [.int a', .int b']))
theorem own_next (D : Def K mg "_law_next" s__law_next) : Own P w K mg base 1 "_law_next" ["_law_draw_here", "_law_size"] sp_next := by
  refine D.own sc__law_next (fun _ _ _ _ _ _ us hl => match us, hl with | [_, _], _ => rfl) (fun vs H Q E h => ?_) (fun f cdv A outer s H vs Q E hr h => ?_)
  · obtain ⟨p, a, b, n, rfl, _⟩ := h
    rfl
  · obtain ⟨p, a, b, n, rfl, ep, h1, h2, q⟩ := h
    have hu := hr.units
    have hu1 : (A.deeper (PyProof.Rows.envOfC "_law_next" (defScope s__law_next) s.heap.objs.size f cdv)).units + 1 < cLine := by omega
    refine ⟨_, (@pss_cons _ _ _ _ _ (@ps_asg _ _ _ _ _ _ (@pe_op _ _ _ _ _ _ _ _ op_mod (@pe_op _ _ _ _ _ _ _ _ op_add (@pe_op _ _ _ _ _ _ _ _ op_mul (@pe_ix _ _ _ _ _ _ _ (ix_get hu1) (@pv _ 0 _ _ (by rfl) (by first | exact Or.inl rfl | exact Or.inr (Or.inl rfl) | exact Or.inr (Or.inr rfl)) (by decide) (by decide)) (@pe_int _ _ _ _) (fun _ _ => rfl)) (@pe_int _ _ _ _)) (@pe_int _ _ _ _)) (@pe_int _ _ _ _)) (@pg_sub _ _ _ _ _ _ _ (@pv _ 0 _ _ (by rfl) (by first | exact Or.inl rfl | exact Or.inr (Or.inl rfl) | exact Or.inr (Or.inr rfl)) (by decide) (by decide)) (@pe_int _ _ _ _) (@set_x _ hu1) (by intro _; rfl)) (by rfl) (by rfl) (by rfl)) (@pss_cons _ _ _ _ _ (@ps_if _ _ _ _ _ _ _ _ (@pt_cmpR _ _ _ _ _ _ _ _ op_gt (@pe_ix _ _ _ _ _ _ _ (ix_get hu1) (@pv _ 0 _ _ (by rfl) (by first | exact Or.inl rfl | exact Or.inr (Or.inl rfl) | exact Or.inr (Or.inr rfl)) (by decide) (by decide)) (@pe_int _ _ _ _) (fun _ _ => rfl)) (@pe_int _ _ _ _) (nomark _)) (@pss_cons _ _ _ _ _ (@ps_set _ _ 2 _ _ _ _ sc__law_next.nd rfl (by first | exact Or.inl rfl | exact Or.inr rfl) (@pe_op _ _ _ _ _ _ _ _ op_mod (@pe_ix _ _ _ _ _ _ _ (ix_get hu1) (@pv _ 0 _ _ (by rfl) (by first | exact Or.inl rfl | exact Or.inr (Or.inl rfl) | exact Or.inr (Or.inr rfl)) (by decide) (by decide)) (@pe_int _ _ _ _) (fun _ _ => rfl)) (@pv _ 1 _ _ (by rfl) (by first | exact Or.inl rfl | exact Or.inr (Or.inl rfl) | exact Or.inr (Or.inr rfl)) (by decide) (by decide))) (by rfl) (by first | exact .inl rfl | exact .inr rfl | assumption)) (@pss_cons _ _ _ _ _ (@ps_asg _ _ _ _ _ _ (@pe_op _ _ _ _ _ _ _ _ op_fdivW (@pe_ix _ _ _ _ _ _ _ (ix_get hu1) (@pv _ 0 _ _ (by rfl) (by first | exact Or.inl rfl | exact Or.inr (Or.inl rfl) | exact Or.inr (Or.inr rfl)) (by decide) (by decide)) (@pe_int _ _ _ _) (fun _ _ => rfl)) (@pv _ 1 _ _ (by rfl) (by first | exact Or.inl rfl | exact Or.inr (Or.inl rfl) | exact Or.inr (Or.inr rfl)) (by decide) (by decide))) (@pg_sub _ _ _ _ _ _ _ (@pv _ 0 _ _ (by rfl) (by first | exact Or.inl rfl | exact Or.inr (Or.inl rfl) | exact Or.inr (Or.inr rfl)) (by decide) (by decide)) (@pe_int _ _ _ _) (@set_x _ hu1) (by intro _; rfl)) (by rfl) (by rfl) (by rfl)) (@pss_one _ _ _ (@ps_ret _ _ _ _ (@pv _ 2 _ _ (by rfl) (by first | exact Or.inl rfl | exact Or.inr (Or.inl rfl) | exact Or.inr (Or.inr rfl)) (by decide) (by decide)))))) (@pss_nil _)) (@pss_cons _ _ _ _ _ (@ps_set _ _ 3 _ _ _ _ sc__law_next.nd rfl (by first | exact Or.inl rfl | exact Or.inr rfl) (@pe_op _ _ _ _ _ _ _ _ op_mod (@pe_op _ _ _ _ _ _ _ _ op_mul (@pe_ix _ _ _ _ _ _ _ (ix_get hu1) (@pv _ 0 _ _ (by rfl) (by first | exact Or.inl rfl | exact Or.inr (Or.inl rfl) | exact Or.inr (Or.inr rfl)) (by decide) (by decide)) (@pe_int _ _ _ _) (fun _ _ => rfl)) (@pe_op _ _ _ _ _ _ _ _ op_add (@pe_op _ _ _ _ _ _ _ _ op_fdiv (@pe_ix _ _ _ _ _ _ _ (ix_get hu1) (@pv _ 0 _ _ (by rfl) (by first | exact Or.inl rfl | exact Or.inr (Or.inl rfl) | exact Or.inr (Or.inr rfl)) (by decide) (by decide)) (@pe_int _ _ _ _) (fun _ _ => rfl)) (@pe_int _ _ _ _)) (@pe_int _ _ _ _))) (@pe_int _ _ _ _)) (by rfl) (by first | exact .inl rfl | exact .inr rfl | assumption)) (@pss_one _ _ _ (@ps_ret _ _ _ _ (@pe_op _ _ _ _ _ _ _ _ op_mod (@pe_op _ _ _ _ _ _ _ _ op_mod (@pe_op _ _ _ _ _ _ _ _ op_mul (@pv _ 3 _ _ (by rfl) (by first | exact Or.inl rfl | exact Or.inr (Or.inl rfl) | exact Or.inr (Or.inr rfl)) (by decide) (by decide)) (@pe_op _ _ _ _ _ _ _ _ op_add (@pe_op _ _ _ _ _ _ _ _ op_fdiv (@pv _ 3 _ _ (by rfl) (by first | exact Or.inl rfl | exact Or.inr (Or.inl rfl) | exact Or.inr (Or.inr rfl)) (by decide) (by decide)) (@pe_int _ _ _ _)) (@pe_int _ _ _ _))) (@pe_int _ _ _ _)) (@pv _ 1 _ _ (by rfl) (by first | exact Or.inl rfl | exact Or.inr (Or.inl rfl) | exact Or.inr (Or.inr rfl)) (by decide) (by decide)))))))), ?_⟩
    simp (maxSteps := 1000000) only [ixN_20, ixN_21, rGet, getO_l, rSetX, setO_l, gSub, atI_0, atI_1, Nat.reduceSub, upd_same, upd_upd, Option.map_some, Int.reduceLT, Nat.reduceAdd, tSeq, exists_and_left, tIfS, tTest, tOp, tVar, tC, rI, rI0, tRet, tAsg, gName, tNext, L2.start, List.map_cons, List.map_nil, List.length_cons, List.length_nil, List.replicate, List.cons_append, List.nil_append, List.getElem?_cons_zero, List.getElem?_cons_succ, List.set_cons_zero, List.set_cons_succ, Option.some.injEq, exists_eq_left', V.int.injEq, V.bl.injEq, V.ref.injEq, true_and, ep]
    have hb1 : 0 ≤ (b * 48271 + 11) % 2147483647 ∧ (b * 48271 + 11) % 2147483647 < 2147483647 := ⟨Int.emod_nonneg _ (by decide), Int.emod_lt_of_pos _ (by decide)⟩
    generalize (b * 48271 + 11) % 2147483647 = b1 at hb1 ⊢
    refine ⟨.inr ⟨by decide, by decide⟩, ?_⟩
    refine ite2 (fun ha => ⟨by omega, cdivw_of (by omega) h2, q (a % n) (a / n) b1 (Int.emod_nonneg _ (by omega)) (Int.emod_lt_of_pos _ (by omega))⟩) (fun ha => ⟨⟨by decide, by decide⟩, .inl ⟨by omega, by omega⟩, ⟨by decide, by decide⟩, cmul_mod (by decide) (by decide), by omega, q _ a b1 (Int.emod_nonneg _ (by omega)) (Int.emod_lt_of_pos _ (by omega))⟩)
abbrev s__law_deeds : Stmt := top 12
theorem sc__law_deeds : FnScope ["_law_draw_here", "_law_deeds_here", "_law_k"] ["_law_draw_here"] (defScope s__law_deeds) := ⟨rfl, rfl, rfl, by decide +kernel, rfl, by decide +kernel, by decide +kernel⟩
theorem cs__law_deeds_0 : CScope ["_law_copy"] ["_law_draw_here"] { kind := .function, names := [(".0", .local), ("_law_copy", .local), ("_law_next", .globalImplicit), ("_law_draw_here", .free)], isGenerator := false, isCoroutine := false, more := [] } (defScope s__law_deeds) := ⟨rfl, by decide +kernel, by decide +kernel, by decide +kernel, by decide +kernel, by decide +kernel⟩
theorem cs__law_deeds_1 : CScope ["_law_deed"] [] { kind := .function, names := [(".0", .local), ("_law_deed", .local)], isGenerator := false, isCoroutine := false, more := [] } (defScope s__law_deeds) := ⟨rfl, by decide +kernel, by decide +kernel, by decide +kernel, by decide +kernel, by decide +kernel⟩
abbrev s__law_gap : Stmt := top 13
theorem sc__law_gap : FnScope ["_law_deeds_here", "_law_gap_here", "_law_most", "_law_deed"] ["_law_deeds_here"] (defScope s__law_gap) := ⟨rfl, rfl, rfl, by decide +kernel, rfl, by decide +kernel, by decide +kernel⟩
structure DL (H : Hp) (a : Addr) (ps : List Addr) (ds : List (List Int)) : Prop where
  ea : H a = some (.lst (ps.map V.ref))
  ed : Paired (fun (b : Addr) (d : List Int) => H b = some (.lst (d.map V.int))) ps ds
theorem ed_keep {S : List Addr} {H H' : Hp} (k : Keep S H H') : ∀ {ps : List Addr} {ds : List (List Int)}, Paired (fun (b : Addr) (d : List Int) => H b = some (.lst (d.map V.int))) ps ds → (∀ b ∈ ps, b ∉ S) → Paired (fun (b : Addr) (d : List Int) => H' b = some (.lst (d.map V.int))) ps ds
  | _, _, .nil, _ => .nil
  | _, _, .cons e t, hp => .cons (k _ _ e (hp _ (.head _))) (ed_keep k t fun b hb => hp b (.tail _ hb))
theorem DL.keep {S : List Addr} {H H' : Hp} {a : Addr} {ps : List Addr} {ds : List (List Int)} (h : DL H a ps ds) (k : Keep S H H') (ha : a ∉ S) (hp : ∀ b ∈ ps, b ∉ S) : DL H' a ps ds := by
  exact ⟨k _ _ h.ea ha, ed_keep k h.ed hp⟩
theorem DL.same {H H' : Hp} {a : Addr} {ps : List Addr} {ds : List (List Int)} (h : DL H a ps ds) (s : Same H H') : DL H' a ps ds := h.keep (S := []) s.keep (by simp) (fun _ _ => by simp)
def Dok (ds : List (List Int)) : Prop := ds.length ≤ 8 ∧ ∀ d ∈ ds, d.length ≤ 3 ∧ ∀ y ∈ d, 1 ≤ y ∧ y ≤ 9
theorem ixN_nat {n j : Nat} (h : j < n) : ixN n (j : Int) = some j := by
  unfold ixN
  rw [if_pos (by omega), if_pos (by omega), Int.toNat_natCast]
theorem paired_set {α β : Type} {R : α → β → Prop} : ∀ {l : List α} {m : List β} (i : Nat) {a : α} {b : β}, Paired R l m → R a b → Paired R (l.set i a) (m.set i b)
  | _, _, _, _, _, .nil, _ => .nil
  | _, _, 0, _, _, .cons _ t, h => .cons h t
  | _, _, i + 1, _, _, .cons h t, h2 => .cons h (paired_set i t h2)
def sp_ldeeds : Sp := fun vs H Q _ => ∃ (pd : Addr) (c0 c1 : Int), vs = [.ref pd] ∧ H pd = some (.lst [.int c0, .int c1]) ∧ ∀ (a : Addr) (ps : List Addr) (ds : List (List Int)) (e0 e1 : Int) (H' : Hp), H a = none → (∀ b ∈ ps, H b = none ∧ b ≠ a) → DL H' a ps ds → Dok ds → (∃ d ∈ ds, d ≠ []) → H' pd = some (.lst [.int e0, .int e1]) → Keep [pd] H H' → Q (.ref a) H'
def Id (pd a : Addr) (H : Hp) (k : Nat) (σ : St) (H' : Hp) : Prop := ∃ (ps : List Addr) (ds : List (List Int)) (c0 c1 : Int) (v2 : Option V), σ = [some (.ref pd), some (.ref a), v2] ∧ (∀ b ∈ ps, H b = none ∧ b ≠ a) ∧ DL H' a ps ds ∧ ds.length = k ∧ (∀ d ∈ ds, d.length ≤ 3 ∧ ∀ y ∈ d, 1 ≤ y ∧ y ≤ 9) ∧ H' pd = some (.lst [.int c0, .int c1]) ∧ Keep [pd] H H'
set_option maxHeartbeats 4000000 in
theorem own_ldeeds (D : Def K mg "_law_deeds" s__law_deeds) (hb : Blt mg) (F__law_next : Own P w K mg base 1 "_law_next" ["_law_draw_here", "_law_size"] sp_next) : Own P w K mg base 2 "_law_deeds" ["_law_draw_here"] sp_ldeeds := by
  refine D.own sc__law_deeds (fun _ _ _ _ _ _ us hl => match us, hl with | [_], _ => rfl) (fun vs H Q E h => ?_) (fun f cdv A outer s H vs Q E hr h => ?_)
  · obtain ⟨pd, c0, c1, rfl, _⟩ := h
    rfl
  · obtain ⟨pd, c0, c1, rfl, ed, q⟩ := h
    have hu := hr.units
    have hu1 : (A.deeper (PyProof.Rows.envOfC "_law_deeds" (defScope s__law_deeds) s.heap.objs.size f cdv)).units + 1 < cLine := by omega
    refine ⟨_, (@pss_cons _ _ _ _ _ (@ps_set _ _ 1 _ _ _ _ sc__law_deeds.nd rfl (by first | exact Or.inl rfl | exact Or.inr rfl) (@pe_lst _ _ _ _ (@pa_nil _)) (by rfl) (by first | exact .inl rfl | exact .inr rfl | assumption)) (@pss_cons _ _ _ _ _ (@ps_for _ _ _ _ _ _ _ _ PassesOwn.never rfl (@pi_range1 _ _ _ _ _ _ rfl (hb _ (by decide)) (@pa_cX _ _ _ _ _ (@pe_op _ _ _ _ _ _ _ _ op_add (@pe_int _ _ _ _) (@pe_fn _ _ _ _ _ _ _ _ _ _ _ F__law_next hr (@pa_cX _ _ _ _ _ (@pv _ 0 _ _ (by rfl) (by first | exact Or.inl rfl | exact Or.inr (Or.inl rfl) | exact Or.inr (Or.inr rfl)) (by decide) (by decide)) (@pa_cX _ _ _ _ _ (@pe_int _ _ _ _) (@pa_nil _) (by rfl)) (by rfl)) (by decide) (by rfl) (by decide) (by rfl) (by rfl))) (@pa_nil _) (by rfl)) (by rfl)) (@pg_name _ _ 2 _ sc__law_deeds.nd rfl (by first | exact Or.inl rfl | exact Or.inr rfl) (by first | exact .inl rfl | exact .inr rfl | assumption)) (@pss_one _ _ _ (@ps_expr _ _ _ _ (@pe_lm _ _ _ _ _ _ _ _ _ _ _ PySem.F.slot_list_append PySem.F.type_list_append mt_append (@pv _ 1 _ _ (by rfl) (by first | exact Or.inl rfl | exact Or.inr (Or.inl rfl) | exact Or.inr (Or.inr rfl)) (by decide) (by decide)) (@pa_cX _ _ _ _ _ (@pe_comp _ _ _ _ _ _ _ _ _ _ _ ["_law_copy"] ["_law_draw_here"] [0] rfl _ cs__law_deeds_0 (@pi_range1 _ _ _ _ _ _ rfl (hb _ (by decide)) (@pa_cX _ _ _ _ _ (@pe_fn _ _ _ _ _ _ _ _ _ _ _ F__law_next hr (@pa_cX _ _ _ _ _ (@pv _ 0 _ _ (by rfl) (by first | exact Or.inl rfl | exact Or.inr (Or.inl rfl) | exact Or.inr (Or.inr rfl)) (by decide) (by decide)) (@pa_cX _ _ _ _ _ (@pe_int _ _ _ _) (@pa_nil _) (by rfl)) (by rfl)) (by decide) (by rfl) (by decide) (by rfl) (by rfl)) (@pa_nil _) (by rfl)) (by rfl)) (fun _ _ _ _ => (@pg_name _ _ 0 _ cs__law_deeds_0.nd rfl (by first | exact Or.inl rfl | exact Or.inr rfl) (by first | exact .inl rfl | exact .inr rfl | assumption))) (fun _ _ _ _ => (@pf_nil _)) (fun _ _ _ _ => (@pe_op _ _ _ _ _ _ _ _ op_add (@pe_int _ _ _ _) (@pe_fn _ _ _ _ _ _ _ _ _ _ _ F__law_next hr (@pa_cX _ _ _ _ _ (@pv _ 1 _ _ (by rfl) (by first | exact Or.inl rfl | exact Or.inr (Or.inl rfl) | exact Or.inr (Or.inr rfl)) (by decide) (by decide)) (@pa_cX _ _ _ _ _ (@pe_int _ _ _ _) (@pa_nil _) (by rfl)) (by rfl)) (by decide) (by rfl) (by decide) (by rfl) (by rfl)))) (by rfl) (by rfl) (by rfl) (by intro _; rfl)) (@pa_nil _) (by rfl)) (by rfl) (by rfl) (by rfl) (by rfl) (by rfl)) (by rfl))) (by intro _; rfl)) (@pss_cons _ _ _ _ _ (@ps_if _ _ _ _ _ _ _ _ (@pt_cmpR _ _ _ _ _ _ _ _ (op_eqNil hu) (@pe_comp _ _ _ _ _ _ _ _ _ _ _ ["_law_deed"] [] [] rfl _ cs__law_deeds_1 (@pi_listK _ K _ _ _ (@pv _ 1 _ _ (by rfl) (by first | exact Or.inl rfl | exact Or.inr (Or.inl rfl) | exact Or.inr (Or.inr rfl)) (by decide) (by decide)) (by rfl)) (fun _ _ _ _ => (@pg_name _ _ 0 _ cs__law_deeds_1.nd rfl (by first | exact Or.inl rfl | exact Or.inr rfl) (by first | exact .inl rfl | exact .inr rfl | assumption))) (fun _ _ _ _ => (@pf_one _ _ _ (@pt_cmpR _ _ _ _ _ _ _ _ (op_neNil hu) (@pv _ 0 _ _ (by rfl) (by first | exact Or.inl rfl | exact Or.inr (Or.inl rfl) | exact Or.inr (Or.inr rfl)) (by decide) (by decide)) (@pe_lst _ _ _ _ (@pa_nil _)) (nomark _)))) (fun _ _ _ _ => (@pv _ 0 _ _ (by rfl) (by first | exact Or.inl rfl | exact Or.inr (Or.inl rfl) | exact Or.inr (Or.inr rfl)) (by decide) (by decide))) (by rfl) (by rfl) (by rfl) (by intro _; rfl)) (@pe_lst _ _ _ _ (@pa_nil _)) (nomark _)) (@pss_one _ _ _ (@ps_asg _ _ _ _ _ _ (@pe_lst _ _ _ _ (@pa_cX _ _ _ _ _ (@pe_op _ _ _ _ _ _ _ _ op_add (@pe_int _ _ _ _) (@pe_fn _ _ _ _ _ _ _ _ _ _ _ F__law_next hr (@pa_cX _ _ _ _ _ (@pv _ 0 _ _ (by rfl) (by first | exact Or.inl rfl | exact Or.inr (Or.inl rfl) | exact Or.inr (Or.inr rfl)) (by decide) (by decide)) (@pa_cX _ _ _ _ _ (@pe_int _ _ _ _) (@pa_nil _) (by rfl)) (by rfl)) (by decide) (by rfl) (by decide) (by rfl) (by rfl))) (@pa_nil _) (by rfl))) (@pg_sub _ _ _ _ _ _ _ (@pv _ 1 _ _ (by rfl) (by first | exact Or.inl rfl | exact Or.inr (Or.inl rfl) | exact Or.inr (Or.inr rfl)) (by decide) (by decide)) (@pe_fn _ _ _ _ _ _ _ _ _ _ _ F__law_next hr (@pa_cX _ _ _ _ _ (@pv _ 0 _ _ (by rfl) (by first | exact Or.inl rfl | exact Or.inr (Or.inl rfl) | exact Or.inr (Or.inr rfl)) (by decide) (by decide)) (@pa_cX _ _ _ _ _ (@pe_callB _ _ _ _ _ _ _ _ _ call_lenX rfl (hb _ (by decide)) bt_len (@pa_cX _ _ _ _ _ (@pv _ 1 _ _ (by rfl) (by first | exact Or.inl rfl | exact Or.inr (Or.inl rfl) | exact Or.inr (Or.inr rfl)) (by decide) (by decide)) (@pa_nil _) (by rfl)) (by decide) (by decide) (by rfl) (by rfl)) (@pa_nil _) (by rfl)) (by rfl)) (by decide) (by rfl) (by decide) (by rfl) (by rfl)) (@set_x _ hu1) (by intro _; rfl)) (by rfl) (by rfl) (by rfl))) (@pss_nil _)) (@pss_one _ _ _ (@ps_ret _ _ _ _ (@pv _ 1 _ _ (by rfl) (by first | exact Or.inl rfl | exact Or.inr (Or.inl rfl) | exact Or.inr (Or.inr rfl)) (by decide) (by decide))))))), ?_⟩
    simp (maxSteps := 1000000) only [tFor_eq, Nat.reduceSub, Nat.reduceAdd, iRng1, List.cons.injEq, tSeq, exists_and_left, tOp, tVar, tC, rI0, tAsg, gName, tCall, tCons, tNil, tLst, L2.start, List.map_cons, List.map_nil, List.length_cons, List.length_nil, List.replicate, List.cons_append, List.nil_append, List.getElem?_cons_zero, List.set_cons_zero, List.set_cons_succ, Option.some.injEq, exists_eq_left', V.int.injEq, and_true, List.append_nil]
    refine ⟨Nat.zero_le _, ?_⟩
    intro p1 n1
    generalize z1 : upd H p1 _ = H1
    obtain ⟨s1, e1⟩ := new_same z1 n1
    have npd : p1 ≠ pd := fun z => by rw [z, ed] at n1; cases n1
    refine ⟨pd, c0, c1, 8, rfl, s1 _ _ ed, by decide, by decide, fun r0 b0 b1 hr0 hr8 => ?_⟩
    have k2 : Keep [pd] H (upd H1 pd (.lst [.int b0, .int b1])) := s1.keep.upd (.inl (.head _))
    have e2 : upd H1 pd (.lst [.int b0, .int b1]) p1 = some (.lst []) := by rw [upd_ne npd]; exact e1
    have ed2 : upd H1 pd (.lst [.int b0, .int b1]) pd = some (.lst [.int b0, .int b1]) := upd_same
    generalize upd H1 pd (.lst [.int b0, .int b1]) = H2 at k2 e2 ed2 ⊢
    refine ⟨r0, rfl, by omega, by omega, for_range (n := (1 + r0).toNat) (Id pd p1 H) ⟨[], [], b0, b1, _, rfl, by simp, ⟨e2, .nil⟩, rfl, by simp, ed2, k2⟩ ?_ ?_⟩
    · rintro k σ H3 hk ⟨ps, ds, a0, a1, v2, rfl, hps, DL3, hdl, hdk, ed3, k3⟩
      have e3 := DL3.ea
      have hpl := DL3.ed.length
      simp (maxSteps := 1000000) only [tComp_eq, tBL, HO.lst.injEq, iRng1, rAppend, List.cons.injEq, exists_and_left, tVar, tC, gName, tCall, tCons, tNil, tDrop, List.getElem?_cons_zero, List.getElem?_cons_succ, List.set_cons_zero, List.set_cons_succ, Option.some.injEq, exists_eq_left', V.ref.injEq, and_true, List.append_nil, e3]
      refine ⟨pd, a0, a1, 4, rfl, ed3, by decide, by decide, fun r4 f0 f1 h40 h44 => ?_⟩
      have k4 : Keep [pd] H3 (upd H3 pd (.lst [.int f0, .int f1])) := Keep.refl.upd (.inl (.head _))
      have ed4 : upd H3 pd (.lst [.int f0, .int f1]) pd = some (.lst [.int f0, .int f1]) := upd_same
      generalize upd H3 pd (.lst [.int f0, .int f1]) = H4 at k4 ed4 ⊢
      refine ⟨r4, rfl, by omega, by omega, comp_range (m := r4.toNat) (by rw [sizeLine_eq]; omega) (fun D i acc H' => ∃ (d : List Int) (g0 g1 : Int), acc = d.map V.int ∧ d.length = i ∧ (∀ y ∈ d, 1 ≤ y ∧ y ≤ 9) ∧ H' D = some (.lst acc) ∧ H' pd = some (.lst [.int g0, .int g1]) ∧ Keep [pd] H4 H') (fun D hD => ⟨[], f0, f1, rfl, rfl, by simp, upd_same, by rw [upd_ne (ne_of_none ed4 hD)]; exact ed4, Keep.refl.upd (.inr hD)⟩) ?_ ?_ ?_⟩
      · rintro D i acc H5 hD hi ⟨d, g0, g1, rfl, hdl5, hd5, eD, ed5, k5⟩
        exact ⟨eD, by rw [List.length_map]; omega⟩
      · rintro D i acc H5 hD hi ⟨d, g0, g1, rfl, hdl5, hd5, eD, ed5, k5⟩
        simp (maxSteps := 1000000) only [upd_same, tYes, cSt, List.drop_succ_cons, List.drop_zero, exists_and_left, if_true, tOp, tVar, tC, rI0, gName, tCall, tCons, tNil, List.map_cons, List.map_nil, List.replicate, List.cons_append, List.nil_append, List.getElem?_cons_zero, List.getElem?_cons_succ, List.set_cons_zero, Option.some.injEq, exists_eq_left', V.int.injEq, true_and, List.append_nil, List.map_cons, List.map_nil, Option.join_some]
        have nD : D ≠ pd := fun z => by rw [z, ed4] at hD; cases hD
        refine ⟨pd, g0, g1, 9, rfl, ed5, by decide, by decide, fun r9 m0 m1 h90 h99 => ⟨r9, rfl, by rw [upd_ne nD]; exact eD, d ++ [1 + r9], by rw [List.map_append]; rfl, by rw [List.length_append, hdl5]; rfl, fun y hy => ?_, m0, m1, by rw [upd_ne (Ne.symm nD)]; exact upd_same, (k5.upd (.inl (.head _))).upd (.inr hD)⟩⟩
        rcases List.mem_append.mp hy with hy | hy
        · exact hd5 y hy
        · rw [List.mem_singleton] at hy
          omega
      · rintro D acc H5 hD ⟨d, g0, g1, rfl, hdl5, hd5, eD, ed5, k5⟩
        have k35 : Keep [pd] H3 H5 := k4.trans k5
        have hps3 : ∀ b ∈ ps, b ∉ [pd] := fun b hb => by
          rw [List.mem_singleton]
          intro z
          have := (hps b hb).1
          rw [z, ed] at this
          cases this
        have DL5 := DL3.keep k35 (by rw [List.mem_singleton]; exact npd) hps3
        have hD3 : H3 D = none := by
          cases hz : H3 D with
          | none => rfl
          | some o =>
            have := k4 _ _ hz (by rw [List.mem_singleton]; intro z; rw [z, ed4] at hD; cases hD)
            rw [hD] at this
            cases this
        have nD1 : D ≠ p1 := fun z => by rw [z, DL3.ea] at hD3; cases hD3
        have nDd : D ≠ pd := fun z => by rw [z, ed4] at hD; cases hD
        have hD0 : H D = none := k3.free hD3 (by rw [List.mem_singleton]; exact nDd)
        refine ⟨_, DL5.ea, by rw [List.length_map, sizeLine_eq]; omega, ?_⟩
        have k6 : Keep [p1] H5 (upd H5 p1 (.lst (ps.map V.ref ++ [V.ref D]))) := Keep.refl.upd (.inl (.head _))
        refine ⟨ps ++ [D], ds ++ [d], g0, g1, _, rfl, fun b hb => ?_, ⟨by rw [upd_same, List.map_append]; rfl, ?_⟩, by rw [List.length_append, hdl]; rfl, fun d' hd' => ?_, by rw [upd_ne (Ne.symm npd)]; exact ed5, ?_⟩
        · rcases List.mem_append.mp hb with hb | hb
          · exact hps b hb
          · rw [List.mem_singleton] at hb
            subst hb
            exact ⟨hD0, nD1⟩
        · refine paired_append ?_ (.cons (k6 _ _ eD (by rw [List.mem_singleton]; exact nD1)) .nil)
          exact ed_keep k6 DL5.ed fun b hb => by rw [List.mem_singleton]; exact (hps b hb).2
        · rcases List.mem_append.mp hd' with hd' | hd'
          · exact hdk d' hd'
          · rw [List.mem_singleton] at hd'
            subst hd'
            exact ⟨by omega, hd5⟩
        · exact fun b o e hb => k6 _ _ (k35 _ _ (k3 _ _ e hb) hb) (by rw [List.mem_singleton]; exact ne_of_none e n1)
    · rintro σ H3 ⟨ps, ds, a0, a1, v2, rfl, hps, DL3, hdl, hdk, ed3, k3⟩
      have e3 := DL3.ea
      have hpl := DL3.ed.length
      simp (maxSteps := 1000000) only [tComp_eq, rLenX, lenX_r, rSetX, gSub, Nat.reduceAdd, iList, List.cons.injEq, tSeq, exists_and_left, tIfS, tTest, tOp, tVar, tC, rI0, tRet, tAsg, tNext, tCall, tCons, tNil, tCB, tLst, List.length_cons, List.length_nil, List.getElem?_cons_zero, List.getElem?_cons_succ, Option.some.injEq, exists_eq_left', V.int.injEq, V.ref.injEq, and_true, List.append_nil]
      have hdl1 : 1 ≤ ds.length ∧ ds.length ≤ 8 := by omega
      refine ⟨⟨_, SqL.of e3⟩, comp_list (xs := ps.map V.ref) (by rw [sizeLine_eq, List.length_map]; omega) (fun D i acc H' => H' D = some (.lst acc) ∧ acc.length ≤ i ∧ (acc.isEmpty = true ↔ ∀ d ∈ ds.take i, d = []) ∧ Same H3 H') (fun D hD => ⟨upd_same, Nat.le_refl _, by simp, Same.upd_new hD⟩) ?_ ?_ ?_⟩
      · rintro D i acc H4 hD hi ⟨eD, hal, hacc, s4⟩
        exact ⟨eD, SqL.of (s4 _ _ e3), hal⟩
      · rintro D i x acc H4 hD hx ⟨eD, hal, hacc, s4⟩
        rw [List.getElem?_map] at hx
        obtain ⟨b, hb', rfl⟩ := Option.map_eq_some_iff.mp hx
        obtain ⟨d, hd, eb⟩ := paired_get DL3.ed hb'
        have eb4 := s4 _ _ eb
        have etk : ds.take (i + 1) = ds.take i ++ [d] := by rw [List.take_add_one, hd]; rfl
        simp (maxSteps := 1000000) only [upd_same, cSt, List.drop_succ_cons, List.drop_zero, tTest, tOp, tVar, gName, tNil, tLst, List.map_nil, List.length_nil, List.replicate, List.getElem?_cons_zero, List.set_cons_zero, Option.some.injEq, exists_eq_left', true_and, List.append_nil, List.map_nil]
        refine ⟨Nat.zero_le _, ?_⟩
        intro p5 n5
        generalize z5 : upd H4 p5 _ = H5
        obtain ⟨s5, e5⟩ := new_same z5 n5
        refine ⟨b, p5, _, rfl, rfl, s5 _ _ eb4, e5, ?_⟩
        simp (maxSteps := 1000000) only [exists_eq_left', V.bl.injEq]
        rw [etk]
        cases d with
        | nil =>
          simp (maxSteps := 1000000) only [List.isEmpty_nil, Bool.not_true, if_false, Bool.false_eq_true, List.map_nil, List.map_nil]
          refine ⟨s5 _ _ eD, s5 _ _ eD, by omega, ?_, s4.trans s5⟩
          rw [hacc]
          constructor
          · intro h d hd
            rcases List.mem_append.mp hd with z | z
            · exact h d z
            · rw [List.mem_singleton] at z; exact z
          · exact fun h d hd => h d (List.mem_append_left _ hd)
        | cons y r =>
          simp (maxSteps := 1000000) only [List.isEmpty_cons, Bool.not_false, if_true, List.map_cons, List.map_cons]
          refine ⟨s5 _ _ eD, by rw [List.length_append, List.length_singleton]; omega, ?_, (s4.trans s5).upd hD⟩
          simp
      · rintro D acc H4 hD ⟨eD, hal, hacc, s4⟩
        rw [List.length_map, hpl, List.take_length] at hacc
        refine ⟨Nat.zero_le _, ?_⟩
        intro p5 n5
        generalize z5 : upd H4 p5 _ = H5
        obtain ⟨s5, e5⟩ := new_same z5 n5
        refine ⟨D, p5, acc, rfl, rfl, s5 _ _ eD, e5, ?_⟩
        have s35 := s4.trans s5
        have DL5 := DL3.same s35
        have ed5 := s35 _ _ ed3
        cases hemp : acc.isEmpty with
        | false =>
          simp (maxSteps := 1000000) only [if_false, Bool.false_eq_true, exists_eq_left', V.bl.injEq]
          refine q p1 ps ds a0 a1 H5 n1 hps DL5 ⟨hdl1.2, hdk⟩ ?_ ed5 (k3.same s35)
          refine Classical.byContradiction fun hno => ?_
          rw [hacc.mpr fun d hd => Classical.byContradiction fun hne => hno ⟨d, hd, hne⟩] at hemp
          cases hemp
        | true =>
          simp (maxSteps := 1000000) only [if_true, exists_eq_left', V.bl.injEq]
          refine ⟨pd, a0, a1, 9, rfl, ed5, by decide, by decide, fun r9 m0 m1 h90 h99 => ⟨r9, rfl, by rw [sizeLine_eq]; decide, ?_⟩⟩
          have k6 : Keep [pd] H (upd H5 pd (.lst [.int m0, .int m1])) := (k3.same s35).upd (.inl (.head _))
          have ed6 : upd H5 pd (.lst [.int m0, .int m1]) pd = some (.lst [.int m0, .int m1]) := upd_same
          have hpd' : ∀ b ∈ ps, b ∉ [pd] := fun b hb => by
            rw [List.mem_singleton]
            intro z
            have := (hps b hb).1
            rw [z, ed] at this
            cases this
          have DL6 := DL5.keep (H' := upd H5 pd (.lst [.int m0, .int m1])) (S := [pd]) (Keep.refl.upd (.inl (.head _))) (by rw [List.mem_singleton]; exact npd) hpd'
          generalize upd H5 pd (.lst [.int m0, .int m1]) = H6 at k6 ed6 DL6 ⊢
          intro p7 n7
          generalize z7 : upd H6 p7 _ = H7
          obtain ⟨s7, e7⟩ := new_same z7 n7
          have DL7 := DL6.same s7
          have e7p := DL7.ea
          have np7 : p7 ≠ p1 := fun z => by rw [z, DL6.ea] at n7; cases n7
          have np7d : p7 ≠ pd := fun z => by rw [z, ed6] at n7; cases n7
          have hn7 : H p7 = none := k6.free n7 (by rw [List.mem_singleton]; exact np7d)
          simp (maxSteps := 1000000) only [lenO_l, Option.bind_some, Option.some.injEq, exists_eq_left', e7p]
          refine ⟨pd, m0, m1, _, rfl, s7 _ _ ed6, by rw [List.length_map]; omega, by rw [List.length_map]; omega, fun ri l0 l1 hi0 hi1 => ?_⟩
          rw [List.length_map] at hi1
          have k8 : Keep [pd] H7 (upd H7 pd (.lst [.int l0, .int l1])) := Keep.refl.upd (.inl (.head _))
          have ed8 : upd H7 pd (.lst [.int l0, .int l1]) pd = some (.lst [.int l0, .int l1]) := upd_same
          generalize upd H7 pd (.lst [.int l0, .int l1]) = H8 at k8 ed8 ⊢
          have DL8 := DL7.keep k8 (by rw [List.mem_singleton]; exact npd) hpd'
          have e78 := k8 _ _ e7 (by rw [List.mem_singleton]; exact np7d)
          refine ⟨_, DL8.ea, ?_⟩
          obtain ⟨j, rfl⟩ : ∃ j : Nat, ri = (j : Int) := ⟨ri.toNat, by omega⟩
          have hj : j < ps.length := by omega
          rw [setO_l, ixN_nat (by rw [List.length_map]; exact hj)]
          refine ⟨_, rfl, ?_⟩
          have k9 : Keep [p1] H8 (upd H8 p1 (.lst ((ps.map V.ref).set j (.ref p7)))) := Keep.refl.upd (.inl (.head _))
          have hset : (ps.map V.ref).set j (V.ref p7) = (ps.set j p7).map V.ref := by rw [List.map_set]
          have hps9 : ∀ b ∈ ps.set j p7, H b = none ∧ b ≠ p1 := fun b hb => by
            rcases List.mem_or_eq_of_mem_set hb with z | z
            · exact hps b z
            · rw [z]; exact ⟨hn7, np7⟩
          refine q p1 (ps.set j p7) (ds.set j [1 + r9]) l0 l1 _ n1 hps9 ⟨by rw [← hset]; exact upd_same, ?_⟩ ⟨by rw [List.length_set]; exact hdl1.2, fun d hd => ?_⟩ ⟨[1 + r9], ?_, by simp⟩ (by rw [upd_ne (Ne.symm npd)]; exact ed8) (fun b o e hb => k9 _ _ (k8 _ _ (s7 _ _ (k6 _ _ e hb)) hb) (by rw [List.mem_singleton]; exact ne_of_none e n1))
          · refine paired_set j (ed_keep k9 DL8.ed fun b hb => by rw [List.mem_singleton]; exact (hps b hb).2) ?_
            exact k9 _ _ e78 (by rw [List.mem_singleton]; exact np7)
          · rcases List.mem_or_eq_of_mem_set hd with z | z
            · exact hdk d z
            · rw [z]
              exact ⟨by rw [List.length_singleton]; decide, fun y hy => by rw [List.mem_singleton] at hy; omega⟩
          · exact List.mem_set (by omega) _
end
end K22
namespace K22
open PySem L2 K04
abbrev s__law_sends : Stmt := top 14
theorem sc__law_sends : FnScope ["_law_road", "_law_turn_here", "_law_letter", "_law_deeds_here", "_law_letters", "_law_delay"] ["_law_road", "_law_turn_here", "_law_letter"] (defScope s__law_sends) := ⟨rfl, rfl, rfl, by decide +kernel, rfl, by decide +kernel, by decide +kernel⟩
abbrev s__law_due : Stmt := top 15
theorem sc__law_due : FnScope ["_law_road", "_law_turn_here"] ["_law_road", "_law_turn_here"] (defScope s__law_due) := ⟨rfl, rfl, rfl, by decide +kernel, rfl, by decide +kernel, by decide +kernel⟩
theorem cs__law_due_0 : CScope ["_law_due_here", "_law_letter"] ["_law_turn_here"] { kind := .function, names := [(".0", .local), ("_law_due_here", .local), ("_law_letter", .local), ("_law_turn_here", .free)], isGenerator := false, isCoroutine := false, more := [] } (defScope s__law_due) := ⟨rfl, by decide +kernel, by decide +kernel, by decide +kernel, by decide +kernel, by decide +kernel⟩
section
variable {P : Program} {w : World} {K : PySem.W.Frag} {mg : Str → Option Value} {base : Heap} {C : Addr}
/-! ### of how many letters one comes -/
def stepG (p : Int × Int) (e : Bool) : Int × Int := let l := (if e then p.1 else 0) + 1; (l, if l > p.2 then l else p.2)
theorem foldG : ∀ (c : List Bool) (l m : Int), 0 ≤ l → l ≤ m → c.foldl stepG (l + 1, m + 1) = ((c.foldl stepF (m, l)).2 + 1, (c.foldl stepF (m, l)).1 + 1)
  | [], l, m, _, _ => rfl
  | e :: c, l, m, h0, h1 => by
    rw [List.foldl_cons, List.foldl_cons]
    have e1 : stepG (l + 1, m + 1) e = ((stepF (m, l) e).2 + 1, (stepF (m, l) e).1 + 1) := by
      unfold stepG stepF
      cases e with
      | true =>
        simp only [if_true]
        split <;> split <;> simp <;> omega
      | false =>
        simp only [Bool.false_eq_true, if_false]
        split <;> split <;> simp <;> omega
    rw [e1]
    refine foldG c _ _ ?_ ?_
    · unfold stepF
      cases e <;> simp <;> omega
    · unfold stepF
      cases e <;> simp <;> split <;> omega
def gapOf (ds : List (List Int)) : Int := longF ((ds.map List.isEmpty) ++ (ds.map List.isEmpty)) + 1
def dl (ds : List (List Int)) (t : Nat) : List Int := ds.getD (t % ds.length) []
theorem gap_hit {ds : List (List Int)} (h : ∃ d ∈ ds, d ≠ []) : 1 ≤ gapOf ds ∧ gapOf ds ≤ ds.length ∧ ∀ s : Nat, ∃ j : Nat, (j : Int) < gapOf ds ∧ dl ds (s + j) ≠ [] := by
  obtain ⟨d, hd, hne⟩ := h
  have hf : false ∈ ds.map List.isEmpty := List.mem_map.mpr ⟨d, hd, by cases d with | nil => exact absurd rfl hne | cons => rfl⟩
  have hb := fair_bounds hf
  have hr := (fair_ring hf).1
  rw [List.length_map] at hb
  refine ⟨hb.1, hb.2, fun s => Classical.byContradiction fun hno => hr ?_⟩
  have hpos : 0 < ds.length := List.length_pos_of_mem hd
  refine ⟨s % ds.length, by rw [List.length_map]; exact Nat.mod_lt _ hpos, fun j hj => ?_⟩
  have he : dl ds (s + j) = [] := Classical.byContradiction fun hne => hno ⟨j, by unfold gapOf; omega, hne⟩
  have hmod : (s + j) % ds.length < ds.length := Nat.mod_lt _ hpos
  unfold dl at he
  rw [List.getD_eq_getElem?_getD, List.getElem?_eq_getElem hmod] at he
  rw [List.length_map, Nat.mod_add_mod, List.getElem?_map, List.getElem?_eq_getElem hmod]
  change some (ds[(s + j) % ds.length].isEmpty) = _
  have he : ds[(s + j) % ds.length] = [] := he
  rw [he]
  rfl
def sp_gap : Sp := fun vs H Q _ => ∃ (a : Addr) (ps : List Addr) (ds : List (List Int)), vs = [.ref a] ∧ DL H a ps ds ∧ ds.length ≤ 8 ∧ ∀ H', Same H H' → Q (.int (gapOf ds)) H'
set_option maxHeartbeats 4000000 in
theorem own_gap (D : Def K mg "_law_gap" s__law_gap) (hb : Blt mg) : Own P w K mg base 1 "_law_gap" ["_law_deeds_here"] sp_gap := by
  refine D.own sc__law_gap (fun _ _ _ _ _ _ us hl => match us, hl with | [_], _ => rfl) (fun vs H Q E h => ?_) (fun f cdv A outer s H vs Q E hr h => ?_)
  · obtain ⟨a, ps, ds, rfl, _⟩ := h
    rfl
  · obtain ⟨a, ps, ds, rfl, hD, hl, q⟩ := h
    have hu := hr.units
    have hu1 : (A.deeper (PyProof.Rows.envOfC "_law_gap" (defScope s__law_gap) s.heap.objs.size f cdv)).units + 1 < cLine := by omega
    have ea := hD.ea
    have hpl := hD.ed.length
    refine ⟨_, (@pss_cons _ _ _ _ _ (@ps_set _ _ 1 _ _ _ _ sc__law_gap.nd rfl (by first | exact Or.inl rfl | exact Or.inr rfl) (@pe_int _ _ _ _) (by rfl) (by first | exact .inl rfl | exact .inr rfl | assumption)) (@pss_cons _ _ _ _ _ (@ps_set _ _ 2 _ _ _ _ sc__law_gap.nd rfl (by first | exact Or.inl rfl | exact Or.inr rfl) (@pe_int _ _ _ _) (by rfl) (by first | exact .inl rfl | exact .inr rfl | assumption)) (@pss_cons _ _ _ _ _ (@ps_for _ _ _ _ _ _ _ _ PassesOwn.never rfl (@pi_listK _ K _ _ _ (@pe_op _ _ _ _ _ _ _ _ op_cat (@pv _ 0 _ _ (by rfl) (by first | exact Or.inl rfl | exact Or.inr (Or.inl rfl) | exact Or.inr (Or.inr rfl)) (by decide) (by decide)) (@pv _ 0 _ _ (by rfl) (by first | exact Or.inl rfl | exact Or.inr (Or.inl rfl) | exact Or.inr (Or.inr rfl)) (by decide) (by decide))) (by rfl)) (@pg_name _ _ 3 _ sc__law_gap.nd rfl (by first | exact Or.inl rfl | exact Or.inr rfl) (by first | exact .inl rfl | exact .inr rfl | assumption)) (@pss_cons _ _ _ _ _ (@ps_if _ _ _ _ _ _ _ _ (@pt_cmpR _ _ _ _ _ _ _ _ (op_neNil hu) (@pv _ 3 _ _ (by rfl) (by first | exact Or.inl rfl | exact Or.inr (Or.inl rfl) | exact Or.inr (Or.inr rfl)) (by decide) (by decide)) (@pe_lst _ _ _ _ (@pa_nil _)) (nomark _)) (@pss_one _ _ _ (@ps_set _ _ 1 _ _ _ _ sc__law_gap.nd rfl (by first | exact Or.inl rfl | exact Or.inr rfl) (@pe_int _ _ _ _) (by rfl) (by first | exact .inl rfl | exact .inr rfl | assumption))) (@pss_nil _)) (@pss_cons _ _ _ _ _ (@ps_set _ _ 1 _ _ _ _ sc__law_gap.nd rfl (by first | exact Or.inl rfl | exact Or.inr rfl) (@pe_op _ _ _ _ _ _ _ _ op_add (@pv _ 1 _ _ (by rfl) (by first | exact Or.inl rfl | exact Or.inr (Or.inl rfl) | exact Or.inr (Or.inr rfl)) (by decide) (by decide)) (@pe_int _ _ _ _)) (by rfl) (by first | exact .inl rfl | exact .inr rfl | assumption)) (@pss_one _ _ _ (@ps_set _ _ 2 _ _ _ _ sc__law_gap.nd rfl (by first | exact Or.inl rfl | exact Or.inr rfl) (@pe_callB _ _ _ _ _ _ _ _ _ (call_max2 rfl) rfl (hb _ (by decide)) bt_max (@pa_cX _ _ _ _ _ (@pv _ 2 _ _ (by rfl) (by first | exact Or.inl rfl | exact Or.inr (Or.inl rfl) | exact Or.inr (Or.inr rfl)) (by decide) (by decide)) (@pa_cX _ _ _ _ _ (@pv _ 1 _ _ (by rfl) (by first | exact Or.inl rfl | exact Or.inr (Or.inl rfl) | exact Or.inr (Or.inr rfl)) (by decide) (by decide)) (@pa_nil _) (by rfl)) (by rfl)) (by decide) (by decide) (by rfl) (by rfl)) (by rfl) (by first | exact .inl rfl | exact .inr rfl | assumption))))) (by intro _; rfl)) (@pss_one _ _ _ (@ps_ret _ _ _ _ (@pv _ 2 _ _ (by rfl) (by first | exact Or.inl rfl | exact Or.inr (Or.inl rfl) | exact Or.inr (Or.inr rfl)) (by decide) (by decide))))))), ?_⟩
    simp (maxSteps := 1000000) only [tFor_eq, Nat.reduceSub, HO.lst.injEq, Nat.reduceAdd, iList, rCat, tSeq, exists_and_left, tOp, tVar, tC, tAsg, gName, L2.start, List.map_cons, List.map_nil, List.length_cons, List.length_nil, List.replicate, List.cons_append, List.nil_append, List.getElem?_cons_zero, List.set_cons_zero, List.set_cons_succ, Option.some.injEq, exists_eq_left', V.ref.injEq, ea]
    refine ⟨by rw [List.length_map, sizeLine_eq]; omega, ?_⟩
    intro p1 n1
    generalize z1 : upd H p1 _ = H1
    obtain ⟨s1, e1⟩ := new_same z1 n1
    have e1 : H1 p1 = some (.lst ((ps ++ ps).map V.ref)) := by rw [e1, List.map_append]
    have hD1 : Paired (fun (b : Addr) (d : List Int) => H1 b = some (.lst (d.map V.int))) (ps ++ ps) (ds ++ ds) := paired_append (hD.same s1).ed (hD.same s1).ed
    refine ⟨⟨_, SqL.of e1⟩, for_list (xs := (ps ++ ps).map V.ref) (fun i σ H' => ∃ v3 : Option V, σ = [some (.ref a), some (.int ((((ds ++ ds).map List.isEmpty).take i).foldl stepG (1, 1)).1), some (.int ((((ds ++ ds).map List.isEmpty).take i).foldl stepG (1, 1)).2), v3] ∧ Same H1 H') ⟨_, rfl, .refl _⟩ ?_ ?_ ?_⟩
    · rintro i σ H2 hi ⟨v3, rfl, s2⟩
      exact SqL.of (s2 _ _ e1)
    · rintro i x σ H2 hx ⟨v3, rfl, s2⟩
      rw [List.getElem?_map] at hx
      obtain ⟨b, hb', rfl⟩ := Option.map_eq_some_iff.mp hx
      obtain ⟨d, hd, eb⟩ := paired_get hD1 hb'
      have eb2 := s2 _ _ eb
      have etk : ((ds ++ ds).map List.isEmpty).take (i + 1) = ((ds ++ ds).map List.isEmpty).take i ++ [d.isEmpty] := by rw [List.take_add_one, List.getElem?_map, hd]; rfl
      simp (maxSteps := 1000000) only [List.cons.injEq, tSeq, exists_and_left, tIfS, tTest, tOp, tVar, tC, rI0, tAsg, gName, tNext, tCons, tNil, tCB, tLst, List.length_nil, List.getElem?_cons_zero, List.getElem?_cons_succ, List.set_cons_zero, List.set_cons_succ, Option.some.injEq, exists_eq_left', V.int.injEq, and_true, true_and, and_assoc]
      refine ⟨Nat.zero_le _, ?_⟩
      intro p3 n3
      generalize z3 : upd H2 p3 _ = H3
      obtain ⟨s3, e3⟩ := new_same z3 n3
      refine ⟨b, p3, _, rfl, rfl, s3 _ _ eb2, e3, ?_⟩
      rw [etk, List.foldl_append]
      generalize (((ds ++ ds).map List.isEmpty).take i).foldl stepG (1, 1) = st
      cases d with
      | nil =>
        simp (maxSteps := 1000000) only [List.isEmpty_nil, Bool.not_true, if_false, Bool.false_eq_true, List.map_nil, exists_eq_left', V.bl.injEq, List.map_nil]
        exact ⟨rfl, rfl, s2.trans s3⟩
      | cons y r =>
        simp (maxSteps := 1000000) only [List.isEmpty_cons, Bool.not_false, if_true, List.map_cons, exists_eq_left', V.bl.injEq, List.map_cons]
        exact ⟨rfl, rfl, s2.trans s3⟩
    · rintro σ H2 ⟨v3, rfl, s2⟩
      rw [List.length_map, List.length_append, hpl, List.take_of_length_le (by rw [List.length_map, List.length_append]; omega)]
      have hg : ((((ds ++ ds).map List.isEmpty).foldl stepG (1, 1)).2) = gapOf ds := by
        have := foldG ((ds ++ ds).map List.isEmpty) 0 0 (Int.le_refl _) (Int.le_refl _)
        rw [show ((1, 1) : Int × Int) = (0 + 1, 0 + 1) from rfl, this, List.map_append]
        rfl
      rw [hg]
      simp (maxSteps := 1000000) only [tVar, tRet, List.getElem?_cons_zero, List.getElem?_cons_succ, Option.some.injEq, exists_eq_left']
      exact q _ (s1.trans s2)
/-! ### a road of the law -/
structure Rdx (H : Hp) (pr pa pl : Addr) (ps : List Addr) (ds : List (List Int)) (log : List (Int × PyData)) : Prop where
  er : H pr = some (.tup [.ref pa, .ref pl])
  dls : DL H pa ps ds
  el : ∃ xs, H pl = some (.lst xs) ∧ Ims H xs (log.map pd)
  na : pl ≠ pa
  np : pl ∉ ps
theorem Rdx.keep {S : List Addr} {H H' : Hp} {pr pa pl : Addr} {ps : List Addr} {ds : List (List Int)} {log : List (Int × PyData)} (h : Rdx H pr pa pl ps ds log) (k : Keep S H H') (hs : ∀ b ∈ S, NoT H b) (ha : pa ∉ S) (hl : pl ∉ S) (hp : ∀ b ∈ ps, b ∉ S) : Rdx H' pr pa pl ps ds log := by
  obtain ⟨xs, el, hm⟩ := h.el
  exact ⟨k _ _ h.er (fun z => hs _ z _ h.er), h.dls.keep k ha hp, ⟨xs, k _ _ el hl, hm.keep k hs⟩, h.na, h.np⟩
theorem Rdx.same {H H' : Hp} {pr pa pl : Addr} {ps : List Addr} {ds : List (List Int)} {log : List (Int × PyData)} (h : Rdx H pr pa pl ps ds log) (s : Same H H') : Rdx H' pr pa pl ps ds log :=
  h.keep (S := []) s.keep (fun _ z => nomatch z) (by simp) (by simp) (fun _ _ => by simp)
def sp_due : Sp := fun vs H Q _ => ∃ (pr pa pl : Addr) (ps : List Addr) (ds : List (List Int)) (log : List (Int × PyData)) (t : Int), vs = [.ref pr, .int t] ∧ Rdx H pr pa pl ps ds log ∧ log.length ≤ 100000 ∧
  ∀ l zs H', H l = none → H' l = some (.lst zs) → Ims H' zs ((log.filter fun p => decide (p.1 = t)).map (·.2)) → Same H H' → Q (.ref l) H'
set_option maxHeartbeats 4000000 in
theorem own_due (D : Def K mg "_law_due" s__law_due) : Own P w K mg base 1 "_law_due" ["_law_road", "_law_turn_here"] sp_due := by
  refine D.own sc__law_due (fun _ _ _ _ _ _ us hl => match us, hl with | [_, _], _ => rfl) (fun vs H Q E h => ?_) (fun f cdv A outer s H vs Q E hr h => ?_)
  · obtain ⟨pr, pa, pl, ps, ds, log, t, rfl, _⟩ := h
    rfl
  · obtain ⟨pr, pa, pl, ps, ds, log, t, rfl, hR, hll, q⟩ := h
    have hu := hr.units
    have hu1 : (A.deeper (PyProof.Rows.envOfC "_law_due" (defScope s__law_due) s.heap.objs.size f cdv)).units + 1 < cLine := by omega
    have er := hR.er
    obtain ⟨xs, el, hm⟩ := hR.el
    have hlen := hm.len
    rw [List.length_map] at hlen
    refine ⟨_, (@pss_one _ _ _ (@ps_ret _ _ _ _ (@pe_comp _ _ _ _ _ _ _ _ _ _ _ ["_law_due_here", "_law_letter"] ["_law_turn_here"] [1] rfl _ cs__law_due_0 (@pi_listK _ K _ _ _ (@pe_ix _ _ _ _ _ _ _ (ix_get hu1) (@pv _ 0 _ _ (by rfl) (by first | exact Or.inl rfl | exact Or.inr (Or.inl rfl) | exact Or.inr (Or.inr rfl)) (by decide) (by decide)) (@pe_int _ _ _ _) (fun _ _ => rfl)) (by rfl)) (fun _ _ _ _ => (@pg_seqX _ _ _ _ 2 _ rfl (@pgs_cons _ _ _ _ _ (@pg_name _ _ 0 _ cs__law_due_0.nd rfl (by first | exact Or.inl rfl | exact Or.inr rfl) (by first | exact .inl rfl | exact .inr rfl | assumption)) (@pgs_cons _ _ _ _ _ (@pg_name _ _ 1 _ cs__law_due_0.nd rfl (by first | exact Or.inl rfl | exact Or.inr rfl) (by first | exact .inl rfl | exact .inr rfl | assumption)) (@pgs_nil _) (by rfl)) (by rfl)) (by rfl) (by rfl))) (fun _ _ _ _ => (@pf_one _ _ _ (@pt_cmpR _ _ _ _ _ _ _ _ op_eq (@pv _ 0 _ _ (by rfl) (by first | exact Or.inl rfl | exact Or.inr (Or.inl rfl) | exact Or.inr (Or.inr rfl)) (by decide) (by decide)) (@pv _ 2 _ _ (by rfl) (by first | exact Or.inl rfl | exact Or.inr (Or.inl rfl) | exact Or.inr (Or.inr rfl)) (by decide) (by decide)) (nomark _)))) (fun _ _ _ _ => (@pv _ 1 _ _ (by rfl) (by first | exact Or.inl rfl | exact Or.inr (Or.inl rfl) | exact Or.inr (Or.inr rfl)) (by decide) (by decide))) (by rfl) (by rfl) (by rfl) (by intro _; rfl)))), ?_⟩
    simp (maxSteps := 1000000) only [tComp_eq, rGet, getO_t, atI_1, Nat.reduceSub, Nat.reduceAdd, iList, exists_and_left, tOp, tVar, tC, tRet, L2.start, List.map_cons, List.map_nil, List.length_cons, List.length_nil, List.replicate, List.getElem?_cons_zero, Option.some.injEq, exists_eq_left', V.ref.injEq, List.append_nil, er]
    refine ⟨⟨_, SqL.of el⟩, comp_list (xs := xs) (by rw [sizeLine_eq]; omega) (fun D i acc H' => H' D = some (.lst acc) ∧ acc.length ≤ i ∧ Ims H' acc (((log.take i).filter fun p => decide (p.1 = t)).map (·.2)) ∧ Same H H') (fun D hD => ⟨upd_same, Nat.le_refl _, .nil, Same.upd_new hD⟩) ?_ ?_ ?_⟩
    · rintro D i acc H2 hD hi ⟨eD, ha, hI, s2⟩
      exact ⟨eD, SqL.of (s2 _ _ el), ha⟩
    · rintro D i x acc H2 hD hx ⟨eD, ha, hI, s2⟩
      obtain ⟨d, hud, hp⟩ := hm.get hx
      rw [List.getElem?_map] at hud
      obtain ⟨p, hk, rfl⟩ := Option.map_eq_some_iff.mp hud
      obtain ⟨tt, z, rfl, et, hz⟩ := Ims.pair hp
      have et2 := s2 _ _ et
      simp (maxSteps := 1000000) only [gSeqX, seqO_t, gCons, gNil, upd_same, Nat.reduceAdd, cSt, List.drop_succ_cons, List.drop_zero, List.cons.injEq, rEq_ii, exists_and_left, tTest, tOp, tVar, gName, List.map_cons, List.map_nil, List.length_cons, List.length_nil, List.replicate, List.cons_append, List.nil_append, List.getElem?_cons_zero, List.getElem?_cons_succ, List.set_cons_zero, List.set_cons_succ, Option.some.injEq, exists_eq_left', V.bl.injEq, V.ref.injEq, true_and, and_assoc, List.map_cons, List.map_nil, Option.join_some, et2]
      rw [List.take_add_one, hk, Option.toList_some, List.filter_append]
      refine ite2 (fun h => ?_) (fun h => ?_)
      · have kD : Keep [D] H2 (upd H2 D (.lst (acc ++ [z]))) := Keep.refl.upd (.inl (.head _))
        have nT := noT1 (NoT.of_lst eD)
        refine ⟨eD, by rw [List.length_append]; exact Nat.add_le_add_right ha 1, ?_, s2.upd hD⟩
        rw [List.filter_cons, if_pos h, List.filter_nil, List.map_append]
        exact (hI.keep kD nT).app (.one ((hz.same s2).keep kD nT))
      · refine ⟨eD, eD, Nat.le_succ_of_le ha, ?_, s2⟩
        rw [List.filter_cons, if_neg h, List.filter_nil, List.append_nil]
        exact hI
    · rintro D acc H2 hD ⟨eD, ha, hI, s2⟩
      rw [List.take_of_length_le (by omega)] at hI
      exact q D acc H2 hD eD hI s2
def sp_sends : Sp := fun vs H Q _ => ∃ (pr pa pl : Addr) (ps : List Addr) (ds : List (List Int)) (log : List (Int × PyData)) (t : Nat) (v : V) (d : PyData), vs = [.ref pr, .int (t : Int), v] ∧ Rdx H pr pa pl ps ds log ∧ Im H v d ∧ 0 < ds.length ∧ (∀ d ∈ ds, d.length ≤ 3) ∧ ds.length ≤ 8 ∧ log.length ≤ 100000 ∧
  ∀ H', Rdx H' pr pa pl ps ds (log ++ (dl ds t).map fun y => ((t : Int) + y, d)) → Keep [pl] H H' → Q .non H'
set_option maxHeartbeats 4000000 in
theorem own_sends (D : Def K mg "_law_sends" s__law_sends) (hb : Blt mg) : Own P w K mg base 1 "_law_sends" ["_law_road", "_law_turn_here", "_law_letter"] sp_sends := by
  refine D.own sc__law_sends (fun _ _ _ _ _ _ us hl => match us, hl with | [_, _, _], _ => rfl) (fun vs H Q E h => ?_) (fun f cdv A outer s H vs Q E hr h => ?_)
  · obtain ⟨pr, pa, pl, ps, ds, log, t, v, d, rfl, _⟩ := h
    rfl
  · obtain ⟨pr, pa, pl, ps, ds, log, t, v, d, rfl, hR, hv, hpos, hd3, hd8, hll, q⟩ := h
    have hu := hr.units
    have hu1 : (A.deeper (PyProof.Rows.envOfC "_law_sends" (defScope s__law_sends) s.heap.objs.size f cdv)).units + 1 < cLine := by omega
    have er := hR.er
    have ea := hR.dls.ea
    have hpl := hR.dls.ed.length
    obtain ⟨xs, el, hm⟩ := hR.el
    have hlen := hm.len
    rw [List.length_map] at hlen
    have hmod : t % ps.length < ps.length := Nat.mod_lt _ (by omega)
    obtain ⟨dd, hdd, edd⟩ := paired_get hR.dls.ed (List.getElem?_eq_getElem hmod)
    have hdl : dl ds t = dd := by
      unfold dl
      rw [List.getD_eq_getElem?_getD, ← hpl, hdd]
      rfl
    have hbm : ps[t % ps.length] ∈ ps := List.getElem_mem _
    have hat : atI (ps.map V.ref) ((t : Int) % (((ps.map V.ref).length : Nat) : Int)) = some (.ref ps[t % ps.length]) := by
      rw [List.length_map]
      have : (t : Int) % ((ps.length : Nat) : Int) = ((t % ps.length : Nat) : Int) := by omega
      rw [this, atI_pos (by omega), Int.toNat_natCast, List.getElem?_map, List.getElem?_eq_getElem hmod]
      rfl
    generalize ps[t % ps.length] = b at edd hbm hat
    refine ⟨_, (@pss_cons _ _ _ _ _ (@ps_asg _ _ _ _ _ _ (@pv _ 0 _ _ (by rfl) (by first | exact Or.inl rfl | exact Or.inr (Or.inl rfl) | exact Or.inr (Or.inr rfl)) (by decide) (by decide)) (@pg_seqX _ _ _ _ 2 _ rfl (@pgs_cons _ _ _ _ _ (@pg_name _ _ 3 _ sc__law_sends.nd rfl (by first | exact Or.inl rfl | exact Or.inr rfl) (by first | exact .inl rfl | exact .inr rfl | assumption)) (@pgs_cons _ _ _ _ _ (@pg_name _ _ 4 _ sc__law_sends.nd rfl (by first | exact Or.inl rfl | exact Or.inr rfl) (by first | exact .inl rfl | exact .inr rfl | assumption)) (@pgs_nil _) (by rfl)) (by rfl)) (by rfl) (by rfl)) (by rfl) (by rfl) (by rfl)) (@pss_one _ _ _ (@ps_for _ _ _ _ _ _ _ _ PassesOwn.never rfl (@pi_listK _ K _ _ _ (@pe_ix _ _ _ _ _ _ _ (ix_get hu1) (@pv _ 3 _ _ (by rfl) (by first | exact Or.inl rfl | exact Or.inr (Or.inl rfl) | exact Or.inr (Or.inr rfl)) (by decide) (by decide)) (@pe_op _ _ _ _ _ _ _ _ op_mod (@pv _ 1 _ _ (by rfl) (by first | exact Or.inl rfl | exact Or.inr (Or.inl rfl) | exact Or.inr (Or.inr rfl)) (by decide) (by decide)) (@pe_callB _ _ _ _ _ _ _ _ _ call_lenX rfl (hb _ (by decide)) bt_len (@pa_cX _ _ _ _ _ (@pv _ 3 _ _ (by rfl) (by first | exact Or.inl rfl | exact Or.inr (Or.inl rfl) | exact Or.inr (Or.inr rfl)) (by decide) (by decide)) (@pa_nil _) (by rfl)) (by decide) (by decide) (by rfl) (by rfl))) (fun _ _ => rfl)) (by rfl)) (@pg_name _ _ 5 _ sc__law_sends.nd rfl (by first | exact Or.inl rfl | exact Or.inr rfl) (by first | exact .inl rfl | exact .inr rfl | assumption)) (@pss_one _ _ _ (@ps_expr _ _ _ _ (@pe_lm _ _ _ _ _ _ _ _ _ _ _ PySem.F.slot_list_append PySem.F.type_list_append mt_append (@pv _ 4 _ _ (by rfl) (by first | exact Or.inl rfl | exact Or.inr (Or.inl rfl) | exact Or.inr (Or.inr rfl)) (by decide) (by decide)) (@pa_cX _ _ _ _ _ (@pe_tup _ _ _ _ _ (@pa_cX _ _ _ _ _ (@pe_op _ _ _ _ _ _ _ _ op_add (@pv _ 1 _ _ (by rfl) (by first | exact Or.inl rfl | exact Or.inr (Or.inl rfl) | exact Or.inr (Or.inr rfl)) (by decide) (by decide)) (@pv _ 5 _ _ (by rfl) (by first | exact Or.inl rfl | exact Or.inr (Or.inl rfl) | exact Or.inr (Or.inr rfl)) (by decide) (by decide))) (@pa_cX _ _ _ _ _ (@pv _ 2 _ _ (by rfl) (by first | exact Or.inl rfl | exact Or.inr (Or.inl rfl) | exact Or.inr (Or.inr rfl)) (by decide) (by decide)) (@pa_nil _) (by rfl)) (by rfl))) (@pa_nil _) (by rfl)) (by rfl) (by rfl) (by rfl) (by rfl) (by rfl)) (by rfl))) (by intro _; rfl)))), ?_⟩
    simp (maxSteps := 1000000) only [tFor_eq, gSeqX, rGet, getO_l, rLenX, lenX_r, lenO_l, Option.bind_some, seqO_t, gCons, gNil, Nat.reduceSub, Nat.reduceAdd, iList, List.cons.injEq, tSeq, exists_and_left, tOp, tVar, rI, tAsg, gName, tCons, tNil, tCB, L2.start, List.map_cons, List.map_nil, List.length_cons, List.length_nil, List.replicate, List.cons_append, List.nil_append, List.getElem?_cons_zero, List.getElem?_cons_succ, List.set_cons_zero, List.set_cons_succ, Option.some.injEq, exists_eq_left', V.int.injEq, V.ref.injEq, and_true, true_and, and_assoc, gSeqX, er, ea, hat]
    have npb : pl ≠ b := fun z => hR.np (z ▸ hbm)
    have hdd3 : dd.length ≤ 3 := hd3 dd (List.mem_of_getElem? hdd)
    refine ⟨by rw [List.length_map]; omega, ⟨_, SqL.of edd⟩, for_list (xs := dd.map V.int) (fun i σ H' => ∃ v5 : Option V, σ = [some (.ref pr), some (.int (t : Int)), some v, some (.ref pa), some (.ref pl), v5] ∧ Rdx H' pr pa pl ps ds (log ++ (dd.take i).map fun y => ((t : Int) + y, d)) ∧ H' b = some (.lst (dd.map V.int)) ∧ Im H' v d ∧ Keep [pl] H H') ⟨_, rfl, by rw [List.take_zero, List.map_nil, List.append_nil]; exact hR, edd, hv, .refl⟩ ?_ ?_ ?_⟩
    · rintro i σ H2 hi ⟨v5, rfl, R2, eb2, hv2, k2⟩
      exact SqL.of eb2
    · rintro i yv σ H2 hy ⟨v5, rfl, R2, eb2, hv2, k2⟩
      rw [List.getElem?_map] at hy
      obtain ⟨y, hy', rfl⟩ := Option.map_eq_some_iff.mp hy
      obtain ⟨zs, el2, hm2⟩ := R2.el
      have hi3 : i < 3 := Nat.lt_of_lt_of_le (List.getElem?_eq_some_iff.mp hy').1 hdd3
      have hzl := hm2.len
      rw [List.length_map, List.length_append, List.length_map, List.length_take] at hzl
      simp (maxSteps := 1000000) only [tBL, HO.lst.injEq, Nat.reduceAdd, rAppend, List.cons.injEq, exists_and_left, tOp, tVar, rI0, gName, tCons, tNil, tDrop, tTup, List.length_cons, List.length_nil, List.getElem?_cons_zero, List.getElem?_cons_succ, List.set_cons_zero, List.set_cons_succ, Option.some.injEq, exists_eq_left', V.int.injEq, V.ref.injEq, and_true, true_and, el2]
      refine ⟨by rw [sizeLine_eq]; decide, ?_⟩
      intro p3 n3
      generalize z3 : upd H2 p3 _ = H3
      obtain ⟨s3, e3⟩ := new_same z3 n3
      have el3 := s3 _ _ el2
      simp (maxSteps := 1000000) only [HO.lst.injEq, Option.some.injEq, exists_eq_left', el3]
      refine ⟨by rw [sizeLine_eq]; omega, ?_⟩
      have k4 : Keep [pl] H3 (upd H3 pl (.lst (zs ++ [V.ref p3]))) := Keep.refl.upd (.inl (.head _))
      have nT : ∀ c ∈ [pl], NoT H3 c := noT1 (.of_lst el3)
      have R3 := R2.same s3
      have hv3 := hv2.same s3
      refine ⟨⟨k4 _ _ R3.er (fun z => nT _ z _ R3.er), R3.dls.keep k4 (by rw [List.mem_singleton]; exact Ne.symm hR.na) (fun c hc z => hR.np ((List.mem_singleton.mp z) ▸ hc)), ⟨_, upd_same, ?_⟩, hR.na, hR.np⟩, k4 _ _ (s3 _ _ eb2) (by rw [List.mem_singleton]; exact Ne.symm npb), hv3.keep k4 nT, (k2.same s3).trans k4⟩
      have hcat : log ++ (List.take (i + 1) dd).map (fun y => ((t : Int) + y, d)) = (log ++ (List.take i dd).map (fun y => ((t : Int) + y, d))) ++ [((t : Int) + y, d)] := by
        rw [List.take_add_one, hy', Option.toList_some, List.map_append, ← List.append_assoc]
        rfl
      rw [hcat, List.map_append (l₂ := [((t : Int) + y, d)])]
      exact ((hm2.same s3).keep k4 nT).app (.one ((Im.pair e3 hv3).keep k4 nT))
    · rintro σ H2 ⟨v5, rfl, R2, eb2, hv2, k2⟩
      rw [List.length_map, List.take_length, ← hdl] at R2
      simp (maxSteps := 1000000) only []
      exact q H2 R2 k2
end
end K22
namespace K22
open PySem L2 K04
abbrev s__law_turn : Stmt := top 16
theorem sc__law_turn : FnScope ["_law_turn_here", "_law_roads", "_law_link", "_law_came", "_law_out", "_law_taker", "_law_letter", "_law_parcel", "_law_got"] ["_law_turn_here", "_law_roads", "_law_link", "_law_came"] (defScope s__law_turn) := ⟨rfl, rfl, rfl, by decide +kernel, rfl, by decide +kernel, by decide +kernel⟩
section
variable {P : Program} {w : World} {K : PySem.W.Frag} {mg : Str → Option Value} {base : Heap} {Co Ci : Addr}
/-! ### what is kept -/
def mkp (n : Nat) : Int × PyData := ((n : Int), PyData.int (n : Int))
def mkd (n : Nat) : PyData := PyData.int (n : Int)
def kp (b t : Nat) : List (Int × PyData) := (List.range' b (t - b)).map mkp
theorem kp_len {b t : Nat} : (kp b t).length = t - b := by unfold kp; rw [List.length_map, List.length_range']
theorem kp_snoc {b t : Nat} (h : b ≤ t) : kp b t ++ [((t : Int), PyData.int (t : Int))] = kp b (t + 1) := by
  unfold kp
  rw [show t + 1 - b = (t - b) + 1 by omega, List.range'_concat, List.map_append, show b + 1 * (t - b) = t by omega]
  rfl
theorem kp_depth {b t : Nat} : ∀ p ∈ kp b t, p.2.depth ≤ 3 := fun p hp => by
  obtain ⟨n, _, rfl⟩ := List.mem_map.mp hp
  simp [mkp, PyData.depth]
theorem kp_tk : ∀ (m b g : Nat) (acc : List PyData), b ≤ g → ((List.range' b m).map mkp).foldl tk ((g : Int), acc) = (((max g (b + m) : Nat) : Int), acc ++ (List.range' g (b + m - g)).map mkd)
  | 0, b, g, acc, h => by
    rw [show max g (b + 0) = g by omega, show b + 0 - g = 0 by omega]
    simp
  | m + 1, b, g, acc, h => by
    rw [List.range'_succ, List.map_cons, List.foldl_cons]
    by_cases e : b = g
    · subst e
      have e1 : tk ((b : Int), acc) ((b : Int), PyData.int (b : Int)) = (((b + 1 : Nat) : Int), acc ++ [PyData.int (b : Int)]) := by
        unfold tk
        rw [if_pos rfl]
        simp
      rw [show mkp b = ((b : Int), PyData.int (b : Int)) from rfl, e1, kp_tk m (b + 1) (b + 1) _ (Nat.le_refl _), show max (b + 1) (b + 1 + m) = max b (b + (m + 1)) by omega, show b + 1 + m - (b + 1) = m by omega, show b + (m + 1) - b = m + 1 by omega, List.range'_succ, List.map_cons, List.append_assoc]
      rfl
    · have e1 : tk ((g : Int), acc) ((b : Int), PyData.int (b : Int)) = ((g : Int), acc) := by
        unfold tk
        rw [if_neg (by simp; omega)]
      rw [show mkp b = ((b : Int), PyData.int (b : Int)) from rfl, e1, kp_tk m (b + 1) g _ (by omega), show b + 1 + m = b + (m + 1) by omega]
theorem kp_fold {b t g : Nat} (acc : List PyData) (h : b ≤ g) (ht : b ≤ t) : (kp b t).foldl tk ((g : Int), acc) = (((max g t : Nat) : Int), acc ++ (List.range' g (t - g)).map mkd) := by
  unfold kp
  rw [kp_tk _ _ _ _ h, show b + (t - b) = t by omega]
theorem kp_filt : ∀ (m b n : Nat), (((List.range' b m).map mkp).filter fun p => decide ((n : Int) ≤ p.1)) = (List.range' (max b n) (b + m - max b n)).map mkp
  | 0, b, n => by
    rw [show b + 0 - max b n = 0 by omega]
    rfl
  | m + 1, b, n => by
    rw [List.range'_succ, List.map_cons, List.filter_cons]
    by_cases e : n ≤ b
    · rw [if_pos (by simp [mkp]; omega), kp_filt m (b + 1) n, show max (b + 1) n = b + 1 by omega, show max b n = b by omega, show b + 1 + m - (b + 1) = m by omega, show b + (m + 1) - b = m + 1 by omega, List.range'_succ, List.map_cons]
    · rw [if_neg (by simp [mkp]; omega), kp_filt m (b + 1) n, show max (b + 1) n = max b n by omega, show b + 1 + m = b + (m + 1) by omega]
theorem kp_told {b t n : Nat} (h : b ≤ t) : ((kp b t).filter fun p => decide ((n : Int) ≤ p.1)) = kp (max b n) t := by
  unfold kp
  rw [kp_filt, show b + (t - b) = t by omega]
/-! ### dicts by numbers from nought on -/
def tblF (o : Nat) : List Int → List (Key × V)
  | [] => []
  | t :: r => (Sum.inl (o : Int), V.int t) :: tblF (o + 1) r
theorem tbl_len : ∀ (ts : List Int) (o : Nat), (tblF o ts).length = ts.length
  | [], _ => rfl
  | _ :: r, o => by rw [tblF, List.length_cons, List.length_cons, tbl_len r]
theorem tbl_val : ∀ (ts : List Int) (o n : Nat), valV (tblF o ts) (Sum.inl ((o + n : Nat) : Int)) = (ts[n]?).map V.int
  | [], o, n => rfl
  | t :: r, o, 0 => valV_pos rfl
  | t :: r, o, n + 1 => by
    rw [tblF, valV_neg (by intro z; have := Sum.inl.inj z; omega)]
    have := tbl_val r (o + 1) n
    rw [show o + 1 + n = o + (n + 1) by omega] at this
    rw [this]
    rfl
theorem tbl_snoc : ∀ (ts : List Int) (o : Nat) (t : Int), tblF o (ts ++ [t]) = tblF o ts ++ [(Sum.inl ((o + ts.length : Nat) : Int), V.int t)]
  | [], o, t => rfl
  | a :: r, o, t => by
    rw [List.cons_append, tblF, tbl_snoc r (o + 1) t, tblF, List.cons_append, List.length_cons, show o + 1 + r.length = o + (r.length + 1) by omega]
abbrev tbl (ts : List Int) : List (Key × V) := tblF 0 ts
theorem tbl_get (ts : List Int) (n : Nat) : valV (tbl ts) (Sum.inl (n : Int)) = (ts[n]?).map V.int := by
  have := tbl_val ts 0 n
  rw [Nat.zero_add] at this
  exact this
theorem tbl_put (ts : List Int) (t : Int) : putK (tbl ts) (Sum.inl (ts.length : Int)) (.int t) = tbl (ts ++ [t]) := by
  rw [putK_new _ (by rw [tbl_get, List.getElem?_eq_none (Nat.le_refl _)]; rfl)]
  change _ = tblF 0 (ts ++ [t])
  rw [tbl_snoc, Nat.zero_add]
theorem tbl_keys : ∀ (ts : List Int) (o : Nat), ((tblF o ts).map fun q => kV q.1) = (List.range' o ts.length).map fun (i : Nat) => V.int (i : Int)
  | [], _ => rfl
  | _ :: r, o => by rw [tblF, List.map_cons, tbl_keys r, List.length_cons, List.range'_succ, List.map_cons]; rfl
/-! ### letters under way -/
def ltr0 (e : Int × Nat × Nat) : Int × PyData := (e.1, .tuple ((kp e.2.1 e.2.2).map pd))
def ltr1 (e : Int × Nat) : Int × PyData := (e.1, .int (e.2 : Int))
theorem Rdx.keepX {S : List Addr} {H H' : Hp} {pr pa pl : Addr} {ps : List Addr} {ds : List (List Int)} {log : List (Int × PyData)} (h : Rdx H pr pa pl ps ds log) (k : Keep S H H') (hs : ∀ b ∈ S, NoT H b) (hl : ∀ b ∈ S, ∀ xs, H b ≠ some (.lst xs)) : Rdx H' pr pa pl ps ds log := by
  obtain ⟨xs, el, hm⟩ := h.el
  refine h.keep k hs (fun z => hl _ z _ h.dls.ea) (fun z => hl _ z _ el) (fun b hb z => ?_)
  obtain ⟨i, hi⟩ := List.mem_iff_getElem?.mp hb
  obtain ⟨d, _, eb⟩ := paired_get h.dls.ed hi
  exact hl _ z _ eb
def gotA (T : Int) (lg : List (Int × Nat × Nat)) (g : Nat) : Nat := (lg.filter fun e => decide (e.1 = T)).foldl (fun g e => max g e.2.2) g
def basA (T : Int) (lg : List (Int × Nat)) (b : Nat) : Nat := (lg.filter fun e => decide (e.1 = T)).foldl (fun b e => max b e.2) b
theorem fold_ge {α : Type} (f : α → Nat) : ∀ (l : List α) (g : Nat), g ≤ l.foldl (fun g e => max g (f e)) g
  | [], _ => Nat.le_refl _
  | e :: l, g => Nat.le_trans (Nat.le_max_left _ _) (fold_ge f l (max g (f e)))
theorem fold_le {α : Type} (f : α → Nat) {m : Nat} : ∀ (l : List α) (g : Nat), g ≤ m → (∀ e ∈ l, f e ≤ m) → l.foldl (fun g e => max g (f e)) g ≤ m
  | [], _, h, _ => h
  | e :: l, g, h, ha => fold_le f l (max g (f e)) (Nat.max_le.mpr ⟨h, ha e (.head _)⟩) fun e he => ha e (.tail _ he)
theorem fold_has {α : Type} (f : α → Nat) : ∀ {l : List α} {g : Nat} {e : α}, e ∈ l → f e ≤ l.foldl (fun g e => max g (f e)) g
  | e' :: l, g, e, h => by
    rcases List.mem_cons.mp h with z | z
    · rw [z]
      exact Nat.le_trans (Nat.le_max_right _ _) (fold_ge f l _)
    · exact fold_has (l := l) (g := max g (f e')) f z
theorem ims_ints {H : Hp} : ∀ {zs : List V} {l : List Nat}, Ims H zs (l.map mkd) → zs = l.map fun (n : Nat) => V.int (n : Int)
  | [], [], _ => rfl
  | [], _ :: _, h => nomatch h
  | _ :: _, [], h => nomatch h
  | z :: zs, n :: l, .cons h t => by
    rw [ims_ints t]
    cases h
    rfl
structure Lk (Co Ci : Addr) (H : Hp) (plk x dx l y dy : Addr) (rm : Int) (bs tp gt : Nat) : Prop where
  elk : H plk = some (.tup [.ref x, .ref y])
  out : OutAt Co H x dx l rm tp (kp bs tp)
  inn : H y = some (.ins Ci dy (nf gt))
  ne : x ≠ y
def sp_turn (Co Ci : Addr) : Sp := fun vs H Q _ => ∃ (T : Nat) (prs plk pq x dx l y dy pr0 pa0 pl0 pr1 pa1 pl1 : Addr) (ps0 ps1 : List Addr) (ds0 ds1 : List (List Int)) (lg0 : List (Int × Nat × Nat)) (lg1 : List (Int × Nat)) (rm : Int) (bs tp gt : Nat) (cts : List Int),
  vs = [.int (T : Int), .ref prs, .ref plk, .ref pq] ∧ H prs = some (.tup [.ref pr0, .ref pr1]) ∧ Lk Co Ci H plk x dx l y dy rm bs tp gt ∧ Rdx H pr0 pa0 pl0 ps0 ds0 (lg0.map ltr0) ∧ Rdx H pr1 pa1 pl1 ps1 ds1 (lg1.map ltr1) ∧ H pq = some (.dK (tbl cts)) ∧
  cts.length = gt ∧ (∀ e ∈ lg0, e.2.1 ≤ gt ∧ e.2.1 ≤ e.2.2 ∧ e.2.2 ≤ tp) ∧ (∀ e ∈ lg1, e.2 ≤ gt) ∧ bs ≤ gt ∧ gt ≤ tp ∧ tp ≤ 200 ∧ lg0.length ≤ 100000 ∧ lg1.length ≤ 100000 ∧
  ∀ l' H', (l' = l ∨ H l' = none) → Lk Co Ci H' plk x dx l' y dy rm (basA T lg1 bs) tp (gotA T lg0 gt) → H' pq = some (.dK (tbl (cts ++ List.replicate (gotA T lg0 gt - gt) (T : Int)))) → Keep [x, y, pq] H H' → Q .non H'
set_option maxHeartbeats 4000000 in
theorem own_turn (D : Def K mg "_law_turn" s__law_turn) (hb : Blt mg) (T_Out : ClsD K mg "Out" Co oAttrs) (T_In : ClsD K mg "In" Ci iAttrs) (F__law_due : Own P w K mg base 1 "_law_due" ["_law_road", "_law_turn_here"] sp_due) (M_In_took : OwnM P w K mg base 5 Ci "took" ["self", "pairs"] (sp_took Ci)) (M_Out_told : OwnM P w K mg base 1 Co "told" ["self", "got"] (sp_told Co)) : Own P w K mg base 6 "_law_turn" ["_law_turn_here", "_law_roads", "_law_link", "_law_came"] (sp_turn Co Ci) := by
  refine D.own sc__law_turn (fun _ _ _ _ _ _ us hl => match us, hl with | [_, _, _, _], _ => rfl) (fun vs H Q E h => ?_) (fun f cdv A outer s H vs Q E hr h => ?_)
  · obtain ⟨T, prs, plk, pq, x, dx, l, y, dy, pr0, pa0, pl0, pr1, pa1, pl1, ps0, ps1, ds0, ds1, lg0, lg1, rm, bs, tp, gt, cts, rfl, _⟩ := h
    rfl
  · obtain ⟨T, prs, plk, pq, x, dx, l, y, dy, pr0, pa0, pl0, pr1, pa1, pl1, ps0, ps1, ds0, ds1, lg0, lg1, rm, bs, tp, gt, cts, rfl, ers, L, R0, R1, eq, hcl, h0, h1, hbg, hgt, htp, hll0, hll1, q⟩ := h
    have hu := hr.units
    have hu1 : (A.deeper (PyProof.Rows.envOfC "_law_turn" (defScope s__law_turn) s.heap.objs.size f cdv)).units + 1 < cLine := by omega
    have elk := L.elk
    refine ⟨_, (@pss_cons _ _ _ _ _ (@ps_asg _ _ _ _ _ _ (@pv _ 2 _ _ (by rfl) (by first | exact Or.inl rfl | exact Or.inr (Or.inl rfl) | exact Or.inr (Or.inr rfl)) (by decide) (by decide)) (@pg_seqX _ _ _ _ 2 _ rfl (@pgs_cons _ _ _ _ _ (@pg_name _ _ 4 _ sc__law_turn.nd rfl (by first | exact Or.inl rfl | exact Or.inr rfl) (by first | exact .inl rfl | exact .inr rfl | assumption)) (@pgs_cons _ _ _ _ _ (@pg_name _ _ 5 _ sc__law_turn.nd rfl (by first | exact Or.inl rfl | exact Or.inr rfl) (by first | exact .inl rfl | exact .inr rfl | assumption)) (@pgs_nil _) (by rfl)) (by rfl)) (by rfl) (by rfl)) (by rfl) (by rfl) (by rfl)) (@pss_cons _ _ _ _ _ (@ps_for _ _ _ _ _ _ _ _ PassesOwn.never rfl (@pi_listK _ K _ _ _ (@pe_fn _ _ _ _ _ _ _ _ _ _ _ F__law_due hr (@pa_cX _ _ _ _ _ (@pe_ix _ _ _ _ _ _ _ (ix_get hu1) (@pv _ 1 _ _ (by rfl) (by first | exact Or.inl rfl | exact Or.inr (Or.inl rfl) | exact Or.inr (Or.inr rfl)) (by decide) (by decide)) (@pe_int _ _ _ _) (fun _ _ => rfl)) (@pa_cX _ _ _ _ _ (@pv _ 0 _ _ (by rfl) (by first | exact Or.inl rfl | exact Or.inr (Or.inl rfl) | exact Or.inr (Or.inr rfl)) (by decide) (by decide)) (@pa_nil _) (by rfl)) (by rfl)) (by decide) (by rfl) (by decide) (by rfl) (by rfl)) (by rfl)) (@pg_name _ _ 6 _ sc__law_turn.nd rfl (by first | exact Or.inl rfl | exact Or.inr rfl) (by first | exact .inl rfl | exact .inr rfl | assumption)) (@pss_one _ _ _ (@ps_for _ _ _ _ _ _ _ _ PassesOwn.never rfl (@pi_listK _ K _ _ _ (@pe_mth _ _ _ _ _ _ _ _ _ _ _ _ _ _ _ M_In_took T_In.cl hr (@pv _ 5 _ _ (by rfl) (by first | exact Or.inl rfl | exact Or.inr (Or.inl rfl) | exact Or.inr (Or.inr rfl)) (by decide) (by decide)) (@pa_cX _ _ _ _ _ (@pv _ 6 _ _ (by rfl) (by first | exact Or.inl rfl | exact Or.inr (Or.inl rfl) | exact Or.inr (Or.inr rfl)) (by decide) (by decide)) (@pa_nil _) (by rfl)) (by decide) (by rfl) (by rfl) (by rfl)) (by rfl)) (@pg_name _ _ 7 _ sc__law_turn.nd rfl (by first | exact Or.inl rfl | exact Or.inr rfl) (by first | exact .inl rfl | exact .inr rfl | assumption)) (@pss_one _ _ _ (@ps_asg _ _ _ _ _ _ (@pv _ 0 _ _ (by rfl) (by first | exact Or.inl rfl | exact Or.inr (Or.inl rfl) | exact Or.inr (Or.inr rfl)) (by decide) (by decide)) (@pg_sub _ _ _ _ _ _ _ (@pv _ 3 _ _ (by rfl) (by first | exact Or.inl rfl | exact Or.inr (Or.inl rfl) | exact Or.inr (Or.inr rfl)) (by decide) (by decide)) (@pv _ 7 _ _ (by rfl) (by first | exact Or.inl rfl | exact Or.inr (Or.inl rfl) | exact Or.inr (Or.inr rfl)) (by decide) (by decide)) (@set_x _ hu1) (by intro _; rfl)) (by rfl) (by rfl) (by rfl))) (by intro _; rfl))) (by intro _; rfl)) (@pss_one _ _ _ (@ps_for _ _ _ _ _ _ _ _ PassesOwn.never rfl (@pi_listK _ K _ _ _ (@pe_fn _ _ _ _ _ _ _ _ _ _ _ F__law_due hr (@pa_cX _ _ _ _ _ (@pe_ix _ _ _ _ _ _ _ (ix_get hu1) (@pv _ 1 _ _ (by rfl) (by first | exact Or.inl rfl | exact Or.inr (Or.inl rfl) | exact Or.inr (Or.inr rfl)) (by decide) (by decide)) (@pe_int _ _ _ _) (fun _ _ => rfl)) (@pa_cX _ _ _ _ _ (@pv _ 0 _ _ (by rfl) (by first | exact Or.inl rfl | exact Or.inr (Or.inl rfl) | exact Or.inr (Or.inr rfl)) (by decide) (by decide)) (@pa_nil _) (by rfl)) (by rfl)) (by decide) (by rfl) (by decide) (by rfl) (by rfl)) (by rfl)) (@pg_name _ _ 8 _ sc__law_turn.nd rfl (by first | exact Or.inl rfl | exact Or.inr rfl) (by first | exact .inl rfl | exact .inr rfl | assumption)) (@pss_one _ _ _ (@ps_expr _ _ _ _ (@pe_mth _ _ _ _ _ _ _ _ _ _ _ _ _ _ _ M_Out_told T_Out.cl hr (@pv _ 4 _ _ (by rfl) (by first | exact Or.inl rfl | exact Or.inr (Or.inl rfl) | exact Or.inr (Or.inr rfl)) (by decide) (by decide)) (@pa_cX _ _ _ _ _ (@pv _ 8 _ _ (by rfl) (by first | exact Or.inl rfl | exact Or.inr (Or.inl rfl) | exact Or.inr (Or.inr rfl)) (by decide) (by decide)) (@pa_nil _) (by rfl)) (by decide) (by rfl) (by rfl) (by rfl)) (by rfl))) (by intro _; rfl))))), ?_⟩
    simp (maxSteps := 1000000) only [tFor_eq, gSeqX, rGet, getO_t, seqO_t, gCons, gNil, atI_0, Nat.reduceSub, Nat.reduceAdd, iList, List.cons.injEq, tSeq, exists_and_left, tOp, tVar, tC, tAsg, gName, tCall, tCons, tNil, L2.start, List.map_cons, List.map_nil, List.length_cons, List.length_nil, List.replicate, List.cons_append, List.nil_append, List.getElem?_cons_zero, List.getElem?_cons_succ, List.set_cons_zero, List.set_cons_succ, Option.some.injEq, exists_eq_left', V.ref.injEq, true_and, and_assoc, List.append_nil, gSeqX, elk, ers]
    have ex := L.out.ins
    have hnq : ∀ xs, H pq ≠ some (.lst xs) := fun xs z => by rw [eq] at z; cases z
    have S3l : ∀ b ∈ [x, y, pq], ∀ xs, H b ≠ some (.lst xs) := fun b hb xs z => by
      simp only [List.mem_cons, List.not_mem_nil, or_false] at hb
      rcases hb with rfl | rfl | rfl
      · rw [ex] at z; cases z
      · rw [L.inn] at z; cases z
      · rw [eq] at z; cases z
    have S3t : ∀ b ∈ [x, y, pq], NoT H b := fun b hb => by
      simp only [List.mem_cons, List.not_mem_nil, or_false] at hb
      rcases hb with rfl | rfl | rfl
      · exact .of_ins ex
      · exact .of_ins L.inn
      · exact .of_dK eq
    have hxq : x ≠ pq := ne_of ex eq (by intro z; cases z)
    have hyq : y ≠ pq := ne_of L.inn eq (by intro z; cases z)
    refine ⟨pr0, pa0, pl0, ps0, ds0, lg0.map ltr0, (T : Int), rfl, R0, by rw [List.length_map]; exact hll0, fun l1 zs H1 n1 e1 hz1 s1 => ?_⟩
    obtain ⟨d0, hd0⟩ : ∃ d0, d0 = lg0.filter fun e => decide (e.1 = (T : Int)) := ⟨_, rfl⟩
    have hz1 : Ims H1 zs (d0.map fun e => (ltr0 e).2) := by
      have e1 : ((lg0.map ltr0).filter fun p => decide (p.1 = (T : Int))).map (·.2) = d0.map fun e => (ltr0 e).2 := by
        rw [List.filter_map, List.map_map, hd0]
        rfl
      rw [← e1]
      exact hz1
    have hd0m : ∀ e ∈ d0, e.2.1 ≤ gt ∧ e.2.1 ≤ e.2.2 ∧ e.2.2 ≤ tp := fun e he => h0 e (by rw [hd0] at he; exact (List.mem_filter.mp he).1)
    have hzl := hz1.len
    rw [List.length_map] at hzl
    have hdl0 : d0.length ≤ 100000 := by rw [hd0]; exact Nat.le_trans (List.length_filter_le _ _) hll0
    refine ⟨l1, rfl, ⟨_, SqL.of e1⟩, for_list (xs := zs) (fun i σ H' => ∃ (g : Nat) (v6 v7 : Option V), σ = [some (.int (T : Int)), some (.ref prs), some (.ref plk), some (.ref pq), some (.ref x), some (.ref y), v6, v7, none] ∧ g = (d0.take i).foldl (fun g e => max g e.2.2) gt ∧ H' y = some (.ins Ci dy (nf g)) ∧ H' pq = some (.dK (tbl (cts ++ List.replicate (g - gt) (T : Int)))) ∧ H' l1 = some (.lst zs) ∧ Ims H' zs (d0.map fun e => (ltr0 e).2) ∧ Keep [y, pq] H H') ⟨gt, _, _, rfl, rfl, s1 _ _ L.inn, by rw [Nat.sub_self]; simpa using s1 _ _ eq, e1, hz1, s1.keep⟩ ?_ ?_ ?_⟩
    · rintro i σ H2 hi ⟨g, v6, v7, rfl, hg, ey2, eq2, e2, hz2, k2⟩
      exact SqL.of e2
    · rintro i zv σ H2 hzv ⟨g, v6, v7, rfl, hg, ey2, eq2, e2, hz2, k2⟩
      obtain ⟨d, hud, hp⟩ := hz2.get hzv
      rw [List.getElem?_map] at hud
      obtain ⟨e, he, rfl⟩ := Option.map_eq_some_iff.mp hud
      have hem := hd0m e (List.mem_of_getElem? he)
      have hgge : gt ≤ g := by rw [hg]; exact fold_ge (fun e : Int × Nat × Nat => e.2.2) _ _
      have hgle : g ≤ tp := by rw [hg]; exact fold_le (fun e : Int × Nat × Nat => e.2.2) _ _ hgt fun e he => (hd0m e (List.mem_of_mem_take he)).2.2
      have hnext : (d0.take (i + 1)).foldl (fun g e => max g e.2.2) gt = max g e.2.2 := by
        rw [List.take_add_one, he, Option.toList_some, List.foldl_append, ← hg]
        rfl
      simp (maxSteps := 1000000) only [tFor_eq, HO.ins.injEq, tMeth, iList, exists_and_left, tVar, gName, tCons, tNil, List.getElem?_cons_zero, List.getElem?_cons_succ, List.set_cons_zero, List.set_cons_succ, Option.some.injEq, exists_eq_left', V.ref.injEq, true_and, and_assoc, List.append_nil, ey2, nf_took]
      refine ⟨y, dy, (g : Int), zv, kp e.2.1 e.2.2, rfl, ey2, hp, kp_depth, fun l3 ws H3 n3 e3 hw3 ey3 k3 => ?_⟩
      have hf := kp_fold (t := e.2.2) (g := g) [] (Nat.le_trans hem.1 hgge) hem.2.1
      rw [hf, List.nil_append] at hw3
      rw [hf] at ey3
      have hws : ws = (List.range' g (e.2.2 - g)).map fun (n : Nat) => V.int (n : Int) := ims_ints hw3
      subst hws
      have n2 : ∀ {b : Addr} {xs : List V}, H2 b = some (.lst xs) → b ∉ [y] := fun {b xs} eb z => by
        rw [List.mem_singleton] at z
        rw [z, ey2] at eb
        cases eb
      have eq3 := k3 _ _ eq2 (by rw [List.mem_singleton]; exact Ne.symm hyq)
      have e23 := k3 _ _ e2 (n2 e2)
      have hz3 := hz2.keep k3 (noT1 (.of_ins ey2))
      have hl13 : l1 ≠ l3 := ne_of_none e2 n3
      simp (maxSteps := 1000000) only [exists_eq_left', V.ref.injEq]
      refine ⟨⟨_, SqL.of e3⟩, for_list (xs := (List.range' g (e.2.2 - g)).map fun (n : Nat) => V.int (n : Int)) (fun j σ H' => ∃ (v7 : Option V), σ = [some (.int (T : Int)), some (.ref prs), some (.ref plk), some (.ref pq), some (.ref x), some (.ref y), some zv, v7, none] ∧ H' pq = some (.dK (tbl (cts ++ List.replicate (g + j - gt) (T : Int)))) ∧ Keep [pq] H3 H') ⟨_, rfl, eq3, .refl⟩ ?_ ?_ ?_⟩
      · rintro j σ H4 hj ⟨w7, rfl, eq4, k4⟩
        exact SqL.of (k4 _ _ e3 (by rw [List.mem_singleton]; exact ne_of e3 eq3 (by intro z; cases z)))
      · rintro j nv σ H4 hnv ⟨w7, rfl, eq4, k4⟩
        rw [List.getElem?_map] at hnv
        obtain ⟨n, hn, rfl⟩ := Option.map_eq_some_iff.mp hnv
        have hj : j < e.2.2 - g := by
          have := (List.getElem?_eq_some_iff.mp hn).1
          rwa [List.length_range'] at this
        rw [List.getElem?_range' hj] at hn
        have hn : n = g + j := by have := Option.some.inj hn; omega
        subst hn
        have hcl2 : (cts ++ List.replicate (g + j - gt) (T : Int)).length = g + j := by rw [List.length_append, List.length_replicate]; omega
        have hput := tbl_put (cts ++ List.replicate (g + j - gt) (T : Int)) (T : Int)
        rw [hcl2, List.append_assoc, ← List.replicate_succ', show g + j - gt + 1 = g + (j + 1) - gt by omega] at hput
        have hlt : (tbl (cts ++ List.replicate (g + j - gt) (T : Int))).length < sizeLine := by rw [tbl_len, hcl2, sizeLine_eq]; omega
        simp (maxSteps := 1000000) only [rSetX, setO_di', gSub, upd_same, HO.dK.injEq, List.cons.injEq, exists_and_left, if_true, tVar, tAsg, gName, List.getElem?_cons_zero, List.getElem?_cons_succ, List.set_cons_zero, List.set_cons_succ, Option.some.injEq, exists_eq_left', V.ref.injEq, and_true, true_and, eq4, hlt, hput]
        exact k4.trans (Keep.refl.upd (.inl (.head _)))
      · rintro σ H4 ⟨w7, rfl, eq4, k4⟩
        rw [List.length_map, List.length_range'] at eq4
        have k24 : Keep [y, pq] H2 H4 := fun b o eb hb => k4 _ _ (k3 _ _ eb (fun z => hb (by rw [List.mem_singleton] at z; rw [z]; exact .head _))) (fun z => hb (by rw [List.mem_singleton] at z; rw [z]; exact .tail _ (.head _)))
        have hl1y : l1 ∉ [y, pq] := fun z => by
          rcases List.mem_cons.mp z with z | z
          · rw [z, ey2] at e2; cases e2
          · rw [List.mem_singleton] at z
            rw [z, eq2] at e2; cases e2
        refine ⟨max g e.2.2, _, _, rfl, hnext.symm, k4 _ _ ey3 (by rw [List.mem_singleton]; exact hyq), ?_, k24 _ _ e2 hl1y, hz2.keep k24 (noT2 (.of_ins ey2) (.of_dK eq2)), k2.trans k24⟩
        rw [eq4]
        have : g + (e.2.2 - g) - gt = max g e.2.2 - gt := by omega
        rw [this]
    · rintro σ H2 ⟨g, v6, v7, rfl, hg, ey2, eq2, e2, hz2, k2⟩
      rw [hzl, List.take_length] at hg
      have hgA : g = gotA T lg0 gt := by rw [hg, hd0]; rfl
      have k23 : Keep [x, y, pq] H H2 := k2.mono fun b hb => .tail _ hb
      have ers2 := k23 _ _ ers (fun z => S3t _ z _ ers)
      have R12 := R1.keepX k23 S3t S3l
      have O2 : OutAt Co H2 x dx l rm tp (kp bs tp) := by
        obtain ⟨_, xs, el, hm⟩ := id L.out
        refine L.out.keep k2 (noT2 (.of_ins L.inn) (.of_dK eq)) (fun z => ?_) (fun z => S3l l (.tail _ z) _ el)
        rcases List.mem_cons.mp z with z | z
        · exact L.ne z
        · rw [List.mem_singleton] at z; exact hxq z
      simp (maxSteps := 1000000) only [tFor_eq, rGet, getO_t, atI_1, iList, exists_and_left, tOp, tVar, tC, tCall, tCons, tNil, List.getElem?_cons_zero, List.getElem?_cons_succ, Option.some.injEq, exists_eq_left', V.ref.injEq, List.append_nil, ers2]
      refine ⟨pr1, pa1, pl1, ps1, ds1, lg1.map ltr1, (T : Int), rfl, R12, by rw [List.length_map]; exact hll1, fun l3 ws H3 n3 e3 hw3 s3 => ?_⟩
      obtain ⟨d1, hd1⟩ : ∃ d1, d1 = lg1.filter fun e => decide (e.1 = (T : Int)) := ⟨_, rfl⟩
      have hws : ws = (d1.map (·.2)).map fun (n : Nat) => V.int (n : Int) := by
        apply ims_ints (H := H3)
        have e1 : ((lg1.map ltr1).filter fun p => decide (p.1 = (T : Int))).map (·.2) = (d1.map (·.2)).map mkd := by
          rw [List.filter_map, List.map_map, List.map_map, hd1]
          rfl
        rw [← e1]
        exact hw3
      subst hws
      have hl3 : l ≠ l3 := by
        obtain ⟨_, xs, el, hm⟩ := id O2
        exact ne_of_none el n3
      have L3 := O2.same s3
      have k33 : Keep [x, y, pq] H H3 := k23.same s3
      refine ⟨l3, rfl, ⟨_, SqL.of e3⟩, for_list (xs := (d1.map (·.2)).map fun (n : Nat) => V.int (n : Int)) (fun i σ H' => ∃ (b : Nat) (l' : Addr) (v8 : Option V), σ = [some (.int (T : Int)), some (.ref prs), some (.ref plk), some (.ref pq), some (.ref x), some (.ref y), v6, v7, v8] ∧ b = (d1.take i).foldl (fun b e => max b e.2) bs ∧ OutAt Co H' x dx l' rm tp (kp b tp) ∧ (l' = l ∨ H l' = none) ∧ l' ≠ l3 ∧ H' l3 = some (.lst ((d1.map (·.2)).map fun (n : Nat) => V.int (n : Int))) ∧ H' y = some (.ins Ci dy (nf g)) ∧ H' pq = some (.dK (tbl (cts ++ List.replicate (g - gt) (T : Int)))) ∧ Keep [x, y, pq] H H') ⟨bs, l, _, rfl, rfl, L3, .inl rfl, hl3, e3, s3 _ _ ey2, s3 _ _ eq2, k33⟩ ?_ ?_ ?_⟩
      · rintro i σ H4 hi ⟨b, l', v8, rfl, hb4, O4, hl4, hl43, e4, ey4, eq4, k4⟩
        exact SqL.of e4
      · rintro i nv σ H4 hnv ⟨b, l', v8, rfl, hb4, O4, hl4, hl43, e4, ey4, eq4, k4⟩
        rw [List.getElem?_map, List.getElem?_map] at hnv
        obtain ⟨n, hn, rfl⟩ := Option.map_eq_some_iff.mp hnv
        obtain ⟨e, he, rfl⟩ := Option.map_eq_some_iff.mp hn
        have ex4 := O4.ins
        have hem := h1 e (by have := List.mem_of_getElem? he; rw [hd1] at this; exact (List.mem_filter.mp this).1)
        have hbt : b ≤ tp := by
          rw [hb4]
          refine fold_le (fun e : Int × Nat => e.2) _ _ (by omega) fun e he => ?_
          have := List.mem_of_mem_take he
          rw [hd1] at this
          have := h1 e (List.mem_filter.mp this).1
          omega
        have hnext : (d1.take (i + 1)).foldl (fun b e => max b e.2) bs = max b e.2 := by
          rw [List.take_add_one, he, Option.toList_some, List.foldl_append, ← hb4]
          rfl
        simp (maxSteps := 1000000) only [HO.ins.injEq, ne_eq, tMeth, List.cons.injEq, exists_and_left, tVar, gName, tCons, tNil, tDrop, List.getElem?_cons_zero, List.getElem?_cons_succ, List.set_cons_zero, List.set_cons_succ, Option.some.injEq, exists_eq_left', exists_eq_left, V.ref.injEq, and_true, true_and, and_assoc, List.append_nil, ex4, lf_told]
        refine ⟨x, dx, l', rm, (tp : Int), kp b tp, (e.2 : Int), rfl, O4, by rw [kp_len]; omega, fun l5 H5 n5 O5 k5 => ?_⟩
        rw [kp_told hbt] at O5
        have nx : ∀ {c : Addr} {o : HO}, H4 c = some o → (∀ C d fs, o ≠ .ins C d fs) → c ∉ [x] := fun {c o} ec ho z => by
          rw [List.mem_singleton] at z
          rw [z, ex4] at ec
          cases ec
          exact ho _ _ _ rfl
        refine ⟨l5, by rw [hnext]; exact O5, .inr (k4.free n5 ?_), ?_, k5 _ _ e4 (nx e4 (fun _ _ _ z => by cases z)), k5 _ _ ey4 (by rw [List.mem_singleton]; exact Ne.symm L.ne), k5 _ _ eq4 (nx eq4 (fun _ _ _ z => by cases z)), k4.trans (k5.mono fun c hc => by rw [List.mem_singleton] at hc; rw [hc]; exact .head _)⟩
        · intro z
          simp only [List.mem_cons, List.not_mem_nil, or_false] at z
          rcases z with z | z | z
          · rw [z, ex4] at n5; cases n5
          · rw [z, ey4] at n5; cases n5
          · rw [z, eq4] at n5; cases n5
        · intro z
          rw [z, e4] at n5
          cases n5
      · rintro σ H4 ⟨b, l', v8, rfl, hb4, O4, hl4, hl43, e4, ey4, eq4, k4⟩
        rw [List.length_map, List.length_map, List.take_length] at hb4
        have hbA : b = basA T lg1 bs := by rw [hb4, hd1]; rfl
        simp (maxSteps := 1000000) only []
        rw [hgA] at ey4 eq4
        rw [hbA] at O4
        exact q l' H4 hl4 ⟨k4 _ _ elk (fun z => S3t _ z _ elk), O4, ey4, L.ne⟩ eq4 k4
end
end K22
namespace K22
open PySem L2 K04
abbrev s__law_late : Stmt := top 17
theorem sc__law_late : FnScope ["_law_out", "_law_put", "_law_came", "_law_turn_here", "_law_bound", "_law_kept", "_law_parcel"] ["_law_out", "_law_put", "_law_came", "_law_turn_here", "_law_bound"] (defScope s__law_late) := ⟨rfl, rfl, rfl, by decide +kernel, rfl, by decide +kernel, by decide +kernel⟩
theorem cs__law_late_0 : CScope ["_law_number", "_law_parcel"] [] { kind := .function, names := [(".0", .local), ("_law_number", .local), ("_law_parcel", .local)], isGenerator := false, isCoroutine := false, more := [] } (defScope s__law_late) := ⟨rfl, by decide +kernel, by decide +kernel, by decide +kernel, by decide +kernel, by decide +kernel⟩
theorem cs__law_late_1 : CScope ["_law_parcel"] ["_law_bound", "_law_came", "_law_put"] { kind := .function, names := [(".0", .local), ("_law_parcel", .local), ("_law_bound", .free), ("_law_came", .free), ("_law_put", .free)], isGenerator := false, isCoroutine := false, more := [] } (defScope s__law_late) := ⟨rfl, by decide +kernel, by decide +kernel, by decide +kernel, by decide +kernel, by decide +kernel⟩
section
variable {P : Program} {w : World} {K : PySem.W.Frag} {mg : Str → Option Value} {base : Heap} {Co Ci : Addr}
theorem inV_nats {n : Nat} : ∀ {l : List Nat}, inV (.int (n : Int)) (l.map fun (k : Nat) => V.int (k : Int)) = decide (n ∈ l)
  | [] => rfl
  | x :: r => by
    have ih := inV_nats (n := n) (l := r)
    unfold inV at ih ⊢
    rw [List.map_cons, List.any_cons, ih]
    by_cases e : n = x
    · subst e; simp [eqV]
    · have : ¬ (x : Int) = (n : Int) := by omega
      have h2 : ¬ (n : Int) = (x : Int) := by omega
      simp [eqV, e, this, h2]
theorem flat_nats : ∀ l : List Nat, (l.map fun (k : Nat) => V.int (k : Int)).all flatV = true
  | [] => rfl
  | _ :: r => by rw [List.map_cons, List.all_cons, flat_nats r]; rfl
theorem iteF' {b : Bool} {p q : Prop} (h : b = false) (hq : q) : if b = true then p else q := by rw [h]; exact hq
def sp_late (Co : Addr) : Sp := fun vs H Q _ => ∃ (x dx l pp pq : Addr) (rm : Int) (bs tp gt T : Nat) (pts cts : List Int) (bd : Int), vs = [.ref x, .ref pp, .ref pq, .int (T : Int), .int bd] ∧ OutAt Co H x dx l rm tp (kp bs tp) ∧ H pp = some (.dK (tbl pts)) ∧ H pq = some (.dK (tbl cts)) ∧ pts.length = tp ∧ cts.length = gt ∧ gt ≤ tp ∧ bs ≤ tp ∧ tp ≤ 200 ∧
  (∀ (n : Nat) (t : Int), gt ≤ n → pts[n]? = some t → (T : Int) ≤ t + bd) ∧ (∀ (n : Nat) (t : Int), bs ≤ n → pts[n]? = some t → (T : Int) ≤ t + 2 * bd) ∧ (∀ (n : Nat) (t c : Int), pts[n]? = some t → cts[n]? = some c → c ≤ t + bd) ∧ pp ≠ pq ∧ ∀ H', Same H H' → Q (.bl false) H'
set_option maxHeartbeats 4000000 in
theorem own_late (D : Def K mg "_law_late" s__law_late) (hb : Blt mg) (T_Out : ClsD K mg "Out" Co oAttrs) (M_Out_parcels : OwnM P w K mg base 7 Co "parcels" ["self"] (sp_parcels Co)) : Own P w K mg base 8 "_law_late" ["_law_out", "_law_put", "_law_came", "_law_turn_here", "_law_bound"] (sp_late Co) := by
  refine D.own sc__law_late (fun _ _ _ _ _ _ us hl => match us, hl with | [_, _, _, _, _], _ => rfl) (fun vs H Q E h => ?_) (fun f cdv A outer s H vs Q E hr h => ?_)
  · obtain ⟨x, dx, l, pp, pq, rm, bs, tp, gt, T, pts, cts, bd, rfl, _⟩ := h
    rfl
  · obtain ⟨x, dx, l, pp, pq, rm, bs, tp, gt, T, pts, cts, bd, rfl, O, ep, eq, hpl, hcl, hgt, hbt, htp, hA, hB, hC, hpq, q⟩ := h
    have hu := hr.units
    have hu1 : (A.deeper (PyProof.Rows.envOfC "_law_late" (defScope s__law_late) s.heap.objs.size f cdv)).units + 1 < cLine := by omega
    have ex := O.ins
    refine ⟨_, (@pss_cons _ _ _ _ _ (@ps_setC _ _ _ _ _ _ _ _ _ _ _ 5 _ _ _ ["_law_number", "_law_parcel"] [] [] rfl sc__law_late.nd rfl (by first | exact Or.inl rfl | exact Or.inr rfl) _ cs__law_late_0 (@pi_tupK _ K _ _ _ (@pe_mth0 _ _ _ _ _ _ _ _ _ _ _ _ M_Out_parcels T_Out.cl hr (@pv _ 0 _ _ (by rfl) (by first | exact Or.inl rfl | exact Or.inr (Or.inl rfl) | exact Or.inr (Or.inr rfl)) (by decide) (by decide)) (by decide) (by rfl)) (by rfl)) (fun _ _ _ _ => (@pg_seqX _ _ _ _ 2 _ rfl (@pgs_cons _ _ _ _ _ (@pg_name _ _ 0 _ cs__law_late_0.nd rfl (by first | exact Or.inl rfl | exact Or.inr rfl) (by first | exact .inl rfl | exact .inr rfl | assumption)) (@pgs_cons _ _ _ _ _ (@pg_name _ _ 1 _ cs__law_late_0.nd rfl (by first | exact Or.inl rfl | exact Or.inr rfl) (by first | exact .inl rfl | exact .inr rfl | assumption)) (@pgs_nil _) (by rfl)) (by rfl)) (by rfl) (by rfl))) (fun _ _ _ _ => (@pf_nil _)) (fun _ _ _ _ => (@pv _ 1 _ _ (by rfl) (by first | exact Or.inl rfl | exact Or.inr (Or.inl rfl) | exact Or.inr (Or.inr rfl)) (by decide) (by decide))) rfl (by rfl) (by rfl) (by rfl) (by first | exact .inl rfl | exact .inr rfl | assumption) (by intro _; rfl)) (@pss_cons _ _ _ _ _ (@ps_unf _ _ _ (@ps_for _ _ _ _ _ _ _ _ PassesOwn.never rfl (@pi_dkey _ _ _ _ (@pv _ 1 _ _ (by rfl) (by first | exact Or.inl rfl | exact Or.inr (Or.inl rfl) | exact Or.inr (Or.inr rfl)) (by decide) (by decide))) (@pg_name _ _ 6 _ sc__law_late.nd rfl (by first | exact Or.inl rfl | exact Or.inr rfl) (by first | exact .inl rfl | exact .inr rfl | assumption)) (@pss_cons _ _ _ _ _ (@ps_if _ _ _ _ _ _ _ _ (@PW.pt _ _ _ (@pw_and _ _ _ _ _ _ _ (@pt_cmpR _ _ _ _ _ _ _ _ (op_notinX hu1) (@pv _ 6 _ _ (by rfl) (by first | exact Or.inl rfl | exact Or.inr (Or.inl rfl) | exact Or.inr (Or.inr rfl)) (by decide) (by decide)) (@pv _ 2 _ _ (by rfl) (by first | exact Or.inl rfl | exact Or.inr (Or.inl rfl) | exact Or.inr (Or.inr rfl)) (by decide) (by decide)) rfl) (@pw_and1 _ _ _ _ (@pt_cmpR _ _ _ _ _ _ _ _ op_gt (@pv _ 3 _ _ (by rfl) (by first | exact Or.inl rfl | exact Or.inr (Or.inl rfl) | exact Or.inr (Or.inr rfl)) (by decide) (by decide)) (@pe_op _ _ _ _ _ _ _ _ op_add (@pe_dget _ _ _ _ _ _ hu1 (@pv _ 1 _ _ (by rfl) (by first | exact Or.inl rfl | exact Or.inr (Or.inl rfl) | exact Or.inr (Or.inr rfl)) (by decide) (by decide)) (@pv _ 6 _ _ (by rfl) (by first | exact Or.inl rfl | exact Or.inr (Or.inl rfl) | exact Or.inr (Or.inr rfl)) (by decide) (by decide)) (by intro _ _; rfl)) (@pv _ 4 _ _ (by rfl) (by first | exact Or.inl rfl | exact Or.inr (Or.inl rfl) | exact Or.inr (Or.inr rfl)) (by decide) (by decide))) (nomark _))))) (@pss_one _ _ _ (@ps_ret _ _ _ _ (@pe_bl _ _ _ _))) (@pss_nil _)) (@pss_one _ _ _ (@ps_if _ _ _ _ _ _ _ _ (@PW.pt _ _ _ (@pw_and _ _ _ _ _ _ _ (@pt_cmpR _ _ _ _ _ _ _ _ (op_inX hu1) (@pv _ 6 _ _ (by rfl) (by first | exact Or.inl rfl | exact Or.inr (Or.inl rfl) | exact Or.inr (Or.inr rfl)) (by decide) (by decide)) (@pv _ 5 _ _ (by rfl) (by first | exact Or.inl rfl | exact Or.inr (Or.inl rfl) | exact Or.inr (Or.inr rfl)) (by decide) (by decide)) rfl) (@pw_and1 _ _ _ _ (@pt_cmpR _ _ _ _ _ _ _ _ op_gt (@pv _ 3 _ _ (by rfl) (by first | exact Or.inl rfl | exact Or.inr (Or.inl rfl) | exact Or.inr (Or.inr rfl)) (by decide) (by decide)) (@pe_op _ _ _ _ _ _ _ _ op_add (@pe_dget _ _ _ _ _ _ hu1 (@pv _ 1 _ _ (by rfl) (by first | exact Or.inl rfl | exact Or.inr (Or.inl rfl) | exact Or.inr (Or.inr rfl)) (by decide) (by decide)) (@pv _ 6 _ _ (by rfl) (by first | exact Or.inl rfl | exact Or.inr (Or.inl rfl) | exact Or.inr (Or.inr rfl)) (by decide) (by decide)) (by intro _ _; rfl)) (@pe_op _ _ _ _ _ _ _ _ op_mul (@pe_int _ _ _ _) (@pv _ 4 _ _ (by rfl) (by first | exact Or.inl rfl | exact Or.inr (Or.inl rfl) | exact Or.inr (Or.inr rfl)) (by decide) (by decide)))) (nomark _))))) (@pss_one _ _ _ (@ps_ret _ _ _ _ (@pe_bl _ _ _ _))) (@pss_nil _)))) (by intro _; rfl))) (@pss_one _ _ _ (@ps_ret _ _ _ _ (@pe_cmpR _ _ _ _ _ _ _ _ (op_neNil hu) (@pe_unf _ _ _ (@pe_comp _ _ _ _ _ _ _ _ _ _ _ ["_law_parcel"] ["_law_bound", "_law_came", "_law_put"] [4, 2, 1] rfl _ cs__law_late_1 (@pi_dkey _ _ _ _ (@pv _ 2 _ _ (by rfl) (by first | exact Or.inl rfl | exact Or.inr (Or.inl rfl) | exact Or.inr (Or.inr rfl)) (by decide) (by decide))) (fun _ _ _ _ => (@pg_name _ _ 0 _ cs__law_late_1.nd rfl (by first | exact Or.inl rfl | exact Or.inr rfl) (by first | exact .inl rfl | exact .inr rfl | assumption))) (fun _ _ _ _ => (@pf_one _ _ _ (@pt_cmpR _ _ _ _ _ _ _ _ op_gt (@pe_dget _ _ _ _ _ _ hu1 (@pv _ 2 _ _ (by rfl) (by first | exact Or.inl rfl | exact Or.inr (Or.inl rfl) | exact Or.inr (Or.inr rfl)) (by decide) (by decide)) (@pv _ 0 _ _ (by rfl) (by first | exact Or.inl rfl | exact Or.inr (Or.inl rfl) | exact Or.inr (Or.inr rfl)) (by decide) (by decide)) (by intro _ _; rfl)) (@pe_op _ _ _ _ _ _ _ _ op_add (@pe_dget _ _ _ _ _ _ hu1 (@pv _ 3 _ _ (by rfl) (by first | exact Or.inl rfl | exact Or.inr (Or.inl rfl) | exact Or.inr (Or.inr rfl)) (by decide) (by decide)) (@pv _ 0 _ _ (by rfl) (by first | exact Or.inl rfl | exact Or.inr (Or.inl rfl) | exact Or.inr (Or.inr rfl)) (by decide) (by decide)) (by intro _ _; rfl)) (@pv _ 1 _ _ (by rfl) (by first | exact Or.inl rfl | exact Or.inr (Or.inl rfl) | exact Or.inr (Or.inr rfl)) (by decide) (by decide))) (nomark _)))) (fun _ _ _ _ => (@pv _ 0 _ _ (by rfl) (by first | exact Or.inl rfl | exact Or.inr (Or.inl rfl) | exact Or.inr (Or.inr rfl)) (by decide) (by decide))) (by rfl) (by rfl) (by rfl) (by intro _; rfl))) (@pe_lst _ _ _ _ (@pa_nil _)) (nomark _)))))), ?_⟩
    simp (maxSteps := 1000000) only [tComp_eq, Nat.reduceSub, HO.ins.injEq, Nat.reduceAdd, tMeth, tSeq, exists_and_left, tVar, tAsg, gName, tNil, L2.start, List.map_cons, List.map_nil, List.length_cons, List.length_nil, List.replicate, List.cons_append, List.nil_append, List.getElem?_cons_zero, List.set_cons_zero, List.set_cons_succ, Option.some.injEq, exists_eq_left', V.ref.injEq, true_and, and_assoc, List.append_nil, ex, lf_parcels, iTup]
    refine ⟨x, dx, l, rm, (tp : Int), kp bs tp, rfl, O, by rw [kp_len]; omega, kp_depth, fun v H1 s1 hv => ?_⟩
    obtain ⟨p, xs, rfl, et, hxs⟩ : ∃ p xs, v = .ref p ∧ H1 p = some (.tup xs) ∧ Ims H1 xs ((kp bs tp).map pd) := by
      cases hv with
      | tup e h => exact ⟨_, _, rfl, e, h⟩
    have hxl := hxs.len
    rw [List.length_map, kp_len] at hxl
    simp (maxSteps := 1000000) only [exists_eq_left', V.ref.injEq]
    refine ⟨⟨_, SqT.of et⟩, comp_tup (K := K) (xs := xs) (by rw [sizeLine_eq]; omega) (fun D i acc H' => acc = ((List.range' bs (tp - bs)).take i).map (fun (k : Nat) => V.int (k : Int)) ∧ H' D = some (.lst acc) ∧ Same H1 H') (fun D hD => ⟨rfl, upd_same, Same.upd_new hD⟩) ?_ ?_ ?_⟩
    · rintro D i acc H2 hD hi ⟨rfl, eD, s2⟩
      refine ⟨eD, SqT.of (s2 _ _ et), ?_⟩
      rw [List.length_map, List.length_take]
      omega
    · rintro D i xv acc H2 hD hx ⟨rfl, eD, s2⟩
      obtain ⟨d, hud, hp⟩ := hxs.get hx
      rw [List.getElem?_map] at hud
      obtain ⟨pr, hpr, rfl⟩ := Option.map_eq_some_iff.mp hud
      obtain ⟨tt, z, rfl, ett, hz⟩ := Ims.pair hp
      unfold kp at hpr
      rw [List.getElem?_map] at hpr
      obtain ⟨n, hn, rfl⟩ := Option.map_eq_some_iff.mp hpr
      have ett2 := s2 _ _ ett
      have hzn : z = .int (n : Int) := by cases hz; rfl
      subst hzn
      simp (maxSteps := 1000000) only [gSeqX, seqO_t, gCons, gNil, upd_same, Nat.reduceAdd, tYes, cSt, List.drop_succ_cons, List.drop_zero, List.cons.injEq, exists_and_left, if_true, tVar, gName, List.map_nil, List.length_cons, List.length_nil, List.replicate, List.getElem?_cons_zero, List.getElem?_cons_succ, List.set_cons_zero, List.set_cons_succ, Option.some.injEq, exists_eq_left', V.ref.injEq, true_and, and_assoc, List.append_nil, List.map_nil, ett2]
      refine ⟨eD, ?_, s2.upd hD⟩
      rw [List.take_add_one, hn, List.map_append]
      rfl
    · rintro D acc H2 hD ⟨rfl, eD, s2⟩
      rw [List.take_of_length_le (by rw [List.length_range']; omega)] at eD
      have s02 := s1.trans s2
      have ep2 := s02 _ _ ep
      have eq2 := s02 _ _ eq
      simp (maxSteps := 1000000) only [tFor_eq, HO.dK.injEq, exists_and_left, tOp, tVar, tRet, tNil, tLst, List.length_nil, List.getElem?_cons_zero, List.getElem?_cons_succ, Option.some.injEq, exists_eq_left', V.ref.injEq, tUnf, iDKey, ep2]
      intro o
      have hkeys : ((tbl pts).map fun q => kV q.1) = (List.range' 0 pts.length).map fun (i : Nat) => V.int (i : Int) := tbl_keys pts 0
      rw [hkeys]
      have nDp : D ≠ pp := ne_of eD ep2 (by intro z; cases z)
      have efp : upd H2 pp (.frz o (.dK (tbl pts))) pp = some (.frz o (.dK (tbl pts))) := upd_same
      have efq : upd H2 pp (.frz o (.dK (tbl pts))) pq = some (.dK (tbl cts)) := by rw [upd_ne (Ne.symm hpq)]; exact eq2
      have efD : upd H2 pp (.frz o (.dK (tbl pts))) D = some (.lst ((List.range' bs (tp - bs)).map fun (k : Nat) => V.int (k : Int))) := by rw [upd_ne nDp]; exact eD
      have hback : upd (upd H2 pp (.frz o (.dK (tbl pts)))) pp (.dK (tbl pts)) = H2 := by
        rw [upd_upd]
        funext b
        by_cases e : b = pp
        · rw [e, upd_same]; exact ep2.symm
        · rw [upd_ne e]
      have hunf : Unf H2 (upd H2 pp (.frz o (.dK (tbl pts)))) H2 := by
        have := Unf.of (H := H2) efp ep2
        rwa [hback] at this
      generalize hHf : upd H2 pp (.frz o (.dK (tbl pts))) = Hf at efp efq efD hunf ⊢
      refine for_itf (fun i σ H' => H' = Hf ∧ ∃ v6 : Option V, σ = [some (V.ref x), some (V.ref pp), some (V.ref pq), some (V.int (T : Int)), some (V.int bd), some (V.ref D), v6]) ⟨rfl, _, rfl⟩ ?_ ?_ ?_
      · rintro i σ H' ⟨rfl, v6, rfl⟩
        exact efp
      · rintro i nv σ H' hnv ⟨rfl, v6, rfl⟩
        rw [List.getElem?_map] at hnv
        obtain ⟨n, hn, rfl⟩ := Option.map_eq_some_iff.mp hnv
        have hi : i < pts.length := by
          have := (List.getElem?_eq_some_iff.mp hn).1
          rwa [List.length_range'] at this
        rw [List.getElem?_range' hi] at hn
        have hn : n = i := by have := Option.some.inj hn; omega
        subst hn
        obtain ⟨t, ht⟩ : ∃ t, pts[n]? = some t := ⟨_, List.getElem?_eq_getElem hi⟩
        have hget : DGet H' pp (.int (n : Int)) (some (.int t)) := .inl ⟨tbl pts, Sum.inl (n : Int), .inr ⟨o, efp⟩, rfl, by rw [tbl_get, ht]; rfl⟩
        have hinc : (valV (tbl cts) (Sum.inl (n : Int))).isSome = decide (n < gt) := by
          rw [tbl_get, Option.isSome_map]
          by_cases e : n < gt
          · rw [List.getElem?_eq_getElem (by omega), decide_eq_true e]; rfl
          · rw [List.getElem?_eq_none (by omega), decide_eq_false e]; rfl
        have hink : (if flatV (.int (n : Int)) = true ∧ ((List.range' bs (tp - bs)).map fun (k : Nat) => V.int (k : Int)).all flatV = true then some (inV (.int (n : Int)) ((List.range' bs (tp - bs)).map fun (k : Nat) => V.int (k : Int))) else none) = some (decide (n ∈ List.range' bs (tp - bs))) := by
          rw [if_pos ⟨rfl, flat_nats _⟩, inV_nats]
        simp (maxSteps := 1000000) only [rInX, rNotInX, inO_l', inO_di, tDGet, exists_eq', List.cons.injEq, tSeq, exists_and_left, if_false, Bool.false_eq_true, tIfS, tAnd, tTest, tOp, tVar, tC, rI, rI0, tRet, gName, tNext, List.getElem?_cons_zero, List.getElem?_cons_succ, List.set_cons_zero, List.set_cons_succ, Option.some.injEq, exists_eq_left', V.int.injEq, V.bl.injEq, V.ref.injEq, and_true, true_and, tDGet, efq, efD, hinc, hink]
        have step2 : ∀ W : Prop, if decide (n ∈ List.range' bs (tp - bs)) = true then ∃ x, DGet H' pp (.int (n : Int)) (some x) ∧ CMul 2 bd ∧ ∃ i, x = V.int i ∧ if decide (i + 2 * bd < (T : Int)) = true then W else True else True := fun W => by
          refine ite2 (fun h => ?_) (fun _ => trivial)
          have hm : n ∈ List.range' bs (tp - bs) := of_decide_eq_true h
          rw [List.mem_range'_1] at hm
          exact ⟨_, hget, .inl ⟨by decide, by decide⟩, t, rfl, iteF' (decide_eq_false (by have := hB n t hm.1 ht; omega)) trivial⟩
        refine ite2 (fun h => ?_) (fun _ => step2 _)
        have hge : gt ≤ n := by simpa using h
        exact ⟨_, hget, t, rfl, iteF' (decide_eq_false (by have := hA n t hge ht; omega)) (step2 _)⟩
      · rintro σ H' ⟨rfl, v6, rfl⟩
        refine ⟨H2, hunf, ?_⟩
        simp (maxSteps := 1000000) only [tComp_eq, HO.dK.injEq, exists_and_left, tVar, List.getElem?_cons_zero, List.getElem?_cons_succ, Option.some.injEq, exists_eq_left', V.ref.injEq, eUnf, iDKey, eq2]
        intro o2
        have hkeys2 : ((tbl cts).map fun q => kV q.1) = (List.range' 0 cts.length).map fun (i : Nat) => V.int (i : Int) := tbl_keys cts 0
        rw [hkeys2]
        have ecp : upd H2 pq (.frz o2 (.dK (tbl cts))) pp = some (.dK (tbl pts)) := by rw [upd_ne hpq]; exact ep2
        have ecq : upd H2 pq (.frz o2 (.dK (tbl cts))) pq = some (.frz o2 (.dK (tbl cts))) := upd_same
        generalize hHc : upd H2 pq (.frz o2 (.dK (tbl cts))) = Hc at ecp ecq ⊢
        refine comp_itf (by rw [List.length_map, List.length_range']; omega) (fun D2 i acc H' => acc = [] ∧ H' = upd Hc D2 (.lst [])) (fun D2 hD2 => ⟨rfl, rfl⟩) ?_ ?_ ?_
        · rintro D2 i acc H' hD2 hi ⟨rfl, rfl⟩
          exact ⟨upd_same, Nat.zero_le _, by rw [upd_ne (ne_of_none ecq hD2)]; exact ecq⟩
        · rintro D2 i nv acc H' hD2 hnv ⟨rfl, rfl⟩
          rw [List.getElem?_map] at hnv
          obtain ⟨n, hn, rfl⟩ := Option.map_eq_some_iff.mp hnv
          have hi : i < cts.length := by
            have := (List.getElem?_eq_some_iff.mp hn).1
            rwa [List.length_range'] at this
          rw [List.getElem?_range' hi] at hn
          have hn : n = i := by have := Option.some.inj hn; omega
          subst hn
          obtain ⟨c, hc⟩ : ∃ c, cts[n]? = some c := ⟨_, List.getElem?_eq_getElem hi⟩
          obtain ⟨t, ht⟩ : ∃ t, pts[n]? = some t := ⟨_, List.getElem?_eq_getElem (by omega)⟩
          have hgc : DGet (upd Hc D2 (.lst [])) pq (.int (n : Int)) (some (.int c)) := .inl ⟨tbl cts, Sum.inl (n : Int), .inr ⟨o2, by rw [upd_ne (ne_of_none ecq hD2)]; exact ecq⟩, rfl, by rw [tbl_get, hc]; rfl⟩
          have hgp : DGet (upd Hc D2 (.lst [])) pp (.int (n : Int)) (some (.int t)) := .inl ⟨tbl pts, Sum.inl (n : Int), .inl (by rw [upd_ne (ne_of_none ecp hD2)]; exact ecp), rfl, by rw [tbl_get, ht]; rfl⟩
          simp (maxSteps := 1000000) only [upd_same, upd_upd, tDGet, cSt, List.drop_succ_cons, List.drop_zero, exists_and_left, tTest, tOp, tVar, rI0, gName, List.map_cons, List.map_nil, List.replicate, List.cons_append, List.nil_append, List.getElem?_cons_zero, List.getElem?_cons_succ, List.set_cons_zero, Option.some.injEq, exists_eq_left', V.int.injEq, V.bl.injEq, V.ref.injEq, and_true, true_and, reduceCtorEq, false_and, tDGet, List.map_cons, List.map_nil, Option.join_some]
          exact ⟨_, hgc, _, hgp, t, rfl, c, rfl, iteF' (decide_eq_false (by have := hC n t c ht hc; omega)) trivial⟩
        · rintro D2 acc H' hD2 ⟨rfl, rfl⟩
          have e1 : upd Hc D2 (.lst []) pq = some (.frz o2 (.dK (tbl cts))) := by rw [upd_ne (ne_of_none ecq hD2)]; exact ecq
          refine ⟨_, Unf.of e1 eq2, Nat.zero_le _, ?_⟩
          have nD2 : D2 ≠ pq := fun z => by rw [z, ecq] at hD2; cases hD2
          have hD22 : H2 D2 = none := by rw [← hHc] at hD2; exact (upd_none hD2).2
          have sU : Same H2 (upd (upd Hc D2 (.lst [])) pq (.dK (tbl cts))) := fun b ob eb => by
            by_cases e : b = pq
            · rw [e, upd_same]
              rw [e, eq2] at eb
              exact eb
            · rw [upd_ne e, upd_ne (ne_of_none eb hD22), ← hHc, upd_ne e]
              exact eb
          have eU : upd (upd Hc D2 (.lst [])) pq (.dK (tbl cts)) D2 = some (.lst []) := by rw [upd_ne nD2, upd_same]
          generalize upd (upd Hc D2 (.lst [])) pq (.dK (tbl cts)) = HU at sU eU ⊢
          intro p9 n9
          generalize z9 : upd HU p9 _ = H9
          obtain ⟨s9, e9⟩ := new_same z9 n9
          exact ⟨D2, p9, _, rfl, rfl, s9 _ _ eU, e9, q _ (s02.trans (sU.trans s9))⟩
end
end K22
namespace K22
open PySem L2 K04
/-! ### the history of a link: what was told in each turn: base, top, got -/
abbrev Hi := Nat × Nat × Nat
structure Bd (ds0 ds1 : List (List Int)) (bd : Int) : Prop where
  hit0 : ∀ s : Nat, ∃ (j : Nat) (y : Int), y ∈ dl ds0 (s + j) ∧ 1 ≤ y ∧ (j : Int) + y ≤ bd
  hit1 : ∀ s : Nat, ∃ (j : Nat) (y : Int), y ∈ dl ds1 (s + j) ∧ 1 ≤ y ∧ (j : Int) + y ≤ bd
  one0 : ∀ t, ∀ y ∈ dl ds0 t, 1 ≤ y
  one1 : ∀ t, ∀ y ∈ dl ds1 t, 1 ≤ y
  le0 : ∀ t, (dl ds0 t).length ≤ 3
  le1 : ∀ t, (dl ds1 t).length ≤ 3
  pos : 1 ≤ bd
structure Hs (ds0 ds1 : List (List Int)) (bd : Int) (T : Nat) (U : Int) (bs tp gt : Nat) (pts cts : List Int) (lg0 : List (Int × Nat × Nat)) (lg1 : List (Int × Nat)) (hs : List Hi) : Prop where
  hl : hs.length = T
  o1 : bs ≤ gt
  o2 : gt ≤ tp
  pl : pts.length = tp
  cl : cts.length = gt
  top : ∀ (t : Nat) (h : Hi), hs[t]? = some h → h.2.1 ≤ tp ∧ h.2.2 ≤ gt
  mono : ∀ (t t' : Nat) (h h' : Hi), t ≤ t' → hs[t]? = some h → hs[t']? = some h' → h.2.1 ≤ h'.2.1 ∧ h.2.2 ≤ h'.2.2
  dv0 : ∀ (t : Nat) (h : Hi) (y : Int), hs[t]? = some h → y ∈ dl ds0 t → (t : Int) + y < U → h.2.1 ≤ gt
  dv1 : ∀ (t : Nat) (h : Hi) (y : Int), hs[t]? = some h → y ∈ dl ds1 t → (t : Int) + y < U → h.2.2 ≤ bs
  pt : ∀ (n : Nat) (p : Int), pts[n]? = some p → 0 ≤ p ∧ p < U ∧ (p = T ∨ ∃ h : Hi, hs[p.toNat]? = some h ∧ n < h.2.1)
  ct : ∀ (n : Nat) (c : Int), cts[n]? = some c → 0 ≤ c ∧ c < U ∧ (∀ p, pts[n]? = some p → c ≤ p + bd) ∧ ∀ (t : Nat) (h : Hi), c ≤ t → hs[t]? = some h → n < h.2.2
  m0 : ∀ (t : Nat) (h : Hi), hs[t]? = some h → ∀ y ∈ dl ds0 t, ((t : Int) + y, h.1, h.2.1) ∈ lg0
  m1 : ∀ (t : Nat) (h : Hi), hs[t]? = some h → ∀ y ∈ dl ds1 t, ((t : Int) + y, h.2.2) ∈ lg1
  b0 : ∀ e ∈ lg0, e.2.1 ≤ gt ∧ e.2.1 ≤ e.2.2 ∧ e.2.2 ≤ tp
  b1 : ∀ e ∈ lg1, e.2 ≤ gt
  n0 : lg0.length ≤ 3 * T
  n1 : lg1.length ≤ 3 * T
section
variable {ds0 ds1 : List (List Int)} {bd : Int} {T bs tp gt : Nat} {U : Int} {pts cts : List Int} {lg0 : List (Int × Nat × Nat)} {lg1 : List (Int × Nat)} {hs : List Hi}
theorem Hs.at (X : Hs ds0 ds1 bd T U bs tp gt pts cts lg0 lg1 hs) {t : Nat} (h : t < T) : ∃ e, hs[t]? = some e := ⟨_, List.getElem?_eq_getElem (by rw [X.hl]; exact h)⟩
theorem Hs.nil : Hs ds0 ds1 bd 0 0 0 0 0 [] [] [] [] [] :=
  ⟨rfl, Nat.le_refl _, Nat.le_refl _, rfl, rfl, (fun t h e => by simp at e), (fun t t' h h' _ e => by simp at e), (fun t h y e => by simp at e), (fun t h y e => by simp at e), (fun n p e => by simp at e), (fun n c e => by simp at e), (fun t h e => by simp at e), (fun t h e => by simp at e), (fun e he => nomatch he), (fun e he => nomatch he), Nat.le_refl _, Nat.le_refl _⟩
/-- what was put so long ago has come -/
theorem Hs.arrive (B : Bd ds0 ds1 bd) (X : Hs ds0 ds1 bd T U bs tp gt pts cts lg0 lg1 hs) (hU : U ≤ T + 1) {n : Nat} {p : Int} (hp : pts[n]? = some p) (h : p + bd < U) : n < gt := by
  obtain ⟨p0, p1, p2⟩ := X.pt n p hp
  have hb := B.pos
  rcases p2 with e | ⟨hh, e1, e2⟩
  · omega
  · obtain ⟨j, y, hy, hy1, hjy⟩ := B.hit0 p.toNat
    obtain ⟨h2, e3⟩ := X.at (t := p.toNat + j) (by omega)
    have h3 := X.dv0 _ _ _ e3 hy (by omega)
    have h4 := (X.mono _ _ _ _ (Nat.le_add_right _ _) e1 e3).1
    omega
/-- and is kept no longer -/
theorem Hs.gone (B : Bd ds0 ds1 bd) (X : Hs ds0 ds1 bd T U bs tp gt pts cts lg0 lg1 hs) (hU : U ≤ T + 1) {n : Nat} {p : Int} (hp : pts[n]? = some p) (h : p + 2 * bd < U) : n < bs := by
  have hb := B.pos
  have hg := X.arrive B hU hp (by omega)
  obtain ⟨c, hc⟩ : ∃ c, cts[n]? = some c := ⟨_, List.getElem?_eq_getElem (by rw [X.cl]; exact hg)⟩
  obtain ⟨c0, c1, c2, c3⟩ := X.ct n c hc
  have := c2 p hp
  obtain ⟨j, y, hy, hy1, hjy⟩ := B.hit1 c.toNat
  obtain ⟨h2, e3⟩ := X.at (t := c.toNat + j) (by omega)
  have h3 := X.dv1 _ _ _ e3 hy (by omega)
  have h4 := c3 (c.toNat + j) h2 (by omega) e3
  omega
theorem Hs.lates (B : Bd ds0 ds1 bd) (X : Hs ds0 ds1 bd T ((T : Int) + 1) bs tp gt pts cts lg0 lg1 hs) :
    (∀ (n : Nat) (t : Int), gt ≤ n → pts[n]? = some t → (T : Int) ≤ t + bd) ∧ (∀ (n : Nat) (t : Int), bs ≤ n → pts[n]? = some t → (T : Int) ≤ t + 2 * bd) ∧ ∀ (n : Nat) (t c : Int), pts[n]? = some t → cts[n]? = some c → c ≤ t + bd := by
  refine ⟨fun n t hn ht => ?_, fun n t hn ht => ?_, fun n t c ht hc => (X.ct n c hc).2.2.1 t ht⟩
  · rcases Int.lt_or_le (t + bd) T with h | h
    · have := X.arrive B (Int.le_refl _) ht (by omega)
      omega
    · exact h
  · rcases Int.lt_or_le (t + 2 * bd) T with h | h
    · have := X.gone B (Int.le_refl _) ht (by omega)
      omega
    · exact h
/-- what comes in a turn -/
theorem Hs.come (B : Bd ds0 ds1 bd) (X : Hs ds0 ds1 bd T T bs tp gt pts cts lg0 lg1 hs) : Hs ds0 ds1 bd T ((T : Int) + 1) (basA T lg1 bs) tp (gotA T lg0 gt) pts (cts ++ List.replicate (gotA T lg0 gt - gt) (T : Int)) lg0 lg1 hs := by
  have g1 : gt ≤ gotA T lg0 gt := fold_ge (fun e : Int × Nat × Nat => e.2.2) _ _
  have g2 : gotA T lg0 gt ≤ tp := fold_le (fun e : Int × Nat × Nat => e.2.2) _ _ X.o2 fun e he => (X.b0 e (List.mem_filter.mp he).1).2.2
  have b1 : bs ≤ basA T lg1 bs := fold_ge (fun e : Int × Nat => e.2) _ _
  have b2 : basA T lg1 bs ≤ gt := fold_le (fun e : Int × Nat => e.2) _ _ X.o1 fun e he => X.b1 e (List.mem_filter.mp he).1
  have has0 : ∀ e ∈ lg0, e.1 = (T : Int) → e.2.2 ≤ gotA T lg0 gt := fun e he h => fold_has (fun e : Int × Nat × Nat => e.2.2) (List.mem_filter.mpr ⟨he, by simpa using h⟩)
  have has1 : ∀ e ∈ lg1, e.1 = (T : Int) → e.2 ≤ basA T lg1 bs := fun e he h => fold_has (fun e : Int × Nat => e.2) (List.mem_filter.mpr ⟨he, by simpa using h⟩)
  generalize gotA T lg0 gt = g at *
  generalize basA T lg1 bs = b at *
  refine ⟨X.hl, by omega, g2, X.pl, by rw [List.length_append, List.length_replicate, X.cl]; omega, fun t h e => ?_, X.mono, fun t h y e hy hlt => ?_, fun t h y e hy hlt => ?_, fun n p hp => ?_, fun n c hc => ?_, X.m0, X.m1, fun e he => ?_, fun e he => ?_, X.n0, X.n1⟩
  · have := X.top t h e
    exact ⟨this.1, by omega⟩
  · by_cases e2 : (t : Int) + y = T
    · exact has0 _ (X.m0 t h e y hy) e2
    · have := X.dv0 t h y e hy (by omega)
      omega
  · by_cases e2 : (t : Int) + y = T
    · exact has1 _ (X.m1 t h e y hy) e2
    · have := X.dv1 t h y e hy (by omega)
      omega
  · obtain ⟨p0, p1, p2⟩ := X.pt n p hp
    exact ⟨p0, by omega, p2⟩
  · by_cases hn : n < gt
    · rw [List.getElem?_append_left (by rw [X.cl]; exact hn)] at hc
      obtain ⟨c0, c1, c2, c3⟩ := X.ct n c hc
      exact ⟨c0, by omega, c2, c3⟩
    · rw [List.getElem?_append_right (by rw [X.cl]; omega)] at hc
      have hc := List.eq_of_mem_replicate (List.mem_of_getElem? hc)
      subst hc
      refine ⟨by omega, by omega, fun p hp => ?_, fun t h ht e => ?_⟩
      · rcases Int.lt_or_le (p + bd) T with h | h
        · exact absurd (X.arrive B (by omega) hp h) hn
        · exact h
      · have := (List.getElem?_eq_some_iff.mp e).1
        rw [X.hl] at this
        omega
  · have := X.b0 e he
    exact ⟨by omega, this.2.1, this.2.2⟩
  · have := X.b1 e he
    omega
/-- one more is put -/
theorem Hs.put (X : Hs ds0 ds1 bd T ((T : Int) + 1) bs tp gt pts cts lg0 lg1 hs) : Hs ds0 ds1 bd T ((T : Int) + 1) bs (tp + 1) gt (pts ++ [(T : Int)]) cts lg0 lg1 hs := by
  refine ⟨X.hl, X.o1, by have := X.o2; omega, by rw [List.length_append, X.pl]; rfl, X.cl, fun t h e => ?_, X.mono, X.dv0, X.dv1, fun n p hp => ?_, fun n c hc => ?_, X.m0, X.m1, fun e he => ?_, X.b1, X.n0, X.n1⟩
  · have := X.top t h e
    exact ⟨by omega, this.2⟩
  · by_cases hn : n < tp
    · rw [List.getElem?_append_left (by rw [X.pl]; exact hn)] at hp
      exact X.pt n p hp
    · rw [List.getElem?_append_right (by rw [X.pl]; omega)] at hp
      have hp := List.mem_of_getElem? hp
      rw [List.mem_singleton] at hp
      subst hp
      exact ⟨by omega, by omega, .inl rfl⟩
  · obtain ⟨c0, c1, c2, c3⟩ := X.ct n c hc
    refine ⟨c0, c1, fun p hp => ?_, c3⟩
    have hn : n < cts.length := (List.getElem?_eq_some_iff.mp hc).1
    have h1 := X.cl
    have h2 := X.o2
    rw [List.getElem?_append_left (by rw [X.pl]; omega)] at hp
    exact c2 p hp
  · have := X.b0 e he
    exact ⟨this.1, this.2.1, by omega⟩
/-- the letters of a turn are sent -/
theorem Hs.send (B : Bd ds0 ds1 bd) (X : Hs ds0 ds1 bd T ((T : Int) + 1) bs tp gt pts cts lg0 lg1 hs) :
    Hs ds0 ds1 bd (T + 1) ((T + 1 : Nat) : Int) bs tp gt pts cts (lg0 ++ (dl ds0 T).map fun y => ((T : Int) + y, bs, tp)) (lg1 ++ (dl ds1 T).map fun y => ((T : Int) + y, gt)) (hs ++ [(bs, tp, gt)]) := by
  have new : ∀ {t : Nat} {h : Hi}, (hs ++ [(bs, tp, gt)])[t]? = some h → (t < T ∧ hs[t]? = some h) ∨ (t = T ∧ h = (bs, tp, gt)) := fun {t h} e => by
    by_cases ht : t < T
    · rw [List.getElem?_append_left (by rw [X.hl]; exact ht)] at e
      exact .inl ⟨ht, e⟩
    · rw [List.getElem?_append_right (by rw [X.hl]; omega)] at e
      have hm := List.mem_of_getElem? e
      rw [List.mem_singleton] at hm
      have := (List.getElem?_eq_some_iff.mp e).1
      rw [List.length_singleton, X.hl] at this
      exact .inr ⟨by omega, hm⟩
  refine ⟨by rw [List.length_append, X.hl]; rfl, X.o1, X.o2, X.pl, X.cl, fun t h e => ?_, fun t t' h h' hle e e' => ?_, fun t h y e hy hlt => ?_, fun t h y e hy hlt => ?_, fun n p hp => ?_, fun n c hc => ?_, fun t h e y hy => ?_, fun t h e y hy => ?_, fun e he => ?_, fun e he => ?_, ?_, ?_⟩
  · rcases new e with ⟨_, e⟩ | ⟨_, rfl⟩
    · exact X.top t h e
    · exact ⟨Nat.le_refl _, Nat.le_refl _⟩
  · rcases new e with ⟨ht, e⟩ | ⟨ht, rfl⟩ <;> rcases new e' with ⟨ht', e'⟩ | ⟨ht', rfl⟩
    · exact X.mono t t' h h' hle e e'
    · exact X.top t h e
    · omega
    · exact ⟨Nat.le_refl _, Nat.le_refl _⟩
  · rcases new e with ⟨ht, e⟩ | ⟨ht, rfl⟩
    · exact X.dv0 t h y e hy (by omega)
    · have := B.one0 t y hy
      omega
  · rcases new e with ⟨ht, e⟩ | ⟨ht, rfl⟩
    · exact X.dv1 t h y e hy (by omega)
    · have := B.one1 t y hy
      omega
  · obtain ⟨p0, p1, p2⟩ := X.pt n p hp
    refine ⟨p0, by omega, .inr ?_⟩
    rcases p2 with e | ⟨h, e, hn⟩
    · have hnl : n < pts.length := (List.getElem?_eq_some_iff.mp hp).1
      refine ⟨(bs, tp, gt), ?_, by rw [X.pl] at hnl; exact hnl⟩
      rw [e, Int.toNat_natCast, List.getElem?_append_right (by rw [X.hl]; omega), X.hl, Nat.sub_self]
      rfl
    · exact ⟨h, by rw [List.getElem?_append_left ((List.getElem?_eq_some_iff.mp e).1)]; exact e, hn⟩
  · obtain ⟨c0, c1, c2, c3⟩ := X.ct n c hc
    refine ⟨c0, by omega, c2, fun t h ht e => ?_⟩
    rcases new e with ⟨_, e⟩ | ⟨_, rfl⟩
    · exact c3 t h ht e
    · have hn : n < cts.length := (List.getElem?_eq_some_iff.mp hc).1
      rw [X.cl] at hn
      exact hn
  · rcases new e with ⟨_, e⟩ | ⟨ht, rfl⟩
    · exact List.mem_append_left _ (X.m0 t h e y hy)
    · subst ht
      exact List.mem_append_right _ (List.mem_map.mpr ⟨y, hy, rfl⟩)
  · rcases new e with ⟨_, e⟩ | ⟨ht, rfl⟩
    · exact List.mem_append_left _ (X.m1 t h e y hy)
    · subst ht
      exact List.mem_append_right _ (List.mem_map.mpr ⟨y, hy, rfl⟩)
  · rcases List.mem_append.mp he with he | he
    · exact X.b0 e he
    · obtain ⟨y, _, rfl⟩ := List.mem_map.mp he
      have h1 := X.o1
      have h2 := X.o2
      exact ⟨h1, by dsimp only; omega, Nat.le_refl _⟩
  · rcases List.mem_append.mp he with he | he
    · exact X.b1 e he
    · obtain ⟨y, _, rfl⟩ := List.mem_map.mp he
      exact Nat.le_refl _
  · rw [List.length_append, List.length_map]
    have := X.n0
    have := B.le0 T
    omega
  · rw [List.length_append, List.length_map]
    have := X.n1
    have := B.le1 T
    omega
end
end K22
namespace K22
open PySem L2 K04
section
variable {Co Ci : Addr}
abbrev radr (pa pl : Addr) (ps : List Addr) : List Addr := pa :: pl :: ps
theorem Rdx.lists {H : Hp} {pr pa pl : Addr} {ps : List Addr} {ds : List (List Int)} {log : List (Int × PyData)} (h : Rdx H pr pa pl ps ds log) : ∀ b ∈ radr pa pl ps, ∃ xs, H b = some (.lst xs) := fun b hb => by
  simp only [List.mem_cons] at hb
  rcases hb with rfl | rfl | hb
  · exact ⟨_, h.dls.ea⟩
  · obtain ⟨xs, e, _⟩ := h.el
    exact ⟨xs, e⟩
  · obtain ⟨i, hi⟩ := List.mem_iff_getElem?.mp hb
    obtain ⟨d, _, eb⟩ := paired_get h.dls.ed hi
    exact ⟨_, eb⟩
theorem Rdx.keepR {S : List Addr} {H H' : Hp} {pr pa pl : Addr} {ps : List Addr} {ds : List (List Int)} {log : List (Int × PyData)} (h : Rdx H pr pa pl ps ds log) (k : Keep S H H') (hs : ∀ b ∈ S, NoT H b) (hn : ∀ b ∈ radr pa pl ps, b ∉ S) : Rdx H' pr pa pl ps ds log :=
  h.keep k hs (hn _ (.head _)) (hn _ (.tail _ (.head _))) fun b hb => hn b (.tail _ (.tail _ hb))
structure Gw where
  x : Addr
  dx : Addr
  y : Addr
  dy : Addr
  plk : Addr
  prs : Addr
  pr0 : Addr
  pa0 : Addr
  pl0 : Addr
  pr1 : Addr
  pa1 : Addr
  pl1 : Addr
  pp : Addr
  pq : Addr
  ps0 : List Addr
  ps1 : List Addr
  ds0 : List (List Int)
  ds1 : List (List Int)
  rm : Int
  bd : Int
abbrev Gw.a0 (g : Gw) : List Addr := radr g.pa0 g.pl0 g.ps0
abbrev Gw.a1 (g : Gw) : List Addr := radr g.pa1 g.pl1 g.ps1
structure Wo (Co Ci : Addr) (g : Gw) (pdr l : Addr) (bs tp gt : Nat) (pts cts : List Int) (lg0 : List (Int × Nat × Nat)) (lg1 : List (Int × Nat)) (H : Hp) : Prop where
  lk : Lk Co Ci H g.plk g.x g.dx l g.y g.dy g.rm bs tp gt
  ers : H g.prs = some (.tup [.ref g.pr0, .ref g.pr1])
  r0 : Rdx H g.pr0 g.pa0 g.pl0 g.ps0 g.ds0 (lg0.map ltr0)
  r1 : Rdx H g.pr1 g.pa1 g.pl1 g.ps1 g.ds1 (lg1.map ltr1)
  ep : H g.pp = some (.dK (tbl pts))
  eq : H g.pq = some (.dK (tbl cts))
  npq : g.pp ≠ g.pq
  sl : ∀ b ∈ g.a0 ++ g.a1, b ≠ l
  sd : ∀ b ∈ g.a0 ++ g.a1, b ≠ pdr
  ld : l ≠ pdr
  s0 : ∀ b ∈ g.a1, b ≠ g.pl0
  s1 : ∀ b ∈ g.a0, b ≠ g.pl1
  dr : ∃ c0 c1 : Int, H pdr = some (.lst [.int c0, .int c1])
section
variable {g : Gw} {pdr l : Addr} {bs tp gt : Nat} {pts cts : List Int} {lg0 : List (Int × Nat × Nat)} {lg1 : List (Int × Nat)} {H H' : Hp}
theorem Lk.keepL {S : List Addr} {plk x dx y dy : Addr} {rm : Int} (h : Lk Co Ci H plk x dx l y dy rm bs tp gt) (k : Keep S H H') (hs : ∀ b ∈ S, NoT H b) (hx : x ∉ S) (hl : l ∉ S) (hy : y ∉ S) : Lk Co Ci H' plk x dx l y dy rm bs tp gt :=
  ⟨k _ _ h.elk (fun z => hs _ z _ h.elk), h.out.keep k hs hx hl, k _ _ h.inn hy, h.ne⟩
theorem Wo.eo (W : Wo Co Ci g pdr l bs tp gt pts cts lg0 lg1 H) : ∃ xs, H l = some (.lst xs) := by
  obtain ⟨_, xs, e, _⟩ := W.lk.out
  exact ⟨xs, e⟩
/-- nothing of it is changed -/
theorem Wo.keep {S : List Addr} (W : Wo Co Ci g pdr l bs tp gt pts cts lg0 lg1 H) (k : Keep S H H') (hs : ∀ b ∈ S, NoT H b) (h : ∀ b ∈ g.x :: g.y :: l :: g.pp :: g.pq :: pdr :: (g.a0 ++ g.a1), b ∉ S) : Wo Co Ci g pdr l bs tp gt pts cts lg0 lg1 H' := by
  obtain ⟨c0, c1, e⟩ := W.dr
  simp only [List.mem_cons, List.mem_append] at h
  exact ⟨W.lk.keepL k hs (h _ (by simp)) (h _ (by simp)) (h _ (by simp)), k _ _ W.ers (fun z => hs _ z _ W.ers), W.r0.keepR k hs (fun b hb => h b (by simp only [List.mem_cons] at hb; rcases hb with z | z | z <;> simp [z])), W.r1.keepR k hs (fun b hb => h b (by simp only [List.mem_cons] at hb; rcases hb with z | z | z <;> simp [z])),
    k _ _ W.ep (h _ (by simp)), k _ _ W.eq (h _ (by simp)), W.npq, W.sl, W.sd, W.ld, W.s0, W.s1, ⟨c0, c1, k _ _ e (h _ (by simp))⟩⟩
theorem Wo.same (W : Wo Co Ci g pdr l bs tp gt pts cts lg0 lg1 H) (s : Same H H') : Wo Co Ci g pdr l bs tp gt pts cts lg0 lg1 H' := W.keep (S := []) s.keep (fun _ z => nomatch z) (fun _ _ z => nomatch z)
theorem Wo.l0 (W : Wo Co Ci g pdr l bs tp gt pts cts lg0 lg1 H) : ∀ b ∈ g.a0 ++ g.a1, ∃ xs, H b = some (.lst xs) := fun b hb => by
  rcases List.mem_append.mp hb with hb | hb
  · exact W.r0.lists b hb
  · exact W.r1.lists b hb
theorem neL {b c : Addr} {xs : List V} {o : HO} (e : H b = some (.lst xs)) (e2 : H c = some o) (h : ∀ ys, o ≠ .lst ys) : b ≠ c := fun z => by
  rw [z, e2] at e
  cases e
  exact h _ rfl
/-- a draw -/
theorem Wo.next (W : Wo Co Ci g pdr l bs tp gt pts cts lg0 lg1 H) {k : Int} {Q : VK} {E : XK} (hn : 1 ≤ k) (hn2 : k < 2 ^ 200) (h : ∀ r H', 0 ≤ r → r < k → Wo Co Ci g pdr l bs tp gt pts cts lg0 lg1 H' → Q (.int r) H') : sp_next [.ref pdr, .int k] H Q E := by
  obtain ⟨c0, c1, e⟩ := W.dr
  refine ⟨pdr, c0, c1, k, rfl, e, hn, hn2, fun r a' b' q1 q2 => h r _ q1 q2 ?_⟩
  have k' : Keep [pdr] H (upd H pdr (.lst [.int a', .int b'])) := Keep.refl.upd (.inl (.head _))
  have hs : ∀ b ∈ [pdr], NoT H b := noT1 (.of_lst e)
  have out : ∀ {b : Addr} {o : HO}, H b = some o → (∀ ys, o ≠ .lst ys) → b ∉ [pdr] := fun {b o} eb ho z => neL e eb ho (List.mem_singleton.mp z).symm
  exact ⟨W.lk.keepL k' hs (out W.lk.out.ins (fun _ z => by cases z)) (by rw [List.mem_singleton]; exact W.ld) (out W.lk.inn (fun _ z => by cases z)), k' _ _ W.ers (fun z => hs _ z _ W.ers), W.r0.keepR k' hs (fun b hb => by rw [List.mem_singleton]; exact W.sd b (List.mem_append_left _ hb)), W.r1.keepR k' hs (fun b hb => by rw [List.mem_singleton]; exact W.sd b (List.mem_append_right _ hb)),
    k' _ _ W.ep (out W.ep (fun _ z => by cases z)), k' _ _ W.eq (out W.eq (fun _ z => by cases z)), W.npq, W.sl, W.sd, W.ld, W.s0, W.s1, ⟨a', b', upd_same⟩⟩
/-- behind what came -/
theorem Wo.came (W : Wo Co Ci g pdr l bs tp gt pts cts lg0 lg1 H) {l' : Addr} {bs' gt' : Nat} {cts' : List Int} (hl' : l' = l ∨ H l' = none) (L : Lk Co Ci H' g.plk g.x g.dx l' g.y g.dy g.rm bs' tp gt') (eq : H' g.pq = some (.dK (tbl cts'))) (k : Keep [g.x, g.y, g.pq] H H') : Wo Co Ci g pdr l' bs' tp gt' pts cts' lg0 lg1 H' := by
  obtain ⟨c0, c1, e⟩ := W.dr
  have hs : ∀ b ∈ [g.x, g.y, g.pq], NoT H b := fun b hb => by
    simp only [List.mem_cons, List.not_mem_nil, or_false] at hb
    rcases hb with rfl | rfl | rfl
    · exact .of_ins W.lk.out.ins
    · exact .of_ins W.lk.inn
    · exact .of_dK W.eq
  have out : ∀ {b : Addr} {xs : List V}, H b = some (.lst xs) → b ∉ [g.x, g.y, g.pq] := fun {b xs} eb z => by
    simp only [List.mem_cons, List.not_mem_nil, or_false] at z
    rcases z with z | z | z
    · exact neL eb W.lk.out.ins (fun _ z => by cases z) z
    · exact neL eb W.lk.inn (fun _ z => by cases z) z
    · exact neL eb W.eq (fun _ z => by cases z) z
  have outR : ∀ b ∈ g.a0 ++ g.a1, b ∉ [g.x, g.y, g.pq] := fun b hb => by
    obtain ⟨xs, eb⟩ := W.l0 b hb
    exact out eb
  have hpp : g.pp ∉ [g.x, g.y, g.pq] := fun z => by
    simp only [List.mem_cons, List.not_mem_nil, or_false] at z
    rcases z with z | z | z
    · have := W.lk.out.ins
      rw [← z, W.ep] at this; cases this
    · have := W.lk.inn
      rw [← z, W.ep] at this; cases this
    · exact W.npq z
  refine ⟨L, k _ _ W.ers (fun z => hs _ z _ W.ers), W.r0.keepR k hs (fun b hb => outR b (List.mem_append_left _ hb)), W.r1.keepR k hs (fun b hb => outR b (List.mem_append_right _ hb)), k _ _ W.ep hpp, eq, W.npq, fun b hb => ?_, W.sd, ?_, W.s0, W.s1, ⟨c0, c1, k _ _ e (out e)⟩⟩
  · rcases hl' with z | z
    · rw [z]; exact W.sl b hb
    · obtain ⟨xs, eb⟩ := W.l0 b hb
      exact ne_of_none eb z
  · rcases hl' with z | z
    · rw [z]; exact W.ld
    · exact Ne.symm (ne_of_none e z)
/-- the dict of what was put grows -/
theorem Wo.dput (W : Wo Co Ci g pdr l bs tp gt pts cts lg0 lg1 H) (pts' : List Int) : Wo Co Ci g pdr l bs tp gt pts' cts lg0 lg1 (upd H g.pp (.dK (tbl pts'))) := by
  obtain ⟨c0, c1, e⟩ := W.dr
  have k : Keep [g.pp] H (upd H g.pp (.dK (tbl pts'))) := Keep.refl.upd (.inl (.head _))
  have hs : ∀ b ∈ [g.pp], NoT H b := noT1 (.of_dK W.ep)
  have out : ∀ {b : Addr} {o : HO}, H b = some o → (∀ ys, o ≠ .dK ys) → b ∉ [g.pp] := fun {b o} eb ho z => by
    rw [List.mem_singleton] at z
    rw [z, W.ep] at eb
    cases eb
    exact ho _ rfl
  have outR : ∀ b ∈ g.a0 ++ g.a1, b ∉ [g.pp] := fun b hb => by
    obtain ⟨xs, eb⟩ := W.l0 b hb
    exact out eb (fun _ z => by cases z)
  obtain ⟨xs, el⟩ := W.eo
  exact ⟨W.lk.keepL k hs (out W.lk.out.ins (fun _ z => by cases z)) (out el (fun _ z => by cases z)) (out W.lk.inn (fun _ z => by cases z)), k _ _ W.ers (fun z => hs _ z _ W.ers), W.r0.keepR k hs (fun b hb => outR b (List.mem_append_left _ hb)), W.r1.keepR k hs (fun b hb => outR b (List.mem_append_right _ hb)), upd_same, k _ _ W.eq (by rw [List.mem_singleton]; exact Ne.symm W.npq), W.npq, W.sl, W.sd, W.ld, W.s0, W.s1, ⟨c0, c1, k _ _ e (out e (fun _ z => by cases z))⟩⟩
/-- a parcel more is kept -/
theorem Wo.oput (W : Wo Co Ci g pdr l bs tp gt pts cts lg0 lg1 H) {tp' : Nat} (O : OutAt Co H' g.x g.dx l g.rm tp' (kp bs tp')) (k : Keep [g.x, l] H H') : Wo Co Ci g pdr l bs tp' gt pts cts lg0 lg1 H' := by
  obtain ⟨c0, c1, e⟩ := W.dr
  obtain ⟨xs, el⟩ := W.eo
  have hs : ∀ b ∈ [g.x, l], NoT H b := noT2 (.of_ins W.lk.out.ins) (.of_lst el)
  have outI : ∀ {b : Addr} {ys : List V}, H b = some (.lst ys) → b ≠ l → b ∉ [g.x, l] := fun {b ys} eb hb z => by
    rcases List.mem_cons.mp z with z | z
    · exact neL eb W.lk.out.ins (fun _ z => by cases z) z
    · exact hb (List.mem_singleton.mp z)
  have outD : ∀ {b : Addr} {ys : List (Key × V)}, H b = some (.dK ys) → b ∉ [g.x, l] := fun {b ys} eb z => by
    rcases List.mem_cons.mp z with z | z
    · have := W.lk.out.ins
      rw [← z, eb] at this; cases this
    · rw [List.mem_singleton] at z
      rw [z, el] at eb; cases eb
  have outR : ∀ b ∈ g.a0 ++ g.a1, b ∉ [g.x, l] := fun b hb => by
    obtain ⟨ys, eb⟩ := W.l0 b hb
    exact outI eb (W.sl b hb)
  have hy : g.y ∉ [g.x, l] := fun z => by
    rcases List.mem_cons.mp z with z | z
    · exact W.lk.ne z.symm
    · rw [List.mem_singleton] at z
      have := W.lk.inn
      rw [z, el] at this; cases this
  exact ⟨⟨k _ _ W.lk.elk (fun z => hs _ z _ W.lk.elk), O, k _ _ W.lk.inn hy, W.lk.ne⟩, k _ _ W.ers (fun z => hs _ z _ W.ers), W.r0.keepR k hs (fun b hb => outR b (List.mem_append_left _ hb)), W.r1.keepR k hs (fun b hb => outR b (List.mem_append_right _ hb)), k _ _ W.ep (outD W.ep), k _ _ W.eq (outD W.eq), W.npq, W.sl, W.sd, W.ld, W.s0, W.s1, ⟨c0, c1, k _ _ e (outI e (Ne.symm W.ld))⟩⟩
/-- a letter is sent over the one, or the other road -/
theorem Wo.send0 (W : Wo Co Ci g pdr l bs tp gt pts cts lg0 lg1 H) {lg0' : List (Int × Nat × Nat)} (R : Rdx H' g.pr0 g.pa0 g.pl0 g.ps0 g.ds0 (lg0'.map ltr0)) (k : Keep [g.pl0] H H') : Wo Co Ci g pdr l bs tp gt pts cts lg0' lg1 H' := by
  obtain ⟨c0, c1, e⟩ := W.dr
  obtain ⟨xs, el, _⟩ := W.r0.el
  have hs : ∀ b ∈ [g.pl0], NoT H b := noT1 (.of_lst el)
  have out : ∀ {b : Addr} {o : HO}, H b = some o → (∀ ys, o ≠ .lst ys) → b ∉ [g.pl0] := fun {b o} eb ho z => neL el eb ho (List.mem_singleton.mp z).symm
  have hm : g.pl0 ∈ g.a0 ++ g.a1 := List.mem_append_left _ (.tail _ (.head _))
  exact ⟨W.lk.keepL k hs (out W.lk.out.ins (fun _ z => by cases z)) (by rw [List.mem_singleton]; exact Ne.symm (W.sl _ hm)) (out W.lk.inn (fun _ z => by cases z)), k _ _ W.ers (fun z => hs _ z _ W.ers), R, W.r1.keepR k hs (fun b hb => by rw [List.mem_singleton]; exact W.s0 b hb), k _ _ W.ep (out W.ep (fun _ z => by cases z)), k _ _ W.eq (out W.eq (fun _ z => by cases z)), W.npq, W.sl, W.sd, W.ld, W.s0, W.s1, ⟨c0, c1, k _ _ e (by rw [List.mem_singleton]; exact Ne.symm (W.sd _ hm))⟩⟩
theorem Wo.send1 (W : Wo Co Ci g pdr l bs tp gt pts cts lg0 lg1 H) {lg1' : List (Int × Nat)} (R : Rdx H' g.pr1 g.pa1 g.pl1 g.ps1 g.ds1 (lg1'.map ltr1)) (k : Keep [g.pl1] H H') : Wo Co Ci g pdr l bs tp gt pts cts lg0 lg1' H' := by
  obtain ⟨c0, c1, e⟩ := W.dr
  obtain ⟨xs, el, _⟩ := W.r1.el
  have hs : ∀ b ∈ [g.pl1], NoT H b := noT1 (.of_lst el)
  have out : ∀ {b : Addr} {o : HO}, H b = some o → (∀ ys, o ≠ .lst ys) → b ∉ [g.pl1] := fun {b o} eb ho z => neL el eb ho (List.mem_singleton.mp z).symm
  have hm : g.pl1 ∈ g.a0 ++ g.a1 := List.mem_append_right _ (.tail _ (.head _))
  exact ⟨W.lk.keepL k hs (out W.lk.out.ins (fun _ z => by cases z)) (by rw [List.mem_singleton]; exact Ne.symm (W.sl _ hm)) (out W.lk.inn (fun _ z => by cases z)), k _ _ W.ers (fun z => hs _ z _ W.ers), W.r0.keepR k hs (fun b hb => by rw [List.mem_singleton]; exact W.s1 b hb), R, k _ _ W.ep (out W.ep (fun _ z => by cases z)), k _ _ W.eq (out W.eq (fun _ z => by cases z)), W.npq, W.sl, W.sd, W.ld, W.s0, W.s1, ⟨c0, c1, k _ _ e (by rw [List.mem_singleton]; exact Ne.symm (W.sd _ hm))⟩⟩
end
end
end K22
namespace K22
open PySem L2 K04
abbrev s_law : Stmt := top 18
theorem sc_law : FnScope ["_law_script", "_law_first", "_law_draw_here", "_law_roads", "_law_longest", "_law_bound", "_law_link", "_law_put", "_law_came", "_law_turn_here", "_law_k"] ["_law_script"] (defScope s_law) := ⟨rfl, rfl, rfl, by decide +kernel, rfl, by decide +kernel, by decide +kernel⟩
section
variable {P : Program} {w : World} {K : PySem.W.Frag} {mg : Str → Option Value} {base : Heap} {Co Ci : Addr}
def sp_law (K : PySem.W.Frag) : Sp := fun vs H Q _ => ∃ (a : Addr) (ns : List Int), vs = [.ref a] ∧ SqL K H a (ns.map V.int) ∧ ns.length ≤ 63 ∧ ∀ H', Q (.bl true) H'
theorem paired_map2 {H : Hp} : ∀ {ps : List Addr} {ds : List (List Int)}, Paired (fun (b : Addr) (d : List Int) => H b = some (.lst (d.map V.int))) ps ds → Paired (fun (b : Addr) (ys : List V) => H b = some (.lst ys)) ps (ds.map fun d => d.map V.int)
  | _, _, .nil => .nil
  | _, _, .cons e t => .cons e (paired_map2 t)
theorem flat_le : ∀ {ds : List (List Int)}, (∀ d ∈ ds, d.length ≤ 3) → ds.flatten.length ≤ 3 * ds.length
  | [], _ => Nat.le_refl _
  | d :: r, h => by
    have := flat_le (ds := r) fun d hd => h d (.tail _ hd)
    have := h d (.head _)
    rw [List.flatten_cons, List.length_append, List.length_cons]
    omega
theorem flat_len {ds : List (List Int)} (h : Dok ds) : ds.flatten.length ≤ 24 := by
  have := flat_le (ds := ds) fun d hd => (h.2 d hd).1
  have := h.1
  omega
def sg (sc : Addr) (r : Int) (g : Gw) (pdr : Addr) (lo : Int) (v9 v10 : Option V) : St := [some (.ref sc), some (.int r), some (.ref pdr), some (.ref g.prs), some (.int lo), some (.int g.bd), some (.ref g.plk), some (.ref g.pp), some (.ref g.pq), v9, v10]
theorem ims_int {H : Hp} : ∀ l : List Int, Ims H (l.map V.int) (l.map PyData.int)
  | [] => .nil
  | i :: r => .cons (.int i) (ims_int r)
theorem dep_il (l : List Int) : (PyData.list (l.map PyData.int)).depth ≤ 60 := by
  have h : (PyData.list (l.map PyData.int)).depth ≤ 1 + 1 := depth_list fun d hd => by
    obtain ⟨i, _, rfl⟩ := List.mem_map.mp hd
    simp [PyData.depth]
  omega
def Ik (Co Ci sc : Addr) (r : Int) (g : Gw) (pdr l4 : Addr) (lo : Int) (T tp bs4 gt4 : Nat) (cts4 : List Int) (lg0 : List (Int × Nat × Nat)) (lg1 : List (Int × Nat)) (hs : List Hi) (i : Nat) (σ : St) (H' : Hp) : Prop := ∃ tp' pts' v10, σ = sg sc r g pdr lo (some (.int (T : Int))) v10 ∧ Wo Co Ci g pdr l4 bs4 tp' gt4 pts' cts4 lg0 lg1 H' ∧ Hs g.ds0 g.ds1 g.bd T ((T : Int) + 1) bs4 tp' gt4 pts' cts4 lg0 lg1 hs ∧ tp' ≤ tp + i
def Im0 (Co Ci sc : Addr) (r : Int) (g : Gw) (pdr : Addr) (lo : Int) (T : Nat) (σ : St) (H' : Hp) : Prop := ∃ l bs tp gt pts cts lg0 lg1 hs v9 v10, σ = sg sc r g pdr lo v9 v10 ∧ Wo Co Ci g pdr l bs tp gt pts cts lg0 lg1 H' ∧ Hs g.ds0 g.ds1 g.bd T T bs tp gt pts cts lg0 lg1 hs ∧ tp ≤ 2 * T
def Pm0 (Co Ci sc : Addr) (r : Int) (σ : St) (H' : Hp) : Prop := ∃ (g : Gw) (pdr l : Addr) (lo : Int), σ = sg sc r g pdr lo none none ∧ Wo Co Ci g pdr l 0 0 0 [] [] [] [] H' ∧ Bd g.ds0 g.ds1 g.bd ∧ Dok g.ds0 ∧ Dok g.ds1 ∧ 0 < g.ds0.length ∧ 0 < g.ds1.length ∧ 1 ≤ g.rm ∧ g.rm ≤ 16 ∧ g.bd ≤ 1000
set_option maxHeartbeats 8000000 in
theorem law_fn {f : Addr} {fd : FuncData} (F : Fun K "law" "law" s_law f fd) (hb : Blt mg) (hsum : mg "sum" = none) (T_Out : ClsD K mg "Out" Co oAttrs) (T_In : ClsD K mg "In" Ci iAttrs) (I_Out : OwnI P w K mg base 1 Co ["self", "room"] (sp_oinit Co)) (I_In : OwnI P w K mg base 1 Ci ["self"] (sp_iinit Ci))
    (M_Out_free : OwnM P w K mg base 1 Co "free" ["self"] (sp_free Co)) (M_Out_put : OwnM P w K mg base 5 Co "put" ["self", "parcel"] (sp_put Co)) (M_Out_parcels : OwnM P w K mg base 7 Co "parcels" ["self"] (sp_parcels Co))
    (F__law_cell_at : Own P w K mg base 1 "_law_cell_at" ["_law_script", "_law_k"] (sp_cell K)) (F__law_draw : Own P w K mg base 1 "_law_draw" ["_law_cell"] sp_draw) (F__law_next : Own P w K mg base 1 "_law_next" ["_law_draw_here", "_law_size"] sp_next) (F__law_deeds : Own P w K mg base 2 "_law_deeds" ["_law_draw_here"] sp_ldeeds) (F__law_gap : Own P w K mg base 1 "_law_gap" ["_law_deeds_here"] sp_gap)
    (F__law_sends : Own P w K mg base 1 "_law_sends" ["_law_road", "_law_turn_here", "_law_letter"] sp_sends) (F__law_turn : Own P w K mg base 6 "_law_turn" ["_law_turn_here", "_law_roads", "_law_link", "_law_came"] (sp_turn Co Ci)) (F__law_late : Own P w K mg base 8 "_law_late" ["_law_out", "_law_put", "_law_came", "_law_turn_here", "_law_bound"] (sp_late Co)) : FnOk P w K mg base CX0 9 f fd ["_law_script"] (sp_law K) := by
  refine F.ok sc_law (fun vs H Q E h => ?_) (fun cdv A outer s H vs Q E hr h => ?_)
  · obtain ⟨a, ns, rfl, _⟩ := h
    rfl
  · obtain ⟨sc, ns, rfl, hS, h63, q⟩ := h
    have hu := hr.units
    have hu1 : (A.deeper (PyProof.Rows.envOfC "law" (defScope s_law) s.heap.objs.size f cdv)).units + 1 < cLine := by omega
    refine ⟨_, (@pss_cons _ _ _ _ _ (@ps_set _ _ 1 _ _ _ _ sc_law.nd rfl (by first | exact Or.inl rfl | exact Or.inr rfl) (@pe_callB _ _ _ _ _ _ _ _ _ (call_sumX rfl) rfl hsum bt_sum (@pa_cX _ _ _ _ _ (@pe_slice _ _ _ _ _ _ _ _ _ _ (sl_listK K) (@pv _ 0 _ _ (by rfl) (by first | exact Or.inl rfl | exact Or.inr (Or.inl rfl) | exact Or.inr (Or.inr rfl)) (by decide) (by decide)) (@po_none _) (@po_some _ _ _ (@pe_int _ _ _ _))) (@pa_nil _) (by rfl)) (by decide) (by decide) (by rfl) (by rfl)) (by rfl) (by first | exact .inl rfl | exact .inr rfl | assumption)) (@pss_cons _ _ _ _ _ (@ps_set _ _ 2 _ _ _ _ sc_law.nd rfl (by first | exact Or.inl rfl | exact Or.inr rfl) (@pe_fn _ _ _ _ _ _ _ _ _ _ _ F__law_draw hr (@pa_cX _ _ _ _ _ (@pe_fn _ _ _ _ _ _ _ _ _ _ _ F__law_cell_at hr (@pa_cX _ _ _ _ _ (@pv _ 0 _ _ (by rfl) (by first | exact Or.inl rfl | exact Or.inr (Or.inl rfl) | exact Or.inr (Or.inr rfl)) (by decide) (by decide)) (@pa_cX _ _ _ _ _ (@pe_int _ _ _ _) (@pa_nil _) (by rfl)) (by rfl)) (by decide) (by rfl) (by decide) (by rfl) (by rfl)) (@pa_nil _) (by rfl)) (by decide) (by rfl) (by decide) (by rfl) (by rfl)) (by rfl) (by first | exact .inl rfl | exact .inr rfl | assumption)) (@pss_cons _ _ _ _ _ (@ps_set _ _ 3 _ _ _ _ sc_law.nd rfl (by first | exact Or.inl rfl | exact Or.inr rfl) (@pe_tup _ _ _ _ _ (@pa_cX _ _ _ _ _ (@pe_tup _ _ _ _ _ (@pa_cX _ _ _ _ _ (@pe_fn _ _ _ _ _ _ _ _ _ _ _ F__law_deeds hr (@pa_cX _ _ _ _ _ (@pv _ 2 _ _ (by rfl) (by first | exact Or.inl rfl | exact Or.inr (Or.inl rfl) | exact Or.inr (Or.inr rfl)) (by decide) (by decide)) (@pa_nil _) (by rfl)) (by decide) (by rfl) (by decide) (by rfl) (by rfl)) (@pa_cX _ _ _ _ _ (@pe_lst _ _ _ _ (@pa_nil _)) (@pa_nil _) (by rfl)) (by rfl))) (@pa_cX _ _ _ _ _ (@pe_tup _ _ _ _ _ (@pa_cX _ _ _ _ _ (@pe_fn _ _ _ _ _ _ _ _ _ _ _ F__law_deeds hr (@pa_cX _ _ _ _ _ (@pv _ 2 _ _ (by rfl) (by first | exact Or.inl rfl | exact Or.inr (Or.inl rfl) | exact Or.inr (Or.inr rfl)) (by decide) (by decide)) (@pa_nil _) (by rfl)) (by decide) (by rfl) (by decide) (by rfl) (by rfl)) (@pa_cX _ _ _ _ _ (@pe_lst _ _ _ _ (@pa_nil _)) (@pa_nil _) (by rfl)) (by rfl))) (@pa_nil _) (by rfl)) (by rfl))) (by rfl) (by first | exact .inl rfl | exact .inr rfl | assumption)) (@pss_cons _ _ _ _ _ (@ps_set _ _ 4 _ _ _ _ sc_law.nd rfl (by first | exact Or.inl rfl | exact Or.inr rfl) (@pe_callB _ _ _ _ _ _ _ _ _ (call_maxL rfl) rfl (hb _ (by decide)) bt_max (@pa_cX _ _ _ _ _ (@pe_callB _ _ _ _ _ _ _ _ _ (call_sumL rfl) rfl hsum bt_sum (@pa_cX _ _ _ _ _ (@pe_op _ _ _ _ _ _ _ _ op_cat (@pe_ix _ _ _ _ _ _ _ (ix_get hu1) (@pe_ix _ _ _ _ _ _ _ (ix_get hu1) (@pv _ 3 _ _ (by rfl) (by first | exact Or.inl rfl | exact Or.inr (Or.inl rfl) | exact Or.inr (Or.inr rfl)) (by decide) (by decide)) (@pe_int _ _ _ _) (fun _ _ => rfl)) (@pe_int _ _ _ _) (fun _ _ => rfl)) (@pe_ix _ _ _ _ _ _ _ (ix_get hu1) (@pe_ix _ _ _ _ _ _ _ (ix_get hu1) (@pv _ 3 _ _ (by rfl) (by first | exact Or.inl rfl | exact Or.inr (Or.inl rfl) | exact Or.inr (Or.inr rfl)) (by decide) (by decide)) (@pe_int _ _ _ _) (fun _ _ => rfl)) (@pe_int _ _ _ _) (fun _ _ => rfl))) (@pa_cX _ _ _ _ _ (@pe_lst _ _ _ _ (@pa_nil _)) (@pa_nil _) (by rfl)) (by rfl)) (by decide) (by decide) (by rfl) (by rfl)) (@pa_nil _) (by rfl)) (by decide) (by decide) (by rfl) (by rfl)) (by rfl) (by first | exact .inl rfl | exact .inr rfl | assumption)) (@pss_cons _ _ _ _ _ (@ps_set _ _ 5 _ _ _ _ sc_law.nd rfl (by first | exact Or.inl rfl | exact Or.inr rfl) (@pe_op _ _ _ _ _ _ _ _ op_sub (@pe_op _ _ _ _ _ _ _ _ op_add (@pe_callB _ _ _ _ _ _ _ _ _ (call_max2 rfl) rfl (hb _ (by decide)) bt_max (@pa_cX _ _ _ _ _ (@pe_fn _ _ _ _ _ _ _ _ _ _ _ F__law_gap hr (@pa_cX _ _ _ _ _ (@pe_ix _ _ _ _ _ _ _ (ix_get hu1) (@pe_ix _ _ _ _ _ _ _ (ix_get hu1) (@pv _ 3 _ _ (by rfl) (by first | exact Or.inl rfl | exact Or.inr (Or.inl rfl) | exact Or.inr (Or.inr rfl)) (by decide) (by decide)) (@pe_int _ _ _ _) (fun _ _ => rfl)) (@pe_int _ _ _ _) (fun _ _ => rfl)) (@pa_nil _) (by rfl)) (by decide) (by rfl) (by decide) (by rfl) (by rfl)) (@pa_cX _ _ _ _ _ (@pe_fn _ _ _ _ _ _ _ _ _ _ _ F__law_gap hr (@pa_cX _ _ _ _ _ (@pe_ix _ _ _ _ _ _ _ (ix_get hu1) (@pe_ix _ _ _ _ _ _ _ (ix_get hu1) (@pv _ 3 _ _ (by rfl) (by first | exact Or.inl rfl | exact Or.inr (Or.inl rfl) | exact Or.inr (Or.inr rfl)) (by decide) (by decide)) (@pe_int _ _ _ _) (fun _ _ => rfl)) (@pe_int _ _ _ _) (fun _ _ => rfl)) (@pa_nil _) (by rfl)) (by decide) (by rfl) (by decide) (by rfl) (by rfl)) (@pa_nil _) (by rfl)) (by rfl)) (by decide) (by decide) (by rfl) (by rfl)) (@pv _ 4 _ _ (by rfl) (by first | exact Or.inl rfl | exact Or.inr (Or.inl rfl) | exact Or.inr (Or.inr rfl)) (by decide) (by decide))) (@pe_int _ _ _ _)) (by rfl) (by first | exact .inl rfl | exact .inr rfl | assumption)) (@pss_cons _ _ _ _ _ (@ps_set _ _ 6 _ _ _ _ sc_law.nd rfl (by first | exact Or.inl rfl | exact Or.inr rfl) (@pe_tup _ _ _ _ _ (@pa_cX _ _ _ _ _ (@pe_mak _ _ _ _ _ _ _ _ _ _ _ _ I_Out hr T_Out.mgC (@pa_cX _ _ _ _ _ (@pe_op _ _ _ _ _ _ _ _ op_add (@pe_int _ _ _ _) (@pe_op _ _ _ _ _ _ _ _ op_mod (@pe_op _ _ _ _ _ _ _ _ op_fdiv (@pv _ 1 _ _ (by rfl) (by first | exact Or.inl rfl | exact Or.inr (Or.inl rfl) | exact Or.inr (Or.inr rfl)) (by decide) (by decide)) (@pe_int _ _ _ _)) (@pe_int _ _ _ _))) (@pa_nil _) (by rfl)) (by decide) (by rfl) (by decide) (by rfl) (by rfl)) (@pa_cX _ _ _ _ _ (@pe_mak0 _ _ _ _ _ _ _ _ _ I_In hr T_In.mgC (by decide) (by rfl) (by decide)) (@pa_nil _) (by rfl)) (by rfl))) (by rfl) (by first | exact .inl rfl | exact .inr rfl | assumption)) (@pss_cons _ _ _ _ _ (@ps_set _ _ 7 _ _ _ _ sc_law.nd rfl (by first | exact Or.inl rfl | exact Or.inr rfl) (@pe_dnewK _ _) (by rfl) (by first | exact .inl rfl | exact .inr rfl | assumption)) (@pss_cons _ _ _ _ _ (@ps_set _ _ 8 _ _ _ _ sc_law.nd rfl (by first | exact Or.inl rfl | exact Or.inr rfl) (@pe_dnewK _ _) (by rfl) (by first | exact .inl rfl | exact .inr rfl | assumption)) (@pss_cons _ _ _ _ _ (@ps_set _ _ 2 _ _ _ _ sc_law.nd rfl (by first | exact Or.inl rfl | exact Or.inr rfl) (@pe_fn _ _ _ _ _ _ _ _ _ _ _ F__law_draw hr (@pa_cX _ _ _ _ _ (@pe_fn _ _ _ _ _ _ _ _ _ _ _ F__law_cell_at hr (@pa_cX _ _ _ _ _ (@pv _ 0 _ _ (by rfl) (by first | exact Or.inl rfl | exact Or.inr (Or.inl rfl) | exact Or.inr (Or.inr rfl)) (by decide) (by decide)) (@pa_cX _ _ _ _ _ (@pe_int _ _ _ _) (@pa_nil _) (by rfl)) (by rfl)) (by decide) (by rfl) (by decide) (by rfl) (by rfl)) (@pa_nil _) (by rfl)) (by decide) (by rfl) (by decide) (by rfl) (by rfl)) (by rfl) (by first | exact .inl rfl | exact .inr rfl | assumption)) (@pss_cons _ _ _ _ _ (@ps_for _ _ _ _ _ _ _ _ PassesOwn.never rfl (@pi_range1 _ _ _ _ _ _ rfl (hb _ (by decide)) (@pa_cX _ _ _ _ _ (@pe_int _ _ _ _) (@pa_nil _) (by rfl)) (by rfl)) (@pg_name _ _ 9 _ sc_law.nd rfl (by first | exact Or.inl rfl | exact Or.inr rfl) (by first | exact .inl rfl | exact .inr rfl | assumption)) (@pss_cons _ _ _ _ _ (@ps_expr _ _ _ _ (@pe_fn _ _ _ _ _ _ _ _ _ _ _ F__law_turn hr (@pa_cX _ _ _ _ _ (@pv _ 9 _ _ (by rfl) (by first | exact Or.inl rfl | exact Or.inr (Or.inl rfl) | exact Or.inr (Or.inr rfl)) (by decide) (by decide)) (@pa_cX _ _ _ _ _ (@pv _ 3 _ _ (by rfl) (by first | exact Or.inl rfl | exact Or.inr (Or.inl rfl) | exact Or.inr (Or.inr rfl)) (by decide) (by decide)) (@pa_cX _ _ _ _ _ (@pv _ 6 _ _ (by rfl) (by first | exact Or.inl rfl | exact Or.inr (Or.inl rfl) | exact Or.inr (Or.inr rfl)) (by decide) (by decide)) (@pa_cX _ _ _ _ _ (@pv _ 8 _ _ (by rfl) (by first | exact Or.inl rfl | exact Or.inr (Or.inl rfl) | exact Or.inr (Or.inr rfl)) (by decide) (by decide)) (@pa_nil _) (by rfl)) (by rfl)) (by rfl)) (by rfl)) (by decide) (by rfl) (by decide) (by rfl) (by rfl)) (by rfl)) (@pss_cons _ _ _ _ _ (@ps_for _ _ _ _ _ _ _ _ PassesOwn.never rfl (@pi_range1 _ _ _ _ _ _ rfl (hb _ (by decide)) (@pa_cX _ _ _ _ _ (@pe_fn _ _ _ _ _ _ _ _ _ _ _ F__law_next hr (@pa_cX _ _ _ _ _ (@pv _ 2 _ _ (by rfl) (by first | exact Or.inl rfl | exact Or.inr (Or.inl rfl) | exact Or.inr (Or.inr rfl)) (by decide) (by decide)) (@pa_cX _ _ _ _ _ (@pe_int _ _ _ _) (@pa_nil _) (by rfl)) (by rfl)) (by decide) (by rfl) (by decide) (by rfl) (by rfl)) (@pa_nil _) (by rfl)) (by rfl)) (@pg_name _ _ 10 _ sc_law.nd rfl (by first | exact Or.inl rfl | exact Or.inr rfl) (by first | exact .inl rfl | exact .inr rfl | assumption)) (@pss_one _ _ _ (@ps_if _ _ _ _ _ _ _ _ (@PW.pt _ _ _ (@pw_and _ _ _ _ _ _ _ (@pt_cmpR _ _ _ _ _ _ _ _ op_gt (@pe_mth0 _ _ _ _ _ _ _ _ _ _ _ _ M_Out_free T_Out.cl hr (@pe_ix _ _ _ _ _ _ _ (ix_get hu1) (@pv _ 6 _ _ (by rfl) (by first | exact Or.inl rfl | exact Or.inr (Or.inl rfl) | exact Or.inr (Or.inr rfl)) (by decide) (by decide)) (@pe_int _ _ _ _) (fun _ _ => rfl)) (by decide) (by rfl)) (@pe_int _ _ _ _) (nomark _)) (@pw_and1 _ _ _ _ (@pt_cmpR _ _ _ _ _ _ _ _ op_lt (@pv _ 9 _ _ (by rfl) (by first | exact Or.inl rfl | exact Or.inr (Or.inl rfl) | exact Or.inr (Or.inr rfl)) (by decide) (by decide)) (@pe_int _ _ _ _) (nomark _))))) (@pss_cons _ _ _ _ _ (@ps_asg _ _ _ _ _ _ (@pv _ 9 _ _ (by rfl) (by first | exact Or.inl rfl | exact Or.inr (Or.inl rfl) | exact Or.inr (Or.inr rfl)) (by decide) (by decide)) (@pg_sub _ _ _ _ _ _ _ (@pv _ 7 _ _ (by rfl) (by first | exact Or.inl rfl | exact Or.inr (Or.inl rfl) | exact Or.inr (Or.inr rfl)) (by decide) (by decide)) (@pe_callB _ _ _ _ _ _ _ _ _ call_lenX rfl (hb _ (by decide)) bt_len (@pa_cX _ _ _ _ _ (@pv _ 7 _ _ (by rfl) (by first | exact Or.inl rfl | exact Or.inr (Or.inl rfl) | exact Or.inr (Or.inr rfl)) (by decide) (by decide)) (@pa_nil _) (by rfl)) (by decide) (by decide) (by rfl) (by rfl)) (@set_x _ hu1) (by intro _; rfl)) (by rfl) (by rfl) (by rfl)) (@pss_one _ _ _ (@ps_expr _ _ _ _ (@pe_mth _ _ _ _ _ _ _ _ _ _ _ _ _ _ _ M_Out_put T_Out.cl hr (@pe_ix _ _ _ _ _ _ _ (ix_get hu1) (@pv _ 6 _ _ (by rfl) (by first | exact Or.inl rfl | exact Or.inr (Or.inl rfl) | exact Or.inr (Or.inr rfl)) (by decide) (by decide)) (@pe_int _ _ _ _) (fun _ _ => rfl)) (@pa_cX _ _ _ _ _ (@pe_op _ _ _ _ _ _ _ _ op_sub (@pe_callB _ _ _ _ _ _ _ _ _ call_lenX rfl (hb _ (by decide)) bt_len (@pa_cX _ _ _ _ _ (@pv _ 7 _ _ (by rfl) (by first | exact Or.inl rfl | exact Or.inr (Or.inl rfl) | exact Or.inr (Or.inr rfl)) (by decide) (by decide)) (@pa_nil _) (by rfl)) (by decide) (by decide) (by rfl) (by rfl)) (@pe_int _ _ _ _)) (@pa_nil _) (by rfl)) (by decide) (by rfl) (by rfl) (by rfl)) (by rfl)))) (@pss_nil _))) (by intro _; rfl)) (@pss_cons _ _ _ _ _ (@ps_if _ _ _ _ _ _ _ _ (@pt_truX _ _ _ (@pe_fn _ _ _ _ _ _ _ _ _ _ _ F__law_late hr (@pa_cX _ _ _ _ _ (@pe_ix _ _ _ _ _ _ _ (ix_get hu1) (@pv _ 6 _ _ (by rfl) (by first | exact Or.inl rfl | exact Or.inr (Or.inl rfl) | exact Or.inr (Or.inr rfl)) (by decide) (by decide)) (@pe_int _ _ _ _) (fun _ _ => rfl)) (@pa_cX _ _ _ _ _ (@pv _ 7 _ _ (by rfl) (by first | exact Or.inl rfl | exact Or.inr (Or.inl rfl) | exact Or.inr (Or.inr rfl)) (by decide) (by decide)) (@pa_cX _ _ _ _ _ (@pv _ 8 _ _ (by rfl) (by first | exact Or.inl rfl | exact Or.inr (Or.inl rfl) | exact Or.inr (Or.inr rfl)) (by decide) (by decide)) (@pa_cX _ _ _ _ _ (@pv _ 9 _ _ (by rfl) (by first | exact Or.inl rfl | exact Or.inr (Or.inl rfl) | exact Or.inr (Or.inr rfl)) (by decide) (by decide)) (@pa_cX _ _ _ _ _ (@pv _ 5 _ _ (by rfl) (by first | exact Or.inl rfl | exact Or.inr (Or.inl rfl) | exact Or.inr (Or.inr rfl)) (by decide) (by decide)) (@pa_nil _) (by rfl)) (by rfl)) (by rfl)) (by rfl)) (by rfl)) (by decide) (by rfl) (by decide) (by rfl) (by rfl)) (by intro _; rfl)) (@pss_one _ _ _ (@ps_ret _ _ _ _ (@pe_bl _ _ _ _))) (@pss_nil _)) (@pss_cons _ _ _ _ _ (@ps_expr _ _ _ _ (@pe_fn _ _ _ _ _ _ _ _ _ _ _ F__law_sends hr (@pa_cX _ _ _ _ _ (@pe_ix _ _ _ _ _ _ _ (ix_get hu1) (@pv _ 3 _ _ (by rfl) (by first | exact Or.inl rfl | exact Or.inr (Or.inl rfl) | exact Or.inr (Or.inr rfl)) (by decide) (by decide)) (@pe_int _ _ _ _) (fun _ _ => rfl)) (@pa_cX _ _ _ _ _ (@pv _ 9 _ _ (by rfl) (by first | exact Or.inl rfl | exact Or.inr (Or.inl rfl) | exact Or.inr (Or.inr rfl)) (by decide) (by decide)) (@pa_cX _ _ _ _ _ (@pe_mth0 _ _ _ _ _ _ _ _ _ _ _ _ M_Out_parcels T_Out.cl hr (@pe_ix _ _ _ _ _ _ _ (ix_get hu1) (@pv _ 6 _ _ (by rfl) (by first | exact Or.inl rfl | exact Or.inr (Or.inl rfl) | exact Or.inr (Or.inr rfl)) (by decide) (by decide)) (@pe_int _ _ _ _) (fun _ _ => rfl)) (by decide) (by rfl)) (@pa_nil _) (by rfl)) (by rfl)) (by rfl)) (by decide) (by rfl) (by decide) (by rfl) (by rfl)) (by rfl)) (@pss_one _ _ _ (@ps_expr _ _ _ _ (@pe_fn _ _ _ _ _ _ _ _ _ _ _ F__law_sends hr (@pa_cX _ _ _ _ _ (@pe_ix _ _ _ _ _ _ _ (ix_get hu1) (@pv _ 3 _ _ (by rfl) (by first | exact Or.inl rfl | exact Or.inr (Or.inl rfl) | exact Or.inr (Or.inr rfl)) (by decide) (by decide)) (@pe_int _ _ _ _) (fun _ _ => rfl)) (@pa_cX _ _ _ _ _ (@pv _ 9 _ _ (by rfl) (by first | exact Or.inl rfl | exact Or.inr (Or.inl rfl) | exact Or.inr (Or.inr rfl)) (by decide) (by decide)) (@pa_cX _ _ _ _ _ (@pe_fldK _ K _ _ _ _ (@pe_ix _ _ _ _ _ _ _ (ix_get hu1) (@pv _ 6 _ _ (by rfl) (by first | exact Or.inl rfl | exact Or.inr (Or.inl rfl) | exact Or.inr (Or.inr rfl)) (by decide) (by decide)) (@pe_int _ _ _ _) (fun _ _ => rfl)) (by rfl) (by rfl)) (@pa_nil _) (by rfl)) (by rfl)) (by rfl)) (by decide) (by rfl) (by decide) (by rfl) (by rfl)) (by rfl))))))) (by intro _; rfl)) (@pss_one _ _ _ (@ps_ret _ _ _ _ (@pe_cmpR _ _ _ _ _ _ _ _ (op_eqX hu) (@pe_callTy _ _ _ _ _ _ _ _ _ (call_listD rfl) rfl (hb _ (by decide)) bt_list (@pa_cX _ _ _ _ _ (@pv _ 8 _ _ (by rfl) (by first | exact Or.inl rfl | exact Or.inr (Or.inl rfl) | exact Or.inr (Or.inr rfl)) (by decide) (by decide)) (@pa_nil _) (by rfl)) (by decide) (by decide) (by rfl) (by rfl)) (@pe_callTy _ _ _ _ _ _ _ _ _ (call_listR rfl) rfl (hb _ (by decide)) bt_list (@pa_cX _ _ _ _ _ (@pe_callTy _ _ _ _ _ _ _ _ _ call_rngs rfl (hb _ (by decide)) bt_range (@pa_cX _ _ _ _ _ (@pe_callB _ _ _ _ _ _ _ _ _ call_lenX rfl (hb _ (by decide)) bt_len (@pa_cX _ _ _ _ _ (@pv _ 8 _ _ (by rfl) (by first | exact Or.inl rfl | exact Or.inr (Or.inl rfl) | exact Or.inr (Or.inr rfl)) (by decide) (by decide)) (@pa_nil _) (by rfl)) (by decide) (by decide) (by rfl) (by rfl)) (@pa_nil _) (by rfl)) (by decide) (by decide) (by rfl) (by rfl)) (@pa_nil _) (by rfl)) (by decide) (by decide) (by rfl) (by rfl)) (nomark _)))))))))))))), ?_⟩
    refine use3 (fun σ' H' => ∃ (r : Int) (pdr prs pr0 pa0 pl0 pr1 pa1 pl1 : Addr) (ps0 ps1 : List Addr) (ds0 ds1 : List (List Int)), σ' = [some (.ref sc), some (.int r), some (.ref pdr), some (.ref prs), none, none, none, none, none, none, none] ∧ H' prs = some (.tup [.ref pr0, .ref pr1]) ∧ Rdx H' pr0 pa0 pl0 ps0 ds0 [] ∧ Rdx H' pr1 pa1 pl1 ps1 ds1 [] ∧ Dok ds0 ∧ Dok ds1 ∧ (∃ d ∈ ds0, d ≠ []) ∧ (∃ d ∈ ds1, d ≠ []) ∧ (∀ b ∈ radr pa1 pl1 ps1, b ≠ pl0) ∧ (∀ b ∈ radr pa0 pl0 ps0, b ≠ pl1) ∧ SqL K H' sc (ns.map V.int)) ?key ?go
    case go =>
      intro R' hR
      simp (maxSteps := 1000000) only [rSumX, Nat.reduceSub, upd_same, HO.lst.injEq, Int.reduceLE, Nat.reduceAdd, tSl, rSlL, tNoPart, tPart, List.cons.injEq, tSeq, exists_and_left, tVar, tC, tAsg, gName, tCall, tCons, tNil, tCB, tLst, tTup, L2.start, List.map_cons, List.map_nil, List.length_cons, List.length_nil, List.replicate, List.cons_append, List.nil_append, List.getElem?_cons_zero, List.getElem?_cons_succ, List.set_cons_zero, List.set_cons_succ, Option.some.injEq, exists_eq_left', V.int.injEq, V.ref.injEq, and_true, true_and, and_assoc, List.append_nil, sp_cell]
      obtain ⟨c1, hc1⟩ := cutV_map ns none (some 1)
      refine ⟨_, hS, ?_⟩
      intro p1 n1
      generalize z1 : upd H p1 _ = H1
      obtain ⟨s1, e1⟩ := new_same z1 n1
      refine ⟨c1, hc1, ns, s1.seq hS, fun r => ⟨r, rfl, fun pdr b0 b1 H2 hpd epd s2 => ?_⟩⟩
      refine ⟨pdr, b0, b1, rfl, epd, fun pa0 ps0 ds0 m0 m1 H3 n3 hp3 DL3 Dk3 hn3 ed3 k3 => ⟨Nat.zero_le _, ?_⟩⟩
      intro p4 n4
      generalize z4 : upd H3 p4 _ = H4
      obtain ⟨s4, e4⟩ := new_same z4 n4
      refine ⟨by rw [sizeLine_eq]; decide, ?_⟩
      intro p5 n5
      generalize z5 : upd H4 p5 _ = H5
      obtain ⟨s5, e5⟩ := new_same z5 n5
      have ed5 := s5 _ _ (s4 _ _ ed3)
      refine ⟨pdr, m0, m1, rfl, ed5, fun pa1 ps1 ds1 j0 j1 H6 n6 hp6 DL6 Dk6 hn6 ed6 k6 => ⟨Nat.zero_le _, ?_⟩⟩
      intro p7 n7
      generalize z7 : upd H6 p7 _ = H7
      obtain ⟨s7, e7⟩ := new_same z7 n7
      refine ⟨by rw [sizeLine_eq]; decide, ?_⟩
      intro p8 n8
      generalize z8 : upd H7 p8 _ = H8
      obtain ⟨s8, e8⟩ := new_same z8 n8
      refine ⟨by rw [sizeLine_eq]; decide, ?_⟩
      intro p9 n9
      generalize z9 : upd H8 p9 _ = H9
      obtain ⟨s9, e9⟩ := new_same z9 n9
      have s69 := s7.trans (s8.trans s9)
      have a0d : pa0 ≠ pdr := fun z => by rw [z, epd] at n3; cases n3
      have p0d : ∀ b ∈ ps0, b ≠ pdr := fun b hb z => by have := (hp3 b hb).1; rw [z, epd] at this; cases this
      have e46 : H6 p4 = some (.lst []) := k6 _ _ (s5 _ _ e4) (by rw [List.mem_singleton]; exact Ne.symm (ne_of_none ed3 n4))
      have e56 : H6 p5 = some (.tup [.ref pa0, .ref p4]) := k6 _ _ e5 (by rw [List.mem_singleton]; exact ne_of e5 ed5 (by intro z; cases z))
      have DL06 : DL H6 pa0 ps0 ds0 := ((DL3.same s4).same s5).keep k6 (by rw [List.mem_singleton]; exact a0d) (fun b hb => by rw [List.mem_singleton]; exact p0d b hb)
      have lst3 : ∀ b ∈ ps0, ∃ xs, H3 b = some (.lst xs) := fun b hb => by
        obtain ⟨i, hi⟩ := List.mem_iff_getElem?.mp hb
        obtain ⟨d, _, eb⟩ := paired_get DL3.ed hi
        exact ⟨_, eb⟩
      have lst06 : ∀ b ∈ ps0, ∃ xs, H6 b = some (.lst xs) := fun b hb => by
        obtain ⟨i, hi⟩ := List.mem_iff_getElem?.mp hb
        obtain ⟨d, _, eb⟩ := paired_get DL06.ed hi
        exact ⟨_, eb⟩
      have lst16 : ∀ b ∈ ps1, ∃ xs, H6 b = some (.lst xs) := fun b hb => by
        obtain ⟨i, hi⟩ := List.mem_iff_getElem?.mp hb
        obtain ⟨d, _, eb⟩ := paired_get DL6.ed hi
        exact ⟨_, eb⟩
      have R06 : Rdx H6 p5 pa0 p4 ps0 ds0 [] := ⟨e56, DL06, ⟨[], e46, .nil⟩, Ne.symm (ne_of_none DL3.ea n4), fun hm => by
        obtain ⟨xs, eb⟩ := lst3 _ hm
        rw [n4] at eb; cases eb⟩
      have R19 : Rdx H9 p8 pa1 p7 ps1 ds1 [] := ⟨s9 _ _ e8, DL6.same s69, ⟨[], s9 _ _ (s8 _ _ e7), .nil⟩, Ne.symm (ne_of_none DL6.ea n7), fun hm => by
        obtain ⟨xs, eb⟩ := lst16 _ hm
        rw [n7] at eb; cases eb⟩
      have hpd0 : H pdr = none := s1.free hpd
      have sA : Same H H9 := fun b o e => by
        have hb : b ∉ [pdr] := by rw [List.mem_singleton]; exact ne_of_none e hpd0
        exact s69 _ _ (k6 _ _ (s5 _ _ (s4 _ _ (k3 _ _ (s2 _ _ (s1 _ _ e)) hb))) hb)
      refine hR _ _ ⟨_, pdr, p9, p5, pa0, p4, p8, pa1, p7, ps0, ps1, ds0, ds1, rfl, e9, R06.same s69, R19, Dk3, Dk6, hn3, hn6, fun b hb => ?_, fun b hb => ?_, sA.seq hS⟩
      · simp only [List.mem_cons] at hb
        rcases hb with rfl | rfl | hb
        · exact fun z => by rw [z, s5 _ _ e4] at n6; cases n6
        · exact Ne.symm (ne_of_none e46 n7)
        · exact fun z => by have := (hp6 b hb).1; rw [z, s5 _ _ e4] at this; cases this
      · simp only [List.mem_cons] at hb
        rcases hb with rfl | rfl | hb
        · exact ne_of_none DL06.ea n7
        · exact ne_of_none e46 n7
        · obtain ⟨xs, eb⟩ := lst06 b hb
          exact ne_of_none eb n7
    case key =>
      rintro σ H1 ⟨r, pdr, prs, pr0, pa0, pl0, pr1, pa1, pl1, ps0, ps1, ds0, ds1, rfl, ers, R0, R1, Dk0, Dk1, hn0, hn1, s0, s1, hS1⟩
      refine use6 (Pm0 Co Ci sc r) ?key2 ?go2
      case go2 =>
        intro R2 hR2
        have er0 := R0.er
        have er1 := R1.er
        simp (maxSteps := 1000000) only [rGet, getO_t, atI_0, atI_1, tDNewK, Int.reduceLT, Nat.reduceAdd, ne_eq, tMake, rCat, List.cons.injEq, tSeq, exists_and_left, tOp, tVar, tC, rI, rI0, tAsg, gName, tCall, tCons, tNil, tCB, tLst, tTup, List.length_cons, List.length_nil, List.getElem?_cons_zero, List.getElem?_cons_succ, List.set_cons_zero, List.set_cons_succ, Option.some.injEq, exists_eq_left', V.int.injEq, V.ref.injEq, and_true, true_and, and_assoc, List.append_nil, ers, er0, er1]
        have h0 := R0.dls.ed.length
        have h1 := R1.dls.ed.length
        have k80 := Dk0.1
        have k81 := Dk1.1
        refine ⟨_, R0.dls.ea, _, R1.dls.ea, by rw [List.length_map, List.length_map, sizeLine_eq]; omega, ?_⟩
        intro p2 n2
        generalize z2 : upd H1 p2 _ = H2
        obtain ⟨s2, e2⟩ := new_same z2 n2
        refine ⟨Nat.zero_le _, ?_⟩
        intro p3 n3
        generalize z3 : upd H2 p3 _ = H3
        obtain ⟨s3, e3⟩ := new_same z3 n3
        have s13 := s2.trans s3
        have hpr : Paired (fun (b : Addr) (ys : List V) => H3 b = some (.lst ys)) (ps0 ++ ps1) ((ds0 ++ ds1).map fun d => d.map V.int) := by
          rw [List.map_append]
          exact paired_append (paired_map2 (R0.dls.same s13).ed) (paired_map2 (R1.dls.same s13).ed)
        have hfl : ((ds0 ++ ds1).map fun d => d.map V.int).flatten = ((ds0 ++ ds1).flatten).map V.int := by rw [List.map_flatten]
        have hfl3 : ((ds0 ++ ds1).flatten).length ≤ 48 := by
          rw [List.flatten_append, List.length_append]
          have := flat_len Dk0
          have := flat_len Dk1
          omega
        refine ⟨p2, p3, ps0 ++ ps1, _, rfl, by rw [s3 _ _ e2, List.map_append], e3, hpr, ?_, by rw [hfl, List.length_map]; omega, ?_⟩
        · obtain ⟨d, hd, _⟩ := hn0
          have : 0 < ds0.length := List.length_pos_of_mem hd
          intro z
          rw [(List.append_eq_nil_iff.mp z).1] at h0
          have h0 : 0 = ds0.length := h0
          omega
        rw [hfl]
        intro p4 n4
        generalize z4 : upd H3 p4 _ = H4
        obtain ⟨s4, e4⟩ := new_same z4 n4
        have hne : (ds0 ++ ds1).flatten ≠ [] := by
          obtain ⟨d, hd, hdn⟩ := hn0
          intro z
          rw [List.flatten_eq_nil_iff] at z
          exact hdn (z d (List.mem_append_left _ hd))
        refine ⟨p4, _, rfl, e4, hne, fun lo hlo hlo2 => ?_⟩
        have s14 := s13.trans s4
        have ers4 := s14 _ _ ers
        have er04 := s14 _ _ er0
        have er14 := s14 _ _ er1
        simp (maxSteps := 1000000) only [getO_t, atI_0, Option.some.injEq, exists_eq_left', V.int.injEq, V.ref.injEq, ers4, er04]
        refine ⟨pa0, ps0, ds0, rfl, R0.dls.same s14, k80, fun H5 s5 => ?_⟩
        have ers5 := s5 _ _ ers4
        have er15 := s5 _ _ er14
        simp (maxSteps := 1000000) only [getO_t, atI_0, atI_1, Option.some.injEq, exists_eq_left', V.int.injEq, V.ref.injEq, ers5, er15]
        refine ⟨pa1, ps1, ds1, rfl, (R1.dls.same s14).same s5, k81, fun H6 s6 => ⟨_, rfl, ⟨by decide, by decide⟩, ?_⟩⟩
        intro x dx hx hdx _
        refine ⟨x, dx, _, rfl, upd_same, fun l H7 hl7 O7 k7 => ⟨rfl, ?_⟩⟩
        have s7 : Same H6 H7 := make_same hx hdx k7
        have hl6 : H6 l = none := (upd_none (upd_none hl7).2).2
        intro y dy hy hdy _
        refine ⟨y, dy, rfl, upd_same, rfl, by rw [sizeLine_eq]; decide, ?_⟩
        have s8 : Same H7 (upd (upd (upd H7 dy (.own y)) y (.ins Ci dy [])) y (.ins Ci dy (nf 0))) := ((Same.upd_new hdy).upd hy).upd hy
        have e8 : upd (upd (upd H7 dy (.own y)) y (.ins Ci dy [])) y (.ins Ci dy (nf 0)) y = some (.ins Ci dy (nf 0)) := upd_same
        generalize upd (upd (upd H7 dy (.own y)) y (.ins Ci dy [])) y (.ins Ci dy (nf 0)) = H8 at s8 e8 ⊢
        intro p9 n9
        generalize z9 : upd H8 p9 _ = H9
        obtain ⟨s9, e9⟩ := new_same z9 n9
        intro p10 n10
        generalize z10 : upd H9 p10 _ = H10
        obtain ⟨s10, e10⟩ := new_same z10 n10
        intro p11 n11
        generalize z11 : upd H10 p11 _ = H11
        obtain ⟨s11, e11⟩ := new_same z11 n11
        have s16 := s14.trans (s5.trans s6)
        have sB := s16.trans (s7.trans (s8.trans (s9.trans (s10.trans s11))))
        refine ⟨sc, ns, 2, rfl, by decide, sB.seq hS1, fun r2 => ⟨r2, rfl, fun pdr2 c0 c1 H12 hpd epd s12 => ?_⟩⟩
        have sC := sB.trans s12
        have s7C : Same H7 H12 := s8.trans (s9.trans (s10.trans (s11.trans s12)))
        have l01 : ∀ b ∈ radr pa0 pl0 ps0 ++ radr pa1 pl1 ps1, ∃ xs, H1 b = some (.lst xs) := fun b hb => by
          rcases List.mem_append.mp hb with hb | hb
          · exact R0.lists b hb
          · exact R1.lists b hb
        obtain ⟨g1, g2, g3⟩ := gap_hit hn0
        obtain ⟨g4, g5, g6⟩ := gap_hit hn1
        have dlm : ∀ {ds : List (List Int)} {t : Nat} {y : Int}, y ∈ dl ds t → ∃ d ∈ ds, y ∈ d := fun {ds t y} hy => by
          unfold dl at hy
          rw [List.getD_eq_getElem?_getD] at hy
          cases hd : ds[t % ds.length]? with
          | none => rw [hd] at hy; cases hy
          | some d => rw [hd] at hy; exact ⟨d, List.mem_of_getElem? hd, hy⟩
        have lo0 : ∀ t, ∀ y ∈ dl ds0 t, 1 ≤ y ∧ y ≤ lo := fun t y hy => by
          obtain ⟨d, hd, hyd⟩ := dlm hy
          exact ⟨((Dk0.2 d hd).2 y hyd).1, hlo2 y (List.mem_flatten.mpr ⟨d, List.mem_append_left _ hd, hyd⟩)⟩
        have lo1 : ∀ t, ∀ y ∈ dl ds1 t, 1 ≤ y ∧ y ≤ lo := fun t y hy => by
          obtain ⟨d, hd, hyd⟩ := dlm hy
          exact ⟨((Dk1.2 d hd).2 y hyd).1, hlo2 y (List.mem_flatten.mpr ⟨d, List.mem_append_right _ hd, hyd⟩)⟩
        have lole : 1 ≤ lo ∧ lo ≤ 9 := by
          obtain ⟨d, hd, hld⟩ := List.mem_flatten.mp hlo
          rcases List.mem_append.mp hd with hd | hd
          · exact (Dk0.2 d hd).2 lo hld
          · exact (Dk1.2 d hd).2 lo hld
        have dl3 : ∀ {ds : List (List Int)}, Dok ds → ∀ t, (dl ds t).length ≤ 3 := fun {ds} hD t => by
          unfold dl
          rw [List.getD_eq_getElem?_getD]
          cases hd : ds[t % ds.length]? with
          | none => exact Nat.zero_le _
          | some d => exact (hD.2 d (List.mem_of_getElem? hd)).1
        have hmx : gapOf ds0 ≤ (if gapOf ds1 > gapOf ds0 then gapOf ds1 else gapOf ds0) ∧ gapOf ds1 ≤ (if gapOf ds1 > gapOf ds0 then gapOf ds1 else gapOf ds0) ∧ (if gapOf ds1 > gapOf ds0 then gapOf ds1 else gapOf ds0) ≤ 8 := by split <;> omega
        generalize (if gapOf ds1 > gapOf ds0 then gapOf ds1 else gapOf ds0) = mx at hmx ⊢
        have hBd : Bd ds0 ds1 (mx + lo - 1) := ⟨fun s => by
            obtain ⟨j, hj, hne⟩ := g3 s
            cases hd : dl ds0 (s + j) with
            | nil => exact absurd hd hne
            | cons y r =>
              have := lo0 (s + j) y (by rw [hd]; exact .head _)
              exact ⟨j, y, by rw [hd]; exact .head _, this.1, by omega⟩, fun s => by
            obtain ⟨j, hj, hne⟩ := g6 s
            cases hd : dl ds1 (s + j) with
            | nil => exact absurd hd hne
            | cons y r =>
              have := lo1 (s + j) y (by rw [hd]; exact .head _)
              exact ⟨j, y, by rw [hd]; exact .head _, this.1, by omega⟩, fun t y hy => (lo0 t y hy).1, fun t y hy => (lo1 t y hy).1, dl3 Dk0, dl3 Dk1, by omega⟩
        refine hR2 _ _ ⟨⟨x, dx, y, dy, p9, prs, pr0, pa0, pl0, pr1, pa1, pl1, p10, p11, ps0, ps1, ds0, ds1, 1 + r / 2 % 16, mx + lo - 1⟩, pdr2, l, lo, rfl, ⟨⟨s12 _ _ (s11 _ _ (s10 _ _ e9)), O7.same s7C, s12 _ _ (s11 _ _ (s10 _ _ (s9 _ _ e8))), ne_of_none O7.ins hy⟩, sC _ _ ers, R0.same sC, R1.same sC, s12 _ _ (s11 _ _ e10), s12 _ _ e11, ne_of_none e10 n11, fun b hb => ?_, fun b hb => ?_, ?_, s0, s1, ⟨c0, c1, epd⟩⟩, hBd, Dk0, Dk1, (by obtain ⟨d, hd, _⟩ := hn0; exact List.length_pos_of_mem hd), (by obtain ⟨d, hd, _⟩ := hn1; exact List.length_pos_of_mem hd), by dsimp only; omega, by dsimp only; omega, by dsimp only; omega⟩
        · obtain ⟨xs, eb⟩ := l01 b hb
          exact ne_of_none (s16 _ _ eb) hl6
        · obtain ⟨xs, eb⟩ := l01 b hb
          exact ne_of_none (sB _ _ eb) hpd
        · obtain ⟨_, xs, el, _⟩ := O7
          exact ne_of_none (s11 _ _ (s10 _ _ (s9 _ _ (s8 _ _ el)))) hpd
      case key2 =>
        rintro σ H2 ⟨g, pdr, l, lo, rfl, W, B, Dk0, Dk1, hp0, hp1, hr1, hr2, hbd⟩
        simp (maxSteps := 1000000) only [tFor_eq, iRng1, List.cons.injEq, tSeq, tC, tCons, tNil, exists_eq_left', V.int.injEq, and_true, sg]
        refine ⟨by decide, by decide, for_range (n := (100 : Int).toNat) (Im0 Co Ci sc r g pdr lo) ⟨l, 0, 0, 0, [], [], [], [], [], _, _, rfl, W, .nil, Nat.le_refl _⟩ ?_ ?_⟩
        · rintro T σ H3 hT ⟨l, bs, tp, gt, pts, cts, lg0, lg1, hs, v9, v10, rfl, W3, X3, ht3⟩
          have hT : T < 100 := hT
          have eT : (0 : Int) + (T : Int) = (T : Int) := by omega
          simp (maxSteps := 1000000) only [tFor_eq, iRng1, List.cons.injEq, tSeq, tVar, tC, gName, tCall, tCons, tNil, tDrop, List.getElem?_cons_zero, List.getElem?_cons_succ, List.set_cons_zero, List.set_cons_succ, Option.some.injEq, exists_eq_left', and_true, List.append_nil, sg, eT]
          have n0 := X3.n0
          have n1 := X3.n1
          refine ⟨T, g.prs, g.plk, g.pq, g.x, g.dx, l, g.y, g.dy, g.pr0, g.pa0, g.pl0, g.pr1, g.pa1, g.pl1, g.ps0, g.ps1, g.ds0, g.ds1, lg0, lg1, g.rm, bs, tp, gt, cts, rfl, W3.ers, W3.lk, W3.r0, W3.r1, W3.eq, X3.cl, X3.b0, X3.b1, X3.o1, X3.o2, by omega, by omega, by omega, fun l4 H4 hl4 L4 eq4 k4 => ?_⟩
          have W4 := W3.came hl4 L4 eq4 k4
          have X4 := X3.come B
          generalize basA T lg1 bs = bs4 at W4 X4
          generalize gotA T lg0 gt = gt4 at W4 X4
          generalize (cts ++ List.replicate (gt4 - gt) (T : Int)) = cts4 at W4 X4
          simp (maxSteps := 1000000) only []
          refine W4.next (by decide) (by decide) fun rk H5 hk0 hk3 W5 => ⟨rk, rfl, by omega, by omega, for_range (n := rk.toNat) (Ik Co Ci sc r g pdr l4 lo T tp bs4 gt4 cts4 lg0 lg1 hs) ⟨tp, pts, _, rfl, W5, X4, by omega⟩ ?_ ?_⟩
          · rintro i σ H6 hi ⟨tp6, pts6, v10, rfl, W6, X6, ht6⟩
            have elk6 := W6.lk.elk
            have ex6 := W6.lk.out.ins
            have ep6 := W6.ep
            have hln := tbl_len pts6 0
            have hpl := X6.pl
            have ho1 := X6.o1
            have ho2 := X6.o2
            have hput := tbl_put pts6 (T : Int)
            have hlt : pts6.length < sizeLine := by rw [sizeLine_eq]; omega
            simp (maxSteps := 1000000) only [rGet, getO_t, rLenX, lenX_r, Option.bind_some, rSetX, gSub, atI_0, upd_same, HO.ins.injEq, tMeth, List.cons.injEq, tSeq, exists_and_left, if_false, Bool.false_eq_true, tIfS, tAnd, tTest, tOp, tVar, tC, rI0, tAsg, gName, tNext, tCons, tNil, tCB, tDrop, List.getElem?_cons_zero, List.getElem?_cons_succ, List.set_cons_zero, List.set_cons_succ, Option.some.injEq, exists_eq_left', V.int.injEq, V.bl.injEq, V.ref.injEq, and_true, true_and, and_assoc, List.append_nil, sg, elk6, ex6, lf_free]
            refine ⟨g.x, g.dx, l4, g.rm, (tp6 : Int), kp bs4 tp6, rfl, W6.lk.out, ?_⟩
            rw [kp_len]
            have stay : Ik Co Ci sc r g pdr l4 lo T tp bs4 gt4 cts4 lg0 lg1 hs (i + 1) (sg sc r g pdr lo (some (.int (T : Int))) (some (.int ((0 : Int) + (i : Int))))) H6 := ⟨tp6, pts6, _, rfl, W6, X6, by omega⟩
            simp (maxSteps := 1000000) only [lenO_d, Option.bind_some, setO_di', if_true, Option.some.injEq, exists_eq_left', V.int.injEq, ep6, hln, hlt, hput]
            refine ite2 (fun hroom => ite2 (fun h60 => ?_) (fun _ => stay)) (fun _ => stay)
            have hroom : 0 < g.rm - ((tp6 - bs4 : Nat) : Int) := of_decide_eq_true hroom
            have W7 := W6.dput (pts6 ++ [(T : Int)])
            generalize upd H6 g.pp (.dK (tbl (pts6 ++ [(T : Int)]))) = H7 at W7 ⊢
            have elk7 := W7.lk.elk
            have ex7 := W7.lk.out.ins
            have hln7 : (tbl (pts6 ++ [(T : Int)])).length = tp6 + 1 := by rw [tbl_len, List.length_append, hpl]; rfl
            have hi7 : (((tp6 + 1 : Nat) : Int) - 1) = (tp6 : Int) := by omega
            simp (maxSteps := 1000000) only [getO_t, atI_0, HO.ins.injEq, exists_and_left, Option.some.injEq, exists_eq_left', V.ref.injEq, true_and, and_assoc, elk7, ex7, lf_put, hln7, hi7]
            refine ⟨g.x, g.dx, l4, g.rm, (tp6 : Int), kp bs4 tp6, .int (tp6 : Int), .int (tp6 : Int), rfl, W7.lk.out, .int _, by simp [PyData.depth], by rw [kp_len]; omega, by rw [kp_len]; omega, fun H8 O8 k8 => ?_⟩
            rw [kp_snoc (by omega)] at O8
            exact ⟨tp6 + 1, pts6 ++ [(T : Int)], _, rfl, W7.oput O8 k8, X6.put, by omega⟩
          · rintro σ H6 ⟨tp6, pts6, v10, rfl, W6, X6, ht6⟩
            have elk6 := W6.lk.elk
            have hpl := X6.pl
            have ho1 := X6.o1
            have ho2 := X6.o2
            obtain ⟨hA, hB, hC⟩ := X6.lates B
            simp (maxSteps := 1000000) only [rGet, getO_t, tTruX, atI_0, tMeth, tFld, tSeq, exists_and_left, tIfS, tOp, tVar, tC, tRet, tNext, tCall, tCons, tNil, tDrop, List.getElem?_cons_zero, List.getElem?_cons_succ, Option.some.injEq, exists_eq_left', V.ref.injEq, List.append_nil, sg, elk6]
            refine ⟨g.x, g.dx, l4, g.pp, g.pq, g.rm, bs4, tp6, gt4, T, pts6, cts4, g.bd, rfl, W6.lk.out, W6.ep, W6.eq, hpl, X6.cl, ho2, by omega, by omega, hA, hB, hC, W6.npq, fun H7 s7 => ?_⟩
            have W7 := W6.same s7
            have elk7 := W7.lk.elk
            have ers7 := W7.ers
            have ex7 := W7.lk.out.ins
            simp (maxSteps := 1000000) only [getO_t, truX_b, atI_0, HO.ins.injEq, exists_and_left, if_false, Bool.false_eq_true, Option.some.injEq, exists_eq_left', V.ref.injEq, true_and, and_assoc, elk7, ers7, ex7, lf_parcels]
            refine ⟨g.x, g.dx, l4, g.rm, (tp6 : Int), kp bs4 tp6, rfl, W7.lk.out, by rw [kp_len]; omega, kp_depth, fun v H8 s8 hv8 => ?_⟩
            have W8 := W7.same s8
            have n0' := X6.n0
            have n1' := X6.n1
            refine ⟨g.pr0, g.pa0, g.pl0, g.ps0, g.ds0, lg0.map ltr0, T, v, _, rfl, W8.r0, hv8, hp0, fun d hd => (Dk0.2 d hd).1, Dk0.1, by rw [List.length_map]; omega, fun H9 R9 k9 => ?_⟩
            have hl0 : lg0.map ltr0 ++ (dl g.ds0 T).map (fun y => ((T : Int) + y, PyData.tuple ((kp bs4 tp6).map pd))) = (lg0 ++ (dl g.ds0 T).map fun y => ((T : Int) + y, bs4, tp6)).map ltr0 := by
              rw [List.map_append, List.map_map]
              rfl
            rw [hl0] at R9
            have W9 := W8.send0 R9 k9
            have elk9 := W9.lk.elk
            have ers9 := W9.ers
            have ey9 := W9.lk.inn
            have ny : NoAttr K Ci "got" := T_In.no _ (by decide)
            simp (maxSteps := 1000000) only [getO_t, atI_1, HO.ins.injEq, exists_and_left, Option.some.injEq, exists_eq_left', V.ref.injEq, true_and, and_assoc, elk9, ers9, ey9, T_In.cl, ny, nf_got]
            refine ⟨g.pr1, g.pa1, g.pl1, g.ps1, g.ds1, lg1.map ltr1, T, _, _, rfl, W9.r1, .int (gt4 : Int), hp1, fun d hd => (Dk1.2 d hd).1, Dk1.1, by rw [List.length_map]; omega, fun H10 R10 k10 => ?_⟩
            have hl1 : lg1.map ltr1 ++ (dl g.ds1 T).map (fun y => ((T : Int) + y, PyData.int (gt4 : Int))) = (lg1 ++ (dl g.ds1 T).map fun y => ((T : Int) + y, gt4)).map ltr1 := by
              rw [List.map_append, List.map_map]
              rfl
            rw [hl1] at R10
            have W10 := W9.send1 R10 k10
            exact ⟨l4, bs4, tp6, gt4, pts6, cts4, _, _, _, _, _, rfl, W10, X6.send B, by omega⟩
        · rintro σ H3 ⟨l, bs, tp, gt, pts, cts, lg0, lg1, hs, v9, v10, rfl, W3, X3, ht3⟩
          have eq3 := W3.eq
          simp (maxSteps := 1000000) only [rRngs, rListR, HO.rng.injEq, rListD, rLenX, lenX_r, upd_same, HO.dK.injEq, List.cons.injEq, exists_and_left, tOp, tVar, tRet, tCons, tNil, tCB, List.getElem?_cons_zero, List.getElem?_cons_succ, Option.some.injEq, exists_eq_left', V.int.injEq, V.ref.injEq, exists_const, and_true, reduceCtorEq, false_and, or_false, and_assoc, sg, eq3]
          intro l5 n5
          have s5 : Same H3 (upd H3 l5 (.lst ((tbl cts).map fun q => kV q.1))) := Same.upd_new n5
          have e5 : upd H3 l5 (.lst ((tbl cts).map fun q => kV q.1)) l5 = some (.lst ((tbl cts).map fun q => kV q.1)) := upd_same
          generalize upd H3 l5 (.lst ((tbl cts).map fun q => kV q.1)) = H5 at s5 e5 ⊢
          have eq5 := s5 _ _ eq3
          have hgl : gt ≤ 200 := by have := X3.o2; have : ((100 : Int).toNat) = 100 := rfl; omega
          refine ⟨(tbl cts).length, by rw [eq5]; rfl, fun p6 n6 => ?_⟩
          rw [tbl_len, X3.cl]
          refine ⟨by decide, by decide, by omega, by omega, by omega, ?_⟩
          have s6 : Same H5 (upd H5 p6 (.rng 0 (gt : Int))) := Same.upd_new n6
          generalize upd H5 p6 (.rng 0 (gt : Int)) = H6 at s6 ⊢
          intro p7 n7
          generalize z7 : upd H6 p7 _ = H7
          obtain ⟨s7, e7⟩ := new_same z7 n7
          rw [tbl_keys, X3.cl] at e5
          have e57 := s7 _ _ (s6 _ _ e5)
          have hr1 : (List.range' 0 gt).map (fun (i : Nat) => V.int (i : Int)) = ((List.range gt).map fun (i : Nat) => (i : Int)).map V.int := by
            rw [List.map_map, List.range_eq_range']
            rfl
          have hr2 : ((List.range ((gt : Int) - 0).toNat).map fun (i : Nat) => (0 : Int) + (i : Int)) = (List.range gt).map fun (i : Nat) => (i : Int) := by
            rw [show ((gt : Int) - 0).toNat = gt by omega]
            apply List.map_congr_left
            intro i _
            omega
          rw [hr1] at e57
          rw [hr2] at e7
          exact eqX_same (.l e57 (ims_int _)) (.l e7 (ims_int _)) (dep_il _) (q _)
end
end K22
namespace K22
open PySem L2 K04
section
variable {P : Program} {w : World} {K : PySem.W.Frag} {mg : Str → Option Value} {C D : Addr}
theorem mk_Out {h : Heap} (X : K.In h) (G : h.Ns mainGlobals mg) {C f0 f1 f2 f3 f4 : Addr} {od0 an0 od1 an1 od2 an2 od3 an3 od4 an4 : Option Addr} {sl0 sl1 sl2 sl3 sl4 : Array (Option Value)} {oc0 kV0 dc0 pm0 cd0 ct0 oc1 kV1 dc1 pm1 cd1 ct1 oc2 kV2 dc2 pm2 cd2 ct2 oc3 kV3 dc3 pm3 cd3 ct3 oc4 kV4 dc4 pm4 cd4 ct4 : Value}
    (aC : PySem.W.nsIn K mainGlobals "Out" = some (some (.ref C))) (pg : PySem.W.plainGet K C Str.empty = true) (hd : PySem.W.hasDictIn K C = true) (po : PySem.W.plainOver K C = true) (sa : PySem.W.findIn K (.ref C) "__setattr__" = some (some (.builtin "object.__setattr__")))
    (n0 : PySem.W.findIn K (.ref C) "room" = some none) (n1 : PySem.W.findIn K (.ref C) "given" = some none) (n2 : PySem.W.findIn K (.ref C) "kept" = some none) (mk : PySem.W.makesIn K C = true) (kc : PySem.W.keepIn K (.ref C) = true)
    (a0 : PySem.W.findIn K (.ref C) "__init__" = some (some (.ref f0))) (i0 : PySem.W.isFn K (.ref f0) = true) (l0 : K.lookup f0 = some ⟨oc0, od0, .func (PySem.W.fnOf "__init__" "Out.__init__" (defArgs s_Out___init__) (defBody s_Out___init__) (defScope s_Out___init__) .none kV0 dc0 pm0 an0 cd0 ct0), sl0⟩) (c0 : PySem.W.codeIn K cd0 "Out.__init__" = true) (k0 : PySem.W.keepIn K (.ref f0) = true)
    (a1 : PySem.W.findIn K (.ref C) "free" = some (some (.ref f1))) (i1 : PySem.W.isFn K (.ref f1) = true) (l1 : K.lookup f1 = some ⟨oc1, od1, .func (PySem.W.fnOf "free" "Out.free" (defArgs s_Out_free) (defBody s_Out_free) (defScope s_Out_free) .none kV1 dc1 pm1 an1 cd1 ct1), sl1⟩) (c1 : PySem.W.codeIn K cd1 "Out.free" = true) (k1 : PySem.W.keepIn K (.ref f1) = true)
    (a2 : PySem.W.findIn K (.ref C) "put" = some (some (.ref f2))) (i2 : PySem.W.isFn K (.ref f2) = true) (l2 : K.lookup f2 = some ⟨oc2, od2, .func (PySem.W.fnOf "put" "Out.put" (defArgs s_Out_put) (defBody s_Out_put) (defScope s_Out_put) .none kV2 dc2 pm2 an2 cd2 ct2), sl2⟩) (c2 : PySem.W.codeIn K cd2 "Out.put" = true) (k2 : PySem.W.keepIn K (.ref f2) = true)
    (a3 : PySem.W.findIn K (.ref C) "told" = some (some (.ref f3))) (i3 : PySem.W.isFn K (.ref f3) = true) (l3 : K.lookup f3 = some ⟨oc3, od3, .func (PySem.W.fnOf "told" "Out.told" (defArgs s_Out_told) (defBody s_Out_told) (defScope s_Out_told) .none kV3 dc3 pm3 an3 cd3 ct3), sl3⟩) (c3 : PySem.W.codeIn K cd3 "Out.told" = true) (k3 : PySem.W.keepIn K (.ref f3) = true)
    (a4 : PySem.W.findIn K (.ref C) "parcels" = some (some (.ref f4))) (i4 : PySem.W.isFn K (.ref f4) = true) (l4 : K.lookup f4 = some ⟨oc4, od4, .func (PySem.W.fnOf "parcels" "Out.parcels" (defArgs s_Out_parcels) (defBody s_Out_parcels) (defScope s_Out_parcels) .none kV4 dc4 pm4 an4 cd4 ct4), sl4⟩) (c4 : PySem.W.codeIn K cd4 "Out.parcels" = true) (k4 : PySem.W.keepIn K (.ref f4) = true)
    : ∃ C, ClsD K mg "Out" C oAttrs ∧ DefI K C "Out.__init__" s_Out___init__ ∧ DefM K C "free" "Out.free" s_Out_free ∧ DefM K C "put" "Out.put" s_Out_put ∧ DefM K C "told" "Out.told" s_Out_told ∧ DefM K C "parcels" "Out.parcels" s_Out_parcels := by
  refine ⟨C, ⟨PySem.W.mg_of X G aC, ⟨pg, hd, po, sa⟩, fun f hf => ?_⟩, defI_mk a0 i0 l0 c0 k0 mk kc, defM_mk a1 i1 l1 c1 k1, defM_mk a2 i2 l2 c2 k2, defM_mk a3 i3 l3 c3 k3, defM_mk a4 i4 l4 c4 k4⟩
  simp only [List.mem_cons, List.not_mem_nil, or_false] at hf
  rcases hf with rfl | rfl | rfl
  · exact n0
  · exact n1
  · exact n2
theorem mk_In {h : Heap} (X : K.In h) (G : h.Ns mainGlobals mg) {C f0 f1 : Addr} {od0 an0 od1 an1 : Option Addr} {sl0 sl1 : Array (Option Value)} {oc0 kV0 dc0 pm0 cd0 ct0 oc1 kV1 dc1 pm1 cd1 ct1 : Value}
    (aC : PySem.W.nsIn K mainGlobals "In" = some (some (.ref C))) (pg : PySem.W.plainGet K C Str.empty = true) (hd : PySem.W.hasDictIn K C = true) (po : PySem.W.plainOver K C = true) (sa : PySem.W.findIn K (.ref C) "__setattr__" = some (some (.builtin "object.__setattr__")))
    (n0 : PySem.W.findIn K (.ref C) "got" = some none) (mk : PySem.W.makesIn K C = true) (kc : PySem.W.keepIn K (.ref C) = true)
    (a0 : PySem.W.findIn K (.ref C) "__init__" = some (some (.ref f0))) (i0 : PySem.W.isFn K (.ref f0) = true) (l0 : K.lookup f0 = some ⟨oc0, od0, .func (PySem.W.fnOf "__init__" "In.__init__" (defArgs s_In___init__) (defBody s_In___init__) (defScope s_In___init__) .none kV0 dc0 pm0 an0 cd0 ct0), sl0⟩) (c0 : PySem.W.codeIn K cd0 "In.__init__" = true) (k0 : PySem.W.keepIn K (.ref f0) = true)
    (a1 : PySem.W.findIn K (.ref C) "took" = some (some (.ref f1))) (i1 : PySem.W.isFn K (.ref f1) = true) (l1 : K.lookup f1 = some ⟨oc1, od1, .func (PySem.W.fnOf "took" "In.took" (defArgs s_In_took) (defBody s_In_took) (defScope s_In_took) .none kV1 dc1 pm1 an1 cd1 ct1), sl1⟩) (c1 : PySem.W.codeIn K cd1 "In.took" = true) (k1 : PySem.W.keepIn K (.ref f1) = true)
    : ∃ C, ClsD K mg "In" C iAttrs ∧ DefI K C "In.__init__" s_In___init__ ∧ DefM K C "took" "In.took" s_In_took := by
  refine ⟨C, ⟨PySem.W.mg_of X G aC, ⟨pg, hd, po, sa⟩, fun f hf => ?_⟩, defI_mk a0 i0 l0 c0 k0 mk kc, defM_mk a1 i1 l1 c1 k1⟩
  simp only [List.mem_cons, List.not_mem_nil, or_false] at hf
  subst hf
  exact n0
theorem last {fa : Addr} (D1 : Def K mg "own_copy" s_own_copy) (D2 : DefI K C "Out.__init__" s_Out___init__) (D3 : DefM K C "free" "Out.free" s_Out_free) (D4 : DefM K C "put" "Out.put" s_Out_put) (D5 : DefM K C "told" "Out.told" s_Out_told) (D6 : DefM K C "parcels" "Out.parcels" s_Out_parcels)
    (D7 : DefI K D "In.__init__" s_In___init__) (D8 : DefM K D "took" "In.took" s_In_took) (L1 : Def K mg "_law_draw" s__law_draw) (L2 : Def K mg "_law_next" s__law_next) (L3 : Def K mg "_law_cell_at" s__law_cell_at) (L4 : Def K mg "_law_deeds" s__law_deeds) (L5 : Def K mg "_law_gap" s__law_gap) (L6 : Def K mg "_law_sends" s__law_sends) (L7 : Def K mg "_law_due" s__law_due) (L8 : Def K mg "_law_turn" s__law_turn) (L9 : Def K mg "_law_late" s__law_late) (DE : Def K mg "law" s_law)
    (T1 : ClsD K mg "Out" C oAttrs) (T2 : ClsD K mg "In" D iAttrs) (hb : Blt mg) (hsum : mg "sum" = none) (hmg : mg "law" = some (.ref fa)) :
    ∃ fd : FuncData, (∀ (s : Shared) (u : Value), BindsTo s fd ⟨[u], []⟩ [("_law_script", u)]) ∧ ∀ base : Heap, K.In base → base.Ns mainGlobals mg → FnOk P w K mg base CX0 9 fa fd ["_law_script"] (sp_law K) := by
  obtain ⟨f, fd, hm, F⟩ := DE
  have e := hmg.symm.trans hm
  cases e
  refine ⟨fd, ?_, fun base _ _ => law_fn F hb hsum T1 T2 (own_oinit D2 T1) (own_iinit D7 T2) (own_free D3 hb T1) (own_put D4 hb T1 (own_cpy D1 hb 3)) (own_parcels D6 hb T1 (own_cpy D1 hb 5)) (own_cell L3 hb) (own_draw L1) (own_next L2) (own_ldeeds L4 hb (own_next L2)) (own_gap L5 hb) (own_sends L6 hb) (own_turn L8 hb T1 T2 (own_due L7) (own_took D8 hb T2 (own_cpy D1 hb 3)) (own_told D5 hb T1)) (own_late L9 hb T1 (own_parcels D6 hb T1 (own_cpy D1 hb 5)))⟩
  obtain ⟨oc, od, kV, doc, pm, an, cdv, ct, osl, rfl, lk, hcd⟩ := F.ex
  exact fun s u => .of_eq rfl
end
end K22
open PySem PySem.W PyProof.Rows
set_option maxHeartbeats 0 in
theorem PySem.Challenge.cw_roadnet_k22_whole_a_link_in_time_holds : PySem.Challenge.rw_roadnet_k22_whole_a_link_in_time.Holds := by
  w_on; o_law; k_head; (case hw => w_witness2)
  k_fill
  refine L2.walk_ofK (l := PySem.Challenge.rw_roadnet_k22_whole_a_link_in_time) (n := 63) (k := 9) (x := "_law_script") (CX := L2.CX0) (sp := K22.sp_law) rfl (by decide) rfl ⟨rfl, by decide, by decide⟩ (fun w h Y => PySem.W.kIn_of Y) ?F (fun _ _ a ns hl _ hS => ⟨a, ns, rfl, hS, hl, fun _ => rfl⟩) fun _ _ _ _ z => z
  case F =>
    intro w mg fa h KX G hmg
    have D_own_copy : L2.Def (L2.KOf KX) mg "own_copy" K22.s_own_copy := by
      dsimp only [L2.KOf]
      refine' L2.def_mk KX G ?a ?l ?c ?k
      (case a => k_is); (case l => k_is); (case c => k_is); (case k => k_is)
    have D__law_draw : L2.Def (L2.KOf KX) mg "_law_draw" K22.s__law_draw := by
      dsimp only [L2.KOf]
      refine' L2.def_mk KX G ?a ?l ?c ?k
      (case a => k_is); (case l => k_is); (case c => k_is); (case k => k_is)
    have D__law_next : L2.Def (L2.KOf KX) mg "_law_next" K22.s__law_next := by
      dsimp only [L2.KOf]
      refine' L2.def_mk KX G ?a ?l ?c ?k
      (case a => k_is); (case l => k_is); (case c => k_is); (case k => k_is)
    have D__law_cell_at : L2.Def (L2.KOf KX) mg "_law_cell_at" K22.s__law_cell_at := by
      dsimp only [L2.KOf]
      refine' L2.def_mk KX G ?a ?l ?c ?k
      (case a => k_is); (case l => k_is); (case c => k_is); (case k => k_is)
    have D__law_deeds : L2.Def (L2.KOf KX) mg "_law_deeds" K22.s__law_deeds := by
      dsimp only [L2.KOf]
      refine' L2.def_mk KX G ?a ?l ?c ?k
      (case a => k_is); (case l => k_is); (case c => k_is); (case k => k_is)
    have D__law_gap : L2.Def (L2.KOf KX) mg "_law_gap" K22.s__law_gap := by
      dsimp only [L2.KOf]
      refine' L2.def_mk KX G ?a ?l ?c ?k
      (case a => k_is); (case l => k_is); (case c => k_is); (case k => k_is)
    have D__law_sends : L2.Def (L2.KOf KX) mg "_law_sends" K22.s__law_sends := by
      dsimp only [L2.KOf]
      refine' L2.def_mk KX G ?a ?l ?c ?k
      (case a => k_is); (case l => k_is); (case c => k_is); (case k => k_is)
    have D__law_due : L2.Def (L2.KOf KX) mg "_law_due" K22.s__law_due := by
      dsimp only [L2.KOf]
      refine' L2.def_mk KX G ?a ?l ?c ?k
      (case a => k_is); (case l => k_is); (case c => k_is); (case k => k_is)
    have D__law_turn : L2.Def (L2.KOf KX) mg "_law_turn" K22.s__law_turn := by
      dsimp only [L2.KOf]
      refine' L2.def_mk KX G ?a ?l ?c ?k
      (case a => k_is); (case l => k_is); (case c => k_is); (case k => k_is)
    have D__law_late : L2.Def (L2.KOf KX) mg "_law_late" K22.s__law_late := by
      dsimp only [L2.KOf]
      refine' L2.def_mk KX G ?a ?l ?c ?k
      (case a => k_is); (case l => k_is); (case c => k_is); (case k => k_is)
    have D_law : L2.Def (L2.KOf KX) mg "law" K22.s_law := by
      dsimp only [L2.KOf]
      refine' L2.def_mk KX G ?a ?l ?c ?k
      (case a => k_is); (case l => k_is); (case c => k_is); (case k => k_is)
    have Z_Out : ∃ C, L2.ClsD (L2.KOf KX) mg "Out" C K22.oAttrs ∧ L2.DefI (L2.KOf KX) C "Out.__init__" K22.s_Out___init__ ∧ L2.DefM (L2.KOf KX) C "free" "Out.free" K22.s_Out_free ∧ L2.DefM (L2.KOf KX) C "put" "Out.put" K22.s_Out_put ∧ L2.DefM (L2.KOf KX) C "told" "Out.told" K22.s_Out_told ∧ L2.DefM (L2.KOf KX) C "parcels" "Out.parcels" K22.s_Out_parcels := by
      dsimp only [L2.KOf]
      refine' K22.mk_Out KX G ?aC ?pg ?hd ?po ?sa ?n0 ?n1 ?n2 ?mk ?kc ?a0 ?i0 ?l0 ?c0 ?k0 ?a1 ?i1 ?l1 ?c1 ?k1 ?a2 ?i2 ?l2 ?c2 ?k2 ?a3 ?i3 ?l3 ?c3 ?k3 ?a4 ?i4 ?l4 ?c4 ?k4
      (case aC => k_is)
      (case pg => k_is)
      (case hd => k_is)
      (case po => k_is)
      (case sa => k_is)
      (case n0 => k_is)
      (case n1 => k_is)
      (case n2 => k_is)
      (case mk => k_is)
      (case kc => k_is)
      (case a0 => k_is)
      (case i0 => k_is)
      (case l0 => k_is)
      (case c0 => k_is)
      (case k0 => k_is)
      (case a1 => k_is)
      (case i1 => k_is)
      (case l1 => k_is)
      (case c1 => k_is)
      (case k1 => k_is)
      (case a2 => k_is)
      (case i2 => k_is)
      (case l2 => k_is)
      (case c2 => k_is)
      (case k2 => k_is)
      (case a3 => k_is)
      (case i3 => k_is)
      (case l3 => k_is)
      (case c3 => k_is)
      (case k3 => k_is)
      (case a4 => k_is)
      (case i4 => k_is)
      (case l4 => k_is)
      (case c4 => k_is)
      (case k4 => k_is)
    obtain ⟨C_Out, T_Out, DI_Out, DM_Out_free, DM_Out_put, DM_Out_told, DM_Out_parcels⟩ := Z_Out
    have Z_In : ∃ C, L2.ClsD (L2.KOf KX) mg "In" C K22.iAttrs ∧ L2.DefI (L2.KOf KX) C "In.__init__" K22.s_In___init__ ∧ L2.DefM (L2.KOf KX) C "took" "In.took" K22.s_In_took := by
      dsimp only [L2.KOf]
      refine' K22.mk_In KX G ?aC ?pg ?hd ?po ?sa ?n0 ?mk ?kc ?a0 ?i0 ?l0 ?c0 ?k0 ?a1 ?i1 ?l1 ?c1 ?k1
      (case aC => k_is)
      (case pg => k_is)
      (case hd => k_is)
      (case po => k_is)
      (case sa => k_is)
      (case n0 => k_is)
      (case mk => k_is)
      (case kc => k_is)
      (case a0 => k_is)
      (case i0 => k_is)
      (case l0 => k_is)
      (case c0 => k_is)
      (case k0 => k_is)
      (case a1 => k_is)
      (case i1 => k_is)
      (case l1 => k_is)
      (case c1 => k_is)
      (case k1 => k_is)
    obtain ⟨C_In, T_In, DI_In, DM_In_took⟩ := Z_In
    have hb : L2.Blt mg := by
      refine' L2.blt_mk (K := L2.KOf KX) KX G ?b1 ?b2 ?b3 ?b4 ?b5 ?b6 ?b7 ?b8 ?b9 ?b10 ?b11 ?b12 ?b13
      all_goals (dsimp only [L2.KOf]; k_is)
    have hsum : mg "sum" = none := by
      have z : PySem.W.nsIn (L2.KOf KX) mainGlobals "sum" = some none := by
        dsimp only [L2.KOf]
        k_is
      exact PySem.W.mg_none_of KX G z
    exact K22.last D_own_copy DI_Out DM_Out_free DM_Out_put DM_Out_told DM_Out_parcels DI_In DM_In_took D__law_draw D__law_next D__law_cell_at D__law_deeds D__law_gap D__law_sends D__law_due D__law_turn D__law_late D_law T_Out T_In hb hsum hmg
#print axioms PySem.Challenge.cw_roadnet_k22_whole_a_link_in_time_holds
