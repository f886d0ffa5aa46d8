import PyProof.Rows.All
import Wide.All
import OpenK.AllK
import Wide.FinOn
import Lean
import PyProof.EqAt
import PyProof.EqKinds
import PyProof.TupleCall
import PyProof.NeData
import PyProof.EqLayable
import PyProof.ConsumeWalk
import PyProof.StrWalks
import PyProof.FString5
import PyProof.CallStr
import KE.KDictList
import KE.KDictSum
import PyProof.Rows.SortWalk
import PyProof.ListRange
import PyProof.StationsW
import PyProof.ExcClass2
import PyProof.ExcInit
import PyProof.Rows.FStr
import PyProof.FString
import PyProof.ExcBaseAll.ValueError
import OpenK.KOwn
import PyProof.RulesAs
import PyProof.NsDelKeeps
import KE.KIsAll
import PyProof.ExcArgs
import OpenK.KCls
import PyProof.InstStoreFacts
import OpenK.KMake
import PyProof.EnumFor
import PyProof.EnumMake
import PyProof.EnumStmt
import PyProof.DictWalks
import PyProof.DictItems
import KE.KEqDict
import PyProof.Claim2Refuses
import KE.KDictLaws
import PyProof.WalkInts
import KE.KSortTup
import KE.KNest
import KE.KLam
import KE.KNestM
import PyProof.DictUpdate
import KE.KMinKey
import PyProof.MeetsStr
import PySem.Challenge.RW_roadnet_k83_rows_told_as_text
set_option Elab.async false
set_option linter.all false
set_option maxRecDepth 100000
/-! THE HAND LAYER, for ints, bools, texts, own classes, LISTS and tuples (index, slices, in, append, pop ..), calls, loops. Paste it whole ahead of your own text; what your proof does not reach may be deleted. -/
namespace L2
open PySem PySem.Spec PyProof.Rows

/-- a key: an int or a str -/
abbrev Key := Sum Int Str
def keyIs : Key → Value → Bool
  | .inl k, v => Value.isInt k v
  | .inr x, v => Value.isStrOf x v
def keyH (w : World) : Key → Int
  | .inl k => hashInt k
  | .inr x => hashStr w x
theorem keyIs_shape : ∀ {k : Key} {v : Value}, keyIs k v = true → (∃ i t, k = Sum.inl i ∧ v = Value.int i t) ∨ (∃ x t, k = Sum.inr x ∧ v = Value.str x t)
  | .inl i, v, h => by
    obtain ⟨t, e⟩ := Value.isInt_shape (k := i) (v := v) h
    exact .inl ⟨i, t, rfl, e⟩
  | .inr x, v, h => by
    obtain ⟨t, e⟩ := Value.isStrOf_shape (x := x) (v := v) h
    exact .inr ⟨x, t, rfl, e⟩
theorem keyIs_int (i : Int) (t : Tok) : keyIs (.inl i) (.int i t) = true := by simp [keyIs, Value.isInt]
theorem keyIs_str (x : Str) (t : Tok) : keyIs (.inr x) (.str x t) = true := by simp [keyIs, Value.isStrOf]
theorem key_ll (a b : Int) : decide ((Sum.inl a : Key) = Sum.inl b) = (a == b) := by
  by_cases e : a = b
  · subst e; simp
  · have h : ¬ (Sum.inl a : Key) = Sum.inl b := fun q => e (Sum.inl.inj q)
    rw [decide_eq_false h]
    exact (beq_eq_false_iff_ne.mpr e).symm
theorem key_rr (a b : Str) : decide ((Sum.inr a : Key) = Sum.inr b) = decide (a = b) := by
  by_cases e : a = b
  · subst e; simp
  · have h : ¬ (Sum.inr a : Key) = Sum.inr b := fun q => e (Sum.inr.inj q)
    rw [decide_eq_false h, decide_eq_false e]
theorem key_lr (a : Int) (b : Str) : decide ((Sum.inl a : Key) = Sum.inr b) = false := decide_eq_false (fun q => nomatch q)
theorem key_rl (a : Str) (b : Int) : decide ((Sum.inr a : Key) = Sum.inl b) = false := decide_eq_false (fun q => nomatch q)

def mixKind (prog : Program) (w : World) : PySem.KeyKind prog w Key where
  is := keyIs
  hash := keyH w
  inj := fun v a b ha hb => by
    rcases keyIs_shape ha with ⟨i, t, rfl, rfl⟩ | ⟨x, t, rfl, rfl⟩
    · rcases keyIs_shape hb with ⟨j, u, rfl, e⟩ | ⟨y, u, rfl, e⟩
      · injection e with e1 _; rw [e1]
      · exact nomatch e
    · rcases keyIs_shape hb with ⟨j, u, rfl, e⟩ | ⟨y, u, rfl, e⟩
      · exact nomatch e
      · injection e with e1 _; rw [e1]
  byValue := fun k v h => by
    rcases keyIs_shape h with ⟨i, t, rfl, rfl⟩ | ⟨x, t, rfl, rfl⟩ <;> rfl
  pyHash := fun hv h => by
    rcases keyIs_shape hv with ⟨i, t, rfl, rfl⟩ | ⟨x, t, rfl, rfl⟩
    · exact wpAny_pyHash_int h
    · exact wpAny_pyHash_str h
  eqBool := fun hu hv h => by
    rcases keyIs_shape hu with ⟨i, t, rfl, rfl⟩ | ⟨x, t, rfl, rfl⟩
    · rcases keyIs_shape hv with ⟨j, u, rfl, rfl⟩ | ⟨y, u, rfl, rfl⟩
      · rw [key_ll] at h; exact wpAny_eqBool_int h
      · rw [key_lr] at h; exact SeqAt.EqAt.int_str i t y u _ _ _ _ h
    · rcases keyIs_shape hv with ⟨j, u, rfl, rfl⟩ | ⟨y, u, rfl, rfl⟩
      · rw [key_rl] at h; exact SeqAt.EqAt.str_int x t j u _ _ _ _ h
      · rw [key_rr] at h; exact wpAny_eqBool_str h
  «strs» := fun k x t v h => by
    rcases keyIs_shape h with ⟨i, u, rfl, e⟩ | ⟨y, u, rfl, e⟩
    · exact nomatch e
    · injection e with e1 _
      subst e1
      cases v <;> rfl

theorem mixKind_int (prog : Program) (w : World) (i : Int) (t : Tok) : (mixKind prog w).is (.inl i) (.int i t) = true := keyIs_int i t
theorem mixKind_str (prog : Program) (w : World) (x : Str) (t : Tok) : (mixKind prog w).is (.inr x) (.str x t) = true := keyIs_str x t
end L2

namespace L2
open PySem PySem.Spec PyProof.Rows

/-- a value, without the heap -/
inductive V where
  | non | bl (b : Bool) | int (i : Int) | str (x : Str) | byt (b : Array UInt8) | flt (b : UInt64) | ref (a : Addr) | ty (n : String)
  deriving DecidableEq

def RelV : V → Value → Prop
  | .non, u => u = Value.none
  | .bl b, u => u = Value.bool b
  | .int i, u => ∃ t, u = Value.int i t
  | .str x, u => ∃ t, u = Value.str x t
  | .byt b, u => ∃ t, u = Value.bytes b t
  | .flt b, u => ∃ t, u = Value.float b t
  | .ref a, u => u = Value.ref a
  | .ty n, u => u = Value.type n

abbrev Vals : List V → List Value → Prop := Paired RelV
theorem Vals.length {xs : List V} {us : List Value} (r : Vals xs us) : xs.length = us.length := Paired.length r
theorem Vals.get : ∀ {xs : List V} {us : List Value} {i : Nat} {x : V}, Vals xs us → xs[i]? = some x → ∃ u, us[i]? = some u ∧ RelV x u
  | _, _, _, _, .nil, e => by simp at e
  | _, _, 0, _, .cons r _, e => by simp at e; subst e; exact ⟨_, rfl, r⟩
  | _, _, i + 1, x, .cons _ t, e => by
    obtain ⟨u, h1, h2⟩ := Vals.get (i := i) (x := x) t (by simpa using e)
    exact ⟨u, by simpa using h1, h2⟩
theorem Vals.set {x : V} {u : Value} (r : RelV x u) : ∀ {xs : List V} {us : List Value} (i : Nat), Vals xs us → Vals (xs.set i x) (us.set i u)
  | _, _, _, .nil => .nil
  | _, _, 0, .cons _ t => .cons r t
  | _, _, i + 1, .cons q t => .cons q (Vals.set r i t)
theorem Vals.append : ∀ {xs ys : List V} {us ws : List Value}, Vals xs us → Vals ys ws → Vals (xs ++ ys) (us ++ ws)
  | _, _, _, _, .nil, s => s
  | _, _, _, _, .cons r t, s => .cons r (Vals.append t s)
theorem Vals.take : ∀ {xs : List V} {us : List Value} (n : Nat), Vals xs us → Vals (xs.take n) (us.take n)
  | _, _, 0, _ => .nil
  | _, _, _ + 1, .nil => .nil
  | _, _, n + 1, .cons r t => .cons r (Vals.take n t)
theorem Vals.drop : ∀ {xs : List V} {us : List Value} (n : Nat), Vals xs us → Vals (xs.drop n) (us.drop n)
  | _, _, 0, r => r
  | _, _, _ + 1, .nil => .nil
  | _, _, n + 1, .cons _ t => Vals.drop n t
def RelO : Option V → Option Value → Prop
  | some v, some u => RelV v u
  | none, none => True
  | _, _ => False
def KV {κ : Type} : List (κ × V) → List (κ × Value) → Prop := Paired fun (p : κ × V) (q : κ × Value) => p.1 = q.1 ∧ RelV p.2 q.2

/-- a key of a dict (00_mix): an int or a text -/
def kV : Key → V
  | .inl i => .int i
  | .inr x => .str x

/-- what stands at a tracked address -/
inductive HO where
  /-- a list -/
  | lst (xs : List V)
  /-- a tuple (never changes) -/
  | tup (xs : List V)
  /-- a dict whose keys are ints and texts; one whose keys are tuples of ints and texts (the empty one is both) -/
  | dK (kvs : List (Key × V)) | dT (kvs : List (List Key × V))
  /-- a set of ints: its members, its size -/
  | set (S : Int → Bool) (n : Nat)
  /-- an instance of the class at C, its dict at dx, its attributes -/
  | ins (C dx : Addr) (fs : List (Str × V))
  /-- the dict of the instance at x -/
  | own (x : Addr)
  /-- the dict of an exception -/
  | xd (fs : List (Str × V))
  /-- a bound method, f of x -/
  | met (f x : Addr)
  /-- a range object lo, lo + 1, .. below hi -/
  | rng (lo hi : Int)
  /-- a thing that is known to the object (the script; a dict while a loop walks it): read, never written while it is so -/
  | frz (o : Obj) (u : HO)
  /-- a code object's table -/
  | tbl (ps : Array Value)
  /-- any other thing, by what is true of its one object (a def of one's own: SetO a S n := HO.ext fun h => ..) -/
  | ext (φ : Heap → Prop)

abbrev Hp := Addr → Option HO
def upd (H : Hp) (a : Addr) (o : HO) : Hp := fun b => if b = a then some o else H b
theorem upd_same {H : Hp} {a : Addr} {o : HO} : upd H a o a = some o := by unfold upd; rw [if_pos rfl]
theorem upd_ne {H : Hp} {a b : Addr} {o : HO} (h : b ≠ a) : upd H a o b = H b := by unfold upd; rw [if_neg h]
theorem upd_upd {H : Hp} {a : Addr} {o u : HO} : upd (upd H a o) a u = upd H a u := by
  funext b; unfold upd; split <;> rfl
/-- two objects of different content stand apart -/
theorem ne_of {H : Hp} {a b : Addr} {o u : HO} (h : H a = some o) (h' : H b = some u) (d : o ≠ u) : a ≠ b := by
  intro e; subst e; rw [h] at h'; exact d (Option.some.inj h')
theorem ne_of_none {H : Hp} {a b : Addr} {o : HO} (h : H a = some o) (h' : H b = none) : a ≠ b := by
  intro e; subst e; rw [h] at h'; cases h'

section
variable (P : Program) (w : World)
def ObjOk (H : Hp) (h : Heap) (a : Addr) : HO → Prop
  | .lst xs => xs.length ≤ sizeLine ∧ ∃ (its : List Value) (n : Nat), Vals xs its ∧ h.get? a = some { cls := .type "list", data := .seq its.toArray n }
  | .tup xs => xs.length ≤ sizeLine ∧ ∃ its : List Value, Vals xs its ∧ IsTup h a its.toArray
  | .dK kvs => kvs.length ≤ sizeLine ∧ (a == sysModules) = false ∧ ∃ vs, KV kvs vs ∧ h.DictOf (mixKind P w) a vs
  | .dT kvs => kvs.length ≤ sizeLine ∧ (a == sysModules) = false ∧ ∃ xs : List (List Key × Addr × Value),
      Paired (fun (p : List Key × V) (q : List Key × Addr × Value) => p.1 = q.1 ∧ H q.2.1 = some (.tup (p.1.map kV)) ∧ RelV p.2 q.2.2) kvs xs ∧
      ∃ o es ep, h.get? a = some o ∧ o.ExactDict ∧ o.data = .dict es ep ∧ es.toList = xs.map (entryOfKey (tupleKind (mixKind P w))) ∧ (xs.map (·.1)).Nodup
  | .set S n => h.SetOf (intKind P w) a S n
  | .ins C dx fs => H dx = some (.own a) ∧ fs.length ≤ 1000 ∧ dx ≠ a ∧ h.get? a = some (PySem.W.instObj C dx) ∧
      ∃ mA, h.Ns1 dx mA ∧ (∀ f, RelO (fs.lookup f) (mA f)) ∧ PySem.Within mA (fs.map (·.1))
  | .own _ => ∃ o, h.get? a = some o
  | .xd fs => ∃ mA, h.Ns1 a mA ∧ ∀ f, RelO (fs.lookup f) (mA f)
  | .rng lo hi => ∃ t u v, h.get? a = some { cls := .type "range", data := .fields #[.int lo t, .int hi u, .int 1 v] }
  | .frz o u => h.get? a = some o ∧ ObjOk H h a u
  | .tbl ps => h.get? a = some { cls := .none, data := .fields ps }
  | .met f x => h.get? a = some (PySem.W.methodObj (.ref f) (.ref x))
  | .ext φ => φ h ∧ (∃ o, h.get? a = some o) ∧ ∀ h1 h2 : Heap, φ h1 → (∀ o, h1.get? a = some o → h2.get? a = some o) → φ h2
/-- the abstract heap is held -/
def HOk (H : Hp) (h : Heap) : Prop := ∀ a o, H a = some o → ObjOk P w H h a o
end

section
variable {P : Program} {w : World} {H H' : Hp} {h h' : Heap} {a : Addr} {o : HO}
theorem ObjOk.lt (x : ObjOk P w H h a o) : a < h.objs.size := by
  cases o with
  | lst xs => obtain ⟨_, _, _, _, e⟩ := x; exact Heap.lt_size e
  | tup xs => obtain ⟨_, _, _, p⟩ := x; exact p.lt
  | dK kvs => obtain ⟨_, _, _, _, o, _, _, e, _⟩ := x; exact Heap.lt_size e
  | dT kvs => obtain ⟨_, _, _, _, o, _, _, e, _⟩ := x; exact Heap.lt_size e
  | set S n => obtain ⟨o, _, _, _, e, _⟩ := x; exact Heap.lt_size e
  | ins C dx fs => obtain ⟨_, _, _, e, _⟩ := x; exact Heap.lt_size e
  | own y => obtain ⟨_, e⟩ := x; exact Heap.lt_size e
  | xd fs => obtain ⟨_, ⟨_, _, _, e, _⟩, _⟩ := x; exact Heap.lt_size e
  | rng lo hi => obtain ⟨_, _, _, e⟩ := x; exact Heap.lt_size e
  | frz ob u => obtain ⟨e, _⟩ := x; exact Heap.lt_size e
  | tbl ps => exact Heap.lt_size (show h.get? a = some _ from x)
  | met f y => exact Heap.lt_size (show h.get? a = some _ from x)
  | ext φ => obtain ⟨_, ⟨_, e⟩, _⟩ := x; exact Heap.lt_size e
theorem Paired.mapP {α β : Type} {F G : α → β → Prop} : ∀ {l₁ : List α} {l₂ : List β}, Paired F l₁ l₂ → (∀ a b, F a b → G a b) → Paired G l₁ l₂
  | _, _, .nil, _ => .nil
  | _, _, .cons r t, f => .cons (f _ _ r) (Paired.mapP t f)
/-- what an object's description leans on: its own object, its own dict, the tuples -/
theorem ObjOk.stay (x : ObjOk P w H h a o) (k : ∀ b u, (b = a ∨ H b = some (.own a)) → h.get? b = some u → h'.get? b = some u)
    (ho : ∀ b, H b = some (.own a) → H' b = some (.own a)) (ht : ∀ b xs, H b = some (.tup xs) → H' b = some (.tup xs)) : ObjOk P w H' h' a o := by
  induction o with
  | lst xs => obtain ⟨z, its, n, r, e⟩ := x; exact ⟨z, its, n, r, k _ _ (.inl rfl) e⟩
  | tup xs => obtain ⟨z, its, r, ob, e, c⟩ := x; exact ⟨z, its, r, ob, k _ _ (.inl rfl) e, c⟩
  | dK kvs => obtain ⟨z, y, vs, r, ob, es, ep, e, c⟩ := x; exact ⟨z, y, vs, r, ob, es, ep, k _ _ (.inl rfl) e, c⟩
  | dT kvs =>
    obtain ⟨z, y, xs, r, ob, es, ep, e, c⟩ := x
    exact ⟨z, y, xs, Paired.mapP r fun p q z => ⟨z.1, ht _ _ z.2.1, z.2.2⟩, ob, es, ep, k _ _ (.inl rfl) e, c⟩
  | set S n => obtain ⟨ob, es, ep, t, e, c⟩ := x; exact ⟨ob, es, ep, t, k _ _ (.inl rfl) e, c⟩
  | ins C dx fs =>
    obtain ⟨d, z, ne, e, mA, ⟨od, es, ep, e2, c⟩, r⟩ := x
    exact ⟨ho _ d, z, ne, k _ _ (.inl rfl) e, mA, ⟨od, es, ep, k _ _ (.inr d) e2, c⟩, r⟩
  | own y => obtain ⟨ob, e⟩ := x; exact ⟨ob, k _ _ (.inl rfl) e⟩
  | xd fs => obtain ⟨mA, ⟨od, es, ep, e, c⟩, r⟩ := x; exact ⟨mA, ⟨od, es, ep, k _ _ (.inl rfl) e, c⟩, r⟩
  | rng lo hi => obtain ⟨t, u, v, e⟩ := x; exact ⟨t, u, v, k _ _ (.inl rfl) e⟩
  | frz ob u ih => obtain ⟨e, q⟩ := x; exact ⟨k _ _ (.inl rfl) e, ih q⟩
  | tbl ps =>
    have e : h.get? a = some { cls := .none, data := .fields ps } := x
    show h'.get? a = some { cls := .none, data := .fields ps }
    exact k a _ (.inl rfl) e
  | met f y =>
    have e : h.get? a = some (PySem.W.methodObj (.ref f) (.ref y)) := x
    show h'.get? a = some (PySem.W.methodObj (.ref f) (.ref y))
    exact k a _ (.inl rfl) e
  | ext φ => obtain ⟨p, ⟨o, e⟩, st⟩ := x; exact ⟨st _ _ p fun o q => k _ _ (.inl rfl) q, ⟨o, k _ _ (.inl rfl) e⟩, st⟩
theorem HOk.lt (x : HOk P w H h) (e : H a = some o) : a < h.objs.size := (x a o e).lt
theorem HOk.fresh (x : HOk P w H h) (e : h.objs.size ≤ a) : H a = none := by
  cases q : H a with
  | none => rfl
  | some u => exact absurd (Nat.lt_of_lt_of_le (x.lt q) e) (Nat.lt_irrefl _)
/-- every object of the heap is kept -/
theorem HOk.kept (x : HOk P w H h) (k : ∀ b u, h.get? b = some u → h'.get? b = some u) : HOk P w H h' := fun a o e =>
  (x a o e).stay (fun b u _ q => k b u q) (fun _ q => q) fun _ _ q => q
/-- a new object is laid and tracked -/
theorem HOk.laid (x : HOk P w H h) (k : ∀ b u, h.get? b = some u → h'.get? b = some u) (hp : h.objs.size ≤ a) (new : ObjOk P w (upd H a o) h' a o) : HOk P w (upd H a o) h' := fun b u e => by
  have hn := x.fresh hp
  by_cases hb : b = a
  · subst hb; rw [upd_same] at e; cases e; exact new
  · rw [upd_ne hb] at e
    exact (x b u e).stay (fun c v _ q => k c v q) (fun c q => by rw [upd_ne (ne_of_none q hn)]; exact q) fun c xs q => by rw [upd_ne (ne_of_none q hn)]; exact q
end

/-- what may be read as u: it is u, or a known u -/
def Rd (H : Hp) (a : Addr) (u : HO) : Prop := H a = some u ∨ ∃ o, H a = some (.frz o u)
theorem Rd.of {H : Hp} {a : Addr} {u : HO} (h : H a = some u) : Rd H a u := .inl h
theorem Rd.ok {P : Program} {w : World} {H : Hp} {h : Heap} {a : Addr} {u : HO} (r : Rd H a u) (x : HOk P w H h) : ObjOk P w H h a u := by
  rcases r with r | ⟨o, r⟩
  · exact x a u r
  · obtain ⟨_, q⟩ := x a _ r
    exact q
/-- what may be written -/
def Mut : Option HO → Prop
  | some (.lst _) => True
  | some (.dK _) => True
  | some (.dT _) => True
  | some (.set _ _) => True
  | some (.ins _ _ _) => True
  | some (.ext _) => True
  | _ => False
section
variable {P : Program} {w : World} {H : Hp} {h h' : Heap} {x e : Addr} {o' : HO}
/-- the object at e is changed: x itself, or the dict of the instance x -/
theorem HOk.write (ok : HOk P w H h) (mu : Mut (H x)) (he : e = x ∨ H e = some (.own x)) (k : ∀ b u, b ≠ e → h.get? b = some u → h'.get? b = some u) (heo : ∃ u, h'.get? e = some u)
    (new : ObjOk P w (upd H x o') h' x o') : HOk P w (upd H x o') h' := fun b u q => by
  have nown : ∀ c y, H c = some (.own y) → c ≠ x := fun c y r z => by subst z; rw [r] at mu; exact mu
  have ntup : ∀ c xs, H c = some (.tup xs) → c ≠ x := fun c xs r z => by subst z; rw [r] at mu; exact mu
  by_cases hb : b = x
  · subst hb; rw [upd_same] at q; cases q; exact new
  · rw [upd_ne hb] at q
    by_cases hbe : b = e
    · have q' : H b = some (.own x) := by
        rcases he with z | z
        · exact absurd (hbe.trans z) hb
        · rw [hbe]; exact z
      rw [q] at q'; cases q'
      obtain ⟨v, hv⟩ := heo
      exact ⟨v, by rw [hbe]; exact hv⟩
    · refine (ok b u q).stay (fun c v hc r => k c v ?_ r) (fun c r => by rw [upd_ne (nown c b r)]; exact r) fun c xs r => by rw [upd_ne (ntup c xs r)]; exact r
      rcases hc with rfl | hc
      · exact hbe
      · rintro rfl
        rcases he with z | z
        · exact nown c b hc z
        · rw [hc] at z; cases z; exact hb rfl
end

/-! ### kept unless tracked; of the frames at fs (the callers') the slots may change (an exception that passes writes there); of the records at ex (iterators) nothing is said -/
structure Un (fs ex : List Addr) (H H' : Hp) (h h' : Heap) : Prop where
  keep : ∀ b o, h.get? b = some o → H b = none → b ∉ fs → b ∉ ex → h'.get? b = some o
  slot : ∀ b o, h.get? b = some o → H b = none → b ∈ fs → b ∉ ex → ∃ sl, h'.get? b = some { o with slots := sl }
  free : ∀ b o, h.get? b = some o → H b = none → b ∉ ex → H' b = none
  there : ∀ b o, h.get? b = some o → b ∉ ex → ∃ o', h'.get? b = some o'
  tups : ∀ b xs, H b = some (.tup xs) → H' b = some (.tup xs)
  frzs : ∀ b o u, H b = some (.frz o u) → H' b = some (.frz o u)
  tbls : ∀ b ps, H b = some (.tbl ps) → ∃ more, H' b = some (.tbl (ps ++ more))
section
variable {fs fs' ex ex' : List Addr} {H H1 H2 : Hp} {h h1 h2 h' : Heap} {a x e : Addr} {o : HO}
theorem Un.any (u : Un fs ex H H1 h h1) {b : Addr} {ob : Obj} (q : h.get? b = some ob) (n : H b = none) (hx : b ∉ ex) : ∃ sl, h1.get? b = some { ob with slots := sl } := by
  by_cases hb : b ∈ fs
  · exact u.slot b ob q n hb hx
  · exact ⟨ob.slots, u.keep b ob q n hb hx⟩
theorem Un.trans (a : Un fs ex H H1 h h1) (b : Un fs ex H1 H2 h1 h2) : Un fs ex H H2 h h2 where
  keep := fun c ob q n hc hx => b.keep c ob (a.keep c ob q n hc hx) (a.free c ob q n hx) hc hx
  slot := fun c ob q n hc hx => by
    obtain ⟨sl, e1⟩ := a.slot c ob q n hc hx
    obtain ⟨sl', e2⟩ := b.slot c _ e1 (a.free c ob q n hx) hc hx
    exact ⟨sl', e2⟩
  free := fun c ob q n hx => by
    obtain ⟨o', e1⟩ := a.there c ob q hx
    exact b.free c o' e1 (a.free c ob q n hx) hx
  there := fun c ob q hx => by
    obtain ⟨o', e1⟩ := a.there c ob q hx
    exact b.there c o' e1 hx
  tups := fun c xs q => b.tups c xs (a.tups c xs q)
  frzs := fun c ob xs q => b.frzs c ob xs (a.frzs c ob xs q)
  tbls := fun c ps q => by
    obtain ⟨m1, e1⟩ := a.tbls c ps q
    obtain ⟨m2, e2⟩ := b.tbls c _ e1
    exact ⟨m1 ++ m2, by rw [e2, Array.append_assoc]⟩
theorem Un.kept (k : ∀ b u, h.get? b = some u → h'.get? b = some u) : Un fs ex H H h h' :=
  ⟨fun b ob q _ _ _ => k b ob q, fun b ob q _ _ _ => ⟨ob.slots, k b ob q⟩, fun _ _ _ n _ => n, fun b ob q _ => ⟨ob, k b ob q⟩, fun _ _ q => q, fun _ _ _ q => q, fun _ ps q => ⟨#[], by rw [q]; simp⟩⟩
theorem Un.refl : Un fs ex H H h h := Un.kept fun _ _ q => q
theorem Un.laid (k : ∀ b u, h.get? b = some u → h'.get? b = some u) (hp : h.objs.size ≤ a) (hn : H a = none) : Un fs ex H (upd H a o) h h' where
  keep := fun b u q _ _ _ => k b u q
  slot := fun b u q _ _ _ => ⟨u.slots, k b u q⟩
  free := fun b u q n _ => by rw [upd_ne (Nat.ne_of_lt (Nat.lt_of_lt_of_le (Heap.lt_size q) hp))]; exact n
  there := fun b u q _ => ⟨u, k b u q⟩
  tups := fun b xs q => by rw [upd_ne (ne_of_none q hn)]; exact q
  frzs := fun b u xs q => by rw [upd_ne (ne_of_none q hn)]; exact q
  tbls := fun b ps q => ⟨#[], by rw [upd_ne (ne_of_none q hn), q]; simp⟩
theorem Un.write (mu : Mut (H x)) (he : e = x ∨ H e = some (.own x)) (k : ∀ b u, b ≠ e → h.get? b = some u → h'.get? b = some u) (heo : ∃ u, h'.get? e = some u) : Un fs ex H (upd H x o) h h' := by
  have hx : ∀ b, H b = none → b ≠ x := fun b n z => by subst z; rw [n] at mu; exact mu
  have hb : ∀ b, H b = none → b ≠ e := fun b n z => by
    subst z
    rcases he with r | r
    · exact hx b n r
    · rw [n] at r; cases r
  have hm : ∀ b u, H b = some u → ¬ Mut (some u) → b ≠ x := fun b u q nm z => by subst z; rw [q] at mu; exact nm mu
  refine ⟨fun b u q n _ _ => k b u (hb b n) q, fun b u q n _ _ => ⟨u.slots, k b u (hb b n) q⟩, fun b u q n _ => by rw [upd_ne (hx b n)]; exact n, fun b u q _ => ?_,
    fun b xs q => by rw [upd_ne (hm b _ q fun z => z)]; exact q, fun b u xs q => by rw [upd_ne (hm b _ q fun z => z)]; exact q, fun b ps q => ⟨#[], by rw [upd_ne (hm b _ q fun z => z), q]; simp⟩⟩
  by_cases hbe : b = e
  · subst hbe; exact heo
  · exact ⟨u, k b u hbe q⟩
theorem Un.mono (u : Un fs ex H H1 h h1) (hs : ∀ b ∈ fs, b ∈ fs') (hx : ∀ b ∈ ex, b ∈ ex') : Un fs' ex' H H1 h h1 :=
  ⟨fun b ob q n hb he => u.keep b ob q n (fun z => hb (hs b z)) fun z => he (hx b z), fun _ _ q n _ he => u.any q n fun z => he (hx _ z), fun b ob q n he => u.free b ob q n fun z => he (hx b z), fun b ob q he => u.there b ob q fun z => he (hx b z), u.tups, u.frzs, u.tbls⟩
end

/-! ### the heap without what is tracked -/
def trk (h : Heap) (H : Hp) : List Addr := (List.range h.objs.size).filter fun a => (H a).isSome
def hidT (h : Heap) (H : Hp) : Heap := PySem.W.hideAll h (trk h H)
theorem hidT_size (h : Heap) (H : Hp) : (hidT h H).objs.size = h.objs.size := PySem.W.hideAll_size _ _
theorem hidT_get {h : Heap} {H : Hp} {b : Addr} {o : Obj} (e : h.get? b = some o) (n : H b = none) : (hidT h H).get? b = some o :=
  PySem.W.hideAll_get _ e fun hm => by
    have q : (H b).isSome = true := (List.mem_filter.mp hm).2
    rw [n] at q; simp at q
theorem of_hidT {h : Heap} {H : Hp} {b : Addr} {o : Obj} (e : (hidT h H).get? b = some o) : h.get? b = some o ∧ H b = none := by
  have e' : h.get? b = some o := PySem.W.of_hideAll (trk h H) e
  refine ⟨e', ?_⟩
  cases q : H b with
  | none => rfl
  | some x =>
    have hm : b ∈ trk h H := List.mem_filter.mpr ⟨List.mem_range.mpr (Heap.lt_size e'), by simp [q]⟩
    have z : (hidT h H).get? b = none := PySem.W.hideAll_none (trk h H) hm
    rw [z] at e; cases e

/-! ### OpenK's ledger, filled with every new object but one -/
def allNews (g h : Heap) (L : Addr) : List (Addr × Obj) := (List.range h.objs.size).filterMap fun a => if a = L ∨ (g.get? a).isSome = true then none else (h.get? a).map fun o => (a, o)
def rest (g h : Heap) (L d : Addr) : List (Addr × Obj) := (allNews g h L).filter fun p => decide (p.1 ≠ d)
end L2

namespace L2
open PySem PySem.Spec PyProof.Rows

/-- the module's facts, over the base: the heap at the law's entry without what is tracked there -/
structure Mod (K : PySem.W.Frag) (mg : Str → Option Value) (base : Heap) : Prop where
  kin : K.In base
  glob : base.Ns mainGlobals mg
  blt : ∃ mb, base.Ns builtinsNs mb ∧ ∀ x : Str, x ≠ "__name__" → mb x = bootBuiltins x
  nolimit : base.NoLimit

/-- the context: a def's body (or a comprehension's block) running. base: fixed through the whole law; s₀, H₀: the entry; outer: the frames whose slots others may change (a def's callers); stack: all frames that run;
   ex: iterators that were made ahead of the entry and are walked here (a comprehension's); fn: the names whose cells were made at the entry (a def: all; a comprehension's block: its own); calm: not within an except suite; pn: pins that every state bears; xe: what is wanted of an exception that leaves the code -/
structure Cx where
  prog : Program
  w : World
  K : PySem.W.Frag
  mg : Str → Option Value
  base : Heap
  A : Around
  N : List Str
  s₀ : Shared
  H₀ : Hp
  env : Env
  outer : List Env
  stack : List Env
  ex : List Addr
  fn : Str → Bool
  calm : Bool
  pn : List (Addr × Obj)
  xe : Value → Shared → Prop
/-- the callers' frames -/
def frs (l : List Env) : List Addr := l.filterMap (·.frame)
abbrev Cx.fs (X : Cx) : List Addr := frs X.outer

def Vis (sc : Scope) (x : Str) : Prop := sc.names.lookup x = some .local ∨ sc.names.lookup x = some .cell ∨ sc.names.lookup x = some .free
def Loc (sc : Scope) (x : Str) : Prop := sc.names.lookup x = some .local ∨ sc.names.lookup x = some .cell
def Look (env : Env) (h : Heap) (m : Str → Option Value) (x : Str) (u : Value) : Prop :=
  (env.kindOf x = some .local ∧ m x = some u) ∨ ((env.kindOf x = some .cell ∨ env.kindOf x = some .free) ∧ ∃ c, env.cells.lookup x = some c ∧ h.IsCell c (some u))

structure Cx.Ok (X : Cx) : Prop where
  mod : Mod X.K X.mg X.base
  kind : X.env.scope.kind = .function
  glob : X.env.globals = mainGlobals
  blt : X.env.builtins = builtinsNs
  above : X.s₀.heap.objs.size ≤ X.env.locals
  inj : ∀ x y c, X.env.cells.lookup x = some c → X.env.cells.lookup y = some c → x = y
  has : ∀ x, (X.env.kindOf x = some .cell ∨ X.env.kindOf x = some .free) → ∃ c, X.env.cells.lookup x = some c
  cab : ∀ x c, X.fn x = true → X.env.cells.lookup x = some c → X.s₀.heap.objs.size ≤ c
  hd : X.calm = true → X.A.handled = none
  frames : X.A.frames = some X.stack
  stk : X.stack = X.outer ∨ (X.stack = X.env :: X.outer ∧ X.env.frame = some X.env.locals)
  exf : ∀ b ∈ X.ex, b ≠ X.env.locals ∧ ∀ x c, X.env.cells.lookup x = some c → c ≠ b
  bs : ∀ b o, X.base.get? b = some o → X.s₀.heap.get? b = some o ∧ X.H₀ b = none
  bsz : X.base.objs.size ≤ X.s₀.heap.objs.size
  noex : ∀ b o, X.base.get? b = some o → b ∉ X.ex
  exfs : ∀ b ∈ X.ex, b ∉ X.fs
  funs : X.s₀.heap.FunFrames X.base X.outer
  frf : ∀ b ∈ X.fs, X.H₀ b = none

structure Inv (X : Cx) (pins : List (Addr × Obj)) (σ : List (Option V)) (H : Hp) (s : Shared) : Prop where
  ok : X.Ok
  os : s.os = X.s₀.os
  bare : AllBare s.gens
  base : Un X.fs X.ex X.H₀ H X.s₀.heap s.heap
  loc : ∃ m, s.heap.Ns X.env.locals m ∧ ∀ (i : Nat) (x : Str) (v : V), X.N[i]? = some x → σ[i]? = some (some v) → Vis X.env.scope x → ∃ u, RelV v u ∧ Look X.env s.heap m x u
  cell : ∀ x c, X.env.cells.lookup x = some c → ∃ v, s.heap.IsCell c v
  free : H X.env.locals = none
  freeC : ∀ x c, X.env.cells.lookup x = some c → H c = none
  pin : ∀ p ∈ X.pn ++ pins, s.heap.get? p.1 = some p.2 ∧ H p.1 = none ∧ p.1 ≠ X.env.locals ∧ p.1 ∉ X.fs ∧ ∀ v, p.2.data ≠ .cell v
  hok : HOk X.prog X.w H s.heap
  len : σ.length = X.N.length

section
variable {X : Cx} {pins : List (Addr × Obj)} {σ : List (Option V)} {H H' : Hp} {s : Shared} {h' : Heap}

theorem Cx.Ok.nofr (ok : X.Ok) {b : Addr} {o : Obj} (e : X.base.get? b = some o) : b ∉ X.fs := fun hb => by
  have := (ok.funs.mem hb).1
  rw [e] at this; cases this
theorem Inv.bs (I : Inv X pins σ H s) : ∀ b o, X.base.get? b = some o → s.heap.get? b = some o ∧ H b = none := fun b o e =>
  ⟨I.base.keep b o (I.ok.bs b o e).1 (I.ok.bs b o e).2 (I.ok.nofr e) (I.ok.noex b o e), I.base.free b o (I.ok.bs b o e).1 (I.ok.bs b o e).2 (I.ok.noex b o e)⟩
theorem Inv.bk (I : Inv X pins σ H s) : ∀ b o, X.base.get? b = some o → s.heap.get? b = some o := fun b o e => (I.bs b o e).1
theorem Inv.mod (I : Inv X pins σ H s) : Mod X.K X.mg X.base := I.ok.mod
theorem Inv.kIn (I : Inv X pins σ H s) : X.K.In s.heap := I.ok.mod.kin.keeps I.bk
theorem Inv.nolimit (I : Inv X pins σ H s) : s.heap.NoLimit := I.ok.mod.nolimit.keeps I.bk
/-- the frame over the base: for OpenK's rules (K.In X.base is I.mod.kin) -/
theorem Inv.fr (I : Inv X pins σ H s) : ∃ m, Fr X.base X.env.locals s.heap m :=
  let ⟨m, hn, _⟩ := I.loc
  ⟨m, hn, I.bk, Nat.le_trans I.ok.bsz I.ok.above⟩
theorem Inv.lt (I : Inv X pins σ H s) : X.env.locals < s.heap.objs.size := let ⟨_, hn, _⟩ := I.loc; hn.lt
theorem Inv.sz (I : Inv X pins σ H s) : X.s₀.heap.objs.size ≤ s.heap.objs.size := Nat.le_trans I.ok.above (Nat.le_of_lt I.lt)
theorem Inv.nofs (I : Inv X pins σ H s) {a : Addr} (h : s.heap.objs.size ≤ a) : a ∉ X.fs := fun hb => by
  obtain ⟨_, o, ho, _⟩ := I.ok.funs.mem hb
  exact absurd (Nat.lt_of_lt_of_le (Heap.lt_size ho) (Nat.le_trans I.sz h)) (Nat.lt_irrefl _)
theorem Inv.cne (I : Inv X pins σ H s) : ∀ x c, X.env.cells.lookup x = some c → c ≠ X.env.locals := fun x c e z => by
  obtain ⟨v, o, ho, hd⟩ := I.cell x c e
  obtain ⟨m, ⟨o', es, ep, ho', hd', _⟩, _⟩ := I.loc
  rw [z, ho'] at ho; cases ho; rw [hd'] at hd; cases hd
theorem Inv.funs (I : Inv X pins σ H s) : s.heap.FunFrames X.base X.outer := by
  have all : ∀ (l : List Env), (∀ b ∈ frs l, b ∈ X.fs) → X.s₀.heap.FunFrames X.base l → s.heap.FunFrames X.base l := by
    intro l
    induction l with
    | nil => intro _ _; trivial
    | cons env r ih =>
      intro hs hl
      obtain ⟨hk, ⟨L, o, hf, hn, ho, hd⟩, hr⟩ := hl
      have hL : L ∈ X.fs := hs L (by unfold frs; rw [List.filterMap_cons, hf]; exact List.mem_cons_self)
      obtain ⟨sl, e⟩ := I.base.slot L o ho (I.ok.frf L hL) hL fun z => I.ok.exfs L z hL
      exact ⟨hk, ⟨L, _, hf, hn, e, hd⟩, ih (fun b hb => hs b (by unfold frs; rw [List.filterMap_cons, hf]; exact List.mem_cons_of_mem _ hb)) hr⟩
  exact all X.outer (fun _ hb => hb) I.ok.funs

/-- the frames that run, for a call -/
theorem Inv.stack (I : Inv X pins σ H s) : s.heap.FunFrames X.base X.stack := by
  rcases I.ok.stk with e | ⟨e, hf⟩
  · rw [e]; exact I.funs
  · rw [e]
    obtain ⟨m, hn, _⟩ := I.loc
    refine .cons (by rw [I.ok.kind]; decide) hf hn ?_ I.funs
    exact Heap.get?_none_of_le (Nat.le_trans I.ok.bsz I.ok.above)
theorem Inv.stkSub (I : Inv X pins σ H s) : ∀ b ∈ frs X.stack, b ∈ X.env.locals :: X.fs := fun b hb => by
  rcases I.ok.stk with e | ⟨e, hf⟩
  · rw [e] at hb; exact List.mem_cons_of_mem _ hb
  · rw [e] at hb
    unfold frs at hb
    rw [List.filterMap_cons, hf] at hb
    exact hb
theorem Inv.stkFree (I : Inv X pins σ H s) : ∀ b ∈ frs X.stack, H b = none := fun b hb => by
  rcases List.mem_cons.mp (I.stkSub b hb) with e | hb
  · rw [e]; exact I.free
  · obtain ⟨_, o, ho, _⟩ := I.ok.funs.mem hb
    exact I.base.free b o ho (I.ok.frf b hb) fun z => I.ok.exfs b z hb

/-- THE STEP: the untracked objects but the frame and the records at ch are kept (the callers' frames up to slots), the frame's map is kept, the new abstract heap is held -/
theorem Inv.step {g' : Array GenState} {t' : Nat} {d' : Drawn} {ch : List Addr} (I : Inv X pins σ H s)
    (hch : ∀ b ∈ ch, (b ∈ X.ex ∨ X.s₀.heap.objs.size ≤ b) ∧ b ≠ X.env.locals ∧ (∀ x c, X.env.cells.lookup x = some c → c ≠ b) ∧ ∀ p ∈ X.pn ++ pins, p.1 ≠ b)
    (keep : ∀ b o, b ≠ X.env.locals → b ∉ X.fs → b ∉ ch → s.heap.get? b = some o → H b = none → h'.get? b = some o)
    (slot : ∀ b o, b ≠ X.env.locals → b ∈ X.fs → b ∉ ch → s.heap.get? b = some o → H b = none → ∃ sl, h'.get? b = some { o with slots := sl }) (free : ∀ b o, b ∉ ch → s.heap.get? b = some o → H b = none → H' b = none)
    (there : ∀ b o, b ∉ ch → s.heap.get? b = some o → ∃ o', h'.get? b = some o')
    (tups : ∀ b xs, H b = some (.tup xs) → H' b = some (.tup xs)) (frzs : ∀ b o u, H b = some (.frz o u) → H' b = some (.frz o u)) (tbls : ∀ b ps, H b = some (.tbl ps) → ∃ more, H' b = some (.tbl (ps ++ more)))
    (ns : ∀ m, s.heap.Ns X.env.locals m → h'.Ns X.env.locals m) (hok : HOk X.prog X.w H' h') (hg : AllBare g') :
    Inv X pins σ H' { s with heap := h', gens := g', drawn := d', toks := t' } := by
  have neL : ∀ b o, X.s₀.heap.get? b = some o → b ≠ X.env.locals := fun b o e => Nat.ne_of_lt (Nat.lt_of_lt_of_le (Heap.lt_size e) I.ok.above)
  have neC : ∀ b o, X.s₀.heap.get? b = some o → b ∉ X.ex → b ∉ ch := fun b o e hx hb => by
    rcases (hch b hb).1 with z | z
    · exact hx z
    · exact absurd (Nat.lt_of_lt_of_le (Heap.lt_size e) z) (Nat.lt_irrefl _)
  have cellK : ∀ x c, X.env.cells.lookup x = some c → ∀ v, s.heap.IsCell c v → h'.IsCell c v := fun x c e v ⟨o, ho, hd⟩ => by
    have nch : c ∉ ch := fun z => (hch c z).2.2.1 x c e rfl
    by_cases hc : c ∈ X.fs
    · obtain ⟨sl, q⟩ := slot c o (I.cne x c e) hc nch ho (I.freeC x c e)
      exact ⟨_, q, hd⟩
    · exact ⟨o, keep c o (I.cne x c e) hc nch ho (I.freeC x c e), hd⟩
  refine ⟨I.ok, I.os, hg, ⟨fun b o e n hb hx => ?_, fun b o e n hb hx => ?_, fun b o e n hx => ?_, fun b o e hx => ?_, fun b xs e => tups b xs (I.base.tups b xs e), fun b o xs e => frzs b o xs (I.base.frzs b o xs e), fun b ps e => ?_⟩, ?_, fun x c e => ?_, ?_, fun x c e => ?_, fun p hp => ?_, hok, I.len⟩
  · exact keep b o (neL b o e) hb (neC b o e hx) (I.base.keep b o e n hb hx) (I.base.free b o e n hx)
  · obtain ⟨sl, e1⟩ := I.base.slot b o e n hb hx
    obtain ⟨sl', e2⟩ := slot b _ (neL b o e) hb (neC b o e hx) e1 (I.base.free b o e n hx)
    exact ⟨sl', e2⟩
  · obtain ⟨o', e1⟩ := I.base.there b o e hx
    exact free b o' (neC b o e hx) e1 (I.base.free b o e n hx)
  · obtain ⟨o', e1⟩ := I.base.there b o e hx
    exact there b o' (neC b o e hx) e1
  · obtain ⟨m1, e1⟩ := I.base.tbls b ps e
    obtain ⟨m2, e2⟩ := tbls b _ e1
    exact ⟨m1 ++ m2, by rw [e2, Array.append_assoc]⟩
  · obtain ⟨m, hn, hl⟩ := I.loc
    refine ⟨m, ns m hn, fun i x v e1 e2 e3 => ?_⟩
    obtain ⟨u, r, l⟩ := hl i x v e1 e2 e3
    refine ⟨u, r, ?_⟩
    rcases l with l | ⟨k, c, e, z⟩
    · exact .inl l
    · exact .inr ⟨k, c, e, cellK x c e _ z⟩
  · obtain ⟨v, z⟩ := I.cell x c e
    exact ⟨v, cellK x c e v z⟩
  · obtain ⟨m, ⟨o, _, _, ho, _⟩, _⟩ := I.loc
    exact free _ o (fun z => (hch _ z).2.1 rfl) ho I.free
  · obtain ⟨v, o, ho, hd⟩ := I.cell x c e
    exact free c o (fun z => (hch c z).2.2.1 x c e rfl) ho (I.freeC x c e)
  · obtain ⟨e, n, ne, nf, d⟩ := I.pin p hp
    have nch : p.1 ∉ ch := fun z => (hch p.1 z).2.2.2 p hp rfl
    exact ⟨keep p.1 p.2 ne nf nch e n, free p.1 p.2 nch e n, ne, nf, d⟩
/-- .. where the frame's own object is kept too -/
theorem Inv.un {t' : Nat} (I : Inv X pins σ H s) (u : Un X.fs [] H H' s.heap h') (hok : HOk X.prog X.w H' h') : Inv X pins σ H' { s with heap := h', toks := t' } := by
  obtain ⟨m, ⟨o, es, ep, ho, r⟩, _⟩ := id I.loc
  obtain ⟨sl, hL⟩ := u.any ho I.free (by simp)
  exact I.step (g' := s.gens) (d' := s.drawn) (ch := []) (fun _ z => nomatch z) (fun b o _ hb _ e n => u.keep b o e n hb (by simp)) (fun b o _ hb _ e n => u.slot b o e n hb (by simp)) (fun b o _ e n => u.free b o e n (by simp)) (fun b o _ e => u.there b o e (by simp)) u.tups u.frzs u.tbls (fun m' hm => by
    obtain ⟨o', es', ep', ho', r'⟩ := hm
    rw [ho] at ho'; cases ho'
    exact ⟨_, es', ep', hL, r'⟩) hok I.bare
/-- behind a call (or a comprehension's block): the slots of this frame may have changed too, the records at ch may have turned -/
theorem Inv.call {g' : Array GenState} {t' : Nat} {d' : Drawn} {ch : List Addr} (I : Inv X pins σ H s) (u : Un (frs X.stack) ch H H' s.heap h') (hok : HOk X.prog X.w H' h') (hg : AllBare g')
    (hch : ∀ b ∈ ch, (b ∈ X.ex ∨ X.s₀.heap.objs.size ≤ b) ∧ b ≠ X.env.locals ∧ (∀ x c, X.env.cells.lookup x = some c → c ≠ b) ∧ ∀ p ∈ X.pn ++ pins, p.1 ≠ b) :
    Inv X pins σ H' { s with heap := h', gens := g', drawn := d', toks := t' } := by
  obtain ⟨m, ⟨o, es, ep, ho, r⟩, _⟩ := id I.loc
  obtain ⟨sl, hL⟩ := u.any ho I.free fun z => (hch _ z).2.1 rfl
  exact I.step (ch := ch) hch (fun b o hL hb hc e n => u.keep b o e n (fun z => (List.mem_cons.mp (I.stkSub b z)).elim hL hb) hc) (fun b o _ _ hc e n => u.any e n hc) (fun b o hc e n => u.free b o e n hc) (fun b o hc e => u.there b o e hc) u.tups u.frzs u.tbls (fun m' hm => by
    obtain ⟨o', es', ep', ho', r'⟩ := hm
    rw [ho] at ho'; cases ho'
    exact ⟨_, es', ep', hL, r'⟩) hok hg
/-- an untracked record of ours (an iterator) has turned -/
theorem Inv.turned {t' : Nat} {it : Addr} (I : Inv X pins σ H s) (k : ∀ b o, b ≠ it → s.heap.get? b = some o → h'.get? b = some o) (hn : H it = none) (hL : it ≠ X.env.locals)
    (h1 : it ∈ X.ex ∨ X.s₀.heap.objs.size ≤ it) (h2 : ∀ x c, X.env.cells.lookup x = some c → c ≠ it) (h3 : ∀ p ∈ X.pn ++ pins, p.1 ≠ it) : Inv X pins σ H { s with heap := h', toks := t' } := by
  have nit : ∀ b u, H b = some u → b ≠ it := fun b u e z => by rw [z, hn] at e; cases e
  refine I.step (g' := s.gens) (d' := s.drawn) (ch := [it]) (fun b hb => ?_) (fun b o _ _ hc e _ => k b o (fun z => hc (by simp [z])) e) (fun b o _ _ hc e _ => ⟨o.slots, k b o (fun z => hc (by simp [z])) e⟩) (fun _ _ _ _ n => n)
    (fun b o hc e => ⟨o, k b o (fun z => hc (by simp [z])) e⟩) (fun _ _ e => e) (fun _ _ _ e => e) (fun b ps e => ⟨#[], by rw [e]; simp⟩) (fun m hm => ?_) (fun b u e => ?_) I.bare
  · have e : b = it := by simpa using hb
    subst e
    exact ⟨h1, hL, h2, h3⟩
  · obtain ⟨o, es, ep, ho, r⟩ := hm
    exact ⟨o, es, ep, k _ o (Ne.symm hL) ho, r⟩
  · refine (I.hok b u e).stay (fun c v hc q => k c v ?_ q) (fun _ q => q) fun _ _ q => q
    rcases hc with z | z
    · rw [z]; exact nit b u e
    · exact nit c _ z
theorem Inv.tok (I : Inv X pins σ H s) (t : Nat) : Inv X pins σ H { s with toks := t } := I.un (h' := s.heap) (t' := t) Un.refl I.hok
/-- all objects kept -/
theorem Inv.kept {t' : Nat} (I : Inv X pins σ H s) (k : ∀ b u, s.heap.get? b = some u → h'.get? b = some u) : Inv X pins σ H { s with heap := h', toks := t' } := I.un (Un.kept k) (I.hok.kept k)
/-- a new object laid and tracked -/
theorem Inv.laid {a : Addr} {o : HO} {t' : Nat} (I : Inv X pins σ H s) (k : ∀ b u, s.heap.get? b = some u → h'.get? b = some u) (hp : s.heap.objs.size ≤ a) (new : ObjOk X.prog X.w (upd H a o) h' a o) :
    Inv X pins σ (upd H a o) { s with heap := h', toks := t' } := I.un (Un.laid k hp (I.hok.fresh hp)) (I.hok.laid k hp new)
/-- an object written -/
theorem Inv.write {x e : Addr} {o : HO} {t' : Nat} (I : Inv X pins σ H s) (mu : Mut (H x)) (he : e = x ∨ H e = some (.own x)) (k : ∀ b u, b ≠ e → s.heap.get? b = some u → h'.get? b = some u) (heo : ∃ u, h'.get? e = some u)
    (new : ObjOk X.prog X.w (upd H x o) h' x o) : Inv X pins σ (upd H x o) { s with heap := h', toks := t' } := I.un (Un.write mu he k heo) (I.hok.write mu he k heo new)
/-- forgetting slots, pins -/
theorem Inv.weak {σ' : List (Option V)} (I : Inv X pins σ H s) (hl : σ'.length = σ.length) (w : ∀ (i : Nat) v, σ'[i]? = some (some v) → σ[i]? = some (some v)) : Inv X pins σ' H s :=
  ⟨I.ok, I.os, I.bare, I.base, let ⟨m, hn, hl'⟩ := I.loc; ⟨m, hn, fun i x v e1 e2 e3 => hl' i x v e1 (w i v e2) e3⟩, I.cell, I.free, I.freeC, I.pin, I.hok, hl.trans I.len⟩
theorem Inv.pins_of {pins' : List (Addr × Obj)} (I : Inv X pins σ H s) (h : ∀ p ∈ pins', s.heap.get? p.1 = some p.2 ∧ H p.1 = none ∧ p.1 ≠ X.env.locals ∧ p.1 ∉ X.fs ∧ ∀ v, p.2.data ≠ .cell v) : Inv X pins' σ H s :=
  ⟨I.ok, I.os, I.bare, I.base, I.loc, I.cell, I.free, I.freeC, fun p hp => (List.mem_append.mp hp).elim (fun z => I.pin p (List.mem_append_left _ z)) (h p), I.hok, I.len⟩

theorem nodup_ix {N : List Str} (hN : N.Nodup) {i j : Nat} {x : Str} (a : N[i]? = some x) (b : N[j]? = some x) : i = j := by
  obtain ⟨h1, e1⟩ := List.getElem?_eq_some_iff.mp a
  obtain ⟨h2, e2⟩ := List.getElem?_eq_some_iff.mp b
  exact (List.getElem_inj hN).mp (e1.trans e2.symm)

/-- a name is stored; what changed -/
theorem store_ok2 {M : Model} {A : Around} {E : Value → Shared → Prop} {i : Nat} {x : Str} {v : V} {u : Value} {Q : Unit → Shared → Prop} (I : Inv X pins σ H s) (hN : X.N.Nodup) (hi : X.N[i]? = some x) (hx : Loc X.env.scope x) (r : RelV v u)
    (h : ∀ s', Inv X pins (σ.set i (some v)) H s' → (∃ a, Heap.SameBut a s.heap s'.heap ∧ (a = X.env.locals ∨ X.env.cells.lookup x = some a)) → Q () s') (hf : X.fn x = true ∨ X.env.scope.names.lookup x = some .local := by first | exact .inl rfl | exact .inr rfl | assumption) : wpAny M A (storeName X.env x u) Q E s := by
  obtain ⟨m, hn, hl⟩ := id I.loc
  have hcls : (X.env.scope.kind == .class || (X.env.scope.kind == .module && X.env.locals != X.env.globals)) = false := by rw [I.ok.kind]; rfl
  have hiσ : i < σ.length := by rw [I.len]; exact (List.getElem?_eq_some_iff.mp hi).1
  have cne := I.cne
  have tracked : ∀ {a : Addr} {h' : Heap}, (∃ o, s.heap.get? a = some o ∧ H a = none) → Heap.SameBut a s.heap h' → HOk X.prog X.w H h' := fun {a h'} ha hs b ob e => by
    obtain ⟨_, _, hfree⟩ := ha
    refine (I.hok b ob e).stay (fun c w' hc q => (hs.2 c ?_).trans q) (fun _ q => q) fun _ _ q => q
    rintro rfl
    rcases hc with rfl | hc
    · rw [hfree] at e; cases e
    · rw [hfree] at hc; cases hc
  rcases hx with hk | hk
  · refine wpAny_storeName_local hk hn (fun h' hn' hs => ?_) hcls
    obtain ⟨oL, _, _, hoL, _⟩ := id hn
    refine h _ ⟨I.ok, I.os, I.bare, ⟨fun b o e n hb hx => ?_, fun b o e n hb hx => ?_, I.base.free, fun b o e hx => ?_, I.base.tups, I.base.frzs, I.base.tbls⟩, ⟨_, hn', fun j y v' e1 e2 e3 => ?_⟩, fun y c e => ?_, I.free, I.freeC, fun p hp => ?_, tracked ⟨oL, hoL, I.free⟩ hs, by simpa using I.len⟩ ⟨_, hs, .inl rfl⟩
    · exact (hs.2 b (Nat.ne_of_lt (Nat.lt_of_lt_of_le (Heap.lt_size e) I.ok.above))).trans (I.base.keep b o e n hb hx)
    · obtain ⟨sl, e1⟩ := I.base.slot b o e n hb hx
      exact ⟨sl, (hs.2 b (Nat.ne_of_lt (Nat.lt_of_lt_of_le (Heap.lt_size e) I.ok.above))).trans e1⟩
    · obtain ⟨o', e1⟩ := I.base.there b o e hx
      exact ⟨o', (hs.2 b (Nat.ne_of_lt (Nat.lt_of_lt_of_le (Heap.lt_size e) I.ok.above))).trans e1⟩
    · by_cases hj : j = i
      · subst hj
        rw [hi] at e1; cases e1
        rw [List.getElem?_set_self hiσ] at e2
        cases e2
        exact ⟨u, r, .inl ⟨hk, by simp⟩⟩
      · rw [List.getElem?_set_ne (Ne.symm hj)] at e2
        obtain ⟨u', r', q⟩ := hl j y v' e1 e2 e3
        refine ⟨u', r', ?_⟩
        rcases q with ⟨k, e⟩ | ⟨k, c, e, z⟩
        · refine .inl ⟨k, ?_⟩
          have : y ≠ x := fun e => hj (nodup_ix hN e1 (e ▸ hi))
          simp [this, e]
        · exact .inr ⟨k, c, e, z.sameBut hs (cne y c e)⟩
    · obtain ⟨w', z⟩ := I.cell y c e
      exact ⟨w', z.sameBut hs (cne y c e)⟩
    · obtain ⟨e, n, ne, nf, d⟩ := I.pin p hp
      exact ⟨(hs.2 p.1 ne).trans e, n, ne, nf, d⟩
  · have hfn : X.fn x = true := by
      rcases hf with z | z
      · exact z
      · rw [z] at hk; cases hk
    obtain ⟨c, hc⟩ := I.ok.has x (.inl hk)
    obtain ⟨w', z⟩ := I.cell x c hc
    refine wpAny_storeName_cell I.ok.kind hk hc z (fun h' hc' hs => ?_)
    obtain ⟨oc, hoc, hocd⟩ := id z
    refine h { s with heap := h' } ⟨I.ok, I.os, I.bare, ⟨fun b o e n hb hx => ?_, fun b o e n hb hx => ?_, I.base.free, fun b o e hx => ?_, I.base.tups, I.base.frzs, I.base.tbls⟩, ⟨m, hn.sameBut hs (Ne.symm (cne x c hc)), fun j y v' e1 e2 e3 => ?_⟩, fun y c' e => ?_, I.free, I.freeC, fun p hp => ?_, tracked ⟨oc, hoc, I.freeC x c hc⟩ hs, by simpa using I.len⟩ ⟨c, hs, .inr hc⟩
    · exact (hs.2 b (Nat.ne_of_lt (Nat.lt_of_lt_of_le (Heap.lt_size e) (I.ok.cab x c hfn hc)))).trans (I.base.keep b o e n hb hx)
    · obtain ⟨sl, e1⟩ := I.base.slot b o e n hb hx
      exact ⟨sl, (hs.2 b (Nat.ne_of_lt (Nat.lt_of_lt_of_le (Heap.lt_size e) (I.ok.cab x c hfn hc)))).trans e1⟩
    · obtain ⟨o', e1⟩ := I.base.there b o e hx
      exact ⟨o', (hs.2 b (Nat.ne_of_lt (Nat.lt_of_lt_of_le (Heap.lt_size e) (I.ok.cab x c hfn hc)))).trans e1⟩
    · by_cases hj : j = i
      · subst hj
        rw [hi] at e1; cases e1
        rw [List.getElem?_set_self hiσ] at e2
        cases e2
        exact ⟨u, r, .inr ⟨.inl hk, c, hc, hc'⟩⟩
      · rw [List.getElem?_set_ne (Ne.symm hj)] at e2
        obtain ⟨u', r', q⟩ := hl j y v' e1 e2 e3
        refine ⟨u', r', ?_⟩
        rcases q with q | ⟨k, c', e, z'⟩
        · exact .inl q
        · refine .inr ⟨k, c', e, z'.sameBut hs ?_⟩
          rintro rfl
          exact hj (nodup_ix hN e1 (I.ok.inj _ _ _ e hc ▸ hi))
    · by_cases hcc : c' = c
      · subst hcc; exact ⟨_, hc'⟩
      · obtain ⟨w2, z2⟩ := I.cell y c' e
        exact ⟨w2, z2.sameBut hs hcc⟩
    · obtain ⟨e, n, ne, nf, d⟩ := I.pin p hp
      refine ⟨(hs.2 p.1 ?_).trans e, n, ne, nf, d⟩
      intro q
      rw [q, hoc] at e
      have q' : oc = p.2 := Option.some.inj e
      exact d w' (by rw [← q']; exact hocd)
theorem store_ok {M : Model} {A : Around} {E : Value → Shared → Prop} {i : Nat} {x : Str} {v : V} {u : Value} {Q : Unit → Shared → Prop} (I : Inv X pins σ H s) (hN : X.N.Nodup) (hi : X.N[i]? = some x) (hx : Loc X.env.scope x) (r : RelV v u)
    (h : ∀ s', Inv X pins (σ.set i (some v)) H s' → Q () s') (hf : X.fn x = true ∨ X.env.scope.names.lookup x = some .local := by first | exact .inl rfl | exact .inr rfl | assumption) : wpAny M A (storeName X.env x u) Q E s :=
  store_ok2 I hN hi hx r (fun s' I' _ => h s' I') hf
/-- behind a call or a block, the state as it is -/
theorem Inv.call' {s' : Shared} {ch : List Addr} (I : Inv X pins σ H s) (ho : s'.os = s.os) (u : Un (frs X.stack) ch H H' s.heap s'.heap) (hok : HOk X.prog X.w H' s'.heap) (hg : AllBare s'.gens)
    (hch : ∀ b ∈ ch, (b ∈ X.ex ∨ X.s₀.heap.objs.size ≤ b) ∧ b ≠ X.env.locals ∧ (∀ x c, X.env.cells.lookup x = some c → c ≠ b) ∧ ∀ p ∈ X.pn ++ pins, p.1 ≠ b) : Inv X pins σ H' s' := by
  obtain ⟨h', g', d', t', o'⟩ := s'
  have e : o' = s.os := ho
  subst e
  exact I.call (g' := g') (t' := t') (d' := d') u hok hg hch
end

/-! ### the judgements -/
/-- an exception: its class, its own dict's address (where it has one), the abstract heap behind it -/
abbrev XK := Value → Option Addr → Hp → Prop
abbrev St := List (Option V)
abbrev VK := V → Hp → Prop
/-- an expression's reading; a test's; an argument list's -/
abbrev TE := St → Hp → VK → Prop
abbrev TT := St → Hp → (Bool → Hp → Prop) → Prop
abbrev TA := St → Hp → (List V → Hp → Prop) → Prop
/-- what is wanted behind a statement -/
structure Ends where
  nx : St → Hp → Prop
  rt : VK
  bk : St → Hp → Prop := fun _ _ => False
  ct : St → Hp → Prop := fun _ _ => False
abbrev TS := Ends → St → Hp → Prop

def EP (X : Cx) (pins : List (Addr × Obj)) (σ : St) (Q : VK) (u : Value) (s' : Shared) : Prop := ∃ v H', Inv X pins σ H' s' ∧ RelV v u ∧ Q v H'
def TP (X : Cx) (pins : List (Addr × Obj)) (σ : St) (Q : Bool → Hp → Prop) (b : Bool) (s' : Shared) : Prop := ∃ H', Inv X pins σ H' s' ∧ Q b H'
def AP (X : Cx) (pins : List (Addr × Obj)) (σ : St) (Q : List V → Hp → Prop) (us : List Value) (s' : Shared) : Prop := ∃ vs H', Inv X pins σ H' s' ∧ Vals vs us ∧ Q vs H'
def SP (X : Cx) (pins : List (Addr × Obj)) (D : Ends) (f : Flow) (s' : Shared) : Prop :=
  match f with
  | .next => ∃ σ' H', Inv X pins σ' H' s' ∧ D.nx σ' H'
  | .brk => ∃ σ' H', Inv X pins σ' H' s' ∧ D.bk σ' H'
  | .cont => ∃ σ' H', Inv X pins σ' H' s' ∧ D.ct σ' H'
  | .ret u => ∃ v σ' H', Inv X pins σ' H' s' ∧ RelV v u ∧ D.rt v H'

def PE (X : Cx) (e : Expr) (t : TE) : Prop :=
  ∀ (pins : List (Addr × Obj)) (s : Shared) (σ : St) (H : Hp) (Q : VK), Inv X pins σ H s → t σ H Q → wpAny (model X.prog X.w) X.A (eval e X.env) (EP X pins σ Q) X.xe s
def PT (X : Cx) (e : Expr) (t : TT) : Prop :=
  ∀ (pins : List (Addr × Obj)) (s : Shared) (σ : St) (H : Hp) (Q : Bool → Hp → Prop), Inv X pins σ H s → t σ H Q → wpAny (model X.prog X.w) X.A (isTrue e X.env (eval e X.env)) (TP X pins σ Q) X.xe s
/-- a test whatever its 'whole' is (and, or) -/
def PW (X : Cx) (e : Expr) (t : TT) : Prop :=
  ∀ (whole : Sem Value) (pins : List (Addr × Obj)) (s : Shared) (σ : St) (H : Hp) (Q : Bool → Hp → Prop), Inv X pins σ H s → t σ H Q → wpAny (model X.prog X.w) X.A (isTrue e X.env whole) (TP X pins σ Q) X.xe s
theorem PW.pt {X : Cx} {e : Expr} {t : TT} (h : PW X e t) : PT X e t := h _
/-- an argument list (no star), from the left -/
def PA (X : Cx) (es : List Expr) (t : TA) : Prop :=
  ∀ (pos : Pos) (pins : List (Addr × Obj)) (s : Shared) (σ : St) (H : Hp) (Q : List V → Hp → Prop), Inv X pins σ H s → t σ H Q → wpAny (model X.prog X.w) X.A (spliced (backTo pos (starEach es X.env))) (AP X pins σ Q) X.xe s
def PS (X : Cx) (st : Stmt) (t : TS) : Prop :=
  ∀ (pins : List (Addr × Obj)) (s : Shared) (σ : St) (H : Hp) (D : Ends), Inv X pins σ H s → t D σ H → wpAny (model X.prog X.w) X.A (exec st X.env) (SP X pins D) X.xe s
def PSs (X : Cx) (st : List Stmt) (t : TS) : Prop :=
  ∀ (pins : List (Addr × Obj)) (s : Shared) (σ : St) (H : Hp) (D : Ends), Inv X pins σ H s → t D σ H → wpAny (model X.prog X.w) X.A (execs st X.env) (SP X pins D) X.xe s
/-- weaken the end -/
theorem thn {α : Type} {t : Sem α} {Q Q' : α → Shared → Prop} {M : Model} {A : Around} {E : Value → Shared → Prop} {s : Shared} (h : wpAny M A t Q E s) (hQ : ∀ a s, Q a s → Q' a s) : wpAny M A t Q' E s := wpAny_mono h hQ fun _ _ x => x
end L2

namespace L2
open PySem PySem.Spec PyProof.Rows
section
variable {X : Cx}

/-! ### names and constants -/
def tVar (i : Nat) : TE := fun σ H Q => ∃ v, σ[i]? = some (some v) ∧ Q v H
def tC (v : V) : TE := fun _ H Q => Q v H
theorem pe_var {i : Nat} {x : Str} {pos : Pos} (hN : X.N[i]? = some x) (hv : Vis X.env.scope x) (hd : (x == ("__debug__" : Str)) = false := by decide) (hcd : (x == ("__classdict__" : Str)) = false := by decide) : PE X (.Name x pos) (tVar i) := by
  intro pins s σ H Q I h
  obtain ⟨v, e, h⟩ := h
  obtain ⟨m, hn, hl⟩ := I.loc
  obtain ⟨u, r, l⟩ := hl i x v hN e hv
  have fin : EP X pins σ Q u s := ⟨v, H, I, r, h⟩
  rcases l with ⟨hk, hm⟩ | ⟨hk, c, hc, hcell⟩
  · exact wpAny_Name (wpAny_loadName_local I.ok.kind hk hn hm fin) hd
  · rcases hk with hk | hk
    · exact wpAny_Name (wpAny_loadName_cell I.ok.kind hk hc hcell fin) hd
    · exact wpAny_Name (wpAny_loadName_free I.ok.kind hk hc hcell fin hcd) hd
theorem pe_int {i j pos} : PE X (.Constant (.int i) j pos) (tC (.int i)) := fun _ _ _ H _ I h => wpAny_Constant_int ⟨.int i, H, I.tok _, ⟨_, rfl⟩, h⟩
theorem pe_bl {b j pos} : PE X (.Constant (.bool b) j pos) (tC (.bl b)) := fun _ _ _ H _ I h => Constant_bool ⟨.bl b, H, I, rfl, h⟩
theorem pe_non {j pos} : PE X (.Constant .none j pos) (tC .non) := fun _ _ _ H _ I h => Constant_none ⟨.non, H, I, rfl, h⟩
theorem pe_str {x j pos} : PE X (.Constant (.str x) j pos) (tC (.str x)) := fun _ _ _ H _ I h => Calls.Constant_str ⟨.str x, H, I.tok _, ⟨_, rfl⟩, h⟩

/-- a global name of the def -/
def Gl (X : Cx) (x : Str) : Prop := X.env.kindOf x = some .globalImplicit
theorem ld_glob {E : Value → Shared → Prop} {pins : List (Addr × Obj)} {s : Shared} {σ : St} {H : Hp} {x : Str} {u : Value} {pos : Pos} {Q : Value → Shared → Prop} (I : Inv X pins σ H s) (hg : Gl X x) (hm : X.mg x = some u) (h : Q u s)
    (hd : (x == ("__debug__" : Str)) = false := by decide) : wpAny (model X.prog X.w) X.A (eval (.Name x pos) X.env) Q E s :=
  Calls.Name_function_global I.ok.kind hg (Calls.loadGlobal_global (by rw [I.ok.glob]; exact I.mod.glob.keeps I.bk) hm h) hd
theorem ld_blt {E : Value → Shared → Prop} {pins : List (Addr × Obj)} {s : Shared} {σ : St} {H : Hp} {x : Str} {u : Value} {pos : Pos} {Q : Value → Shared → Prop} (I : Inv X pins σ H s) (hg : Gl X x) (hm : X.mg x = none) (hv : bootBuiltins x = some u) (h : Q u s)
    (hn : x ≠ "__name__" := by decide) (hd : (x == ("__debug__" : Str)) = false := by decide) : wpAny (model X.prog X.w) X.A (eval (.Name x pos) X.env) Q E s := by
  obtain ⟨mb, h1, h2⟩ := I.mod.blt
  exact Calls.Name_function_global I.ok.kind hg (Calls.loadGlobal_builtin (by rw [I.ok.glob]; exact I.mod.glob.keeps I.bk) hm (by rw [I.ok.blt]; exact h1.keeps I.bk) ((h2 x hn).trans hv) h) hd
/-- a module's constant, a class, a function, as a value -/
theorem pe_glob {x : Str} {v : V} {u : Value} {pos : Pos} (hg : Gl X x) (hm : X.mg x = some u) (r : RelV v u) (hd : (x == ("__debug__" : Str)) = false := by decide) : PE X (.Name x pos) (tC v) :=
  fun _ _ _ H _ I h => ld_glob I hg hm ⟨v, H, I, r, h⟩ hd
/-! ### arithmetic -/
variable {a b : Expr} {ta tb : TE} {pos : Pos}
/-! ### comparisons -/
/-! ### and, or, not -/
variable {tA tB' : TT} {rest : List Expr}
def tOr (t u : TT) : TT := fun σ H Q => t σ H fun c H1 => if c = true then Q true H1 else u σ H1 Q
theorem pw_or1 (ha : PT X a tA) : PW X (.BoolOp .Or [a] pos) tA := by
  intro wh pins s σ H Q I h
  refine isTrue_or (thn (ha pins s σ H Q I h) fun c s1 e => ?_)
  cases c with
  | false => exact isTrue_or_nil e
  | true => exact e
theorem pw_or (ha : PT X a tA) (hb : PW X (.BoolOp .Or (b :: rest) pos) tB') : PW X (.BoolOp .Or (a :: b :: rest) pos) (tOr tA tB') := by
  intro wh pins s σ H Q I h
  refine isTrue_or (thn (ha pins s σ H _ I h) fun c s1 ⟨H1, I1, q1⟩ => ?_)
  cases c with
  | true => exact ⟨H1, I1, q1⟩
  | false => exact hb wh pins s1 σ H1 Q I1 q1
/-- a if t else b -/
def tIf (t : TT) (ta tb : TE) : TE := fun σ H Q => t σ H fun c H1 => if c = true then ta σ H1 Q else tb σ H1 Q
theorem pe_ifExp {c : Expr} (hc : PT X c tA) (ha : PE X a ta) (hb : PE X b tb) : PE X (.IfExp c a b pos) (tIf tA ta tb) := by
  intro pins s σ H Q I h
  refine wpAny_IfExp (thn (hc pins s σ H _ I h) fun d s1 ⟨H1, I1, q1⟩ => ?_)
  cases d with
  | true => exact ha pins s1 σ H1 Q I1 q1
  | false => exact hb pins s1 σ H1 Q I1 q1
end
end L2

namespace L2
open PySem PySem.Spec PyProof.Rows

/-! ### a list, a tuple that is read: tracked, frozen, or an object of the module -/
def SqL (K : PySem.W.Frag) (H : Hp) (a : Addr) (xs : List V) : Prop :=
  Rd H a (.lst xs) ∨
    ∃ (o : Obj) (its : Array Value) (n : Nat), K.lookup a = some o ∧ o.cls = .type "list" ∧ o.dict = none ∧ o.data = .seq its n ∧ its.size ≤ sizeLine ∧ Vals xs its.toList
def SqT (K : PySem.W.Frag) (H : Hp) (a : Addr) (xs : List V) : Prop :=
  Rd H a (.tup xs) ∨
    ∃ (o : Obj) (its : Array Value) (n : Nat), K.lookup a = some o ∧ o.cls = .type "tuple" ∧ o.data = .seq its n ∧ its.size ≤ sizeLine ∧ Vals xs its.toList
def absV : Value → Option V
  | .none => some .non
  | .bool b => some (.bl b)
  | .int i _ => some (.int i)
  | .str x _ => some (.str x)
  | .bytes b _ => some (.byt b)
  | .float b _ => some (.flt b)
  | .ref a => some (.ref a)
  | .type n => some (.ty n)
  | _ => none
theorem RelV.abs {x : V} {u : Value} (r : RelV x u) : absV u = some x := by
  cases x with
  | non => cases r; rfl
  | bl _ => cases r; rfl
  | int _ => obtain ⟨t, rfl⟩ := r; rfl
  | str _ => obtain ⟨t, rfl⟩ := r; rfl
  | byt _ => obtain ⟨t, rfl⟩ := r; rfl
  | flt _ => obtain ⟨t, rfl⟩ := r; rfl
  | ref _ => cases r; rfl
  | ty _ => cases r; rfl
theorem RelV.inj {x y : V} {u : Value} (r : RelV x u) (q : RelV y u) : x = y := Option.some.inj (r.abs.symm.trans q.abs)
theorem Vals.inj : ∀ {xs ys : List V} {us : List Value}, Vals xs us → Vals ys us → xs = ys
  | _, _, _, .nil, .nil => rfl
  | _, _, _, .cons r t, .cons r' t' => by rw [r.inj r', Vals.inj t t']
section
variable {X : Cx} {pins : List (Addr × Obj)} {σ : St} {H : Hp} {s : Shared} {a : Addr} {xs ys : List V}
theorem SqL.of {K : PySem.W.Frag} (h : H a = some (.lst xs)) : SqL K H a xs := .inl (.inl h)
theorem SqT.of {K : PySem.W.Frag} (h : H a = some (.tup xs)) : SqT K H a xs := .inl (.inl h)
theorem Inv.list (I : Inv X pins σ H s) (h : SqL X.K H a xs) : ∃ its : List Value, Vals xs its ∧ PlainL s.heap a its.toArray ∧ xs.length ≤ sizeLine := by
  rcases h with h | ⟨o, its, n, hk, hc, hd, hs, hz, r⟩
  · obtain ⟨z, its, n, r, e⟩ := h.ok I.hok
    exact ⟨its, r, ⟨_, n, e, rfl, rfl, rfl⟩, z⟩
  · refine ⟨its.toList, r, ⟨o, n, I.kIn a o hk, hc, hd, by simpa using hs⟩, ?_⟩
    have e := r.length
    simp only [Array.length_toList] at e
    omega
theorem Inv.tuple (I : Inv X pins σ H s) (h : SqT X.K H a xs) : ∃ its : List Value, Vals xs its ∧ IsTup s.heap a its.toArray ∧ xs.length ≤ sizeLine := by
  rcases h with h | ⟨o, its, n, hk, hc, hs, hz, r⟩
  · obtain ⟨z, its, r, p⟩ := h.ok I.hok
    exact ⟨its, r, p, z⟩
  · refine ⟨its.toList, r, ⟨o, I.kIn a o hk, hc, n, by simpa using hs⟩, ?_⟩
    have e := r.length
    simp only [Array.length_toList] at e
    omega
theorem Inv.list_inj (I : Inv X pins σ H s) (h : SqL X.K H a xs) (h' : SqL X.K H a ys) : xs = ys := by
  obtain ⟨its, r, ⟨o, n, e, _, _, d⟩, _⟩ := I.list h
  obtain ⟨its', r', ⟨o', n', e', _, _, d'⟩, _⟩ := I.list h'
  rw [e] at e'; cases e'
  rw [d] at d'
  injection d' with d1 _
  have : its = its' := by simpa using congrArg Array.toList d1
  subst this
  exact r.inj r'
theorem Inv.tuple_inj (I : Inv X pins σ H s) (h : SqT X.K H a xs) (h' : SqT X.K H a ys) : xs = ys := by
  obtain ⟨its, r, ⟨o, e, _, n, d⟩, _⟩ := I.tuple h
  obtain ⟨its', r', ⟨o', e', _, n', d'⟩, _⟩ := I.tuple h'
  rw [e] at e'; cases e'
  rw [d] at d'
  injection d' with d1 _
  have : its = its' := by simpa using congrArg Array.toList d1
  subst this
  exact r.inj r'
end

/-! ### another wish about exceptions -/
abbrev Cx.wish (X : Cx) (E : Value → Shared → Prop) : Cx := { X with xe := E }
/-- no exception leaves -/
abbrev Cx.nox (X : Cx) : Cx := X.wish fun _ _ => False
theorem Cx.Ok.wish {X : Cx} (ok : X.Ok) (E : Value → Shared → Prop) : (X.wish E).Ok :=
  ⟨ok.mod, ok.kind, ok.glob, ok.blt, ok.above, ok.inj, ok.has, ok.cab, ok.hd, ok.frames, ok.stk, ok.exf, ok.bs, ok.bsz, ok.noex, ok.exfs, ok.funs, ok.frf⟩
theorem Cx.Ok.unwish {X : Cx} {E : Value → Shared → Prop} (ok : (X.wish E).Ok) : X.Ok :=
  ⟨ok.mod, ok.kind, ok.glob, ok.blt, ok.above, ok.inj, ok.has, ok.cab, ok.hd, ok.frames, ok.stk, ok.exf, ok.bs, ok.bsz, ok.noex, ok.exfs, ok.funs, ok.frf⟩
section
variable {X : Cx} {pins : List (Addr × Obj)} {σ : St} {H : Hp} {s : Shared} {E : Value → Shared → Prop}
theorem Inv.wish (I : Inv X pins σ H s) (E : Value → Shared → Prop) : Inv (X.wish E) pins σ H s := ⟨I.ok.wish E, I.os, I.bare, I.base, I.loc, I.cell, I.free, I.freeC, I.pin, I.hok, I.len⟩
theorem Inv.unwish (I : Inv (X.wish E) pins σ H s) : Inv X pins σ H s := ⟨I.ok.unwish, I.os, I.bare, I.base, I.loc, I.cell, I.free, I.freeC, I.pin, I.hok, I.len⟩
theorem SP.unwish {D : Ends} {f : Flow} {s' : Shared} (h : SP (X.wish E) pins D f s') : SP X pins D f s' := by
  cases f with
  | next => obtain ⟨σ', H', I, q⟩ := h; exact ⟨σ', H', I.unwish, q⟩
  | brk => obtain ⟨σ', H', I, q⟩ := h; exact ⟨σ', H', I.unwish, q⟩
  | cont => obtain ⟨σ', H', I, q⟩ := h; exact ⟨σ', H', I.unwish, q⟩
  | ret u => obtain ⟨v, σ', H', I, r, q⟩ := h; exact ⟨v, σ', H', I.unwish, r, q⟩
theorem PE.nox {e : Expr} {t : TE} (h : PE X.nox e t) : PE X e t := fun pins s σ H Q I hw =>
  wpAny_mono (h pins s σ H Q (I.wish _) hw) (fun _ _ ⟨v, H', I', r, q⟩ => ⟨v, H', I'.unwish, r, q⟩) fun _ _ z => False.elim z
theorem PT.nox {e : Expr} {t : TT} (h : PT X.nox e t) : PT X e t := fun pins s σ H Q I hw =>
  wpAny_mono (h pins s σ H Q (I.wish _) hw) (fun _ _ ⟨H', I', q⟩ => ⟨H', I'.unwish, q⟩) fun _ _ z => False.elim z
theorem PSs.nox {st : List Stmt} {t : TS} (h : PSs X.nox st t) : PSs X st t := fun pins s σ H D I hw =>
  wpAny_mono (h pins s σ H D (I.wish _) hw) (fun _ _ q => q.unwish) fun _ _ z => False.elim z
end

/-! ### blocks and small statements -/
section
variable {X : Cx} {st : Stmt} {rest : List Stmt} {t u : TS} {e : Expr} {te : TE} {pos : Pos}
def tNext : TS := fun D σ H => D.nx σ H
def tSeq (t u : TS) : TS := fun D σ H => t { D with nx := u D } σ H
theorem pss_nil : PSs X [] tNext := fun _ _ σ H _ I h => wpAny_execs_nil ⟨σ, H, I, h⟩
theorem pss_cons (h1 : PS X st t) (h2 : PSs X rest u) : PSs X (st :: rest) (tSeq t u) := by
  intro pins s σ H D I h
  refine wpAny_execs_cons (thn (h1 pins s σ H { D with nx := u D } I h) fun f s1 q => ?_)
  cases f with
  | next =>
    obtain ⟨σ', H', I', q⟩ := q
    exact h2 pins s1 σ' H' D I' q
  | ret v => exact q
  | brk => exact q
  | cont => exact q
theorem pss_one (h1 : PS X st t) : PSs X [st] t := by
  intro pins s σ H D I h
  refine wpAny_execs_cons (thn (h1 pins s σ H D I h) fun f s1 q => ?_)
  cases f with
  | next => exact wpAny_execs_nil q
  | ret v => exact q
  | brk => exact q
  | cont => exact q
def tRet (te : TE) : TS := fun D σ H => te σ H D.rt
theorem ps_ret (he : PE X e te) : PS X (.Return (some e) pos) (tRet te) := by
  intro pins s σ H D I h
  exact wpAny_Return_some (thn (he pins s σ H _ I h) fun v s1 ⟨x, H1, I1, r1, q1⟩ => ⟨x, σ, H1, I1, r1, q1⟩)
def tIfS (c : TT) (t u : TS) : TS := fun D σ H => c σ H fun b H1 => if b = true then t D σ H1 else u D σ H1
theorem ps_if {c : Expr} {a b : List Stmt} {tc : TT} (hc : PT X c tc) (ha : PSs X a t) (hb : PSs X b u) : PS X (.If c a b pos) (tIfS tc t u) := by
  intro pins s σ H D I h
  refine wpAny_If (thn (hc pins s σ H _ I h) fun d s1 ⟨H1, I1, q1⟩ => ?_)
  cases d with
  | true => exact ha pins s1 σ H1 D I1 q1
  | false => exact hb pins s1 σ H1 D I1 q1
end

/-! ### targets -/
abbrev TG := V → St → Hp → (St → Hp → Prop) → Prop
abbrev TGs := List V → St → Hp → (St → Hp → Prop) → Prop
def PG (X : Cx) (target : Expr) (t : TG) : Prop :=
  ∀ (pins : List (Addr × Obj)) (s : Shared) (σ : St) (H : Hp) (v : V) (u : Value) (Q : St → Hp → Prop), Inv X pins σ H s → RelV v u → t v σ H Q →
    wpAny (model X.prog X.w) X.A (assign target X.env u) (fun _ s' => ∃ σ' H', Inv X pins σ' H' s' ∧ Q σ' H') X.xe s
/-- several targets, one after another -/
def PGs (X : Cx) (ts : List Expr) (t : TGs) : Prop :=
  ∀ (pins : List (Addr × Obj)) (s : Shared) (σ : St) (H : Hp) (vs : List V) (us : List Value) (Q : St → Hp → Prop), Inv X pins σ H s → Vals vs us → t vs σ H Q →
    wpAny (model X.prog X.w) X.A (assignInOrder ((assignEach ts X.env).map (·.2)) us) (fun _ s' => ∃ σ' H', Inv X pins σ' H' s' ∧ Q σ' H') X.xe s
/-- o[i] = v, by values -/
abbrev TSet := V → V → V → Hp → (Hp → Prop) → Prop
def PSet (X : Cx) (t : TSet) : Prop :=
  ∀ (pins : List (Addr × Obj)) (s : Shared) (σ : St) (H : Hp) (o i v : V) (ov iv u : Value) (Q : Hp → Prop), Inv X pins σ H s → RelV o ov → RelV i iv → RelV v u → t o i v H Q →
    wpAny (model X.prog X.w) X.A (setItem ov iv u) (fun _ s' => ∃ H', Inv X pins σ H' s' ∧ Q H') X.xe s
section
variable {X : Cx} {pos : Pos}
def gName (i : Nat) : TG := fun v σ H Q => Q (σ.set i (some v)) H
theorem pg_name {i : Nat} {x : Str} (hN : X.N.Nodup) (hi : X.N[i]? = some x) (hx : Loc X.env.scope x) (hf : X.fn x = true ∨ X.env.scope.names.lookup x = some .local := by first | exact .inl rfl | exact .inr rfl | assumption) : PG X (.Name x pos) (gName i) := by
  intro pins s σ H v u Q I r h
  exact wpAny_assign_Name (store_ok I hN hi hx r (fun s' I' => ⟨_, H, I', h⟩) hf)
def gNil : TGs := fun vs σ H Q => vs = [] ∧ Q σ H
def gCons (t : TG) (u : TGs) : TGs := fun vs σ H Q => ∃ v r, vs = v :: r ∧ t v σ H fun σ' H' => u r σ' H' Q
theorem pgs_nil : PGs X [] gNil := by
  intro pins s σ H vs us Q I r h
  obtain ⟨e, h⟩ := h
  subst e
  cases r
  exact assignInOrder_nil ⟨σ, H, I, h⟩
theorem pgs_cons {e : Expr} {es : List Expr} {t : TG} {u : TGs} (h1 : PG X e t) (h2 : PGs X es u)
    (hs : (assignEach (e :: es) X.env).map (·.2) = assign e X.env :: (assignEach es X.env).map (·.2) := by rfl) : PGs X (e :: es) (gCons t u) := by
  intro pins s σ H vs us Q I r h
  obtain ⟨v, vr, e1, h⟩ := h
  subst e1
  cases r with
  | cons r rr =>
    rw [hs]
    refine assignInOrder_cons (thn (h1 pins s σ H _ _ _ I r h) fun _ s1 ⟨σ1, H1, I1, q1⟩ => ?_)
    exact h2 pins s1 σ1 H1 _ _ Q I1 rr q1
/-- (a, b, ..) = a tuple of that length -/
def gTup (K : PySem.W.Frag) (n : Nat) (t : TGs) : TG := fun v σ H Q => ∃ a xs, v = .ref a ∧ SqT K H a xs ∧ xs.length = n ∧ t xs σ H Q
theorem pg_tup {es : List Expr} {k : Nat} {t : TGs} {n : Nat} (hc : X.calm = true) (h : PGs X es t)
    (hn : (assignEach es X.env).length = n := by rfl) (hst : (assignEach es X.env).findIdx? (·.1) = none := by rfl) : PG X (.Tuple es k pos) (gTup X.K n t) := by
  intro pins s σ H v u Q I r hw
  obtain ⟨a, xs, e1, hq, hl, hw⟩ := hw
  subst e1
  cases r
  obtain ⟨its, rv, ht, hz⟩ := I.tuple hq
  refine assign_Tuple_tuple (I.ok.hd hc) ht (by simp [hn, ← hl, rv.length]) hst fun h' hx => ?_
  have I1 : Inv X pins σ H { s with heap := h' } := I.kept (t' := s.toks) fun b o e => hx b o (Nat.ne_of_lt (Heap.lt_size e)) e
  exact h pins _ σ H xs _ Q I1 (by simpa using rv) hw
/-- o[i] = .. -/
def gSub (to ti : TE) (t : TSet) : TG := fun v σ H Q => to σ H fun o H1 => ti σ H1 fun i H2 => t o i v H2 fun H3 => Q σ H3
theorem pg_sub {o i : Expr} {to ti : TE} {t : TSet} (ho : PE X o to) (hi : PE X i ti) (hs : PSet X t)
    (ha : ∀ v, assign (.Subscript o i pos) X.env v = (do
      let ov ← holding [v] (eval o X.env)
      let iv ← holding [v, ov] (eval i X.env)
      standAt pos
      holding [v, ov, iv] (setItem ov iv v)
      release [v, ov, iv] []) := by intro _; rfl) : PG X (.Subscript o i pos) (gSub to ti t) := by
  intro pins s σ H v u Q I r h
  rw [ha]
  refine wpAny_bind (wpAny_holding (thn (ho pins s σ H _ I h) fun ov s1 ⟨x, H1, I1, r1, q1⟩ => ?_))
  refine wpAny_bind (wpAny_holding (thn (hi pins s1 σ H1 _ I1 q1) fun iv s2 ⟨y, H2, I2, r2, q2⟩ => ?_))
  refine wpAny_bind (wpAny_standAt (wpAny_bind (wpAny_holding (thn (hs pins s2 σ H2 x y v ov iv u _ I2 r1 r2 r q2) fun _ s3 ⟨H3, I3, q3⟩ => ?_))))
  exact wpAny_release ⟨σ, H3, I3, q3⟩
/-- target = value -/
def tAsg (te : TE) (g : TG) : TS := fun D σ H => te σ H fun x H1 => g x σ H1 D.nx
theorem ps_asg {tg e : Expr} {te : TE} {g : TG} (he : PE X e te) (hg : PG X tg g) (hs : swapsWithSole [tg] e pos.line X.env = pure false := by rfl) (hw : swappedStores [tg] e X.env = pure none := by rfl)
    (h1 : (assignEach [tg] X.env).map (·.2) = [assign tg X.env] := by rfl) : PS X (.Assign [tg] e pos) (tAsg te g) := by
  intro pins s σ H D I h
  refine wpAny_Assign_stores (thn (he pins s σ H _ I h) fun v s1 ⟨x, H1, I1, r1, q1⟩ => ?_) hs hw
  rw [h1]
  exact thn (hg pins s1 σ H1 x v _ I1 r1 q1) fun _ s2 q => q
/-- name = value -/
theorem ps_set {i : Nat} {x : Str} {e : Expr} {te : TE} {pos' : Pos} (hN : X.N.Nodup) (hi : X.N[i]? = some x) (hx : Loc X.env.scope x) (he : PE X e te) (hs : swapsWith e (some (.Name x pos')) pos.line X.env = pure false := by rfl) (hf : X.fn x = true ∨ X.env.scope.names.lookup x = some .local := by first | exact .inl rfl | exact .inr rfl | assumption) :
    PS X (.Assign [.Name x pos'] e pos) (tAsg te (gName i)) := by
  intro pins s σ H D I h
  refine wpAny_Assign_Name (thn (he pins s σ H _ I h) fun v s1 ⟨y, H1, I1, r1, q1⟩ => ?_) hs
  exact store_ok I1 hN hi hx r1 (fun s2 I2 => ⟨_, H1, I2, q1⟩) hf
end

/-! ### while -/
section
variable {X : Cx} {pos : Pos}
/-- the invariant W with its measure -/
def tWhile (c : TT) (tb : TS) : TS := fun D σ H => ∃ W : Nat → St → Hp → Prop, (∃ m, W m σ H) ∧ ∀ m σ H, W m σ H →
  c σ H fun b H1 => if b = true then ∃ N : St → Hp → Prop, (∀ σ' H', N σ' H' → ∃ m', m' < m ∧ W m' σ' H') ∧ tb { D with nx := N, ct := N, bk := D.nx } σ H1 else D.nx σ H1
end

/-! ### what a loop or a comprehension walks -/
/-- at turn i: it yields x (the heap may grow), or it stops -/
structure It where
  go : Nat → Hp → Prop
  yld : Nat → Hp → V → Hp → Prop
  stop : Nat → Hp → Prop
/-- the iterator's own objects may turn: they are not the frame's, not pinned, younger than the entry (or a comprehension's own) -/
def FpOk (X : Cx) (pins : List (Addr × Obj)) (H : Hp) (b : Addr) : Prop :=
  H b = none ∧ b ≠ X.env.locals ∧ b ∉ X.fs ∧ (b ∈ X.ex ∨ X.s₀.heap.objs.size ≤ b) ∧ (∀ x c, X.env.cells.lookup x = some c → c ≠ b) ∧ ∀ p ∈ X.pn ++ pins, p.1 ≠ b
theorem Inv.fpOk {X : Cx} {pins : List (Addr × Obj)} {σ : St} {H H' : Hp} {s : Shared} {b : Addr} (I : Inv X pins σ H s) (hb : s.heap.objs.size ≤ b) (hn : H' b = none) : FpOk X pins H' b := by
  refine ⟨hn, Nat.ne_of_gt (Nat.lt_of_lt_of_le I.lt hb), I.nofs hb, .inr (Nat.le_trans I.sz hb), fun x c e z => ?_, fun p hp z => ?_⟩
  · obtain ⟨v, q⟩ := I.cell x c e
    exact absurd (Nat.lt_of_lt_of_le q.lt (by rw [z]; exact hb)) (Nat.lt_irrefl _)
  · exact absurd (Nat.lt_of_lt_of_le (Heap.lt_size (I.pin p hp).1) (by rw [z]; exact hb)) (Nat.lt_irrefl _)
structure Turn (P : Program) (w : World) (K : PySem.W.Frag) (tg : Expr) (J : It) (fp : List Addr) (it : Addr) (tn : Nat → Heap → Prop) : Prop where
  mem : it ∈ fp
  obj : ∀ i h, tn i h → ∀ b ∈ fp, ∃ o, h.get? b = some o ∧ ∀ v, o.data ≠ .cell v
  keep : ∀ i h h', tn i h → (∀ b ∈ fp, ∀ o, h.get? b = some o → h'.get? b = some o) → tn i h'
  item : ∀ (X : Cx), X.prog = P → X.w = w → X.K = K → X.calm = true → ∀ (i : Nat) (pins : List (Addr × Obj)) (s : Shared) (σ : St) (H : Hp) (E : Value → Shared → Prop), Inv X pins σ H s → (∀ b ∈ fp, FpOk X pins H b) → tn i s.heap → J.go i H →
    wpAny (model P w) X.A (pyNext (.ref it)) (fun r s1 => ∃ u, r = some u ∧
      wpAny (model P w) X.A (letOwnedTupleGo tg (.ref it) u) (fun _ s2 => ∃ x H', Inv X pins σ H' s2 ∧ RelV x u ∧ J.yld i H x H' ∧ tn (i + 1) s2.heap ∧ ∀ b ∈ fp, H' b = none) E s1) E s
  done : ∀ (X : Cx), X.prog = P → X.w = w → X.K = K → X.calm = true → ∀ (i : Nat) (pins : List (Addr × Obj)) (s : Shared) (σ : St) (H : Hp) (E : Value → Shared → Prop), Inv X pins σ H s → (∀ b ∈ fp, FpOk X pins H b) → tn i s.heap → J.stop i H →
    wpAny (model P w) X.A (pyNext (.ref it)) (fun r s1 => r = none ∧ Inv X pins σ H s1) E s
  self : ∀ (A : Around) (i : Nat) (s : Shared) (Q : Value → Shared → Prop) (E : Value → Shared → Prop), tn i s.heap → Q (.ref it) s → wpAny (model P w) A (pyIter (.ref it)) Q E s
abbrev TI := St → Hp → (It → Hp → Prop) → Prop
/-- an iterator has come -/
def PIE (X : Cx) (pins : List (Addr × Obj)) (σ : St) (tg : Expr) (R : It → Hp → Prop) (itv : Value) (s2 : Shared) : Prop :=
  ∃ (it : Addr) (fp : List Addr) (tn : Nat → Heap → Prop) (J : It) (H' : Hp), itv = .ref it ∧ Inv X pins σ H' s2 ∧ Turn X.prog X.w X.K tg J fp it tn ∧ tn 0 s2.heap ∧ (∀ b ∈ fp, FpOk X pins H' b) ∧ R J H'
def PI (X : Cx) (tg iter : Expr) (wi : TI) : Prop :=
  ∀ (pins : List (Addr × Obj)) (s : Shared) (σ : St) (H : Hp) (R : It → Hp → Prop), Inv X pins σ H s → wi σ H R →
    wpAny (model X.prog X.w) X.A (eval iter X.env) (fun v s1 => wpAny (model X.prog X.w) X.A (pyIter v) (PIE X pins σ tg R) X.xe s1) X.xe s

/-- the step ahead of the store is nothing for an iterator that keeps no tuple -/
theorem go_of {M : Model} {A : Around} {E : Value → Shared → Prop} {s : Shared} {tg : Expr} {it : Addr} {u : Value} {o : Obj} {n : String} {vs : Array Value} {Q : Unit → Shared → Prop} (ho : s.heap.get? it = some o) (hc : o.cls = .type n) (hd : o.data = .fields vs)
    (hn : ["enumerate", "zip", "dict_itemiterator", "dict_reverseitemiterator", "odict_iterator", "itertools.zip_longest", "itertools.pairwise"].contains n = false) (hQ : Q () s) : wpAny M A (letOwnedTupleGo tg (.ref it) u) Q E s := by
  unfold letOwnedTupleGo
  cases tg <;> first
    | exact wpAny_pure hQ
    | (cases u <;> first
        | exact wpAny_pure hQ
        | (refine wpAny_bind (wpAny_load ho ?_)
           rw [hc, hd]
           show wpAny M A (if (["enumerate", "zip", "dict_itemiterator", "dict_reverseitemiterator", "odict_iterator", "itertools.zip_longest", "itertools.pairwise"].contains n && vs[0]? == some (rawInt _)) = true then _ else _) Q E s
           rw [if_neg (by intro h; rw [hn, Bool.false_and] at h; cases h)]
           exact wpAny_pure hQ))

/-- the list at a, as it stands at each turn (a loop may append to it) -/
def Itl (K : PySem.W.Frag) (a : Addr) : It :=
  ⟨fun i H => ∃ xs x, SqL K H a xs ∧ xs[i]? = some x, fun i H x H' => H' = H ∧ ∀ xs, SqL K H a xs → xs[i]? = some x, fun i H => ∃ xs, SqL K H a xs ∧ xs.length ≤ i⟩
def Itt (K : PySem.W.Frag) (a : Addr) : It :=
  ⟨fun i H => ∃ xs x, SqT K H a xs ∧ xs[i]? = some x, fun i H x H' => H' = H ∧ ∀ xs, SqT K H a xs → xs[i]? = some x, fun i H => ∃ xs, SqT K H a xs ∧ xs.length ≤ i⟩
/-- lo, lo + 1, .. (n of them) -/
def Itr (lo : Int) (n : Nat) : It := ⟨fun i _ => i < n, fun i H x H' => H' = H ∧ x = .int (lo + i), fun i _ => n ≤ i⟩
theorem turn_list {P : Program} {w : World} {K : PySem.W.Frag} {tg : Expr} (a it : Addr) : Turn P w K tg (Itl K a) [it] it (fun i h => h.IsListIter it a i) where
  mem := by simp
  obj := fun i h st b hb => by
    have e : b = it := by simpa using hb
    subst e
    obtain ⟨o, e, c, d⟩ := st
    exact ⟨o, e, fun v z => by rw [d] at z; cases z⟩
  keep := fun i h h' st k => st.at fun o e => k it (by simp) o e
  item := by
    intro X hP hw hK hc i pins s σ H E I hf st hg
    subst hP hw hK
    obtain ⟨xs, x, hq, hx⟩ := hg
    obtain ⟨its, rv, p, hz⟩ := I.list hq
    obtain ⟨u, hu, ru⟩ := rv.get hx
    obtain ⟨f0, f1, f2, f3, f4, f5⟩ := hf it (by simp)
    refine wpAny_pyNext_list_item st p.isList (x := u) (by simpa using hu) fun h' st' sb => ?_
    have I1 : Inv X pins σ H { s with heap := h' } := I.turned (t' := s.toks) (fun b o hb e => (sb.2 b hb).trans e) f0 f1 f3 f4 f5
    obtain ⟨o, e, c, d⟩ := id st'
    exact ⟨u, rfl, go_of (s := { s with heap := h' }) e c d (by decide) ⟨x, H, I1, ru, ⟨rfl, fun ys hy => by rw [I.list_inj hy hq]; exact hx⟩, st', fun b hb => (hf b hb).1⟩⟩
  done := by
    intro X hP hw hK hc i pins s σ H E I hf st hg
    subst hP hw hK
    obtain ⟨xs, hq, hx⟩ := hg
    obtain ⟨its, rv, p, hz⟩ := I.list hq
    obtain ⟨f0, f1, f2, f3, f4, f5⟩ := hf it (by simp)
    have hl := rv.length
    exact wpAny_pyNext_list_end (I.ok.hd hc) st p.isList (by simp; omega) fun h' eb => ⟨rfl, I.turned (t' := s.toks) (fun b o hb e => eb b o hb e) f0 f1 f3 f4 f5⟩
  self := fun _ _ _ _ _ st h => wpAny_pyIter_listiter st h
theorem turn_tuple {P : Program} {w : World} {K : PySem.W.Frag} {tg : Expr} (a it : Addr) : Turn P w K tg (Itt K a) [it] it (fun i h => h.IsTupleIter it a i) where
  mem := by simp
  obj := fun i h st b hb => by
    have e : b = it := by simpa using hb
    subst e
    obtain ⟨o, e, c, d⟩ := st
    exact ⟨o, e, fun v z => by rw [d] at z; cases z⟩
  keep := fun i h h' st k => st.at fun o e => k it (by simp) o e
  item := by
    intro X hP hw hK hc i pins s σ H E I hf st hg
    subst hP hw hK
    obtain ⟨xs, x, hq, hx⟩ := hg
    obtain ⟨its, rv, p, hz⟩ := I.tuple hq
    obtain ⟨u, hu, ru⟩ := rv.get hx
    obtain ⟨f0, f1, f2, f3, f4, f5⟩ := hf it (by simp)
    refine wpAny_pyNext_tuple_item st (show s.heap.IsTuple a its.toArray from p) (x := u) (by simpa using hu) fun h' st' sb => ?_
    have I1 : Inv X pins σ H { s with heap := h' } := I.turned (t' := s.toks) (fun b o hb e => (sb.2 b hb).trans e) f0 f1 f3 f4 f5
    obtain ⟨o, e, c, d⟩ := id st'
    exact ⟨u, rfl, go_of (s := { s with heap := h' }) e c d (by decide) ⟨x, H, I1, ru, ⟨rfl, fun ys hy => by rw [I.tuple_inj hy hq]; exact hx⟩, st', fun b hb => (hf b hb).1⟩⟩
  done := by
    intro X hP hw hK hc i pins s σ H E I hf st hg
    subst hP hw hK
    obtain ⟨xs, hq, hx⟩ := hg
    obtain ⟨its, rv, p, hz⟩ := I.tuple hq
    obtain ⟨f0, f1, f2, f3, f4, f5⟩ := hf it (by simp)
    have hl := rv.length
    exact wpAny_pyNext_tuple_end (I.ok.hd hc) st (show s.heap.IsTuple a its.toArray from p) (by simp; omega) fun h' eb => ⟨rfl, I.turned (t' := s.toks) (fun b o hb e => eb b o hb e) f0 f1 f3 f4 f5⟩
  self := fun _ _ _ _ _ st h => wpAny_pyIter_tupleiter st h
theorem turn_range {P : Program} {w : World} {K : PySem.W.Frag} {tg : Expr} (it : Addr) (lo : Int) (n : Nat) : Turn P w K tg (Itr lo n) [it] it (fun i h => IsRangeIter h it (lo + (i : Nat) * 1) ((n : Int) - (i : Nat)) 1) where
  mem := by simp
  obj := fun i h st b hb => by
    have e : b = it := by simpa using hb
    subst e
    exact ⟨_, st, fun v z => by
      have z' : Data.fields _ = Data.cell v := z
      cases z'⟩
  keep := fun i h h' st k => k it (by simp) _ st
  item := by
    intro X hP hw hK hc i pins s σ H E I hf st hg
    subst hP hw hK
    obtain ⟨f0, f1, f2, f3, f4, f5⟩ := hf it (by simp)
    have W := Walks.range (prog := X.prog) (w := X.w) (I.ok.hd hc) it lo 1 n
    refine W.item i s _ _ hg st fun v h' tk hv st' kk => ?_
    obtain ⟨t, rfl⟩ := hv
    have I1 : Inv X pins σ H { s with heap := h', toks := tk } := I.turned (fun b o hb e => kk b o (by simpa using hb) e) f0 f1 f3 f4 f5
    refine ⟨_, rfl, go_of (s := { s with heap := h', toks := tk }) (n := "range_iterator") st' rfl rfl (by decide) ⟨.int (lo + i), H, I1, ⟨t, ?_⟩, ⟨rfl, rfl⟩, st', fun b hb => (hf b hb).1⟩⟩
    rw [Int.mul_one]
  done := by
    intro X hP hw hK hc i pins s σ H E I hf st hg
    subst hP hw hK
    obtain ⟨f0, f1, f2, f3, f4, f5⟩ := hf it (by simp)
    exact wpAny_pyNext_range_end (I.ok.hd hc) st (by have : n ≤ i := hg; omega) fun h' eb => ⟨rfl, I.turned (t' := s.toks) (fun b o hb e => eb b o hb e) f0 f1 f3 f4 f5⟩
  self := fun _ _ _ _ _ st h => wpAny_pyIter_rangeiter st h
end L2

namespace L2
open PySem PySem.Spec PyProof.Rows
section
variable {X : Cx} {tg : Expr}
def iList (K : PySem.W.Frag) (tl : TE) : TI := fun σ H R => tl σ H fun x H1 => ∃ a, x = .ref a ∧ (∃ xs, SqL K H1 a xs) ∧ R (Itl K a) H1
def iTup (K : PySem.W.Frag) (tl : TE) : TI := fun σ H R => tl σ H fun x H1 => ∃ a, x = .ref a ∧ (∃ xs, SqT K H1 a xs) ∧ R (Itt K a) H1
theorem pi_list {l : Expr} {tl : TE} (hl : PE X l tl) : PI X tg l (iList X.K tl) := by
  intro pins s σ H R I h
  refine thn (hl pins s σ H _ I h) fun v s1 ⟨x, H1, I1, r1, q1⟩ => ?_
  obtain ⟨a, e, ⟨xs, hq⟩, q⟩ := q1
  subst e
  cases r1
  obtain ⟨its, rv, p, hz⟩ := I1.list hq
  refine wpAny_pyIter_list p.isList ?_
  refine ⟨s1.heap.objs.size, [s1.heap.objs.size], _, _, H1, rfl, I1.kept (t' := s1.toks) fun b o e => Heap.get?_push_of_some _ e, turn_list a _, ⟨_, Heap.get?_push_size _ rfl, rfl, rfl⟩, fun b hb => ?_, q⟩
  have e : b = s1.heap.objs.size := by simpa using hb
  subst e
  exact I1.fpOk (Nat.le_refl _) (I1.hok.fresh (Nat.le_refl _))
theorem pi_tup {l : Expr} {tl : TE} (hl : PE X l tl) : PI X tg l (iTup X.K tl) := by
  intro pins s σ H R I h
  refine thn (hl pins s σ H _ I h) fun v s1 ⟨x, H1, I1, r1, q1⟩ => ?_
  obtain ⟨a, e, ⟨xs, hq⟩, q⟩ := q1
  subst e
  cases r1
  obtain ⟨its, rv, p, hz⟩ := I1.tuple hq
  refine wpAny_pyIter_tuple (show s1.heap.IsTuple a its.toArray from p) ?_
  refine ⟨s1.heap.objs.size, [s1.heap.objs.size], _, _, H1, rfl, I1.kept (t' := s1.toks) fun b o e => Heap.get?_push_of_some _ e, turn_tuple a _, ⟨_, Heap.get?_push_size _ rfl, rfl, rfl⟩, fun b hb => ?_, q⟩
  have e : b = s1.heap.objs.size := by simpa using hb
  subst e
  exact I1.fpOk (Nat.le_refl _) (I1.hok.fresh (Nat.le_refl _))
/-- a range object just made, walked -/
theorem range_it {pins : List (Addr × Obj)} {σ : St} {H : Hp} {s : Shared} {R : It → Hp → Prop} {E : Value → Shared → Prop} {lo hi : Int} {t u v : Tok} {tk : Nat} (I : Inv X pins σ H s) (h1 : -(2 ^ 62) ≤ lo) (h2 : lo < 2 ^ 62) (h3 : -(2 ^ 62) ≤ hi) (h4 : hi < 2 ^ 62)
    (q : R (Itr lo (hi - lo).toNat) H) : wpAny (model X.prog X.w) X.A (pyIter (.ref s.heap.objs.size)) (PIE X pins σ tg R) E { s with heap := s.heap.push { cls := .type "range", data := .fields #[.int lo t, .int hi u, .int 1 v] }, toks := tk } := by
  refine wpAny_pyIter_range (IsRange.new ..) (small_one h1 h2 h3 h4) ?_
  have I1 : Inv X pins σ H { s with heap := s.heap.push { cls := .type "range", data := .fields #[.int lo t, .int hi u, .int 1 v] }, toks := tk } := I.kept fun b o e => Heap.get?_push_of_some _ e
  refine ⟨(s.heap.push { cls := .type "range", data := .fields #[.int lo t, .int hi u, .int 1 v] }).objs.size, [(s.heap.push { cls := .type "range", data := .fields #[.int lo t, .int hi u, .int 1 v] }).objs.size], _, _, H, rfl,
    I1.kept (t' := tk) fun b o e => Heap.get?_push_of_some _ e, turn_range _ lo (hi - lo).toNat, ?_, fun b hb => ?_, q⟩
  · have e1 : lo + ((0 : Nat) : Int) * 1 = lo := by simp
    have e2 : (((hi - lo).toNat : Nat) : Int) - ((0 : Nat) : Int) = Builtin.Range.rangeSize lo hi 1 := by rw [rangeSize_one]; split <;> omega
    show IsRangeIter _ _ (lo + ((0 : Nat) : Int) * 1) ((((hi - lo).toNat : Nat) : Int) - ((0 : Nat) : Int)) 1
    rw [e1, e2]
    exact Heap.get?_push_size _ rfl
  · have e : b = (s.heap.push { cls := .type "range", data := .fields #[.int lo t, .int hi u, .int 1 v] }).objs.size := by simpa using hb
    subst e
    exact I1.fpOk (Nat.le_refl _) (I1.hok.fresh (Nat.le_refl _))
def iRng1 (ta : TA) : TI := fun σ H R => ta σ H fun vs H1 => ∃ j : Int, vs = [.int j] ∧ -(2 ^ 62) ≤ j ∧ j < 2 ^ 62 ∧ R (Itr 0 j.toNat) H1
theorem pi_range1 {a : Expr} {ta : TA} {p pos : Pos} (hg : Gl X "range") (hm : X.mg "range" = none) (ha : PA X [a] ta) (hs : starEach [a] X.env = [(false, eval a X.env)] := by rfl) : PI X tg (.Call (.Name "range" p) [a] [] pos) (iRng1 ta) := by
  intro pins s σ H R I h
  refine Call_ (ld_blt I hg hm boot_range (PyProof.Rows.callWith_type1 (thn (ha pos pins s σ H _ I h) fun us s1 ⟨vs, H1, I1, r1, q1⟩ => ?_) hs rfl))
  obtain ⟨j, e, q1, q2, q⟩ := q1
  subst e
  cases r1 with
  | cons r rr =>
    cases rr
    obtain ⟨t, rfl⟩ := r
    exact call_range_1 (range_it I1 (by omega) (by omega) q1 q2 (by simpa using q))
/-! ### for -/
/-- W: the invariant by the turn and a measure; N: what the body is to reach -/
def tFor (wi : TI) (g : TG) (tb : TS) : TS := fun D σ H => wi σ H fun J H1 => ∃ W : Nat → Nat → St → Hp → Prop, (∃ m, W 0 m σ H1) ∧ ∀ i m σ H, W i m σ H →
  (J.stop i H ∧ D.nx σ H) ∨ (J.go i H ∧ ∃ N : St → Hp → Prop, (∀ σ' H', N σ' H' → ∃ m', m' < m ∧ W (i + 1) m' σ' H') ∧ ∀ x H', J.yld i H x H' → g x σ H' fun σ2 H2 => tb { D with nx := N, ct := N, bk := D.nx } σ2 H2)
/-- the records at fp as they stand -/
def pinsAt (fp : List Addr) (h : Heap) : List (Addr × Obj) := fp.filterMap fun b => (h.get? b).map fun o => (b, o)
theorem mem_pinsAt {fp : List Addr} {h : Heap} {b : Addr} {o : Obj} (hb : b ∈ fp) (e : h.get? b = some o) : (b, o) ∈ pinsAt fp h := List.mem_filterMap.mpr ⟨b, hb, by rw [e]; rfl⟩
theorem of_pinsAt {fp : List Addr} {h : Heap} {p : Addr × Obj} (hp : p ∈ pinsAt fp h) : p.1 ∈ fp ∧ h.get? p.1 = some p.2 := by
  obtain ⟨b, hb, e⟩ := List.mem_filterMap.mp hp
  cases q : h.get? b with
  | none => rw [q] at e; cases e
  | some o =>
    rw [q] at e
    have e' : (b, o) = p := Option.some.inj e
    subst e'
    exact ⟨hb, q⟩
theorem Inv.pinned {pins : List (Addr × Obj)} {σ : St} {H : Hp} {s : Shared} {fp : List Addr} (I : Inv X pins σ H s) (hf : ∀ b ∈ fp, FpOk X pins H b) (ho : ∀ b ∈ fp, ∃ o, s.heap.get? b = some o ∧ ∀ v, o.data ≠ .cell v) : Inv X (pins ++ pinsAt fp s.heap) σ H s :=
  I.pins_of fun p hp => (List.mem_append.mp hp).elim (fun z => I.pin p (List.mem_append_right _ z)) fun z => by
    obtain ⟨hb, e⟩ := of_pinsAt z
    obtain ⟨f0, f1, f2, _⟩ := hf p.1 hb
    obtain ⟨o, e', d⟩ := ho p.1 hb
    rw [e] at e'; cases e'
    exact ⟨e, f0, f1, f2, d⟩
theorem Inv.unpinned {pins pl : List (Addr × Obj)} {σ : St} {H : Hp} {s : Shared} (I : Inv X (pins ++ pl) σ H s) : Inv X pins σ H s := I.pins_of fun p hp => I.pin p (List.mem_append_right _ (List.mem_append_left _ hp))
theorem ps_for {iter : Expr} {body : List Stmt} {wi : TI} {g : TG} {tb : TS} {pos : Pos} (hp : PassesOwn (model X.prog X.w) X.A X.env X.xe) (hc : X.calm = true) (hi : PI X tg iter wi) (hg : PG X tg g) (hb : PSs X body tb)
    (hs : ∀ x, foldedSetIterable iter X.env x = pure x := by intro _; rfl) : PS X (.For tg iter body [] pos) (tFor wi g tb) := by
  intro pins s σ H D I h
  refine wpAny_For (thn (hi pins s σ H _ I h) fun v s1 h1 => thn h1 fun itv s2 h2 => ?_) hs
  obtain ⟨it, fp, tn, J, H2, e, I2, T, st2, f2, W, ⟨m0, w0⟩, turn⟩ := h2
  subst e
  -- what stays true of the iterator's objects through the loop
  have stat : ∀ {H' : Hp}, (∀ b ∈ fp, H' b = none) → ∀ b ∈ fp, FpOk X pins H' b := fun hn b hb => ⟨hn b hb, (f2 b hb).2⟩
  refine codeAny_forLoop_any (fun n s' => ∃ i σ' H', Inv X pins σ' H' s' ∧ tn i s'.heap ∧ (∀ b ∈ fp, H' b = none) ∧ W i n σ' H') ?_ m0 ⟨0, σ, H2, I2, st2, fun b hb => (f2 b hb).1, w0⟩
  rintro n s3 ⟨i, σ3, H3, I3, st3, fr3, w3⟩
  rcases turn i n σ3 H3 w3 with ⟨stop, qn⟩ | ⟨go, N, hN, step⟩
  · refine wpAny_passesOwn hp (thn (T.done X rfl rfl rfl hc i pins s3 σ3 H3 X.xe I3 (stat fr3) st3 stop) fun r s4 ⟨hr, I4⟩ => ?_)
    subst hr
    exact wpAny_execs_nil ⟨σ3, H3, I4, qn⟩
  · refine wpAny_passesOwn hp (thn (T.item X rfl rfl rfl hc i pins s3 σ3 H3 X.xe I3 (stat fr3) st3 go) fun r s4 ⟨u, hr, h4⟩ => ?_)
    subst hr
    refine wpAny_passesOwn hp (thn h4 fun _ s5 ⟨x, H5, I5, r5, y5, st5, fr5⟩ => ?_)
    have I5' := I5.pinned (stat fr5) (T.obj _ _ st5)
    refine wpAny_passesOwn hp (thn (hg _ s5 σ3 H5 x u _ I5' r5 (step x H5 y5)) fun _ s6 ⟨σ6, H6, I6, q6⟩ => ?_)
    refine wpAny_passesOwn hp (thn (hb _ s6 σ6 H6 _ I6 q6) fun f s7 q7 => ?_)
    have again : ∀ {σ7 : St} {H7 : Hp}, Inv X (pins ++ pinsAt fp s5.heap) σ7 H7 s7 → N σ7 H7 → ∃ m, m < n ∧ ∃ i σ' H', Inv X pins σ' H' s7 ∧ tn i s7.heap ∧ (∀ b ∈ fp, H' b = none) ∧ W i m σ' H' := fun {σ7 H7} I7 n7 => by
      obtain ⟨m', hm, w7⟩ := hN σ7 H7 n7
      refine ⟨m', hm, i + 1, σ7, H7, I7.unpinned, T.keep _ _ _ st5 fun b hb o e => (I7.pin (b, o) (List.mem_append_right _ (List.mem_append_right _ (mem_pinsAt hb e)))).1, fun b hb => ?_, w7⟩
      obtain ⟨o, e, d⟩ := T.obj _ _ st5 b hb
      exact (I7.pin (b, o) (List.mem_append_right _ (List.mem_append_right _ (mem_pinsAt hb e)))).2.1
    cases f with
    | next => obtain ⟨σ7, H7, I7, n7⟩ := q7; exact again I7 n7
    | cont => obtain ⟨σ7, H7, I7, n7⟩ := q7; exact again I7 n7
    | brk => obtain ⟨σ7, H7, I7, q7⟩ := q7; exact ⟨σ7, H7, I7.unpinned, q7⟩
    | ret v => obtain ⟨x7, σ7, H7, I7, r7, q7⟩ := q7; exact ⟨x7, σ7, H7, I7.unpinned, r7, q7⟩
end

/-! ### the forms one uses -/
/-- over a list that the body leaves as it is -/
theorem for_list {K : PySem.W.Frag} {a : Addr} {xs : List V} {g : TG} {tb : TS} {D : Ends} {σ : St} {H : Hp} (Pv : Nat → St → Hp → Prop) (h0 : Pv 0 σ H) (hl : ∀ i σ H, i ≤ xs.length → Pv i σ H → SqL K H a xs)
    (hs : ∀ i x σ H, xs[i]? = some x → Pv i σ H → g x σ H fun σ2 H2 => tb { D with nx := Pv (i + 1), ct := Pv (i + 1), bk := D.nx } σ2 H2) (hd : ∀ σ H, Pv xs.length σ H → D.nx σ H) :
    ∃ W : Nat → Nat → St → Hp → Prop, (∃ m, W 0 m σ H) ∧ ∀ i m σ H, W i m σ H →
      ((Itl K a).stop i H ∧ D.nx σ H) ∨ ((Itl K a).go i H ∧ ∃ N : St → Hp → Prop, (∀ σ' H', N σ' H' → ∃ m', m' < m ∧ W (i + 1) m' σ' H') ∧ ∀ x H', (Itl K a).yld i H x H' → g x σ H' fun σ2 H2 => tb { D with nx := N, ct := N, bk := D.nx } σ2 H2) := by
  refine ⟨fun i m σ H => m = xs.length - i ∧ i ≤ xs.length ∧ Pv i σ H, ⟨xs.length, by simp, Nat.zero_le _, h0⟩, ?_⟩
  rintro i m σ H ⟨rfl, hi, p⟩
  have q := hl i σ H hi p
  by_cases hlt : i < xs.length
  · refine .inr ⟨⟨xs, xs[i], q, by simp [hlt]⟩, Pv (i + 1), fun σ' H' p' => ⟨xs.length - (i + 1), by omega, rfl, hlt, p'⟩, fun x H' y => ?_⟩
    obtain ⟨e, y⟩ := y
    subst e
    exact hs i x σ _ (y xs q) p
  · have e : i = xs.length := by omega
    subst e
    exact .inl ⟨⟨xs, q, Nat.le_refl _⟩, hd σ H p⟩
theorem for_tup {K : PySem.W.Frag} {a : Addr} {xs : List V} {g : TG} {tb : TS} {D : Ends} {σ : St} {H : Hp} (Pv : Nat → St → Hp → Prop) (h0 : Pv 0 σ H) (hl : ∀ i σ H, i ≤ xs.length → Pv i σ H → SqT K H a xs)
    (hs : ∀ i x σ H, xs[i]? = some x → Pv i σ H → g x σ H fun σ2 H2 => tb { D with nx := Pv (i + 1), ct := Pv (i + 1), bk := D.nx } σ2 H2) (hd : ∀ σ H, Pv xs.length σ H → D.nx σ H) :
    ∃ W : Nat → Nat → St → Hp → Prop, (∃ m, W 0 m σ H) ∧ ∀ i m σ H, W i m σ H →
      ((Itt K a).stop i H ∧ D.nx σ H) ∨ ((Itt K a).go i H ∧ ∃ N : St → Hp → Prop, (∀ σ' H', N σ' H' → ∃ m', m' < m ∧ W (i + 1) m' σ' H') ∧ ∀ x H', (Itt K a).yld i H x H' → g x σ H' fun σ2 H2 => tb { D with nx := N, ct := N, bk := D.nx } σ2 H2) := by
  refine ⟨fun i m σ H => m = xs.length - i ∧ i ≤ xs.length ∧ Pv i σ H, ⟨xs.length, by simp, Nat.zero_le _, h0⟩, ?_⟩
  rintro i m σ H ⟨rfl, hi, p⟩
  have q := hl i σ H hi p
  by_cases hlt : i < xs.length
  · refine .inr ⟨⟨xs, xs[i], q, by simp [hlt]⟩, Pv (i + 1), fun σ' H' p' => ⟨xs.length - (i + 1), by omega, rfl, hlt, p'⟩, fun x H' y => ?_⟩
    obtain ⟨e, y⟩ := y
    subst e
    exact hs i x σ _ (y xs q) p
  · have e : i = xs.length := by omega
    subst e
    exact .inl ⟨⟨xs, q, Nat.le_refl _⟩, hd σ H p⟩
/-- while, by a word and a measure of the state -/
theorem while_by {c : TT} {tb : TS} {D : Ends} {σ : St} {H : Hp} (Pv : St → Hp → Prop) (μ : St → Hp → Nat) (h0 : Pv σ H)
    (hs : ∀ σ H, Pv σ H → c σ H fun b H1 => if b = true then tb { D with nx := fun σ' H' => Pv σ' H' ∧ μ σ' H' < μ σ H, ct := fun σ' H' => Pv σ' H' ∧ μ σ' H' < μ σ H, bk := D.nx } σ H1 else D.nx σ H1)
    (mono : ∀ σ H Q Q', (∀ b H1, Q b H1 → Q' b H1) → c σ H Q → c σ H Q') : tWhile c tb D σ H := by
  refine ⟨fun m σ H => m = μ σ H ∧ Pv σ H, ⟨_, rfl, h0⟩, ?_⟩
  rintro m σ H ⟨rfl, p⟩
  refine mono σ H _ _ (fun b H1 q => ?_) (hs σ H p)
  cases b with
  | true => exact ⟨_, fun σ' H' ⟨p', l⟩ => ⟨_, l, rfl, p'⟩, q⟩
  | false => exact q
end L2

namespace L2
open PySem PySem.Spec PyProof.Rows

abbrev R2 := V → V → Hp → VK → Prop
/-- a two-place operation on values: f is binaryOp op, inplaceOp op or compareOp op -/
def OpR (X : Cx) (f : Value → Value → Sem Value) (r : R2) : Prop :=
  ∀ (pins : List (Addr × Obj)) (s : Shared) (σ : St) (H : Hp) (x y : V) (v u : Value) (Q : VK), Inv X pins σ H s → RelV x v → RelV y u → r x y H Q →
    wpAny (model X.prog X.w) X.A (f v u) (EP X pins σ Q) X.xe s
/-- a call of a value that is known (a builtin, a type) with values -/
def CallR (X : Cx) (f : Value) (r : List V → Hp → VK → Prop) : Prop :=
  ∀ (pins : List (Addr × Obj)) (s : Shared) (σ : St) (H : Hp) (xs : List V) (us : List Value) (Q : VK), Inv X pins σ H s → Vals xs us → r xs H Q →
    wpAny (model X.prog X.w) X.A (call f us) (EP X pins σ Q) X.xe s
def tOp (r : R2) (ta tb : TE) : TE := fun σ H Q => ta σ H fun x H1 => tb σ H1 fun y H2 => r x y H2 Q
/-- ints in, under C, and a value out -/
def rI (C : Int → Int → Prop) (g : Int → Int → V) : R2 := fun x y H Q => ∃ i j, x = .int i ∧ y = .int j ∧ C i j ∧ Q (g i j) H
def rI0 (g : Int → Int → V) : R2 := fun x y H Q => ∃ i j, x = .int i ∧ y = .int j ∧ Q (g i j) H
section
variable {X : Cx} {a b c : Expr} {ta tb tc : TE} {pos : Pos}

theorem binT (ha : PE X a ta) (hb : PE X b tb) {pins : List (Addr × Obj)} {s : Shared} {σ : St} {H : Hp} {R : V → V → Hp → Prop} (I : Inv X pins σ H s)
    (h : ta σ H fun x H1 => tb σ H1 fun y H2 => R x y H2) {Q : Value → Shared → Prop} {f : Value → Value → Sem Value}
    (hf : ∀ v u s2 x y H2, Inv X pins σ H2 s2 → RelV x v → RelV y u → R x y H2 → wpAny (model X.prog X.w) X.A (f v u) Q X.xe s2) :
    wpAny (model X.prog X.w) X.A (eval a X.env) (fun v s₁ => wpAny (model X.prog X.w) X.A (eval b X.env) (fun u s₂ => wpAny (model X.prog X.w) X.A (f v u) Q X.xe s₂) X.xe s₁) X.xe s := by
  refine thn (ha pins s σ H _ I h) fun v s1 ⟨x, H1, I1, r1, q1⟩ => ?_
  refine thn (hb pins s1 σ H1 _ I1 q1) fun u s2 ⟨y, H2, I2, r2, q2⟩ => ?_
  exact hf v u s2 x y H2 I2 r1 r2 q2

theorem pe_op {op : Operator} {r : R2} (ho : OpR X (binaryOp op) r) (ha : PE X a ta) (hb : PE X b tb) : PE X (.BinOp a op b pos) (tOp r ta tb) := by
  intro pins s σ H Q I h
  exact wpAny_BinOp (binT ha hb I h fun v u s2 x y H2 I2 rx ry q => ho pins s2 σ H2 x y v u Q I2 rx ry q)
/-! ### ints -/
theorem opI {f : Value → Value → Sem Value} {C : Int → Int → Prop} {g : Int → Int → Int}
    (rule : ∀ (i j : Int) (t u : Tok) (s : Shared) (Q : Value → Shared → Prop) (E : Value → Shared → Prop), C i j → Q (.int (g i j) s.toks) { s with toks := s.toks + 1 } → wpAny (model X.prog X.w) X.A (f (.int i t) (.int j u)) Q E s) :
    OpR X f (rI C fun i j => .int (g i j)) := by
  intro pins s σ H x y v u Q I rx ry h
  obtain ⟨i, j, rfl, rfl, hc, q⟩ := h
  obtain ⟨t, rfl⟩ := rx
  obtain ⟨t', rfl⟩ := ry
  exact rule i j t t' s _ _ hc ⟨.int (g i j), H, I.tok _, ⟨_, rfl⟩, q⟩
theorem opI0 {f : Value → Value → Sem Value} {g : Int → Int → Int}
    (rule : ∀ (i j : Int) (t u : Tok) (s : Shared) (Q : Value → Shared → Prop) (E : Value → Shared → Prop), Q (.int (g i j) s.toks) { s with toks := s.toks + 1 } → wpAny (model X.prog X.w) X.A (f (.int i t) (.int j u)) Q E s) :
    OpR X f (rI0 fun i j => .int (g i j)) := by
  intro pins s σ H x y v u Q I rx ry h
  obtain ⟨i, j, rfl, rfl, q⟩ := h
  obtain ⟨t, rfl⟩ := rx
  obtain ⟨t', rfl⟩ := ry
  exact rule i j t t' s _ _ ⟨.int (g i j), H, I.tok _, ⟨_, rfl⟩, q⟩
theorem opB0 {f : Value → Value → Sem Value} {g : Int → Int → Bool}
    (rule : ∀ (i j : Int) (t u : Tok) (s : Shared) (Q : Value → Shared → Prop) (E : Value → Shared → Prop), Q (.bool (g i j)) s → wpAny (model X.prog X.w) X.A (f (.int i t) (.int j u)) Q E s) :
    OpR X f (rI0 fun i j => .bl (g i j)) := by
  intro pins s σ H x y v u Q I rx ry h
  obtain ⟨i, j, rfl, rfl, q⟩ := h
  obtain ⟨t, rfl⟩ := rx
  obtain ⟨t', rfl⟩ := ry
  exact rule i j t t' s _ _ ⟨.bl (g i j), H, I, rfl, q⟩

def CDiv (i j : Int) : Prop := 0 < j ∧ j < 1073741824
def CPow (i j : Int) : Prop := 0 ≤ j ∧ j ≤ 1000000 ∧ i.natAbs < 2 ^ 64
def CMul (i j : Int) : Prop := (-(2 ^ 64) < i ∧ i < 2 ^ 64) ∨ (-(2 ^ 64) < j ∧ j < 2 ^ 64)
theorem CMul.ok {i j : Int} (h : CMul i j) : IntMulOk i j := by
  rcases h with ⟨h1, h2⟩ | ⟨h1, h2⟩
  · exact .of_left (intBits_le_64 h1 h2)
  · exact .of_right (intBits_le_64 h1 h2)
theorem op_add : OpR X (binaryOp .Add) (rI0 fun i j => .int (i + j)) := opI0 fun _ _ _ _ _ _ _ q => add_int q
theorem op_sub : OpR X (binaryOp .Sub) (rI0 fun i j => .int (i - j)) := opI0 fun _ _ _ _ _ _ _ q => sub_int q
theorem op_mul : OpR X (binaryOp .Mult) (rI CMul fun i j => .int (i * j)) := opI fun _ _ _ _ _ _ _ hc q => mul_int q hc.ok
/-- // by a positive divisor -/
theorem op_fdiv : OpR X (binaryOp .FloorDiv) (rI CDiv fun i j => .int (i / j)) := opI fun i j _ _ _ _ _ hc q => by
  have h1 : (0 : Int) < j := hc.1
  have h2 : j < 1073741824 := hc.2
  exact floordiv_int (by omega) (by rw [Int.fdiv_eq_ediv_of_nonneg i (by omega)]; exact q) (.inl (PyProof.noPylong_small (by omega)))
/-- % by a positive divisor of any size -/
theorem op_mod : OpR X (binaryOp .Mod) (rI (fun _ j => 0 < j) fun i j => .int (i % j)) := opI fun i j _ _ _ _ _ hc q => by
  have h1 : (0 : Int) < j := hc
  exact mod_int' (by omega) (by rw [Int.fmod_eq_emod_of_nonneg i (by omega)]; exact q)
theorem op_pow : OpR X (binaryOp .Pow) (rI CPow fun i j => .int (i ^ j.toNat)) := opI fun _ _ _ _ _ _ _ hc q => pow_int_small hc.1 hc.2.1 hc.2.2 q
/-! ### bools among ints: n += (a < b) -/
end

/-! ### comparisons -/
/-- the scalars that == tells apart as data does -/
def scal : V → V → Bool
  | .non, .non => true | .non, .int _ => true | .int _, .non => true | .non, .bl _ => true | .bl _, .non => true | .non, .str _ => true | .str _, .non => true
  | .int _, .int _ => true | .bl _, .bl _ => true | .str _, .str _ => true | .byt _, .byt _ => true
  | .int _, .str _ => true | .str _, .int _ => true | .bl _, .str _ => true | .str _, .bl _ => true
  | _, _ => false
def rEq : R2 := fun x y H Q => scal x y = true ∧ Q (.bl (decide (x = y))) H
def rNe : R2 := fun x y H Q => scal x y = true ∧ Q (.bl (!decide (x = y))) H

theorem dec_int {i j : Int} : decide (V.int i = V.int j) = (i == j) := by
  rw [Bool.eq_iff_iff]
  simp
theorem dec_bl {i j : Bool} : decide (V.bl i = V.bl j) = (i == j) := by
  rw [Bool.eq_iff_iff]
  simp
theorem dec_str {i j : Str} : decide (V.str i = V.str j) = (i == j) := by
  rw [Bool.eq_iff_iff]
  simp
theorem dec_byt {i j : Array UInt8} : decide (V.byt i = V.byt j) = (i.toList == j.toList) := by
  rw [Bool.eq_iff_iff]
  cases i
  cases j
  simp

section
variable {X : Cx} {a b c : Expr} {ta tb tc : TE} {pos : Pos}
theorem fin_bl {pins : List (Addr × Obj)} {σ : St} {H : Hp} {s : Shared} {Q : VK} {k k' : Bool} (I : Inv X pins σ H s) (q : Q (.bl k) H) (e : k = k') : EP X pins σ Q (.bool k') s := by
  subst e
  exact ⟨.bl k, H, I, rfl, q⟩
theorem op_eq : OpR X (compareOp .Eq) rEq := by
  intro pins s σ H x y v u Q I rx ry h
  obtain ⟨hs, q⟩ := h
  cases x with
  | non =>
    cases rx
    cases y with
    | non => cases ry; exact PySem.EqNone.eq_none_none (fin_bl I q (by simp))
    | bl j => cases ry; exact PySem.EqNone.eq_none_bool (fin_bl I q (by simp))
    | int j => obtain ⟨t', rfl⟩ := ry; exact PySem.EqNone.eq_none_int (fin_bl I q (by simp))
    | str j => obtain ⟨t', rfl⟩ := ry; exact PySem.EqNone.eq_none_str (fin_bl I q (by simp))
    | _ => exact absurd (show false = true from hs) Bool.false_ne_true
  | bl i =>
    cases rx
    cases y with
    | non => cases ry; exact PySem.EqNone.eq_bool_none (fin_bl I q (by simp))
    | bl j => cases ry; exact eq_bool (fin_bl I q dec_bl)
    | str j => obtain ⟨t', rfl⟩ := ry; exact PySem.EqMixed.eq_bool_str (fin_bl I q (by simp))
    | _ => exact absurd (show false = true from hs) Bool.false_ne_true
  | int i =>
    obtain ⟨t, rfl⟩ := rx
    cases y with
    | non => cases ry; exact PySem.EqNone.eq_int_none (fin_bl I q (by simp))
    | int j => obtain ⟨t', rfl⟩ := ry; exact eq_int (fin_bl I q dec_int)
    | str j => obtain ⟨t', rfl⟩ := ry; exact PySem.EqMixed.eq_int_str (fin_bl I q (by simp))
    | _ => exact absurd (show false = true from hs) Bool.false_ne_true
  | str i =>
    obtain ⟨t, rfl⟩ := rx
    cases y with
    | non => cases ry; exact PySem.EqNone.eq_str_none (fin_bl I q (by simp))
    | bl j => cases ry; exact PySem.EqMixed.eq_str_bool (fin_bl I q (by simp))
    | int j => obtain ⟨t', rfl⟩ := ry; exact PySem.EqMixed.eq_str_int (fin_bl I q (by simp))
    | str j => obtain ⟨t', rfl⟩ := ry; exact eq_str (fin_bl I q dec_str)
    | _ => exact absurd (show false = true from hs) Bool.false_ne_true
  | byt i =>
    obtain ⟨t, rfl⟩ := rx
    cases y with
    | byt j => obtain ⟨t', rfl⟩ := ry; exact PySem.W.eq_bytes (fin_bl I q dec_byt)
    | _ => exact absurd (show false = true from hs) Bool.false_ne_true
  | _ => cases y <;> exact absurd (show false = true from hs) Bool.false_ne_true
theorem op_ne : OpR X (compareOp .NotEq) rNe := by
  intro pins s σ H x y v u Q I rx ry h
  obtain ⟨hs, q⟩ := h
  cases x with
  | non =>
    cases rx
    cases y with
    | non => cases ry; exact PySem.EqNone.ne_none_none (fin_bl I q (by simp))
    | bl j => cases ry; exact PySem.EqNone.ne_none_bool (fin_bl I q (by simp))
    | int j => obtain ⟨t', rfl⟩ := ry; exact PySem.EqNone.ne_none_int (fin_bl I q (by simp))
    | str j => obtain ⟨t', rfl⟩ := ry; exact PySem.EqNone.ne_none_str (fin_bl I q (by simp))
    | _ => exact absurd (show false = true from hs) Bool.false_ne_true
  | bl i =>
    cases rx
    cases y with
    | non => cases ry; exact PySem.EqNone.ne_bool_none (fin_bl I q (by simp))
    | bl j => cases ry; exact ne_bool (fin_bl I q (congrArg not dec_bl))
    | str j => obtain ⟨t', rfl⟩ := ry; exact PySem.EqMixed.ne_bool_str (fin_bl I q (by simp))
    | _ => exact absurd (show false = true from hs) Bool.false_ne_true
  | int i =>
    obtain ⟨t, rfl⟩ := rx
    cases y with
    | non => cases ry; exact PySem.EqNone.ne_int_none (fin_bl I q (by simp))
    | int j => obtain ⟨t', rfl⟩ := ry; exact ne_int (fin_bl I q (congrArg not dec_int))
    | str j => obtain ⟨t', rfl⟩ := ry; exact PySem.EqMixed.ne_int_str (fin_bl I q (by simp))
    | _ => exact absurd (show false = true from hs) Bool.false_ne_true
  | str i =>
    obtain ⟨t, rfl⟩ := rx
    cases y with
    | non => cases ry; exact PySem.EqNone.ne_str_none (fin_bl I q (by simp))
    | bl j => cases ry; exact PySem.EqMixed.ne_str_bool (fin_bl I q (by simp))
    | int j => obtain ⟨t', rfl⟩ := ry; exact PySem.EqMixed.ne_str_int (fin_bl I q (by simp))
    | str j => obtain ⟨t', rfl⟩ := ry; exact ne_str (fin_bl I q (congrArg not dec_str))
    | _ => exact absurd (show false = true from hs) Bool.false_ne_true
  | byt i =>
    obtain ⟨t, rfl⟩ := rx
    cases y with
    | byt j => obtain ⟨t', rfl⟩ := ry; exact PySem.W.ne_bytes (fin_bl I q (congrArg not dec_byt))
    | _ => exact absurd (show false = true from hs) Bool.false_ne_true
  | _ => cases y <;> exact absurd (show false = true from hs) Bool.false_ne_true

theorem op_lt : OpR X (compareOp .Lt) (rI0 fun i j => .bl (decide (i < j))) := opB0 fun _ _ _ _ _ _ _ q => lt_int q
theorem op_gt : OpR X (compareOp .Gt) (rI0 fun i j => .bl (decide (j < i))) := opB0 fun _ _ _ _ _ _ _ q => gt_int q
/-- is None, is not None: the right side a value none -/
theorem op_isN : OpR X (compareOp .Is) (fun x y H Q => y = .non ∧ Q (.bl (decide (x = .non))) H) := by
  intro pins s σ H x y v u Q I rx ry h
  obtain ⟨rfl, q⟩ := h
  cases ry
  refine is_none_gen (fin_bl I q ?_)
  cases x <;> first
    | (cases rx; rfl)
    | (obtain ⟨t, rfl⟩ := rx; rfl)
/-- two rules for one operation: by cases -/
theorem OpR.or {f : Value → Value → Sem Value} {r r' : R2} (h : OpR X f r) (h' : OpR X f r') : OpR X f (fun x y H Q => r x y H Q ∨ r' x y H Q) := by
  intro pins s σ H x y v u Q I rx ry q
  rcases q with q | q
  · exact h pins s σ H x y v u Q I rx ry q
  · exact h' pins s σ H x y v u Q I rx ry q

theorem nomark (b : Expr) {op : CmpOp} (h : op ≠ .In := by decide) (h2 : op ≠ .NotIn := by decide) : behindInMarks op b = false := by
  have e1 : (op == CmpOp.In) = false := by cases op <;> first | rfl | exact absurd rfl h
  have e2 : (op == CmpOp.NotIn) = false := by cases op <;> first | rfl | exact absurd rfl h2
  cases b <;> simp [behindInMarks, e1, e2]
/-- a comparison as a value; hm: nomark b, or (for in, not in) by with_unfolding_all rfl -/
theorem pe_cmpR {op : CmpOp} {r : R2} (ho : OpR X (compareOp op) r) (ha : PE X a ta) (hb : PE X b tb) (hm : behindInMarks op b = false) : PE X (.Compare a [op] [b] pos) (tOp r ta tb) := by
  intro pins s σ H Q I h
  exact wpAny_Compare1 (binT ha hb I h fun v u s2 x y H2 I2 rx ry q => ho pins s2 σ H2 x y v u Q I2 rx ry q) hm
/-- a reading of a value as a test -/
def tTest (t : TE) : TT := fun σ H Q => t σ H fun x H' => ∃ k, x = .bl k ∧ Q k H'
theorem pt_cmpR {op : CmpOp} {r : R2} (ho : OpR X (compareOp op) r) (ha : PE X a ta) (hb : PE X b tb) (hm : behindInMarks op b = false) : PT X (.Compare a [op] [b] pos) (tTest (tOp r ta tb)) := by
  intro pins s σ H Q I h
  refine wpAny_isTrue_Compare1 (thn (ha pins s σ H _ I h) fun v s1 ⟨x, H1, I1, r1, q1⟩ => thn (hb pins s1 σ H1 _ I1 q1) fun u s2 ⟨y, H2, I2, r2, q2⟩ =>
    thn (ho pins s2 σ H2 x y v u _ I2 r1 r2 q2) fun c s3 ⟨z, H3, I3, r3, k, e, q3⟩ => ?_) hm
  subst e
  cases r3
  exact wpAny_truthy_bool ⟨H3, I3, q3⟩
/-! ### truth -/
theorem line63 : (sizeLine : Nat) < 2 ^ 63 := by rw [sizeLine_eq]; decide
/-! ### strs and bytes -/
theorem op_add_str : OpR X (binaryOp .Add) (fun x y H Q => ∃ i j, x = .str i ∧ y = .str j ∧ i.length + j.length ≤ sizeLine ∧ Q (.str (i ++ j)) H) := by
  intro pins s σ H x y v u Q I rx ry h
  obtain ⟨i, j, rfl, rfl, hz, q⟩ := h
  obtain ⟨t, rfl⟩ := rx
  obtain ⟨t', rfl⟩ := ry
  exact add_str (fun t' tk => ⟨.str (i ++ j), H, I.tok _, ⟨_, rfl⟩, q⟩) hz
def PlainIxT (b : Expr) : Prop := ∀ o i, subscripted b false o i = operate [o, i] (getItem o i)
/-- s[i], 0 ≤ i < len -/
theorem pe_item_str (ha : PE X a ta) (hb : PE X b tb) (hs : PlainIxT b) :
    PE X (.Subscript a b pos) (tOp (fun x y H Q => ∃ z i c, x = .str z ∧ y = .int i ∧ 0 ≤ i ∧ i < 2 ^ 63 ∧ i < z.length ∧ z.cps[i.toNat]? = some c ∧ Q (.str ⟨#[c]⟩) H) ta tb) := by
  intro pins s σ H Q I h
  refine Subscript_ (binT ha hb I h fun v u s2 x y H2 I2 rx ry q => ?_)
  obtain ⟨z, i, c, rfl, rfl, h0, h63, h1, hc, q⟩ := q
  obtain ⟨t, rfl⟩ := rx
  obtain ⟨t', rfl⟩ := ry
  have e : seqIndex? i z.length = some i.toNat := PySem.StrLaws.seqIndex_nonneg h0 h1
  exact tail_any (typeIs_str s2 z t) slot_str_getitem.lookup (getItem_str (c := c) (by
    have e1 : decide (i < -(2 ^ 63 : Int)) = false := decide_eq_false (by omega)
    have e2 : decide (i ≥ 2 ^ 63) = false := decide_eq_false (by omega)
    rw [e1, e2] <;> rfl) (by rw [e]; exact hc) ⟨.str ⟨#[c]⟩, H2, I2.tok _, ⟨_, rfl⟩, q⟩) (hs _ _)
/-! ### scalar builtins, by CallR -/
theorem vals1 {x : V} {us : List Value} (r : Vals [x] us) : ∃ u, us = [u] ∧ RelV x u := by
  cases r with
  | cons r1 r2 => cases r2; exact ⟨_, rfl, r1⟩
theorem call_int1 : CallR X (.type "int") (fun xs H Q => (∃ i, xs = [.int i] ∧ Q (.int i) H) ∨ ∃ k, xs = [.bl k] ∧ Q (.int (if k then 1 else 0)) H) := by
  intro pins s σ H xs us Q I r h
  rcases h with ⟨i, rfl, q⟩ | ⟨k, rfl, q⟩
  · obtain ⟨u, rfl, t, rfl⟩ := vals1 r
    exact call_int_int ⟨.int i, H, I, ⟨_, rfl⟩, q⟩
  · obtain ⟨u, rfl, r1⟩ := vals1 r
    cases r1
    exact call_int_bool ⟨.int (if k then 1 else 0), H, I.tok _, ⟨_, rfl⟩, q⟩
theorem call_str_int : CallR X (.type "str") (fun xs H Q => ∃ i, xs = [.int i] ∧ i.natAbs.log2 < 1920 ∧ Q (.str (toString i)) H) := by
  intro pins s σ H xs us Q I r h
  obtain ⟨i, rfl, hz, q⟩ := h
  obtain ⟨u, rfl, t, rfl⟩ := vals1 r
  exact PySem.P.str_of_int hz ⟨.str _, H, I.tok _, ⟨_, rfl⟩, q⟩
end
end L2

namespace L2
open PySem PySem.Spec PyProof.Rows

/-! ### an instance, its attributes a map -/
structure ObjM (h : Heap) (x dx C : Addr) (mA : Str → Option Value) : Prop where
  obj : h.get? x = some (PySem.W.instObj C dx)
  ns : h.Ns1 dx mA
  ne : dx ≠ x

section
variable {prog : Program} {w : World} {A : Around} {E : Value → Shared → Prop} {s : Shared} {K : PySem.W.Frag} {x dx C f : Addr} {mA : Str → Option Value} {name : Str} {v : Value}

end

/-! ### the attributes as a list of pairs -/
theorem RelO.some_of {v : V} {o : Option Value} (r : RelO (some v) o) : ∃ u, o = some u ∧ RelV v u := by
  cases o with
  | none => exact (show False from r).elim
  | some u => exact ⟨u, rfl, r⟩
section
variable {P : Program} {w : World} {H H' : Hp} {h h' : Heap} {a C dx : Addr} {fs fs' : List (Str × V)}
end

/-! ### what of the text a class must have -/
structure Cls (K : PySem.W.Frag) (C : Addr) : Prop where
  pg : PySem.W.plainGet K C Str.empty = true
  hd : PySem.W.hasDictIn K C = true
  po : PySem.W.plainOver K C = true
  sa : PySem.W.findIn K (.ref C) "__setattr__" = some (some (.builtin "object.__setattr__"))
theorem Cls.get {K : PySem.W.Frag} {C : Addr} (c : Cls K C) (f : Str) : PySem.W.plainGet K C f = true := c.pg
/-- no class of it has the name -/
def NoAttr (K : PySem.W.Frag) (C : Addr) (f : Str) : Prop := PySem.W.findIn K (.ref C) f = some none
theorem NoAttr.taker {K : PySem.W.Frag} {C : Addr} {f : Str} (n : NoAttr K C f) : PySem.W.takerIn K C f = some none := by
  unfold PySem.W.takerIn
  rw [show PySem.W.findIn K (.ref C) f = some none from n]
  rfl
/-- a constant of the class -/
structure Con (K : PySem.W.Frag) (C : Addr) (f : Str) (v : V) (u : Value) : Prop where
  at_ : PySem.W.findIn K (.ref C) f = some (some u)
  rel : RelV v u
  get : PySem.W.specialIn K u "__get__" = some none
  cp : PySem.W.copiedNames.contains f = false
/-- a method: a plain def of the class or of one above it -/
structure Meth (K : PySem.W.Frag) (C : Addr) (m : Str) (f : Addr) : Prop where
  at_ : PySem.W.findIn K (.ref C) m = some (some (.ref f))
  fn : PySem.W.isFn K (.ref f) = true
  kp : PySem.W.keepIn K (.ref f) = true

section
variable {X : Cx} {pins : List (Addr × Obj)} {σ : St} {H : Hp} {s : Shared} {a C dx : Addr} {fs : List (Str × V)} {f : Str} {v : V} {A : Around} {E : Value → Shared → Prop}

/-- a new instance, tracked, without attributes -/
theorem Inv.made (I : Inv X pins σ H s) : Inv X pins σ (upd (upd H s.heap.objs.size (.own (s.heap.objs.size + 1))) (s.heap.objs.size + 1) (.ins C s.heap.objs.size []))
    { s with heap := (s.heap.push PySem.W.emptyDict).push (PySem.W.instObj C s.heap.objs.size) } := by
  have e1 : (s.heap.push PySem.W.emptyDict).get? s.heap.objs.size = some PySem.W.emptyDict := Heap.get?_push_size s.heap rfl
  have e2 : ((s.heap.push PySem.W.emptyDict).push (PySem.W.instObj C s.heap.objs.size)).get? (s.heap.objs.size + 1) = some (PySem.W.instObj C s.heap.objs.size) := by
    have := Heap.get?_push_size (s.heap.push PySem.W.emptyDict) (o := PySem.W.instObj C s.heap.objs.size) rfl
    rwa [Heap.size_push] at this
  have e3 : (s.heap.push PySem.W.emptyDict).Ns s.heap.objs.size (fun _ => none) := ⟨PySem.W.emptyDict, #[], _, e1, rfl, (fun e he => absurd he (by simp)), fun _ => rfl⟩
  have I1 := I.laid (a := s.heap.objs.size) (o := .own (s.heap.objs.size + 1)) (h' := s.heap.push PySem.W.emptyDict) (t' := s.toks) (fun b u q => Heap.get?_push_of_some _ q) (Nat.le_refl _) ⟨_, e1⟩
  refine I1.laid (a := s.heap.objs.size + 1) (o := .ins C s.heap.objs.size []) (t' := s.toks) (fun b u q => Heap.get?_push_of_some _ q) (Nat.le_of_eq (Heap.size_push _ _)) ?_
  have ne : s.heap.objs.size ≠ s.heap.objs.size + 1 := Nat.ne_of_lt (Nat.lt_succ_self _)
  refine ⟨by rw [upd_ne ne, upd_same], Nat.zero_le _, ne, e2, fun _ => none, (Heap.Ns1.of_empty e3).at fun o q => Heap.get?_push_of_some _ q, fun _ => True.intro, fun y hy => absurd rfl hy⟩

end

/-! ### readings and rules -/
section
variable {X : Cx} {o e value : Expr} {f : Str} {pos pos' tpos : Pos} {ta tv : TE}
end

/-! ### isinstance -/
section
variable {X : Cx} {pins : List (Addr × Obj)} {σ : St} {H : Hp} {s : Shared} {A : Around} {E : Value → Shared → Prop} {Q : Value → Shared → Prop} {c : Value} {b : Bool}
/-- the type of a value, as the fragment's deciders take it; for an instance its class -/
inductive TyOf (K : PySem.W.Frag) (H : Hp) : V → Value → Prop where
  | non : TyOf K H .non (.type "NoneType")
  | bl (x : Bool) : TyOf K H (.bl x) (.type "bool")
  | int (i : Int) : TyOf K H (.int i) (.type "int")
  | str (x : Str) : TyOf K H (.str x) (.type "str")
  | flt (x : UInt64) : TyOf K H (.flt x) (.type "float")
  | lst {a : Addr} {xs : List V} (e : H a = some (.lst xs)) : TyOf K H (.ref a) (.type "list")
  | frz {a : Addr} {o : Obj} {xs : List V} (e : H a = some (.frz o (.lst xs))) : TyOf K H (.ref a) (.type "list")
  | tup {a : Addr} {xs : List V} (e : H a = some (.tup xs)) : TyOf K H (.ref a) (.type "tuple")
  | dK {a : Addr} {kvs : List (Key × V)} (e : H a = some (.dK kvs)) : TyOf K H (.ref a) (.type "dict")
  | dT {a : Addr} {kvs : List (List Key × V)} (e : H a = some (.dT kvs)) : TyOf K H (.ref a) (.type "dict")
  | ins {a C dx : Addr} {fs : List (Str × V)} (e : H a = some (.ins C dx fs)) (cl : Cls K C) (ha : PySem.W.findIn K (.ref C) "__class__" = some (some (.builtin "object.__class__")))
      (hn : PySem.W.specialIn K (.builtin "object.__class__") "__get__" = some (some (.builtin "getset_descriptor.__get__"))) (htk : PySem.W.takesIn K (.builtin "object.__class__") = some true)
      (hm : PySem.W.mroIn K C (.type "object") = some true) : TyOf K H (.ref a) (.ref C)
end
end L2

namespace L2
open PySem PySem.Spec PyProof.Rows

/-! ### room -/
structure Room (k : Nat) (A : Around) : Prop where
  hd : A.handled = none
  dp : A.depth + 3 * k + 5 < recursionLimit
  un : A.units + 16 * k + 200 < cLine
theorem Room.mono {j k : Nat} {A : Around} (r : Room k A) (h : j ≤ k) : Room j A := ⟨r.hd, by have := r.dp; omega, by have := r.un; omega⟩
theorem Room.deeper {k : Nat} {A : Around} (r : Room (k + 1) A) (env : Env) : Room k (A.deeper env) :=
  ⟨r.hd, by have := r.dp; show A.depth + 1 + 3 * k + 5 < _; omega, by have := r.un; show A.units + 3 + 16 * k + 200 < _; omega⟩
theorem Room.depth {k : Nat} {A : Around} (r : Room k A) : A.depth < recursionLimit := by have := r.dp; omega
theorem Room.units {k : Nat} {A : Around} (r : Room k A) : A.units + 64 < cLine := by have := r.un; omega
/-! ### argument lists and displays -/
def tNil : TA := fun _ H Q => Q [] H
def tCons (ta : TE) (tr : TA) : TA := fun σ H Q => ta σ H fun x H1 => tr σ H1 fun xs H2 => Q (x :: xs) H2
section
variable {X : Cx} {e : Expr} {es : List Expr} {te : TE} {t : TA} {pos : Pos}
theorem pa_nil : PA X [] tNil := fun _ _ _ _ H Q I h => Calls.spliced_nil ⟨[], H, I, .nil, h⟩
theorem pa_cons (ha : PE X e te) (hr : PA X es t) (hs : starEach (e :: es) X.env = (false, eval e X.env) :: starEach es X.env := by rfl) : PA X (e :: es) (tCons te t) := by
  intro pos pins s σ H Q I h
  rw [hs]
  show wpAny _ _ (spliced ((false, eval e X.env) :: backTo pos (starEach es X.env))) _ _ s
  refine Calls.spliced_cons (thn (ha pins s σ H _ I h) fun u s1 ⟨x, H1, I1, r1, q1⟩ => ?_)
  exact thn (hr pos pins s1 σ H1 _ I1 q1) fun us s2 ⟨xs, H2, I2, r2, q2⟩ => ⟨x :: xs, H2, I2, .cons r1 r2, q2⟩

/-- a tuple, a list of written items -/
def tTup (t : TA) : TE := fun σ H Q => t σ H fun xs H1 => xs.length ≤ sizeLine ∧ ∀ p, H1 p = none → Q (.ref p) (upd H1 p (.tup xs))
def tLst (t : TA) : TE := fun σ H Q => t σ H fun xs H1 => xs.length ≤ sizeLine ∧ ∀ p, H1 p = none → Q (.ref p) (upd H1 p (.lst xs))
theorem pe_tup {x1} (h : PA X es t) : PE X (.Tuple es x1 pos) (tTup t) := by
  intro pins s σ H Q I hq
  refine wpAny_Tuple_spliced (thn (h pos pins s σ H _ I hq) fun us s1 ⟨xs, H1, I1, r, z, q⟩ => ⟨by rw [← r.length]; exact z, ?_⟩)
  have hf : H1 s1.heap.objs.size = none := I1.hok.fresh (Nat.le_refl _)
  refine ⟨.ref s1.heap.objs.size, upd H1 s1.heap.objs.size (.tup xs), I1.laid (t' := s1.toks) (fun b u e => Heap.get?_push_of_some _ e) (Nat.le_refl _) ?_, rfl, q _ hf⟩
  exact ⟨z, us, r, ⟨_, Heap.get?_push_size _ rfl, rfl, _, rfl⟩⟩
theorem pe_lst (h : PA X es t) : PE X (.List es pos) (tLst t) := by
  intro pins s σ H Q I hq
  refine wpAny_List_spliced (thn (h pos pins s σ H _ I hq) fun us s1 ⟨xs, H1, I1, r, z, q⟩ => ⟨by rw [← r.length]; exact z, ?_⟩)
  have hf : H1 s1.heap.objs.size = none := I1.hok.fresh (Nat.le_refl _)
  refine ⟨.ref s1.heap.objs.size, upd H1 s1.heap.objs.size (.lst xs), I1.laid (t' := s1.toks) (fun b u e => Heap.get?_push_of_some _ e) (Nat.le_refl _) ?_, rfl, q _ hf⟩
  exact ⟨z, us, 0, r, Heap.get?_push_size _ rfl⟩
end

/-! ### what a def promises -/
/-- a def's promise: the bound arguments in the parameters' order, the heap, the wanted end, the wanted exception -/
abbrev Sp := List V → Hp → VK → XK → Prop
/-- how an exception lies behind a call (file 08 gives it): the callers' frames, abstract heap and state ahead of the call, the wish, the exception, the state -/
abbrev CXT := List Env → Hp → Shared → XK → Value → Shared → Prop

/-- the state at a call -/
structure Env0 (P : Program) (w : World) (K : PySem.W.Frag) (mg : Str → Option Value) (base : Heap) (A : Around) (outer : List Env) (s : Shared) (H : Hp) : Prop where
  frames : A.frames = some outer
  mod : Mod K mg base
  bs : ∀ b o, base.get? b = some o → s.heap.get? b = some o ∧ H b = none
  bsz : base.objs.size ≤ s.heap.objs.size
  funs : s.heap.FunFrames base outer
  frf : ∀ b ∈ frs outer, H b = none
  hok : HOk P w H s.heap
  bare : AllBare s.gens
/-- a call's end -/
def CE (outer : List Env) (P : Program) (w : World) (H : Hp) (s : Shared) (Q : VK) (u : Value) (s' : Shared) : Prop :=
  ∃ v H', s'.os = s.os ∧ AllBare s'.gens ∧ Un (frs outer) [] H H' s.heap s'.heap ∧ HOk P w H' s'.heap ∧ RelV v u ∧ Q v H'
def CR (CX : CXT) (outer : List Env) (P : Program) (w : World) (H : Hp) (s : Shared) (Q : VK) (E : XK) (r : Result) (s' : Shared) : Prop :=
  match r with
  | .ok (.ret u) => CE outer P w H s Q u s'
  | .ok _ => False
  | .error e => CX outer H s E e s'
structure FnOk (P : Program) (w : World) (K : PySem.W.Frag) (mg : Str → Option Value) (base : Heap) (CX : CXT) (k : Nat) (f : Addr) (fd : FuncData) (ps : List Str) (sp : Sp) : Prop where
  len : ∀ vs H Q E, sp vs H Q E → vs.length = ps.length
  run : ∀ (A : Around) (outer : List Env) (s : Shared) (H : Hp) (args : Args) (us : List Value) (vs : List V) (Q : VK) (E : XK), Room k A → Env0 P w K mg base A outer s H → BindsTo s fd args (ps.zip us) → Vals vs us → sp vs H Q E →
    codeAny (model P w) A (.call (.ref f) args) (CR CX outer P w H s Q E) s
theorem FnOk.mono {P : Program} {w : World} {K : PySem.W.Frag} {mg : Str → Option Value} {base : Heap} {CX : CXT} {j k : Nat} {f : Addr} {fd : FuncData} {ps : List Str} {sp : Sp} (F : FnOk P w K mg base CX j f fd ps sp) (h : j ≤ k) :
    FnOk P w K mg base CX k f fd ps sp := ⟨F.len, fun A outer s H args us vs Q E hr => F.run A outer s H args us vs Q E (hr.mono h)⟩
/-- a weaker promise -/
theorem FnOk.imp {P : Program} {w : World} {K : PySem.W.Frag} {mg : Str → Option Value} {base : Heap} {CX : CXT} {k : Nat} {f : Addr} {fd : FuncData} {ps : List Str} {sp sp' : Sp} (F : FnOk P w K mg base CX k f fd ps sp)
    (h : ∀ vs H Q E, sp' vs H Q E → sp vs H Q E) : FnOk P w K mg base CX k f fd ps sp' :=
  ⟨fun vs H Q E q => F.len vs H Q E (h _ _ _ _ q), fun A outer s H args us vs Q E hr he hb hv hs => F.run A outer s H args us vs Q E hr he hb hv (h _ _ _ _ hs)⟩

section
variable {X : Cx} {pins : List (Addr × Obj)} {σ : St} {H : Hp} {s s' : Shared}
/-- from a body: what a callee wants -/
theorem Inv.env0 (I : Inv X pins σ H s) : Env0 X.prog X.w X.K X.mg X.base X.A X.stack s H :=
  ⟨I.ok.frames, I.ok.mod, I.bs, Nat.le_trans I.ok.bsz I.sz, I.stack, I.stkFree, I.hok, I.bare⟩
/-- behind a call -/
theorem Inv.after {Q : VK} {u : Value} (I : Inv X pins σ H s) (h : CE X.stack X.prog X.w H s Q u s') : EP X pins σ Q u s' := by
  obtain ⟨v, H', os, bare, un, hok, r, q⟩ := h
  obtain ⟨hh, g, d, t, os'⟩ := s'
  obtain rfl : os' = s.os := os
  exact ⟨v, H', I.call (h' := hh) (g' := g) (d' := d) (t' := t) (ch := []) un hok bare (fun b z => absurd z (by simp)), r, q⟩
end

/-! ### calls -/
/-- f(..): the written arguments, then the defaults dvs; E: what is wanted of an exception -/
def tCall (sp : Sp) (dvs : List V) (E : XK) (t : TA) : TE := fun σ H Q => t σ H fun vs H1 => sp (vs ++ dvs) H1 Q E
/-- how the parameters are bound: us the positional arguments, kw the keywords' values by name, ds the defaults that fill up -/
def Binds (K : PySem.W.Frag) (fd : FuncData) (ps : List Str) (ds : List Value) : Prop :=
  ∀ (s : Shared) (us : List Value), K.In s.heap → (us ++ ds).length = ps.length → BindsTo s fd ⟨us, []⟩ (ps.zip (us ++ ds))
/-- every parameter is given -/
theorem Binds.all {K : PySem.W.Frag} {fd : FuncData} {ps : List Str} (h : ∀ us : List Value, us.length = ps.length → bindArgs fd ⟨us, []⟩ = pure (ps.zip us)) : Binds K fd ps [] := fun s us _ hl => by
  rw [List.append_nil] at hl ⊢
  exact .of_eq (h us hl)

/-- an exception of a callee reaches what this body wants of exceptions -/
def Passes (CX : CXT) (X : Cx) (E : XK) : Prop := ∀ (pins : List (Addr × Obj)) (σ : St) (H : Hp) (s : Shared) (e : Value) (s' : Shared), Inv X pins σ H s → CX X.stack H s E e s' → X.xe e s'

section
variable {X : Cx} {CX : CXT} {k : Nat} {f C : Addr} {fd : FuncData} {ps : List Str} {sp : Sp} {dvs : List V} {ds : List Value} {E : XK} {x m : Str} {p pos apos : Pos} {e o : Expr} {es : List Expr} {ta : TE} {t : TA}

/-- the callee runs -/
theorem run_fn {pins : List (Addr × Obj)} {σ : St} {H : Hp} {s : Shared} {Q : VK} {us : List Value} {vs : List V} (F : FnOk X.prog X.w X.K X.mg X.base CX k f fd ps sp) (hr : Room k X.A) (hb : Binds X.K fd ps ds) (hd : Vals dvs ds) (hx : Passes CX X E)
    (I : Inv X pins σ H s) (r : Vals vs us) (h : sp (vs ++ dvs) H Q E) : wpAny (model X.prog X.w) X.A (call (.ref f) us) (EP X pins σ Q) X.xe s := by
  have r2 : Vals (vs ++ dvs) (us ++ ds) := r.append hd
  have hl : (us ++ ds).length = ps.length := by rw [← r2.length]; exact F.len _ _ _ _ h
  refine wpAny_call (codeAny_mono (F.run X.A X.stack s H ⟨us, []⟩ (us ++ ds) (vs ++ dvs) Q E hr I.env0 (hb s us I.kIn hl) r2 h) fun r s' hq => ?_)
  cases r with
  | error e => exact hx pins σ H s e s' I hq
  | ok fl =>
    cases fl with
    | ret u => exact I.after hq
    | next => exact False.elim hq
    | brk => exact False.elim hq
    | cont => exact False.elim hq

theorem pe_call (F : FnOk X.prog X.w X.K X.mg X.base CX k f fd ps sp) (hr : Room k X.A) (hg : Gl X x) (hm : X.mg x = some (.ref f)) (hk : PySem.W.keepIn X.K (.ref f) = true) (hb : Binds X.K fd ps ds) (hd : Vals dvs ds) (hx : Passes CX X E)
    (ha : PA X (e :: es) t) (hdb : (x == ("__debug__" : Str)) = false := by decide) (he : starEach (e :: es) X.env = (false, eval e X.env) :: starEach es X.env := by rfl) (hpl : (backTo pos (starEach es X.env)).any (·.1) = false := by rfl) :
    PE X (.Call (.Name x p) (e :: es) [] pos) (tCall sp dvs E t) := by
  intro pins s σ H Q I h
  refine wpAny_Call_Name_kw (ld_glob I hg hm ?_ hdb)
  refine PySem.W.callWith_K (h₀ := X.base) I.ok.mod.kin hk (thn (ha pos pins s σ H _ I h) fun us s1 ⟨vs, H1, I1, r, q⟩ => ⟨I1.kIn, ?_⟩) he hpl
  exact run_fn F hr hb hd hx I1 r q
/-- what a class must have to be made -/
structure Mk (K : PySem.W.Frag) (C f : Addr) : Prop where
  makes : PySem.W.makesIn K C = true
  init : PySem.W.findIn K (.ref C) "__init__" = some (some (.ref f))
  fn : PySem.W.isFn K (.ref f) = true
  kp : PySem.W.keepIn K (.ref C) = true

end

/-! ### keywords -/
section
variable {X : Cx} {CX : CXT} {k : Nat} {f C : Addr} {fd : FuncData} {ps ks : List Str} {sp : Sp} {E : XK} {x m : Str} {p pos apos kpos : Pos} {e o : Expr} {es : List Expr} {kws : List Keyword} {te ta : TE} {t tk : TA} {nm : Option Str}
/-- how a call with keywords binds: g puts the positional values us and the keywords' values ws (names ks) in the parameters' order, defaults among them -/
structure KBinds (K : PySem.W.Frag) (fd : FuncData) (ps ks : List Str) (g : List Value → List Value → List Value) (gV : List V → List V → List V) : Prop where
  to : ∀ (s : Shared) (us ws : List Value), K.In s.heap → (g us ws).length = ps.length → BindsTo s fd ⟨us, ks.zip ws⟩ (ps.zip (g us ws))
  rel : ∀ {vs : List V} {us : List Value} {zs : List V} {ws : List Value}, Vals vs us → Vals zs ws → Vals (gV vs zs) (g us ws)
variable {g : List Value → List Value → List Value} {gV : List V → List V → List V}
end

/-! ### a def's body keeps its promise -/
/-- names: the parameters first -/
structure FnScope (N P : List Str) (sc : Scope) : Prop where
  kind : sc.kind = .function
  co : sc.isCoroutine = false
  gen : sc.isGenerator = false
  nd : N.Nodup
  pre : N.take P.length = P
  par : ∀ x ∈ P, sc.names.lookup x = some .local ∨ sc.names.lookup x = some .cell
  nofree : ∀ y ∈ sc.names, y.2 ≠ .free

theorem bindL_out {kindOf : Str → Option NameKind} {x : Str} : ∀ {binds : List (Str × Value)} {m : Str → Option Value}, (∀ v, (x, v) ∉ binds) → bindL kindOf binds m x = m x
  | [], _, _ => rfl
  | (n, v) :: r, m, h => by
    unfold bindL
    rw [bindL_out fun w hw => h w (List.mem_cons_of_mem _ hw)]
    split
    · have : x ≠ n := by rintro rfl; exact h v List.mem_cons_self
      simp [this]
    · rfl
theorem bindC_out {kindOf : Str → Option NameKind} {x : Str} : ∀ {binds : List (Str × Value)} {m : Str → Option Value}, (∀ v, (x, v) ∉ binds) → bindC kindOf binds m x = m x
  | [], _, _ => rfl
  | (n, v) :: r, m, h => by
    unfold bindC
    rw [bindC_out fun w hw => h w (List.mem_cons_of_mem _ hw)]
    split
    · rfl
    · have : x ≠ n := by rintro rfl; exact h v List.mem_cons_self
      simp [this]
theorem bindL_get {kindOf : Str → Option NameKind} {x : Str} {v : Value} : ∀ {P : List Str} {vs : List Value} {i : Nat} {m : Str → Option Value}, P.Nodup → P[i]? = some x → vs[i]? = some v → kindOf x = some .local →
    bindL kindOf (P.zip vs) m x = some v
  | [], _, _, _, _, h, _, _ => by simp at h
  | _ :: _, [], _, _, _, _, h, _ => by simp at h
  | p :: P, w :: vs, 0, m, nd, h1, h2, hk => by
    simp at h1 h2; subst h1; subst h2
    show bindL kindOf ((p, w) :: P.zip vs) m p = _
    unfold bindL
    rw [bindL_out fun v hv => (List.nodup_cons.mp nd).1 (List.of_mem_zip hv).1, if_pos hk]
    simp
  | p :: P, w :: vs, i + 1, m, nd, h1, h2, hk => by
    show bindL kindOf ((p, w) :: P.zip vs) m x = _
    unfold bindL
    exact bindL_get (i := i) (List.nodup_cons.mp nd).2 (by simpa using h1) (by simpa using h2) hk
theorem bindC_get {kindOf : Str → Option NameKind} {x : Str} {v : Value} : ∀ {P : List Str} {vs : List Value} {i : Nat} {m : Str → Option Value}, P.Nodup → P[i]? = some x → vs[i]? = some v → kindOf x ≠ some .local →
    bindC kindOf (P.zip vs) m x = some v
  | [], _, _, _, _, h, _, _ => by simp at h
  | _ :: _, [], _, _, _, _, h, _ => by simp at h
  | p :: P, w :: vs, 0, m, nd, h1, h2, hk => by
    simp at h1 h2; subst h1; subst h2
    show bindC kindOf ((p, w) :: P.zip vs) m p = _
    unfold bindC
    rw [bindC_out fun v hv => (List.nodup_cons.mp nd).1 (List.of_mem_zip hv).1, if_neg hk]
    simp
  | p :: P, w :: vs, i + 1, m, nd, h1, h2, hk => by
    show bindC kindOf ((p, w) :: P.zip vs) m x = _
    unfold bindC
    exact bindC_get (i := i) (List.nodup_cons.mp nd).2 (by simpa using h1) (by simpa using h2) hk

/-- the names' values at the entry -/
def start (N : List Str) (vs : List V) : St := vs.map some ++ List.replicate (N.length - vs.length) none

/-- the context of a def's body, at its entry; an exception leaves the frame, then lies as CX says -/
def cxOf (CX : CXT) (P : Program) (w : World) (K : PySem.W.Frag) (mg : Str → Option Value) (base : Heap) (N : List Str) (qual : Str) (scope : Scope) (f : Addr) (cd : Value) (A : Around) (outer : List Env) (s : Shared) (H : Hp) (E : XK) : Cx where
  prog := P
  w := w
  K := K
  mg := mg
  base := base
  A := A.deeper (envOfC qual scope s.heap.objs.size f cd)
  N := N
  s₀ := s
  H₀ := H
  env := envOfC qual scope s.heap.objs.size f cd
  outer := outer
  stack := envOfC qual scope s.heap.objs.size f cd :: outer
  ex := []
  calm := true
  fn := fun _ => true
  pn := []
  xe := fun e s' => wpAny (model P w) (A.deeper (envOfC qual scope s.heap.objs.size f cd)) (leaving (envOfC qual scope s.heap.objs.size f cd) e) (fun _ s'' => CX outer H s E e s'') (fun e' s'' => CX outer H s E e' s'') s'

theorem cell_has {sc : Scope} {n : Nat} {x : Str} (h : sc.names.lookup x = some .cell) : ∃ c, (cellsFrom n sc.names []).lookup x = some c := by
  have q := PySem.W.cellsFrom_some sc.names n [] (.inl h)
  exact Option.isSome_iff_exists.mp q

theorem inv_start {CX : CXT} {P : Program} {w : World} {K : PySem.W.Frag} {mg : Str → Option Value} {base : Heap} {N ps : List Str} {qual : Str} {scope : Scope} {f : Addr} {cd : Value} {A : Around} {outer : List Env} {s s1 : Shared} {H : Hp} {E : XK} {us : List Value} {vs : List V}
    (S : FnScope N ps scope) (hd : A.handled = none) (e0 : Env0 P w K mg base A outer s H) (hl : vs.length = ps.length) (r : Vals vs us)
    (x : InCallC s s.heap.objs.size (bindL (envOfC qual scope s.heap.objs.size f cd).kindOf (ps.zip us) fun _ => none) (cellsFrom (s.heap.objs.size + 1) scope.names []) (bindC (envOfC qual scope s.heap.objs.size f cd).kindOf (ps.zip us) fun _ => none) s1) :
    Inv (cxOf CX P w K mg base N qual scope f cd A outer s H E) [] (start N vs) H s1 := by
  have hpl : ps.length ≤ N.length := by have := congrArg List.length S.pre; rw [List.length_take] at this; omega
  obtain ⟨h1, tk, rfl, hk⟩ := x.done
  have noA : ∀ b : Addr, b ∉ (cxOf CX P w K mg base N qual scope f cd A outer s H E).ex := fun b z => absurd (show b ∈ ([] : List Addr) from z) (by simp)
  refine ⟨⟨e0.mod, S.kind, rfl, rfl, Nat.le_refl _, fun y z c h1 h2 => ?_, fun y hy => ?_, fun y c _ h => ?_, fun _ => hd, Around.frames_deeper e0.frames, .inr ⟨rfl, rfl⟩, fun b z => absurd z (noA b), e0.bs, e0.bsz, fun b _ _ => noA b, fun b z => absurd z (noA b), e0.funs, e0.frf⟩,
    rfl, e0.bare, Un.kept hk, ⟨_, x.toInCall.ns, fun i y v h1 h2 h3 => ?_⟩, fun y c h => ⟨_, x.cell y c h⟩, e0.hok.fresh (Nat.le_refl _), fun y c h => ?_, fun p hp => absurd (show p ∈ ([] : List (Addr × Obj)) from hp) (by simp), e0.hok.kept hk, ?_⟩
  · exact name_of_addr x.apart (PySem.mem_of_lookup h1) (PySem.mem_of_lookup h2)
  · have hy : scope.names.lookup y = some .cell ∨ scope.names.lookup y = some .free := hy
    rcases hy with hy | hy
    · exact cell_has hy
    · exact absurd rfl (S.nofree _ (PySem.mem_of_lookup hy))
  · exact Nat.le_of_lt (x.above y c (PySem.mem_of_lookup h))
  · have hi : i < vs.length := by
      unfold start at h2
      by_cases hi : i < vs.length
      · exact hi
      · rw [List.getElem?_append_right (by simpa using hi)] at h2
        rw [List.getElem?_replicate] at h2
        split at h2 <;> cases h2
    have ha : vs[i]? = some v := by
      unfold start at h2
      rw [List.getElem?_append_left (by simpa using hi), List.getElem?_map] at h2
      cases e : vs[i]? with
      | none => rw [e] at h2; cases h2
      | some a => rw [e] at h2; cases h2; rfl
    obtain ⟨u, hu, rv⟩ := r.get ha
    have hp : ps[i]? = some y := by
      rw [← S.pre, List.getElem?_take_of_lt (by omega)]; exact h1
    have ndP : ps.Nodup := by rw [← S.pre]; exact S.nd.sublist (List.take_sublist _ _)
    refine ⟨u, rv, ?_⟩
    rcases S.par y (List.mem_of_getElem? hp) with k | k
    · exact .inl ⟨k, bindL_get ndP hp hu k⟩
    · obtain ⟨c, e⟩ := cell_has (n := s.heap.objs.size + 1) k
      refine .inr ⟨.inl k, c, e, ?_⟩
      have q := x.cell y c e
      rw [bindC_get ndP hp hu (by show scope.names.lookup y ≠ _; rw [k]; decide)] at q
      exact q
  · exact e0.hok.fresh (Nat.le_of_lt (x.above y c (PySem.mem_of_lookup h)))
  · unfold start
    show _ = N.length
    rw [List.length_append, List.length_map, List.length_replicate]
    omega

/-- THE RULE: a def (or a method) of the text, by its body. The body's reading t is chosen for each entry; it is run at the parameters' values -/
theorem fn_of {CX : CXT} {P : Program} {w : World} {K : PySem.W.Frag} {mg : Str → Option Value} {base : Heap} {k : Nat} {f : Addr} {name qual : Str} {params : Arguments} {body : List Stmt} {scope : Scope} {dV kV doc pm cdv ct oc : Value} {an od : Option Addr}
    {osl : Array (Option Value)} {N ps : List Str} {sp : Sp} (lk : K.lookup f = some ⟨oc, od, .func (PySem.W.fnOf name qual params body scope dV kV doc pm an cdv ct), osl⟩) (hcd : PySem.W.codeIn K cdv qual = true) (S : FnScope N ps scope)
    (len : ∀ vs H Q E, sp vs H Q E → vs.length = ps.length)
    (hbody : ∀ (A : Around) (outer : List Env) (s : Shared) (H : Hp) (vs : List V) (Q : VK) (E : XK), Room k (A.deeper (envOfC qual scope s.heap.objs.size f cdv)) → sp vs H Q E →
      ∃ t, PSs (cxOf CX P w K mg base N qual scope f cdv A outer s H E) body t ∧ t { nx := fun _ H' => Q .non H', rt := Q } (start N vs) H) :
    FnOk P w K mg base CX (k + 1) f (PySem.W.fnOf name qual params body scope dV kV doc pm an cdv ct) ps sp := by
  refine ⟨len, fun A outer s H args us vs Q E hr e0 hb r hsp => ?_⟩
  have hl := len _ _ _ _ hsp
  have KX : K.In s.heap := e0.mod.kin.keeps fun b o e => (e0.bs b o e).1
  have lim : s.heap.NoLimit := e0.mod.nolimit.keeps fun b o e => (e0.bs b o e).1
  have hkind : ∀ y ∈ ps.zip us, scope.names.lookup y.1 = some .local ∨ (scope.names.lookup y.1 = some .cell ∧ ((cellsFrom (s.heap.objs.size + 1) scope.names []).lookup y.1).isSome = true) := fun ⟨n, v⟩ hy => by
    rcases S.par n (List.of_mem_zip hy).1 with q | q
    · exact .inl q
    · exact .inr ⟨q, PySem.W.cellsFrom_some _ _ _ (.inl q)⟩
  refine codeAny_call_function hr.depth (KX _ _ lk) rfl S.co S.gen rfl (PySem.W.codeRec_of KX hcd) (hb _ _ _ _ ?_)
  refine wpAny_newFunctionEnv_cells S.kind hkind fun env he s1 x => ?_
  subst he
  refine ⟨lim.keeps x.toInCall.keep, codeAny_func ?_⟩
  obtain ⟨t, ht, hq⟩ := hbody A outer s H vs Q E (hr.deeper _) hsp
  have I : Inv (cxOf CX P w K mg base N qual scope f cdv A outer s H E) [] (start N vs) H s1 := inv_start S hr.hd e0 hl r x
  refine wpAny_mono (ht [] s1 (start N vs) H _ I hq) (fun fl s' hs => ?_) fun e s' hs => hs
  have fin : ∀ {σ' : St} {H' : Hp} {v : V} {u : Value}, Inv (cxOf CX P w K mg base N qual scope f cdv A outer s H E) [] σ' H' s' → RelV v u → Q v H' → CE outer P w H s Q u s' :=
    fun {σ' H' v u} J rv q => ⟨v, H', J.os, J.bare, J.base, J.hok, rv, q⟩
  cases fl with
  | ret u =>
    obtain ⟨v, σ', H', J, rv, q⟩ := hs
    exact fin J rv q
  | next =>
    obtain ⟨σ', H', J, q⟩ := hs
    exact fin (v := V.non) (u := Value.none) J rfl q
  | brk =>
    obtain ⟨_, _, _, q⟩ := hs
    exact False.elim q
  | cont =>
    obtain ⟨_, _, _, q⟩ := hs
    exact False.elim q
end L2

namespace L2
open PySem PySem.Spec PyProof.Rows
section
variable {X : Cx} {x : Str} {p pos : Pos} {e : Expr} {es : List Expr} {t : TA} {id T : String} {r : List V → Hp → VK → Prop}

def tCB (r : List V → Hp → VK → Prop) (t : TA) : TE := fun σ H Q => t σ H fun vs H1 => r vs H1 Q
/-- f(e, ..), f a built-in function -/
theorem pe_callB (hc : CallR X (.builtin id) r) (hg : Gl X x) (hm : X.mg x = none) (hv : bootBuiltins x = some (.builtin id)) (ha : PA X (e :: es) t) (hn : x ≠ "__name__" := by decide) (hdb : (x == ("__debug__" : Str)) = false := by decide)
    (he : starEach (e :: es) X.env = (false, eval e X.env) :: starEach es X.env := by rfl) (hpl : (backTo pos (starEach es X.env)).any (·.1) = false := by rfl) : PE X (.Call (.Name x p) (e :: es) [] pos) (tCB r t) := by
  intro pins s σ H Q I h
  refine wpAny_Call_Name_kw (ld_blt I hg hm hv ?_ hn hdb)
  exact PyProof.Rows.callWith_builtin1 (thn (ha pos pins s σ H _ I h) fun us s1 ⟨vs, H1, I1, r1, q1⟩ => hc pins s1 σ H1 vs us Q I1 r1 q1) he hpl
/-- T(e, ..), T a built-in type -/
theorem pe_callTy (hc : CallR X (.type T) r) (hg : Gl X x) (hm : X.mg x = none) (hv : bootBuiltins x = some (.type T)) (ha : PA X (e :: es) t) (hn : x ≠ "__name__" := by decide) (hdb : (x == ("__debug__" : Str)) = false := by decide)
    (he : starEach (e :: es) X.env = (false, eval e X.env) :: starEach es X.env := by rfl) (hpl : (backTo pos (starEach es X.env)).any (·.1) = false := by rfl) : PE X (.Call (.Name x p) (e :: es) [] pos) (tCB r t) := by
  intro pins s σ H Q I h
  refine wpAny_Call_Name_kw (ld_blt I hg hm hv ?_ hn hdb)
  exact PyProof.Rows.callWith_type1 (thn (ha pos pins s σ H _ I h) fun us s1 ⟨vs, H1, I1, r1, q1⟩ => hc pins s1 σ H1 vs us Q I1 r1 q1) he hpl
end
end L2

namespace HT
open PySem PyProof.Rows

section
open PySem.SeqAt
open PySem.AutoSeq1 (wpAny_loadPart')
open PySem.MeetsSeq PySem.MeetsSeq2 PySem.MeetsSeq3

end

section
variable {prog : Program} {w : World} {A : Around} {E : Value → Shared → Prop} {s : Shared}

/-- t + u, t not empty -/
theorem cat_tup {t b : Addr} {vs ws : List Value} {Q : Value → Shared → Prop} (ht : IsTup s.heap t vs.toArray) (hb : IsTup s.heap b ws.toArray) (hv : vs ≠ [])
    (h1 : ws = [] → Q (.ref t) s) (h2 : ws ≠ [] → Q (.ref s.heap.objs.size) { s with heap := s.heap.push { cls := .type "tuple", data := .seq (vs ++ ws).toArray } })
    (hsz : vs.length + ws.length ≤ sizeLine) : wpAny (model prog w) A (binaryOp .Add (.ref t) (.ref b)) Q E s := by
  obtain ⟨⟨cls, dd, data, sl⟩, ho, hc, n, hd⟩ := id ht
  obtain ⟨⟨cls2, dd2, data2, sl2⟩, ho2, hc2, n2, hd2⟩ := id hb
  simp only at hc hd hc2 hd2
  subst hc hd hc2 hd2
  have e : vs.toArray ++ ws.toArray = (vs ++ ws).toArray := by simp
  by_cases hw : ws = []
  · exact concat_meets ⟨_, ho, rfl⟩ ⟨_, ho2, rfl⟩ noFill_tuple_add seq_tuple_add PySem.F.slot_tuple_add PySem.F.entry_tuple_add (PySem.F.args_tuple_add_2 _ _)
      (tuple_addW1 t b vs.toArray ws.toArray n n2 dd dd2 sl sl2 (by simpa using hv) (by simp [hw])) ⟨ho, ho2, h1 hw⟩
  · refine concat_meets ⟨_, ho, rfl⟩ ⟨_, ho2, rfl⟩ noFill_tuple_add seq_tuple_add PySem.F.slot_tuple_add PySem.F.entry_tuple_add (PySem.F.args_tuple_add_2 _ _)
      (tuple_addW2 t b vs.toArray ws.toArray n n2 dd dd2 sl sl2 (by simpa using hv) (by simpa using hw) (by rw [List.size_toArray, List.size_toArray]; exact hsz)) ⟨ho, ho2, ?_⟩
    rw [e]
    exact h2 hw

/-! ### t[a:b], not the whole -/
/-- a slice's bound as a place among n (d where it is left out) -/
def sIx (n d : Nat) : Option Int → Nat
  | none => d
  | some v => if v < 0 then (v + (n : Int)).toNat else min v.toNat n
theorem sIx_le (n d : Nat) (hd : d ≤ n) (o : Option Int) : sIx n d o ≤ n := by
  cases o with
  | none => exact hd
  | some v =>
    show (if v < 0 then (v + (n : Int)).toNat else min v.toNat n) ≤ n
    by_cases hv : v < 0
    · rw [if_pos hv]; omega
    · rw [if_neg hv]; exact Nat.min_le_right _ _
theorem clip_eq (v : Int) (n d : Nat) : (if v < 0 then max (v + (n : Int)) 0 else min v (n : Int)) = ((sIx n d (some v) : Nat) : Int) := by
  show (if v < 0 then max (v + (n : Int)) 0 else min v (n : Int)) = (((if v < 0 then (v + (n : Int)).toNat else min v.toNat n) : Nat) : Int)
  by_cases hv : v < 0
  · simp only [if_pos hv]; omega
  · simp only [if_neg hv]; omega
theorem adjust_gen (lo hi : Option Int) (n : Nat) : Builtin.Slice.sliceAdjust lo hi 1 (n : Int) = (((sIx n 0 lo : Nat) : Int), ((sIx n n hi : Nat) : Int)) := by
  have h1 : ¬ ((1 : Int) < 0) := by omega
  unfold Builtin.Slice.sliceAdjust
  simp only [h1, if_false]
  refine Prod.ext ?_ ?_
  · cases lo with
    | none => rfl
    | some v => exact clip_eq v n 0
  · cases hi with
    | none => rfl
    | some v => exact clip_eq v n n
theorem places_gen (i j : Nat) : Builtin.Slice.slicePlaces (i : Int) (j : Int) 1 = j - i := by
  unfold Builtin.Slice.slicePlaces
  have h1 : (1 : Int) > 0 := by omega
  simp only [h1, if_true, Int.ediv_one]
  split <;> omega
theorem slicePart_ {v : Value} {o : Option Int} {Q : Option Int → Shared → Prop} (p : IsPart v o) (h : Q o s) : wpAny (model prog w) A (Builtin.Slice.slicePartIndex v) Q E s := by
  cases p with
  | none => exact slicePart_none h
  | int i t => exact slicePart_int h
theorem sliceApplied_gen {sl : Addr} {vl vu : Value} {lo hi : Option Int} {n : Nat} {Q : Int × Int × Nat → Shared → Prop} (hs : s.heap.IsSliceOf sl vl vu .none) (pl : IsPart vl lo) (pu : IsPart vu hi)
    (h : Q (((sIx n 0 lo : Nat) : Int), 1, sIx n n hi - sIx n 0 lo) s) : wpAny (model prog w) A (Builtin.Slice.sliceApplied (.ref sl) (pure (n : Int))) Q E s := by
  obtain ⟨os, hos, hcs, hds⟩ := id hs
  unfold Builtin.Slice.sliceApplied Builtin.Slice.sliceFields
  refine wpAny_bind (wpAny_bind (wpAny_field hos hds (x := vl) rfl (wpAny_bind (wpAny_field hos hds (x := vu) rfl (wpAny_bind (wpAny_field hos hds (x := .none) rfl (wpAny_pure ?_)))))))
  refine wpAny_bind (slicePart_none ?_)
  show wpAny _ _ (if ((1 : Int) == 0) = true then _ else _) _ _ s
  rw [if_neg (by decide)]
  refine wpAny_bind (slicePart_ pl (wpAny_bind (slicePart_ pu (wpAny_bind (wpAny_pure ?_)))))
  show wpAny _ _ (match Builtin.Slice.sliceAdjust lo hi 1 (n : Int) with | (lo, hi) => pure (lo, (1 : Int), Builtin.Slice.slicePlaces lo hi 1)) _ _ s
  rw [adjust_gen lo hi n]
  show wpAny _ _ (pure (((sIx n 0 lo : Nat) : Int), (1 : Int), Builtin.Slice.slicePlaces ((sIx n 0 lo : Nat) : Int) ((sIx n n hi : Nat) : Int) 1)) _ _ s
  rw [places_gen]
  exact wpAny_pure h
theorem pick_gen (xs : Array Value) (i k : Nat) : ((List.range k).filterMap fun (m : Nat) => xs[((i : Int) + (m : Int) * 1).toNat]?).toArray = ((xs.toList.drop i).take k).toArray := by
  have e : (fun (m : Nat) => xs[((i : Int) + (m : Int) * 1).toNat]?) = fun m => xs[i + m]? := by
    funext m
    have : ((i : Int) + (m : Int) * 1).toNat = i + m := by omega
    rw [this]
  rw [e]
  have := pick_run xs i k
  rw [List.filterMap_map] at this
  have e2 : ((fun x => xs[x]?) ∘ fun x => i + x) = fun m => xs[i + m]? := rfl
  rw [e2] at this
  rw [this]

theorem getItem_tuple_cut {t sl : Addr} {items : Array Value} {vl vu : Value} {lo hi : Option Int} {Q : Value → Shared → Prop} (ht : IsTup s.heap t items) (hs : s.heap.IsSliceOf sl vl vu .none) (pl : IsPart vl lo) (pu : IsPart vu hi)
    (hw : ¬ (sIx items.size 0 lo = 0 ∧ sIx items.size items.size hi = items.size))
    (h : Q (.ref s.heap.objs.size) { s with heap := s.heap.push { cls := .type "tuple", data := .seq ((items.toList.drop (sIx items.size 0 lo)).take (sIx items.size items.size hi - sIx items.size 0 lo)).toArray } })
    (hsz : items.size ≤ sizeLine) : wpAny (model prog w) A (getItem (.ref t) (.ref sl)) Q E s := by
  have htake : sizeOk (.seq ((items.toList.drop (sIx items.size 0 lo)).take (sIx items.size items.size hi - sIx items.size 0 lo)).toArray) := by
    show ((items.toList.drop (sIx items.size 0 lo)).take (sIx items.size items.size hi - sIx items.size 0 lo)).toArray.size ≤ sizeLine
    rw [List.size_toArray, List.length_take, List.length_drop, Array.length_toList]
    omega
  have hj : sIx items.size items.size hi ≤ items.size := sIx_le _ _ (Nat.le_refl _) hi
  obtain ⟨os, hos, hcs, hds⟩ := id hs
  have hTs : s.TypeIs (.ref sl) "slice" := ⟨os, hos, hcs⟩
  unfold getItem
  try with_reducible refine wpAny_holding ?_
  first | refine wpAny_bind (wpAny_pure ?_) | skip
  refine wpAny_bind (wpAny_sequenceKey ht.typeIs (by decide) ?_)
  refine wpAny_bind (wpAny_callSpecial?_slot (name := Str.ofString "__getitem__") ht.typeIs PyProof.Rows.slot_tuple_getitem
    (wpAny_call_entry PyProof.Rows.slot_tuple_getitem ht.typeIs entry_tuple_getitem ?_ (args_tuple_getitem _ _)))
  show wpAny _ _ (Builtin.Tuple.tupleItemsOf (.ref t) >>= _) _ _ s
  refine wpAny_bind (tupleItemsOf_ ht ?_)
  refine wpAny_bind (wpAny_typeOf hTs ?_)
  rw [if_pos (by decide)]
  refine wpAny_bind (sliceApplied_gen hs pl pu ?_)
  have hno : ¬ ((((sIx items.size 0 lo : Nat) : Int) == 0 && (1 : Int) == 1 && (sIx items.size items.size hi - sIx items.size 0 lo) == items.size) = true) := by
    intro q
    rw [Bool.and_eq_true, Bool.and_eq_true] at q
    have q1 : ((sIx items.size 0 lo : Nat) : Int) = 0 := eq_of_beq q.1.1
    have q2 : sIx items.size items.size hi - sIx items.size 0 lo = items.size := eq_of_beq q.2
    exact hw ⟨by omega, by omega⟩
  show wpAny _ _ (if (((sIx items.size 0 lo : Nat) : Int) == 0 && (1 : Int) == 1 && (sIx items.size items.size hi - sIx items.size 0 lo) == items.size) = true then _ else _) _ _ s
  rw [if_neg hno, pick_gen]
  first
    | exact wpAny_bind (m := Builtin.Tuple.tupleExact _) (wpAny_newObj_type (wpAny_pure ⟨_, rfl, wpAny_pure h⟩) htake)
    | exact wpAny_bind (m := Builtin.Tuple.tupleExact _) (wpAny_newObj_type (wpAny_bind (wpAny_pure (wpAny_pure ⟨_, rfl, wpAny_pure h⟩))) htake)
    | exact wpAny_bind (wpAny_bind (m := Builtin.Tuple.tupleExact _) (wpAny_newObj_type (wpAny_pure (wpAny_pure ⟨_, rfl, wpAny_pure h⟩)) htake))
    | exact wpAny_bind (wpAny_bind (m := Builtin.Tuple.tupleExact _) (wpAny_newObj_type (wpAny_pure ⟨_, rfl, wpAny_pure h⟩) htake))
end
end HT

namespace L2
open PySem PySem.Spec PyProof.Rows

/-! ### the parts of a slice -/
abbrev TO := St → Hp → (Option Int → Hp → Prop) → Prop
/-- a slice's part (left out, or an int) -/
def PO (X : Cx) (e : Option Expr) (t : TO) : Prop :=
  ∀ (pins : List (Addr × Obj)) (s : Shared) (σ : St) (H : Hp) (Q : Option Int → Hp → Prop), Inv X pins σ H s → t σ H Q →
    wpAny (model X.prog X.w) X.A (evalPart e X.env) (fun u s' => ∃ o H', Inv X pins σ H' s' ∧ IsPart u o ∧ Q o H') X.xe s
def tNoPart : TO := fun _ H Q => Q none H
def tPart (t : TE) : TO := fun σ H Q => t σ H fun x H1 => ∃ i, x = .int i ∧ Q (some i) H1

section
variable {X : Cx} {e : Expr} {te : TE} {lo hi : Option Expr} {tl th : TO} {pos p2 : Pos}

theorem po_none : PO X none tNoPart := by
  intro pins s σ H Q I h
  rw [evalPart_none]
  exact wpAny_pure ⟨none, H, I, .none, h⟩
theorem po_some (h : PE X e te) : PO X (some e) (tPart te) := by
  intro pins s σ H Q I hw
  rw [evalPart_some]
  refine thn (h pins s σ H _ I hw) fun u s1 ⟨x, H1, I1, r1, q1⟩ => ?_
  obtain ⟨i, rfl, q⟩ := q1
  obtain ⟨t, rfl⟩ := r1
  exact ⟨some i, H1, I1, .int i t, q⟩

/-- what a slice of a value is, by values: the slice object stands at sl -/
def SlR (X : Cx) (r : V → Option Int → Option Int → Hp → VK → Prop) : Prop :=
  ∀ (pins : List (Addr × Obj)) (s : Shared) (σ : St) (H : Hp) (x : V) (v vl vu : Value) (lo hi : Option Int) (sl : Addr) (Q : VK), Inv X pins σ H s → RelV x v → s.heap.IsSliceOf sl vl vu .none → IsPart vl lo → IsPart vu hi → r x lo hi H Q →
    ∃ T id, typeLookup (.type T) "__getitem__" = pure (some (.builtin id)) ∧ s.TypeIs v T ∧ wpAny (model X.prog X.w) X.A (getItem v (.ref sl)) (EP X pins σ Q) X.xe s
theorem SlR.or {r r' : V → Option Int → Option Int → Hp → VK → Prop} (h : SlR X r) (h' : SlR X r') : SlR X (fun x lo hi H Q => r x lo hi H Q ∨ r' x lo hi H Q) := by
  intro pins s σ H x v vl vu lo hi sl Q I rx hs pl pu q
  rcases q with q | q
  · exact h pins s σ H x v vl vu lo hi sl Q I rx hs pl pu q
  · exact h' pins s σ H x v vl vu lo hi sl Q I rx hs pl pu q
def tSl (r : V → Option Int → Option Int → Hp → VK → Prop) (te : TE) (tl th : TO) : TE := fun σ H Q => te σ H fun x H1 => tl σ H1 fun l H2 => th σ H2 fun u H3 => r x l u H3 Q
/-- a[lo:hi], any a -/
theorem pe_slice {r : V → Option Int → Option Int → Hp → VK → Prop} (hr : SlR X r) (he : PE X e te) (hl : PO X lo tl) (hu : PO X hi th) : PE X (.Subscript e (.Slice lo hi none p2) pos) (tSl r te tl th) := by
  intro pins s σ H Q I h
  refine Subscript_ (thn (he pins s σ H _ I h) fun v s1 ⟨x, H1, I1, r1, q1⟩ => ?_)
  refine wpAny_Slice (thn (hl pins s1 σ H1 _ I1 q1) fun vl s2 ⟨l, H2, I2, pl, q2⟩ => thn (hu pins s2 σ H2 _ I2 q2) fun vu s3 ⟨u, H3, I3, pu, q3⟩ => ?_)
  rw [evalPart_none]
  refine wpAny_pure ?_
  have I4 : Inv X pins σ H3 { s3 with heap := s3.heap.push { cls := .type "slice", data := .fields #[vl, vu, .none] } } := I3.kept (t' := s3.toks) fun b ob q => Heap.get?_push_of_some _ q
  obtain ⟨T, id, hT, ht, hg⟩ := hr pins { s3 with heap := s3.heap.push { cls := .type "slice", data := .fields #[vl, vu, .none] } } σ H3 x v vl vu l u s3.heap.objs.size Q I4 r1 (Heap.IsSliceOf.new ..) pl pu q3
  show wpAny (model X.prog X.w) X.A (subscriptTail e (.Slice lo hi none p2) v (.ref s3.heap.objs.size)) (EP X pins σ Q) X.xe { s3 with heap := s3.heap.push { cls := .type "slice", data := .fields #[vl, vu, .none] } }
  exact tail_any (ops := [.ref s3.heap.objs.size, v]) ht hT hg (by with_unfolding_all rfl)

/-- the items of xs[lo:hi] -/
def cutV (xs : List V) (lo hi : Option Int) : List V := (xs.drop (HT.sIx xs.length 0 lo)).take (HT.sIx xs.length xs.length hi - HT.sIx xs.length 0 lo)
theorem cutV_length (xs : List V) (lo hi : Option Int) : (cutV xs lo hi).length ≤ xs.length := by
  unfold cutV
  rw [List.length_take, List.length_drop]
  omega
/-- t[lo:hi], not the whole of it (the whole would be t itself) -/
def rSlT (K : PySem.W.Frag) : V → Option Int → Option Int → Hp → VK → Prop := fun x lo hi H Q => ∃ a xs, x = .ref a ∧ SqT K H a xs ∧
  ¬ (HT.sIx xs.length 0 lo = 0 ∧ HT.sIx xs.length xs.length hi = xs.length) ∧ ∀ p, H p = none → Q (.ref p) (upd H p (.tup (cutV xs lo hi)))
theorem sl_tup : SlR X (rSlT X.K) := by
  intro pins s σ H x v vl vu lo hi sl Q I rx hs pl pu h
  obtain ⟨a, xs, rfl, hx, hw, q⟩ := h
  cases rx
  obtain ⟨its, r, ht, hz⟩ := I.tuple hx
  have hlen : its.toArray.size = xs.length := by rw [List.size_toArray]; exact r.length.symm
  refine ⟨"tuple", _, PyProof.Rows.slot_tuple_getitem.lookup, ht.typeIs, ?_⟩
  refine HT.getItem_tuple_cut ht hs pl pu (by rw [hlen]; exact hw) ?_ (by rw [hlen]; exact hz)
  rw [hlen]
  refine ⟨.ref s.heap.objs.size, _, I.laid (t' := s.toks) (o := .tup (cutV xs lo hi)) (fun b ob q => Heap.get?_push_of_some _ q) (Nat.le_refl _) ?_, rfl, q _ (I.hok.fresh (Nat.le_refl _))⟩
  exact ⟨Nat.le_trans (cutV_length xs lo hi) hz, _, (r.drop (HT.sIx xs.length 0 lo)).take (HT.sIx xs.length xs.length hi - HT.sIx xs.length 0 lo), IsTup.new _ _⟩

/-! ### t < u, t + u -/
/-- t + u, t not empty: u empty gives t itself -/
def rCatT (K : PySem.W.Frag) : R2 := fun x y H Q => ∃ a b xs ys, x = .ref a ∧ y = .ref b ∧ SqT K H a xs ∧ SqT K H b ys ∧ xs ≠ [] ∧ xs.length + ys.length ≤ sizeLine ∧
  (ys = [] → Q (.ref a) H) ∧ (ys ≠ [] → ∀ p, H p = none → Q (.ref p) (upd H p (.tup (xs ++ ys))))
theorem Vals.nil_iff {xs : List V} {us : List Value} (r : Vals xs us) : us = [] ↔ xs = [] := by
  cases r with
  | nil => simp
  | cons _ _ => simp
theorem op_catT : OpR X (binaryOp .Add) (rCatT X.K) := by
  intro pins s σ H x y v u Q I rx ry h
  obtain ⟨a, b, xs, ys, rfl, rfl, ha, hb, hx, hz, q1, q2⟩ := h
  cases rx
  cases ry
  obtain ⟨its, r1, p1, _⟩ := I.tuple ha
  obtain ⟨its2, r2, p2, _⟩ := I.tuple hb
  refine HT.cat_tup p1 p2 (fun z => hx (r1.nil_iff.mp z)) (fun z => ⟨.ref a, H, I, rfl, q1 (r2.nil_iff.mp z)⟩) (fun z => ?_) (by rw [← r1.length, ← r2.length]; exact hz)
  refine ⟨.ref s.heap.objs.size, _, I.laid (t' := s.toks) (o := .tup (xs ++ ys)) (fun b ob q => Heap.get?_push_of_some _ q) (Nat.le_refl _) ?_, rfl, q2 (fun w => z (r2.nil_iff.mpr w)) _ (I.hok.fresh (Nat.le_refl _))⟩
  exact ⟨by rw [List.length_append]; exact hz, _, r1.append r2, IsTup.new _ _⟩
end
end L2

namespace L2
open PySem PySem.Spec PyProof.Rows

/-! ### places -/
/-- the place that an index of any sign means -/
def ixN (n : Nat) (i : Int) : Option Nat := if 0 ≤ i then (if i < n then some i.toNat else none) else if -(n : Int) ≤ i then some (i + n).toNat else none
def atI {α : Type} (xs : List α) (i : Int) : Option α := (ixN xs.length i).bind fun j => xs[j]?
theorem ixN_seq {n : Nat} {i : Int} {j : Nat} (h : ixN n i = some j) : seqIndex? i n = some j ∧ j < n ∧ -(n : Int) ≤ i ∧ i < n := by
  unfold ixN at h
  by_cases h0 : 0 ≤ i
  · rw [if_pos h0] at h
    by_cases h1 : i < n
    · rw [if_pos h1] at h
      have e : i.toNat = j := Option.some.inj h
      exact ⟨by rw [seqIndex_of h0 h1, e], by omega, by omega, h1⟩
    · rw [if_neg h1] at h; cases h
  · rw [if_neg h0] at h
    by_cases h1 : -(n : Int) ≤ i
    · rw [if_pos h1] at h
      have e : (i + n).toNat = j := Option.some.inj h
      exact ⟨by rw [seqIndex_neg (by omega) h1, e], by omega, h1, by omega⟩
    · rw [if_neg h1] at h; cases h
theorem atI_get {α : Type} {xs : List α} {i : Int} {v : α} (h : atI xs i = some v) : ∃ j, seqIndex? i xs.length = some j ∧ xs[j]? = some v ∧ j < xs.length ∧ -(xs.length : Int) ≤ i ∧ i < xs.length := by
  unfold atI at h
  cases e : ixN xs.length i with
  | none => rw [e] at h; cases h
  | some j =>
    rw [e] at h
    obtain ⟨h1, h2, h3, h4⟩ := ixN_seq e
    exact ⟨j, h1, h, h2, h3, h4⟩
/-! ### what may be subscripted -/
/-- what stands as an index of a plain subscript -/
def PlainIx (b : Expr) : Prop := ∀ o i, subscripted b false o i = operate [o, i] (getItem o i)
/-- a subscript by values -/
def IxR (X : Cx) (r : R2) : Prop :=
  ∀ (value slice : Expr) (pins : List (Addr × Obj)) (s : Shared) (σ : St) (H : Hp) (x y : V) (v u : Value) (Q : VK), Inv X pins σ H s → RelV x v → RelV y u → r x y H Q →
    subscripted slice false v u = operate [v, u] (getItem v u) → wpAny (model X.prog X.w) X.A (subscriptTail value slice v u) (EP X pins σ Q) X.xe s
/-- a call of a builtin's method by values: the receiver, the arguments -/
def MtR (X : Cx) (id : String) (r : V → List V → Hp → VK → Prop) : Prop :=
  ∀ (pins : List (Addr × Obj)) (s : Shared) (σ : St) (H : Hp) (x : V) (xs : List V) (v : Value) (us : List Value) (Q : VK), Inv X pins σ H s → RelV x v → Vals xs us → r x xs H Q →
    wpAny (model X.prog X.w) X.A (call (.builtin id) (v :: us)) (EP X pins σ Q) X.xe s
section
variable {X : Cx} {a b : Expr} {ta tb : TE} {pos : Pos}
theorem IxR.or {r r' : R2} (h : IxR X r) (h' : IxR X r') : IxR X (fun x y H Q => r x y H Q ∨ r' x y H Q) := by
  intro value slice pins s σ H x y v u Q I rx ry q hs
  rcases q with q | q
  · exact h value slice pins s σ H x y v u Q I rx ry q hs
  · exact h' value slice pins s σ H x y v u Q I rx ry q hs
theorem MtR.or {id : String} {r r' : V → List V → Hp → VK → Prop} (h : MtR X id r) (h' : MtR X id r') : MtR X id (fun x xs H Q => r x xs H Q ∨ r' x xs H Q) := by
  intro pins s σ H x xs v us Q I rx rs q
  rcases q with q | q
  · exact h pins s σ H x xs v us Q I rx rs q
  · exact h' pins s σ H x xs v us Q I rx rs q
/-- a[b] -/
theorem pe_ix {r : R2} (hr : IxR X r) (ha : PE X a ta) (hb : PE X b tb) (hs : PlainIx b) : PE X (.Subscript a b pos) (tOp r ta tb) := by
  intro pins s σ H Q I h
  exact Subscript_ (binT ha hb I h fun v u s2 x y H2 I2 rx ry q => hr a b pins s2 σ H2 x y v u Q I2 rx ry q (hs _ _))

def rIxL (K : PySem.W.Frag) : R2 := fun x y H Q => ∃ p xs i v, x = .ref p ∧ y = .int i ∧ SqL K H p xs ∧ atI xs i = some v ∧ Q v H
def rIxT (K : PySem.W.Frag) : R2 := fun x y H Q => ∃ p xs i v, x = .ref p ∧ y = .int i ∧ SqT K H p xs ∧ atI xs i = some v ∧ Q v H
theorem ix_list : IxR X (rIxL X.K) := by
  intro value slice pins s σ H x y v u Q I rx ry h hs
  obtain ⟨p, xs, i, z, rfl, rfl, hq, he, q⟩ := h
  cases rx
  obtain ⟨t, rfl⟩ := ry
  obtain ⟨its, r, pl, hz⟩ := I.list hq
  obtain ⟨j, h1, h2, h3, h4, h5⟩ := atI_get he
  obtain ⟨w, ew, rw'⟩ := r.get h2
  have hl := r.length
  have hn := line63
  have fin : EP X pins σ Q w s := ⟨z, H, I, rw', q⟩
  by_cases h0 : 0 ≤ i
  · have hj : i.toNat = j := by
      rw [seqIndex_of h0 h5] at h1
      exact Option.some.inj h1
    exact item_listR pl.isList h0 (by omega) (by rw [hj]; simpa using ew) fin hs
  · have hj : (i + (its.toArray.size : Int)).toNat = j := by
      rw [seqIndex_neg (by omega) h4] at h1
      rw [List.size_toArray, ← hl]
      exact Option.some.inj h1
    exact subscriptTail_builtinR (x := w) pl.isList.typeIs slot_list_getitem.lookup
      (wpAny_getItem_list_neg (Q := fun r s' => r = w ∧ EP X pins σ Q r s') pl.isList (by omega) (by rw [List.size_toArray] <;> omega) (by omega) (by rw [hj]; simpa using ew) ⟨rfl, fin⟩) hs
theorem ix_tup : IxR X (rIxT X.K) := by
  intro value slice pins s σ H x y v u Q I rx ry h hs
  obtain ⟨p, xs, i, z, rfl, rfl, hq, he, q⟩ := h
  cases rx
  obtain ⟨t, rfl⟩ := ry
  obtain ⟨its, r, pl, hz⟩ := I.tuple hq
  obtain ⟨j, h1, h2, h3, h4, h5⟩ := atI_get he
  obtain ⟨w, ew, rw'⟩ := r.get h2
  have hl := r.length
  have hn := line63
  have fin : EP X pins σ Q w s := ⟨z, H, I, rw', q⟩
  exact subscriptTail_builtinR (x := w) pl.typeIs slot_tuple_getitem.lookup
    (getItem_tuple (j := j) (Q := fun r s' => r = w ∧ EP X pins σ Q r s') pl (by omega) (by omega) (by rw [List.size_toArray, ← hl]; exact h1) (by simpa using ew) ⟨rfl, fin⟩) hs
/-! ### xs[i] = v, any sign -/
/-- the list's object behind a store -/
theorem mapSeq_set (its : List Value) (n j : Nat) (u : Value) : Obj.mapSeq (·.setIfInBounds j u) { cls := .type "list", data := .seq its.toArray n } = { cls := .type "list", data := .seq (its.set j u).toArray n } := by
  simp [Obj.mapSeq]
theorem Inv.lst {pins : List (Addr × Obj)} {σ : St} {H : Hp} {s : Shared} {p : Addr} {xs : List V} (I : Inv X pins σ H s) (h : H p = some (.lst xs)) :
    ∃ (its : List Value) (n : Nat), Vals xs its ∧ s.heap.get? p = some { cls := .type "list", data := .seq its.toArray n } ∧ xs.length ≤ sizeLine := by
  obtain ⟨z, its, n, r, e⟩ := I.hok p _ h
  exact ⟨its, n, r, e, z⟩
/-- the list at p is written by an update of its object -/
theorem Inv.lstUpd {pins : List (Addr × Obj)} {σ : St} {H : Hp} {s : Shared} {p : Addr} {xs ys : List V} {its its' : List Value} {n n' : Nat} {f : Obj → Obj} (I : Inv X pins σ H s) (h : H p = some (.lst xs))
    (ho : s.heap.get? p = some { cls := .type "list", data := .seq its.toArray n }) (hf : f { cls := .type "list", data := .seq its.toArray n } = { cls := .type "list", data := .seq its'.toArray n' }) (r : Vals ys its') (hz : ys.length ≤ sizeLine) (t : Nat) :
    Inv X pins σ (upd H p (.lst ys)) { s with heap := s.heap.update p f, toks := t } := by
  have e : (s.heap.update p f).get? p = some { cls := .type "list", data := .seq its'.toArray n' } := by
    rw [Heap.get?_update_self f ho (by rw [hf] <;> rfl), hf]
  refine I.write (x := p) (e := p) (by rw [h]; trivial) (.inl rfl) (fun b u hb q => (Heap.get?_update_other _ _ (Ne.symm hb)).trans q) ⟨_, e⟩ ?_
  exact ⟨hz, its', n', r, e⟩
def rSetL : V → V → V → Hp → (Hp → Prop) → Prop := fun o i v H Q => ∃ p xs k j, o = .ref p ∧ i = .int k ∧ H p = some (.lst xs) ∧ ixN xs.length k = some j ∧ Q (upd H p (.lst (xs.set j v)))
theorem set_list : PSet X rSetL := by
  intro pins s σ H o i v ov iv u Q I ro ri rv h
  obtain ⟨p, xs, k, j, rfl, rfl, hp, hj, q⟩ := h
  cases ro
  obtain ⟨t, rfl⟩ := ri
  obtain ⟨its, n, r, ho, hz⟩ := I.lst hp
  obtain ⟨h1, h2, h3, h4⟩ := ixN_seq hj
  have hl := r.length
  have hn := line63
  have I' : Inv X pins σ (upd H p (.lst (xs.set j v))) { s with heap := s.heap.update p (Obj.mapSeq (·.setIfInBounds j u)) } :=
    I.lstUpd hp ho (mapSeq_set its n j u) (r.set rv j) (by rw [List.length_set]; exact hz) s.toks
  by_cases h0 : 0 ≤ k
  · have hk : k.toNat = j := by
      rw [seqIndex_of h0 h4] at h1
      exact Option.some.inj h1
    exact PySem.W.ki_setAt ho h0 (by omega) (by rw [List.size_toArray, ← hl]; exact h4) (by rw [hk]; exact ⟨_, I', q⟩)
  · have hk : (k + (its.toArray.size : Int)).toNat = j := by
      rw [seqIndex_neg (by omega) h3] at h1
      rw [List.size_toArray, ← hl]
      exact Option.some.inj h1
    exact PySem.W.ki_setBack ho (by omega) (by rw [List.size_toArray, ← hl]; exact h3) (by omega) (by rw [hk]; exact ⟨_, I', q⟩)

/-! ### slices -/
theorem slice_bounds (lo hi : Option Int) (n : Nat) : (sliceBounds lo hi none n).1 = ((HT.sIx n 0 lo : Nat) : Int) ∧ (sliceBounds lo hi none n).2.1 = ((HT.sIx n n hi : Nat) : Int) ∧ (sliceBounds lo hi none n).2.2 = 1 := by
  refine ⟨?_, ?_, rfl⟩
  · cases lo with
    | none => simp [sliceBounds, HT.sIx]
    | some i =>
      simp only [sliceBounds, HT.sIx, Option.getD_none, show (1 : Int) > 0 by decide, if_true]
      by_cases h : i < 0
      · simp only [h, if_true] <;> omega
      · simp only [h, if_false] <;> omega
  · cases hi with
    | none => simp [sliceBounds, HT.sIx]
    | some i =>
      simp only [sliceBounds, HT.sIx, Option.getD_none, show (1 : Int) > 0 by decide, if_true]
      by_cases h : i < 0
      · simp only [h, if_true] <;> omega
      · simp only [h, if_false] <;> omega
theorem slicePick_cut (its : List Value) (lo hi : Option Int) : slicePick its.toArray lo hi none = ((its.drop (HT.sIx its.length 0 lo)).take (HT.sIx its.length its.length hi - HT.sIx its.length 0 lo)).toArray := by
  obtain ⟨h1, h2, h3⟩ := slice_bounds lo hi its.toArray.size
  unfold slicePick
  rw [h1, h2, h3]
  simp only [sliceRange_one, pick_run, List.size_toArray] <;> rfl
/-- xs[lo:hi] of a list: a new list -/
def rSlL (K : PySem.W.Frag) : V → Option Int → Option Int → Hp → VK → Prop := fun x lo hi H Q => ∃ a xs, x = .ref a ∧ SqL K H a xs ∧ ∀ p, H p = none → Q (.ref p) (upd H p (.lst (cutV xs lo hi)))
theorem sl_list : SlR X (rSlL X.K) := by
  intro pins s σ H x v vl vu lo hi sl Q I rx hs pl pu h
  obtain ⟨a, xs, rfl, hx, q⟩ := h
  cases rx
  obtain ⟨its, r, ht, hz⟩ := I.list hx
  have hlen := r.length
  refine ⟨"list", _, slot_list_getitem.lookup, ht.isList.typeIs, ?_⟩
  refine wpAny_getItem_list_slice ht.isList hs pl pu .none (by simp) ?_ (by rw [List.size_toArray] <;> omega)
  rw [slicePick_cut, ← hlen]
  refine ⟨.ref s.heap.objs.size, _, I.laid (t' := s.toks) (o := .lst (cutV xs lo hi)) (fun b ob q => Heap.get?_push_of_some _ q) (Nat.le_refl _) ?_, rfl, q _ (I.hok.fresh (Nat.le_refl _))⟩
  exact ⟨Nat.le_trans (cutV_length xs lo hi) hz, _, 0, (r.drop (HT.sIx xs.length 0 lo)).take (HT.sIx xs.length xs.length hi - HT.sIx xs.length 0 lo), Heap.get?_push_size _ rfl⟩

/-! ### in, not in: flat items -/
def flatV : V → Bool
  | .non => true
  | .bl _ => true
  | .int _ => true
  | .str _ => true
  | _ => false
/-- == of flat values -/
def eqV : V → V → Bool
  | .non, .non => true
  | .bl a, .bl b => a == b
  | .bl a, .int b => (if a then 1 else 0) == b
  | .int a, .bl b => a == (if b then 1 else 0)
  | .int a, .int b => a == b
  | .str a, .str b => a == b
  | _, _ => false
theorem eqAt_V {A : Around} {s : Shared} {y x : V} {u v : Value} (ry : RelV y u) (rx : RelV x v) (fy : flatV y = true) (fx : flatV x = true) : SeqAt.EqAt A s u v (eqV y x) := by
  cases y with
  | non =>
    cases ry
    cases x with
    | non => cases rx; exact SeqAt.EqAt.same _
    | bl b => cases rx; exact SeqAt.EqAt.none_bool b
    | int b => obtain ⟨t, rfl⟩ := rx; exact SeqAt.EqAt.none_int b t
    | str b => obtain ⟨t, rfl⟩ := rx; exact SeqAt.EqAt.none_str b t
    | _ => exact absurd (show false = true from fx) Bool.false_ne_true
  | bl a =>
    cases ry
    cases x with
    | non => cases rx; exact SeqAt.EqAt.bool_none a
    | bl b => cases rx; exact SeqAt.EqAt.bool_bool a b
    | int b => obtain ⟨t, rfl⟩ := rx; exact SeqAt.EqAt.bool_int a b t
    | str b => obtain ⟨t, rfl⟩ := rx; exact SeqAt.EqAt.bool_str a b t
    | _ => exact absurd (show false = true from fx) Bool.false_ne_true
  | int a =>
    obtain ⟨t', rfl⟩ := ry
    cases x with
    | non => cases rx; exact SeqAt.EqAt.int_none a t'
    | bl b => cases rx; exact SeqAt.EqAt.int_bool a t' b
    | int b => obtain ⟨t, rfl⟩ := rx; exact SeqAt.EqAt.int_int a t' b t
    | str b => obtain ⟨t, rfl⟩ := rx; exact SeqAt.EqAt.int_str a t' b t
    | _ => exact absurd (show false = true from fx) Bool.false_ne_true
  | str a =>
    obtain ⟨t', rfl⟩ := ry
    cases x with
    | non => cases rx; exact SeqAt.EqAt.str_none a t'
    | bl b => cases rx; exact SeqAt.EqAt.str_bool a t' b
    | int b => obtain ⟨t, rfl⟩ := rx; exact SeqAt.EqAt.str_int a t' b t
    | str b => obtain ⟨t, rfl⟩ := rx; exact SeqAt.EqAt.str_str a t' b t
    | _ => exact absurd (show false = true from fx) Bool.false_ne_true
  | _ => exact absurd (show false = true from fy) Bool.false_ne_true
/-- the items' answers, read off the values (a value's own answer does not lean on its token) -/
def eqU (x : V) (u : Value) : Bool := match u with
  | .none => eqV .non x
  | .bool b => eqV (.bl b) x
  | .int i _ => eqV (.int i) x
  | .str z _ => eqV (.str z) x
  | _ => false
theorem eqU_of {x y : V} {u : Value} (r : RelV y u) (f : flatV y = true) : eqU x u = eqV y x := by
  cases y with
  | non => cases r; rfl
  | bl b => cases r; rfl
  | int i => obtain ⟨t, rfl⟩ := r; rfl
  | str z => obtain ⟨t, rfl⟩ := r; rfl
  | _ => exact absurd (show false = true from f) Bool.false_ne_true
theorem any_eqU {x : V} : ∀ {xs : List V} {us : List Value}, Vals xs us → xs.all flatV = true → us.any (eqU x) = xs.any fun y => eqV y x
  | _, _, .nil, _ => rfl
  | y :: xs, u :: us, .cons r t, f => by
    rw [List.all_cons, Bool.and_eq_true] at f
    rw [List.any_cons, List.any_cons, eqU_of r f.1, any_eqU t f.2]
theorem mem_eqAt {A : Around} {s : Shared} {x : V} {v : Value} (rx : RelV x v) (fx : flatV x = true) : ∀ {xs : List V} {us : List Value}, Vals xs us → xs.all flatV = true → ∀ u ∈ us, SeqAt.EqAt A s u v (eqU x u)
  | _, _, .nil, _ => fun u hu => by cases hu
  | y :: xs, u :: us, .cons r t, f => fun u' hu => by
    rw [List.all_cons, Bool.and_eq_true] at f
    rcases List.mem_cons.mp hu with rfl | hu
    · rw [eqU_of r f.1]; exact eqAt_V r rx f.1 fx
    · exact mem_eqAt rx fx t f.2 u' hu
def inV (x : V) (xs : List V) : Bool := xs.any fun y => eqV y x
/-- x in a list or tuple of flat items -/
def rIn (K : PySem.W.Frag) (neg : Bool) : R2 := fun x y H Q => ∃ p xs, y = .ref p ∧ (SqL K H p xs ∨ SqT K H p xs) ∧ flatV x = true ∧ xs.all flatV = true ∧ Q (.bl (if neg then !inV x xs else inV x xs)) H
theorem op_in_seq : OpR X (compareOp .In) (rIn X.K false) := by
  intro pins s σ H x y v u Q I rx ry h
  obtain ⟨p, xs, rfl, hq, fx, fs, q⟩ := h
  cases ry
  rcases hq with hq | hq
  · obtain ⟨its, r, pl, hz⟩ := I.list hq
    refine SeqAt.in_listAt (eqU x) pl.isList (fun w hw => mem_eqAt rx fx r fs w (by simpa using hw)) ⟨.bl _, H, I, rfl, ?_⟩
    rw [show its.toArray.any (eqU x) = its.any (eqU x) by simp, any_eqU r fs]
    exact q
  · obtain ⟨its, r, pl, hz⟩ := I.tuple hq
    refine SeqAt.in_tupleAt (eqU x) pl (fun w hw => mem_eqAt rx fx r fs w (by simpa using hw)) ⟨.bl _, H, I, rfl, ?_⟩
    rw [show its.toArray.any (eqU x) = its.any (eqU x) by simp, any_eqU r fs]
    exact q
/-! ### len, list(x), tuple(x) of any list or tuple that is read -/
theorem call_len_seq : CallR X (.builtin "len") (fun xs H Q => ∃ p ys, xs = [.ref p] ∧ (SqL X.K H p ys ∨ SqT X.K H p ys) ∧ Q (.int ys.length) H) := by
  intro pins s σ H xs us Q I r h
  obtain ⟨p, ys, rfl, hq, q⟩ := h
  obtain ⟨u, rfl, rx⟩ := vals1 r
  cases rx
  have hn := line63
  rcases hq with hq | hq
  · obtain ⟨its, r', pl, hz⟩ := I.list hq
    have hlen := r'.length
    exact Calls.call_len_list pl.isList (by simp only [List.size_toArray] <;> omega) ⟨.int ys.length, H, I.tok _, ⟨s.toks + 1, by rw [List.size_toArray, hlen]⟩, q⟩
  · obtain ⟨its, r', pl, hz⟩ := I.tuple hq
    have hlen := r'.length
    exact len_tuple pl (by simp only [List.size_toArray] <;> omega) ⟨.int ys.length, H, I.tok _, ⟨s.toks + 1, by rw [List.size_toArray, hlen]⟩, q⟩
theorem call_len_str : CallR X (.builtin "len") (fun xs H Q => ∃ z, xs = [.str z] ∧ z.length ≤ sizeLine ∧ Q (.int z.length) H) := by
  intro pins s σ H xs us Q I r h
  obtain ⟨z, rfl, hz, q⟩ := h
  obtain ⟨u, rfl, t, rfl⟩ := vals1 r
  have hn := line63
  exact len_str (by omega) ⟨.int z.length, H, I.tok _, ⟨_, rfl⟩, q⟩
theorem CallR.or {f : Value} {r r' : List V → Hp → VK → Prop} (h : CallR X f r) (h' : CallR X f r') : CallR X f (fun xs H Q => r xs H Q ∨ r' xs H Q) := by
  intro pins s σ H xs us Q I rs q
  rcases q with q | q
  · exact h pins s σ H xs us Q I rs q
  · exact h' pins s σ H xs us Q I rs q
theorem call_tuple_of : CallR X (.type "tuple") (fun xs H Q => ∃ p ys, xs = [.ref p] ∧ ((SqL X.K H p ys ∧ ∀ l, H l = none → Q (.ref l) (upd H l (.tup ys))) ∨ (SqT X.K H p ys ∧ Q (.ref p) H))) := by
  intro pins s σ H xs us Q I r h
  obtain ⟨p, ys, rfl, h⟩ := h
  obtain ⟨u, rfl, rx⟩ := vals1 r
  cases rx
  rcases h with ⟨hq, q⟩ | ⟨hq, q⟩
  · obtain ⟨its, r', pl, hz⟩ := I.list hq
    have hlen := r'.length
    refine call_tuple_list pl.isList (fun h' kp => ?_) (by simp only [List.size_toArray] <;> omega)
    have I1 : Inv X pins σ H { s with heap := h' } := I.kept (t' := s.toks) kp
    have I2 : Inv X pins σ (upd H h'.objs.size (.tup ys)) { s with heap := h'.push { cls := .type "tuple", data := .seq its.toArray } } :=
      I1.laid (t' := s.toks) (fun b o e => Heap.get?_push_of_some _ e) (Nat.le_refl _) (show ObjOk X.prog X.w _ _ _ (.tup ys) from ⟨hz, its, r', IsTup.new _ _⟩)
    exact ⟨.ref h'.objs.size, _, I2, rfl, q _ (I1.hok.fresh (Nat.le_refl _))⟩
  · obtain ⟨its, r', pl, hz⟩ := I.tuple hq
    exact call_tuple_same pl ⟨.ref p, H, I, rfl, q⟩

/-! ### the call of a builtin's method: o.m(..) -/
variable {o e : Expr} {es : List Expr} {to : TE} {t : TA} {name : Str} {apos cpos : Pos} {T id : String} {r : V → List V → Hp → VK → Prop}
/- xs.append(e), list.index on a module's tuple .. are MtR facts of 06m -/
end
end L2

namespace L2
open PySem PySem.Spec PyProof.Rows

def MtM (X : Cx) (id : String) (r : V → List V → Hp → VK → Prop) : Prop :=
  ∀ (pins : List (Addr × Obj)) (s : Shared) (σ : St) (H : Hp) (x : V) (xs : List V) (v : Value) (us : List Value) (Q : VK), Inv X pins σ H s → RelV x v → Vals xs us → r x xs H Q →
    wpAny (model X.prog X.w) X.A (call (.builtin id) (v :: us)) (EP X pins σ Q) X.xe s

/-! ### lists of values -/
theorem Vals.one : ∀ {x : V} {us : List Value}, Vals [x] us → ∃ u, us = [u] ∧ RelV x u
  | _, _, .cons r .nil => ⟨_, rfl, r⟩
theorem Vals.two : ∀ {x y : V} {us : List Value}, Vals [x, y] us → ∃ u v, us = [u, v] ∧ RelV x u ∧ RelV y v
  | _, _, _, .cons r (.cons q .nil) => ⟨_, _, rfl, r, q⟩
theorem Vals.reverse {xs : List V} {us : List Value} (h : Vals xs us) : Vals xs.reverse us.reverse := by
  induction h with
  | nil => exact .nil
  | cons r t ih => rw [List.reverse_cons, List.reverse_cons]; exact Vals.append ih (.cons r .nil)
section
variable {X : Cx} {pins : List (Addr × Obj)} {σ : St} {H : Hp} {s : Shared} {l b : Addr} {xs ys zs : List V}

/-! ### the two steps: a tracked list is rewritten, a new list is laid -/
theorem Inv.lset {its its' : List Value} {n : Nat} {f : Array Value → Array Value} {t' : Nat} (I : Inv X pins σ H s) (hH : H l = some (.lst xs))
    (e : s.heap.get? l = some { cls := .type "list", data := .seq its.toArray n }) (hf : f its.toArray = its'.toArray) (hv : Vals ys its') (hz : ys.length ≤ sizeLine) :
    Inv X pins σ (upd H l (.lst ys)) { s with heap := s.heap.update l (Obj.mapSeq f), toks := t' } := by
  have q := PySem.IsL.update e f
  rw [hf] at q
  refine I.write (x := l) (e := l) (by rw [hH]; exact trivial) (.inl rfl) (fun b' u hb hu => (Heap.get?_update_other s.heap (Obj.mapSeq f) (Ne.symm hb)).trans hu) ⟨_, q⟩ ?_
  exact ⟨hz, its', _, hv, q⟩
theorem Inv.lnew {its : List Value} {t' : Nat} (I : Inv X pins σ H s) (hv : Vals ys its) (hz : ys.length ≤ sizeLine) :
    Inv X pins σ (upd H s.heap.objs.size (.lst ys)) { s with heap := s.heap.push { cls := .type "list", data := .seq its.toArray }, toks := t' } :=
  I.laid (fun _ _ q => Heap.get?_push_of_some _ q) (Nat.le_refl _) ⟨hz, its, 0, hv, Heap.get?_push_size _ rfl⟩
theorem Inv.fresh (I : Inv X pins σ H s) : H s.heap.objs.size = none := I.hok.fresh (Nat.le_refl _)
theorem Inv.lstM (I : Inv X pins σ H s) (hH : H l = some (.lst xs)) : xs.length ≤ sizeLine ∧ ∃ (its : List Value) (n : Nat), Vals xs its ∧ xs.length = its.length ∧ s.heap.get? l = some { cls := .type "list", data := .seq its.toArray n } := by
  obtain ⟨z, its, n, r, e⟩ := I.hok l _ hH
  exact ⟨z, its, n, r, r.length, e⟩

end

section
variable {X : Cx}

/-! ### methods -/
def rAppend : V → List V → Hp → VK → Prop := fun x vs H Q => ∃ l xs y, x = .ref l ∧ vs = [y] ∧ H l = some (.lst xs) ∧ xs.length < sizeLine ∧ Q .non (upd H l (.lst (xs ++ [y])))
theorem mt_append : MtM X "list.append" rAppend := by
  intro pins s σ H x vs v us Q I rx rv h
  obtain ⟨l, xs, y, rfl, rfl, hH, hz, q⟩ := h
  cases rx
  obtain ⟨u, rfl, ru⟩ := rv.one
  obtain ⟨z, its, n, r, hl, e⟩ := I.lstM hH
  refine call_meets F.slot_list_append ⟨_, e, rfl⟩ F.entry_list_append (F.args_list_append_2 _ _) (PySem.list_append l its.toArray n u (by rw [List.size_toArray]; omega)) ⟨e, ?_⟩
  refine ⟨.non, _, I.lset (its' := its ++ [u]) hH e (by simp) (r.append (.cons ru .nil)) ?_, rfl, q⟩
  rw [List.length_append, List.length_singleton]
  omega

/-! ### list + list, list += list, list * int -/
def rCat : R2 := fun x y H Q => ∃ l b xs zs, x = .ref l ∧ y = .ref b ∧ H l = some (.lst xs) ∧ H b = some (.lst zs) ∧ xs.length + zs.length ≤ sizeLine ∧ ∀ p, H p = none → Q (.ref p) (upd H p (.lst (xs ++ zs)))
theorem op_cat : OpR X (binaryOp .Add) rCat := by
  intro pins s σ H x y v u Q I rx ry h
  obtain ⟨l, b, xs, zs, rfl, rfl, hH, hB, hz, q⟩ := h
  cases rx
  cases ry
  obtain ⟨z, its, n, r, hl, e⟩ := I.lstM hH
  obtain ⟨z2, its2, n2, r2, hl2, e2⟩ := I.lstM hB
  refine PySem.P.add_list e e2 ?_ (by rw [List.size_toArray, List.size_toArray]; omega)
  have ea : its.toArray ++ its2.toArray = (its ++ its2).toArray := by simp
  rw [ea]
  exact ⟨.ref _, _, I.lnew (t' := s.toks) (r.append r2) (by rw [List.length_append]; omega), rfl, q _ I.fresh⟩
/-! ### del xs[i] -/
end

/-! ### xs[a:b] = ys -/
section
variable {prog : Program} {w : World} {A : Around} {E : Value → Shared → Prop} {s : Shared}
end

section
variable {X : Cx}
end
end L2

namespace Att
open PySem PySem.W PySem.Calls PyProof.Rows

/-! ### the script -/
theorem ints_of_wellAll {P : Params} {h : Heap} : ∀ (ns : List Int) (vs : List Value), WellAll P h vs (ns.map WData.int) → IntsAre vs ns := by
  intro ns
  induction ns with
  | nil =>
    intro vs w
    rw [List.map_nil] at w
    cases w
    exact .nil
  | cons n ns ih =>
    intro vs w
    rw [List.map_cons] at w
    cases w with
    | cons a b =>
      cases a
      exact .cons _ _ (ih _ b)

theorem script_of {l : OpenLaw} {n : Nat} (hn : l.most = some n) {P : Params} {h : Heap} {args : List WData} {vals : List Value}
    (hpre : l.row.toRowW.claim.pre args = true) (hwl : WellAll P h vals args) :
    ∃ a vs ns, vals = [Value.ref a] ∧ args = [WData.list (ns.map WData.int)] ∧ h.get? a = some { cls := .type "list", data := .seq vs.toArray } ∧ IntsAre vs ns ∧ ns.length ≤ n := by
  have hsh : WShape.hasAll [] args [.list .int] = true := (pre_splitW hpre).1
  have hc : l.pre.holds [] { args := args } = true := (pre_splitW hpre).2
  obtain ⟨d, r, rfl, h1, h2⟩ := hasAllW_cons hsh
  obtain rfl := hasAllW_nil h2
  obtain ⟨xs, rfl, h3⟩ := hasW_list h1
  obtain ⟨ns, rfl⟩ := items_int h3
  have hlen : ns.length ≤ n := by
    unfold OpenLaw.pre at hc
    have h4 : (WTm.not (.lt (.lit (.int (n : Int))) (.len (.arg 0)))).holds [] { args := [.list (ns.map .int)] } = true := by
      have h4 := (holds_andW hc).1
      rw [hn] at h4
      exact h4
    have h5 := condW_of h4 (w_not (w_lt w_lit (w_len_list (w_arg rfl))))
    rw [List.length_map] at h5
    refine Nat.le_of_not_lt fun q => ?_
    have q' : (n : Int) < ((ns.length : Nat) : Int) := by omega
    first
      | (rw [decide_eq_true q'] at h5; exact absurd h5 (by decide))
      | (simp at h5; omega)
  cases hwl with
  | cons w1 w2 =>
    cases w2
    cases w1 with
    | list ho hall => exact ⟨_, _, ns, rfl, rfl, ho, ints_of_wellAll ns _ hall, hlen⟩

theorem post_true (l : OpenLaw) (args : List WData) : l.row.toRowW.claim.post args (.bool true) args = true :=
  postW_of (r := l.row.toRowW) (X := (true == true))
    (show WShape.has [] (.bool true) .bool = true by first | rfl | decide | simp [WShape.has, WShape.arms, WShape.armsAll])
    (show (WTm.eq .res (.lit (.bool true))).value [] { args := args, res := some (.bool true), after := args } = some (.bool (true == true)) from w_eq_bool (w_res rfl) w_lit) rfl

/-! ### the attachment: holds_open's last premise (the goal 'hc' behind k_head) from a wpAny of the law's body -/
/-- the same from a codeAny of the CALL (for a layer whose function contracts speak of calls) -/
theorem attach_call {l : OpenLaw} {n : Nat} {q : Program} {loose : List Str} {XP : (Str → Option Value) → Heap → Prop} {YP : World → Heap → Prop} {d : DefRec}
    (hn : l.most = some n) (hdf : d.params.defaults = [])
    (call : ∀ (w : World) (s₀ s₁ : Shared) (mg mb : Str → Option Value) (fa : Addr) (o : Obj) (pm cd doc : Value) (a : Addr) (vs : List Value) (ns : List Int),
      Ground q loose [] XP w s₀ mg mb s₁.heap → YP w s₁.heap →
      s₁.heap.get? fa = some o → o.data = .func (docDef d.name d.params d.body d.scope pm cd doc) → s₁.heap.CodeRec cd d.name → mg d.name = some (.ref fa) →
      s₁.heap.get? a = some { cls := .type "list", data := .seq vs.toArray } → IntsAre vs ns → ns.length ≤ n → s₁.gens = #[] →
      codeAny (model l.prog w) callerA (.call (.ref fa) ⟨[.ref a], []⟩) (fun r s' => r = .ok (.ret (.bool true)) ∧ OldK s₁.heap s'.heap ∧ s'.os = s₁.os ∧ AllBare s'.gens) s₁) :
    WalkO q loose XP YP l.row.toRowW d [] (fun f vs => PySem.call f vs) := by
  intro w s₀ s₁ mg mb G Y fa o pm cd doc dV kV ho hd hcd hD hmg hg args vals as hpre hlay hrd hwl hlo
  obtain rfl : dV = .none := Dflts.none hD hdf
  obtain rfl : kV = .none := Dflts.noKw hD
  obtain ⟨a, vs, ns, rfl, rfl, hobj, hints, hlen⟩ := script_of hn hpre hwl
  refine enter_call (codeAny_mono (call w s₀ s₁ mg mb fa o pm cd doc a vs ns G Y ho (fd_plain hd) hcd hmg hobj hints hlen hg) fun r s' hq => ?_)
  obtain ⟨rfl, h2, h3, h4⟩ := hq
  exact ⟨.inl ⟨.bool true, .bool true, [], rfl, fun _ => rfl, .bool true, post_true l _, fun _ => ⟨List.Pairwise.nil, fun _ hm => (nomatch hm)⟩⟩, h2, h3, h4⟩

/-! ### rules over ANY heap (no ledger) from facts about the written part K: the library's own take a ledger (News) for what they write -/
section
variable {prog : Program} {w : World} {A : Around} {E : Value → Shared → Prop} {s : Shared} {K : Frag}

/-! the whole heap as the ledger: makes every rule that writes through a ledger a rule over any heap -/
def ledger (h : Heap) (L d : Addr) : List (Addr × Obj) := (List.range h.objs.size).filterMap fun a => if a = L ∨ a = d then none else (h.get? a).map fun o => (a, o)
end
end Att

namespace L2
open PySem PySem.Spec PyProof.Rows

theorem vals_ints : ∀ {vs : List Value} {ns : List Int}, IntsAre vs ns → Vals (ns.map V.int) vs
  | _, _, .nil => .nil
  | _, _, .cons n t h => .cons ⟨t, rfl⟩ (vals_ints h)

/-- nothing is tracked but the script, known to the object (or it is an object of the module) -/
def Only (H : Hp) : Prop := ∀ b, H b = none ∨ ∃ o xs, H b = some (.frz o (.lst xs))

/-- THE HEAD: the law's promise, at the heap behind the top. F, the promise of the law's def, may use that base is part of the heap (so K.In base, base.Ns mainGlobals mg stand in Mod) -/
theorem law_call {P : Program} {w : World} {K : PySem.W.Frag} {mg mb : Str → Option Value} {CX : CXT} {k : Nat} {fa a : Addr} {fd : FuncData} {x : Str} {sp : Sp} {s₁ : Shared} {vs : List Value} {ns : List Int}
    (KX : K.In s₁.heap) (hns : s₁.heap.Ns mainGlobals mg) (hb : s₁.heap.Ns builtinsNs mb) (hbb : ∀ x : Str, x ≠ "__name__" → mb x = bootBuiltins x) (hlim : s₁.heap.NoLimit) (hg : s₁.gens = #[])
    (ha : s₁.heap.get? a = some { cls := .type "list", data := .seq vs.toArray }) (hi : IntsAre vs ns) (hl : ns.length ≤ sizeLine) (hr : Room k callerA)
    (F : ∀ base : Heap, K.In base → base.Ns mainGlobals mg → FnOk P w K mg base CX k fa fd [x] sp) (hbind : ∀ (s : Shared) (u : Value), BindsTo s fd ⟨[u], []⟩ [(x, u)])
    (hsp : ∀ H : Hp, Only H → SqL K H a (ns.map V.int) → sp [.ref a] H (fun v _ => v = .bl true) fun _ _ _ => False)
    (hCX : ∀ H e s', CX [] H s₁ (fun _ _ _ => False) e s' → False) :
    codeAny (model P w) callerA (.call (.ref fa) ⟨[.ref a], []⟩) (fun r s' => r = .ok (.ret (.bool true)) ∧ OldK s₁.heap s'.heap ∧ s'.os = s₁.os ∧ AllBare s'.gens) s₁ := by
  have rv := vals_ints hi
  have lenV := hi.length
  -- from an abstract heap in which nothing but the script may be tracked
  have core : ∀ H : Hp, Only H → SqL K H a (ns.map V.int) → HOk P w H s₁.heap → (∀ b, H b ≠ none → b = a) → (H a ≠ none → K.lookup a = none) →
      codeAny (model P w) callerA (.call (.ref fa) ⟨[.ref a], []⟩) (fun r s' => r = .ok (.ret (.bool true)) ∧ OldK s₁.heap s'.heap ∧ s'.os = s₁.os ∧ AllBare s'.gens) s₁ := by
    intro H hO hS hok hA hK
    have base_of : ∀ {b : Addr} {o : Obj}, s₁.heap.get? b = some o → H b = none → (hidT s₁.heap H).get? b = some o := fun e n => hidT_get e n
    have noA : ∀ {b : Addr} {o : Obj} {es : Array DictEntry} {ep : Nat}, s₁.heap.get? b = some o → o.data = .dict es ep → H b = none := fun {b o es ep} e d => by
      cases q : H b with
      | none => rfl
      | some u =>
        have e' : b = a := hA b (by rw [q]; simp)
        subst e'
        rw [ha] at e; cases e
        have d' : Data.seq vs.toArray _ = Data.dict es ep := d
        cases d'
    have nsK : ∀ {b : Addr} {m : Str → Option Value}, s₁.heap.Ns b m → (hidT s₁.heap H).Ns b m := fun {b m} ⟨o, es, ep, e, d, r⟩ => ⟨o, es, ep, base_of e (noA e d), d, r⟩
    have hKb : K.In (hidT s₁.heap H) := fun b o e => base_of (KX b o e) (by
      cases q : H b with
      | none => rfl
      | some u =>
        have e' : b = a := hA b (by rw [q]; simp)
        subst e'
        rw [hK (by rw [q]; simp)] at e; cases e)
    have hM : Mod K mg (hidT s₁.heap H) := ⟨hKb, nsK hns, ⟨mb, nsK hb, hbb⟩, let ⟨mc, h1, h2⟩ := hlim; ⟨mc, nsK h1, h2⟩⟩
    have e0 : Env0 P w K mg (hidT s₁.heap H) callerA [] s₁ H := ⟨rfl, hM, fun b o e => of_hidT e, Nat.le_of_eq (hidT_size _ _), trivial, fun b hb => absurd (show b ∈ ([] : List Addr) from hb) (by simp), hok, .of_eq hg⟩
    refine codeAny_mono ((F _ hKb (nsK hns)).run callerA [] s₁ H ⟨[.ref a], []⟩ [.ref a] [.ref a] _ _ hr e0 (hbind s₁ (.ref a)) (.cons rfl .nil) (hsp H hO hS)) fun r s' h => ?_
    cases r with
    | error e => exact (hCX H e s' h).elim
    | ok fl =>
      cases fl with
      | next => exact False.elim h
      | brk => exact False.elim h
      | cont => exact False.elim h
      | ret u =>
        obtain ⟨v, H', os, bare, un, hok', r', q⟩ := h
        have q' : v = .bl true := q
        subst q'
        obtain rfl : u = Value.bool true := r'
        refine ⟨rfl, OldK.of_keep fun b o e => ?_, os, bare⟩
        cases q : H b with
        | none => exact un.keep b o e q (by intro z; exact absurd (show b ∈ ([] : List Addr) from z) (by simp)) (by simp)
        | some u =>
          rcases hO b with z | ⟨ob, xs, z⟩
          · rw [q] at z; cases z
          · have z2 := un.frzs b ob _ z
            obtain ⟨e1, _⟩ := hok b _ z
            obtain ⟨e2, _⟩ := hok' b _ z2
            rw [e] at e1; cases e1
            exact e2
  cases hk : K.lookup a with
  | some o =>
    -- the script is one of the module's own objects
    have e := KX a o hk
    rw [ha] at e
    cases e
    refine core (fun _ => none) (fun _ => .inl rfl) (.inr ⟨_, vs.toArray, _, hk, rfl, rfl, rfl, by rw [List.size_toArray, lenV]; exact hl, by simpa using rv⟩) (fun b u z => by have z' : (none : Option HO) = some u := z; cases z') (fun b z => absurd rfl z) fun z => absurd rfl z
  | none =>
    refine core (fun b => if b = a then some (.frz { cls := .type "list", data := .seq vs.toArray } (.lst (ns.map V.int))) else none) (fun b => ?_) (.inl (.inr ⟨{ cls := .type "list", data := .seq vs.toArray }, if_pos rfl⟩)) (fun b u z => ?_) (fun b z => ?_) fun _ => hk
    · by_cases hb : b = a
      · exact .inr ⟨_, _, if_pos hb⟩
      · exact .inl (if_neg hb)
    · by_cases hb : b = a
      · have z' := (if_pos hb).symm.trans z
        cases z'
        subst hb
        exact ⟨ha, by rw [List.length_map]; exact hl, vs, _, rv, ha⟩
      · have z' := (if_neg hb).symm.trans z
        cases z'
    · by_cases hb : b = a
      · exact hb
      · exact absurd (if_neg hb) z
end L2

namespace L2
open PySem PySem.Spec PyProof.Rows

abbrev KOf {K : PySem.W.Frag} {h : Heap} (_ : K.In h) : PySem.W.Frag := K

/-- the goal that k_head leaves (case hc), from the law's promise. F gives the function object fd (K's own) once, then the promise over every base -/
theorem walk_of {l : PySem.W.OpenLaw} {n k : Nat} {q : Program} {loose : List Str} {XP : (Str → Option Value) → Heap → Prop} {YP : World → Heap → Prop} {d : DefRec} {K : Params → PySem.W.Frag} {CX : World → CXT} {sp : World → Sp} {x : Str}
    (hn : l.most = some n) (hn2 : n ≤ sizeLine) (hdf : d.params.defaults = []) (hr : Room k callerA)
    (hY : ∀ (w : World) (h : Heap), YP w h → (K w.params).In h)
    (F : ∀ (w : World) (mg : Str → Option Value) (fa : Addr) (h : Heap), (K w.params).In h → h.Ns mainGlobals mg → mg d.name = some (.ref fa) →
      ∃ fd : FuncData, (∀ (s : Shared) (u : Value), BindsTo s fd ⟨[u], []⟩ [(x, u)]) ∧
        ∀ base : Heap, (K w.params).In base → base.Ns mainGlobals mg → FnOk l.prog w (K w.params) mg base (CX w) k fa fd [x] (sp w))
    (hsp : ∀ (w : World) (H : Hp) (a : Addr) (ns : List Int), ns.length ≤ n → Only H → SqL (K w.params) H a (ns.map V.int) → sp w [.ref a] H (fun v _ => v = .bl true) fun _ _ _ => False)
    (hCX : ∀ (w : World) (H : Hp) (s : Shared) (e : Value) (s' : Shared), CX w [] H s (fun _ _ _ => False) e s' → False) :
    PySem.W.WalkO q loose XP YP l.row.toRowW d [] (fun f vs => PySem.call f vs) := by
  refine Att.attach_call hn hdf fun w s₀ s₁ mg mb fa o pm cd doc a vs ns G Y ho hd hcd hmg hobj hints hlen hg => ?_
  have KX := hY w _ Y
  obtain ⟨fd, hb, hF⟩ := F w mg fa _ KX G.T.g hmg
  exact law_call KX G.T.g G.T.b G.T.builtins G.T.nolimit hg hobj hints (Nat.le_trans hlen hn2) hr hF hb (fun H hO hS => hsp w H a ns hlen hO hS) fun H e s' => hCX w H s₁ e s'
/-- the same where the promise hangs on the written part alone: (sp := My.sp_law), no hole under a binder -/
theorem walk_ofK {l : PySem.W.OpenLaw} {n k : Nat} {q : Program} {loose : List Str} {XP : (Str → Option Value) → Heap → Prop} {YP : World → Heap → Prop} {d : DefRec} {K : Params → PySem.W.Frag} {CX : CXT} {sp : PySem.W.Frag → Sp} {x : Str}
    (hn : l.most = some n) (hn2 : n ≤ sizeLine) (hdf : d.params.defaults = []) (hr : Room k callerA)
    (hY : ∀ (w : World) (h : Heap), YP w h → (K w.params).In h)
    (F : ∀ (w : World) (mg : Str → Option Value) (fa : Addr) (h : Heap), (K w.params).In h → h.Ns mainGlobals mg → mg d.name = some (.ref fa) →
      ∃ fd : FuncData, (∀ (s : Shared) (u : Value), BindsTo s fd ⟨[u], []⟩ [(x, u)]) ∧
        ∀ base : Heap, (K w.params).In base → base.Ns mainGlobals mg → FnOk l.prog w (K w.params) mg base CX k fa fd [x] (sp (K w.params)))
    (hsp : ∀ (K : PySem.W.Frag) (H : Hp) (a : Addr) (ns : List Int), ns.length ≤ n → Only H → SqL K H a (ns.map V.int) → sp K [.ref a] H (fun v _ => v = .bl true) fun _ _ _ => False)
    (hCX : ∀ (H : Hp) (s : Shared) (e : Value) (s' : Shared), CX [] H s (fun _ _ _ => False) e s' → False) :
    PySem.W.WalkO q loose XP YP l.row.toRowW d [] (fun f vs => PySem.call f vs) :=
  walk_of (K := K) (CX := fun _ => CX) (sp := fun w => sp (K w.params)) hn hn2 hdf hr hY F (fun w H a ns h1 h2 h3 => hsp (K w.params) H a ns h1 h2 h3) fun _ H s e s' => hCX H s e s'
end L2

/-! SHORT WORDS over the layer: a def of the text, its body, what a loop and a test want. -/
namespace L2
open PySem PySem.Spec PyProof.Rows

/-! ### the text by places -/
def defArgs (s : Stmt) : Arguments := match s with
  | .FunctionDef _ a _ _ _ _ _ _ _ _ => a
  | _ => { posonlyargs := [], args := [], vararg := none, kwonlyargs := [], kw_defaults := [], kwarg := none, defaults := [] }
def defBody (s : Stmt) : List Stmt := match s with
  | .FunctionDef _ _ b _ _ _ _ _ _ _ => b
  | _ => []
def defScope (s : Stmt) : Scope := match s with
  | .FunctionDef _ _ _ _ _ _ sc _ _ _ => sc
  | _ => { kind := .function, names := [], isGenerator := false, isCoroutine := false }

/-! ### no exception leaves a def -/
abbrev CX0 : CXT := fun _ _ _ _ _ _ => False
abbrev E0 : XK := fun _ _ _ => False
theorem pass0 {X : Cx} : Passes CX0 X E0 := fun _ _ _ _ _ _ _ h => h.elim

/-! ### a def (or method) of the text as it stands behind the top -/
structure Fun (K : PySem.W.Frag) (x qual : Str) (st : Stmt) (f : Addr) (fd : FuncData) : Prop where
  ex : ∃ (oc : Value) (od : Option Addr) (kV doc pm : Value) (an : Option Addr) (cdv ct : Value) (osl : Array (Option Value)),
    fd = PySem.W.fnOf x qual (defArgs st) (defBody st) (defScope st) .none kV doc pm an cdv ct ∧ K.lookup f = some ⟨oc, od, .func fd, osl⟩ ∧ PySem.W.codeIn K cdv qual = true
  kp : PySem.W.keepIn K (.ref f) = true
section
variable {P : Program} {w : World} {K : PySem.W.Frag} {mg : Str → Option Value} {base : Heap}
/-- THE RULE for a def: its body as a term of rules, and the reading of that term -/
theorem Fun.ok {x qual : Str} {st : Stmt} {f : Addr} {fd : FuncData} {N ps : List Str} {k : Nat} {sp : Sp} (F : Fun K x qual st f fd) (S : FnScope N ps (defScope st)) (len : ∀ vs H Q E, sp vs H Q E → vs.length = ps.length)
    (hbody : ∀ (cdv : Value) (A : Around) (outer : List Env) (s : Shared) (H : Hp) (vs : List V) (Q : VK) (E : XK), Room k (A.deeper (envOfC qual (defScope st) s.heap.objs.size f cdv)) → sp vs H Q E →
      ∃ t, PSs (cxOf CX0 P w K mg base N qual (defScope st) f cdv A outer s H E).nox (defBody st) t ∧ t { nx := fun _ H' => Q .non H', rt := Q } (start N vs) H) : FnOk P w K mg base CX0 (k + 1) f fd ps sp := by
  obtain ⟨oc, od, kV, doc, pm, an, cdv, ct, osl, rfl, lk, hcd⟩ := F.ex
  refine fn_of lk hcd S len fun A outer s H vs Q E hr hsp => ?_
  obtain ⟨t, h, q⟩ := hbody cdv A outer s H vs Q E hr hsp
  exact ⟨t, h.nox, q⟩
/-- how its arguments bind (no defaults): h is «fun _ _ _ _ _ _ us hl => match us, hl with | [_, _], _ => rfl», one _ a parameter -/
theorem Fun.binds {x qual : Str} {st : Stmt} {f : Addr} {fd : FuncData} {ps : List Str} (F : Fun K x qual st f fd)
    (h : ∀ (kV doc pm : Value) (an : Option Addr) (cdv ct : Value) (us : List Value), us.length = ps.length → bindArgs (PySem.W.fnOf x qual (defArgs st) (defBody st) (defScope st) .none kV doc pm an cdv ct) ⟨us, []⟩ = pure (ps.zip us)) : Binds K fd ps [] := by
  obtain ⟨oc, od, kV, doc, pm, an, cdv, ct, osl, rfl, lk, hcd⟩ := F.ex
  exact .all (h kV doc pm an cdv ct)
theorem fun_mk {x qual : Str} {st : Stmt} {f : Addr} {oc : Value} {od an : Option Addr} {osl : Array (Option Value)} {kV doc pm cdv ct : Value} (l : K.lookup f = some ⟨oc, od, .func (PySem.W.fnOf x qual (defArgs st) (defBody st) (defScope st) .none kV doc pm an cdv ct), osl⟩)
    (c : PySem.W.codeIn K cdv qual = true) (k : PySem.W.keepIn K (.ref f) = true) : Fun K x qual st f (PySem.W.fnOf x qual (defArgs st) (defBody st) (defScope st) .none kV doc pm an cdv ct) := ⟨⟨oc, od, kV, doc, pm, an, cdv, ct, osl, rfl, l, c⟩, k⟩
end
/-! ### expressions in short: the name that stands in the i-th slot -/
section
variable {X : Cx}
theorem pv (i : Nat) {x : Str} {pos : Pos} (hN : X.N[i]? = some x := by rfl) (hv : Vis X.env.scope x := by first | exact Or.inl rfl | exact Or.inr (Or.inl rfl) | exact Or.inr (Or.inr rfl)) (hd : (x == ("__debug__" : Str)) = false := by decide)
    (hcd : (x == ("__classdict__" : Str)) = false := by decide) : PE X (.Name x pos) (tVar i) := pe_var hN hv hd hcd
end

/-! ### tests -/
theorem ite2 {c A B : Prop} [Decidable c] (h1 : c → A) (h2 : ¬ c → B) : if c then A else B := by
  by_cases h : c
  · rw [if_pos h]
    exact h1 h
  · rw [if_neg h]
    exact h2 h
/-! ### heaps -/
/-- all that was tracked is as it was -/
def Same (H H' : Hp) : Prop := ∀ b o, H b = some o → H' b = some o
theorem Same.refl (H : Hp) : Same H H := fun _ _ h => h
theorem Same.trans {H H1 H2 : Hp} (a : Same H H1) (b : Same H1 H2) : Same H H2 := fun c o h => b c o (a c o h)
theorem Same.free {H H' : Hp} (e : Same H H') {l : Addr} (h : H' l = Option.none) : H l = Option.none := by
  cases q : H l with
  | none => rfl
  | some o =>
    rw [e l o q] at h
    cases h
theorem Same.seq {K : PySem.W.Frag} {H H' : Hp} {a : Addr} {xs : List V} (e : Same H H') (h : SqL K H a xs) : SqL K H' a xs := by
  rcases h with (h | ⟨o, h⟩) | h
  · exact .inl (.inl (e _ _ h))
  · exact .inl (.inr ⟨o, e _ _ h⟩)
  · exact .inr h

end L2
namespace L2
open PySem PySem.Spec PyProof.Rows

/-! ### lists of pairs as tables -/
section
variable {κ : Type} [DecidableEq κ]
def valV (kvs : List (κ × V)) (k : κ) : Option V := (kvs.find? fun kv => decide (kv.1 = k)).map (·.2)
/-- in its place, or at the end -/
def putK (kvs : List (κ × V)) (k : κ) (v : V) : List (κ × V) :=
  if (kvs.any fun kv => decide (kv.1 = k)) = true then kvs.map (fun kv => if kv.1 = k then (kv.1, v) else kv) else kvs ++ [(k, v)]
def dropK (kvs : List (κ × V)) (k : κ) : List (κ × V) := kvs.filter fun kv => decide (kv.1 ≠ k)

theorem valV_pos {p : κ × V} {r : List (κ × V)} {k : κ} (e : p.1 = k) : valV (p :: r) k = some p.2 := by simp [valV, List.find?_cons, e]
theorem valV_neg {p : κ × V} {r : List (κ × V)} {k : κ} (e : ¬ p.1 = k) : valV (p :: r) k = valV r k := by simp [valV, List.find?_cons, e]
theorem valV_any (k : κ) : ∀ kvs : List (κ × V), (kvs.any fun kv => decide (kv.1 = k)) = (valV kvs k).isSome
  | [] => rfl
  | p :: r => by
    rw [List.any_cons]
    by_cases e : p.1 = k
    · simp only [valV_pos e, decide_eq_true e, Bool.true_or, Option.isSome_some]
    · rw [valV_neg e, decide_eq_false e, Bool.false_or]; exact valV_any k r
theorem valV_map (k j : κ) (y : V) : ∀ kvs : List (κ × V), valV (kvs.map fun kv => if kv.1 = k then (kv.1, y) else kv) j = (valV kvs j).map fun x => if j = k then y else x
  | [] => rfl
  | p :: r => by
    have ih := valV_map k j y r
    rw [List.map_cons]
    by_cases h : p.1 = k
    · rw [if_pos h]
      by_cases e : p.1 = j
      · rw [valV_pos (p := (p.1, y)) e, valV_pos e, Option.map_some, if_pos (e.symm.trans h)]
      · rw [valV_neg (p := (p.1, y)) e, valV_neg e, ih]
    · rw [if_neg h]
      by_cases e : p.1 = j
      · rw [valV_pos (p := p) e, valV_pos e, Option.map_some, if_neg (fun z => h (e.trans z))]
      · rw [valV_neg (p := p) e, valV_neg e, ih]
theorem valV_snoc (k j : κ) (y : V) : ∀ kvs : List (κ × V), valV kvs k = none → valV (kvs ++ [(k, y)]) j = if j = k then some y else valV kvs j
  | [], _ => by
    by_cases e : k = j
    · rw [if_pos e.symm]; exact valV_pos (p := (k, y)) e
    · rw [if_neg (fun z => e z.symm)]; exact valV_neg (p := (k, y)) e
  | p :: r, hn => by
    rw [List.cons_append]
    have hk : ¬ p.1 = k := fun z => by rw [valV_pos z] at hn; cases hn
    rw [valV_neg hk] at hn
    have ih := valV_snoc k j y r hn
    by_cases e : p.1 = j
    · rw [valV_pos e, valV_pos e, if_neg (fun z => hk (e.trans z))]
    · rw [valV_neg e, valV_neg e, ih]
theorem valV_put (kvs : List (κ × V)) (k j : κ) (y : V) : valV (putK kvs k y) j = if j = k then some y else valV kvs j := by
  unfold putK
  by_cases a : (kvs.any fun kv => decide (kv.1 = k)) = true
  · rw [if_pos a, valV_map]
    rw [valV_any] at a
    by_cases e : j = k
    · obtain ⟨x, hx⟩ := Option.isSome_iff_exists.mp a
      rw [if_pos e, e, hx, Option.map_some, if_pos rfl]
    · rw [if_neg e]
      cases valV kvs j with
      | none => rfl
      | some x => rw [Option.map_some, if_neg e]
  · rw [if_neg a]
    refine valV_snoc k j y kvs ?_
    rw [valV_any] at a
    cases q : valV kvs k with
    | none => rfl
    | some x => rw [q] at a; exact (a rfl).elim
theorem length_putK (kvs : List (κ × V)) (k : κ) (v : V) : (putK kvs k v).length ≤ kvs.length + 1 := by
  unfold putK
  split
  · rw [List.length_map]; omega
  · rw [List.length_append, List.length_cons, List.length_nil]; omega
theorem RelO.isSome_eq {o : Option V} {u : Option Value} (r : RelO o u) : o.isSome = u.isSome := by
  cases o with
  | none => cases u with
    | none => rfl
    | some _ => exact (show False from r).elim
  | some _ => cases u with
    | none => exact (show False from r).elim
    | some _ => rfl
theorem RelO.getD {o : Option V} {u : Option Value} {d : V} {d' : Value} (r : RelO o u) (rd : RelV d d') : RelV (o.getD d) (u.getD d') := by
  cases o with
  | none => cases u with
    | none => exact rd
    | some _ => exact (show False from r).elim
  | some _ => cases u with
    | none => exact (show False from r).elim
    | some _ => exact r

/-- raw tables of the same keys -/
theorem KV.val {kvs : List (κ × V)} {vs : List (κ × Value)} (r : KV kvs vs) (k : κ) : RelO (valV kvs k) (valueAt vs k) := by
  unfold KV at r
  induction r with
  | nil => exact True.intro
  | @cons p q ps qs h t ih =>
    obtain ⟨h1, h2⟩ := h
    by_cases e : p.1 = k
    · have e' : q.1 = k := h1.symm.trans e
      have b : valueAt (q :: qs) k = some q.2 := by simp [valueAt, List.find?_cons, e']
      rw [valV_pos e, b]; exact h2
    · have e' : ¬ q.1 = k := fun z => e (h1.trans z)
      have b : valueAt (q :: qs) k = valueAt qs k := by simp [valueAt, List.find?_cons, e']
      rw [valV_neg e, b]; exact ih
theorem KV.any {kvs : List (κ × V)} {vs : List (κ × Value)} (r : KV kvs vs) (k : κ) : (kvs.any fun kv => decide (kv.1 = k)) = vs.any fun kv => decide (kv.1 = k) := by
  unfold KV at r
  induction r with
  | nil => rfl
  | cons h t ih => rw [List.any_cons, List.any_cons, ih, h.1]
theorem KV.repl {kvs : List (κ × V)} {vs : List (κ × Value)} (r : KV kvs vs) (k : κ) {y : V} {u : Value} (ry : RelV y u) :
    KV (kvs.map fun kv => if kv.1 = k then (kv.1, y) else kv) (vs.map fun kv => if kv.1 = k then (kv.1, u) else kv) := by
  unfold KV at r ⊢
  induction r with
  | nil => exact .nil
  | @cons p q ps qs h t ih =>
    rw [List.map_cons, List.map_cons]
    refine .cons ?_ ih
    obtain ⟨h1, h2⟩ := h
    by_cases e : p.1 = k
    · rw [if_pos e, if_pos (h1.symm.trans e)]; exact ⟨h1, ry⟩
    · rw [if_neg e, if_neg (fun z => e (h1.trans z))]; exact ⟨h1, h2⟩
theorem KV.put {kvs : List (κ × V)} {vs : List (κ × Value)} (r : KV kvs vs) (k : κ) {y : V} {u : Value} (ry : RelV y u) : KV (putK kvs k y) (stored vs k u) := by
  unfold putK stored
  rw [r.any k]
  by_cases e : (vs.any fun kv => decide (kv.1 = k)) = true
  · rw [if_pos e, if_pos e]; exact r.repl k ry
  · rw [if_neg e, if_neg e]; exact Paired.snoc r ⟨rfl, ry⟩
theorem KV.drop {kvs : List (κ × V)} {vs : List (κ × Value)} (r : KV kvs vs) (k : κ) : KV (dropK kvs k) (without vs k) := by
  unfold KV at r ⊢
  unfold dropK without
  induction r with
  | nil => exact .nil
  | @cons p q ps qs h t ih =>
    obtain ⟨h1, h2⟩ := h
    rw [List.filter_cons, List.filter_cons]
    by_cases e : p.1 = k
    · have a : ¬ decide (p.1 ≠ k) = true := by simp [e]
      have b : ¬ decide (q.1 ≠ k) = true := by simp [h1.symm.trans e]
      rw [if_neg a, if_neg b]; exact ih
    · have e' : ¬ q.1 = k := fun z => e (h1.trans z)
      have a : decide (p.1 ≠ k) = true := by simp [e]
      have b : decide (q.1 ≠ k) = true := by simp [e']
      rw [if_pos a, if_pos b]; exact .cons ⟨h1, h2⟩ ih
theorem KV.keys {kvs : List (κ × V)} {vs : List (κ × Value)} (r : KV kvs vs) : kvs.map (·.1) = vs.map (·.1) := by
  unfold KV at r
  induction r with
  | nil => rfl
  | cons h t ih => rw [List.map_cons, List.map_cons, ih, h.1]
theorem KV.length {kvs : List (κ × V)} {vs : List (κ × Value)} (r : KV kvs vs) : kvs.length = vs.length := Paired.length r
end


/-! ### a tracked dict, its keys ints and texts or tuples of these -/
theorem kV_is {P : Program} {w : World} {k : Key} {u : Value} (r : RelV (kV k) u) : (mixKind P w).is k u = true := by
  cases k with
  | inl i => obtain ⟨t, e⟩ := (show ∃ t, u = Value.int i t from r); subst e; exact mixKind_int P w i t
  | inr x => obtain ⟨t, e⟩ := (show ∃ t, u = Value.str x t from r); subst e; exact mixKind_str P w x t
theorem items_are {P : Program} {w : World} : ∀ {ks : List Key} {us : List Value}, Vals (ks.map kV) us → ItemsAre (mixKind P w) ks us
  | [], _, r => by rw [List.map_nil] at r; cases r; exact .nil
  | k :: ks, _, r => by
    rw [List.map_cons] at r
    cases r with
    | cons h t => exact .cons (kV_is h) (items_are t)

/-- raw entries of a dict with tuple keys -/
abbrev KT (H : Hp) : List (List Key × V) → List (List Key × Addr × Value) → Prop := Paired fun p q => p.1 = q.1 ∧ H q.2.1 = some (.tup (p.1.map kV)) ∧ RelV p.2 q.2.2
theorem KT.val {H : Hp} {kvs : List (List Key × V)} {xs : List (List Key × Addr × Value)} (r : KT H kvs xs) (k : List Key) : RelO (valV kvs k) ((atKey xs k).map (·.2)) := by
  induction r with
  | nil => exact True.intro
  | @cons p q ps qs h t ih =>
    obtain ⟨h1, _, h2⟩ := h
    by_cases e : p.1 = k
    · have e' : q.1 = k := h1.symm.trans e
      have b : atKey (q :: qs) k = some q.2 := by simp [atKey, List.find?_cons, e']
      rw [valV_pos e, b]; exact h2
    · have e' : ¬ q.1 = k := fun z => e (h1.trans z)
      have b : atKey (q :: qs) k = atKey qs k := by simp [atKey, List.find?_cons, e']
      rw [valV_neg e, b]; exact ih
theorem KT.repl {H : Hp} {kvs : List (List Key × V)} {xs : List (List Key × Addr × Value)} (r : KT H kvs xs) (k : List Key) {y : V} {u : Value} (ry : RelV y u) :
    KT H (kvs.map fun kv => if kv.1 = k then (kv.1, y) else kv) (xs.map (putAt k u)) := by
  induction r with
  | nil => exact .nil
  | @cons p q ps qs h t ih =>
    rw [List.map_cons, List.map_cons]
    refine .cons ?_ ih
    obtain ⟨h1, h2, h3⟩ := h
    unfold putAt
    by_cases e : p.1 = k
    · rw [if_pos e, if_pos (h1.symm.trans e)]; exact ⟨h1, h2, ry⟩
    · rw [if_neg e, if_neg (fun z => e (h1.trans z))]; exact ⟨h1, h2, h3⟩
theorem KT.put {H : Hp} {kvs : List (List Key × V)} {xs : List (List Key × Addr × Value)} (r : KT H kvs xs) (k : List Key) {b : Addr} {y : V} {u : Value} (hb : H b = some (.tup (k.map kV))) (ry : RelV y u) :
    KT H (putK kvs k y) (storedH xs k b u) := by
  have e : (kvs.any fun kv => decide (kv.1 = k)) = (atKey xs k).isSome := by
    rw [valV_any, (r.val k).isSome_eq, Option.isSome_map]
  unfold putK storedH
  rw [e]
  by_cases q : (atKey xs k).isSome = true
  · rw [if_pos q, if_pos q]; exact r.repl k ry
  · rw [if_neg q, if_neg q]; exact Paired.snoc r ⟨rfl, hb, ry⟩
theorem KT.keeps {H H' : Hp} {kvs : List (List Key × V)} {xs : List (List Key × Addr × Value)} (r : KT H kvs xs) (ht : ∀ b ys, H b = some (.tup ys) → H' b = some (.tup ys)) : KT H' kvs xs :=
  Paired.mapP r fun _ _ z => ⟨z.1, ht _ _ z.2.1, z.2.2⟩

section
variable {P : Program} {w : World} {H : Hp} {h : Heap} {a : Addr}
theorem rd_of {u : HO} (ok : HOk P w H h) (e : Rd H a u) : ObjOk P w H h a u := e.ok ok
theorem dk_rd {kvs : List (Key × V)} (ok : HOk P w H h) (e : Rd H a (.dK kvs)) : kvs.length ≤ sizeLine ∧ (a == sysModules) = false ∧ ∃ vs, KV kvs vs ∧ h.DictOf (mixKind P w) a vs :=
  show ObjOk P w H h a (.dK kvs) from rd_of ok e
theorem dk_of {kvs : List (Key × V)} (ok : HOk P w H h) (e : H a = some (.dK kvs)) : kvs.length ≤ sizeLine ∧ (a == sysModules) = false ∧ ∃ vs, KV kvs vs ∧ h.DictOf (mixKind P w) a vs := dk_rd ok (.inl e)
/-- a tracked tuple of ints and texts is a key -/
theorem key_of {ks : List Key} (ok : HOk P w H h) (e : H a = some (.tup (ks.map kV))) : (tupleKind (mixKind P w)).is h ks a := by
  obtain ⟨_, its, r, o, h1, h2, n, h3⟩ := (show ObjOk P w H h a (.tup (ks.map kV)) from ok a _ e)
  exact ⟨o, its.toArray, n, h1, h2, h3, by simpa using items_are r⟩
theorem dt_rd {kvs : List (List Key × V)} (ok : HOk P w H h) (e : Rd H a (.dT kvs)) : kvs.length ≤ sizeLine ∧ (a == sysModules) = false ∧
    ∃ xs, KT H kvs xs ∧ h.DictOfH (tupleKind (mixKind P w)) a xs := by
  obtain ⟨z, y, xs, r, o, es, ep, h1, h2, h3, h4, h5⟩ := (show ObjOk P w H h a (.dT kvs) from rd_of ok e)
  refine ⟨z, y, xs, r, o, es, ep, h1, h2, h3, h4, fun x hx => ?_, h5⟩
  have all : ∀ {l : List (List Key × V)} {m : List (List Key × Addr × Value)}, KT H l m → ∀ x ∈ m, (tupleKind (mixKind P w)).is h x.1 x.2.1 := by
    intro l m q
    induction q with
    | nil => intro x hx; exact nomatch hx
    | @cons p q ps qs hq t ih =>
      intro x hx
      rcases List.mem_cons.mp hx with e | hx
      · subst e
        exact key_of ok (by rw [← hq.1]; exact hq.2.1)
      · exact ih x hx
  exact all r x hx
theorem dt_of {kvs : List (List Key × V)} (ok : HOk P w H h) (e : H a = some (.dT kvs)) : kvs.length ≤ sizeLine ∧ (a == sysModules) = false ∧
    ∃ xs, KT H kvs xs ∧ h.DictOfH (tupleKind (mixKind P w)) a xs := dt_rd ok (.inl e)
end

/-- what the dict at a holds at the key y -/
def DGet (H : Hp) (a : Addr) (y : V) (r : Option V) : Prop :=
  (∃ kvs k, Rd H a (.dK kvs) ∧ y = kV k ∧ r = valV kvs k) ∨ ∃ kvs k b, Rd H a (.dT kvs) ∧ y = .ref b ∧ H b = some (.tup (k.map kV)) ∧ r = valV kvs k
/-- the heap behind a[y] = v -/
def DPut (H : Hp) (a : Addr) (y v : V) (H' : Hp) : Prop :=
  (∃ kvs k, H a = some (.dK kvs) ∧ y = kV k ∧ kvs.length < sizeLine ∧ H' = upd H a (.dK (putK kvs k v))) ∨
  ∃ kvs k b, H a = some (.dT kvs) ∧ y = .ref b ∧ H b = some (.tup (k.map kV)) ∧ kvs.length < sizeLine ∧ H' = upd H a (.dT (putK kvs k v))
theorem DGet.k {H : Hp} {a : Addr} {kvs : List (Key × V)} {k : Key} (e : H a = some (.dK kvs)) : DGet H a (kV k) (valV kvs k) := .inl ⟨kvs, k, .inl e, rfl, rfl⟩
theorem DGet.t {H : Hp} {a b : Addr} {kvs : List (List Key × V)} {k : List Key} (e : H a = some (.dT kvs)) (eb : H b = some (.tup (k.map kV))) : DGet H a (.ref b) (valV kvs k) := .inr ⟨kvs, k, b, .inl e, rfl, eb, rfl⟩
theorem DPut.k {H : Hp} {a : Addr} {kvs : List (Key × V)} {k : Key} {v : V} (e : H a = some (.dK kvs)) (hl : kvs.length < sizeLine) : DPut H a (kV k) v (upd H a (.dK (putK kvs k v))) := .inl ⟨kvs, k, e, rfl, hl, rfl⟩
theorem DPut.t {H : Hp} {a b : Addr} {kvs : List (List Key × V)} {k : List Key} {v : V} (e : H a = some (.dT kvs)) (eb : H b = some (.tup (k.map kV))) (hl : kvs.length < sizeLine) :
    DPut H a (.ref b) v (upd H a (.dT (putK kvs k v))) := .inr ⟨kvs, k, b, e, rfl, eb, hl, rfl⟩


section
variable {X : Cx} {pins : List (Addr × Obj)} {σ : St} {H : Hp} {s : Shared} {a : Addr} {y v : V} {u r : Value} {o : Option V} {A : Around} {E : Value → Shared → Prop}

theorem Inv.big (I : Inv X pins σ H s) : sysModules < s.heap.objs.size := by
  have h : mainGlobals < s.heap.objs.size := (I.mod.glob.keeps I.bk).lt
  exact Nat.lt_trans (by decide) h

/-- d[y], there -/
theorem d_getItem {Q : Value → Shared → Prop} (hu : A.units + 1 < cLine) (I : Inv X pins σ H s) (g : DGet H a y (some v)) (ry : RelV y u) (h : ∀ w' s', Inv X pins σ H s' → RelV v w' → Q w' s') :
    wpAny (model X.prog X.w) A (getItem (.ref a) u) Q E s := by
  rcases g with ⟨kvs, k, e, ey, l⟩ | ⟨kvs, k, b, e, ey, eb, l⟩
  · subst ey
    obtain ⟨z, hd, vs, rel, dd⟩ := dk_rd I.hok e
    obtain ⟨w', hw, rw'⟩ := RelO.some_of (v := v) (o := valueAt vs k) (by rw [l]; exact rel.val k)
    exact wpAny_getItem_of (kV_is ry) dd.mapOf hw (h w' _ (I.tok _) rw')
  · subst ey
    cases (show u = Value.ref b from ry)
    obtain ⟨z, hd, xs, rel, dd⟩ := dt_rd I.hok e
    obtain ⟨w', hw, rw'⟩ := RelO.some_of (v := v) (o := (atKey xs k).map (·.2)) (by rw [l]; exact rel.val k)
    obtain ⟨p, hp, hp2⟩ := Option.map_eq_some_iff.mp hw
    refine wpAny_getItem_heap (tupleKind_room_in1 hu) (key_of I.hok eb) dd hp ?_
    rw [hp2]
    exact h w' _ (I.tok _) rw'
/-- y in d -/
theorem d_in {Q : Value → Shared → Prop} (hu : A.units + 1 < cLine) (I : Inv X pins σ H s) (g : DGet H a y o) (ry : RelV y u) (h : ∀ s', Inv X pins σ H s' → Q (.bool o.isSome) s') :
    wpAny (model X.prog X.w) A (compareOp .In u (.ref a)) Q E s := by
  rcases g with ⟨kvs, k, e, ey, l⟩ | ⟨kvs, k, b, e, ey, eb, l⟩
  · subst ey
    obtain ⟨z, hd, vs, rel, dd⟩ := dk_rd I.hok e
    refine wpAny_in_of (kV_is ry) hd dd.mapOf ?_
    rw [← (rel.val k).isSome_eq, ← l]
    exact h _ (I.tok _)
  · subst ey
    cases (show u = Value.ref b from ry)
    obtain ⟨z, hd, xs, rel, dd⟩ := dt_rd I.hok e
    refine wpAny_in_heap (tupleKind_room_in1 hu) (key_of I.hok eb) hd dd ?_
    have q := (rel.val k).isSome_eq
    rw [Option.isSome_map] at q
    rw [← q, ← l]
    exact h _ (I.tok _)
/-- a dict's object is replaced -/
theorem d_write {h' : Heap} {t' : Nat} {ob : HO} (I : Inv X pins σ H s) (mu : Mut (H a)) (hs : Heap.SameBut a s.heap h') (he : ∃ q, h'.get? a = some q) (new : ObjOk X.prog X.w (upd H a ob) h' a ob) :
    Inv X pins σ (upd H a ob) { s with heap := h', toks := t' } :=
  I.write (x := a) (e := a) mu (.inl rfl) (fun b q hb z => (hs.2 b hb).trans z) he new
theorem dk_new {P : Program} {w : World} {H' : Hp} {h' : Heap} {kvs : List (Key × V)} {vs : List (Key × Value)} (z : kvs.length ≤ sizeLine) (hd : (a == sysModules) = false) (rel : KV kvs vs) (dd : h'.DictOf (mixKind P w) a vs) :
    ObjOk P w H' h' a (.dK kvs) := ⟨z, hd, vs, rel, dd⟩
/-- d[y] = v -/
theorem d_setItem {H' : Hp} {Q : Unit → Shared → Prop} (hu : A.units + 1 < cLine) (I : Inv X pins σ H s) (g : DPut H a y v H') (ry : RelV y u) (rv : RelV v r) (h : ∀ s', Inv X pins σ H' s' → Q () s') :
    wpAny (model X.prog X.w) A (setItem (.ref a) u r) Q E s := by
  rcases g with ⟨kvs, k, e, ey, l, eH⟩ | ⟨kvs, k, b, e, ey, eb, l, eH⟩
  · subst ey eH
    obtain ⟨z, hd, vs, rel, dd⟩ := dk_of I.hok e
    have hz : vs.length ≤ sizeLine := by rw [← rel.length]; exact z
    have hl : (putK kvs k v).length ≤ sizeLine := by have := length_putK kvs k v; omega
    refine wpAny_setItem_pairs (hsz := hz) (kV_is ry) dd fun h' dd' hs => h _ ?_
    have he : ∃ q, h'.get? a = some q := let ⟨q, _, _, hq, _⟩ := dd'; ⟨q, hq⟩
    exact d_write I (by rw [e]; exact True.intro) hs he (dk_new hl hd (rel.put k rv) dd')
  · subst ey eH
    cases (show u = Value.ref b from ry)
    obtain ⟨z, hd, xs, rel, dd⟩ := dt_of I.hok e
    have hz : xs.length ≤ sizeLine := by rw [← Paired.length rel]; exact z
    have hl : (putK kvs k v).length ≤ sizeLine := by have := length_putK kvs k v; omega
    refine wpAny_setItem_heap (hsz := hz) (tupleKind_room_in1 hu) (key_of I.hok eb) dd fun h' dd' hs => h _ ?_
    obtain ⟨q, es, ep, hq, h2, h3, h4, _, h5⟩ := dd'
    refine d_write I (by rw [e]; exact True.intro) hs ⟨q, hq⟩ ⟨hl, hd, _, (rel.put k eb rv).keeps fun c ys ec => ?_, q, es, ep, hq, h2, h3, h4, h5⟩
    rw [upd_ne (ne_of ec e (fun z => nomatch z))]
    exact ec
end

section
variable {X : Cx} {pins : List (Addr × Obj)} {σ : St} {H : Hp} {s : Shared} {a : Addr} {kvs : List (Key × V)} {k : Key} {u : Value} {A : Around} {E : Value → Shared → Prop}
/-- len(d) -/
theorem d_len {Q : Value → Shared → Prop} (I : Inv X pins σ H s) (e : Rd H a (.dK kvs)) (h : ∀ t s', Inv X pins σ H s' → Q (.int kvs.length t) s') : wpAny (model X.prog X.w) A (call (.builtin "len") [.ref a]) Q E s := by
  obtain ⟨z, hd, vs, rel, dd⟩ := dk_rd I.hok e
  refine call_len_dict hd dd (by rw [← rel.length]; rw [sizeLine_eq] at z; omega) ?_
  rw [← rel.length]
  exact h _ _ (I.tok _)
end


/-! ### readings and rules -/
theorem dict_typeIs {X : Cx} {pins : List (Addr × Obj)} {σ : St} {H : Hp} {s : Shared} {a : Addr} {y : V} {o : Option V} (I : Inv X pins σ H s) (g : DGet H a y o) : s.TypeIs (.ref a) "dict" := by
  rcases g with ⟨kvs, k, e, _, _⟩ | ⟨kvs, k, b, e, _, _, _⟩
  · obtain ⟨_, _, vs, _, dd⟩ := dk_rd I.hok e
    exact dd.typeIs
  · obtain ⟨_, _, xs, _, dd⟩ := dt_rd I.hok e
    exact dd.typeIs
section
variable {X : Cx} {o i e value : Expr} {pos pos' tpos : Pos} {td ty tv : TE}
end


/-! ### displays -/
theorem dk_empty {P : Program} {w : World} {H : Hp} (h : Heap) (hb : sysModules < h.objs.size) : ObjOk P w H (h.push { cls := .type "dict", data := .dict #[] }) h.objs.size (.dK []) :=
  ⟨Nat.zero_le _, beq_eq_false_iff_ne.mpr (Ne.symm (Nat.ne_of_lt hb)), [], .nil, Heap.DictOf.new h⟩
/-- {}, to be a dict of the kind that is wanted -/
def tDNewK : TE := fun _ H Q => ∀ p, H p = none → Q (.ref p) (upd H p (.dK []))
section
variable {X : Cx} {pos : Pos}
theorem pe_dnewK : PE X (.Dict [] [] pos) tDNewK := fun pins s σ H Q I h =>
  wpAny_Dict_empty ⟨.ref s.heap.objs.size, _, I.laid (a := s.heap.objs.size) (o := .dK []) (t' := s.toks) (fun _ _ q => Heap.get?_push_of_some _ q) (Nat.le_refl _) (dk_empty s.heap I.big), rfl, h _ (I.hok.fresh (Nat.le_refl _))⟩
end

/-! ### methods -/
/-- a method call o.m(e) of a built-in, with one argument: what must be seen of the text -/
structure M1 (X : Cx) (o : Expr) (m : Str) (apos : Pos) (e : Expr) (cpos : Pos) : Prop where
  base : attributeBase o m X.env (eval o X.env) = eval o X.env
  few : ((backTo cpos (starEach [e] X.env)).all (fun x => !x.1) && (backToKw cpos (keywordEach [] X.env)).all (fun x => x.1.isSome)
    && decide (([e] : List Expr).length + ([] : List Keyword).length + (if ([] : List Keyword).isEmpty then 0 else 1) < 30)) = true
  line : (apos.endLine == cpos.line) = true
  trees : backTo cpos (starEach [e] X.env) = [(false, eval e X.env)]
structure M2 (X : Cx) (o : Expr) (m : Str) (apos : Pos) (e f : Expr) (cpos : Pos) : Prop where
  base : attributeBase o m X.env (eval o X.env) = eval o X.env
  few : ((backTo cpos (starEach [e, f] X.env)).all (fun x => !x.1) && (backToKw cpos (keywordEach [] X.env)).all (fun x => x.1.isSome)
    && decide (([e, f] : List Expr).length + ([] : List Keyword).length + (if ([] : List Keyword).isEmpty then 0 else 1) < 30)) = true
  line : (apos.endLine == cpos.line) = true
  trees : backTo cpos (starEach [e, f] X.env) = [(false, eval e X.env), (false, eval f X.env)]

/-- a is a dict, whatever its keys -/
def IsD (H : Hp) (a : Addr) : Prop := (∃ kvs, Rd H a (.dK kvs)) ∨ ∃ kvs, Rd H a (.dT kvs)
theorem isD_at {X : Cx} {pins : List (Addr × Obj)} {σ : St} {H : Hp} {s : Shared} {a : Addr} (I : Inv X pins σ H s) (d : IsD H a) :
    s.TypeIs (.ref a) "dict" ∧ (∀ b, Value.ref a = .ref b → ∃ ob, s.heap.get? b = some ob ∧ ob.dict = none) ∧ (a == sysModules) = false := by
  rcases d with ⟨kvs, e⟩ | ⟨kvs, e⟩
  · obtain ⟨_, hd, vs, _, dd⟩ := dk_rd I.hok e
    refine ⟨dd.typeIs, fun b q => ?_, hd⟩
    cases q
    obtain ⟨ob, _, _, h1, h2, _⟩ := dd
    exact ⟨ob, h1, h2.2.1⟩
  · obtain ⟨_, hd, xs, _, dd⟩ := dt_rd I.hok e
    refine ⟨dd.typeIs, fun b q => ?_, hd⟩
    cases q
    obtain ⟨ob, _, _, h1, h2, _⟩ := dd
    exact ⟨ob, h1, h2.2.1⟩

section
variable {X : Cx} {pins : List (Addr × Obj)} {σ : St} {H : Hp} {s : Shared} {a : Addr} {y d : V} {u r : Value} {o : Option V} {A : Around} {E : Value → Shared → Prop}
/-- d.get(y, x) -/
theorem d_get2 {Q : Value → Shared → Prop} (hu : A.units + 1 < cLine) (I : Inv X pins σ H s) (g : DGet H a y o) (ry : RelV y u) (rd : RelV d r) (h : ∀ w' s', Inv X pins σ H s' → RelV (o.getD d) w' → Q w' s') :
    wpAny (model X.prog X.w) A (call (.builtin "dict.get") [.ref a, u, r]) Q E s := by
  rcases g with ⟨kvs, k, e, ey, l⟩ | ⟨kvs, k, b, e, ey, eb, l⟩
  · subst ey
    obtain ⟨z, hd, vs, rel, dd⟩ := dk_rd I.hok e
    refine call_meetsIn PySem.F.slot_dict_get dd.typeIs PySem.F.entry_dict_get (PySem.F.args_dict_get_3 _ _ _) (meets_dict_get_default (mixKind X.prog X.w) a (kV_is ry) hd r) ⟨_, dd.mapOf, h _ _ (I.tok _) ?_⟩
    rw [l]
    exact (rel.val k).getD rd
  · subst ey
    cases (show u = Value.ref b from ry)
    obtain ⟨z, hd, xs, rel, dd⟩ := dt_rd I.hok e
    refine call_meetsIn PySem.F.slot_dict_get dd.typeIs PySem.F.entry_dict_get (PySem.F.args_dict_get_3 _ _ _) (meetsH_dict_get_default (tupleKind (mixKind X.prog X.w)) a b hd r) ⟨tupleKind_room_in1 hu, k, xs, key_of I.hok eb, dd, h _ _ (I.tok _) ?_⟩
    rw [l]
    exact (rel.val k).getD rd
end

section
variable {X : Cx} {o e f : Expr} {apos cpos : Pos} {td ty tx : TE}
end

/-! ### dict(d): a copy -/
section
variable {X : Cx} {pins : List (Addr × Obj)} {σ : St} {H : Hp} {s : Shared} {a : Addr} {kvs : List (Key × V)} {A : Around} {E : Value → Shared → Prop}
end


section
variable {X : Cx} {pins : List (Addr × Obj)} {σ : St} {H : Hp} {s : Shared} {a : Addr} {y : V} {u : Value} {A : Around} {E : Value → Shared → Prop}
end
end L2

namespace L2
open PySem PySem.Spec PyProof.Rows
/-! ### a dict's pairs: keys that differ -/
section
variable {κ : Type} [DecidableEq κ]
end
end L2
/-! A list comprehension in the hand layer: one clause, any target, any tests. -/
namespace L2
open PySem PySem.Spec PyProof.Rows

section
variable {prog : Program} {w : World} {A : Around} {R : Result → Shared → Prop} {s : Shared}
abbrev testsOf (ifs : List Expr) (env : Env) : Sem Bool :=
  forIn ifs true fun c r => if r = true then do let ok ← isTrue c env (eval c env); pure (ForInStep.yield ok) else pure (ForInStep.yield r)

theorem compLoop_gen {elt target iter : Expr} {ifs : List Expr} {scope : Scope} {pos : Pos} {it acc : Value} {env : Env} {nE : Value → Shared → Prop} (hE : nE = notedBy (model prog w) A env fun e s' => R (.error e) s') (I : Nat → Shared → Prop)
    (turn : ∀ n s, I n s → wpAny (model prog w) A (pyNext it) (fun r s1 => match r with
      | none => R (.ok .next) s1
      | some v => wpAny (model prog w) A (letOwnedTupleGo target it v) (fun _ s1b => wpAny (model prog w) A (assign target env v) (fun _ s2 =>
          wpAny (model prog w) A (testsOf ifs env) (fun ok s3 =>
            if ok = true then wpAny (model prog w) A (eval elt env) (fun x s4 =>
              wpAny (model prog w) A (call (.builtin "list.append") [acc, x]) (fun _ s5 => ∃ m, m < n ∧ I m s5) nE s4) nE s3
            else ∃ m, m < n ∧ I m s3) nE s2) nE s1b) nE s1) nE s)
    (n : Nat) (h : I n s) :
    codeAny (model prog w) A (.compLoop (.ListComp elt [⟨target, iter, ifs, 0⟩] scope pos) 0 it acc env) R s := by
  subst hE
  refine codeAny_loop rfl I (fun n s hI => ?_) n h
  show wpAny _ A ((compTurn (.ListComp elt [⟨target, iter, ifs, 0⟩] scope pos) 0 it acc env).onRaise (fun x => do noteFrame x env; theTreesLotGoes x)) _ _ s
  refine wpAny_noted ?_
  rw [compTurn_list]
  refine wpAny_bind (wpAny_standAt (wpAny_bind (wpAny_mono (turn n s hI) (fun r s1 h1 => ?_) fun _ _ h' => h')))
  cases r with
  | none => exact wpAny_pure h1
  | some v =>
    refine wpAny_bind (wpAny_mono h1 (fun _ s1b h1b => ?_) fun _ _ h' => h')
    refine wpAny_bind (wpAny_mono h1b (fun _ s2 h2 => wpAny_bind (wpAny_mono h2 (fun ok s3 h3 => ?_) fun _ _ h' => h')) fun _ _ h' => h')
    cases ok with
    | false => exact wpAny_pure ⟨rfl, h3⟩
    | true =>
      exact wpAny_bind (wpAny_bind (wpAny_mono h3 (fun x s4 h4 => wpAny_bind (wpAny_mono h4 (fun _ s5 h5 => wpAny_pure (wpAny_pure ⟨rfl, h5⟩)) fun _ _ h' => h')) fun _ _ h' => h'))
end

/-! ### the block's cells -/
def clOf (cells : List (Str × Addr)) : List (Str × NameKind) → List (Str × Addr) → List (Str × Addr)
  | [], acc => acc
  | (n, k) :: r, acc => clOf cells r (if k == NameKind.free then (n, (cells.lookup n).getD 0) :: acc else acc)

theorem closure_forIn (env : Env) : ∀ (names : List (Str × NameKind)) (acc : List (Str × Addr)), (∀ y ∈ names, y.2 = .free → ∃ c, env.cells.lookup y.1 = some c) →
    (forIn names acc fun x (r : List (Str × Addr)) => match x with
      | (name, kind) => if (kind == NameKind.free) = true then (do let a ← cellOf env name; pure (ForInStep.yield ((name, a) :: r))) else pure (ForInStep.yield r) : Sem (List (Str × Addr))) = pure (clOf env.cells names acc)
  | [], acc, _ => by simp [clOf]
  | (n, k) :: r, acc, h => by
    have ih := fun acc => closure_forIn env r acc fun y hy => h y (List.mem_cons_of_mem _ hy)
    rw [List.forIn_cons]
    unfold clOf
    by_cases hk : k = .free
    · subst hk
      obtain ⟨c, e⟩ := h (n, .free) List.mem_cons_self rfl
      simp only [beq_self_eq_true, if_true, cellOf, e, Option.getD_some, pure_bind]
      exact ih _
    · have hb : (k == NameKind.free) = false := by simpa using hk
      simp only [hb, Bool.false_eq_true, if_false, pure_bind]
      exact ih _

theorem closureFor_eq {scope : Scope} {env : Env} (h : ∀ y ∈ scope.names, y.2 = .free → ∃ c, env.cells.lookup y.1 = some c) : closureFor scope env = pure (clOf env.cells scope.names []) := by
  have e := closure_forIn env scope.names [] h
  unfold closureFor
  first
    | (rw [e]; rfl)
    | (simp only [bind_pure]; exact e)
    | (show (_ >>= _) = _; rw [e]; rfl)

theorem clOf_lookup {cells : List (Str × Addr)} {x : Str} {c : Addr} : ∀ (names : List (Str × NameKind)) (acc : List (Str × Addr)), (∀ y ∈ names, y.2 = .free → ∃ c, cells.lookup y.1 = some c) →
    (∀ d, acc.lookup x = some d → cells.lookup x = some d) → (clOf cells names acc).lookup x = some c → cells.lookup x = some c
  | [], acc, _, ha, e => ha c e
  | (n, k) :: r, acc, h, ha, e => by
    unfold clOf at e
    refine clOf_lookup r _ (fun y hy => h y (List.mem_cons_of_mem _ hy)) (fun d hd => ?_) e
    by_cases hk : k = .free
    · subst hk
      obtain ⟨c', e'⟩ := h (n, .free) List.mem_cons_self rfl
      have e2 : cells.lookup n = some c' := e'
      rw [if_pos (beq_self_eq_true _), e2] at hd
      cases hx : x == n with
      | true =>
        have : x = n := eq_of_beq hx
        subst this
        simp only [List.lookup_cons, hx, Option.getD_some] at hd
        rw [e2]
        exact hd
      | false =>
        simp only [List.lookup_cons, hx] at hd
        exact ha d hd
    · have hb : ¬ (k == NameKind.free) = true := by simpa using hk
      rw [if_neg hb] at hd
      exact ha d hd

theorem clOf_keeps {cells : List (Str × Addr)} {x : Str} : ∀ (names : List (Str × NameKind)) (acc : List (Str × Addr)), (acc.lookup x).isSome = true → ((clOf cells names acc).lookup x).isSome = true
  | [], _, h => h
  | (n, k) :: r, acc, h => by
    unfold clOf
    refine clOf_keeps r _ ?_
    by_cases hk : (k == NameKind.free) = true
    · rw [if_pos hk]
      cases hx : x == n with
      | true => simp only [List.lookup_cons, hx, Option.isSome_some]
      | false => simp only [List.lookup_cons, hx]; exact h
    · rw [if_neg hk]; exact h

theorem clOf_has {cells : List (Str × Addr)} {x : Str} : ∀ (names : List (Str × NameKind)) (acc : List (Str × Addr)), (x, NameKind.free) ∈ names → ((clOf cells names acc).lookup x).isSome = true
  | (n, k) :: r, acc, h => by
    unfold clOf
    rcases List.mem_cons.mp h with e | h
    · cases e
      refine clOf_keeps r _ ?_
      rw [if_pos (beq_self_eq_true _)]
      simp only [List.lookup_cons, beq_self_eq_true, Option.isSome_some]
    · exact clOf_has r _ h

theorem relab_lookup {env : Env} (x : Str) : ∀ names : List (Str × NameKind),
    (names.map fun (n, k) => if (k == NameKind.free && env.scope.kind == .function && env.kindOf n == some .cell) then (n, NameKind.cell) else (n, k)).lookup x =
      (names.lookup x).map fun k => if (k == NameKind.free && env.scope.kind == .function && env.kindOf x == some .cell) then NameKind.cell else k
  | [] => rfl
  | (n, k) :: r => by
    have ih := relab_lookup (env := env) x r
    rw [List.map_cons]
    cases hx : x == n with
    | true =>
      have : x = n := eq_of_beq hx
      subst this
      show List.lookup x ((if (k == NameKind.free && env.scope.kind == .function && env.kindOf x == some .cell) = true then (x, NameKind.cell) else (x, k)) :: _) = _
      by_cases hc : (k == NameKind.free && env.scope.kind == .function && env.kindOf x == some .cell) = true
      · rw [if_pos hc]; simp only [List.lookup_cons, hx, Option.map_some]; rw [if_pos hc]
      · rw [if_neg hc]; simp only [List.lookup_cons, hx, Option.map_some]; rw [if_neg hc]
    | false =>
      show List.lookup x ((if (k == NameKind.free && env.scope.kind == .function && env.kindOf n == some .cell) = true then (n, NameKind.cell) else (n, k)) :: _) = _
      by_cases hc : (k == NameKind.free && env.scope.kind == .function && env.kindOf n == some .cell) = true
      · rw [if_pos hc]; simp only [List.lookup_cons, hx]; exact ih
      · rw [if_neg hc]; simp only [List.lookup_cons, hx]; exact ih

/-- what is asked of the block's names: own are the clause's, caps are captured -/
structure CScope (own caps : List Str) (scope osc : Scope) : Prop where
  kind : scope.kind = .function
  nocell : ∀ y ∈ scope.names, y.2 ≠ .cell
  loc : ∀ y ∈ scope.names, y.2 = .local → scope.names.lookup y.1 = some .local
  fr : ∀ y ∈ scope.names, y.2 = .free → osc.names.lookup y.1 = some .cell ∨ osc.names.lookup y.1 = some .free
  cap : ∀ x ∈ caps, scope.names.lookup x = some .free
  nd : (own ++ caps).Nodup

/-- the block's context -/
def cxC (X : Cx) (scope : Scope) (N' : List Str) (C : Addr) (fp : List Addr) (s : Shared) (H : Hp) : Cx where
  prog := X.prog
  w := X.w
  K := X.K
  mg := X.mg
  base := X.base
  A := X.A
  N := N'
  s₀ := s
  H₀ := H
  env := compEnvC scope (clOf X.env.cells scope.names []) C X.env
  outer := X.stack
  stack := X.stack
  ex := fp
  fn := fun _ => false
  calm := X.calm
  pn := X.pn
  xe := fun _ _ => False

/-- the block's slots: own ones unset, captured ones as they stand -/
def cSt (n : Nat) (js : List Nat) (σ : St) : St := List.replicate n none ++ js.map fun j => (σ[j]?).join

/-- the tests of a clause -/
def PF (X : Cx) (ifs : List Expr) (t : TT) : Prop :=
  ∀ (pins : List (Addr × Obj)) (s : Shared) (σ : St) (H : Hp) (Q : Bool → Hp → Prop), Inv X pins σ H s → t σ H Q → wpAny (model X.prog X.w) X.A (testsOf ifs X.env) (TP X pins σ Q) X.xe s
def tYes : TT := fun _ H Q => Q true H
theorem pf_nil {X : Cx} : PF X [] tYes := fun pins s σ H Q I h => by
  show wpAny _ _ (forIn [] true _) _ _ s
  rw [List.forIn_nil]
  exact wpAny_pure ⟨H, I, h⟩
/-- W: the invariant by the turn, a measure, what was gathered; D: where it is gathered -/
def tComp (n : Nat) (js : List Nat) (wi : TI) (g : TG) (tc : TT) (te : TE) : TE := fun σ H Q => wi σ H fun J H1 => ∀ D, H1 D = none → ∃ W : Nat → Nat → List V → Hp → Prop, (∃ m, W 0 m [] (upd H1 D (.lst []))) ∧ ∀ i m acc H, W i m acc H →
  H D = some (.lst acc) ∧ ((J.stop i H ∧ Q (.ref D) H) ∨ (J.go i H ∧ acc.length < sizeLine ∧ ∃ Nx : List V → Hp → Prop, (∀ acc' H', Nx acc' H' → ∃ m', m' < m ∧ W (i + 1) m' acc' H') ∧
    ∀ x H', J.yld i H x H' → g x (cSt n js σ) H' fun σ2 H2 => σ2.drop n = (cSt n js σ).drop n ∧ tc σ2 H2 fun b H3 => if b = true then te σ2 H3 fun v H4 => H4 D = some (.lst acc) ∧ Nx (acc ++ [v]) (upd H4 D (.lst (acc ++ [v]))) else H3 D = some (.lst acc) ∧ Nx acc H3))

section
variable {X : Cx} {pins : List (Addr × Obj)} {σ : St} {H : Hp} {s : Shared}

abbrev capN (X : Cx) (js : List Nat) : List Str := js.map fun j => (X.N[j]?).getD Str.empty
theorem js_ok {X : Cx} {js : List Nat} (h : (js.all fun j => decide (j < X.N.length)) = true) : ∀ j ∈ js, ∃ x, X.N[j]? = some x := fun j hj => by
  have := of_decide_eq_true (List.all_eq_true.mp h j hj)
  exact ⟨X.N[j], List.getElem?_eq_getElem this⟩

/-- the block begins: its frame is laid at C -/
theorem Inv.block {scope : Scope} {own : List Str} {js : List Nat} {fp : List Addr} {h' : Heap} {t' : Nat} {m : Str → Option Value} (I : Inv X pins σ H s) (S : CScope own (capN X js) scope X.env.scope) (hj : ∀ j ∈ js, ∃ x, X.N[j]? = some x)
    (hf : ∀ b ∈ fp, FpOk X pins H b) (hfo : ∀ b ∈ fp, ∃ o, s.heap.get? b = some o) (hn : h'.Ns s.heap.objs.size m) (hk : ∀ b o, s.heap.get? b = some o → h'.get? b = some o) :
    Inv (cxC X scope (own ++ capN X js) s.heap.objs.size fp s H) pins (cSt own.length js σ) H { s with heap := h', toks := t' } := by
  have hfr : ∀ y ∈ scope.names, y.2 = .free → ∃ c, X.env.cells.lookup y.1 = some c := fun y hy e => I.ok.has y.1 (S.fr y hy e)
  have hcl : ∀ x c, (clOf X.env.cells scope.names []).lookup x = some c → X.env.cells.lookup x = some c := fun x c e => clOf_lookup scope.names [] hfr (fun d z => nomatch z) e
  have hlt : ∀ b o, s.heap.get? b = some o → b ≠ s.heap.objs.size := fun b o e => Nat.ne_of_lt (Heap.lt_size e)
  have nstk : ∀ b, b ≠ X.env.locals → b ∉ X.fs → b ∉ frs X.stack := fun b h1 h2 hb => (List.mem_cons.mp (I.stkSub b hb)).elim h1 h2
  have hrl : ∀ x, (relabel scope X.env).names.lookup x = (scope.names.lookup x).map fun k => if (k == NameKind.free && X.env.scope.kind == .function && X.env.kindOf x == some .cell) then NameKind.cell else k := fun x => relab_lookup x scope.names
  refine ⟨⟨I.ok.mod, S.kind, I.ok.glob, I.ok.blt, Nat.le_refl _, fun x y c h1 h2 => I.ok.inj x y c (hcl x c h1) (hcl y c h2), fun x hx => ?_, (fun x c z => nomatch z), I.ok.hd, I.ok.frames, .inl rfl, fun b hb => ?_, I.bs, Nat.le_trans I.ok.bsz I.sz, fun b o e hb => ?_, fun b hb => ?_, I.stack, I.stkFree⟩,
    rfl, I.bare, Un.kept hk, ⟨m, hn, fun i x v h1 h2 h3 => ?_⟩, fun x c e => ?_, I.hok.fresh (Nat.le_refl _), fun x c e => I.freeC x c (hcl x c e), fun p hp => ?_, I.hok.kept hk, ?_⟩
  · have hx' : (relabel scope X.env).names.lookup x = some .cell ∨ (relabel scope X.env).names.lookup x = some .free := hx
    rw [hrl] at hx'
    cases e : scope.names.lookup x with
    | none => rw [e] at hx'; rcases hx' with z | z <;> cases z
    | some k =>
      have hm : (x, k) ∈ scope.names := PySem.mem_of_lookup e
      have hkf : k = .free := by
        rw [e] at hx'
        cases k with
        | free => rfl
        | cell => exact absurd rfl (S.nocell _ hm)
        | _ => exfalso; revert hx'; simp
      subst hkf
      exact Option.isSome_iff_exists.mp (clOf_has scope.names [] hm)
  · obtain ⟨o, e⟩ := hfo b hb
    obtain ⟨_, _, _, _, f4, _⟩ := hf b hb
    exact ⟨hlt b o e, fun x c z => f4 x c (hcl x c z)⟩
  · obtain ⟨_, _, _, f3, _⟩ := hf b hb
    rcases f3 with z | z
    · exact I.ok.noex b o e z
    · exact absurd (Nat.lt_of_lt_of_le (Heap.lt_size (I.ok.bs b o e).1) z) (Nat.lt_irrefl _)
  · obtain ⟨_, f1, f2, _⟩ := hf b hb
    exact nstk b f1 f2
  · -- a captured name
    have h1' : (own ++ capN X js)[i]? = some x := h1
    have hi : own.length ≤ i := by
      rcases Nat.lt_or_ge i own.length with z | z
      · exfalso
        unfold cSt at h2
        rw [List.getElem?_append_left (by simpa using z), List.getElem?_replicate] at h2
        split at h2 <;> cases h2
      · exact z
    rw [List.getElem?_append_right hi] at h1'
    unfold cSt at h2
    rw [List.getElem?_append_right (by simpa using hi), List.length_replicate, List.getElem?_map] at h2
    unfold capN at h1'
    rw [List.getElem?_map] at h1'
    cases ej : js[i - own.length]? with
    | none => rw [ej] at h2; cases h2
    | some j =>
      rw [ej] at h1' h2
      obtain ⟨y, ey⟩ := hj j (List.mem_of_getElem? ej)
      have exy : y = x := by
        have z : some ((X.N[j]?).getD Str.empty) = some x := h1'
        rw [ey] at z
        exact Option.some.inj z
      subst exy
      have es : σ[j]? = some (some v) := by
        have z : some ((σ[j]?).join) = some (some v) := h2
        cases q : σ[j]? with
        | none => rw [q] at z; cases z
        | some o => rw [q] at z; cases o with
          | none => cases z
          | some v' => cases z; rfl
      have hcap : y ∈ capN X js := List.mem_map.mpr ⟨j, List.mem_of_getElem? ej, by rw [ey]; rfl⟩
      have hfree : scope.names.lookup y = some .free := S.cap y hcap
      have hm : (y, NameKind.free) ∈ scope.names := PySem.mem_of_lookup hfree
      have ho := S.fr _ hm rfl
      obtain ⟨m0, hn0, hl0⟩ := I.loc
      obtain ⟨u, r, l⟩ := hl0 j y v ey es (ho.elim (fun z => .inr (.inl z)) fun z => .inr (.inr z))
      refine ⟨u, r, .inr ⟨?_, ?_⟩⟩
      · show (relabel scope X.env).names.lookup y = _ ∨ (relabel scope X.env).names.lookup y = _
        rw [hrl, hfree, Option.map_some]
        by_cases hcc : (NameKind.free == NameKind.free && X.env.scope.kind == .function && X.env.kindOf y == some .cell) = true
        · rw [if_pos hcc]; exact .inl rfl
        · rw [if_neg hcc]; exact .inr rfl
      · rcases l with ⟨k, _⟩ | ⟨_, c, e, z⟩
        · have k' : X.env.scope.names.lookup y = some .local := k
          rcases ho with z | z <;> (rw [k'] at z; cases z)
        · obtain ⟨c', e'⟩ := Option.isSome_iff_exists.mp (clOf_has (cells := X.env.cells) scope.names [] hm)
          have := hcl y c' e'
          rw [e] at this
          cases this
          refine ⟨c, e', ?_⟩
          obtain ⟨oc, ho', hd⟩ := z
          exact ⟨oc, hk c oc ho', hd⟩
  · obtain ⟨v, o, ho, hd⟩ := I.cell x c (hcl x c e)
    exact ⟨v, o, hk c o ho, hd⟩
  · obtain ⟨e, n, ne, nf, d⟩ := I.pin p hp
    exact ⟨hk _ _ e, n, hlt _ _ e, nstk p.1 ne nf, d⟩
  · unfold cSt
    show _ = (own ++ capN X js).length
    simp

/-- the block is left: its frame's object may have changed -/
theorem Inv.unblock {scope : Scope} {N' : List Str} {fp : List Addr} {σb : St} {H' : Hp} {s' : Shared} {h' : Heap} (I : Inv X pins σ H s) (hf : ∀ b ∈ fp, FpOk X pins H b)
    (B : Inv (cxC X scope N' s.heap.objs.size fp s H) pins σb H' s') (hs : Heap.SameBut s.heap.objs.size s'.heap h') : Inv X pins σ H' { s' with heap := h' } := by
  have hlt : ∀ b o, s.heap.get? b = some o → b ≠ s.heap.objs.size := fun b o e => Nat.ne_of_lt (Heap.lt_size e)
  have hu : Un (frs X.stack) fp H H' s.heap s'.heap := B.base
  have hfree : H' s.heap.objs.size = none := B.free
  refine I.call' (s' := { s' with heap := h' }) (ch := fp) B.os ⟨fun b o e n hb hx => ?_, fun b o e n hb hx => ?_, hu.free, fun b o e hx => ?_, hu.tups, hu.frzs, hu.tbls⟩ (fun b u e => ?_) B.bare fun b hb => ?_
  · exact (hs.2 b (hlt b o e)).trans (hu.keep b o e n hb hx)
  · obtain ⟨sl, z⟩ := hu.slot b o e n hb hx
    exact ⟨sl, (hs.2 b (hlt b o e)).trans z⟩
  · obtain ⟨o', z⟩ := hu.there b o e hx
    exact ⟨o', (hs.2 b (hlt b o e)).trans z⟩
  · refine (B.hok b u e).stay (fun c v hc q => (hs.2 c ?_).trans q) (fun _ q => q) fun _ _ q => q
    rintro rfl
    rcases hc with z | z
    · rw [← z, hfree] at e; cases e
    · rw [hfree] at z; cases z
  · obtain ⟨_, f1, f2, f3, f4, f5⟩ := hf b hb
    exact ⟨f3, f1, f4, f5⟩
end

section
variable {X : Cx} {elt tg iter : Expr} {ifs : List Expr} {scope : Scope} {pos : Pos} {own : List Str} {js : List Nat} {wi : TI} {g : TG} {tc : TT} {te : TE}

theorem comp_core (hc : X.calm = true) (S : CScope own (capN X js) scope X.env.scope) (hj : ∀ j ∈ js, ∃ x, X.N[j]? = some x) (hi : PI X tg iter wi)
    (hg : ∀ C fp s H, PG (cxC X scope (own ++ capN X js) C fp s H) tg g) (ht : ∀ C fp s H, PF (cxC X scope (own ++ capN X js) C fp s H) ifs tc) (he : ∀ C fp s H, PE (cxC X scope (own ++ capN X js) C fp s H) elt te)
    {pins : List (Addr × Obj)} {σ : St} {H : Hp} {s : Shared} {Q : VK} (I : Inv X pins σ H s) (h : tComp own.length js wi g tc te σ H Q) {RR : Value → Addr → Result → Shared → Prop}
    (hRR : ∀ D C s' m H', s'.heap.Ns C m → H' C = none → C ≠ X.env.locals → C ∉ X.fs → (∀ x c, X.env.cells.lookup x = some c → c ≠ C) → X.s₀.heap.objs.size ≤ C → (∀ p ∈ X.pn ++ pins, p.1 ≠ C) → (∀ h', Heap.SameBut C s'.heap h' → Inv X pins σ H' { s' with heap := h' }) → Q (.ref D) H' → RR (.ref D) C (.ok .next) s') :
    wpAny (model X.prog X.w) X.A (eval iter X.env) (fun x s1 => wpAny (model X.prog X.w) X.A (pyIter x) (fun it s2 => wpAny (model X.prog X.w) X.A (newList []) (fun acc s3 =>
      wpAny (model X.prog X.w) X.A (newFunctionEnv scope X.env.globals (clOf X.env.cells scope.names []) [] X.env.qual none .none (some X.env)) (fun cenv s4 =>
        codeAny (model X.prog X.w) X.A (.compStart (.ListComp elt [⟨tg, iter, ifs, 0⟩] scope pos) 0 it acc { cenv with scope := relabel scope X.env }) (RR acc cenv.locals) s4) X.xe s3) X.xe s2) X.xe s1) X.xe s := by
  refine thn (hi pins s σ H _ I h) fun v s1 h1 => thn h1 fun itv s2 h2 => ?_
  obtain ⟨it, fp, tn, J, H2, e, I2, T, st2, f2, hq⟩ := h2
  subst e
  refine wpAny_newList ?_ (by simp)
  have I3 := I2.lnew (t' := s2.toks) (ys := []) (its := []) .nil (by simp)
  have hDn : H2 s2.heap.objs.size = none := I2.fresh
  generalize hD : s2.heap.objs.size = D at I3 hDn ⊢
  generalize hH3 : upd H2 D (.lst []) = H3 at I3
  generalize hs3 : ({ s2 with heap := s2.heap.push { cls := .type "list", data := .seq ([] : List Value).toArray }, toks := s2.toks } : Shared) = s3 at I3
  have k3 : ∀ b o, s2.heap.get? b = some o → s3.heap.get? b = some o := fun b o e => by rw [← hs3]; exact Heap.get?_push_of_some _ e
  have st3 : tn 0 s3.heap := T.keep _ _ _ st2 fun b _ o e => k3 b o e
  have fo2 : ∀ b ∈ fp, ∃ o, s2.heap.get? b = some o := fun b hb => (T.obj _ _ st2 b hb).imp fun _ z => z.1
  have neD : ∀ b ∈ fp, b ≠ D := fun b hb => by
    obtain ⟨o, e⟩ := fo2 b hb
    rw [← hD]
    exact Nat.ne_of_lt (Heap.lt_size e)
  have f3 : ∀ b ∈ fp, FpOk X pins H3 b := fun b hb => by
    obtain ⟨a0, a1⟩ := f2 b hb
    exact ⟨by rw [← hH3, upd_ne (neD b hb)]; exact a0, a1⟩
  have fo3 : ∀ b ∈ fp, ∃ o, s3.heap.get? b = some o := fun b hb => (fo2 b hb).imp fun o e => k3 b o e
  obtain ⟨W, ⟨m0, w0⟩, turn⟩ := hq D hDn
  rw [hH3] at w0
  refine wpAny_newFunctionEnv S.nocell (by intro y hy; simp at hy) (fun h4 hns4 hsb4 => ?_) S.kind
  have k4 : ∀ b o, s3.heap.get? b = some o → h4.get? b = some o := fun b o e => hsb4.extBut b o (Nat.ne_of_lt (Heap.lt_size e)) (Heap.get?_push_of_some _ e)
  have B4 := I3.block (t' := s3.toks + ([] : List (Str × Value)).length) S hj f3 fo3 hns4 k4
  have st4 : tn 0 h4 := T.keep _ _ _ st3 fun b _ o e => k4 b o e
  have f4 : ∀ b ∈ fp, FpOk (cxC X scope (own ++ capN X js) s3.heap.objs.size fp s3 H3) pins H3 b := fun b hb => by
    obtain ⟨a0, a1, a2, a3, a4, a5⟩ := f3 b hb
    obtain ⟨o, e⟩ := fo3 b hb
    exact ⟨a0, (B4.ok.exf b hb).1, B4.ok.exfs b hb, .inl hb, (B4.ok.exf b hb).2, a5⟩
  have nL : s3.heap.objs.size ≠ X.env.locals := Nat.ne_of_gt I3.lt
  have nF : s3.heap.objs.size ∉ X.fs := I3.nofs (Nat.le_refl _)
  have nC : ∀ x c, X.env.cells.lookup x = some c → c ≠ s3.heap.objs.size := fun x c e => by
    obtain ⟨_, o, ho, _⟩ := I3.cell x c e
    exact Nat.ne_of_lt (Heap.lt_size ho)
  -- the loop
  have loop : ∀ s5 : Shared, s5 = { s3 with heap := h4, toks := s3.toks + ([] : List (Str × Value)).length } →
      codeAny (model X.prog X.w) X.A (.compLoop (.ListComp elt [⟨tg, iter, ifs, 0⟩] scope pos) 0 (.ref it) (.ref D) (compEnvC scope (clOf X.env.cells scope.names []) s3.heap.objs.size X.env)) (RR (.ref D) s3.heap.objs.size) s5 := by
    rintro s5 rfl
    have stat : ∀ {H' : Hp}, (∀ b ∈ fp, H' b = none) → ∀ b ∈ fp, FpOk (cxC X scope (own ++ capN X js) s3.heap.objs.size fp s3 H3) pins H' b := fun hn b hb => ⟨hn b hb, (f4 b hb).2⟩
    refine compLoop_gen rfl (fun n s' => ∃ i acc H', Inv (cxC X scope (own ++ capN X js) s3.heap.objs.size fp s3 H3) pins (cSt own.length js σ) H' s' ∧ tn i s'.heap ∧ (∀ b ∈ fp, H' b = none) ∧ W i n acc H') ?_ m0
      ⟨0, [], H3, B4, st4, fun b hb => (f3 b hb).1, w0⟩
    rintro n s6 ⟨i, acc, H6, B6, st6, fr6, w6⟩
    obtain ⟨hacc, way⟩ := turn i n acc H6 w6
    rcases way with ⟨stop, q⟩ | ⟨go, hz, Nx, hN, step⟩
    · refine thn (T.done (cxC X scope (own ++ capN X js) s3.heap.objs.size fp s3 H3) rfl rfl rfl hc i pins s6 _ H6 _ B6 (stat fr6) st6 stop) fun r s7 ⟨hr, B7⟩ => ?_
      subst hr
      obtain ⟨m, hm, _⟩ := B7.loc
      exact hRR D _ s7 m H6 hm B7.free nL nF nC I3.sz (fun p hp => Nat.ne_of_lt (Heap.lt_size (I3.pin p hp).1)) (fun h' hs => I3.unblock f3 B7 hs) q
    · refine thn (T.item (cxC X scope (own ++ capN X js) s3.heap.objs.size fp s3 H3) rfl rfl rfl hc i pins s6 _ H6 _ B6 (stat fr6) st6 go) fun r s7 ⟨u, hr, h7⟩ => ?_
      subst hr
      refine thn h7 fun _ s8 ⟨x, H8, B8, r8, y8, st8, fr8⟩ => ?_
      have B8' := B8.pinned (stat fr8) (T.obj _ _ st8)
      have away : ∀ {s9 : Shared} {σ9 : St} {H9 : Hp} {acc' : List V}, Inv (cxC X scope (own ++ capN X js) s3.heap.objs.size fp s3 H3) (pins ++ pinsAt fp s8.heap) σ9 H9 s9 → σ9.drop own.length = (cSt own.length js σ).drop own.length → Nx acc' H9 →
          ∃ m', m' < n ∧ ∃ i acc H', Inv (cxC X scope (own ++ capN X js) s3.heap.objs.size fp s3 H3) pins (cSt own.length js σ) H' s9 ∧ tn i s9.heap ∧ (∀ b ∈ fp, H' b = none) ∧ W i m' acc H' := fun {s9 σ9 H9 acc'} B9 hd nx => by
        obtain ⟨m', hm, w9⟩ := hN acc' H9 nx
        refine ⟨m', hm, i + 1, acc', H9, B9.unpinned.weak ?_ ?_, T.keep _ _ _ st8 fun b hb o e => (B9.pin (b, o) (List.mem_append_right _ (List.mem_append_right _ (mem_pinsAt hb e)))).1, fun b hb => ?_, w9⟩
        · rw [B9.len, B6.len]
        · intro k v hv
          unfold cSt at hv
          have hk : own.length ≤ k := by
            rcases Nat.lt_or_ge k own.length with z | z
            · exfalso
              rw [List.getElem?_append_left (by simpa using z), List.getElem?_replicate] at hv
              split at hv <;> cases hv
            · exact z
          have e1 : σ9[k]? = (σ9.drop own.length)[k - own.length]? := by rw [List.getElem?_drop]; congr 1; omega
          rw [e1, hd, List.getElem?_drop]
          have e2 : own.length + (k - own.length) = k := by omega
          rw [e2]
          exact hv
        · obtain ⟨o, e, d⟩ := T.obj _ _ st8 b hb
          exact (B9.pin (b, o) (List.mem_append_right _ (List.mem_append_right _ (mem_pinsAt hb e)))).2.1
      refine wpAny_mono (hg _ _ _ _ _ s8 _ H8 x u _ B8' r8 (step x H8 y8)) (fun _ s9 ⟨σ9, H9, B9, hd9, q9⟩ => ?_) fun _ _ f => f.elim
      refine wpAny_mono (ht _ _ _ _ _ s9 σ9 H9 _ B9 q9) (fun b s10 ⟨H10, B10, q10⟩ => ?_) fun _ _ f => f.elim
      cases b with
      | false =>
        rw [if_neg Bool.false_ne_true] at q10 ⊢
        exact away B10 hd9 q10.2
      | true =>
        rw [if_pos rfl] at q10 ⊢
        refine wpAny_mono (he _ _ _ _ _ s10 σ9 H10 _ B10 q10) (fun y s11 ⟨z, H11, B11, r11, q11⟩ => ?_) fun _ _ f => f.elim
        obtain ⟨hl11, nx⟩ := q11
        refine wpAny_mono (mt_append (X := cxC X scope (own ++ capN X js) s3.heap.objs.size fp s3 H3) _ s11 σ9 H11 (.ref D) [z] (.ref D) [y] (fun _ H12 => Nx (acc ++ [z]) H12) B11 rfl (.cons r11 .nil) ⟨D, acc, z, rfl, rfl, hl11, hz, nx⟩) (fun _ s12 ⟨_, H12, B12, _, q12⟩ => ?_) fun _ _ f => f.elim
        exact away B12 hd9 q12
  exact codeAny_compStart_list (loop _ rfl) (T.self X.A 0 _ _ _ st4 (loop _ rfl))

/-- a list comprehension -/
theorem pe_comp (own caps : List Str) (js : List Nat) (hc : X.calm = true) {osc : Scope} (S : CScope own caps scope osc) (hi : PI X tg iter wi)
    (hg : ∀ C fp s H, PG (cxC X scope (own ++ caps) C fp s H) tg g) (ht : ∀ C fp s H, PF (cxC X scope (own ++ caps) C fp s H) ifs tc) (he : ∀ C fp s H, PE (cxC X scope (own ++ caps) C fp s H) elt te)
    (ho : X.env.scope = osc := by rfl) (hcp : capN X js = caps := by rfl) (hj : (js.all fun j => decide (j < X.N.length)) = true := by rfl)
    (hs : ∀ x, foldedSetIterable iter X.env x = pure x := by intro _; rfl) : PE X (.ListComp elt [⟨tg, iter, ifs, 0⟩] scope pos) (tComp own.length js wi g tc te) := by
  subst ho
  subst hcp
  intro pins s σ H Q I h
  have hfr : ∀ y ∈ scope.names, y.2 = .free → ∃ c, X.env.cells.lookup y.1 = some c := fun y hy e => I.ok.has y.1 (S.fr y hy e)
  rw [eval_ListComp]
  refine wpAny_comprehension_free (use := none) rfl hs (closureFor_eq hfr) S.kind S.loc ?_
  refine comp_core hc S (js_ok hj) hi hg ht he I h (RR := fun acc C => compPost (model X.prog X.w) X.A X.xe none (EP X pins σ Q) acc C) ?_
  intro D C s' m H' hn hf h1 h2 h3 h4 h5 hI hq
  exact ⟨m, hn, fun h' hs' => ⟨.ref D, H', hI h' hs', rfl, hq⟩⟩

/-- x = [ .. for .. ], where the store goes ahead of the block's end -/
theorem ps_setC {i : Nat} {x : Str} {pos' spos : Pos} (own caps : List Str) (js : List Nat) (hc : X.calm = true) (hN : X.N.Nodup) (hxi : X.N[i]? = some x) (hx : Loc X.env.scope x)
    {osc : Scope} (S : CScope own caps scope osc) (hi : PI X tg iter wi)
    (hg : ∀ C fp s H, PG (cxC X scope (own ++ caps) C fp s H) tg g) (ht : ∀ C fp s H, PF (cxC X scope (own ++ caps) C fp s H) ifs tc) (he : ∀ C fp s H, PE (cxC X scope (own ++ caps) C fp s H) elt te)
    (hsw : swapsWith (.ListComp elt [⟨tg, iter, ifs, 0⟩] scope pos) (some (.Name x pos')) spos.line X.env = pure true)
    (ho : X.env.scope = osc := by rfl) (hcp : capN X js = caps := by rfl) (hj : (js.all fun j => decide (j < X.N.length)) = true := by rfl)
    (hf : X.fn x = true ∨ X.env.scope.names.lookup x = some .local := by first | exact .inl rfl | exact .inr rfl | assumption)
    (hs : ∀ x, foldedSetIterable iter X.env x = pure x := by intro _; rfl) : PS X (.Assign [.Name x pos'] (.ListComp elt [⟨tg, iter, ifs, 0⟩] scope pos) spos) (tAsg (tComp own.length js wi g tc te) (gName i)) := by
  subst ho
  subst hcp
  intro pins s σ H D0 I h
  have hfr : ∀ y ∈ scope.names, y.2 = .free → ∃ c, X.env.cells.lookup y.1 = some c := fun y hy e => I.ok.has y.1 (S.fr y hy e)
  have h' : tComp own.length js wi g tc te σ H (fun v H1 => D0.nx (σ.set i (some v)) H1) := h
  unfold exec
  refine wpAny_bind (wpAny_standAt (wpAny_bind (wpAny_of_eq (show swapsWithSole _ _ _ _ = _ from hsw) ?_)))
  simp only [if_true]
  unfold evalThenUse
  refine wpAny_bind (wpAny_bind ?_)
  refine wpAny_comprehension_free (use := some _) (Q := fun _ s' => wpAny _ _ (pure PUnit.unit) (fun _ s'' => wpAny _ _ (pure Flow.next) (SP X pins D0) X.xe s'') X.xe s') rfl hs (closureFor_eq hfr) S.kind S.loc ?_
  refine comp_core hc S (js_ok hj) hi hg ht he I h' (RR := fun acc C => compPost (model X.prog X.w) X.A X.xe (some _) _ acc C) ?_
  intro D C s' m H' hn hfree h1 h2 h3 h4 h5 hI hq
  have I' : Inv X pins σ H' s' := hI s'.heap (.refl ..)
  obtain ⟨o, es, ep, ho, hod, r⟩ := id hn
  show wpAny _ _ (assign (.Name x pos') X.env (.ref D)) _ _ s'
  refine wpAny_assign_Name (store_ok2 I' hN hxi hx (v := .ref D) rfl (fun s2 I2 ⟨a, hsa, ha⟩ => ?_) hf)
  have hCa : C ≠ a := by
    rcases ha with z | z
    · rw [z]; exact h1
    · exact (h3 x a z).symm
  refine ⟨m, hn.sameBut hsa hCa, fun h'' hs'' => wpAny_pure (wpAny_pure ?_)⟩
  refine ⟨_, H', ?_, hq⟩
  -- what is left: the block's frame changes once more
  exact I2.turned (t' := s2.toks) (it := C) (fun b o hb e => (hs''.2 b hb).trans e) hfree (Ne.symm h1 |>.symm) (.inr h4) h3 h5
end
end L2
/-! Data and its equality, any and all, isinstance, slices of tuples, own defs in short. -/
namespace L2
open PySem PySem.Spec PyProof.Rows

/-! ### data -/
mutual
inductive Has (K : PySem.W.Frag) (H : Hp) : V → PyData → Prop
  | non : Has K H .non .none
  | bl (b : Bool) : Has K H (.bl b) (.bool b)
  | int (i : Int) : Has K H (.int i) (.int i)
  | str (x : Str) : Has K H (.str x) (.str x)
  | lst {a : Addr} {xs : List V} {ds : List PyData} : SqL K H a xs → HasAll K H xs ds → Has K H (.ref a) (.list ds)
  | tup {a : Addr} {xs : List V} {ds : List PyData} : SqT K H a xs → HasAll K H xs ds → Has K H (.ref a) (.tuple ds)
inductive HasAll (K : PySem.W.Frag) (H : Hp) : List V → List PyData → Prop
  | nil : HasAll K H [] []
  | cons {x : V} {xs : List V} {d : PyData} {ds : List PyData} : Has K H x d → HasAll K H xs ds → HasAll K H (x :: xs) (d :: ds)
end

section
variable {X : Cx} {pins : List (Addr × Obj)} {σ : St} {H : Hp} {s : Shared}
mutual
theorem Has.reads (I : Inv X pins σ H s) : ∀ {x : V} {d : PyData} {u : Value}, Has X.K H x d → RelV x u → ∃ as, Reads s.heap u d as
  | _, _, _, .non, r => by cases r; exact ⟨_, .none⟩
  | _, _, _, .bl b, r => by cases r; exact ⟨_, .bool b⟩
  | _, _, _, .int i, r => by obtain ⟨t, rfl⟩ := r; exact ⟨_, .int i t⟩
  | _, _, _, .str x, r => by obtain ⟨t, rfl⟩ := r; exact ⟨_, .str x t⟩
  | _, _, _, .lst h hs, r => by
    cases r
    obtain ⟨its, rv, ⟨o, n, ho, hc, hd, hs'⟩, hz⟩ := I.list h
    obtain ⟨as, ra⟩ := HasAll.reads I hs rv
    exact ⟨_, .list ho hc hs' ra⟩
  | _, _, _, .tup h hs, r => by
    cases r
    obtain ⟨its, rv, ⟨o, ho, hc, n, hs'⟩, hz⟩ := I.tuple h
    obtain ⟨as, ra⟩ := HasAll.reads I hs rv
    exact ⟨_, .tuple ho hc hs' ra⟩
theorem HasAll.reads (I : Inv X pins σ H s) : ∀ {xs : List V} {ds : List PyData} {us : List Value}, HasAll X.K H xs ds → Vals xs us → ∃ as, ReadsAll s.heap us ds as
  | _, _, _, .nil, r => by cases r; exact ⟨_, .nil⟩
  | _, _, _, .cons h hs, .cons r rs => by
    obtain ⟨as, ra⟩ := Has.reads I h r
    obtain ⟨bs, rb⟩ := HasAll.reads I hs rs
    exact ⟨_, .cons ra rb⟩
end
end

def rEqD (K : PySem.W.Frag) : R2 := fun x y H Q => ∃ d e, Has K H x d ∧ Has K H y e ∧ SeqAt.shaped d = true ∧ SeqAt.shaped e = true ∧ Q (.bl (PyData.eqv d e)) H
def rNeD (K : PySem.W.Frag) : R2 := fun x y H Q => ∃ d e, Has K H x d ∧ Has K H y e ∧ SeqAt.shaped d = true ∧ SeqAt.shaped e = true ∧ Q (.bl (!PyData.eqv d e)) H
section
variable {X : Cx}
theorem op_eqD (hu : X.A.units + 64 < cLine) : OpR X (compareOp .Eq) (rEqD X.K) := by
  intro pins s σ H x y v u Q I rx ry h
  obtain ⟨d, e, hd, he, sd, se, q⟩ := h
  obtain ⟨as, ra⟩ := hd.reads I rx
  obtain ⟨bs, rb⟩ := he.reads I ry
  exact SeqAt.compareEq_reads ra rb (SeqAt.canLay_of_shaped sd) (SeqAt.canLay_of_shaped se) (SeqAt.room_of_shaped sd hu) ⟨.bl _, H, I, rfl, q⟩
theorem op_neD (hu : X.A.units + 64 < cLine) : OpR X (compareOp .NotEq) (rNeD X.K) := by
  intro pins s σ H x y v u Q I rx ry h
  obtain ⟨d, e, hd, he, sd, se, q⟩ := h
  obtain ⟨as, ra⟩ := hd.reads I rx
  obtain ⟨bs, rb⟩ := he.reads I ry
  exact SeqAt.compareNe_reads ra rb (SeqAt.canLay_of_shaped sd) (SeqAt.canLay_of_shaped se) (SeqAt.room_of_shaped sd hu) ⟨.bl _, H, I, rfl, q⟩

/-! ### any, all of a list of truths -/
/-! ### isinstance -/
end
end L2

/-! ### a def of the text, and its promise, in short -/
namespace L2
open PySem PySem.Spec PyProof.Rows
/-- the def x stands at the top as st -/
def Def (K : PySem.W.Frag) (mg : Str → Option Value) (x : Str) (st : Stmt) : Prop := ∃ f fd, mg x = some (.ref f) ∧ Fun K x x st f fd
/-- the def x keeps the promise sp -/
def Own (P : Program) (w : World) (K : PySem.W.Frag) (mg : Str → Option Value) (base : Heap) (k : Nat) (x : Str) (ps : List Str) (sp : Sp) : Prop :=
  ∃ f fd, mg x = some (.ref f) ∧ PySem.W.keepIn K (.ref f) = true ∧ Binds K fd ps [] ∧ FnOk P w K mg base CX0 k f fd ps sp
theorem Def.own {P : Program} {w : World} {K : PySem.W.Frag} {mg : Str → Option Value} {base : Heap} {x : Str} {st : Stmt} {N ps : List Str} {k : Nat} {sp : Sp} (D : Def K mg x st) (S : FnScope N ps (defScope st))
    (hb : ∀ (kV doc pm : Value) (an : Option Addr) (cdv ct : Value) (us : List Value), us.length = ps.length → bindArgs (PySem.W.fnOf x x (defArgs st) (defBody st) (defScope st) .none kV doc pm an cdv ct) ⟨us, []⟩ = pure (ps.zip us))
    (len : ∀ vs H Q E, sp vs H Q E → vs.length = ps.length)
    (hbody : ∀ (f : Addr) (cdv : Value) (A : Around) (outer : List Env) (s : Shared) (H : Hp) (vs : List V) (Q : VK) (E : XK), Room k (A.deeper (envOfC x (defScope st) s.heap.objs.size f cdv)) → sp vs H Q E →
      ∃ t, PSs (cxOf CX0 P w K mg base N x (defScope st) f cdv A outer s H E).nox (defBody st) t ∧ t { nx := fun _ H' => Q .non H', rt := Q } (start N vs) H) : Own P w K mg base (k + 1) x ps sp := by
  obtain ⟨f, fd, hm, F⟩ := D
  exact ⟨f, fd, hm, F.kp, F.binds hb, F.ok S len (hbody f)⟩
theorem def_mk {K : PySem.W.Frag} {h : Heap} {mg : Str → Option Value} (X : K.In h) (G : h.Ns mainGlobals mg) {x : Str} {st : Stmt} {f : Addr} {oc : Value} {od an : Option Addr} {osl : Array (Option Value)} {kV doc pm cdv ct : Value}
    (a : PySem.W.nsIn K mainGlobals x = some (some (.ref f)))
    (l : K.lookup f = some ⟨oc, od, .func (PySem.W.fnOf x x (defArgs st) (defBody st) (defScope st) .none kV doc pm an cdv ct), osl⟩) (c : PySem.W.codeIn K cdv x = true) (k : PySem.W.keepIn K (.ref f) = true) : Def K mg x st :=
  ⟨f, _, PySem.W.mg_of X G a, fun_mk l c k⟩
section
variable {X : Cx} {j k : Nat} {x : Str} {ps : List Str} {sp : Sp} {p pos : Pos} {e : Expr} {es : List Expr} {t : TA}
theorem pe_fn (F : Own X.prog X.w X.K X.mg X.base j x ps sp) (hr : Room k X.A) (ha : PA X (e :: es) t) (hk : j ≤ k := by decide) (hg : Gl X x := by rfl)
    (hdb : (x == ("__debug__" : Str)) = false := by decide) (he : starEach (e :: es) X.env = (false, eval e X.env) :: starEach es X.env := by rfl) (hpl : (backTo pos (starEach es X.env)).any (·.1) = false := by rfl) :
    PE X (.Call (.Name x p) (e :: es) [] pos) (tCall sp [] E0 t) := by
  obtain ⟨f, fd, hm, kp, hb, F⟩ := F
  exact pe_call F (hr.mono hk) hg hm kp hb .nil pass0 ha hdb he hpl
end
/-- the names of built-ins that no def of the text takes -/
def Blt (mg : Str → Option Value) : Prop := ∀ x : Str, x ∈ (["len", "any", "all", "max", "min", "isinstance", "list", "tuple", "int", "bool", "str", "dict", "range"] : List Str) → mg x = none
theorem blt_mk {K : PySem.W.Frag} {h : Heap} {mg : Str → Option Value} (X : K.In h) (G : h.Ns mainGlobals mg) (z0 : PySem.W.nsIn K mainGlobals "len" = some none) (z1 : PySem.W.nsIn K mainGlobals "any" = some none) (z2 : PySem.W.nsIn K mainGlobals "all" = some none) (z3 : PySem.W.nsIn K mainGlobals "max" = some none) (z4 : PySem.W.nsIn K mainGlobals "min" = some none) (z5 : PySem.W.nsIn K mainGlobals "isinstance" = some none) (z6 : PySem.W.nsIn K mainGlobals "list" = some none) (z7 : PySem.W.nsIn K mainGlobals "tuple" = some none) (z8 : PySem.W.nsIn K mainGlobals "int" = some none) (z9 : PySem.W.nsIn K mainGlobals "bool" = some none) (z10 : PySem.W.nsIn K mainGlobals "str" = some none) (z11 : PySem.W.nsIn K mainGlobals "dict" = some none) (z12 : PySem.W.nsIn K mainGlobals "range" = some none) : Blt mg := by
  intro x hx
  simp only [List.mem_cons, List.not_mem_nil, or_false] at hx
  rcases hx with rfl | rfl | rfl | rfl | rfl | rfl | rfl | rfl | rfl | rfl | rfl | rfl | rfl
  · exact PySem.W.mg_none_of X G z0
  · exact PySem.W.mg_none_of X G z1
  · exact PySem.W.mg_none_of X G z2
  · exact PySem.W.mg_none_of X G z3
  · exact PySem.W.mg_none_of X G z4
  · exact PySem.W.mg_none_of X G z5
  · exact PySem.W.mg_none_of X G z6
  · exact PySem.W.mg_none_of X G z7
  · exact PySem.W.mg_none_of X G z8
  · exact PySem.W.mg_none_of X G z9
  · exact PySem.W.mg_none_of X G z10
  · exact PySem.W.mg_none_of X G z11
  · exact PySem.W.mg_none_of X G z12
theorem bt_len : bootBuiltins "len" = some (.builtin "len") := by decide +kernel
theorem bt_tuple : bootBuiltins "tuple" = some (.type "tuple") := by decide +kernel
theorem bt_int : bootBuiltins "int" = some (.type "int") := by decide +kernel
theorem bt_str : bootBuiltins "str" = some (.type "str") := by decide +kernel
end L2

namespace HT
open PySem PySem.Spec PyProof.Rows
section
variable {prog : Program} {w : World} {A : Around} {E : Value → Shared → Prop} {s : Shared}
/-- the whole of a tuple is the tuple itself -/
theorem getItem_tuple_whole {t sl : Addr} {items : Array Value} {vl vu : Value} {lo hi : Option Int} {Q : Value → Shared → Prop} (ht : IsTup s.heap t items) (hs : s.heap.IsSliceOf sl vl vu .none) (pl : IsPart vl lo) (pu : IsPart vu hi)
    (hw : sIx items.size 0 lo = 0 ∧ sIx items.size items.size hi = items.size)
    (h : Q (.ref t) s) : wpAny (model prog w) A (getItem (.ref t) (.ref sl)) Q E s := by
  obtain ⟨os, hos, hcs, hds⟩ := id hs
  have hTs : s.TypeIs (.ref sl) "slice" := ⟨os, hos, hcs⟩
  unfold getItem
  try with_reducible refine wpAny_holding ?_
  first | refine wpAny_bind (wpAny_pure ?_) | skip
  refine wpAny_bind (wpAny_sequenceKey ht.typeIs (by decide) ?_)
  refine wpAny_bind (wpAny_callSpecial?_slot (name := Str.ofString "__getitem__") ht.typeIs PyProof.Rows.slot_tuple_getitem
    (wpAny_call_entry PyProof.Rows.slot_tuple_getitem ht.typeIs entry_tuple_getitem ?_ (args_tuple_getitem _ _)))
  show wpAny _ _ (Builtin.Tuple.tupleItemsOf (.ref t) >>= _) _ _ s
  refine wpAny_bind (tupleItemsOf_ ht ?_)
  refine wpAny_bind (wpAny_typeOf hTs ?_)
  rw [if_pos (by decide)]
  refine wpAny_bind (sliceApplied_gen hs pl pu ?_)
  have hyes : (((sIx items.size 0 lo : Nat) : Int) == 0 && (1 : Int) == 1 && (sIx items.size items.size hi - sIx items.size 0 lo) == items.size) = true := by
    rw [hw.1, hw.2]; simp
  show wpAny _ _ (if (((sIx items.size 0 lo : Nat) : Int) == 0 && (1 : Int) == 1 && (sIx items.size items.size hi - sIx items.size 0 lo) == items.size) = true then _ else _) _ _ s
  rw [if_pos hyes]
  unfold Builtin.Tuple.tupleIsExact
  refine wpAny_bind (wpAny_bind (wpAny_typeOf ht.typeIs (wpAny_pure ?_)))
  rw [if_pos (by decide)]
  exact wpAny_bind (wpAny_rule (wpAny_pure ⟨_, rfl, wpAny_pure h⟩))
end
end HT

namespace L2
open PySem PySem.Spec PyProof.Rows
section
variable {X : Cx}
/-- t[lo:hi]: the whole is t itself -/
def rSlW (K : PySem.W.Frag) : V → Option Int → Option Int → Hp → VK → Prop := fun x lo hi H Q => ∃ a xs, x = .ref a ∧ SqT K H a xs ∧ ((HT.sIx xs.length 0 lo = 0 ∧ HT.sIx xs.length xs.length hi = xs.length) → Q (.ref a) H) ∧
  (¬ (HT.sIx xs.length 0 lo = 0 ∧ HT.sIx xs.length xs.length hi = xs.length) → ∀ p, H p = none → Q (.ref p) (upd H p (.tup (cutV xs lo hi))))
theorem sl_tupW : SlR X (rSlW X.K) := by
  intro pins s σ H x v vl vu lo hi sl Q I rx hs pl pu h
  obtain ⟨a, xs, rfl, hx, q1, q2⟩ := h
  by_cases hw : HT.sIx xs.length 0 lo = 0 ∧ HT.sIx xs.length xs.length hi = xs.length
  · cases rx
    obtain ⟨its, r, ht, hz⟩ := I.tuple hx
    have hlen : its.toArray.size = xs.length := by rw [List.size_toArray]; exact r.length.symm
    refine ⟨"tuple", _, PyProof.Rows.slot_tuple_getitem.lookup, ht.typeIs, ?_⟩
    exact HT.getItem_tuple_whole ht hs pl pu (by rw [hlen]; exact hw) ⟨.ref a, H, I, rfl, q1 hw⟩
  · exact sl_tup pins s σ H _ v vl vu lo hi sl Q I rx hs pl pu ⟨a, xs, rfl, hx, hw, q2 hw⟩
end
end L2
/-! The rules that read through the fragment, with the fragment named: so that a block's terms do not hang on the block's context. -/
namespace L2
open PySem PySem.Spec PyProof.Rows
section
variable {X : Cx} (K : PySem.W.Frag)
theorem sl_listK (h : X.K = K := by rfl) : SlR X (rSlL K) := by subst h; exact sl_list
theorem pi_listK {tg l : Expr} {tl : TE} (hl : PE X l tl) (h : X.K = K := by rfl) : PI X tg l (iList K tl) := by subst h; exact pi_list hl
theorem pi_tupK {tg l : Expr} {tl : TE} (hl : PE X l tl) (h : X.K = K := by rfl) : PI X tg l (iTup K tl) := by subst h; exact pi_tup hl
theorem pg_tupK {es : List Expr} {k : Nat} {t : TGs} {n : Nat} {pos : Pos} (hc : X.calm = true) (hg : PGs X es t)
    (hn : (assignEach es X.env).length = n := by rfl) (hst : (assignEach es X.env).findIdx? (·.1) = none := by rfl) (h : X.K = K := by rfl) : PG X (.Tuple es k pos) (gTup K n t) := by
  subst h; exact pg_tup hc hg hn hst
end
end L2
/-! The forms of a comprehension that one uses. -/
namespace L2
open PySem PySem.Spec PyProof.Rows

/-- what tComp asks of an iterator -/
def CompW (n : Nat) (js : List Nat) (g : TG) (tc : TT) (te : TE) (σ : St) (Q : VK) (J : It) (H1 : Hp) : Prop :=
  ∀ D, H1 D = none → ∃ W : Nat → Nat → List V → Hp → Prop, (∃ m, W 0 m [] (upd H1 D (.lst []))) ∧ ∀ i m acc H, W i m acc H →
    H D = some (.lst acc) ∧ ((J.stop i H ∧ Q (.ref D) H) ∨ (J.go i H ∧ acc.length < sizeLine ∧ ∃ Nx : List V → Hp → Prop, (∀ acc' H', Nx acc' H' → ∃ m', m' < m ∧ W (i + 1) m' acc' H') ∧
      ∀ x H', J.yld i H x H' → g x (cSt n js σ) H' fun σ2 H2 => σ2.drop n = (cSt n js σ).drop n ∧ tc σ2 H2 fun b H3 => if b = true then te σ2 H3 fun v H4 => H4 D = some (.lst acc) ∧ Nx (acc ++ [v]) (upd H4 D (.lst (acc ++ [v]))) else H3 D = some (.lst acc) ∧ Nx acc H3))
section
variable {n : Nat} {js : List Nat} {g : TG} {tc : TT} {te : TE} {σ : St} {Q : VK} {H1 : Hp}
/-- over a list that stays -/
theorem comp_list {K : PySem.W.Frag} {a : Addr} {xs : List V} (hz : xs.length ≤ sizeLine) (Pv : Addr → Nat → List V → Hp → Prop) (h0 : ∀ D, H1 D = none → Pv D 0 [] (upd H1 D (.lst [])))
    (hl : ∀ D i acc H, H1 D = none → i ≤ xs.length → Pv D i acc H → H D = some (.lst acc) ∧ SqL K H a xs ∧ acc.length ≤ i)
    (hs : ∀ D i x acc H, H1 D = none → xs[i]? = some x → Pv D i acc H → g x (cSt n js σ) H fun σ2 H2 => σ2.drop n = (cSt n js σ).drop n ∧ tc σ2 H2 fun b H3 => if b = true then te σ2 H3 fun v H4 => H4 D = some (.lst acc) ∧ Pv D (i + 1) (acc ++ [v]) (upd H4 D (.lst (acc ++ [v]))) else H3 D = some (.lst acc) ∧ Pv D (i + 1) acc H3)
    (hd : ∀ D acc H, H1 D = none → Pv D xs.length acc H → Q (.ref D) H) : CompW n js g tc te σ Q (Itl K a) H1 := by
  intro D hD
  refine ⟨fun i m acc H => m = xs.length - i ∧ i ≤ xs.length ∧ Pv D i acc H, ⟨xs.length, by simp, Nat.zero_le _, h0 D hD⟩, ?_⟩
  rintro i m acc H ⟨rfl, hi, p⟩
  obtain ⟨e1, q, e3⟩ := hl D i acc H hD hi p
  refine ⟨e1, ?_⟩
  by_cases hlt : i < xs.length
  · refine .inr ⟨⟨xs, xs[i], q, by simp [hlt]⟩, by omega, Pv D (i + 1), fun acc' H' p' => ⟨xs.length - (i + 1), by omega, rfl, hlt, p'⟩, fun x H' y => ?_⟩
    obtain ⟨e, y⟩ := y
    subst e
    exact hs D i x acc _ hD (y xs q) p
  · have e : i = xs.length := by omega
    subst e
    exact .inl ⟨⟨xs, q, Nat.le_refl _⟩, hd D acc H hD p⟩
/-- over a range -/
theorem comp_range {lo : Int} {m : Nat} (hz : m ≤ sizeLine) (Pv : Addr → Nat → List V → Hp → Prop) (h0 : ∀ D, H1 D = none → Pv D 0 [] (upd H1 D (.lst [])))
    (hl : ∀ D i acc H, H1 D = none → i ≤ m → Pv D i acc H → H D = some (.lst acc) ∧ acc.length ≤ i)
    (hs : ∀ D i acc H, H1 D = none → i < m → Pv D i acc H → g (.int (lo + i)) (cSt n js σ) H fun σ2 H2 => σ2.drop n = (cSt n js σ).drop n ∧ tc σ2 H2 fun b H3 => if b = true then te σ2 H3 fun v H4 => H4 D = some (.lst acc) ∧ Pv D (i + 1) (acc ++ [v]) (upd H4 D (.lst (acc ++ [v]))) else H3 D = some (.lst acc) ∧ Pv D (i + 1) acc H3)
    (hd : ∀ D acc H, H1 D = none → Pv D m acc H → Q (.ref D) H) : CompW n js g tc te σ Q (Itr lo m) H1 := by
  intro D hD
  refine ⟨fun i k acc H => k = m - i ∧ i ≤ m ∧ Pv D i acc H, ⟨m, by simp, Nat.zero_le _, h0 D hD⟩, ?_⟩
  rintro i k acc H ⟨rfl, hi, p⟩
  obtain ⟨e1, e3⟩ := hl D i acc H hD hi p
  refine ⟨e1, ?_⟩
  by_cases hlt : i < m
  · refine .inr ⟨hlt, by omega, Pv D (i + 1), fun acc' H' p' => ⟨m - (i + 1), by omega, rfl, hlt, p'⟩, fun x H' y => ?_⟩
    obtain ⟨e, y⟩ := y
    subst e y
    exact hs D i acc _ hD hlt p
  · have e : i = m := by omega
    subst e
    exact .inl ⟨Nat.le_refl _, hd D acc H hD p⟩

theorem Same.upd_new {H : Hp} {a : Addr} {o : HO} (h : H a = none) : Same H (upd H a o) := fun b u e => by
  rw [upd_ne (ne_of_none e h)]
  exact e
theorem Same.upd {H0 H : Hp} {a : Addr} {o : HO} (e : Same H0 H) (h : H0 a = none) : Same H0 (upd H a o) := fun b u q => by
  rw [upd_ne (ne_of_none q h)]
  exact e b u q
theorem gName_mono (i : Nat) : ∀ (x : V) (σ : St) (H : Hp) (P P' : St → Hp → Prop), (∀ σ2 H2, P σ2 H2 → P' σ2 H2) → gName i x σ H P → gName i x σ H P' := fun _ _ _ _ _ h q => h _ _ q
end

/-! ### readings in short, for simp -/
section
variable {H : Hp} {Q : VK} {i j : Int} {b c : Bool} {x y : Str}
theorem rEq_ii : rEq (.int i) (.int j) H Q = Q (.bl (decide (i = j))) H := by simp [rEq, scal]
theorem rNe_bb : rNe (.bl b) (.bl c) H Q = Q (.bl (!decide (b = c))) H := by simp [rNe, scal]
theorem cmul_mod {a m b : Int} (h0 : 0 < m) (h1 : m ≤ 2147483648) : CMul (a % m) b := by
  have h2 := Int.emod_nonneg a (show m ≠ 0 by omega)
  have h3 := Int.emod_lt_of_pos a h0
  exact .inl ⟨by omega, by omega⟩
end
/-- what tFor asks of an iterator -/
def ForW (g : TG) (tb : TS) (D : Ends) (σ : St) (J : It) (H1 : Hp) : Prop := ∃ W : Nat → Nat → St → Hp → Prop, (∃ m, W 0 m σ H1) ∧ ∀ i m σ H, W i m σ H →
  (J.stop i H ∧ D.nx σ H) ∨ (J.go i H ∧ ∃ N : St → Hp → Prop, (∀ σ' H', N σ' H' → ∃ m', m' < m ∧ W (i + 1) m' σ' H') ∧ ∀ x H', J.yld i H x H' → g x σ H' fun σ2 H2 => tb { D with nx := N, ct := N, bk := D.nx } σ2 H2)
theorem tFor_eq {wi : TI} {g : TG} {tb : TS} {D : Ends} {σ : St} {H : Hp} : tFor wi g tb D σ H = wi σ H fun J H1 => ForW g tb D σ J H1 := rfl
theorem tComp_eq {n : Nat} {js : List Nat} {wi : TI} {g : TG} {tc : TT} {te : TE} {σ : St} {H : Hp} {Q : VK} : tComp n js wi g tc te σ H Q = wi σ H fun J H1 => CompW n js g tc te σ Q J H1 := rfl
/-- what was just made -/
theorem new_same {H H' : Hp} {p : Addr} {o : HO} (h : upd H p o = H') (hp : H p = none) : Same H H' ∧ H' p = some o := by
  subst h
  exact ⟨Same.upd_new hp, upd_same⟩
end L2
/-! Lists of tuples of ints on the abstract heap. -/
namespace L2
open PySem PySem.Spec PyProof.Rows
def TupI (H : Hp) (x : V) (d : List Int) : Prop := ∃ t, x = .ref t ∧ H t = some (.tup (d.map V.int))
abbrev DeedsX (H : Hp) (xs : List V) (ds : List (List Int)) : Prop := Paired (TupI H) xs ds
def DeedsAt (H : Hp) (a : Addr) (ds : List (List Int)) : Prop := ∃ xs, H a = some (.lst xs) ∧ DeedsX H xs ds
def dD (d : List Int) : PyData := .tuple (d.map PyData.int)
section
variable {H H' : Hp} {x : V} {d : List Int} {xs ys : List V} {ds es : List (List Int)} {a : Addr} {o : HO}
theorem TupI.same (e : Same H H') (h : TupI H x d) : TupI H' x d := let ⟨t, p, q⟩ := h; ⟨t, p, e _ _ q⟩
theorem TupI.upd (h : TupI H x d) (ha : ∀ zs, H a ≠ some (.tup zs)) : TupI (upd H a o) x d := by
  obtain ⟨t, p, q⟩ := h
  refine ⟨t, p, ?_⟩
  rw [upd_ne]
  · exact q
  · rintro rfl; exact ha _ q
theorem DeedsX.same (e : Same H H') (h : DeedsX H xs ds) : DeedsX H' xs ds := Paired.mapP h fun _ _ z => z.same e
theorem DeedsX.upd (h : DeedsX H xs ds) (ha : ∀ zs, H a ≠ some (.tup zs)) : DeedsX (upd H a o) xs ds := Paired.mapP h fun _ _ z => z.upd ha
theorem DeedsX.len (h : DeedsX H xs ds) : xs.length = ds.length := Paired.length h
theorem paired_append {α β : Type} {F : α → β → Prop} : ∀ {l1 m1 : List α} {l2 m2 : List β}, Paired F l1 l2 → Paired F m1 m2 → Paired F (l1 ++ m1) (l2 ++ m2)
  | _, _, _, _, .nil, s => s
  | _, _, _, _, .cons r t, s => .cons r (paired_append t s)
theorem paired_get {α β : Type} {F : α → β → Prop} : ∀ {l1 : List α} {l2 : List β} {i : Nat} {x : α}, Paired F l1 l2 → l1[i]? = some x → ∃ y, l2[i]? = some y ∧ F x y
  | _, _, _, _, .nil, e => by simp at e
  | _, _, 0, _, .cons r _, e => by simp at e; subst e; exact ⟨_, rfl, r⟩
  | _, _, i + 1, x, .cons _ t, e => by
    obtain ⟨u, h1, h2⟩ := paired_get (i := i) (x := x) t (by simpa using e)
    exact ⟨u, by simpa using h1, h2⟩
theorem DeedsAt.same (e : Same H H') (h : DeedsAt H a ds) : DeedsAt H' a ds := let ⟨xs, p, q⟩ := h; ⟨xs, e _ _ p, q.same e⟩
theorem hasAll_ints {K : PySem.W.Frag} : ∀ d : List Int, HasAll K H (d.map V.int) (d.map PyData.int)
  | [] => .nil
  | i :: d => .cons (.int i) (hasAll_ints d)
theorem TupI.has {K : PySem.W.Frag} (h : TupI H x d) : Has K H x (dD d) := by
  obtain ⟨t, rfl, e⟩ := h
  exact .tup (SqT.of e) (hasAll_ints d)
theorem DeedsX.has {K : PySem.W.Frag} : ∀ {xs : List V} {ds : List (List Int)}, DeedsX H xs ds → HasAll K H xs (ds.map dD)
  | _, _, .nil => .nil
  | _, _, .cons r t => .cons r.has (DeedsX.has t)
theorem DeedsAt.has {K : PySem.W.Frag} (h : DeedsAt H a ds) : Has K H (.ref a) (.list (ds.map dD)) := let ⟨_, p, q⟩ := h; .lst (SqL.of p) q.has
/-! equality of such data -/
/-! cuts -/
theorem cutV_map (d : List Int) (lo hi : Option Int) : ∃ e : List Int, cutV (d.map V.int) lo hi = e.map V.int := by
  unfold cutV
  exact ⟨(d.drop (HT.sIx (d.map V.int).length 0 lo)).take (HT.sIx (d.map V.int).length (d.map V.int).length hi - HT.sIx (d.map V.int).length 0 lo), by rw [List.map_take, List.map_drop]⟩
end
end L2
/-! Own classes in short; dicts with written keys; is with a truth. -/
namespace L2
open PySem PySem.Spec PyProof.Rows
/-- the method m of the class at C stands as st -/
def DefM (K : PySem.W.Frag) (C : Addr) (m qual : Str) (st : Stmt) : Prop := ∃ f fd, Meth K C m f ∧ Fun K m qual st f fd
/-- the class's __init__ stands as st, and the class can be made -/
def DefI (K : PySem.W.Frag) (C : Addr) (qual : Str) (st : Stmt) : Prop := ∃ f fd, Mk K C f ∧ Fun K "__init__" qual st f fd
def OwnM (P : Program) (w : World) (K : PySem.W.Frag) (mg : Str → Option Value) (base : Heap) (k : Nat) (C : Addr) (m : Str) (ps : List Str) (sp : Sp) : Prop :=
  ∃ f fd, Meth K C m f ∧ Binds K fd ps [] ∧ FnOk P w K mg base CX0 k f fd ps sp
def OwnI (P : Program) (w : World) (K : PySem.W.Frag) (mg : Str → Option Value) (base : Heap) (k : Nat) (C : Addr) (ps : List Str) (sp : Sp) : Prop :=
  ∃ f fd, Mk K C f ∧ Binds K fd ps [] ∧ FnOk P w K mg base CX0 k f fd ps sp
/-- the class x stands at C; none of it or above it has the names -/
structure ClsD (K : PySem.W.Frag) (mg : Str → Option Value) (x : Str) (C : Addr) (attrs : List Str) : Prop where
  mgC : mg x = some (.ref C)
  cl : Cls K C
  no : ∀ f ∈ attrs, NoAttr K C f
section
variable {P : Program} {w : World} {K : PySem.W.Frag} {mg : Str → Option Value} {base : Heap} {C : Addr} {m qual : Str} {st : Stmt} {N ps : List Str} {k : Nat} {sp : Sp}
theorem DefM.own (D : DefM K C m qual st) (S : FnScope N ps (defScope st))
    (hb : ∀ (kV doc pm : Value) (an : Option Addr) (cdv ct : Value) (us : List Value), us.length = ps.length → bindArgs (PySem.W.fnOf m qual (defArgs st) (defBody st) (defScope st) .none kV doc pm an cdv ct) ⟨us, []⟩ = pure (ps.zip us))
    (len : ∀ vs H Q E, sp vs H Q E → vs.length = ps.length)
    (hbody : ∀ (f : Addr) (cdv : Value) (A : Around) (outer : List Env) (s : Shared) (H : Hp) (vs : List V) (Q : VK) (E : XK), Room k (A.deeper (envOfC qual (defScope st) s.heap.objs.size f cdv)) → sp vs H Q E →
      ∃ t, PSs (cxOf CX0 P w K mg base N qual (defScope st) f cdv A outer s H E).nox (defBody st) t ∧ t { nx := fun _ H' => Q .non H', rt := Q } (start N vs) H) : OwnM P w K mg base (k + 1) C m ps sp := by
  obtain ⟨f, fd, hm, F⟩ := D
  exact ⟨f, fd, hm, F.binds hb, F.ok S len (hbody f)⟩
theorem DefI.own (D : DefI K C qual st) (S : FnScope N ps (defScope st))
    (hb : ∀ (kV doc pm : Value) (an : Option Addr) (cdv ct : Value) (us : List Value), us.length = ps.length → bindArgs (PySem.W.fnOf "__init__" qual (defArgs st) (defBody st) (defScope st) .none kV doc pm an cdv ct) ⟨us, []⟩ = pure (ps.zip us))
    (len : ∀ vs H Q E, sp vs H Q E → vs.length = ps.length)
    (hbody : ∀ (f : Addr) (cdv : Value) (A : Around) (outer : List Env) (s : Shared) (H : Hp) (vs : List V) (Q : VK) (E : XK), Room k (A.deeper (envOfC qual (defScope st) s.heap.objs.size f cdv)) → sp vs H Q E →
      ∃ t, PSs (cxOf CX0 P w K mg base N qual (defScope st) f cdv A outer s H E).nox (defBody st) t ∧ t { nx := fun _ H' => Q .non H', rt := Q } (start N vs) H) : OwnI P w K mg base (k + 1) C ps sp := by
  obtain ⟨f, fd, hm, F⟩ := D
  exact ⟨f, fd, hm, F.binds hb, F.ok S len (hbody f)⟩
end
section
variable {X : Cx} {j k : Nat} {C : Addr} {x m : Str} {ps : List Str} {sp : Sp} {p pos apos : Pos} {o e : Expr} {es : List Expr} {ta : TE} {t : TA}
end
/-- a name of the top that holds a known value -/
theorem pe_glb {X : Cx} {x : Str} {v : V} {pos : Pos} (h : ∃ u, X.mg x = some u ∧ RelV v u) (hg : Gl X x := by rfl) (hd : (x == ("__debug__" : Str)) = false := by decide) : PE X (.Name x pos) (tC v) := by
  obtain ⟨u, hm, r⟩ := h
  exact pe_glob hg hm r hd
/-! dicts with written text keys -/
theorem DGet.s {H : Hp} {a : Addr} {kvs : List (Key × V)} {x : Str} {v : V} (e : H a = some (.dK kvs)) (h : valV kvs (Sum.inr x : Key) = some v) : DGet H a (.str x) (some v) := by
  have := DGet.k (k := Sum.inr x) e
  rw [h] at this
  exact this
theorem DPut.s {H : Hp} {a : Addr} {kvs : List (Key × V)} {x : Str} {v : V} {kvs' : List (Key × V)} (e : H a = some (.dK kvs)) (hl : kvs.length < sizeLine) (h : putK kvs (Sum.inr x : Key) v = kvs') : DPut H a (.str x) v (upd H a (.dK kvs')) := by
  subst h
  exact DPut.k (k := Sum.inr x) e hl
section
variable {X : Cx} {o value : Expr} {td tv : TE} {x : Str} {j : Nat} {pos pos' cpos : Pos}
end
/-- a block over a tuple -/
theorem comp_tup {n : Nat} {js : List Nat} {g : TG} {tc : TT} {te : TE} {σ : St} {Q : VK} {H1 : Hp} {K : PySem.W.Frag} {a : Addr} {xs : List V} (hz : xs.length ≤ sizeLine) (Pv : Addr → Nat → List V → Hp → Prop) (h0 : ∀ D, H1 D = none → Pv D 0 [] (upd H1 D (.lst [])))
    (hl : ∀ D i acc H, H1 D = none → i ≤ xs.length → Pv D i acc H → H D = some (.lst acc) ∧ SqT K H a xs ∧ acc.length ≤ i)
    (hs : ∀ D i x acc H, H1 D = none → xs[i]? = some x → Pv D i acc H → g x (cSt n js σ) H fun σ2 H2 => σ2.drop n = (cSt n js σ).drop n ∧ tc σ2 H2 fun b H3 => if b = true then te σ2 H3 fun v H4 => H4 D = some (.lst acc) ∧ Pv D (i + 1) (acc ++ [v]) (upd H4 D (.lst (acc ++ [v]))) else H3 D = some (.lst acc) ∧ Pv D (i + 1) acc H3)
    (hd : ∀ D acc H, H1 D = none → Pv D xs.length acc H → Q (.ref D) H) : CompW n js g tc te σ Q (Itt K a) H1 := by
  intro D hD
  refine ⟨fun i m acc H => m = xs.length - i ∧ i ≤ xs.length ∧ Pv D i acc H, ⟨xs.length, by simp, Nat.zero_le _, h0 D hD⟩, ?_⟩
  rintro i m acc H ⟨rfl, hi, p⟩
  obtain ⟨e1, q, e3⟩ := hl D i acc H hD hi p
  refine ⟨e1, ?_⟩
  by_cases hlt : i < xs.length
  · refine .inr ⟨⟨xs, xs[i], q, by simp [hlt]⟩, by omega, Pv D (i + 1), fun acc' H' p' => ⟨xs.length - (i + 1), by omega, rfl, hlt, p'⟩, fun x H' y => ?_⟩
    obtain ⟨e, y⟩ := y
    subst e
    exact hs D i x acc _ hD (y xs q) p
  · have e : i = xs.length := by omega
    subst e
    exact .inl ⟨⟨xs, q, Nat.le_refl _⟩, hd D acc H hD p⟩
end L2
namespace K04
/-! The mathematics of a list's fairness: over flags, true where a deed has no delay. -/
def Run (c : List Bool) (k : Nat) : Prop := ∃ i, i + k ≤ c.length ∧ ∀ j, j < k → c[i + j]? = some true
def Tail (c : List Bool) (k : Nat) : Prop := k ≤ c.length ∧ ∀ j, j < k → c[c.length - k + j]? = some true

theorem Run.snoc {c : List Bool} {e : Bool} {k : Nat} : Run (c ++ [e]) k ↔ Run c k ∨ Tail (c ++ [e]) k := by
  constructor
  · rintro ⟨i, h1, h2⟩
    simp at h1
    by_cases h : i + k = c.length + 1
    · refine .inr ⟨by simp; omega, fun j hj => ?_⟩
      have e2 : (c ++ [e]).length - k + j = i + j := by simp; omega
      rw [e2]; exact h2 j hj
    · refine .inl ⟨i, by omega, fun j hj => ?_⟩
      have := h2 j hj
      rw [List.getElem?_append_left (by omega)] at this
      exact this
  · rintro (⟨i, h1, h2⟩ | ⟨h1, h2⟩)
    · exact ⟨i, by simp; omega, fun j hj => by rw [List.getElem?_append_left (by omega)]; exact h2 j hj⟩
    · exact ⟨(c ++ [e]).length - k, by omega, h2⟩

/-- of k places one after another, round and round, none has a delay -/
def Ring (b : List Bool) (k : Nat) : Prop := ∃ st, st < b.length ∧ ∀ j, j < k → b[(st + j) % b.length]? = some true

theorem Ring.lt {b : List Bool} {k : Nat} (hf : false ∈ b) (h : Ring b k) : k < b.length := by
  obtain ⟨st, hs, h⟩ := h
  rcases Nat.lt_or_ge k b.length with z | z
  · exact z
  · exfalso
    obtain ⟨i, hi, e⟩ := List.mem_iff_getElem.mp hf
    have q := h ((i + b.length - st) % b.length) (Nat.lt_of_lt_of_le (Nat.mod_lt _ (by omega)) z)
    have e2 : (st + (i + b.length - st) % b.length) % b.length = i := by
      rw [Nat.add_mod_mod]
      have : st + (i + b.length - st) = i + b.length := by omega
      rw [this, Nat.add_mod_right, Nat.mod_eq_of_lt hi]
    rw [e2, List.getElem?_eq_getElem hi, e] at q
    cases q

end K04
/-! Letters, pairs under way, a road, over the abstract heap. -/
namespace L2
open PySem PySem.Spec PyProof.Rows
def optV : Option Int → V
  | some n => .int n
  | none => .non
/-- all but the places of S stays -/
def Keep (S : List Addr) (H H' : Hp) : Prop := ∀ b o, H b = some o → b ∉ S → H' b = some o
section
variable {S T : List Addr} {H H1 H2 : Hp} {a b : Addr} {o : HO}
theorem Keep.refl : Keep S H H := fun _ _ h _ => h
theorem Keep.trans (k : Keep S H H1) (j : Keep S H1 H2) : Keep S H H2 := fun b o h n => j b o (k b o h n) n
theorem Same.keep (s : Same H H1) : Keep S H H1 := fun b o h _ => s b o h
theorem Keep.same (k : Keep S H H1) (s : Same H1 H2) : Keep S H H2 := fun b o h n => s b o (k b o h n)
theorem Keep.mono (k : Keep S H H1) (h : ∀ b ∈ S, b ∈ T) : Keep T H H1 := fun b o e n => k b o e fun z => n (h b z)
theorem Keep.upd (k : Keep S H H1) (h : a ∈ S ∨ H a = none) : Keep S H (upd H1 a o) := fun b u e n => by
  rw [upd_ne]
  · exact k b u e n
  · rintro rfl
    rcases h with z | z
    · exact n z
    · rw [z] at e; cases e
theorem Keep.free (k : Keep S H H1) (h : H1 b = none) (hb : b ∉ S) : H b = none := by
  cases e : H b with
  | none => rfl
  | some o => rw [k b o e hb] at h; cases h
/-- what is new may change -/
theorem Keep.less (k : Keep S H1 H2) (s : Same H H1) (h : ∀ b ∈ S, b ∈ T ∨ H b = none) : Keep T H H2 := fun b o e n => k b o (s b o e) fun z => by
  rcases h b z with q | q
  · exact n q
  · rw [q] at e; cases e
end
/-- a letter and what it says -/
inductive LetV (H : Hp) : V → PyData → Prop
  | str {t : Str} (ok : PyData.strOk t = true) : LetV H (.str t) (.str t)
  | int (n : Int) : LetV H (.int n) (.int n)
  | lst {p : Addr} {n : Int} : H p = some (.lst [.int n]) → LetV H (.ref p) (.list [.int n])
  | tup {p : Addr} {t : Str} {n : Int} (ok : PyData.strOk t = true) : H p = some (.tup [.str t, .int n]) → LetV H (.ref p) (.tuple [.str t, .int n])
/-- no letter lies here -/
def Soft (H : Hp) (b : Addr) : Prop := (∀ xs, H b ≠ some (.tup xs)) ∧ ∀ n, H b ≠ some (.lst [.int n])
section
variable {S : List Addr} {H H' : Hp} {x : V} {d : PyData} {b : Addr}
theorem Soft.of_dK {kvs : List (Key × V)} (h : H b = some (.dK kvs)) : Soft H b := ⟨(fun xs e => by rw [h] at e; cases e), (fun n e => by rw [h] at e; cases e)⟩
theorem LetV.keep (k : Keep S H H') (hs : ∀ b ∈ S, Soft H b) : LetV H x d → LetV H' x d
  | .str ok => .str ok
  | .int n => .int n
  | .lst h => .lst (k _ _ h fun z => (hs _ z).2 _ h)
  | .tup ok h => .tup ok (k _ _ h fun z => (hs _ z).1 _ h)
theorem LetV.same (s : Same H H') (h : LetV H x d) : LetV H' x d := h.keep (S := []) s.keep (fun _ z => nomatch z)
theorem LetV.has {K : PySem.W.Frag} : LetV H x d → Has K H x d
  | .str _ => .str _
  | .int n => .int n
  | .lst h => .lst (SqL.of h) (.cons (.int _) .nil)
  | .tup _ h => .tup (SqT.of h) (.cons (.str _) (.cons (.int _) .nil))
theorem LetV.refl : LetV H x d → PyData.eqv d d = true
  | .str t => by simp [PyData.eqv]
  | .int n => by simp [PyData.eqv]
  | .lst h => by simp [PyData.eqv, PyData.eqvAll]
  | .tup _ h => by simp [PyData.eqv, PyData.eqvAll]
theorem LetV.lay : LetV H x d → PyData.canLay0 d = true
  | .str ok => by simp [PyData.canLay0, ok]
  | .int n => by simp [PyData.canLay0]
  | .lst h => by simp [PyData.canLay0, PyData.canLayAll0]
  | .tup ok h => by simp [PyData.canLay0, PyData.canLayAll0, ok]
theorem LetV.depth : LetV H x d → d.depth ≤ 3
  | .str t => by simp [PyData.depth]
  | .int n => by simp [PyData.depth]
  | .lst h => by simp [PyData.depth, PyData.depthAll]
  | .tup _ h => by simp [PyData.depth, PyData.depthAll]
end
def LetsX (H : Hp) (zs : List V) (qs : List PyData) : Prop := Paired (LetV H) zs qs
section
variable {S : List Addr} {H H' : Hp}
theorem LetsX.keep (k : Keep S H H') (hs : ∀ b ∈ S, Soft H b) {zs : List V} {qs : List PyData} (h : LetsX H zs qs) : LetsX H' zs qs := Paired.mapP h fun _ _ z => z.keep k hs
theorem LetsX.same (s : Same H H') {zs : List V} {qs : List PyData} (h : LetsX H zs qs) : LetsX H' zs qs := Paired.mapP h fun _ _ z => z.same s
theorem LetsX.has {K : PySem.W.Frag} : ∀ {zs : List V} {qs : List PyData}, LetsX H zs qs → HasAll K H zs qs
  | _, _, .nil => .nil
  | _, _, .cons r t => .cons r.has (LetsX.has t)
theorem LetsX.refl : ∀ {zs : List V} {qs : List PyData}, LetsX H zs qs → PyData.eqvAll qs qs = true
  | _, _, .nil => by simp [PyData.eqvAll]
  | _, _, .cons r t => by rw [PyData.eqvAll, r.refl, LetsX.refl t]; rfl
theorem LetsX.lay : ∀ {zs : List V} {qs : List PyData}, LetsX H zs qs → PyData.canLayAll0 qs = true
  | _, _, .nil => by simp [PyData.canLayAll0]
  | _, _, .cons r t => by rw [PyData.canLayAll0, r.lay, LetsX.lay t]; rfl
theorem LetsX.depth : ∀ {zs : List V} {qs : List PyData}, LetsX H zs qs → PyData.depthAll qs ≤ 3
  | _, _, .nil => by simp [PyData.depthAll]
  | _, _, .cons r t => by
    have h1 := r.depth
    have h2 := LetsX.depth t
    rw [PyData.depthAll]
    omega
theorem LetsX.shaped {zs : List V} {qs : List PyData} (h : LetsX H zs qs) : SeqAt.shaped (.list qs) = true := by
  have := h.depth
  unfold SeqAt.shaped
  rw [PyData.canLay0, h.lay, PyData.depth, decide_eq_true (by omega)]; rfl
end
/-- a pair of a turn and a letter -/
def PairV (H : Hp) (x : V) (p : Int × PyData) : Prop := ∃ t y, x = .ref t ∧ H t = some (.tup [.int p.1, y]) ∧ LetV H y p.2
def PairsX (H : Hp) (xs : List V) (us : List (Int × PyData)) : Prop := Paired (PairV H) xs us
section
variable {S : List Addr} {H H' : Hp} {xs : List V} {us : List (Int × PyData)} {b : Addr}
theorem PairV.keep (k : Keep S H H') (hs : ∀ b ∈ S, Soft H b) {x : V} {p : Int × PyData} (h : PairV H x p) : PairV H' x p := by
  obtain ⟨t, y, e, h1, h2⟩ := h
  exact ⟨t, y, e, k _ _ h1 fun z => (hs _ z).1 _ h1, h2.keep k hs⟩
theorem PairsX.keep (k : Keep S H H') (hs : ∀ b ∈ S, Soft H b) (h : PairsX H xs us) : PairsX H' xs us := Paired.mapP h fun _ _ z => z.keep k hs
theorem PairsX.same (s : Same H H') (h : PairsX H xs us) : PairsX H' xs us := h.keep (S := []) s.keep (fun _ z => nomatch z)
theorem PairsX.len (h : PairsX H xs us) : xs.length = us.length := Paired.length h
theorem deeds_keep {a : Addr} {ds : List (List Int)} (k : Keep S H H') (hs : ∀ b ∈ S, Soft H b) (ha : a ∉ S) (h : DeedsAt H a ds) : DeedsAt H' a ds := by
  obtain ⟨xs, e, d⟩ := h
  exact ⟨xs, k _ _ e ha, Paired.mapP d fun _ _ ⟨t, p, q⟩ => ⟨t, p, k _ _ q fun z => (hs _ z).1 _ q⟩⟩
theorem Soft.keep {T : List Addr} (k : Keep T H H') (hb : b ∉ T) (hn : H b ≠ none) (h : Soft H b) : Soft H' b := by
  cases e : H b with
  | none => exact absurd e hn
  | some o =>
    have := k b o e hb
    refine ⟨fun xs q => h.1 xs ?_, fun n q => h.2 n ?_⟩
    · rw [this] at q; rw [e]; exact q
    · rw [this] at q; rw [e]; exact q
end
/-- the delays of what is sent in turn z -/
def del (ds : List (List Int)) (z : Int) : List Int := if ds = [] then [1] else ds.getD (z.toNat % ds.length) []
/-! ### a road -/
def rf (l : Addr) (ls la : Option Int) (u : Addr) : List (Str × V) := [("deeds", .ref l), ("last_sent", optV ls), ("last_asked", optV la), ("underway", .ref u)]
section
variable {l u : Addr} {ls la : Option Int}
end
structure RoadAt (C : Addr) (H : Hp) (x dx l u : Addr) (ds : List (List Int)) (ls la : Option Int) (us : List (Int × PyData)) : Prop where
  ins : H x = some (.ins C dx (rf l ls la u))
  deeds : DeedsAt H l ds
  und : ∃ xs, H u = some (.lst xs) ∧ PairsX H xs us
  ne : l ≠ u
section
variable {S : List Addr} {C : Addr} {H H' : Hp} {x dx l u : Addr} {ds : List (List Int)} {ls la : Option Int} {us : List (Int × PyData)}
theorem RoadAt.keep (k : Keep S H H') (hs : ∀ b ∈ S, Soft H b) (hx : x ∉ S) (hl : l ∉ S) (hu : u ∉ S) (R : RoadAt C H x dx l u ds ls la us) : RoadAt C H' x dx l u ds ls la us := by
  obtain ⟨xs, e, p⟩ := R.und
  exact ⟨k _ _ R.ins hx, deeds_keep k hs hl R.deeds, ⟨xs, k _ _ e hu, p.keep k hs⟩, R.ne⟩
theorem RoadAt.same (s : Same H H') (R : RoadAt C H x dx l u ds ls la us) : RoadAt C H' x dx l u ds ls la us := R.keep (S := []) s.keep (fun _ z => nomatch z) (fun z => nomatch z) (fun z => nomatch z) (fun z => nomatch z)
end
/-! ### what isinstance tells of a letter -/
end L2
namespace L2
open PySem PySem.Spec PyProof.Rows
theorem Same.seqT {K : PySem.W.Frag} {H H' : Hp} {a : Addr} {xs : List V} (e : Same H H') (h : SqT K H a xs) : SqT K H' a xs := by
  rcases h with h | h
  · rcases h with h | ⟨o, h⟩
    · exact .inl (.inl (e _ _ h))
    · exact .inl (.inr ⟨o, e _ _ h⟩)
  · exact .inr h
theorem SqT.keep {K : PySem.W.Frag} {S : List Addr} {H H' : Hp} {a : Addr} {xs : List V} (k : Keep S H H') (hs : ∀ b ∈ S, ∃ ys, H b = some (.lst ys)) (h : SqT K H a xs) : SqT K H' a xs := by
  rcases h with h | h
  · rcases h with h | ⟨o, h⟩
    · exact .inl (.inl (k _ _ h fun z => by obtain ⟨ys, e⟩ := hs _ z; rw [h] at e; cases e))
    · exact .inl (.inr ⟨o, k _ _ h fun z => by obtain ⟨ys, e⟩ := hs _ z; rw [h] at e; cases e⟩)
  · exact .inr h
/-- over a tuple, to a written list of values; new things may be made -/
theorem comp_growT {n : Nat} {js : List Nat} {g : TG} {te : TE} {σ : St} {Q : VK} {H1 : Hp} {K : PySem.W.Frag} {a : Addr} {xs : List V} (hx : SqT K H1 a xs) (hz : xs.length ≤ sizeLine) (ys : List V) (hlen : ys.length = xs.length)
    (hs : ∀ (H : Hp) (i : Nat) x y (Q' : VK), xs[i]? = some x → ys[i]? = some y → Same H1 H → (∀ H2, Same H H2 → Q' y H2) → g x (cSt n js σ) H fun σ2 H2 => σ2.drop n = (cSt n js σ).drop n ∧ te σ2 H2 Q')
    (hq : ∀ D H', H1 D = none → Same H1 H' → H' D = some (.lst ys) → Q (.ref D) H') (gm : ∀ x σ H P P', (∀ σ2 H2, P σ2 H2 → P' σ2 H2) → g x σ H P → g x σ H P') : CompW n js g tYes te σ Q (Itt K a) H1 := by
  refine comp_tup hz (fun D i acc H => acc = ys.take i ∧ Same H1 H ∧ H D = some (.lst acc)) (fun D hD => ⟨by simp, Same.upd_new hD, upd_same⟩) ?_ ?_ ?_
  · rintro D i acc H hD hi ⟨rfl, s, e⟩
    exact ⟨e, s.seqT hx, by simp; omega⟩
  · rintro D i x acc H hD hxi ⟨rfl, s, e⟩
    have hi : i < ys.length := by rw [hlen]; exact (List.getElem?_eq_some_iff.mp hxi).1
    refine gm _ _ _ _ _ (fun σ2 H2 h => ⟨h.1, h.2⟩) (hs H i x ys[i] _ hxi (List.getElem?_eq_getElem hi) s fun H2 s2 => ⟨s2 _ _ e, ?_, (s.trans s2).upd hD, upd_same⟩)
    rw [List.take_add_one, List.getElem?_eq_getElem hi]
    simp
  · rintro D acc H hD ⟨rfl, s, e⟩
    rw [← hlen, List.take_length] at e
    exact hq D H hD s e
end L2
/-! Data that cannot change: numbers, texts, tuples of such. -/
namespace L2
open PySem PySem.Spec PyProof.Rows
mutual
inductive Im (H : Hp) : V → PyData → Prop
  | non : Im H .non .none
  | bl (b : Bool) : Im H (.bl b) (.bool b)
  | int (n : Int) : Im H (.int n) (.int n)
  | str {t : Str} (ok : PyData.strOk t = true) : Im H (.str t) (.str t)
  | tup {p : Addr} {xs : List V} {ds : List PyData} : H p = some (.tup xs) → Ims H xs ds → xs.length ≤ 1000 → Im H (.ref p) (.tuple ds)
inductive Ims (H : Hp) : List V → List PyData → Prop
  | nil : Ims H [] []
  | cons {x : V} {xs : List V} {d : PyData} {ds : List PyData} : Im H x d → Ims H xs ds → Ims H (x :: xs) (d :: ds)
end
/-- no tuple lies here -/
def NoT (H : Hp) (b : Addr) : Prop := ∀ xs, H b ≠ some (.tup xs)
section
variable {S : List Addr} {H H' : Hp} {b : Addr}
theorem NoT.of_lst {xs : List V} (h : H b = some (.lst xs)) : NoT H b := fun xs e => by rw [h] at e; cases e
theorem NoT.of_dK {kvs : List (Key × V)} (h : H b = some (.dK kvs)) : NoT H b := fun xs e => by rw [h] at e; cases e
mutual
theorem Im.keep (k : Keep S H H') (hs : ∀ b ∈ S, NoT H b) : ∀ {x : V} {d : PyData}, Im H x d → Im H' x d
  | _, _, .non => .non
  | _, _, .bl b => .bl b
  | _, _, .int n => .int n
  | _, _, .str ok => .str ok
  | _, _, .tup h hx hl => .tup (k _ _ h fun z => hs _ z _ h) (Ims.keep k hs hx) hl
theorem Ims.keep (k : Keep S H H') (hs : ∀ b ∈ S, NoT H b) : ∀ {xs : List V} {ds : List PyData}, Ims H xs ds → Ims H' xs ds
  | _, _, .nil => .nil
  | _, _, .cons r t => .cons (Im.keep k hs r) (Ims.keep k hs t)
end
theorem Im.same (s : Same H H') {x : V} {d : PyData} (h : Im H x d) : Im H' x d := h.keep (S := []) s.keep (fun _ z => nomatch z)
theorem Ims.same (s : Same H H') {xs : List V} {ds : List PyData} (h : Ims H xs ds) : Ims H' xs ds := h.keep (S := []) s.keep (fun _ z => nomatch z)
mutual
theorem Im.has {K : PySem.W.Frag} : ∀ {x : V} {d : PyData}, Im H x d → Has K H x d
  | _, _, .non => .non
  | _, _, .bl b => .bl b
  | _, _, .int n => .int n
  | _, _, .str _ => .str _
  | _, _, .tup h hx _ => .tup (SqT.of h) (Ims.has hx)
theorem Ims.has {K : PySem.W.Frag} : ∀ {xs : List V} {ds : List PyData}, Ims H xs ds → HasAll K H xs ds
  | _, _, .nil => .nil
  | _, _, .cons r t => .cons (Im.has r) (Ims.has t)
end
mutual
theorem Im.refl : ∀ {x : V} {d : PyData}, Im H x d → PyData.eqv d d = true
  | _, _, .non => by simp [PyData.eqv]
  | _, _, .bl b => by simp [PyData.eqv]
  | _, _, .int n => by simp [PyData.eqv]
  | _, _, .str _ => by simp [PyData.eqv]
  | _, _, .tup _ hx _ => by rw [PyData.eqv]; exact Ims.refl hx
theorem Ims.refl : ∀ {xs : List V} {ds : List PyData}, Ims H xs ds → PyData.eqvAll ds ds = true
  | _, _, .nil => by simp [PyData.eqvAll]
  | _, _, .cons r t => by rw [PyData.eqvAll, Im.refl r, Ims.refl t]; rfl
end
mutual
theorem Im.lay : ∀ {x : V} {d : PyData}, Im H x d → PyData.canLay0 d = true
  | _, _, .non => by simp [PyData.canLay0]
  | _, _, .bl b => by simp [PyData.canLay0]
  | _, _, .int n => by simp [PyData.canLay0]
  | _, _, .str ok => by simp [PyData.canLay0, ok]
  | _, _, .tup _ hx _ => by rw [PyData.canLay0]; exact Ims.lay hx
theorem Ims.lay : ∀ {xs : List V} {ds : List PyData}, Ims H xs ds → PyData.canLayAll0 ds = true
  | _, _, .nil => by simp [PyData.canLayAll0]
  | _, _, .cons r t => by rw [PyData.canLayAll0, Im.lay r, Ims.lay t]; rfl
end
theorem Ims.len : ∀ {xs : List V} {ds : List PyData}, Ims H xs ds → xs.length = ds.length
  | _, _, .nil => rfl
  | _, _, .cons _ t => by rw [List.length_cons, List.length_cons, Ims.len t]
theorem Ims.get : ∀ {xs : List V} {ds : List PyData} {i : Nat} {x : V}, Ims H xs ds → xs[i]? = some x → ∃ d, ds[i]? = some d ∧ Im H x d
  | _, _, _, _, .nil, e => by simp at e
  | _, _, 0, _, .cons r _, e => by simp at e; subst e; exact ⟨_, rfl, r⟩
  | _, _, i + 1, x, .cons _ t, e => by
    obtain ⟨u, h1, h2⟩ := Ims.get (i := i) (x := x) t (by simpa using e)
    exact ⟨u, by simpa using h1, h2⟩
theorem Ims.take : ∀ {xs : List V} {ds : List PyData} (n : Nat), Ims H xs ds → Ims H (xs.take n) (ds.take n)
  | _, _, 0, _ => by simp only [List.take_zero]; exact .nil
  | _, _, _ + 1, .nil => .nil
  | _, _, n + 1, .cons r t => .cons r (Ims.take n t)
theorem Ims.drop : ∀ {xs : List V} {ds : List PyData} (n : Nat), Ims H xs ds → Ims H (xs.drop n) (ds.drop n)
  | _, _, 0, r => r
  | _, _, _ + 1, .nil => .nil
  | _, _, n + 1, .cons _ t => Ims.drop n t
theorem Ims.one {x : V} {d : PyData} (h : Im H x d) : Ims H [x] [d] := .cons h .nil
theorem shaped_of {d : PyData} (h : PyData.canLay0 d = true) (hd : d.depth ≤ 64) : SeqAt.shaped d = true := by
  unfold SeqAt.shaped
  rw [h, decide_eq_true hd]; rfl
end
/-! ### sum of a list of numbers -/
section
variable {X : Cx}
end
section
variable {X : Cx} {j k : Nat} {C : Addr} {x m : Str} {ps : List Str} {sp : Sp} {p pos apos : Pos} {o : Expr} {ta : TE}
end
/-! ### numbered parcels -/
/-- a pair of a number and a parcel -/
def pd (p : Int × PyData) : PyData := .tuple [.int p.1, p.2]
section
variable {S : List Addr} {H H' : Hp}
theorem Ims.pair {v : V} {p : Int × PyData} (h : Im H v (pd p)) : ∃ t y, v = .ref t ∧ H t = some (.tup [.int p.1, y]) ∧ Im H y p.2 := by
  unfold pd at h
  cases h with
  | @tup t xs ds e hx hl =>
    cases hx with
    | cons r1 hx =>
      cases r1
      cases hx with
      | cons r2 hx =>
        cases hx
        exact ⟨t, _, rfl, e, r2⟩
theorem Im.pair {t : Addr} {y : V} {n : Int} {d : PyData} (e : H t = some (.tup [.int n, y])) (h : Im H y d) : Im H (.ref t) (pd (n, d)) := .tup e (.cons (.int n) (.cons h .nil)) (by simp)
end
/-- what the taker does with a pair -/
def tk (s : Int × List PyData) (p : Int × PyData) : Int × List PyData := if p.1 = s.1 then (s.1 + 1, s.2 ++ [p.2]) else s
end L2
/-! Readings that may be weakened: what while_by asks of a test. -/
namespace L2
open PySem PySem.Spec PyProof.Rows
/-! ### a list and another one, both only read -/
section
variable {X : Cx}
end
end L2
/-! Readings by what stands at an address itself: they run by simp alone. -/
namespace L2
open PySem PySem.Spec PyProof.Rows
section
variable {X : Cx}
theorem OpR.weak {f : Value → Value → Sem Value} {r r' : R2} (h : OpR X f r) (w : ∀ x y H Q, r' x y H Q → r x y H Q) : OpR X f r' :=
  fun pins s σ H x y v u Q I rx ry q => h pins s σ H x y v u Q I rx ry (w _ _ _ _ q)
theorem IxR.weak {r r' : R2} (h : IxR X r) (w : ∀ x y H Q, r' x y H Q → r x y H Q) : IxR X r' :=
  fun value slice pins s σ H x y v u Q I rx ry q hs => h value slice pins s σ H x y v u Q I rx ry (w _ _ _ _ q) hs
theorem CallR.weak {f : Value} {r r' : List V → Hp → VK → Prop} (h : CallR X f r) (w : ∀ xs H Q, r' xs H Q → r xs H Q) : CallR X f r' :=
  fun pins s σ H xs us Q I rs q => h pins s σ H xs us Q I rs (w _ _ _ q)
theorem SlR.weak {r r' : V → Option Int → Option Int → Hp → VK → Prop} (h : SlR X r) (w : ∀ x l u H Q, r' x l u H Q → r x l u H Q) : SlR X r' :=
  fun pins s σ H x v vl vu lo hi sl Q I rx hs pl pu q => h pins s σ H x v vl vu lo hi sl Q I rx hs pl pu (w _ _ _ _ _ q)

/-! ### a subscript -/
def getO : HO → V → Option V
  | .lst xs, .int i => atI xs i
  | .tup xs, .int i => atI xs i
  | .dK kvs, .int i => valV kvs (Sum.inl i)
  | .dK kvs, .str x => valV kvs (Sum.inr x)
  | _, _ => none
theorem getO_l {xs : List V} {i : Int} : getO (.lst xs) (.int i) = atI xs i := rfl
theorem getO_t {xs : List V} {i : Int} : getO (.tup xs) (.int i) = atI xs i := rfl
def rGet : R2 := fun x y H Q => ∃ p o v, x = .ref p ∧ H p = some o ∧ getO o y = some v ∧ Q v H
theorem ix_dict (hu : X.A.units + 1 < cLine) : IxR X (fun x y H Q => ∃ a v, x = .ref a ∧ DGet H a y (some v) ∧ Q v H) := by
  intro value slice pins s σ H x y v u Q I rx ry h hs
  obtain ⟨a, z, rfl, g, q⟩ := h
  cases rx
  exact tail_any (dict_typeIs I g) PySem.F.slot_dict_getitem.lookup (d_getItem hu I g ry fun w' s3 I3 rw' => ⟨z, H, I3, rw', q⟩) hs
theorem ix_get (hu : X.A.units + 1 < cLine) : IxR X rGet := by
  intro value slice pins s σ H x y v u Q I rx ry h hs
  obtain ⟨p, o, z, rfl, e, g, q⟩ := h
  cases o with
  | lst xs => cases y <;> first | exact ix_list value slice pins s σ H _ _ v u Q I rx ry ⟨p, xs, _, z, rfl, rfl, SqL.of e, g, q⟩ hs | cases g
  | tup xs => cases y <;> first | exact ix_tup value slice pins s σ H _ _ v u Q I rx ry ⟨p, xs, _, z, rfl, rfl, SqT.of e, g, q⟩ hs | cases g
  | dK kvs =>
    cases y with
    | int i => exact ix_dict hu value slice pins s σ H _ _ v u Q I rx ry ⟨p, z, rfl, .inl ⟨kvs, Sum.inl i, .inl e, rfl, g.symm⟩, q⟩ hs
    | str x => exact ix_dict hu value slice pins s σ H _ _ v u Q I rx ry ⟨p, z, rfl, .inl ⟨kvs, Sum.inr x, .inl e, rfl, g.symm⟩, q⟩ hs
    | _ => cases g
  | _ => cases y <;> cases g

/-! ### len -/
def lenO : HO → Option Nat
  | .lst xs => some xs.length
  | .tup xs => some xs.length
  | .dK kvs => some kvs.length
  | _ => none
def lenX (H : Hp) : V → Option Nat
  | .ref p => (H p).bind lenO
  | .str z => if z.length ≤ sizeLine then some z.length else none
  | _ => none
theorem lenX_r {H : Hp} {p : Addr} : lenX H (.ref p) = (H p).bind lenO := rfl
theorem lenO_t {xs : List V} : lenO (.tup xs) = some xs.length := rfl
def rLenX : List V → Hp → VK → Prop := fun xs H Q => ∃ x n, xs = [x] ∧ lenX H x = some n ∧ Q (.int n) H
theorem call_lenX : CallR X (.builtin "len") rLenX := by
  intro pins s σ H xs us Q I r h
  obtain ⟨x, n, rfl, g, q⟩ := h
  cases x with
  | ref p =>
    cases e : H p with
    | none => rw [lenX_r, e] at g; cases g
    | some o =>
      rw [lenX_r, e] at g
      cases o with
      | lst xs => cases g; exact call_len_seq pins s σ H _ us Q I r ⟨p, xs, rfl, .inl (SqL.of e), q⟩
      | tup xs => cases g; exact call_len_seq pins s σ H _ us Q I r ⟨p, xs, rfl, .inr (SqT.of e), q⟩
      | dK kvs =>
        cases g
        obtain ⟨u, rfl, rx⟩ := vals1 r
        cases rx
        exact d_len I (.inl e) fun t s' I' => ⟨.int _, H, I', ⟨t, rfl⟩, q⟩
      | _ => cases g
  | str z =>
    have g' : (if z.length ≤ sizeLine then some z.length else none) = some n := g
    split at g'
    · cases g'
      rename_i hz
      exact call_len_str pins s σ H _ us Q I r ⟨z, rfl, hz, q⟩
    · cases g'
  | _ => cases g

/-! ### truth -/
/-! ### in, not in -/
def inO : HO → V → Option Bool
  | .lst xs, x => if flatV x = true ∧ xs.all flatV = true then some (inV x xs) else none
  | .tup xs, x => if flatV x = true ∧ xs.all flatV = true then some (inV x xs) else none
  | .dK kvs, .int i => some (valV kvs (Sum.inl i)).isSome
  | .dK kvs, .str z => some (valV kvs (Sum.inr z)).isSome
  | _, _ => none
def rInX : R2 := fun x y H Q => ∃ p o b, y = .ref p ∧ H p = some o ∧ inO o x = some b ∧ Q (.bl b) H
theorem op_inX (hu : X.A.units + 1 < cLine) : OpR X (compareOp .In) rInX := by
  intro pins s σ H x y v u Q I rx ry h
  obtain ⟨p, o, b, rfl, e, g, q⟩ := h
  cases o with
  | lst xs =>
    have g' : (if flatV x = true ∧ xs.all flatV = true then some (inV x xs) else none) = some b := g
    split at g'
    · rename_i hz
      cases g'
      exact op_in_seq pins s σ H _ _ v u Q I rx ry ⟨p, xs, rfl, .inl (SqL.of e), hz.1, hz.2, q⟩
    · cases g'
  | tup xs =>
    have g' : (if flatV x = true ∧ xs.all flatV = true then some (inV x xs) else none) = some b := g
    split at g'
    · rename_i hz
      cases g'
      exact op_in_seq pins s σ H _ _ v u Q I rx ry ⟨p, xs, rfl, .inr (SqT.of e), hz.1, hz.2, q⟩
    · cases g'
  | dK kvs =>
    cases ry
    cases x with
    | int i => cases g; exact d_in hu I (.inl ⟨kvs, Sum.inl i, .inl e, rfl, rfl⟩) rx fun s' I' => ⟨.bl _, H, I', rfl, q⟩
    | str z => cases g; exact d_in hu I (.inl ⟨kvs, Sum.inr z, .inl e, rfl, rfl⟩) rx fun s' I' => ⟨.bl _, H, I', rfl, q⟩
    | _ => cases g
  | _ => cases x <;> cases g
/-! ### o[i] = v -/
def setO : HO → V → V → Option HO
  | .lst xs, .int k, v => (ixN xs.length k).map fun j => .lst (xs.set j v)
  | .dK kvs, .int i, v => if kvs.length < sizeLine then some (.dK (putK kvs (Sum.inl i) v)) else none
  | .dK kvs, .str z, v => if kvs.length < sizeLine then some (.dK (putK kvs (Sum.inr z) v)) else none
  | _, _, _ => none
theorem setO_l {xs : List V} {k : Int} {v : V} : setO (.lst xs) (.int k) v = (ixN xs.length k).map fun j => .lst (xs.set j v) := rfl
theorem setO_ds {kvs : List (Key × V)} {z : Str} {v : V} (h : kvs.length ≤ 100000) : setO (.dK kvs) (.str z) v = some (.dK (putK kvs (Sum.inr z) v)) := if_pos (by rw [sizeLine_eq]; omega)
def rSetX : V → V → V → Hp → (Hp → Prop) → Prop := fun o i v H Q => ∃ p ob ob', o = .ref p ∧ H p = some ob ∧ setO ob i v = some ob' ∧ Q (upd H p ob')
theorem set_x (hu : X.A.units + 1 < cLine) : PSet X rSetX := by
  intro pins s σ H o i v ov iv u Q I ro ri rv h
  obtain ⟨p, ob, ob', rfl, e, g, q⟩ := h
  cases ob with
  | lst xs =>
    cases i with
    | int k =>
      cases z : ixN xs.length k with
      | none => rw [setO_l, z] at g; cases g
      | some j =>
        rw [setO_l, z] at g
        cases g
        exact set_list pins s σ H _ _ v ov iv u Q I ro ri rv ⟨p, xs, k, j, rfl, rfl, e, z, q⟩
    | _ => cases g
  | dK kvs =>
    cases ro
    cases i with
    | int k =>
      have g' : (if kvs.length < sizeLine then some (HO.dK (putK kvs (Sum.inl k) v)) else none) = some ob' := g
      split at g'
      · rename_i hz
        cases g'
        exact d_setItem hu I (.inl ⟨kvs, Sum.inl k, e, rfl, hz, rfl⟩) ri rv fun s' I' => ⟨_, I', q⟩
      · cases g'
    | str k =>
      have g' : (if kvs.length < sizeLine then some (HO.dK (putK kvs (Sum.inr k) v)) else none) = some ob' := g
      split at g'
      · rename_i hz
        cases g'
        exact d_setItem hu I (.inl ⟨kvs, Sum.inr k, e, rfl, hz, rfl⟩) ri rv fun s' I' => ⟨_, I', q⟩
      · cases g'
    | _ => cases g
  | _ => cases i <;> cases g

/-! ### slices, list(x), tuple(x) -/
/-- a slice of a tuple, by its content alone -/
def rSlTX : V → Option Int → Option Int → Hp → VK → Prop := fun x lo hi H Q => ∃ a xs, x = .ref a ∧ H a = some (.tup xs) ∧ ∀ p H', (H' = H ∨ (H p = none ∧ H' = upd H p (.tup (cutV xs lo hi)))) → H' p = some (.tup (cutV xs lo hi)) → Q (.ref p) H'
theorem cutV_whole {xs : List V} {lo hi : Option Int} (h : HT.sIx xs.length 0 lo = 0 ∧ HT.sIx xs.length xs.length hi = xs.length) : cutV xs lo hi = xs := by
  unfold cutV
  rw [h.1, h.2]
  simp
theorem sl_TX : SlR X rSlTX := sl_tupW.weak fun _ lo hi H Q ⟨a, xs, e, h, q⟩ => ⟨a, xs, e, SqT.of h, fun w => q a H (.inl rfl) (by rw [cutV_whole w]; exact h), fun _ p hp => q p _ (.inr ⟨hp, rfl⟩) upd_same⟩
def seqO : HO → Option (List V)
  | .lst xs => some xs
  | .tup xs => some xs
  | _ => none
theorem seqO_t {xs : List V} : seqO (.tup xs) = some xs := rfl
def rTupX : List V → Hp → VK → Prop := fun xs H Q => ∃ p ys, xs = [.ref p] ∧ H p = some (.lst ys) ∧ ∀ l, H l = none → Q (.ref l) (upd H l (.tup ys))
theorem call_tupX : CallR X (.type "tuple") rTupX := call_tuple_of.weak fun _ _ _ ⟨p, ys, e, h, q⟩ => ⟨p, ys, e, .inl ⟨SqL.of h, q⟩⟩

/-! ### targets and loops -/
/-! ### equality of scalars, of data -/
/-- data that may be compared -/
def Dt (H : Hp) (v : V) (d : PyData) : Prop := (∀ K : PySem.W.Frag, Has K H v d) ∧ PyData.canLay0 d = true ∧ PyData.eqv d d = true
def Dts (H : Hp) (xs : List V) (ds : List PyData) : Prop := (∀ K : PySem.W.Frag, HasAll K H xs ds) ∧ PyData.canLayAll0 ds = true ∧ PyData.eqvAll ds ds = true
theorem Im.dt {H : Hp} {v : V} {d : PyData} (h : Im H v d) : Dt H v d := ⟨fun _ => h.has, h.lay, h.refl⟩
theorem Ims.dts {H : Hp} {v : List V} {d : List PyData} (h : Ims H v d) : Dts H v d := ⟨fun _ => h.has, h.lay, h.refl⟩
theorem Dt.has {K : PySem.W.Frag} {H : Hp} {v : V} {d : PyData} (h : Dt H v d) : Has K H v d := h.1 K
theorem Dt.lay {H : Hp} {v : V} {d : PyData} (h : Dt H v d) : PyData.canLay0 d = true := h.2.1
theorem Dt.ls {H : Hp} {l : Addr} {xs : List V} {ds : List PyData} (e : H l = some (.lst xs)) (m : Dts H xs ds) : Dt H (.ref l) (.list ds) := ⟨fun K => .lst (SqL.of e) (m.1 K), by rw [PyData.canLay0]; exact m.2.1, by rw [PyData.eqv]; exact m.2.2⟩
theorem Dt.l {H : Hp} {l : Addr} {xs : List V} {ds : List PyData} (e : H l = some (.lst xs)) (m : Ims H xs ds) : Dt H (.ref l) (.list ds) := .ls e m.dts
theorem Dts.nil {H : Hp} : Dts H [] [] := ⟨fun _ => .nil, by simp [PyData.canLayAll0], by simp [PyData.eqvAll]⟩
theorem Dts.cons {H : Hp} {x : V} {xs : List V} {d : PyData} {ds : List PyData} (h : Dt H x d) (t : Dts H xs ds) : Dts H (x :: xs) (d :: ds) :=
  ⟨fun K => .cons (h.1 K) (t.1 K), by rw [PyData.canLayAll0, h.2.1, t.2.1]; rfl, by rw [PyData.eqvAll, h.2.2, t.2.2]; rfl⟩
def rEqX : R2 := fun x y H Q => ∃ d e, Dt H x d ∧ Dt H y e ∧ d.depth ≤ 60 ∧ e.depth ≤ 60 ∧ Q (.bl (PyData.eqv d e)) H
def rNeX : R2 := fun x y H Q => ∃ d e, Dt H x d ∧ Dt H y e ∧ d.depth ≤ 60 ∧ e.depth ≤ 60 ∧ Q (.bl (!PyData.eqv d e)) H
theorem op_eqX (hu : X.A.units + 64 < cLine) : OpR X (compareOp .Eq) rEqX := (op_eqD hu).weak fun _ _ _ _ ⟨d, e, h1, h2, d1, d2, q⟩ => ⟨d, e, h1.has, h2.has, shaped_of h1.lay (by omega), shaped_of h2.lay (by omega), q⟩
theorem op_neX (hu : X.A.units + 64 < cLine) : OpR X (compareOp .NotEq) rNeX := (op_neD hu).weak fun _ _ _ _ ⟨d, e, h1, h2, d1, d2, q⟩ => ⟨d, e, h1.has, h2.has, shaped_of h1.lay (by omega), shaped_of h2.lay (by omega), q⟩

/-! ### methods of a list -/
theorem PE.weak {e : Expr} {t t' : TE} (h : PE X e t) (w : ∀ σ H Q, t' σ H Q → t σ H Q) : PE X e t' := fun pins s σ H Q I q => h pins s σ H Q I (w _ _ _ q)
/-! ### a body in parts -/
theorem use1 {t1 R : TS} {D : Ends} {σ : St} {H : Hp} (Pm : St → Hp → Prop) (key : ∀ σ' H', Pm σ' H' → R D σ' H') (go : ∀ R' : TS, (∀ σ' H', Pm σ' H' → R' D σ' H') → tSeq t1 R' D σ H) : tSeq t1 R D σ H := go R key
theorem use3 {t1 t2 t3 R : TS} {D : Ends} {σ : St} {H : Hp} (Pm : St → Hp → Prop) (key : ∀ σ' H', Pm σ' H' → R D σ' H') (go : ∀ R' : TS, (∀ σ' H', Pm σ' H' → R' D σ' H') → tSeq t1 (tSeq t2 (tSeq t3 R')) D σ H) : tSeq t1 (tSeq t2 (tSeq t3 R)) D σ H := go R key
theorem ixN_20 : ixN 2 0 = some 0 := rfl
theorem ixN_21 : ixN 2 1 = some 1 := rfl
/-! ### the first branch of an if in parts -/
/-! ### small facts for simp -/
theorem atI_0 {α : Type} {a : α} {l : List α} : atI (a :: l) 0 = some a := by simp [atI, ixN]
theorem atI_1 {α : Type} {a b : α} {l : List α} : atI (a :: b :: l) 1 = some b := by
  simp only [atI, ixN, List.length_cons]
  rw [if_pos (by decide), if_pos (by omega)]
  rfl
theorem atI_2 {α : Type} {a b c : α} {l : List α} : atI (a :: b :: c :: l) 2 = some c := by
  simp only [atI, ixN, List.length_cons]
  rw [if_pos (by decide), if_pos (by omega)]
  rfl
theorem atI_3 {α : Type} {a b c d : α} {l : List α} : atI (a :: b :: c :: d :: l) 3 = some d := by
  simp only [atI, ixN, List.length_cons]
  rw [if_pos (by decide), if_pos (by omega)]
  rfl
/-! ### isinstance with a built-in class -/
theorem lenX_s' {H : Hp} {z : Str} : lenX H (.str z) = if z.length ≤ sizeLine then some z.length else none := rfl
theorem inO_l' {xs : List V} {x : V} : inO (.lst xs) x = if flatV x = true ∧ xs.all flatV = true then some (inV x xs) else none := rfl
end
end L2
/-! Loops over texts and over a dict's keys; texts compared. -/
namespace L2
open PySem PySem.Spec PyProof.Rows
section
variable {X : Cx}
/-- the signs of a text -/
def signs (z : Str) : List V := z.cps.toList.map fun c => V.str ⟨#[c]⟩
/-! ### loops and comprehensions over what stands fast -/
/-! ### texts -/
theorem rEq_ss {a b : Str} {H : Hp} {Q : VK} : rEq (.str a) (.str b) H Q = Q (.bl (decide (a = b))) H := by simp [rEq, scal]
theorem rNe_ss {a b : Str} {H : Hp} {Q : VK} : rNe (.str a) (.str b) H Q = Q (.bl (!decide (a = b))) H := by simp [rNe, scal]
/-! ### list(d) -/
/-! ### a, b = a list -/
theorem draw_list {prog : Program} {w : World} {A : Around} {E : Value → Shared → Prop} {it l : Addr} {items : Array Value} (hne : l ≠ it) : ∀ (n i : Nat) (s : Shared) (Q : List Value → Shared → Prop), s.heap.IsListIter it l i → s.heap.IsList l items → i + n ≤ items.size →
    (∀ h', h'.IsListIter it l (i + n) → Heap.SameBut it s.heap h' → Q ((items.toList.drop i).take n) { s with heap := h' }) → wpAny (model prog w) A (draw (.ref it) n) Q E s
  | 0, i, s, Q, hit, _, _, hQ => by
    show wpAny _ _ (pure []) Q E s
    exact wpAny_pure (by simpa using hQ s.heap hit (Heap.SameBut.refl ..))
  | n + 1, i, s, Q, hit, ht, hle, hQ => by
    have hlt : i < items.size := by omega
    show wpAny _ _ (pyNext (.ref it) >>= _) Q E s
    refine wpAny_bind (wpAny_pyNext_list_item hit ht (x := items[i]) (by simp [hlt]) fun h₁ hit₁ hs₁ => ?_)
    have ht1 : h₁.IsList l items := by
      obtain ⟨o, ho, r⟩ := ht
      exact ⟨o, hs₁.extBut _ _ hne ho, r⟩
    refine wpAny_bind (wpAny_holding (draw_list hne n (i + 1) _ _ hit₁ ht1 (by omega) fun h₂ hit₂ hs₂ => wpAny_pure ?_))
    have hd : items.toList.drop i = items[i] :: items.toList.drop (i + 1) := by simp [List.drop_eq_getElem_cons, hlt]
    have := hQ h₂ (by rw [show i + (n + 1) = i + 1 + n by omega]; exact hit₂) (hs₁.trans hs₂)
    rw [hd, List.take_succ_cons] at this
    exact this
theorem unpackItems_list {prog : Program} {w : World} {A : Around} {E : Value → Shared → Prop} {s : Shared} {t : Addr} {items : Array Value} {Q : List Value → Shared → Prop} (hh : A.handled = none) (ht : s.heap.IsList t items)
    (hQ : ∀ h', Heap.ExtBut s.heap.objs.size s.heap h' → Q items.toList { s with heap := h' }) : wpAny (model prog w) A (unpackItems (.ref t) items.size none) Q E s := by
  have hlt : t ≠ s.heap.objs.size := by obtain ⟨o, ho, _⟩ := ht; exact Nat.ne_of_lt (Heap.lt_size ho)
  unfold unpackItems
  refine wpAny_bind ?_
  · unfold notIterableAtAll
    refine wpAny_bind (wpAny_specialOf ht.typeIs PySem.F.slot_list_iter.lookup ?_)
    refine wpAny_pure ?_
    simp only [Bool.false_eq_true, if_false]
    refine wpAny_bind (wpAny_holding (wpAny_pyIter_list ht ?_))
    have ht0 : ∀ o', (s.heap.push o').IsList t items := fun o' => by
      obtain ⟨o, ho, r⟩ := ht
      exact ⟨o, Heap.get?_push_of_some _ ho, r⟩
    refine wpAny_bind (wpAny_holding (draw_list hlt items.size 0 _ _ ⟨_, Heap.get?_push_size _ rfl, rfl, rfl⟩ (ht0 _) (by omega) fun h₁ hit₁ hs₁ => ?_))
    have hall : List.take items.size (List.drop 0 items.toList) = items.toList := by
      rw [List.drop_zero]; exact List.take_of_length_le (by simp)
    rw [hall]
    rw [if_neg (by simp)]
    have ht₁ : h₁.IsList t items := by
      obtain ⟨o, ho, r⟩ := ht0 _
      exact ⟨o, hs₁.extBut _ _ hlt ho, r⟩
    refine wpAny_bind (wpAny_holding (wpAny_pyNext_list_end hh hit₁ ht₁ (by simp) fun h₂ he₂ => ?_))
    simp only [Option.isSome_none, Bool.false_eq_true, if_false]
    refine wpAny_pure (hQ h₂ fun b o hb e => he₂ b o hb (hs₁.extBut b o hb (Heap.get?_push_of_some _ e)))
theorem assign_Tuple_list {prog : Program} {w : World} {A : Around} {E : Value → Shared → Prop} {s : Shared} {env : Env} {elts : List Expr} {x1} {pos : Pos} {t : Addr} {items : Array Value} {Q : Unit → Shared → Prop} (hh : A.handled = none) (ht : s.heap.IsList t items)
    (hn : (assignEach elts env).length = items.size) (hstar : (assignEach elts env).findIdx? (·.1) = none)
    (h : ∀ h', Heap.ExtBut s.heap.objs.size s.heap h' → wpAny (model prog w) A (assignInOrder ((assignEach elts env).map (·.2)) items.toList) Q E { s with heap := h' }) :
    wpAny (model prog w) A (assign (.Tuple elts x1 pos) env (.ref t)) Q E s := by
  rw [assign_Tuple]
  refine wpAny_bind (wpAny_standAt ?_)
  unfold unpack
  rw [hn, hstar]
  exact wpAny_bind (wpAny_holding (unpackItems_list hh ht h))
/-- a, b, .. = a tuple or a list of that length -/
def gSeqX (n : Nat) (t : TGs) : TG := fun v σ H Q => ∃ a o xs, v = .ref a ∧ H a = some o ∧ seqO o = some xs ∧ xs.length = n ∧ t xs σ H Q
theorem pg_seqX {es : List Expr} {k : Nat} {t : TGs} {n : Nat} {pos : Pos} (hc : X.calm = true) (hg : PGs X es t)
    (hn : (assignEach es X.env).length = n := by rfl) (hst : (assignEach es X.env).findIdx? (·.1) = none := by rfl) : PG X (.Tuple es k pos) (gSeqX n t) := by
  intro pins s σ H v u Q I rv q
  obtain ⟨a, o, xs, e, hx, g, hl, q⟩ := q
  cases o with
  | tup ys => cases g; exact pg_tupK (K := X.K) (k := k) (pos := pos) hc hg hn hst rfl pins s σ H v u Q I rv ⟨a, _, e, SqT.of hx, hl, q⟩
  | lst ys =>
    cases g
    subst e
    cases rv
    obtain ⟨its, r, ht, hz⟩ := I.list (SqL.of (K := X.K) hx)
    refine assign_Tuple_list (I.ok.hd hc) ht.isList (by simp [hn, ← hl, r.length]) hst fun h' hx' => ?_
    have I1 : Inv X pins σ H { s with heap := h' } := I.kept (t' := s.toks) fun b o e => hx' b o (Nat.ne_of_lt (Heap.lt_size e)) e
    exact hg pins _ σ H _ _ Q I1 (by simpa using r) q
  | _ => cases g
end
end L2
/-! A dict's keys as a view; sorted. -/
namespace L2
open PySem PySem.Spec PyProof.Rows
section
variable {X : Cx}
/-! ### range objects, list(range(..)) -/
end
end L2
/-! Own exceptions: made, raised, passing, caught. -/
namespace L2
open PySem PySem.Spec PyProof.Rows

/-! ### a traceback entry is laid, the flight ends -/
/-- what a noted exception leaves -/
structure NoteK (fs : List Addr) (e : Addr) (Ts : List Addr) (h h' : Heap) : Prop where
  keep : ∀ b o, h.get? b = some o → b ∉ fs → b ≠ e → b ∉ Ts → h'.get? b = some o
  slot : ∀ b o, h.get? b = some o → b ∈ fs → ∃ sl, h'.get? b = some { o with slots := sl }
  exc : ∀ oe vs, h.get? e = some oe → oe.data = .fields vs → ∃ oe' vs' T, h'.get? e = some oe' ∧ oe'.cls = oe.cls ∧ oe'.dict = oe.dict ∧ oe'.data = .fields vs' ∧ vs'.size = vs.size ∧ vs'[1]? = some (.ref T) ∧
    h.objs.size ≤ T ∧ T ≠ e ∧ ∃ oT ts, h'.get? T = some oT ∧ oT.data = .fields ts ∧ ts[3]? = some .none
  tb : ∀ b ∈ Ts, ∃ o, h'.get? b = some o
/-! ### an exception in the abstract heap -/
/-- an exception of the own class at C, its own dict at od -/
def XO (e C : Addr) (od : Option Addr) : HO := .ext fun h => ∃ oe vs, h.get? e = some oe ∧ oe.cls = .ref C ∧ oe.dict = od ∧ oe.data = .fields vs ∧ 6 ≤ vs.size
theorem XO.mk {P : Program} {w : World} {H : Hp} {h : Heap} {e C : Addr} {od : Option Addr} {oe : Obj} {vs : Array Value} (h1 : h.get? e = some oe) (h2 : oe.cls = .ref C) (h3 : oe.dict = od) (h4 : oe.data = .fields vs) (h5 : 6 ≤ vs.size) :
    ObjOk P w H h e (XO e C od) := ⟨⟨oe, vs, h1, h2, h3, h4, h5⟩, ⟨oe, h1⟩, fun _ _ ⟨oe, vs, q, r⟩ k => ⟨oe, vs, k _ q, r⟩⟩
/-- no other part of the state lies here -/
structure Apart (X : Cx) (pins : List (Addr × Obj)) (H : Hp) (b : Addr) : Prop where
  un : H b = none
  up : X.s₀.heap.objs.size ≤ b
  loc : b ≠ X.env.locals
  cel : ∀ x c, X.env.cells.lookup x = some c → c ≠ b
  pin : ∀ p ∈ X.pn ++ pins, p.1 ≠ b
/-- the exception's traceback: none yet, or one whose flight has ended -/
def Tb (X : Cx) (pins : List (Addr × Obj)) (H : Hp) (h : Heap) (e : Addr) : Prop := ∃ oe vs, h.get? e = some oe ∧ oe.data = .fields vs ∧
  (vs[1]? = some .none ∨ ∃ T oT ts, vs[1]? = some (.ref T) ∧ h.get? T = some oT ∧ oT.data = .fields ts ∧ ts[3]? = some .none ∧ T ≠ e ∧ Apart X pins H T)
section
variable {X : Cx} {pins : List (Addr × Obj)} {σ : St} {H : Hp} {s : Shared} {e C : Addr} {od : Option Addr}
theorem Apart.fresh {b : Addr} (I : Inv X pins σ H s) (h : s.heap.objs.size ≤ b) : Apart X pins H b where
  un := I.hok.fresh h
  up := Nat.le_trans I.sz h
  loc := fun z => absurd (Nat.lt_of_lt_of_le I.lt h) (by rw [z]; exact Nat.lt_irrefl _)
  cel := fun x c q z => by
    obtain ⟨v, o, ho, _⟩ := I.cell x c q
    exact absurd (Nat.lt_of_lt_of_le (Heap.lt_size ho) h) (by rw [z]; exact Nat.lt_irrefl _)
  pin := fun p hp z => by
    obtain ⟨ho, _⟩ := I.pin p hp
    exact absurd (Nat.lt_of_lt_of_le (Heap.lt_size ho) h) (by rw [z]; exact Nat.lt_irrefl _)
theorem Inv.xo (I : Inv X pins σ H s) (he : H e = some (XO e C od)) : ∃ oe vs, s.heap.get? e = some oe ∧ oe.cls = .ref C ∧ oe.dict = od ∧ oe.data = .fields vs ∧ 6 ≤ vs.size := by
  obtain ⟨q, _⟩ := I.hok e _ he
  exact q
/-- behind the noting -/
theorem Inv.noted {h' : Heap} {Ts : List Addr} (I : Inv X pins σ H s) (he : H e = some (XO e C od)) (N : NoteK (frs X.stack) e Ts s.heap h') (hT : ∀ b ∈ Ts, Apart X pins H b) :
    Inv X pins σ H { s with heap := h' } ∧ Tb X pins H h' e := by
  obtain ⟨oe, vs, ge, c1, c2, c3, c4⟩ := I.xo he
  obtain ⟨oe', vs', T, ge', e1, e2, e3, e4, e5, e6, e7, oT, ts, t1, t2, t3⟩ := N.exc oe vs ge c3
  have nfr : ∀ b o, H b = some o → b ∉ frs X.stack := fun b o q hb => by rw [I.stkFree b hb] at q; cases q
  have nts : ∀ b o, H b = some o → b ∉ Ts := fun b o q hb => by rw [(hT b hb).un] at q; cases q
  have hok : HOk X.prog X.w H h' := fun a o q => by
    by_cases ha : a = e
    · subst ha
      rw [he] at q
      cases q
      exact XO.mk ge' (e1.trans c1) (e2.trans c2) e3 (by rw [e4]; exact c4)
    · refine (I.hok a o q).stay (fun b u hb r => ?_) (fun _ r => r) fun _ _ r => r
      rcases hb with rfl | hb
      · exact N.keep b u r (nfr b o q) ha (nts b o q)
      · exact N.keep b u r (nfr b _ hb) (fun z => by rw [z, he] at hb; cases hb) (nts b _ hb)
  have J : Inv X pins σ H { s with heap := h', gens := s.gens, drawn := s.drawn, toks := s.toks } := I.call (ch := Ts) (h' := h') (g' := s.gens) (d' := s.drawn) (t' := s.toks)
    ⟨fun b o q n hb hx => N.keep b o q hb (fun z => by rw [z, he] at n; cases n) hx, fun b o q n hb hx => N.slot b o q hb, fun _ _ _ n _ => n, fun b o q hx => by
      by_cases hb : b ∈ frs X.stack
      · obtain ⟨sl, r⟩ := N.slot b o q hb
        exact ⟨_, r⟩
      · by_cases hbe : b = e
        · exact ⟨_, by rw [hbe]; exact ge'⟩
        · exact ⟨o, N.keep b o q hb hbe hx⟩, fun _ _ q => q, fun _ _ _ q => q, fun _ ps q => ⟨#[], by rw [q]; simp⟩⟩ hok I.bare fun b hb => ⟨.inr (hT b hb).up, (hT b hb).loc, (hT b hb).cel, (hT b hb).pin⟩
  exact ⟨J, oe', vs', ge', e3, .inr ⟨T, oT, ts, e5, t1, t2, t3, e7, Apart.fresh I e6⟩⟩
end

/-! ### judgements with a second way out -/
/-- what is wanted of an exception: the names, itself, the abstract heap behind it -/
abbrev XS := St → Addr → Hp → Prop
def XP (X : Cx) (pins : List (Addr × Obj)) (E : XS) (v : Value) (s' : Shared) : Prop := ∃ e σ' H', v = .ref e ∧ Inv X pins σ' H' s' ∧ (∃ C od, H' e = some (XO e C od)) ∧ Tb X pins H' s'.heap e ∧ E σ' e H'
abbrev TSx := Ends → XS → St → Hp → Prop
abbrev TEx := St → Hp → VK → (Addr → Hp → Prop) → Prop
section
variable {X : Cx} {st : Stmt} {sts rest : List Stmt} {t : TS} {tx ux : TSx} {e : Expr} {tex : TEx} {pos : Pos}
end

/-! ### an exception behind a call -/
def TbF (n0 : Nat) (H : Hp) (h : Heap) (e : Addr) : Prop := ∃ oe vs, h.get? e = some oe ∧ oe.data = .fields vs ∧
  (vs[1]? = some .none ∨ ∃ T oT ts, vs[1]? = some (.ref T) ∧ h.get? T = some oT ∧ oT.data = .fields ts ∧ ts[3]? = some .none ∧ T ≠ e ∧ H T = none ∧ n0 ≤ T)
def CXx (P : Program) (w : World) : CXT := fun outer H s E v s' => ∃ e H', v = .ref e ∧ s'.os = s.os ∧ AllBare s'.gens ∧ Un (frs outer) [] H H' s.heap s'.heap ∧ HOk P w H' s'.heap ∧ (∃ C od, H' e = some (XO e C od)) ∧ TbF s.heap.objs.size H' s'.heap e ∧ E (.ref e) none H'
section
variable {X : Cx} {k : Nat} {f C : Addr} {fd : FuncData} {ps : List Str} {sp : Sp} {x m : Str} {p pos apos : Pos} {e o : Expr} {es : List Expr} {ta : TE} {t : TA}
def OwnX (P : Program) (w : World) (K : PySem.W.Frag) (mg : Str → Option Value) (base : Heap) (k : Nat) (x : Str) (ps : List Str) (sp : Sp) : Prop :=
  ∃ f fd, mg x = some (.ref f) ∧ PySem.W.keepIn K (.ref f) = true ∧ Binds K fd ps [] ∧ FnOk P w K mg base (CXx P w) k f fd ps sp
def OwnMX (P : Program) (w : World) (K : PySem.W.Frag) (mg : Str → Option Value) (base : Heap) (k : Nat) (C : Addr) (m : Str) (ps : List Str) (sp : Sp) : Prop :=
  ∃ f fd, Meth K C m f ∧ Binds K fd ps [] ∧ FnOk P w K mg base (CXx P w) k f fd ps sp
def OwnIX (P : Program) (w : World) (K : PySem.W.Frag) (mg : Str → Option Value) (base : Heap) (k : Nat) (C : Addr) (ps : List Str) (sp : Sp) : Prop :=
  ∃ f fd, Mk K C f ∧ Binds K fd ps [] ∧ FnOk P w K mg base (CXx P w) k f fd ps sp
end

/-! ### a def whose body may raise -/
section
variable {P : Program} {w : World} {K : PySem.W.Frag} {mg : Str → Option Value} {base : Heap}
section
variable {x m qual : Str} {C : Addr} {st : Stmt} {N ps : List Str} {k : Nat} {sp : Sp}
end
end
end L2
/-! f-strings; own exceptions made and raised. -/
namespace L2
open PySem PySem.Spec PyProof.Rows
/-! ### f-strings -/
abbrev TJ := St → Hp → (Hp → Prop) → Prop
section
variable {X : Cx} {n : Nat} {e : Expr} {rest : List Expr} {te : TE} {t : TJ} {pos : Pos}
end
/-! ### an object is laid where nothing lay -/
theorem ObjOk.ex {P : Program} {w : World} {H : Hp} {h : Heap} {a : Addr} {o : HO} (x : ObjOk P w H h a o) : ∃ u, h.get? a = some u := by
  cases o with
  | lst xs => obtain ⟨_, _, _, _, e⟩ := x; exact ⟨_, e⟩
  | tup xs => obtain ⟨_, _, _, o, e, _⟩ := x; exact ⟨_, e⟩
  | dK kvs => obtain ⟨_, _, _, _, o, _, _, e, _⟩ := x; exact ⟨_, e⟩
  | dT kvs => obtain ⟨_, _, _, _, o, _, _, e, _⟩ := x; exact ⟨_, e⟩
  | set S n => obtain ⟨o, _, _, _, e, _⟩ := x; exact ⟨_, e⟩
  | ins C dx fs => obtain ⟨_, _, _, e, _⟩ := x; exact ⟨_, e⟩
  | own y => exact x
  | xd fs => obtain ⟨_, ⟨o, _, _, e, _⟩, _⟩ := x; exact ⟨_, e⟩
  | rng lo hi => obtain ⟨_, _, _, e⟩ := x; exact ⟨_, e⟩
  | frz ob u => obtain ⟨e, _⟩ := x; exact ⟨_, e⟩
  | tbl ps => exact ⟨_, x⟩
  | met f y => exact ⟨_, x⟩
  | ext φ => obtain ⟨_, e, _⟩ := x; exact e
section
variable {X : Cx} {pins : List (Addr × Obj)} {σ : St} {H : Hp} {s : Shared}
theorem Inv.none_at {a : Addr} (I : Inv X pins σ H s) (h : s.heap.get? a = none) : H a = none := by
  cases e : H a with
  | none => rfl
  | some o =>
    obtain ⟨u, q⟩ := (I.hok a o e).ex
    rw [h] at q
    cases q
theorem Inv.lay {h' : Heap} {a : Addr} {o : HO} (I : Inv X pins σ H s) (k : ∀ b u, s.heap.get? b = some u → h'.get? b = some u) (hn : s.heap.get? a = none) (new : ObjOk X.prog X.w (upd H a o) h' a o) : Inv X pins σ (upd H a o) { s with heap := h' } := by
  have hH := I.none_at hn
  have ne : ∀ b u, s.heap.get? b = some u → b ≠ a := fun b u q z => by rw [z, hn] at q; cases q
  refine I.un (t' := s.toks) ⟨fun b u q _ _ _ => k b u q, fun b u q _ _ _ => ⟨u.slots, k b u q⟩, fun b u q n _ => by rw [upd_ne (ne b u q)]; exact n, fun b u q _ => ⟨u, k b u q⟩, fun b xs q => by rw [upd_ne (ne_of_none q hH)]; exact q,
    fun b u xs q => by rw [upd_ne (ne_of_none q hH)]; exact q, fun b ps q => ⟨#[], by rw [upd_ne (ne_of_none q hH), q]; simp⟩⟩ fun b u e => ?_
  by_cases hb : b = a
  · subst hb
    rw [upd_same] at e
    cases e
    exact new
  · rw [upd_ne hb] at e
    exact (I.hok b u e).stay (fun c v _ q => k c v q) (fun c q => by rw [upd_ne (ne_of_none q hH)]; exact q) fun c xs q => by rw [upd_ne (ne_of_none q hH)]; exact q
end
/-! ### making -/
abbrev bmV : List Value := [.type "ValueError", .type "Exception", .type "BaseException", .type "object"]
/-- an exception as it was made -/
def Raw (h : Heap) (e C : Addr) (od : Option Addr) : Prop := ∃ t, h.get? e = some { cls := .ref C, dict := od, data := .fields #[.ref t, .none, .none, .none, .bool false, .none] }
/-- an exception that was made and not raised yet -/
def XN (e C : Addr) (od : Option Addr) : HO := .ext fun h => Raw h e C od
theorem Inv.xn {X : Cx} {pins : List (Addr × Obj)} {σ : St} {H : Hp} {s : Shared} {e C : Addr} {od : Option Addr} (I : Inv X pins σ H s) (he : H e = some (XN e C od)) : Raw s.heap e C od := (I.hok e _ he).1
/-- it is raised: from now on its traceback may change -/
theorem Inv.raised {X : Cx} {pins : List (Addr × Obj)} {σ : St} {H : Hp} {s : Shared} {e C : Addr} {od : Option Addr} (I : Inv X pins σ H s) (he : H e = some (XN e C od)) : Inv X pins σ (upd H e (XO e C od)) s := by
  have r := I.xn he
  obtain ⟨t, q⟩ := id r
  exact I.write (t' := s.toks) (x := e) (e := e) (h' := s.heap) (by rw [he]; exact True.intro) (.inl rfl) (fun b u _ z => z) ⟨_, q⟩ (XO.mk q rfl rfl rfl (Nat.le_refl 6))
theorem Raw.ok {P : Program} {w : World} {H : Hp} {h : Heap} {e C : Addr} {od : Option Addr} (r : Raw h e C od) : ObjOk P w H h e (XO e C od) := by
  obtain ⟨t, q⟩ := r
  exact XO.mk q rfl rfl rfl (Nat.le_refl 6)
theorem Raw.tb {X : Cx} {pins : List (Addr × Obj)} {H : Hp} {h : Heap} {e C : Addr} {od : Option Addr} (r : Raw h e C od) : Tb X pins H h e := by
  obtain ⟨t, q⟩ := r
  exact ⟨_, _, q, rfl, .inl rfl⟩
/-- the class at C is an own one over ValueError, the makers' slots as they come -/
def XKin (K : PySem.W.Frag) (C : Addr) : Prop := ∃ nm q N bs bm hdct sn sub ab col dd k0 k1 k2 k3 k5, K.lookup C = some (excClassObj nm q C N bs bm hdct sn sub ab col dd k0 k1 k2 k3 k5 "ValueError.__new__") ∧ PySem.W.tailIn K bmV bm = true
abbrev TN := St → Hp → (Addr → Addr → Option Addr → Hp → Prop) → Prop
section
variable {X : Cx} {C : Addr} {x : Str} {p pos cpos : Pos} {e : Expr} {es : List Expr} {t : TA} {tn : TN}
end
end L2
/-! try and except. -/
namespace L2
open PySem PySem.Spec PyProof.Rows
/-- within the suite of an except -/
abbrev Cx.within (X : Cx) (e : Addr) : Cx := { X with A := X.A.mark (some (.ref e)), calm := false }
section
variable {X : Cx} {pins : List (Addr × Obj)} {σ : St} {H : Hp} {s : Shared} {e C : Addr} {od : Option Addr}
theorem Inv.within (I : Inv X pins σ H s) (e : Addr) : Inv (X.within e) pins σ H s :=
  ⟨⟨I.ok.mod, I.ok.kind, I.ok.glob, I.ok.blt, I.ok.above, I.ok.inj, I.ok.has, I.ok.cab, (fun z => by cases z), I.ok.frames, I.ok.stk, I.ok.exf, I.ok.bs, I.ok.bsz, I.ok.noex, I.ok.exfs, I.ok.funs, I.ok.frf⟩, I.os, I.bare, I.base, I.loc, I.cell, I.free, I.freeC, I.pin, I.hok, I.len⟩
theorem Inv.without (ok : X.Ok) (I : Inv (X.within e) pins σ H s) : Inv X pins σ H s := ⟨ok, I.os, I.bare, I.base, I.loc, I.cell, I.free, I.freeC, I.pin, I.hok, I.len⟩
end
/-- the class at C is an own one below the own one at R -/
def XSub (K : PySem.W.Frag) (C R : Addr) : Prop := ∃ nm q N bs bm hdct sn sub ab col dd k0 k1 k2 k3 k5, K.lookup C = some (excClassObj nm q C N bs bm hdct sn sub ab col dd k0 k1 k2 k3 k5 "ValueError.__new__") ∧ (Value.ref C :: bm).contains (.ref R) = true
section
variable {X : Cx} {R : Addr} {i : Nat} {x n : Str} {body suite : List Stmt} {b0 : Stmt} {tb : TSx} {ts : TS} {np hpos pos : Pos}
end
end L2
/-! attributes of exceptions, isinstance. -/
namespace L2
open PySem PySem.Spec PyProof.Rows PySem.W
/-- what a class of exceptions tells of attributes -/
structure XC (K : PySem.W.Frag) (C : Addr) : Prop where
  ga : findIn K (.ref C) "__getattribute__" = some (some (.builtin "BaseException.__getattribute__"))
  gh : findIn K (.ref C) "__getattr__" = some none
  cl : findIn K (.ref C) "__class__" = some (some (.builtin "object.__class__"))
  gs : specialIn K (.builtin "object.__class__") "__get__" = some (some (.builtin "getset_descriptor.__get__"))
  tk : takesIn K (.builtin "object.__class__") = some true
  ob : mroIn K C (.type "object") = some true
  be : mroIn K C (.type "BaseException") = some true
  hd : hasDictIn K C = true
section
variable {prog : Program} {w : World} {A : Around} {E : Value → Shared → Prop} {s : Shared} {K : PySem.W.Frag} {x C : Addr} {ox : Obj} {od : Option Obj} {name : Str}
end
section
variable {X : Cx} {pins : List (Addr × Obj)} {σ : St} {H : Hp} {s : Shared} {e C : Addr} {od : Option Addr}
/-- the dict of an exception, where it has one, lies tracked -/
def XD (H : Hp) (od : Option Addr) : Prop := ∀ dx, od = some dx → ∃ fs, H dx = some (.xd fs)
end
/-! ### isinstance of exceptions and of None, by own classes -/
/-- the type of x, exceptions too -/
inductive TyX (K : PySem.W.Frag) (H : Hp) : V → Value → Prop where
  | ty {x : V} {t : Value} (h : TyOf K H x t) : TyX K H x t
  | exc {e C : Addr} {od : Option Addr} (he : H e = some (XO e C od)) (hd : XD H od) (T : XC K C) : TyX K H (.ref e) (.ref C)
end L2
/-! exceptions with an __init__ of their own. -/
namespace L2
open PySem PySem.Spec PyProof.Rows PySem.W
section
variable {prog : Program} {w : World} {A : Around} {E : Value → Shared → Prop} {h : Heap} {g : Array GenState} {d : Drawn} {t : Nat} {os : OsState} {K : PySem.W.Frag}
variable {nm q : Str} {C N : Addr} {bs bm : List Value} {hdct : Bool} {sn : List Str} {sub : List Value} {ab : Bool} {col : Option Bool} {dd : Option Addr} {k0 k1 k2 k3 k5 : Option Value}
end
/-- what a class of exceptions with an own __init__ must have to be made -/
structure XMk (K : PySem.W.Frag) (C f : Addr) : Prop where
  kin : XKin K C
  init : findIn K (.ref C) "__init__" = some (some (.ref f))
  fn : isFn K (.ref f) = true
  kp : keepIn K (.ref C) = true
def OwnE (P : Program) (w : World) (K : PySem.W.Frag) (mg : Str → Option Value) (base : Heap) (k : Nat) (C : Addr) (ps : List Str) (sp : Sp) : Prop :=
  ∃ f fd, XMk K C f ∧ Binds K fd ps [] ∧ FnOk P w K mg base CX0 k f fd ps sp
section
variable {X : Cx} {C : Addr} {x : Str} {p pos cpos apos : Pos} {e : Expr} {es : List Expr} {t : TA} {ps : List Str} {sp : Sp} {j k : Nat}
/-- the class at B hands ValueError's __init__ on -/
structure XB (K : PySem.W.Frag) (B : Addr) : Prop where
  sp : specialIn K (.ref B) "__getattribute__" = some (some (.builtin "type.__getattribute__"))
  rd : readsIn K B (.type "type") = true
  fd : findCls K (.ref B) (.type "type") "__init__" = some (.val (.builtin "ValueError.__init__"))
end
end L2
/-! attributes of exceptions: written, read; a promise that raises nothing. -/
namespace L2
open PySem PySem.Spec PyProof.Rows PySem.W
section
variable {prog : Program} {w : World} {A : Around} {s : Shared} {K : PySem.W.Frag} {x C : Addr} {name : Str} {v : Value} {tk : Tok}
variable {nm q : Str} {N : Addr} {bs bm : List Value} {hdct : Bool} {sn : List Str} {sub : List Value} {ab : Bool} {col : Option Bool} {dd : Option Addr} {k0 k1 k2 k3 k5 : Option Value} {newId : String}
end
/-- an attribute may be put on the exceptions of the class at C -/
structure XSt (K : PySem.W.Frag) (C : Addr) (f : Str) : Prop where
  kin : XKin K C
  sa : findIn K (.ref C) "__setattr__" = some (some (.builtin "object.__setattr__"))
  no : findIn K (.ref C) f = some none
  hd : hasDictIn K C = true
section
variable {X : Cx} {pins : List (Addr × Obj)} {σ : St} {H : Hp} {s : Shared} {a C : Addr}
end
/-- an attribute of the exceptions of the class at C may be read -/
structure XGt (K : PySem.W.Frag) (C : Addr) (f : Str) : Prop where
  xc : XC K C
  no : findIn K (.ref C) f = some none
/-- what raises nothing of what may raise -/
theorem FnOk.drop {P : Program} {w : World} {K : PySem.W.Frag} {mg : Str → Option Value} {base : Heap} {k : Nat} {f : Addr} {fd : FuncData} {ps : List Str} {sp : Sp} (F : FnOk P w K mg base (CXx P w) k f fd ps sp) : FnOk P w K mg base CX0 k f fd ps fun vs H Q _ => sp vs H Q E0 :=
  ⟨fun vs H Q _ h => F.len vs H Q E0 h, fun A outer s H args us vs Q E hr he hb hv hs => codeAny_mono (F.run A outer s H args us vs Q E0 hr he hb hv hs) fun r s' h => by
    cases r with
    | error e =>
      obtain ⟨_, _, _, _, _, _, _, _, _, z⟩ := h
      exact False.elim z
    | ok f => cases f <;> exact h⟩
section
variable {P : Program} {w : World} {K : PySem.W.Frag} {mg : Str → Option Value} {base : Heap} {k : Nat} {x m : Str} {C : Addr} {ps : List Str} {sp : Sp}
def sp0 (sp : Sp) : Sp := fun vs H Q _ => sp vs H Q E0
theorem OwnX.drop (h : OwnX P w K mg base k x ps sp) : Own P w K mg base k x ps (sp0 sp) := let ⟨f, fd, a, b, c, F⟩ := h; ⟨f, fd, a, b, c, F.drop⟩
theorem OwnMX.drop (h : OwnMX P w K mg base k C m ps sp) : OwnM P w K mg base k C m ps (sp0 sp) := let ⟨f, fd, a, b, F⟩ := h; ⟨f, fd, a, b, F.drop⟩
theorem OwnIX.drop (h : OwnIX P w K mg base k C ps sp) : OwnI P w K mg base k C ps (sp0 sp) := let ⟨f, fd, a, b, F⟩ := h; ⟨f, fd, a, b, F.drop⟩
end
end L2
/-! what the fragment tells of the own classes of exceptions. -/
namespace L2
open PySem PySem.Spec PyProof.Rows PySem.W
/-- what an own class of exceptions tells -/
structure XCls (K : PySem.W.Frag) (mg : Str → Option Value) (x : Str) (C R : Addr) : Prop where
  mg : mg x = some (.ref C)
  kin : XKin K C
  sub : XSub K C R
  xc : XC K C
  kp : keepIn K (.ref C) = true
/-- one without an __init__ of its own -/
structure XPl (K : PySem.W.Frag) (C : Addr) : Prop where
  ex : excIn K C bmV "ValueError.__new__" = true
  kp : keepIn K (.ref C) = true
section
variable {K : PySem.W.Frag} {H : Hp} {Q : VK} {e C D : Addr} {od : Option Addr} {b : Bool}
theorem XD.none {H : Hp} : XD H none := fun _ z => nomatch z
theorem XD.some {H : Hp} {dx : Addr} {fs : List (Str × V)} (h : H dx = some (.xd fs)) : XD H (some dx) := fun _ z => by cases z; exact ⟨fs, h⟩
theorem XD.same {H H' : Hp} {od : Option Addr} (s : Same H H') (h : XD H od) : XD H' od := fun dx z => by
  obtain ⟨fs, e⟩ := h dx z
  exact ⟨fs, s _ _ e⟩
end
/-- no whole number: a truth, None, a text, a tuple, a list -/
inductive NoWh (H : Hp) : V → Prop
  | bl (b : Bool) : NoWh H (.bl b)
  | non : NoWh H .non
  | str (x : Str) : NoWh H (.str x)
  | tup {a : Addr} {xs : List V} (e : H a = some (.tup xs)) : NoWh H (.ref a)
  | lst {a : Addr} {xs : List V} (e : H a = some (.lst xs)) : NoWh H (.ref a)
theorem NoWh.same {H H' : Hp} {x : V} (s : Same H H') (h : NoWh H x) : NoWh H' x := by
  cases h with
  | bl b => exact .bl b
  | non => exact .non
  | str x => exact .str x
  | tup e => exact .tup (s _ _ e)
  | lst e => exact .lst (s _ _ e)
/-! ### an __init__ of an own class of exceptions -/
def DefE (K : PySem.W.Frag) (C : Addr) (qual : Str) (st : Stmt) : Prop := ∃ f fd, XMk K C f ∧ Fun K "__init__" qual st f fd
section
variable {P : Program} {w : World} {K : PySem.W.Frag} {mg : Str → Option Value} {base : Heap} {C : Addr} {qual : Str} {st : Stmt} {N ps : List Str} {k : Nat} {sp : Sp}
theorem DefE.own (D : DefE K C qual st) (S : FnScope N ps (defScope st))
    (hb : ∀ (kV doc pm : Value) (an : Option Addr) (cdv ct : Value) (us : List Value), us.length = ps.length → bindArgs (PySem.W.fnOf "__init__" qual (defArgs st) (defBody st) (defScope st) .none kV doc pm an cdv ct) ⟨us, []⟩ = pure (ps.zip us))
    (len : ∀ vs H Q E, sp vs H Q E → vs.length = ps.length)
    (hbody : ∀ (f : Addr) (cdv : Value) (A : Around) (outer : List Env) (s : Shared) (H : Hp) (vs : List V) (Q : VK) (E : XK), Room k (A.deeper (envOfC qual (defScope st) s.heap.objs.size f cdv)) → sp vs H Q E →
      ∃ t, PSs (cxOf CX0 P w K mg base N qual (defScope st) f cdv A outer s H E).nox (defBody st) t ∧ t { nx := fun _ H' => Q .non H', rt := Q } (start N vs) H) : OwnE P w K mg base (k + 1) C ps sp := by
  obtain ⟨f, fd, hm, F⟩ := D
  exact ⟨f, fd, hm, F.binds hb, F.ok S len (hbody f)⟩
end
/-! ### lists of truths -/
/-- isinstance's answers to the ten classes, of an exception of the class at C -/
structure K10 (K : PySem.W.Frag) (C : Addr) (c0 c1 c2 c3 c4 c5 c6 c7 c8 c9 : Addr) (b0 b1 b2 b3 b4 b5 b6 b7 b8 b9 : Bool) : Prop where
  k0 : kitOne K (.ref C) (.ref c0) = some b0
  k1 : kitOne K (.ref C) (.ref c1) = some b1
  k2 : kitOne K (.ref C) (.ref c2) = some b2
  k3 : kitOne K (.ref C) (.ref c3) = some b3
  k4 : kitOne K (.ref C) (.ref c4) = some b4
  k5 : kitOne K (.ref C) (.ref c5) = some b5
  k6 : kitOne K (.ref C) (.ref c6) = some b6
  k7 : kitOne K (.ref C) (.ref c7) = some b7
  k8 : kitOne K (.ref C) (.ref c8) = some b8
  k9 : kitOne K (.ref C) (.ref c9) = some b9
  kv : kitOne K (.ref C) (.type "ValueError") = some true
/-- the turn that an exception bears -/
def Past (C : Addr) (n : Int) (e : Addr) (H : Hp) : Prop := ∃ dx, H e = some (XO e C (some dx)) ∧ H dx = some (.xd [("turn", .int n)])
theorem Past.same {C e : Addr} {n : Int} {H H' : Hp} (s : Same H H') (h : Past C n e H) : Past C n e H' := by
  obtain ⟨dx, a, b⟩ := h
  exact ⟨dx, s _ _ a, s _ _ b⟩
theorem Past.xd {C e : Addr} {n : Int} {H : Hp} (h : Past C n e H) : ∃ od, H e = some (XO e C od) ∧ XD H od := by
  obtain ⟨dx, a, b⟩ := h
  exact ⟨_, a, XD.some b⟩
/-! ### the errors of the program -/
/-- where the own classes of errors stand -/
structure Ers (mg : Str → Option Value) (R cM cP cR cF cT cN cA cL cW cO : Addr) : Prop where
  r : mg "RoadError" = some (.ref R)
  m : mg "BadMeasures" = some (.ref cM)
  p : mg "BadPast" = some (.ref cP)
  d : mg "BadRoad" = some (.ref cR)
  f : mg "Full" = some (.ref cF)
  t : mg "BadThing" = some (.ref cT)
  n : mg "NotNow" = some (.ref cN)
  a : mg "BadName" = some (.ref cA)
  l : mg "BadLine" = some (.ref cL)
  w : mg "BadWish" = some (.ref cW)
  o : mg "NoRow" = some (.ref cO)
  v : mg "ValueError" = none
section
variable {K : PySem.W.Frag} {h : Heap} {mg : Str → Option Value}
end
end L2
namespace L2
open PySem PySem.Spec PyProof.Rows
section
variable {X : Cx} {n : Nat} {e : Expr} {rest : List Expr} {te : TE} {t : TJ} {pos : Pos}
end
end L2
/-! for i, x in enumerate(a list). -/
namespace L2
open PySem PySem.Spec PyProof.Rows
section
variable {X : Cx}
end
end L2
namespace L2
open PySem
/-- not a starred one -/
def noStar : Expr → Bool
  | .Starred .. => false
  | _ => true
theorem star_cons {e : Expr} {es : List Expr} {env : Env} (h : noStar e = true) : starEach (e :: es) env = (false, eval e env) :: starEach es env := by
  cases e <;> first | rfl | cases h
section
variable {X : Cx} {e : Expr} {es : List Expr} {te : TE} {t : TA}
/-- pa_cons, quick in long lists -/
theorem pa_cX (ha : PE X e te) (hr : PA X es t) (h : noStar e = true := by rfl) : PA X (e :: es) (tCons te t) := pa_cons ha hr (star_cons h)
end
/-! PSs, PS closed to the elaborator: it can't evaluate the program's text inside them -/
structure WSs (X : Cx) (sts : List Stmt) (t : TS) : Prop where
  h : PSs X sts t
structure WS (X : Cx) (st : Stmt) (t : TS) : Prop where
  h : PS X st t
section
variable {X : Cx} {st : Stmt} {rest : List Stmt} {t u : TS}
end
end L2
/-! Slices and multiples of texts. -/
namespace L2
open PySem PySem.Spec PyProof.Rows
section
variable {X : Cx}
end
mutual
theorem Has.same {K : PySem.W.Frag} {H H' : Hp} (s : Same H H') : ∀ {x : V} {d : PyData}, Has K H x d → Has K H' x d
  | _, _, .non => .non
  | _, _, .bl b => .bl b
  | _, _, .int i => .int i
  | _, _, .str x => .str x
  | _, _, .lst h hs => .lst (s.seq h) (HasAll.same s hs)
  | _, _, .tup h hs => .tup (s.seqT h) (HasAll.same s hs)
theorem HasAll.same {K : PySem.W.Frag} {H H' : Hp} (s : Same H H') : ∀ {xs : List V} {ds : List PyData}, HasAll K H xs ds → HasAll K H' xs ds
  | _, _, .nil => .nil
  | _, _, .cons h hs => .cons (Has.same s h) (HasAll.same s hs)
end
theorem Dt.same {H H' : Hp} {x : V} {d : PyData} (h : Dt H x d) (s : Same H H') : Dt H' x d := ⟨fun K => (h.1 K).same s, h.2⟩
theorem Dts.same {H H' : Hp} {x : List V} {d : List PyData} (h : Dts H x d) (s : Same H H') : Dts H' x d := ⟨fun K => (h.1 K).same s, h.2⟩
end L2
/-! Floor division by a wide divisor. -/
namespace L2
open PySem PySem.Spec PyProof.Rows
section
variable {X : Cx}
def CDivW (_i j : Int) : Prop := 0 < j ∧ j.natAbs.log2 < 9000
theorem op_fdivW : OpR X (binaryOp .FloorDiv) (rI CDivW fun i j => .int (i / j)) := opI fun i j _ _ _ _ _ hc q => by
  have h1 : (0 : Int) < j := hc.1
  exact floordiv_int (by omega) (by rw [Int.fdiv_eq_ediv_of_nonneg i (by omega)]; exact q) (.inl (PyProof.noPylong_of_log2 hc.2))
theorem cdivw_of {i j : Int} (h : 0 < j) (h2 : j < 2 ^ 200) : CDivW i j := by
  refine ⟨h, ?_⟩
  have hz : j.natAbs ≠ 0 := by omega
  rw [Nat.log2_lt hz]
  have h3 : j.natAbs < 2 ^ 200 := by omega
  exact Nat.lt_of_lt_of_le h3 (Nat.pow_le_pow_right (by decide) (by decide))
end
end L2
/-! Loops over a dict: its keys, its values, its items. While it is walked, the dict is held as it is. -/
namespace L2
open PySem PySem.Spec PyProof.Rows
section
variable {X : Cx} {pins : List (Addr × Obj)} {σ : St} {H : Hp} {s : Shared} {d : Addr} {kvs : List (Key × V)}
theorem Inv.frz (I : Inv X pins σ H s) (e : H d = some (.dK kvs)) : ∃ o, s.heap.get? d = some o ∧ Inv X pins σ (upd H d (.frz o (.dK kvs))) s := by
  obtain ⟨hz, hS, vs, rel, o, es, ep, ho, r⟩ := I.hok d _ e
  refine ⟨o, ho, I.un (t' := s.toks) (h' := s.heap) ⟨fun b o q _ _ _ => q, fun b o q _ _ _ => ⟨o.slots, q⟩, fun b o _ n _ => ?_, fun b o q _ => ⟨o, q⟩, fun b xs q => ?_, fun b o u q => ?_, fun b ps q => ?_⟩ fun b u q => ?_⟩
  · rw [upd_ne (Ne.symm (ne_of_none e n))]; exact n
  · rw [upd_ne (ne_of q e (by intro z; cases z))]; exact q
  · rw [upd_ne (ne_of q e (by intro z; cases z))]; exact q
  · exact ⟨#[], by rw [upd_ne (ne_of q e (by intro z; cases z)), q]; simp⟩
  · by_cases hb : b = d
    · subst hb
      rw [upd_same] at q
      cases q
      exact ⟨ho, hz, hS, vs, rel, o, es, ep, ho, r⟩
    · rw [upd_ne hb] at q
      exact (I.hok b u q).stay (fun _ _ _ r => r) (fun c r => by rw [upd_ne (ne_of r e (by intro z; cases z))]; exact r) fun c xs r => by rw [upd_ne (ne_of r e (by intro z; cases z))]; exact r
theorem KV.at {vs : List (Key × Value)} (r : KV kvs vs) {i : Nat} {p : Key × V} (h : kvs[i]? = some p) : ∃ u, vs[i]? = some (p.1, u) ∧ RelV p.2 u := by
  obtain ⟨q, hq, h1, h2⟩ := paired_get r h
  exact ⟨q.2, by rw [hq, h1], h2⟩
end
section
variable {P : Program} {w : World} {K : PySem.W.Frag} {tg : Expr} {d it : Addr} {o : Obj} {kvs : List (Key × V)}
end
section
variable {X : Cx}
/-! ### behind the loop -/
def Unf (H H' H'' : Hp) : Prop := H'' = H' ∨ ∃ d o kvs, H' d = some (.frz o (.dK kvs)) ∧ (∀ o u, H d ≠ some (.frz o u)) ∧ H'' = upd H' d (.dK kvs)
theorem Unf.of {H H' : Hp} {d : Addr} {o : Obj} {kvs kvs0 : List (Key × V)} (e : H' d = some (.frz o (.dK kvs))) (e0 : H d = some (.dK kvs0)) : Unf H H' (upd H' d (.dK kvs)) := .inr ⟨d, o, kvs, e, (fun o u z => by rw [e0] at z; cases z), rfl⟩
end
/-! ### a dict and an empty one -/
end L2
/-! d.get, d.pop by the dict's content; data in a list of data. -/
namespace L2
open PySem PySem.Spec PyProof.Rows
def keyV : V → Option Key
  | .int i => some (.inl i)
  | .str x => some (.inr x)
  | _ => none
theorem keyV_k {y : V} {k : Key} (h : keyV y = some k) : y = kV k := by
  cases y <;> simp [keyV] at h <;> (subst h; rfl)
def tDGX2 (td ty tx : TE) : TE := fun σ H Q => td σ H fun x H1 => ∃ a kvs, x = .ref a ∧ H1 a = some (.dK kvs) ∧ ty σ H1 fun y H2 => tx σ H2 fun z H3 => ∃ kvs2 k, H3 a = some (.dK kvs2) ∧ keyV y = some k ∧ Q ((valV kvs2 k).getD z) H3
section
variable {X : Cx} {o e f : Expr} {td ty tx : TE} {apos cpos : Pos}
theorem pe_dgX2 (hu : X.A.units + 1 < cLine) (ho : PE X o td) (he : PE X e ty) (hf : PE X f tx) (m : M2 X o "get" apos e f cpos) : PE X (.Call (.Attribute o "get" apos) [e, f] [] cpos) (tDGX2 td ty tx) := by
  intro pins s σ H Q I h
  refine wpAny_Call_method m.base m.few m.line PySem.F.plainAttrs_dict PySem.F.slot_dict_get PySem.F.type_dict_get (thn (ho pins s σ H _ I h) fun u s1 ⟨x, H1, I1, rx, a, kvs, ex, ed, q1⟩ => ?_)
  subst ex
  obtain rfl : u = Value.ref a := rx
  obtain ⟨t1, t2, _⟩ := isD_at I1 (.inl ⟨kvs, .inl ed⟩)
  refine ⟨t1, t2, ?_⟩
  rw [m.trees]
  refine Calls.callWith_builtin rfl (Calls.evalArgs_plain (Calls.spliced_cons (thn (he pins s1 σ H1 _ I1 q1) fun iv s2 ⟨y, H2, I2, ry, q2⟩ =>
    Calls.spliced_cons (thn (hf pins s2 σ H2 _ I2 q2) fun fv s3 ⟨z, H3, I3, rz, kvs2, k, ed2, hk, q3⟩ => Calls.spliced_nil ?_))))
  exact d_get2 hu I3 (.inl ⟨kvs2, k, .inl ed2, keyV_k hk, rfl⟩) ry rz fun w' s4 I4 rw' => ⟨_, H3, I4, rw', q3⟩
/-! ### data in a list of data -/
end
end L2
/-! d.setdefault, sorted(d), min of two tuples of numbers. -/
namespace L2
open PySem PySem.Spec PyProof.Rows
section
variable {X : Cx} {o e f : Expr} {td ty tx : TE} {apos cpos : Pos}
end
/-! ### sorted(d) -/
section
variable {X : Cx}
end
/-! ### the less of two tuples -/
section
variable {prog : Program} {w : World} {A : Around} {E : Value → Shared → Prop} {s : Shared}
end
section
variable {X : Cx}
end
end L2
namespace L2
open PySem PySem.Spec PyProof.Rows
/-! a list and an empty one, whatever the list holds -/
end L2
/-! Two dicts keyed by tuples that hold the same. -/
namespace L2
open PySem PySem.Spec PyProof.Rows
section
variable {prog : Program} {w : World} {κ : Type} [DecidableEq κ] {knd : HeapKind prog w κ} {A : Around} {E : Value → Shared → Prop} {s : Shared}
end
/-! ### a list, or a tuple, and an empty one, whatever it holds -/
end L2
/-! sum of lists, the greatest of a list. -/
namespace L2
open PySem PySem.Spec PyProof.Rows
section
variable {prog : Program} {w : World} {A : Around} {R : Result → Shared → Prop} {I : Addr} {fp wr : List Addr} {n : Nat} {P : Nat → Value → Prop} {St : Nat → Heap → Prop}
end
namespace SL
end SL
section
variable {prog : Program} {w : World} {A : Around} {E : Value → Shared → Prop} {s : Shared}
end
section
variable {X : Cx}
end
end L2
set_option maxHeartbeats 4000000
/-! sorted of tuples of numbers: a rearrangement, whatever the comparisons say. -/
namespace L2
open PySem PySem.Spec PyProof.Rows PySem.W
section
variable {α β : Type}
end
def PR (N : Nat) (p : Array Nat) : Prop := p.toList.Perm (List.range N)
theorem PR.get {N : Nat} {p : Array Nat} (h : PR N p) (hN : 0 < N) (i : Nat) : p.getD i 0 < N := by
  rw [Array.getD_eq_getD_getElem?]
  cases e : p[i]? with
  | none => exact hN
  | some x =>
    have : x ∈ p.toList := by rw [Array.mem_toList_iff]; exact Array.mem_of_getElem? e
    exact List.mem_range.mp (h.mem_iff.mp this)
section
variable {N : Nat} (hN : 0 < N)
include hN
end
section
variable {prog : Program} {w : World} {A : Around} {E : Value → Shared → Prop} {s : Shared}
/-- an int ahead, then ints -/
def IT (h : Heap) (m : Nat) (v : Value) : Prop := ∃ (b : Addr) (o : Obj) (xs : Array Value) (n : Nat) (ns : List Int), v = .ref b ∧ h.get? b = some o ∧ o.cls = .type "tuple" ∧ o.data = .seq xs n ∧ IntsAre xs.toList ns ∧ ns.length = m + 1
theorem IT.keep {h h' : Heap} {m : Nat} {v : Value} (x : IT h m v) (k : ∀ b o, v = .ref b → h.get? b = some o → h'.get? b = some o) : IT h' m v := by
  obtain ⟨b, o, xs, n, ns, e, g, r⟩ := x
  exact ⟨b, o, xs, n, ns, e, k b o e g, r⟩
end
section
variable {X : Cx}
end
end L2
/-! Functions that a def makes, with what they keep of its names. -/
namespace L2
open PySem PySem.Spec PyProof.Rows PySem.W
/-- a function that was made -/
def FnO (f : Addr) (fd : FuncData) : HO := .ext fun h => ∃ o, h.get? f = some o ∧ o.data = .func fd
/-- its code -/
def CodeO (c : Addr) (qual : Str) : HO := .ext fun h => h.CodeRec (.ref c) qual
/-- a name's value that is kept -/
def CellO (c : Addr) (v : V) : HO := .ext fun h => ∃ u, RelV v u ∧ h.IsCell c (some u)
section
variable {P : Program} {w : World} {H H' : Hp} {h h' : Heap} {f c : Addr} {fd : FuncData} {qual : Str} {v : V}
theorem cellO_ok {u : Value} (r : RelV v u) (e : h.IsCell c (some u)) : ObjOk P w H h c (CellO c v) := by
  refine ⟨⟨u, r, e⟩, ?_, fun h1 h2 x k => ?_⟩
  · obtain ⟨o, e1, _⟩ := e
    exact ⟨o, e1⟩
  · obtain ⟨u, r, o, e1, e2⟩ := x
    exact ⟨u, r, o, k o e1, e2⟩
end
def IsFn (H : Hp) (f : Addr) : Prop := ∃ fd, H f = some (FnO f fd)
/-- what a call of the function at f comes to -/
def Runs (P : Program) (w : World) (K : PySem.W.Frag) (mg : Str → Option Value) (base : Heap) (k : Nat) (f : Addr) (vs : List V) (H : Hp) (Q : VK) : Prop :=
  ∀ (A : Around) (outer : List Env) (s : Shared) (us : List Value), Room k A → Env0 P w K mg base A outer s H → Vals vs us → codeAny (model P w) A (.call (.ref f) ⟨us, []⟩) (CR CX0 outer P w H s Q E0) s
theorem Runs.mono {P : Program} {w : World} {K : PySem.W.Frag} {mg : Str → Option Value} {base : Heap} {j k : Nat} {f : Addr} {vs : List V} {H : Hp} {Q : VK} (h : Runs P w K mg base j f vs H Q) (hk : j ≤ k) : Runs P w K mg base k f vs H Q := fun A outer s us hr => h A outer s us (hr.mono hk)
section
variable {X : Cx} {k : Nat}
theorem IsFn.at {pins : List (Addr × Obj)} {σ : St} {H : Hp} {s : Shared} {f : Addr} (I : Inv X pins σ H s) (h : IsFn H f) : FnAt f s.heap := by
  obtain ⟨fd, e⟩ := h
  obtain ⟨⟨o, e1, d⟩, _⟩ := I.hok f _ e
  obtain ⟨oc, od, dd, sl⟩ := o
  cases d
  exact ⟨_, _, _, _, e1⟩
end
/-! ### the run of such a function -/
theorem lookup_nd {β : Type} {x : Str} {u : β} : ∀ {l : List (Str × β)}, (l.map (·.1)).Nodup → (x, u) ∈ l → l.lookup x = some u
  | p :: r, nd, h => by
    rw [List.map_cons, List.nodup_cons] at nd
    obtain ⟨y, v⟩ := p
    rw [List.lookup_cons]
    rcases List.mem_cons.mp h with e | h
    · cases e
      rw [beq_self_eq_true]
    · have hn : x ≠ y := fun z => nd.1 (List.mem_map.mpr ⟨(x, u), h, z⟩)
      rw [beq_eq_false_iff_ne.mpr hn]
      exact lookup_nd nd.2 h
structure CloScope (N ps fr : List Str) (sc : Scope) : Prop where
  kind : sc.kind = .function
  co : sc.isCoroutine = false
  gen : sc.isGenerator = false
  nd : N.Nodup
  pre : N.take ps.length = ps
  post : N.drop (N.length - fr.length) = fr
  room : ps.length + fr.length ≤ N.length
  par : ∀ x ∈ ps, sc.names.lookup x = some .local
  nocell : ∀ y ∈ sc.names, y.2 ≠ .cell
  free : ∀ y ∈ sc.names, y.2 = .free → y.1 ∈ fr
  frk : ∀ x ∈ fr, sc.names.lookup x = some .free
def startC (N : List Str) (vs ws : List V) : St := vs.map some ++ List.replicate (N.length - vs.length - ws.length) none ++ ws.map some
/-- without what the names keep -/
def er (cs : List Addr) (H : Hp) : Hp := fun b => if b ∈ cs then none else H b
/-- with it again -/
def rs (cs : List Addr) (H H' : Hp) : Hp := fun b => if b ∈ cs then H b else H' b
def cxX (CX : CXT) (P : Program) (w : World) (K : PySem.W.Frag) (mg : Str → Option Value) (base : Heap) (N : List Str) (qual : Str) (scope : Scope) (f : Addr) (cd : Value) (cl : List (Str × Addr)) (A : Around) (outer : List Env) (s : Shared) (H : Hp) (E : XK) : Cx where
  prog := P
  w := w
  K := K
  mg := mg
  base := base
  A := A.deeper (envX qual scope s.heap.objs.size f cd cl)
  N := N
  s₀ := s
  H₀ := H
  env := envX qual scope s.heap.objs.size f cd cl
  outer := outer
  stack := envX qual scope s.heap.objs.size f cd cl :: outer
  ex := []
  calm := true
  fn := fun _ => false
  pn := []
  xe := fun e s' => wpAny (model P w) (A.deeper (envX qual scope s.heap.objs.size f cd cl)) (leaving (envX qual scope s.heap.objs.size f cd cl) e) (fun _ s'' => CX outer H s E e s'') (fun e' s'' => CX outer H s E e' s'') s'
section
variable {P : Program} {w : World} {H H' : Hp} {h h' : Heap} {cs : List Addr} {b : Addr}
theorem er_in (hb : b ∈ cs) : er cs H b = none := if_pos hb
theorem er_out (hb : b ∉ cs) : er cs H b = H b := if_neg hb
theorem rs_in (hb : b ∈ cs) : rs cs H H' b = H b := if_pos hb
theorem rs_out (hb : b ∉ cs) : rs cs H H' b = H' b := if_neg hb
theorem er_some {o : HO} (e : er cs H b = some o) : b ∉ cs ∧ H b = some o := by
  by_cases hb : b ∈ cs
  · rw [er_in hb] at e; cases e
  · rw [er_out hb] at e; exact ⟨hb, e⟩
theorem er_none (e : H b = none) : er cs H b = none := by
  by_cases hb : b ∈ cs
  · exact er_in hb
  · rw [er_out hb]; exact e
/-- the places of cells -/
def AreCells (H : Hp) (cs : List Addr) : Prop := ∀ c ∈ cs, ∃ v, H c = some (CellO c v)
theorem AreCells.not {o : HO} (hc : AreCells H cs) (e : H b = some o) (hn : ∀ φ, o ≠ .ext φ) : b ∉ cs := fun z => by
  obtain ⟨v, e2⟩ := hc b z
  rw [e] at e2
  exact hn _ (Option.some.inj e2)
theorem HOk.er (x : HOk P w H h) (hc : AreCells H cs) : HOk P w (er cs H) h := fun a o e => by
  obtain ⟨ha, e'⟩ := er_some e
  refine (x a o e').stay (fun _ _ _ q => q) (fun b q => ?_) fun b xs q => ?_
  · rw [er_out (hc.not q (fun φ z => by cases z))]; exact q
  · rw [er_out (hc.not q (fun φ z => by cases z))]; exact q
end
section
variable {P : Program} {w : World} {K : PySem.W.Frag} {mg : Str → Option Value} {base : Heap} {f c' : Addr} {qual : Str} {scope : Scope} {cl : List (Str × Addr)} {N ps fr : List Str} {vs ws : List V} {H : Hp} {A : Around} {outer : List Env} {s : Shared} {us : List Value}
/-- the state at the entry -/
theorem inv_clo {h₁ : Heap} {tk : Nat} (hd : A.handled = none) (e0 : Env0 P w K mg base A outer s H) (r : Vals vs us) (S : CloScope N ps fr scope) (hcs : AreCells H (cl.map (·.2)))
    (hfr : Paired (fun x v => ∃ c, cl.lookup x = some c ∧ H c = some (CellO c v)) fr ws) (inj : ∀ x y c, cl.lookup x = some c → cl.lookup y = some c → x = y) (len : vs.length = ps.length)
    (hns : h₁.Ns s.heap.objs.size (fun x => (ps.zip us).reverse.lookup x)) (hk₁ : ∀ b o, s.heap.get? b = some o → h₁.get? b = some o) :
    Inv (cxX CX0 P w K mg base N qual scope f (.ref c') cl A outer s (er (cl.map (·.2)) H) E0) [] (startC N vs ws) (er (cl.map (·.2)) H) { s with heap := h₁, toks := tk } := by
  have hul : us.length = ps.length := by rw [← r.length]; exact len
  have hwl : fr.length = ws.length := hfr.length
  have noA : ∀ b : Addr, b ∉ (cxX CX0 P w K mg base N qual scope f (.ref c') cl A outer s (er (cl.map (·.2)) H) E0).ex := fun b z => absurd (show b ∈ ([] : List Addr) from z) (by simp)
  have memC : ∀ {x c}, cl.lookup x = some c → c ∈ cl.map (·.2) := fun {x c} e => List.mem_map.mpr ⟨(x, c), PySem.mem_of_lookup e, rfl⟩
  have cellOf : ∀ c ∈ cl.map (·.2), ∃ u, s.heap.IsCell c (some u) ∧ H c ≠ none := fun c hc => by
    obtain ⟨v, e⟩ := hcs c hc
    obtain ⟨⟨u, _, q⟩, _⟩ := e0.hok c _ e
    exact ⟨u, q, by rw [e]; simp⟩
  have ndP : ps.Nodup := by rw [← S.pre]; exact S.nd.sublist (List.take_sublist _ _)
  refine ⟨⟨e0.mod, S.kind, rfl, rfl, Nat.le_refl _, fun y z c h1 h2 => inj y z c h1 h2, fun y hy => ?_, fun y c h _ => absurd h Bool.false_ne_true, fun _ => hd, Around.frames_deeper e0.frames, .inr ⟨rfl, rfl⟩, fun b z => absurd z (noA b), fun b o e => ⟨(e0.bs b o e).1, er_none (e0.bs b o e).2⟩, e0.bsz, fun b _ _ => noA b, fun b z => absurd z (noA b), e0.funs, fun b hb => er_none (e0.frf b hb)⟩,
    rfl, e0.bare, Un.kept hk₁, ⟨_, hns, fun i y v h1 h2 h3 => ?_⟩, fun y c h => ?_, er_none (e0.hok.fresh (Nat.le_refl _)), fun y c h => er_in (memC h), fun p hp => absurd (show p ∈ ([] : List (Addr × Obj)) from hp) (by simp), (e0.hok.er hcs).kept hk₁, ?_⟩
  · have hy : scope.names.lookup y = some .cell ∨ scope.names.lookup y = some .free := hy
    rcases hy with hy | hy
    · exact absurd rfl (S.nocell _ (PySem.mem_of_lookup hy))
    · have hm := S.free _ (PySem.mem_of_lookup hy) rfl
      obtain ⟨i, hi, e⟩ := List.mem_iff_getElem.mp hm
      obtain ⟨v, _, c, hc, _⟩ := paired_get hfr (List.getElem?_eq_some_iff.mpr ⟨hi, e⟩)
      exact ⟨c, hc⟩
  · have h1 : N[i]? = some y := h1
    have h3 : Vis scope y := h3
    unfold startC at h2
    by_cases hi : i < vs.length
    · rw [List.append_assoc, List.getElem?_append_left (by simpa using hi), List.getElem?_map] at h2
      cases e : vs[i]? with
      | none => rw [e] at h2; cases h2
      | some a =>
        rw [e] at h2
        cases h2
        obtain ⟨u, hu, rv⟩ := r.get e
        have hp : ps[i]? = some y := by rw [← S.pre, List.getElem?_take_of_lt (by omega)]; exact h1
        refine ⟨u, rv, .inl ⟨S.par y (List.mem_of_getElem? hp), ?_⟩⟩
        show List.lookup y (ps.zip us).reverse = some u
        refine lookup_nd ?_ ?_
        · rw [List.map_reverse, List.map_fst_zip (by omega)]
          exact List.pairwise_reverse.mpr (ndP.imp fun h z => h z.symm)
        · rw [List.mem_reverse]
          refine List.mem_of_getElem? (i := i) ?_
          rw [List.getElem?_zip_eq_some]
          exact ⟨hp, hu⟩
    · by_cases hj : i < N.length - ws.length
      · rw [List.append_assoc, List.getElem?_append_right (by simpa using hi), List.getElem?_append_left (by rw [List.length_replicate, List.length_map]; have := S.room; omega), List.getElem?_replicate] at h2
        split at h2 <;> cases h2
      · rw [List.getElem?_append_right (by rw [List.length_append, List.length_map, List.length_replicate]; have := S.room; omega), List.getElem?_map] at h2
        rw [show i - (vs.map some ++ List.replicate (N.length - vs.length - ws.length) (none : Option V)).length = i - (N.length - ws.length) by rw [List.length_append, List.length_map, List.length_replicate]; have := S.room; omega] at h2
        cases e : ws[i - (N.length - ws.length)]? with
        | none => rw [e] at h2; cases h2
        | some a =>
          rw [e] at h2
          cases h2
          have hy : fr[i - (N.length - ws.length)]? = some y := by
            rw [← S.post, List.getElem?_drop, ← h1]
            congr 1
            omega
          obtain ⟨v', hv', c, hc, eH⟩ := paired_get hfr hy
          rw [e] at hv'
          cases hv'
          obtain ⟨⟨u, rv, o, ho, hod⟩, _⟩ := e0.hok c _ eH
          exact ⟨u, rv, .inr ⟨.inr (S.frk y (List.mem_of_getElem? hy)), c, hc, o, hk₁ _ _ ho, hod⟩⟩
  · obtain ⟨u, ⟨o, e, d⟩, _⟩ := cellOf c (memC h)
    exact ⟨_, o, hk₁ _ _ e, d⟩
  · unfold startC
    show _ = N.length
    rw [List.length_append, List.length_append, List.length_map, List.length_replicate, List.length_map]
    have := S.room
    omega
/-- the state at the end -/
theorem ce_clo {s' : Shared} {σ' : St} {H' : Hp} {v : V} {u : Value} {Q : VK} (e0 : Env0 P w K mg base A outer s H) (hcs : AreCells H (cl.map (·.2))) (J : Inv (cxX CX0 P w K mg base N qual scope f (.ref c') cl A outer s (er (cl.map (·.2)) H) E0) [] σ' H' s') (rv : RelV v u)
    (q : Q v (rs (cl.map (·.2)) H H')) : CE outer P w H s Q u s' := by
  have cellOf : ∀ c ∈ cl.map (·.2), ∃ u, s.heap.IsCell c (some u) ∧ H c ≠ none := fun c hc => by
    obtain ⟨v, e⟩ := hcs c hc
    obtain ⟨⟨u, _, q⟩, _⟩ := e0.hok c _ e
    exact ⟨u, q, by rw [e]; simp⟩
  have un : Un (frs outer) [] (er (cl.map (·.2)) H) H' s.heap s'.heap := J.base
  have cN : ∀ c ∈ cl.map (·.2), H' c = none := fun c hc => by
    obtain ⟨u, ⟨o, e, _⟩, _⟩ := cellOf c hc
    exact un.free c o e (er_in hc) (by simp)
  have cK : ∀ c ∈ cl.map (·.2), ∀ o, s.heap.get? c = some o → s'.heap.get? c = some o := fun c hc o e => by
    obtain ⟨u, _, hne⟩ := cellOf c hc
    exact un.keep c o e (er_in hc) (fun z => hne (e0.frf c z)) (by simp)
  have out : ∀ {b : Addr} {o : HO}, H b = some o → (∀ φ, o ≠ .ext φ) → b ∉ cl.map (·.2) := fun e n => hcs.not e n
  refine ⟨v, rs (cl.map (·.2)) H H', J.os, J.bare, ⟨fun b o e n hb hx => un.keep b o e (er_none n) hb hx, fun b o e n hb hx => un.slot b o e (er_none n) hb hx, fun b o e n hx => ?_, un.there, fun b xs e => ?_, fun b o u e => ?_, fun b ps e => ?_⟩, fun b o e => ?_, rv, q⟩
  · by_cases hb : b ∈ cl.map (·.2)
    · rw [rs_in hb]; exact n
    · rw [rs_out hb]; exact un.free b o e (er_none n) hx
  · have hb := out e (fun φ z => by cases z)
    rw [rs_out hb]
    exact un.tups b xs (by rw [er_out hb]; exact e)
  · have hb := out e (fun φ z => by cases z)
    rw [rs_out hb]
    exact un.frzs b o u (by rw [er_out hb]; exact e)
  · have hb := out e (fun φ z => by cases z)
    rw [rs_out hb]
    exact un.tbls b ps (by rw [er_out hb]; exact e)
  · have keepO : ∀ {c : Addr} {x : HO}, H' c = some x → rs (cl.map (·.2)) H H' c = some x := fun {c x} e => by
      by_cases hb : c ∈ cl.map (·.2)
      · rw [cN c hb] at e; cases e
      · rw [rs_out hb]; exact e
    by_cases hb : b ∈ cl.map (·.2)
    · rw [rs_in hb] at e
      obtain ⟨v, ev⟩ := hcs b hb
      rw [e] at ev
      cases ev
      have := e0.hok b _ e
      obtain ⟨⟨u, ru, o, eo, d⟩, _⟩ := this
      exact cellO_ok ru ⟨o, cK b hb o eo, d⟩
    · rw [rs_out hb] at e
      exact (J.hok b o e).stay (fun _ _ _ q => q) (fun c q => keepO q) fun c xs q => keepO q
end
theorem clo_runs {P : Program} {w : World} {K : PySem.W.Frag} {mg : Str → Option Value} {base : Heap} {k : Nat} {f c' : Addr} {name qual : Str} {params : Arguments} {body : List Stmt} {scope : Scope} {cl : List (Str × Addr)} {doc pm ctv : Value} {N ps fr : List Str} {vs ws : List V} {H : Hp} {Q : VK}
    (hf : H f = some (FnO f (fnX name qual params body scope cl .none .none doc pm none (.ref c') ctv))) (hc : H c' = some (CodeO c' qual)) (S : CloScope N ps fr scope)
    (hcs : AreCells H (cl.map (·.2))) (hfr : Paired (fun x v => ∃ c, cl.lookup x = some c ∧ H c = some (CellO c v)) fr ws) (inj : ∀ x y c, cl.lookup x = some c → cl.lookup y = some c → x = y)
    (hbind : ∀ us : List Value, us.length = ps.length → bindArgs (fnX name qual params body scope cl .none .none doc pm none (.ref c') ctv) ⟨us, []⟩ = pure (ps.zip us)) (len : vs.length = ps.length)
    (hbody : ∀ (A : Around) (outer : List Env) (s : Shared), Room k (A.deeper (envX qual scope s.heap.objs.size f (.ref c') cl)) →
      ∃ t, PSs (cxX CX0 P w K mg base N qual scope f (.ref c') cl A outer s (er (cl.map (·.2)) H) E0).nox body t ∧ t { nx := fun _ H' => Q .non (rs (cl.map (·.2)) H H'), rt := fun v H' => Q v (rs (cl.map (·.2)) H H') } (startC N vs ws) (er (cl.map (·.2)) H)) :
    Runs P w K mg base (k + 1) f vs H Q := by
  intro A outer s us hr e0 r
  have lim : s.heap.NoLimit := e0.mod.nolimit.keeps fun b o e => (e0.bs b o e).1
  obtain ⟨⟨o, ho, hd⟩, _⟩ := e0.hok f _ hf
  have hcd : s.heap.CodeRec (.ref c') qual := (e0.hok c' _ hc).1
  have hul : us.length = ps.length := by rw [← r.length]; exact len
  refine codeAny_call_def (fd := fnX name qual params body scope cl .none .none doc pm none (.ref c') ctv) (body := body) (binds := ps.zip us) hr.depth ho hd lim hcd rfl (.of_eq (hbind us hul)) S.nocell (fun y hy => S.par y.1 (List.of_mem_zip (by exact hy)).1) (fun h₁ hns hk₁ => ?_) S.co S.gen S.kind
  show wpAny (model P w) (A.deeper (envX qual scope s.heap.objs.size f (.ref c') cl)) (execs body (envX qual scope s.heap.objs.size f (.ref c') cl)) _ _ _
  obtain ⟨t, ht, hq⟩ := hbody A outer s (hr.deeper _)
  have I := inv_clo (f := f) (c' := c') (qual := qual) (tk := s.toks + (ps.zip us).length) hr.hd e0 r S hcs hfr inj len hns hk₁
  refine wpAny_mono (ht.nox [] _ (startC N vs ws) _ _ I hq) (fun fl s' hs => ?_) fun e s' hs => ?_
  · cases fl with
    | ret u =>
      obtain ⟨v, σ', H', J, rv, q⟩ := hs
      exact ce_clo e0 hcs J rv q
    | next =>
      obtain ⟨σ', H', J, q⟩ := hs
      exact ce_clo (v := V.non) (u := Value.none) e0 hcs J rfl q
    | brk =>
      obtain ⟨_, _, _, q⟩ := hs
      exact False.elim q
    | cont =>
      obtain ⟨_, _, _, q⟩ := hs
      exact False.elim q
  · exact hs
theorem lam_runs {P : Program} {w : World} {K : PySem.W.Frag} {mg : Str → Option Value} {base : Heap} {k : Nat} {f c' : Addr} {name qual : Str} {params : Arguments} {body : Expr} {scope : Scope} {cl : List (Str × Addr)} {pm ctv : Value} {N ps fr : List Str} {vs ws : List V} {H : Hp} {Q : VK}
    (hf : H f = some (FnO f (kla_fn name qual params body scope cl pm (.ref c') ctv))) (hc : H c' = some (CodeO c' qual)) (S : CloScope N ps fr scope)
    (hcs : AreCells H (cl.map (·.2))) (hfr : Paired (fun x v => ∃ c, cl.lookup x = some c ∧ H c = some (CellO c v)) fr ws) (inj : ∀ x y c, cl.lookup x = some c → cl.lookup y = some c → x = y)
    (hbind : ∀ us : List Value, us.length = ps.length → bindArgs (kla_fn name qual params body scope cl pm (.ref c') ctv) ⟨us, []⟩ = pure (ps.zip us)) (len : vs.length = ps.length)
    (hbody : ∀ (A : Around) (outer : List Env) (s : Shared), Room k (A.deeper (envX qual scope s.heap.objs.size f (.ref c') cl)) →
      ∃ t, PE (cxX CX0 P w K mg base N qual scope f (.ref c') cl A outer s (er (cl.map (·.2)) H) E0) body t ∧ t (startC N vs ws) (er (cl.map (·.2)) H) fun v H' => Q v (rs (cl.map (·.2)) H H')) :
    Runs P w K mg base (k + 1) f vs H Q := by
  intro A outer s us hr e0 r
  have lim : s.heap.NoLimit := e0.mod.nolimit.keeps fun b o e => (e0.bs b o e).1
  obtain ⟨⟨o, ho, hd⟩, _⟩ := e0.hok f _ hf
  have hcd : s.heap.CodeRec (.ref c') qual := (e0.hok c' _ hc).1
  have hul : us.length = ps.length := by rw [← r.length]; exact len
  refine kla_callFunE hr.depth ho hd S.co S.gen rfl hcd ?_
  rw [hbind us hul]
  refine wpAny_pure (wpAny_newFunctionEnv S.nocell (fun y hy => S.par y.1 (List.of_mem_zip (by exact hy)).1) (fun h₁ hns hsb => ⟨lim.fresh _ hsb, ?_⟩) S.kind)
  show codeAny _ _ (.expr body (envX qual scope s.heap.objs.size f (.ref c') cl)) _ _
  have hk₁ : ∀ b o, s.heap.get? b = some o → h₁.get? b = some o := fun b o e => hsb.extBut b o (Nat.ne_of_lt (Heap.lt_size e)) (Heap.get?_push_of_some _ e)
  obtain ⟨t, ht, hq⟩ := hbody A outer s (hr.deeper _)
  have I := inv_clo (f := f) (c' := c') (qual := qual) (tk := s.toks + (ps.zip us).length) hr.hd e0 r S hcs hfr inj len hns hk₁
  refine kla_codeExpr (wpAny_mono (ht [] _ (startC N vs ws) _ _ I hq) (fun u s' hs => ?_) fun e s' hs => hs)
  obtain ⟨v, H', J, rv, q⟩ := hs
  exact ce_clo e0 hcs J rv q
/-- a function that was made, with the values that it keeps -/
def CloAt (H : Hp) (g qual : Str) (gp : Arguments) (gb : List Stmt) (gsc : Scope) (fr : List Str) (f : Addr) (ws : List V) : Prop := ∃ c' doc pm ctv cl, H f = some (FnO f (fnX g qual gp gb gsc cl .none .none doc pm none (.ref c') ctv)) ∧ H c' = some (CodeO c' qual) ∧
  AreCells H (cl.map (·.2)) ∧ Paired (fun x v => ∃ c, cl.lookup x = some c ∧ H c = some (CellO c v)) fr ws ∧ ∀ x y c, cl.lookup x = some c → cl.lookup y = some c → x = y
section
variable {S : List Addr} {H H' : Hp} {g qual : Str} {gp : Arguments} {gb : List Stmt} {gsc : Scope} {fr : List Str} {f : Addr} {ws : List V}
theorem CloAt.keep (h : CloAt H g qual gp gb gsc fr f ws) (k : Keep S H H') (hs : ∀ b ∈ S, ∀ φ, H b ≠ some (.ext φ)) : CloAt H' g qual gp gb gsc fr f ws := by
  obtain ⟨c', doc, pm, ctv, cl, h1, h2, h3, h4, h5⟩ := h
  have kk : ∀ b φ, H b = some (.ext φ) → H' b = some (.ext φ) := fun b φ e => k b _ e fun z => hs b z φ e
  refine ⟨c', doc, pm, ctv, cl, kk _ _ h1, kk _ _ h2, fun c hc => ?_, Paired.mapP h4 fun x v ⟨c, e1, e2⟩ => ⟨c, e1, kk _ _ e2⟩, h5⟩
  obtain ⟨v, e⟩ := h3 c hc
  exact ⟨v, kk _ _ e⟩
theorem CloAt.same (h : CloAt H g qual gp gb gsc fr f ws) (s : Same H H') : CloAt H' g qual gp gb gsc fr f ws := h.keep (S := []) s.keep (fun _ z => nomatch z)
theorem CloAt.isFn (h : CloAt H g qual gp gb gsc fr f ws) : IsFn H f := by
  obtain ⟨c', doc, pm, ctv, cl, h1, _⟩ := h
  exact ⟨_, h1⟩
theorem CloAt.runs {P : Program} {w : World} {K : PySem.W.Frag} {mg : Str → Option Value} {base : Heap} {k : Nat} {N ps : List Str} {vs : List V} {Q : VK} (h : CloAt H g qual gp gb gsc fr f ws) (S : CloScope N ps fr gsc)
    (hbind : ∀ (cl : List (Str × Addr)) (doc pm ctv : Value) (c' : Addr) (us : List Value), us.length = ps.length → bindArgs (fnX g qual gp gb gsc cl .none .none doc pm none (.ref c') ctv) ⟨us, []⟩ = pure (ps.zip us)) (len : vs.length = ps.length)
    (hbody : ∀ (cs : List Addr) (cl : List (Str × Addr)) (c' : Addr) (A : Around) (outer : List Env) (s : Shared), AreCells H cs → Room k (A.deeper (envX qual gsc s.heap.objs.size f (.ref c') cl)) →
      ∃ t, PSs (cxX CX0 P w K mg base N qual gsc f (.ref c') cl A outer s (er cs H) E0).nox gb t ∧ t { nx := fun _ H' => Q .non (rs cs H H'), rt := fun v H' => Q v (rs cs H H') } (startC N vs ws) (er cs H)) : Runs P w K mg base (k + 1) f vs H Q := by
  obtain ⟨c', doc, pm, ctv, cl, h1, h2, h3, h4, h5⟩ := h
  exact clo_runs h1 h2 S h3 h4 h5 (hbind cl doc pm ctv c') len fun A outer s hr => hbody _ cl c' A outer s h3 hr
end
end L2
/-! Making functions in a def's body; a law whose text has such a def. -/
namespace L2
open PySem PySem.Spec PyProof.Rows PySem.W
/-- the table of a def's code, and the code that it has for the def made at pos -/
def TabOk (H : Hp) (P : Addr) (pos : Pos) (qual : Str) : Prop := H P = some (.tbl #[]) ∨ ∃ c', H P = some (.tbl #[rawInt pos.line, rawInt pos.col, .ref c']) ∧ H c' = some (CodeO c' qual)
theorem TabOk.keep {S : List Addr} {H H' : Hp} {P : Addr} {pos : Pos} {qual : Str} (h : TabOk H P pos qual) (k : Keep S H H') (hs : ∀ b ∈ S, (∀ ps, H b ≠ some (.tbl ps)) ∧ ∀ φ, H b ≠ some (.ext φ)) : TabOk H' P pos qual := by
  rcases h with e | ⟨c', e1, e2⟩
  · exact .inl (k _ _ e fun z => (hs _ z).1 _ e)
  · exact .inr ⟨c', k _ _ e1 fun z => (hs _ z).1 _ e1, k _ _ e2 fun z => (hs _ z).2 _ e2⟩
theorem TabOk.same {H H' : Hp} {P : Addr} {pos : Pos} {qual : Str} (h : TabOk H P pos qual) (s : Same H H') : TabOk H' P pos qual := h.keep (S := []) s.keep (fun _ z => nomatch z)
structure TabA (X : Cx) (c P : Addr) : Prop where
  code : X.env.code = .ref c
  hd : CodeHd X.base c P
  bm : X.base.BuiltinsAt X.mg P
  ne : mainGlobals ≠ P
section
variable {X : Cx} {pins : List (Addr × Obj)} {σ : St} {H : Hp} {s : Shared}
end
/-! ### a def that makes one and tells it -/
section
variable {P : Program} {w : World} {fs : List Addr} {H H' : Hp} {h h' : Heap}
end
/-! ### a law whose text has one def that makes functions -/
end L2
/-! A def that makes a lambda and tells it. -/
namespace L2
open PySem PySem.Spec PyProof.Rows PySem.W
section
variable {X : Cx} {pins : List (Addr × Obj)} {σ : St} {H : Hp} {s : Shared}
end
/-- a lambda that was made, with the values that it keeps -/
def LamAt (H : Hp) (g qual : Str) (gp : Arguments) (gb : Expr) (gsc : Scope) (fr : List Str) (f : Addr) (ws : List V) : Prop := ∃ c' pm ctv cl, H f = some (FnO f (kla_fn g qual gp gb gsc cl pm (.ref c') ctv)) ∧ H c' = some (CodeO c' qual) ∧
  AreCells H (cl.map (·.2)) ∧ Paired (fun x v => ∃ c, cl.lookup x = some c ∧ H c = some (CellO c v)) fr ws ∧ ∀ x y c, cl.lookup x = some c → cl.lookup y = some c → x = y
section
variable {S : List Addr} {H H' : Hp} {g qual : Str} {gp : Arguments} {gb : Expr} {gsc : Scope} {fr : List Str} {f : Addr} {ws : List V}
theorem LamAt.keep (h : LamAt H g qual gp gb gsc fr f ws) (k : Keep S H H') (hs : ∀ b ∈ S, ∀ φ, H b ≠ some (.ext φ)) : LamAt H' g qual gp gb gsc fr f ws := by
  obtain ⟨c', pm, ctv, cl, h1, h2, h3, h4, h5⟩ := h
  have kk : ∀ b φ, H b = some (.ext φ) → H' b = some (.ext φ) := fun b φ e => k b _ e fun z => hs b z φ e
  refine ⟨c', pm, ctv, cl, kk _ _ h1, kk _ _ h2, fun c hc => ?_, Paired.mapP h4 fun x v ⟨c, e1, e2⟩ => ⟨c, e1, kk _ _ e2⟩, h5⟩
  obtain ⟨v, e⟩ := h3 c hc
  exact ⟨v, kk _ _ e⟩
theorem LamAt.same (h : LamAt H g qual gp gb gsc fr f ws) (s : Same H H') : LamAt H' g qual gp gb gsc fr f ws := h.keep (S := []) s.keep (fun _ z => nomatch z)
theorem LamAt.isFn (h : LamAt H g qual gp gb gsc fr f ws) : IsFn H f := by
  obtain ⟨c', pm, ctv, cl, h1, _⟩ := h
  exact ⟨_, h1⟩
theorem LamAt.runs {P : Program} {w : World} {K : PySem.W.Frag} {mg : Str → Option Value} {base : Heap} {k : Nat} {N ps : List Str} {vs : List V} {Q : VK} (h : LamAt H g qual gp gb gsc fr f ws) (S : CloScope N ps fr gsc)
    (hbind : ∀ (cl : List (Str × Addr)) (pm ctv : Value) (c' : Addr) (us : List Value), us.length = ps.length → bindArgs (kla_fn g qual gp gb gsc cl pm (.ref c') ctv) ⟨us, []⟩ = pure (ps.zip us)) (len : vs.length = ps.length)
    (hbody : ∀ (cs : List Addr) (cl : List (Str × Addr)) (c' : Addr) (A : Around) (outer : List Env) (s : Shared), AreCells H cs → Room k (A.deeper (envX qual gsc s.heap.objs.size f (.ref c') cl)) →
      ∃ t, PE (cxX CX0 P w K mg base N qual gsc f (.ref c') cl A outer s (er cs H) E0) gb t ∧ t (startC N vs ws) (er cs H) fun v H' => Q v (rs cs H H')) : Runs P w K mg base (k + 1) f vs H Q := by
  obtain ⟨c', pm, ctv, cl, h1, h2, h3, h4, h5⟩ := h
  exact lam_runs h1 h2 S h3 h4 h5 (hbind cl pm ctv c') len fun A outer s hr => hbody _ cl c' A outer s h3 hr
end
/-! lists of the same objects -/
end L2
/-! d.update(e). -/
namespace L2
open PySem PySem.Spec PyProof.Rows
section
variable {X : Cx} {o e : Expr} {td ty : TE} {apos cpos : Pos}
end
end L2
set_option maxHeartbeats 4000000
/-! max(l, key=f) where f tells a number of each item. -/
namespace L2
open PySem PySem.Spec PyProof.Rows PySem.W
section
variable {X : Cx} {pins : List (Addr × Obj)} {σ : St} {H : Hp} {k : Nat} {f l it S : Addr} {ps : List Addr} {ns : List Int} {Q : VK}
end
section
variable {X : Cx} {k : Nat}
end
end L2
/-! sep.join(list of texts). -/
namespace L2
open PySem PySem.Spec PyProof.Rows
theorem vals_strs : ∀ {zs : List Str} {us : List Value}, Vals (zs.map V.str) us → ∃ l : List (Str × Tok), us = strValues l ∧ l.map (·.1) = zs
  | [], us, h => by
    cases h
    exact ⟨[], rfl, rfl⟩
  | z :: zs, us, h => by
    cases h with
    | cons h1 h2 =>
      obtain ⟨l, e1, e2⟩ := vals_strs h2
      obtain ⟨t, rfl⟩ := h1
      exact ⟨(z, t) :: l, by rw [e1]; rfl, by rw [List.map_cons, e2]⟩
/-- what the joined text is -/
def joinT (sep : Str) : List Str → Str
  | [z] => z
  | zs => Builtin.Str.glued sep zs
section
variable {X : Cx} {o e : Expr} {td ty : TE} {apos cpos : Pos}
def jLen (sep : Str) (zs : List Str) : Nat := zs.toArray.foldl (· + ·.length + sep.length) 0
def tJoin (td ty : TE) : TE := fun σ H Q => td σ H fun x H1 => ∃ sep, x = .str sep ∧ ty σ H1 fun y H2 => ∃ p zs, y = .ref p ∧ H2 p = some (.lst (zs.map V.str)) ∧ jLen sep zs ≤ sizeLine ∧ (joinT sep zs).length ≤ sizeLine ∧ Q (.str (joinT sep zs)) H2
theorem pe_join (ho : PE X o td) (he : PE X e ty) (m : M1 X o "join" apos e cpos) : PE X (.Call (.Attribute o "join" apos) [e] [] cpos) (tJoin td ty) := by
  intro pins s σ H Q I h
  refine wpAny_Call_method m.base m.few m.line PySem.F.plainAttrs_str PySem.F.slot_str_join PySem.F.type_str_join (thn (ho pins s σ H _ I h) fun u s1 ⟨x, H1, I1, rx, sep, ex, q1⟩ => ?_)
  subst ex
  obtain ⟨t, rfl⟩ := rx
  refine ⟨typeIs_str _ _ _, (fun _ e => nomatch e), ?_⟩
  rw [m.trees]
  refine Calls.callWith_builtin rfl (Calls.evalArgs_plain (Calls.spliced_cons (thn (he pins s1 σ H1 _ I1 q1) fun iv s2 ⟨y, H2, I2, ry, p, zs, ey, ep, hl, hj, q2⟩ => Calls.spliced_nil ?_)))
  subst ey
  obtain rfl : iv = Value.ref p := ry
  obtain ⟨its, rv, pl, hz⟩ := I2.list (SqL.of (K := X.K) ep)
  obtain ⟨l, e1, e2⟩ := vals_strs rv
  subst e1
  refine call_meets PySem.F.slot_str_join (typeIs_str _ _ _) PySem.F.entry_str_join (PySem.F.args_str_join_2 _ _) (meets_str_join_list sep t p l (by rw [e2]; unfold Builtin.Str.tooLong; exact decide_eq_false (Nat.not_lt.mpr hl))) ⟨pl.isList, ?_⟩
  have one : ∀ (z : Str) (t' : Tok), joinT sep zs = z → EP X pins σ Q (.str z t') s2 := fun z t' e => ⟨.str z, H2, I2, ⟨t', rfl⟩, by rw [← e]; exact q2⟩
  have two : ∀ z : Str, joinT sep zs = z → EP X pins σ Q (.str z s2.toks) { s2 with toks := s2.toks + 1 } := fun z e => ⟨.str z, H2, I2.tok _, ⟨_, rfl⟩, by rw [← e]; exact q2⟩
  subst e2
  cases l with
  | nil => exact ⟨hj, two _ rfl⟩
  | cons a r =>
    cases r with
    | nil => exact one _ _ rfl
    | cons b r => exact ⟨hj, two _ rfl⟩
end
end L2
/-! f-strings of numbers and texts, sign for sign; str of None and of a text. -/
namespace L2
open PySem PySem.Spec PyProof.Rows
abbrev TJX := St → Hp → Str → (Str → Hp → Prop) → Prop
def PJX (X : Cx) (n : Nat) (vs : List Expr) (t : TJX) : Prop := ∀ (pins : List (Addr × Obj)) (s : Shared) (σ : St) (H : Hp) (acc : Str) (Q : Str → Hp → Prop), acc.length ≤ n → Inv X pins σ H s → t σ H acc Q →
  Joins (model X.prog X.w) X.A X.xe (evalEach vs X.env) acc (fun out s1 => out.length ≤ sizeLine ∧ ∃ H', Inv X pins σ H' s1 ∧ Q out H') s
section
variable {X : Cx} {n : Nat} {e : Expr} {rest : List Expr} {te : TE} {t : TJX} {pos : Pos}
def tXn : TJX := fun _ H acc Q => Q acc H
theorem pjx_nil (hn : n ≤ 1000000 := by decide) : PJX X n [] tXn := fun pins s σ H acc Q ha I h => ⟨by rw [sizeLine_eq]; omega, H, I, h⟩
def tXs (x : Str) (t : TJX) : TJX := fun σ H acc Q => t σ H (acc ++ x) Q
theorem pjx_str {x : Str} {j : Nat} (m : Nat) (hm : x.length = m) (h : PJX X (n + m) rest t) (hn : n + m ≤ 1000000 := by decide) : PJX X n (.Constant (.str x) j pos :: rest) (tXs x t) := by
  intro pins s σ H acc Q ha I hq
  have hl : (acc ++ x).length ≤ n + m := by rw [strLen_append]; omega
  change wpAny _ _ (eval (.Constant (.str x) j pos) X.env) _ _ s
  refine wpAny_mono (pe_str pins s σ H (fun v H' => v = .str x ∧ H' = H) I ⟨rfl, rfl⟩) (fun u s1 ⟨v, H', I', r, ev, eH⟩ => ?_) fun _ _ z => z
  subst ev
  subst eH
  obtain ⟨t', rfl⟩ := r
  exact ⟨x, t', rfl, by rw [sizeLine_eq]; omega, h pins s1 σ H' (acc ++ x) Q hl I' hq⟩
def tXe (te : TE) (t : TJX) : TJX := fun σ H acc Q => te σ H fun v H1 => (∃ i : Int, v = .int i ∧ i.natAbs.log2 < 1920 ∧ t σ H1 (acc ++ Str.ofString (toString i)) Q) ∨ ∃ z : Str, v = .str z ∧ z.length ≤ 1000 ∧ t σ H1 (acc ++ z) Q
theorem pjx_e {p2 : Pos} (he : PE X e te) (h : PJX X (n + 2000) rest t) (hn : n + 2000 ≤ 1000000 := by decide) : PJX X n (.FormattedValue e (-1) none p2 :: rest) (tXe te t) := by
  intro pins s σ H acc Q ha I hq
  change wpAny _ _ (eval (.FormattedValue e (-1) none p2) X.env) _ _ s
  refine wpAny_FormattedValue_plain (thn (he pins s σ H _ I hq) fun u s1 ⟨v, H1, I1, r, q⟩ => ?_)
  rcases q with ⟨i, ev, hi, q⟩ | ⟨x, ev, hx, q⟩
  · subst ev
    obtain ⟨t', rfl⟩ := r
    have hl : (Str.ofString (toString i)).length ≤ 1921 := by
      have := int_text_length_le (a := i) (k := 1920) (by decide) hi
      rw [PySem.ofString_length]
      omega
    have hl2 : (acc ++ Str.ofString (toString i)).length ≤ n + 2000 := by rw [strLen_append]; omega
    exact formatField_int_small hi ⟨_, _, rfl, by rw [sizeLine_eq]; omega, h pins _ σ H1 _ Q hl2 (I1.tok _) q⟩
  · subst ev
    obtain ⟨t', rfl⟩ := r
    have hl2 : (acc ++ x).length ≤ n + 2000 := by rw [strLen_append]; omega
    exact formatField_str (fun t2 tk => ⟨_, _, rfl, by rw [sizeLine_eq]; omega, h pins _ σ H1 _ Q hl2 (I1.tok _) q⟩) (by rw [sizeLine_eq]; omega)
def tFsX (t : TJX) : TE := fun σ H Q => t σ H Str.empty fun x H' => Q (.str x) H'
theorem pe_fstrX {v1 v2 : Expr} (h : PJX X 0 (v1 :: v2 :: rest) t) : PE X (.JoinedStr (v1 :: v2 :: rest) pos) (tFsX t) := by
  intro pins s σ H Q I hq
  refine wpAny_JoinedStr ?_
  have := h pins s σ H Str.empty (fun x H' => Q (.str x) H') (by decide) I hq
  have mono : ∀ (l : List (Sem Value)) (acc : Str) (A B : Str → Shared → Prop) (s : Shared), (∀ o s, A o s → B o s) → Joins (model X.prog X.w) X.A X.xe l acc A s → Joins (model X.prog X.w) X.A X.xe l acc B s := by
    intro l
    induction l with
    | nil => intro acc A B s hab h; exact hab _ _ h
    | cons x r ih =>
      intro acc A B s hab h
      exact wpAny_mono h (fun v s1 ⟨y, t, e1, e2, e3⟩ => ⟨y, t, e1, e2, ih _ _ _ _ hab e3⟩) fun _ _ z => z
  exact mono _ _ _ _ _ (fun o s1 ⟨hz, H', I', q⟩ => ⟨hz, .str o, H', I'.tok _, ⟨_, rfl⟩, q⟩) this
end
/-! ### str of a number, a text, nothing -/
section
variable {X : Cx}
def rStrV : List V → Hp → VK → Prop := fun xs H Q => (∃ i : Int, xs = [.int i] ∧ i.natAbs.log2 < 1920 ∧ Q (.str (toString i)) H) ∨ (∃ z : Str, xs = [.str z] ∧ Q (.str z) H) ∨ (xs = [.non] ∧ Q (.str (Str.ofString "None")) H)
theorem call_strV : CallR X (.type "str") rStrV := by
  intro pins s σ H xs us Q I r h
  rcases h with h | ⟨z, rfl, q⟩ | ⟨rfl, q⟩
  · exact call_str_int pins s σ H xs us Q I r h
  · obtain ⟨u, rfl, t, rfl⟩ := vals1 r
    exact PySem.P.str_of_str ⟨.str z, H, I, ⟨t, rfl⟩, q⟩
  · obtain ⟨u, rfl, rx⟩ := vals1 r
    cases rx
    exact PySem.P.str_of_none ⟨.str _, H, I.tok _, ⟨_, rfl⟩, q⟩
end
end L2
namespace K83
/-! ### the mathematics: a row's text tells the row -/
def nT (n : Nat) : List Nat := (Nat.toDigits 10 n).map (·.toNat)
theorem char_inj {a b : Char} (h : a.toNat = b.toNat) : a = b := Char.toNat_inj.mp h
theorem map_inj {α β : Type} {f : α → β} (hf : ∀ a b, f a = f b → a = b) : ∀ {l m : List α}, l.map f = m.map f → l = m
  | [], [], _ => rfl
  | [], _ :: _, h => by simp at h
  | _ :: _, [], h => by simp at h
  | a :: l, b :: m, h => by
    rw [List.map_cons, List.map_cons] at h
    rw [hf _ _ (List.cons.inj h).1, map_inj hf (List.cons.inj h).2]
theorem nT_inj {a b : Nat} (h : nT a = nT b) : a = b := by
  have e := map_inj (fun _ _ => char_inj) h
  have h1 := Nat.ofDigitChars_toDigits (b := 10) (n := a) (by decide) (by decide)
  have h2 := Nat.ofDigitChars_toDigits (b := 10) (n := b) (by decide) (by decide)
  rw [e, h2] at h1
  exact h1.symm
theorem nT_dig {n c : Nat} (h : c ∈ nT n) : 48 ≤ c ∧ c ≤ 57 := by
  obtain ⟨d, hd, rfl⟩ := List.mem_map.mp h
  have := Nat.isDigit_of_mem_toDigits (by decide) (by decide) hd
  unfold Char.isDigit at this
  simp only [Bool.and_eq_true, decide_eq_true_eq] at this
  exact ⟨this.1, this.2⟩
/-- what may stand behind a word -/
def Stop (x : List Nat) : Prop := x = [] ∨ (∃ r, x = 32 :: r) ∨ ∃ r, x = 59 :: r
def Tok (a : List Nat) : Prop := ∀ c ∈ a, c ≠ 32 ∧ c ≠ 59
theorem nT_tok {n : Nat} : Tok (nT n) := fun c hc => by have := nT_dig hc; omega
theorem tok_inj : ∀ {a b x y : List Nat}, Tok a → Tok b → Stop x → Stop y → a ++ x = b ++ y → a = b ∧ x = y
  | [], [], _, _, _, _, _, _, h => ⟨rfl, h⟩
  | [], d :: b, x, y, _, hb, hx, _, h => by
    have hd := hb d (.head _)
    rw [List.nil_append, List.cons_append] at h
    rcases hx with rfl | ⟨r, rfl⟩ | ⟨r, rfl⟩
    · cases h
    · exact absurd (List.cons.inj h).1.symm hd.1
    · exact absurd (List.cons.inj h).1.symm hd.2
  | c :: a, [], x, y, ha, _, _, hy, h => by
    have hc := ha c (.head _)
    rw [List.nil_append, List.cons_append] at h
    rcases hy with rfl | ⟨r, rfl⟩ | ⟨r, rfl⟩
    · cases h
    · exact absurd (List.cons.inj h).1 hc.1
    · exact absurd (List.cons.inj h).1 hc.2
  | c :: a, d :: b, x, y, ha, hb, hx, hy, h => by
    rw [List.cons_append, List.cons_append] at h
    obtain ⟨e1, e2⟩ := List.cons.inj h
    obtain ⟨e3, e4⟩ := tok_inj (fun z hz => ha z (.tail _ hz)) (fun z hz => hb z (.tail _ hz)) hx hy e2
    exact ⟨by rw [e1, e3], e4⟩
theorem stop_sp {r : List Nat} : Stop (32 :: r) := .inr (.inl ⟨r, rfl⟩)
/-- a word or number, a blank, and the rest -/
theorem sp_inj {a b x y : List Nat} (ha : Tok a) (hb : Tok b) (h : a ++ 32 :: x = b ++ 32 :: y) : a = b ∧ x = y := by
  obtain ⟨e1, e2⟩ := tok_inj ha hb stop_sp stop_sp h
  exact ⟨e1, (List.cons.inj e2).2⟩
def w (s : String) : List Nat := s.toList.map (·.toNat)
/-! things -/
inductive Th
  | beg
  | fin
  | sg (s : List Nat)
def tT : Th → List Nat
  | .beg => w "begin"
  | .fin => w "end"
  | .sg s => w "signs" ++ 32 :: (nT s.length ++ 32 :: s)
theorem tok_w {s : String} (h : (w s).all (fun c => c != 32 && c != 59) = true) : Tok (w s) := fun c hc => by
  have := List.all_eq_true.mp h c hc
  simpa using this
theorem tT_dec {a b : Th} {x y : List Nat} (hx : Stop x) (hy : Stop y) (h : tT a ++ x = tT b ++ y) : a = b ∧ x = y := by
  have k1 : Tok (w "begin") := tok_w (by decide)
  have k2 : Tok (w "end") := tok_w (by decide)
  have k3 : Tok (w "signs") := tok_w (by decide)
  cases a <;> cases b <;> simp only [tT, List.append_assoc, List.cons_append] at h
  · exact ⟨rfl, (tok_inj k1 k1 hx hy h).2⟩
  · exact absurd (tok_inj k1 k2 hx hy h).1 (by decide)
  · exact absurd (tok_inj k1 k3 hx stop_sp h).1 (by decide)
  · exact absurd (tok_inj k2 k1 hx hy h).1 (by decide)
  · exact ⟨rfl, (tok_inj k2 k2 hx hy h).2⟩
  · exact absurd (tok_inj k2 k3 hx stop_sp h).1 (by decide)
  · exact absurd (tok_inj k3 k1 stop_sp hy h).1 (by decide)
  · exact absurd (tok_inj k3 k2 stop_sp hy h).1 (by decide)
  · have h1 := (sp_inj k3 k3 h).2
    obtain ⟨e1, e2⟩ := sp_inj nT_tok nT_tok h1
    have e3 := nT_inj e1
    obtain ⟨e4, e5⟩ := List.append_inj e2 e3
    exact ⟨by rw [e4], e5⟩
/-! numbers that may be none -/
def oT : Option Nat → List Nat
  | none => w "none"
  | some n => nT n
theorem oT_tok : ∀ {o : Option Nat}, Tok (oT o)
  | none => tok_w (by decide)
  | some _ => nT_tok
theorem none_dig {n : Nat} : w "none" ≠ nT n := fun h => by
  have : (110 : Nat) ∈ nT n := by rw [← h]; decide
  have := nT_dig this
  omega
theorem oT_inj : ∀ {a b : Option Nat}, oT a = oT b → a = b
  | none, none, _ => rfl
  | none, some _, h => absurd h none_dig
  | some _, none, h => absurd h.symm none_dig
  | some _, some _, h => by rw [nT_inj h]
/-! bodies and parcels; names are words -/
inductive Bd
  | piece (n : Nat) (t : Th)
  | got (n : Nat)
  | ask (z : List Nat) (n : Nat)
  | told (z : List Nat) (o : Option Nat) (n : Nat)
def Bd.Ok : Bd → Prop
  | .piece _ _ => True
  | .got _ => True
  | .ask z _ => Tok z
  | .told z _ _ => Tok z
def bT : Bd → List Nat
  | .piece n t => w "piece" ++ 32 :: (nT n ++ 32 :: tT t)
  | .got n => w "got" ++ 32 :: nT n
  | .ask z n => w "ask" ++ 32 :: (z ++ 32 :: nT n)
  | .told z o n => w "told" ++ 32 :: (z ++ 32 :: (oT o ++ 32 :: nT n))
theorem bT_dec {a b : Bd} {x y : List Nat} (ha : a.Ok) (hb : b.Ok) (hx : Stop x) (hy : Stop y) (h : bT a ++ x = bT b ++ y) : a = b ∧ x = y := by
  have k1 : Tok (w "piece") := tok_w (by decide)
  have k2 : Tok (w "got") := tok_w (by decide)
  have k3 : Tok (w "ask") := tok_w (by decide)
  have k4 : Tok (w "told") := tok_w (by decide)
  cases a <;> cases b <;> simp only [bT, List.append_assoc, List.cons_append] at h
  · obtain ⟨_, h⟩ := sp_inj k1 k1 h
    obtain ⟨e1, h⟩ := sp_inj nT_tok nT_tok h
    obtain ⟨e2, h⟩ := tT_dec hx hy h
    exact ⟨by rw [nT_inj e1, e2], h⟩
  · exact absurd (sp_inj k1 k2 h).1 (by decide)
  · exact absurd (sp_inj k1 k3 h).1 (by decide)
  · exact absurd (sp_inj k1 k4 h).1 (by decide)
  · exact absurd (sp_inj k2 k1 h).1 (by decide)
  · obtain ⟨_, h⟩ := sp_inj k2 k2 h
    obtain ⟨e1, h⟩ := tok_inj nT_tok nT_tok hx hy h
    exact ⟨by rw [nT_inj e1], h⟩
  · exact absurd (sp_inj k2 k3 h).1 (by decide)
  · exact absurd (sp_inj k2 k4 h).1 (by decide)
  · exact absurd (sp_inj k3 k1 h).1 (by decide)
  · exact absurd (sp_inj k3 k2 h).1 (by decide)
  · obtain ⟨_, h⟩ := sp_inj k3 k3 h
    obtain ⟨e0, h⟩ := sp_inj ha hb h
    obtain ⟨e1, h⟩ := tok_inj nT_tok nT_tok hx hy h
    exact ⟨by rw [nT_inj e1, e0], h⟩
  · exact absurd (sp_inj k3 k4 h).1 (by decide)
  · exact absurd (sp_inj k4 k1 h).1 (by decide)
  · exact absurd (sp_inj k4 k2 h).1 (by decide)
  · exact absurd (sp_inj k4 k3 h).1 (by decide)
  · obtain ⟨_, h⟩ := sp_inj k4 k4 h
    obtain ⟨e0, h⟩ := sp_inj ha hb h
    obtain ⟨e2, h⟩ := sp_inj oT_tok oT_tok h
    obtain ⟨e1, h⟩ := tok_inj nT_tok nT_tok hx hy h
    exact ⟨by rw [nT_inj e1, e0, oT_inj e2], h⟩
structure Pc where
  a : Nat
  b : Nat
  c : Nat
  d : Bd
def pT (p : Pc) : List Nat := nT p.a ++ 32 :: (nT p.b ++ 32 :: (nT p.c ++ 32 :: bT p.d))
theorem pT_dec {p q : Pc} {x y : List Nat} (hp : p.d.Ok) (hq : q.d.Ok) (hx : Stop x) (hy : Stop y) (h : pT p ++ x = pT q ++ y) : p = q ∧ x = y := by
  simp only [pT, List.append_assoc, List.cons_append] at h
  obtain ⟨e1, h⟩ := sp_inj nT_tok nT_tok h
  obtain ⟨e2, h⟩ := sp_inj nT_tok nT_tok h
  obtain ⟨e3, h⟩ := sp_inj nT_tok nT_tok h
  obtain ⟨e4, hxy⟩ := bT_dec hp hq hx hy h
  cases p
  cases q
  dsimp only at e1 e2 e3 e4
  exact ⟨by rw [nT_inj e1, nT_inj e2, nT_inj e3, e4], hxy⟩
/-! lists behind a row -/
def lT {α : Type} (f : α → List Nat) : List α → List Nat
  | [] => []
  | p :: r => 59 :: 32 :: (f p ++ lT f r)
theorem lT_stop {α : Type} {f : α → List Nat} : ∀ {l : List α}, Stop (lT f l)
  | [] => .inl rfl
  | _ :: _ => .inr (.inr ⟨_, rfl⟩)
theorem lT_inj {α : Type} {f : α → List Nat} {ok : α → Prop} (hf : ∀ a b x y, ok a → ok b → Stop x → Stop y → f a ++ x = f b ++ y → a = b ∧ x = y) : ∀ {l m : List α}, (∀ a ∈ l, ok a) → (∀ a ∈ m, ok a) → lT f l = lT f m → l = m
  | [], [], _, _, _ => rfl
  | [], _ :: _, _, _, h => by simp [lT] at h
  | _ :: _, [], _, _, h => by simp [lT] at h
  | a :: l, b :: m, hl, hm, h => by
    simp only [lT, List.cons.injEq, true_and] at h
    obtain ⟨e1, e2⟩ := hf a b _ _ (hl a (.head _)) (hm b (.head _)) lT_stop lT_stop h
    rw [e1, lT_inj hf (fun z hz => hl z (.tail _ hz)) (fun z hz => hm z (.tail _ hz)) e2]
/-! rows -/
inductive Rr
  | came (n h x y : Nat) (ps : List Pc)
  | way (n h x : Nat) (o q : Option Nat)
  | here (n h : Nat) (p : Pc)
  | gone (n h : Nat) (z : List Nat) (p : Pc)
  | read (n h x : Nat) (ts : List Th)
  | sent (n h x y : Nat) (ps : List (Nat × Pc))
  | put (n h : Nat) (z : List Nat) (g : Nat) (s : List Nat)
  | wish (n h : Nat) (z v u : List Nat)
def Rr.Ok : Rr → Prop
  | .came _ _ _ _ ps => ∀ p ∈ ps, p.d.Ok
  | .way _ _ _ _ _ => True
  | .here _ _ p => p.d.Ok
  | .gone _ _ z p => Tok z ∧ p.d.Ok
  | .read _ _ _ _ => True
  | .sent _ _ _ _ ps => ∀ p ∈ ps, p.2.d.Ok
  | .put _ _ z _ _ => Tok z
  | .wish _ _ z v u => Tok z ∧ Tok v ∧ Tok u ∧ v ≠ w "put"
/-- a number, then a parcel -/
def sT (p : Nat × Pc) : List Nat := nT p.1 ++ 32 :: pT p.2
def rT : Rr → List Nat
  | .came n h x y ps => w "came" ++ 32 :: (nT n ++ 32 :: (nT h ++ 32 :: (nT x ++ 32 :: (nT y ++ lT pT ps))))
  | .way n h x o q => w "way" ++ 32 :: (nT n ++ 32 :: (nT h ++ 32 :: (nT x ++ 32 :: (oT o ++ 32 :: oT q))))
  | .here n h p => w "here" ++ 32 :: (nT n ++ 32 :: (nT h ++ 32 :: pT p))
  | .gone n h z p => w "gone" ++ 32 :: (nT n ++ 32 :: (nT h ++ 32 :: (z ++ 32 :: pT p)))
  | .read n h x ts => w "read" ++ 32 :: (nT n ++ 32 :: (nT h ++ 32 :: (nT x ++ lT tT ts)))
  | .sent n h x y ps => w "sent" ++ 32 :: (nT n ++ 32 :: (nT h ++ 32 :: (nT x ++ 32 :: (nT y ++ lT sT ps))))
  | .put n h z g s => w "wish" ++ 32 :: (nT n ++ 32 :: (nT h ++ 32 :: (z ++ 32 :: (w "put" ++ 32 :: (nT g ++ 32 :: s)))))
  | .wish n h z v u => w "wish" ++ 32 :: (nT n ++ 32 :: (nT h ++ 32 :: (z ++ 32 :: (v ++ 32 :: u))))
theorem stop_nil : Stop [] := .inl rfl
theorem sT_dec {p q : Nat × Pc} {x y : List Nat} (hp : p.2.d.Ok) (hq : q.2.d.Ok) (hx : Stop x) (hy : Stop y) (h : sT p ++ x = sT q ++ y) : p = q ∧ x = y := by
  simp only [sT, List.append_assoc, List.cons_append] at h
  obtain ⟨e1, h1⟩ := sp_inj nT_tok nT_tok h
  obtain ⟨e2, h2⟩ := pT_dec hp hq hx hy h1
  exact ⟨Prod.ext (nT_inj e1) e2, h2⟩
def word : Rr → List Nat
  | .came .. => w "came"
  | .way .. => w "way"
  | .here .. => w "here"
  | .gone .. => w "gone"
  | .read .. => w "read"
  | .sent .. => w "sent"
  | .put .. => w "wish"
  | .wish .. => w "wish"
theorem rT_word {a : Rr} : ∃ r, rT a = word a ++ 32 :: r ∧ Tok (word a) := by
  cases a <;> exact ⟨_, rfl, tok_w (by decide)⟩
theorem rT_inj {a b : Rr} (ha : a.Ok) (hb : b.Ok) (h : rT a = rT b) : a = b := by
  have hw : word a = word b := by
    obtain ⟨r1, e1, t1⟩ := rT_word (a := a)
    obtain ⟨r2, e2, t2⟩ := rT_word (a := b)
    rw [e1, e2] at h
    exact (sp_inj t1 t2 h).1
  have kw : ∀ {s : String}, (w s).all (fun c => c != 32 && c != 59) = true → Tok (w s) := tok_w
  cases a <;> cases b <;> first | exact absurd hw (show ¬ w _ = w _ by decide) | skip
  · simp only [rT] at h
    obtain ⟨_, h⟩ := sp_inj (kw (by decide)) (kw (by decide)) h
    obtain ⟨e1, h⟩ := sp_inj nT_tok nT_tok h
    obtain ⟨e2, h⟩ := sp_inj nT_tok nT_tok h
    obtain ⟨e3, h⟩ := sp_inj nT_tok nT_tok h
    obtain ⟨e4, h⟩ := tok_inj nT_tok nT_tok lT_stop lT_stop h
    rw [nT_inj e1, nT_inj e2, nT_inj e3, nT_inj e4, lT_inj (α := Pc) (ok := fun p => p.d.Ok) (fun _ _ _ _ => pT_dec) ha hb h]
  · simp only [rT] at h
    obtain ⟨_, h⟩ := sp_inj (kw (by decide)) (kw (by decide)) h
    obtain ⟨e1, h⟩ := sp_inj nT_tok nT_tok h
    obtain ⟨e2, h⟩ := sp_inj nT_tok nT_tok h
    obtain ⟨e3, h⟩ := sp_inj nT_tok nT_tok h
    obtain ⟨e4, h⟩ := sp_inj oT_tok oT_tok h
    rw [nT_inj e1, nT_inj e2, nT_inj e3, oT_inj e4, oT_inj h]
  · simp only [rT] at h
    obtain ⟨_, h⟩ := sp_inj (kw (by decide)) (kw (by decide)) h
    obtain ⟨e1, h⟩ := sp_inj nT_tok nT_tok h
    obtain ⟨e2, h⟩ := sp_inj nT_tok nT_tok h
    have e3 := (pT_dec (x := []) (y := []) ha hb stop_nil stop_nil (by rw [List.append_nil, List.append_nil]; exact h)).1
    rw [nT_inj e1, nT_inj e2, e3]
  · simp only [rT] at h
    obtain ⟨_, h⟩ := sp_inj (kw (by decide)) (kw (by decide)) h
    obtain ⟨e1, h⟩ := sp_inj nT_tok nT_tok h
    obtain ⟨e2, h⟩ := sp_inj nT_tok nT_tok h
    obtain ⟨e0, h⟩ := sp_inj ha.1 hb.1 h
    have e3 := (pT_dec (x := []) (y := []) ha.2 hb.2 stop_nil stop_nil (by rw [List.append_nil, List.append_nil]; exact h)).1
    rw [nT_inj e1, nT_inj e2, e3, e0]
  · simp only [rT] at h
    obtain ⟨_, h⟩ := sp_inj (kw (by decide)) (kw (by decide)) h
    obtain ⟨e1, h⟩ := sp_inj nT_tok nT_tok h
    obtain ⟨e2, h⟩ := sp_inj nT_tok nT_tok h
    obtain ⟨e4, h⟩ := tok_inj nT_tok nT_tok lT_stop lT_stop h
    rw [nT_inj e1, nT_inj e2, nT_inj e4, lT_inj (α := Th) (ok := fun _ => True) (fun _ _ _ _ _ _ => tT_dec) (fun _ _ => trivial) (fun _ _ => trivial) h]
  · simp only [rT] at h
    obtain ⟨_, h⟩ := sp_inj (kw (by decide)) (kw (by decide)) h
    obtain ⟨e1, h⟩ := sp_inj nT_tok nT_tok h
    obtain ⟨e2, h⟩ := sp_inj nT_tok nT_tok h
    obtain ⟨e3, h⟩ := sp_inj nT_tok nT_tok h
    obtain ⟨e4, h⟩ := tok_inj nT_tok nT_tok lT_stop lT_stop h
    rw [nT_inj e1, nT_inj e2, nT_inj e3, nT_inj e4, lT_inj (α := Nat × Pc) (ok := fun p => p.2.d.Ok) (fun _ _ _ _ => sT_dec) ha hb h]
  · simp only [rT] at h
    obtain ⟨_, h⟩ := sp_inj (kw (by decide)) (kw (by decide)) h
    obtain ⟨e1, h⟩ := sp_inj nT_tok nT_tok h
    obtain ⟨e2, h⟩ := sp_inj nT_tok nT_tok h
    obtain ⟨e0, h⟩ := sp_inj ha hb h
    obtain ⟨_, h⟩ := sp_inj (kw (by decide)) (kw (by decide)) h
    obtain ⟨e3, h⟩ := sp_inj nT_tok nT_tok h
    rw [nT_inj e1, nT_inj e2, nT_inj e3, e0, h]
  · simp only [rT] at h
    obtain ⟨_, h⟩ := sp_inj (kw (by decide)) (kw (by decide)) h
    obtain ⟨e1, h⟩ := sp_inj nT_tok nT_tok h
    obtain ⟨e2, h⟩ := sp_inj nT_tok nT_tok h
    obtain ⟨e0, h⟩ := sp_inj ha hb.1 h
    exact absurd (sp_inj (kw (by decide)) hb.2.1 h).1.symm hb.2.2.2
  · simp only [rT] at h
    obtain ⟨_, h⟩ := sp_inj (kw (by decide)) (kw (by decide)) h
    obtain ⟨e1, h⟩ := sp_inj nT_tok nT_tok h
    obtain ⟨e2, h⟩ := sp_inj nT_tok nT_tok h
    obtain ⟨e0, h⟩ := sp_inj ha.1 hb h
    exact absurd (sp_inj ha.2.1 (kw (by decide)) h).1 ha.2.2.2
  · simp only [rT] at h
    obtain ⟨_, h⟩ := sp_inj (kw (by decide)) (kw (by decide)) h
    obtain ⟨e1, h⟩ := sp_inj nT_tok nT_tok h
    obtain ⟨e2, h⟩ := sp_inj nT_tok nT_tok h
    obtain ⟨e0, h⟩ := sp_inj ha.1 hb.1 h
    obtain ⟨e3, h⟩ := sp_inj ha.2.1 hb.2.1 h
    rw [nT_inj e1, nT_inj e2, e0, e3, h]
end K83
namespace K83
open PySem L2
def top (i : Nat) : Stmt := PySem.Challenge.pw_roadnet_k83_rows_told_as_text.main.body.getD i (.Pass ⟨0, 0, 0, 0⟩)
abbrev s_number_text : Stmt := top 2
theorem sc_number_text : FnScope ["number"] ["number"] (defScope s_number_text) := ⟨rfl, rfl, rfl, by decide +kernel, rfl, by decide +kernel, by decide +kernel⟩
abbrev s_numbers_text : Stmt := top 3
theorem sc_numbers_text : FnScope ["numbers"] ["numbers"] (defScope s_numbers_text) := ⟨rfl, rfl, rfl, by decide +kernel, rfl, by decide +kernel, by decide +kernel⟩
theorem cs_numbers_text_0 : CScope ["number"] [] { kind := .function, names := [(".0", .local), ("number", .local), ("number_text", .globalImplicit)], isGenerator := false, isCoroutine := false, more := [] } (defScope s_numbers_text) := ⟨rfl, by decide +kernel, by decide +kernel, by decide +kernel, by decide +kernel, by decide +kernel⟩
abbrev s_thing_text : Stmt := top 4
theorem sc_thing_text : FnScope ["thing", "signs", "many"] ["thing"] (defScope s_thing_text) := ⟨rfl, rfl, rfl, by decide +kernel, rfl, by decide +kernel, by decide +kernel⟩
/-! ### texts by their signs -/
def S (l : List Nat) : Str := ⟨l.toArray⟩
theorem S_app {a b : List Nat} : S a ++ S b = S (a ++ b) := by
  unfold S
  change (⟨a.toArray ++ b.toArray⟩ : Str) = _
  rw [List.append_toArray]
theorem S_len {a : List Nat} : (S a).length = a.length := by
  change (a.toArray).size = _
  simp
theorem S_of (s : String) : Str.ofString s = S (w s) := Str.ofString_eq_toList s
theorem S_num (n : Nat) : Str.ofString (toString (n : Int)) = S (nT n) := by
  have e : toString (n : Int) = n.repr := rfl
  rw [e, Str.ofString_eq_toList, Nat.toList_repr]
  rfl
theorem glue_S (sep : List Nat) : ∀ (l : List (List Nat)) (acc : List Nat), (l.map S).foldl (fun a p => a ++ (S sep).cps ++ p.cps) acc.toArray = (acc ++ l.flatMap fun p => sep ++ p).toArray
  | [], acc => by simp
  | p :: r, acc => by
    rw [List.map_cons, List.foldl_cons]
    have e : acc.toArray ++ (S sep).cps ++ (S p).cps = (acc ++ sep ++ p).toArray := by unfold S; simp
    rw [e, glue_S sep r, List.flatMap_cons]
    simp
/-- words behind each other with blanks between -/
def spT : List (List Nat) → List Nat
  | [] => []
  | p :: r => p ++ r.flatMap fun q => 32 :: q
theorem join_S : ∀ l : List (List Nat), joinT (S [32]) (l.map S) = S (spT l)
  | [] => rfl
  | [p] => by
    change S p = S (p ++ [])
    rw [List.append_nil]
  | p :: q :: r => by
    change Builtin.Str.glued (S [32]) ((p :: q :: r).map S) = _
    unfold Builtin.Str.glued
    have := glue_S [32] (q :: r) p
    rw [List.map_cons, List.drop_succ_cons, List.drop_zero, List.headD_cons]
    change (⟨((q :: r).map S).foldl (fun a p => a ++ (S [32]).cps ++ p.cps) p.toArray⟩ : Str) = _
    rw [this]
    rfl
def onV : Option Nat → V
  | none => .non
  | some n => .int (n : Int)
section
variable {P : Program} {w : World} {K : PySem.W.Frag} {mg : Str → Option Value} {base : Heap}
def small (o : Option Nat) : Prop := ∀ n, o = some n → n ≤ 10 ^ 13
def sp_num : Sp := fun vs H Q _ => ∃ o : Option Nat, vs = [onV o] ∧ small o ∧ Q (.str (S (oT o))) H
theorem log13 {n : Nat} (h : n ≤ 10 ^ 13) : ((n : Int)).natAbs.log2 < 1920 := by
  rw [Int.natAbs_natCast]
  have h1 : n < 2 ^ 44 := Nat.lt_of_le_of_lt h (by decide)
  by_cases z : n = 0
  · subst z; decide
  · have := (Nat.log2_lt z).mpr h1
    omega
theorem own_num (D : Def K mg "number_text" s_number_text) (hb : Blt mg) (g_NONE : ∃ u, mg "NONE" = some u ∧ RelV (.str (Str.ofString "none")) u) : Own P w K mg base 1 "number_text" ["number"] sp_num := by
  refine D.own sc_number_text (fun _ _ _ _ _ _ us hl => match us, hl with | [_], _ => rfl) (fun vs H Q E h => ?_) (fun f cdv A outer s H vs Q E hr h => ?_)
  · obtain ⟨o, rfl, _⟩ := h
    rfl
  · obtain ⟨o, rfl, hs, q⟩ := h
    refine ⟨_, (@pss_one _ _ _ (@ps_ret _ _ _ _ (@pe_ifExp _ _ _ _ _ _ _ _ (@pt_cmpR _ _ _ _ _ _ _ _ op_isN (@pv _ 0 _ _ (by rfl) (by first | exact Or.inl rfl | exact Or.inr (Or.inl rfl) | exact Or.inr (Or.inr rfl)) (by decide) (by decide)) (@pe_non _ _ _) (nomark _)) (@pe_glb _ _ _ _ g_NONE (by rfl) (by decide)) (@pe_callTy _ _ _ _ _ _ _ _ _ call_strV rfl (hb _ (by decide)) bt_str (@pa_cX _ _ _ _ _ (@pv _ 0 _ _ (by rfl) (by first | exact Or.inl rfl | exact Or.inr (Or.inl rfl) | exact Or.inr (Or.inr rfl)) (by decide) (by decide)) (@pa_nil _) (by rfl)) (by decide) (by decide) (by rfl) (by rfl))))), ?_⟩
    cases o with
    | none =>
      simp (maxSteps := 1000000) only [Nat.reduceSub, Nat.reduceAdd, decide_true, if_true, tTest, tOp, tVar, tC, tRet, tIf, tCons, tNil, tCB, L2.start, List.map_cons, List.map_nil, List.length_cons, List.length_nil, List.replicate, List.getElem?_cons_zero, Option.some.injEq, exists_eq_left', V.bl.injEq, true_and, List.append_nil, onV]
      exact q
    | some n =>
      simp (maxSteps := 1000000) only [Nat.reduceSub, Nat.reduceAdd, decide_false, List.cons.injEq, if_false, Bool.false_eq_true, tTest, tOp, tVar, tC, tRet, tIf, tCons, tNil, tCB, L2.start, List.map_cons, List.map_nil, List.length_cons, List.length_nil, List.replicate, List.getElem?_cons_zero, Option.some.injEq, exists_eq_left', V.int.injEq, V.bl.injEq, exists_const, and_true, true_and, reduceCtorEq, false_and, or_false, List.append_nil, onV, rStrV]
      refine ⟨log13 (hs n rfl), ?_⟩
      have e := S_num n
      have q' : Q (.str (S (nT n))) H := q
      rw [← e] at q'
      exact q'
def sp_nums : Sp := fun vs H Q _ => ∃ (p : Addr) (os : List (Option Nat)), vs = [.ref p] ∧ H p = some (.tup (os.map onV)) ∧ (∀ o ∈ os, small o) ∧ os.length ≤ 10 ∧ ∀ H', Same H H' → Q (.str (S (spT (os.map oT)))) H'
theorem oT_len {o : Option Nat} (h : small o) : (oT o).length ≤ 14 := by
  cases o with
  | none => decide
  | some n =>
    have h1 := h n rfl
    change (nT n).length ≤ 14
    unfold nT
    rw [List.length_map]
    exact (Nat.length_toDigits_le_iff (by decide) (by decide)).mpr (Nat.lt_of_le_of_lt h1 (by decide))
theorem jlen : ∀ (l : List (List Nat)) (m : Nat), (l.map S).foldl (fun a p => a + p.length + 1) m = m + (l.map fun p => p.length + 1).sum
  | [], m => by simp
  | p :: r, m => by
    rw [List.map_cons, List.foldl_cons, jlen r, List.map_cons, List.sum_cons, S_len]
    omega
theorem own_nums (D : Def K mg "numbers_text" s_numbers_text) (F_number_text : Own P w K mg base 1 "number_text" ["number"] sp_num) : Own P w K mg base 2 "numbers_text" ["numbers"] sp_nums := by
  refine D.own sc_numbers_text (fun _ _ _ _ _ _ us hl => match us, hl with | [_], _ => rfl) (fun vs H Q E h => ?_) (fun f cdv A outer s H vs Q E hr h => ?_)
  · obtain ⟨p, os, rfl, _⟩ := h
    rfl
  · obtain ⟨p, os, rfl, ep, hs, hl, q⟩ := h
    refine ⟨_, (@pss_one _ _ _ (@ps_ret _ _ _ _ (@pe_join _ _ _ _ _ _ _ (@pe_str _ _ _ _) (@pe_comp _ _ _ _ _ _ _ _ _ _ _ ["number"] [] [] rfl _ cs_numbers_text_0 (@pi_tupK _ K _ _ _ (@pv _ 0 _ _ (by rfl) (by first | exact Or.inl rfl | exact Or.inr (Or.inl rfl) | exact Or.inr (Or.inr rfl)) (by decide) (by decide)) (by rfl)) (fun _ _ _ _ => (@pg_name _ _ 0 _ cs_numbers_text_0.nd rfl (by first | exact Or.inl rfl | exact Or.inr rfl) (by first | exact .inl rfl | exact .inr rfl | assumption))) (fun _ _ _ _ => (@pf_nil _)) (fun _ _ _ _ => (@pe_fn _ _ _ _ _ _ _ _ _ _ _ F_number_text hr (@pa_cX _ _ _ _ _ (@pv _ 0 _ _ (by rfl) (by first | exact Or.inl rfl | exact Or.inr (Or.inl rfl) | exact Or.inr (Or.inr rfl)) (by decide) (by decide)) (@pa_nil _) (by rfl)) (by decide) (by rfl) (by decide) (by rfl) (by rfl))) (by rfl) (by rfl) (by rfl) (by intro _; rfl)) (by constructor <;> rfl)))), ?_⟩
    simp (maxSteps := 1000000) only [tComp_eq, Nat.reduceSub, Nat.reduceAdd, exists_and_left, tVar, tC, tRet, L2.start, List.map_cons, List.map_nil, List.length_cons, List.length_nil, List.replicate, List.getElem?_cons_zero, Option.some.injEq, exists_eq_left', V.ref.injEq, V.str.injEq, List.append_nil, tJoin, iTup]
    refine ⟨⟨_, SqT.of ep⟩, comp_tup (xs := os.map onV) (by rw [sizeLine_eq, List.length_map]; omega) (fun D i acc H' => acc = ((os.take i).map fun o => S (oT o)).map V.str ∧ H' D = some (.lst acc) ∧ Same H H') (fun D hD => ⟨rfl, upd_same, .upd_new hD⟩) ?_ ?_ ?_⟩
    · rintro D i acc H2 hD hi ⟨rfl, eD, s2⟩
      exact ⟨eD, SqT.of (s2 _ _ ep), by rw [List.length_map, List.length_map, List.length_take]; omega⟩
    · rintro D i v acc H2 hD hv ⟨rfl, eD, s2⟩
      rw [List.getElem?_map] at hv
      obtain ⟨o, ho, rfl⟩ := Option.map_eq_some_iff.mp hv
      simp (maxSteps := 1000000) only [upd_same, tYes, cSt, List.drop_succ_cons, List.drop_zero, if_true, tVar, gName, tCall, tCons, tNil, List.map_nil, List.replicate, List.getElem?_cons_zero, List.set_cons_zero, Option.some.injEq, exists_eq_left', true_and, List.append_nil]
      refine ⟨o, rfl, hs o (List.mem_of_getElem? ho), eD, ?_, s2.upd hD⟩
      rw [List.take_add_one, ho, Option.toList_some, List.map_append, List.map_append]
      rfl
    · rintro D acc H2 hD ⟨rfl, eD, s2⟩
      rw [List.length_map, List.take_length] at eD
      have em : (os.map fun o => S (oT o)) = (os.map oT).map S := by rw [List.map_map]; rfl
      rw [em] at eD
      have e32 : Str.ofString " " = S [32] := S_of " "
      have hsum : ∀ l : List (Option Nat), (∀ o ∈ l, small o) → ((l.map oT).map fun p => p.length + 1).sum ≤ 15 * l.length := fun l => by
        induction l with
        | nil => intro _; simp
        | cons o r ih =>
          intro h
          have h1 := oT_len (h o (.head _))
          have h2 := ih (fun z hz => h z (.tail _ hz))
          rw [List.map_cons, List.map_cons, List.sum_cons, List.length_cons]
          omega
      have hsm := hsum os hs
      refine ⟨D, rfl, _, eD, ?_, ?_, ?_⟩
      · unfold jLen
        rw [e32, List.foldl_toArray, sizeLine_eq]
        have := jlen (os.map oT) 0
        change ((os.map oT).map S).foldl (fun a p => a + p.length + 1) 0 ≤ _
        rw [this]
        omega
      · rw [e32, join_S, S_len, sizeLine_eq]
        have : (spT (os.map oT)).length ≤ ((os.map oT).map fun p => p.length + 1).sum := by
          cases os with
          | nil => simp [spT]
          | cons o r =>
            rw [List.map_cons, List.map_cons, List.sum_cons]
            unfold spT
            rw [List.length_append, List.length_flatMap]
            have : ((r.map oT).map fun q => (32 :: q).length).sum = ((r.map oT).map fun p => p.length + 1).sum := rfl
            omega
        omega
      · rw [e32, join_S]
        exact q _ s2
end
end K83
namespace K83
open PySem L2
abbrev s_body_text : Stmt := top 5
theorem sc_body_text : FnScope ["body", "word", "parts"] ["body"] (defScope s_body_text) := ⟨rfl, rfl, rfl, by decide +kernel, rfl, by decide +kernel, by decide +kernel⟩
abbrev s_parcel_text : Stmt := top 6
theorem sc_parcel_text : FnScope ["parcel"] ["parcel"] (defScope s_parcel_text) := ⟨rfl, rfl, rfl, by decide +kernel, rfl, by decide +kernel, by decide +kernel⟩
abbrev s_pair_text : Stmt := top 7
theorem sc_pair_text : FnScope ["pair"] ["pair"] (defScope s_pair_text) := ⟨rfl, rfl, rfl, by decide +kernel, rfl, by decide +kernel, by decide +kernel⟩
def thV : Th → List V
  | .beg => [.str (Str.ofString "begin")]
  | .fin => [.str (Str.ofString "end")]
  | .sg s => [.str (Str.ofString "signs"), .str (S s)]
def Th.Ok : Th → Prop
  | .sg s => s ≠ [] ∧ s.length ≤ 8
  | _ => True
def RTh (H : Hp) (v : V) (t : Th) : Prop := ∃ p, v = .ref p ∧ H p = some (.tup (thV t))
theorem S_nil : Str.empty = S [] := rfl
section
variable {P : Program} {w : World} {K : PySem.W.Frag} {mg : Str → Option Value} {base : Heap}
def sp_tht : Sp := fun vs H Q _ => ∃ (v : V) (t : Th), vs = [v] ∧ RTh H v t ∧ t.Ok ∧ Q (.str (S (tT t))) H
theorem own_tht (D : Def K mg "thing_text" s_thing_text) (hb : Blt mg) : Own P w K mg base 1 "thing_text" ["thing"] sp_tht := by
  refine D.own sc_thing_text (fun _ _ _ _ _ _ us hl => match us, hl with | [_], _ => rfl) (fun vs H Q E h => ?_) (fun f cdv A outer s H vs Q E hr h => ?_)
  · obtain ⟨v, t, rfl, _⟩ := h
    rfl
  · obtain ⟨v, t, rfl, ⟨p, rfl, ep⟩, ht, q⟩ := h
    have hu := hr.units
    have hu1 : (A.deeper (PyProof.Rows.envOfC "thing_text" (defScope s_thing_text) s.heap.objs.size f cdv)).units + 1 < cLine := by omega
    refine ⟨_, (@pss_cons _ _ _ _ _ (@ps_if _ _ _ _ _ _ _ _ (@pt_cmpR _ _ _ _ _ _ _ _ op_ne (@pe_ix _ _ _ _ _ _ _ (ix_get hu1) (@pv _ 0 _ _ (by rfl) (by first | exact Or.inl rfl | exact Or.inr (Or.inl rfl) | exact Or.inr (Or.inr rfl)) (by decide) (by decide)) (@pe_int _ _ _ _) (fun _ _ => rfl)) (@pe_str _ _ _ _) (nomark _)) (@pss_one _ _ _ (@ps_ret _ _ _ _ (@pe_ix _ _ _ _ _ _ _ (ix_get hu1) (@pv _ 0 _ _ (by rfl) (by first | exact Or.inl rfl | exact Or.inr (Or.inl rfl) | exact Or.inr (Or.inr rfl)) (by decide) (by decide)) (@pe_int _ _ _ _) (fun _ _ => rfl)))) (@pss_nil _)) (@pss_cons _ _ _ _ _ (@ps_set _ _ 1 _ _ _ _ sc_thing_text.nd rfl (by first | exact Or.inl rfl | exact Or.inr rfl) (@pe_ix _ _ _ _ _ _ _ (ix_get hu1) (@pv _ 0 _ _ (by rfl) (by first | exact Or.inl rfl | exact Or.inr (Or.inl rfl) | exact Or.inr (Or.inr rfl)) (by decide) (by decide)) (@pe_int _ _ _ _) (fun _ _ => rfl)) (by rfl) (by first | exact .inl rfl | exact .inr rfl | assumption)) (@pss_cons _ _ _ _ _ (@ps_set _ _ 2 _ _ _ _ sc_thing_text.nd rfl (by first | exact Or.inl rfl | exact Or.inr rfl) (@pe_callB _ _ _ _ _ _ _ _ _ call_lenX rfl (hb _ (by decide)) bt_len (@pa_cX _ _ _ _ _ (@pv _ 1 _ _ (by rfl) (by first | exact Or.inl rfl | exact Or.inr (Or.inl rfl) | exact Or.inr (Or.inr rfl)) (by decide) (by decide)) (@pa_nil _) (by rfl)) (by decide) (by decide) (by rfl) (by rfl)) (by rfl) (by first | exact .inl rfl | exact .inr rfl | assumption)) (@pss_one _ _ _ (@ps_ret _ _ _ _ (@pe_fstrX _ _ _ _ _ _ (@pjx_str _ _ _ _ _ _ _ 6 (by kernel_rfl) (@pjx_e _ _ _ _ _ _ _ (@pv _ 2 _ _ (by rfl) (by first | exact Or.inl rfl | exact Or.inr (Or.inl rfl) | exact Or.inr (Or.inr rfl)) (by decide) (by decide)) (@pjx_str _ _ _ _ _ _ _ 1 (by kernel_rfl) (@pjx_e _ _ _ _ _ _ _ (@pv _ 1 _ _ (by rfl) (by first | exact Or.inl rfl | exact Or.inr (Or.inl rfl) | exact Or.inr (Or.inr rfl)) (by decide) (by decide)) (@pjx_nil _ _ (by decide)) (by decide)) (by decide)) (by decide)) (by decide)))))))), ?_⟩
    cases t with
    | beg =>
      have ep' : H p = some (.tup [.str (Str.ofString "begin")]) := ep
      have hne : (Str.ofString "begin" = Str.ofString "signs") = False := by simp; decide
      simp (maxSteps := 1000000) only [rNe_ss, rGet, getO_t, rLenX, atI_0, Nat.reduceSub, Nat.reduceAdd, decide_false, Bool.not_false, List.cons.injEq, tSeq, exists_and_left, if_true, tIfS, tTest, tOp, tVar, tC, tRet, tAsg, gName, tNext, tCons, tNil, tCB, L2.start, List.map_cons, List.map_nil, List.length_cons, List.length_nil, List.replicate, List.cons_append, List.nil_append, List.getElem?_cons_zero, List.getElem?_cons_succ, List.set_cons_zero, List.set_cons_succ, Option.some.injEq, exists_eq_left', V.bl.injEq, V.ref.injEq, and_true, ep', hne]
      exact q
    | fin =>
      have ep' : H p = some (.tup [.str (Str.ofString "end")]) := ep
      have hne : (Str.ofString "end" = Str.ofString "signs") = False := by simp; decide
      simp (maxSteps := 1000000) only [rNe_ss, rGet, getO_t, rLenX, atI_0, Nat.reduceSub, Nat.reduceAdd, decide_false, Bool.not_false, List.cons.injEq, tSeq, exists_and_left, if_true, tIfS, tTest, tOp, tVar, tC, tRet, tAsg, gName, tNext, tCons, tNil, tCB, L2.start, List.map_cons, List.map_nil, List.length_cons, List.length_nil, List.replicate, List.cons_append, List.nil_append, List.getElem?_cons_zero, List.getElem?_cons_succ, List.set_cons_zero, List.set_cons_succ, Option.some.injEq, exists_eq_left', V.bl.injEq, V.ref.injEq, and_true, ep', hne]
      exact q
    | sg z =>
      have ep' : H p = some (.tup [.str (Str.ofString "signs"), .str (S z)]) := ep
      simp (maxSteps := 1000000) only [rNe_ss, rGet, getO_t, rLenX, lenX_s', atI_0, atI_1, Nat.reduceSub, Nat.reduceAdd, decide_true, Bool.not_true, List.cons.injEq, tSeq, exists_and_left, if_false, Bool.false_eq_true, tIfS, tTest, tOp, tVar, tC, tRet, tAsg, gName, tNext, tCons, tNil, tCB, L2.start, List.map_cons, List.map_nil, List.length_cons, List.length_nil, List.replicate, List.cons_append, List.nil_append, List.getElem?_cons_zero, List.getElem?_cons_succ, List.set_cons_zero, List.set_cons_succ, Option.some.injEq, exists_eq_left', V.int.injEq, V.bl.injEq, V.ref.injEq, V.str.injEq, exists_const, and_true, reduceCtorEq, false_and, or_false, false_or, ep', tFsX, tXs, tXe, tXn]
      have hz : (S z).length = z.length := S_len
      have hl := ht.2
      rw [hz]
      have e : Str.empty ++ Str.ofString "signs " ++ Str.ofString (toString (z.length : Int)) ++ Str.ofString " " ++ S z = S (tT (.sg z)) := by
        rw [S_nil, S_of "signs ", S_num, S_of " ", S_app, S_app, S_app, S_app]
        congr 1
        unfold tT
        have e1 : K83.w "signs " = K83.w "signs" ++ [32] := by decide
        have e2 : K83.w " " = [32] := by decide
        rw [e1, e2]
        simp
      exact ⟨z.length, if_pos (by rw [sizeLine_eq]; omega), log13 (by omega), by omega, by rw [e]; exact q⟩
/-! ### bodies -/
theorem spT_len : ∀ l : List (List Nat), (spT l).length ≤ (l.map fun p => p.length + 1).sum
  | [] => by simp [spT]
  | o :: r => by
    rw [List.map_cons, List.sum_cons]
    unfold spT
    rw [List.length_append, List.length_flatMap]
    have : (r.map fun q => (32 :: q).length).sum = (r.map fun p => p.length + 1).sum := rfl
    omega
theorem join_fits (l : List (List Nat)) (h : (l.map fun p => p.length + 1).sum ≤ 100000) : jLen (Str.ofString " ") (l.map S) ≤ sizeLine ∧ (joinT (Str.ofString " ") (l.map S)).length ≤ sizeLine ∧ joinT (Str.ofString " ") (l.map S) = S (spT l) := by
  have e32 : Str.ofString " " = S [32] := S_of " "
  refine ⟨?_, ?_, by rw [e32, join_S]⟩
  · unfold jLen
    rw [e32, List.foldl_toArray, sizeLine_eq]
    have := jlen l 0
    change (l.map S).foldl (fun a p => a + p.length + 1) 0 ≤ _
    rw [this]
    omega
  · rw [e32, join_S, S_len, sizeLine_eq]
    have := spT_len l
    omega
/-- a list of words is joined -/
theorem join_ok {Q : VK} {H : Hp} {zs : List Str} (l : List (List Nat)) (e : zs = l.map S) (h : (l.map fun p => p.length + 1).sum ≤ 100000) (q : Q (.str (S (spT l))) H) : jLen (Str.ofString " ") zs ≤ sizeLine ∧ (joinT (Str.ofString " ") zs).length ≤ sizeLine ∧ Q (.str (joinT (Str.ofString " ") zs)) H := by
  subst e
  obtain ⟨h1, h2, h3⟩ := join_fits l h
  exact ⟨h1, h2, by rw [h3]; exact q⟩
theorem nT_len {n : Nat} (h : n ≤ 10 ^ 13) : (nT n).length ≤ 14 := oT_len (o := some n) (fun m e => by cases e; exact h)
theorem tT_len {t : Th} (h : t.Ok) : (tT t).length ≤ 40 := by
  cases t with
  | beg => decide
  | fin => decide
  | sg z =>
    have h1 := h.2
    have h2 := nT_len (n := z.length) (by omega)
    have h3 : (K83.w "signs").length = 5 := by decide
    unfold tT
    rw [List.length_append, List.length_cons, List.length_append, List.length_cons, h3]
    omega
/-- what a body's tuple holds -/
def RBd (H : Hp) (v : V) : Bd → Prop
  | .piece n t => ∃ p u, v = .ref p ∧ H p = some (.tup [.str (Str.ofString "piece"), .int (n : Int), u]) ∧ RTh H u t
  | .got n => ∃ p, v = .ref p ∧ H p = some (.tup [.str (Str.ofString "got"), .int (n : Int)])
  | .ask z n => ∃ p, v = .ref p ∧ H p = some (.tup [.str (Str.ofString "ask"), .str (S z), .int (n : Int)])
  | .told z o n => ∃ p, v = .ref p ∧ H p = some (.tup [.str (Str.ofString "told"), .str (S z), onV o, .int (n : Int)])
def Bd.Sm : Bd → Prop
  | .piece n t => n ≤ 10 ^ 13 ∧ t.Ok
  | .got n => n ≤ 10 ^ 13
  | .ask z n => z.length ≤ 8 ∧ n ≤ 10 ^ 13
  | .told z o n => z.length ≤ 8 ∧ small o ∧ n ≤ 10 ^ 13
theorem small_some {n : Nat} (h : n ≤ 10 ^ 13) : small (some n) := fun m e => by cases e; exact h
def sp_bdt : Sp := fun vs H Q _ => ∃ (v : V) (b : Bd), vs = [v] ∧ RBd H v b ∧ b.Sm ∧ ∀ H', Same H H' → Q (.str (S (bT b))) H'
theorem own_bdt (D : Def K mg "body_text" s_body_text) (hb : Blt mg) (F_number_text : Own P w K mg base 1 "number_text" ["number"] sp_num) (F_numbers_text : Own P w K mg base 2 "numbers_text" ["numbers"] sp_nums) (F_thing_text : Own P w K mg base 1 "thing_text" ["thing"] sp_tht) : Own P w K mg base 3 "body_text" ["body"] sp_bdt := by
  refine D.own sc_body_text (fun _ _ _ _ _ _ us hl => match us, hl with | [_], _ => rfl) (fun vs H Q E h => ?_) (fun f cdv A outer s H vs Q E hr h => ?_)
  · obtain ⟨v, b, rfl, _⟩ := h
    rfl
  · obtain ⟨v, b, rfl, hv, hs, q⟩ := h
    have hu := hr.units
    have hu1 : (A.deeper (PyProof.Rows.envOfC "body_text" (defScope s_body_text) s.heap.objs.size f cdv)).units + 1 < cLine := by omega
    refine ⟨_, (@pss_cons _ _ _ _ _ (@ps_set _ _ 1 _ _ _ _ sc_body_text.nd rfl (by first | exact Or.inl rfl | exact Or.inr rfl) (@pe_ix _ _ _ _ _ _ _ (ix_get hu1) (@pv _ 0 _ _ (by rfl) (by first | exact Or.inl rfl | exact Or.inr (Or.inl rfl) | exact Or.inr (Or.inr rfl)) (by decide) (by decide)) (@pe_int _ _ _ _) (fun _ _ => rfl)) (by rfl) (by first | exact .inl rfl | exact .inr rfl | assumption)) (@pss_cons _ _ _ _ _ (@ps_if _ _ _ _ _ _ _ _ (@pt_cmpR _ _ _ _ _ _ _ _ op_eq (@pv _ 1 _ _ (by rfl) (by first | exact Or.inl rfl | exact Or.inr (Or.inl rfl) | exact Or.inr (Or.inr rfl)) (by decide) (by decide)) (@pe_str _ _ _ _) (nomark _)) (@pss_one _ _ _ (@ps_set _ _ 2 _ _ _ _ sc_body_text.nd rfl (by first | exact Or.inl rfl | exact Or.inr rfl) (@pe_lst _ _ _ _ (@pa_cX _ _ _ _ _ (@pe_fn _ _ _ _ _ _ _ _ _ _ _ F_number_text hr (@pa_cX _ _ _ _ _ (@pe_ix _ _ _ _ _ _ _ (ix_get hu1) (@pv _ 0 _ _ (by rfl) (by first | exact Or.inl rfl | exact Or.inr (Or.inl rfl) | exact Or.inr (Or.inr rfl)) (by decide) (by decide)) (@pe_int _ _ _ _) (fun _ _ => rfl)) (@pa_nil _) (by rfl)) (by decide) (by rfl) (by decide) (by rfl) (by rfl)) (@pa_cX _ _ _ _ _ (@pe_fn _ _ _ _ _ _ _ _ _ _ _ F_thing_text hr (@pa_cX _ _ _ _ _ (@pe_ix _ _ _ _ _ _ _ (ix_get hu1) (@pv _ 0 _ _ (by rfl) (by first | exact Or.inl rfl | exact Or.inr (Or.inl rfl) | exact Or.inr (Or.inr rfl)) (by decide) (by decide)) (@pe_int _ _ _ _) (fun _ _ => rfl)) (@pa_nil _) (by rfl)) (by decide) (by rfl) (by decide) (by rfl) (by rfl)) (@pa_nil _) (by rfl)) (by rfl))) (by rfl) (by first | exact .inl rfl | exact .inr rfl | assumption))) (@pss_one _ _ _ (@ps_if _ _ _ _ _ _ _ _ (@pt_cmpR _ _ _ _ _ _ _ _ op_eq (@pv _ 1 _ _ (by rfl) (by first | exact Or.inl rfl | exact Or.inr (Or.inl rfl) | exact Or.inr (Or.inr rfl)) (by decide) (by decide)) (@pe_str _ _ _ _) (nomark _)) (@pss_one _ _ _ (@ps_set _ _ 2 _ _ _ _ sc_body_text.nd rfl (by first | exact Or.inl rfl | exact Or.inr rfl) (@pe_lst _ _ _ _ (@pa_cX _ _ _ _ _ (@pe_fn _ _ _ _ _ _ _ _ _ _ _ F_number_text hr (@pa_cX _ _ _ _ _ (@pe_ix _ _ _ _ _ _ _ (ix_get hu1) (@pv _ 0 _ _ (by rfl) (by first | exact Or.inl rfl | exact Or.inr (Or.inl rfl) | exact Or.inr (Or.inr rfl)) (by decide) (by decide)) (@pe_int _ _ _ _) (fun _ _ => rfl)) (@pa_nil _) (by rfl)) (by decide) (by rfl) (by decide) (by rfl) (by rfl)) (@pa_nil _) (by rfl))) (by rfl) (by first | exact .inl rfl | exact .inr rfl | assumption))) (@pss_one _ _ _ (@ps_set _ _ 2 _ _ _ _ sc_body_text.nd rfl (by first | exact Or.inl rfl | exact Or.inr rfl) (@pe_lst _ _ _ _ (@pa_cX _ _ _ _ _ (@pe_ix _ _ _ _ _ _ _ (ix_get hu1) (@pv _ 0 _ _ (by rfl) (by first | exact Or.inl rfl | exact Or.inr (Or.inl rfl) | exact Or.inr (Or.inr rfl)) (by decide) (by decide)) (@pe_int _ _ _ _) (fun _ _ => rfl)) (@pa_cX _ _ _ _ _ (@pe_fn _ _ _ _ _ _ _ _ _ _ _ F_numbers_text hr (@pa_cX _ _ _ _ _ (@pe_slice _ _ _ _ _ _ _ _ _ _ sl_TX (@pv _ 0 _ _ (by rfl) (by first | exact Or.inl rfl | exact Or.inr (Or.inl rfl) | exact Or.inr (Or.inr rfl)) (by decide) (by decide)) (@po_some _ _ _ (@pe_int _ _ _ _)) (@po_none _)) (@pa_nil _) (by rfl)) (by decide) (by rfl) (by decide) (by rfl) (by rfl)) (@pa_nil _) (by rfl)) (by rfl))) (by rfl) (by first | exact .inl rfl | exact .inr rfl | assumption)))))) (@pss_one _ _ _ (@ps_ret _ _ _ _ (@pe_join _ _ _ _ _ _ _ (@pe_str _ _ _ _) (@pe_op _ _ _ _ _ _ _ _ op_cat (@pe_lst _ _ _ _ (@pa_cX _ _ _ _ _ (@pv _ 1 _ _ (by rfl) (by first | exact Or.inl rfl | exact Or.inr (Or.inl rfl) | exact Or.inr (Or.inr rfl)) (by decide) (by decide)) (@pa_nil _) (by rfl))) (@pv _ 2 _ _ (by rfl) (by first | exact Or.inl rfl | exact Or.inr (Or.inl rfl) | exact Or.inr (Or.inr rfl)) (by decide) (by decide))) (by constructor <;> rfl)))))), ?_⟩
    cases b with
    | piece n t =>
      obtain ⟨p, u, rfl, ep, hu'⟩ := hv
      simp (maxSteps := 1000000) only [rEq_ss, rGet, getO_t, atI_0, atI_1, Nat.reduceSub, upd_same, HO.lst.injEq, Nat.reduceAdd, decide_true, tSl, tNoPart, tPart, rCat, tSeq, exists_and_left, if_true, tIfS, tTest, tOp, tVar, tC, tRet, tAsg, gName, tCall, tCons, tNil, tLst, L2.start, List.map_cons, List.map_nil, List.length_cons, List.length_nil, List.replicate, List.cons_append, List.nil_append, List.getElem?_cons_zero, List.getElem?_cons_succ, List.set_cons_zero, List.set_cons_succ, Option.some.injEq, exists_eq_left', V.int.injEq, V.bl.injEq, V.ref.injEq, V.str.injEq, List.append_nil, ep, tJoin]
      refine ⟨some n, rfl, small_some hs.1, ?_⟩
      simp (maxSteps := 1000000) only [getO_t, atI_2, Option.some.injEq, exists_eq_left', ep]
      refine ⟨u, t, rfl, hu', hs.2, by rw [sizeLine_eq]; decide, ?_⟩
      intro p1 n1
      generalize z1 : upd H p1 _ = H1
      obtain ⟨s1, e1⟩ := new_same z1 n1
      refine ⟨by rw [sizeLine_eq]; decide, ?_⟩
      intro p2 n2
      generalize z2 : upd H1 p2 _ = H2
      obtain ⟨s2, e2⟩ := new_same z2 n2
      have e12 := s2 _ _ e1
      simp (maxSteps := 1000000) only [HO.lst.injEq, Nat.reduceAdd, List.length_cons, List.length_nil, Option.some.injEq, exists_eq_left', e12]
      refine ⟨by rw [sizeLine_eq]; decide, ?_⟩
      intro p3 n3
      generalize z3 : upd H2 p3 _ = H3
      obtain ⟨s3, e3⟩ := new_same z3 n3
      have ew : Str.ofString "piece" = S (K83.w "piece") := S_of _
      have l1 := nT_len hs.1
      have l2 := tT_len hs.2
      have l3 : (K83.w "piece").length = 5 := by decide
      refine ⟨[Str.ofString "piece", S (oT (some n)), S (tT t)], rfl, join_ok [K83.w "piece", nT n, tT t] (by rw [ew]; rfl) ?_ ?_⟩
      · simp only [List.map_cons, List.map_nil, List.sum_cons, List.sum_nil]
        omega
      · have e : spT [K83.w "piece", nT n, tT t] = bT (.piece n t) := by simp [spT, bT]
        rw [e]
        exact q _ ((s1.trans s2).trans s3)
    | got n =>
      obtain ⟨p, rfl, ep⟩ := hv
      have hne : (Str.ofString "got" = Str.ofString "piece") = False := by simp; decide
      simp (maxSteps := 1000000) only [rEq_ss, rGet, getO_t, atI_0, atI_1, Nat.reduceSub, upd_same, HO.lst.injEq, Nat.reduceAdd, decide_true, decide_false, tSl, tNoPart, tPart, rCat, tSeq, exists_and_left, if_false, if_true, Bool.false_eq_true, tIfS, tTest, tOp, tVar, tC, tRet, tAsg, gName, tCall, tCons, tNil, tLst, L2.start, List.map_cons, List.map_nil, List.length_cons, List.length_nil, List.replicate, List.cons_append, List.nil_append, List.getElem?_cons_zero, List.getElem?_cons_succ, List.set_cons_zero, List.set_cons_succ, Option.some.injEq, exists_eq_left', V.int.injEq, V.bl.injEq, V.ref.injEq, V.str.injEq, List.append_nil, ep, hne, tJoin]
      refine ⟨some n, rfl, small_some hs, by rw [sizeLine_eq]; decide, ?_⟩
      intro p1 n1
      generalize z1 : upd H p1 _ = H1
      obtain ⟨s1, e1⟩ := new_same z1 n1
      refine ⟨by rw [sizeLine_eq]; decide, ?_⟩
      intro p2 n2
      generalize z2 : upd H1 p2 _ = H2
      obtain ⟨s2, e2⟩ := new_same z2 n2
      have e12 := s2 _ _ e1
      simp (maxSteps := 1000000) only [HO.lst.injEq, Nat.reduceAdd, List.length_cons, List.length_nil, Option.some.injEq, exists_eq_left', e12]
      refine ⟨by rw [sizeLine_eq]; decide, ?_⟩
      intro p3 n3
      generalize z3 : upd H2 p3 _ = H3
      obtain ⟨s3, e3⟩ := new_same z3 n3
      have ew : Str.ofString "got" = S (K83.w "got") := S_of _
      have l1 := nT_len hs
      have l3 : (K83.w "got").length = 3 := by decide
      refine ⟨[Str.ofString "got", S (oT (some n))], rfl, join_ok [K83.w "got", nT n] (by rw [ew]; rfl) ?_ ?_⟩
      · simp only [List.map_cons, List.map_nil, List.sum_cons, List.sum_nil]
        omega
      · have e : spT [K83.w "got", nT n] = bT (.got n) := by simp [spT, bT]
        rw [e]
        exact q _ ((s1.trans s2).trans s3)
    | ask z n =>
      obtain ⟨p, rfl, ep⟩ := hv
      have hne : (Str.ofString "ask" = Str.ofString "piece") = False := by simp; decide
      have hne2 : (Str.ofString "ask" = Str.ofString "got") = False := by simp; decide
      simp (maxSteps := 1000000) only [rEq_ss, rGet, getO_t, atI_0, atI_1, Nat.reduceSub, upd_same, HO.lst.injEq, HO.tup.injEq, Nat.reduceAdd, decide_false, tSl, tNoPart, tPart, rCat, tSeq, exists_and_left, if_false, Bool.false_eq_true, tIfS, tTest, tOp, tVar, tC, tRet, tAsg, gName, tCall, tCons, tNil, tLst, L2.start, List.map_cons, List.map_nil, List.length_cons, List.length_nil, List.replicate, List.cons_append, List.nil_append, List.getElem?_cons_zero, List.getElem?_cons_succ, List.set_cons_zero, List.set_cons_succ, Option.some.injEq, exists_eq_left', V.int.injEq, V.bl.injEq, V.ref.injEq, V.str.injEq, List.append_nil, ep, hne, hne2, tJoin, rSlTX]
      intro p1 H1 h1 e1
      have s1 : Same H H1 := by
        rcases h1 with rfl | ⟨n1, rfl⟩
        · exact .refl _
        · exact .upd_new n1
      have ecut : cutV [V.str (Str.ofString "ask"), V.str (S z), V.int (n : Int)] (some 2) none = [some n].map onV := rfl
      rw [ecut] at e1
      refine ⟨p1, [some n], rfl, e1, (fun o ho => by rw [List.mem_singleton] at ho; subst ho; exact small_some hs.2), by simp, fun H2 s2 => ⟨by rw [sizeLine_eq]; decide, ?_⟩⟩
      intro p3 n3
      generalize z3 : upd H2 p3 _ = H3
      obtain ⟨s3, e3⟩ := new_same z3 n3
      refine ⟨by rw [sizeLine_eq]; decide, ?_⟩
      intro p4 n4
      generalize z4 : upd H3 p4 _ = H4
      obtain ⟨s4, e4⟩ := new_same z4 n4
      have e34 := s4 _ _ e3
      simp (maxSteps := 1000000) only [HO.lst.injEq, Nat.reduceAdd, List.map_cons, List.map_nil, List.length_cons, List.length_nil, Option.some.injEq, exists_eq_left', e34]
      refine ⟨by rw [sizeLine_eq]; decide, ?_⟩
      intro p5 n5
      generalize z5 : upd H4 p5 _ = H5
      obtain ⟨s5, e5⟩ := new_same z5 n5
      have ew : Str.ofString "ask" = S (K83.w "ask") := S_of _
      have l3 : (K83.w "ask").length = 3 := by decide
      have lz := hs.1
      have l1 : (oT (some n)).length ≤ 14 := nT_len hs.2
      refine ⟨[Str.ofString "ask", S z, S (spT ([some n].map oT))], rfl, join_ok [K83.w "ask", z, spT ([some n].map oT)] (by rw [ew]; rfl) ?_ ?_⟩
      · simp only [List.map_cons, List.map_nil, List.sum_cons, List.sum_nil]
        have := spT_len ([some n].map oT)
        simp only [List.map_cons, List.map_nil, List.sum_cons, List.sum_nil] at this
        omega
      · have e : spT [K83.w "ask", z, spT ([some n].map oT)] = bT (.ask z n) := by simp [spT, bT, oT]
        rw [e]
        exact q _ ((((s1.trans s2).trans s3).trans s4).trans s5)
    | told z o n =>
      obtain ⟨p, rfl, ep⟩ := hv
      have hne : (Str.ofString "told" = Str.ofString "piece") = False := by simp; decide
      have hne2 : (Str.ofString "told" = Str.ofString "got") = False := by simp; decide
      simp (maxSteps := 1000000) only [rEq_ss, rGet, getO_t, atI_0, atI_1, Nat.reduceSub, upd_same, HO.lst.injEq, HO.tup.injEq, Nat.reduceAdd, decide_false, tSl, tNoPart, tPart, rCat, tSeq, exists_and_left, if_false, Bool.false_eq_true, tIfS, tTest, tOp, tVar, tC, tRet, tAsg, gName, tCall, tCons, tNil, tLst, L2.start, List.map_cons, List.map_nil, List.length_cons, List.length_nil, List.replicate, List.cons_append, List.nil_append, List.getElem?_cons_zero, List.getElem?_cons_succ, List.set_cons_zero, List.set_cons_succ, Option.some.injEq, exists_eq_left', V.int.injEq, V.bl.injEq, V.ref.injEq, V.str.injEq, List.append_nil, ep, hne, hne2, tJoin, rSlTX]
      intro p1 H1 h1 e1
      have s1 : Same H H1 := by
        rcases h1 with rfl | ⟨n1, rfl⟩
        · exact .refl _
        · exact .upd_new n1
      have ecut : cutV [V.str (Str.ofString "told"), V.str (S z), onV o, V.int (n : Int)] (some 2) none = [o, some n].map onV := rfl
      rw [ecut] at e1
      refine ⟨p1, [o, some n], rfl, e1, (fun x hx => by
        rcases List.mem_cons.mp hx with rfl | hx
        · exact hs.2.1
        · rw [List.mem_singleton] at hx
          subst hx
          exact small_some hs.2.2), by simp, fun H2 s2 => ⟨by rw [sizeLine_eq]; decide, ?_⟩⟩
      intro p3 n3
      generalize z3 : upd H2 p3 _ = H3
      obtain ⟨s3, e3⟩ := new_same z3 n3
      refine ⟨by rw [sizeLine_eq]; decide, ?_⟩
      intro p4 n4
      generalize z4 : upd H3 p4 _ = H4
      obtain ⟨s4, e4⟩ := new_same z4 n4
      have e34 := s4 _ _ e3
      simp (maxSteps := 1000000) only [HO.lst.injEq, Nat.reduceAdd, List.map_cons, List.map_nil, List.length_cons, List.length_nil, Option.some.injEq, exists_eq_left', e34]
      refine ⟨by rw [sizeLine_eq]; decide, ?_⟩
      intro p5 n5
      generalize z5 : upd H4 p5 _ = H5
      obtain ⟨s5, e5⟩ := new_same z5 n5
      have ew : Str.ofString "told" = S (K83.w "told") := S_of _
      have l3 : (K83.w "told").length = 4 := by decide
      have lz := hs.1
      have l1 : (oT (some n)).length ≤ 14 := nT_len hs.2.2
      have l2 := oT_len hs.2.1
      refine ⟨[Str.ofString "told", S z, S (spT ([o, some n].map oT))], rfl, join_ok [K83.w "told", z, spT ([o, some n].map oT)] (by rw [ew]; rfl) ?_ ?_⟩
      · simp only [List.map_cons, List.map_nil, List.sum_cons, List.sum_nil]
        have := spT_len ([o, some n].map oT)
        simp only [List.map_cons, List.map_nil, List.sum_cons, List.sum_nil] at this
        omega
      · have e : spT [K83.w "told", z, spT ([o, some n].map oT)] = bT (.told z o n) := by simp [spT, bT, oT]
        rw [e]
        exact q _ ((((s1.trans s2).trans s3).trans s4).trans s5)
end
end K83
namespace K83
open PySem L2
theorem RTh.same {H H' : Hp} {v : V} {t : Th} (h : RTh H v t) (s : Same H H') : RTh H' v t := by
  obtain ⟨p, e, h⟩ := h
  exact ⟨p, e, s _ _ h⟩
theorem RBd.same {H H' : Hp} {v : V} : ∀ {b : Bd}, RBd H v b → Same H H' → RBd H' v b
  | .piece _ _, ⟨p, u, e, h, t⟩, s => ⟨p, u, e, s _ _ h, t.same s⟩
  | .got _, ⟨p, e, h⟩, s => ⟨p, e, s _ _ h⟩
  | .ask _ _, ⟨p, e, h⟩, s => ⟨p, e, s _ _ h⟩
  | .told _ _ _, ⟨p, e, h⟩, s => ⟨p, e, s _ _ h⟩
def RPc (H : Hp) (v : V) (p : Pc) : Prop := ∃ q u, v = .ref q ∧ H q = some (.tup [.int (p.a : Int), .int (p.b : Int), .int (p.c : Int), u]) ∧ RBd H u p.d
theorem RPc.same {H H' : Hp} {v : V} {p : Pc} (h : RPc H v p) (s : Same H H') : RPc H' v p := by
  obtain ⟨q, u, e, h, b⟩ := h
  exact ⟨q, u, e, s _ _ h, b.same s⟩
def Pc.Sm (p : Pc) : Prop := p.a ≤ 10 ^ 13 ∧ p.b ≤ 10 ^ 13 ∧ p.c ≤ 10 ^ 13 ∧ p.d.Sm
theorem bT_len {b : Bd} (h : b.Sm) : (bT b).length ≤ 100 := by
  have k1 : (w "piece").length = 5 := by decide
  have k2 : (w "got").length = 3 := by decide
  have k3 : (w "ask").length = 3 := by decide
  have k4 : (w "told").length = 4 := by decide
  cases b with
  | piece n t =>
    have := nT_len h.1
    have := tT_len h.2
    simp only [bT, List.length_append, List.length_cons]
    omega
  | got n =>
    have := nT_len h
    simp only [bT, List.length_append, List.length_cons]
    omega
  | ask z n =>
    have := nT_len h.2
    have := h.1
    simp only [bT, List.length_append, List.length_cons]
    omega
  | told z o n =>
    have := nT_len h.2.2
    have := oT_len h.2.1
    have := h.1
    simp only [bT, List.length_append, List.length_cons]
    omega
section
variable {P : Program} {w : World} {K : PySem.W.Frag} {mg : Str → Option Value} {base : Heap}
def sp_pct : Sp := fun vs H Q _ => ∃ (v : V) (p : Pc), vs = [v] ∧ RPc H v p ∧ p.Sm ∧ ∀ H', Same H H' → Q (.str (S (pT p))) H'
theorem own_pct (D : Def K mg "parcel_text" s_parcel_text) (hb : Blt mg) (F_numbers_text : Own P w K mg base 2 "numbers_text" ["numbers"] sp_nums) (F_body_text : Own P w K mg base 3 "body_text" ["body"] sp_bdt) : Own P w K mg base 4 "parcel_text" ["parcel"] sp_pct := by
  refine D.own sc_parcel_text (fun _ _ _ _ _ _ us hl => match us, hl with | [_], _ => rfl) (fun vs H Q E h => ?_) (fun f cdv A outer s H vs Q E hr h => ?_)
  · obtain ⟨v, p, rfl, _⟩ := h
    rfl
  · obtain ⟨v, p, rfl, ⟨r, u, rfl, er, hu'⟩, hs, q⟩ := h
    have hu := hr.units
    have hu1 : (A.deeper (PyProof.Rows.envOfC "parcel_text" (defScope s_parcel_text) s.heap.objs.size f cdv)).units + 1 < cLine := by omega
    refine ⟨_, (@pss_one _ _ _ (@ps_ret _ _ _ _ (@pe_op _ _ _ _ _ _ _ _ op_add_str (@pe_op _ _ _ _ _ _ _ _ op_add_str (@pe_fn _ _ _ _ _ _ _ _ _ _ _ F_numbers_text hr (@pa_cX _ _ _ _ _ (@pe_slice _ _ _ _ _ _ _ _ _ _ sl_TX (@pv _ 0 _ _ (by rfl) (by first | exact Or.inl rfl | exact Or.inr (Or.inl rfl) | exact Or.inr (Or.inr rfl)) (by decide) (by decide)) (@po_none _) (@po_some _ _ _ (@pe_int _ _ _ _))) (@pa_nil _) (by rfl)) (by decide) (by rfl) (by decide) (by rfl) (by rfl)) (@pe_str _ _ _ _)) (@pe_fn _ _ _ _ _ _ _ _ _ _ _ F_body_text hr (@pa_cX _ _ _ _ _ (@pe_ix _ _ _ _ _ _ _ (ix_get hu1) (@pv _ 0 _ _ (by rfl) (by first | exact Or.inl rfl | exact Or.inr (Or.inl rfl) | exact Or.inr (Or.inr rfl)) (by decide) (by decide)) (@pe_int _ _ _ _) (fun _ _ => rfl)) (@pa_nil _) (by rfl)) (by decide) (by rfl) (by decide) (by rfl) (by rfl))))), ?_⟩
    simp (maxSteps := 1000000) only [rGet, Nat.reduceSub, HO.tup.injEq, Nat.reduceAdd, tSl, tNoPart, tPart, exists_and_left, tOp, tVar, tC, tRet, tCall, tCons, tNil, L2.start, List.map_cons, List.map_nil, List.length_cons, List.length_nil, List.replicate, List.getElem?_cons_zero, Option.some.injEq, exists_eq_left', V.int.injEq, V.ref.injEq, V.str.injEq, List.append_nil, er, rSlTX]
    intro p1 H1 h1 e1
    have s1 : Same H H1 := by
      rcases h1 with rfl | ⟨n1, rfl⟩
      · exact .refl _
      · exact .upd_new n1
    have ecut : cutV [V.int (p.a : Int), V.int (p.b : Int), V.int (p.c : Int), u] none (some 3) = [some p.a, some p.b, some p.c].map onV := rfl
    rw [ecut] at e1
    refine ⟨p1, [some p.a, some p.b, some p.c], rfl, e1, fun x hx => ?_, by simp, fun H2 s2 => ?_⟩
    · simp only [List.mem_cons, List.not_mem_nil, or_false] at hx
      rcases hx with rfl | rfl | rfl
      · exact small_some hs.1
      · exact small_some hs.2.1
      · exact small_some hs.2.2.1
    have s12 := s1.trans s2
    have er2 := s12 _ _ er
    simp (maxSteps := 1000000) only [getO_t, atI_3, List.map_cons, List.map_nil, Option.some.injEq, exists_eq_left', V.str.injEq, er2]
    have e32 : Str.ofString " " = S [32] := S_of " "
    have ln : (spT [oT (some p.a), oT (some p.b), oT (some p.c)]).length ≤ 100 := by
      have h := spT_len [oT (some p.a), oT (some p.b), oT (some p.c)]
      have h1 := oT_len (small_some hs.1)
      have h2 := oT_len (small_some hs.2.1)
      have h3 := oT_len (small_some hs.2.2.1)
      simp only [List.map_cons, List.map_nil, List.sum_cons, List.sum_nil] at h
      omega
    have lb := bT_len hs.2.2.2
    rw [e32, S_app]
    refine ⟨by rw [S_len, S_len, sizeLine_eq]; simp only [List.length_cons, List.length_nil]; omega, u, p.d, rfl, hu'.same s12, hs.2.2.2, fun H3 s3 => ⟨_, rfl, ?_, ?_⟩⟩
    · rw [S_len, S_len, List.length_append, sizeLine_eq]
      simp only [List.length_cons, List.length_nil]
      omega
    · rw [S_app]
      have e : spT [oT (some p.a), oT (some p.b), oT (some p.c)] ++ [32] ++ bT p.d = pT p := by simp [spT, pT, oT]
      rw [e]
      exact q _ (s12.trans s3)
theorem pT_len {p : Pc} (h : p.Sm) : (pT p).length ≤ 200 := by
  have h1 := nT_len h.1
  have h2 := nT_len h.2.1
  have h3 := nT_len h.2.2.1
  have h4 := bT_len h.2.2.2
  simp only [pT, List.length_append, List.length_cons]
  omega
/-- a number and a parcel -/
def RSt (H : Hp) (v : V) (p : Nat × Pc) : Prop := ∃ q u, v = .ref q ∧ H q = some (.tup [.int (p.1 : Int), u]) ∧ RPc H u p.2
theorem RSt.same {H H' : Hp} {v : V} {p : Nat × Pc} (h : RSt H v p) (s : Same H H') : RSt H' v p := by
  obtain ⟨q, u, e, h, b⟩ := h
  exact ⟨q, u, e, s _ _ h, b.same s⟩
def sp_prt : Sp := fun vs H Q _ => ∃ (v : V) (p : Nat × Pc), vs = [v] ∧ RSt H v p ∧ p.1 ≤ 10 ^ 13 ∧ p.2.Sm ∧ ∀ H', Same H H' → Q (.str (S (sT p))) H'
theorem own_prt (D : Def K mg "pair_text" s_pair_text) (hb : Blt mg) (F_number_text : Own P w K mg base 1 "number_text" ["number"] sp_num) (F_parcel_text : Own P w K mg base 4 "parcel_text" ["parcel"] sp_pct) : Own P w K mg base 5 "pair_text" ["pair"] sp_prt := by
  refine D.own sc_pair_text (fun _ _ _ _ _ _ us hl => match us, hl with | [_], _ => rfl) (fun vs H Q E h => ?_) (fun f cdv A outer s H vs Q E hr h => ?_)
  · obtain ⟨v, p, rfl, _⟩ := h
    rfl
  · obtain ⟨v, p, rfl, ⟨r, u, rfl, er, hu'⟩, hn, hs, q⟩ := h
    have hu := hr.units
    have hu1 : (A.deeper (PyProof.Rows.envOfC "pair_text" (defScope s_pair_text) s.heap.objs.size f cdv)).units + 1 < cLine := by omega
    refine ⟨_, (@pss_one _ _ _ (@ps_ret _ _ _ _ (@pe_op _ _ _ _ _ _ _ _ op_add_str (@pe_op _ _ _ _ _ _ _ _ op_add_str (@pe_fn _ _ _ _ _ _ _ _ _ _ _ F_number_text hr (@pa_cX _ _ _ _ _ (@pe_ix _ _ _ _ _ _ _ (ix_get hu1) (@pv _ 0 _ _ (by rfl) (by first | exact Or.inl rfl | exact Or.inr (Or.inl rfl) | exact Or.inr (Or.inr rfl)) (by decide) (by decide)) (@pe_int _ _ _ _) (fun _ _ => rfl)) (@pa_nil _) (by rfl)) (by decide) (by rfl) (by decide) (by rfl) (by rfl)) (@pe_str _ _ _ _)) (@pe_fn _ _ _ _ _ _ _ _ _ _ _ F_parcel_text hr (@pa_cX _ _ _ _ _ (@pe_ix _ _ _ _ _ _ _ (ix_get hu1) (@pv _ 0 _ _ (by rfl) (by first | exact Or.inl rfl | exact Or.inr (Or.inl rfl) | exact Or.inr (Or.inr rfl)) (by decide) (by decide)) (@pe_int _ _ _ _) (fun _ _ => rfl)) (@pa_nil _) (by rfl)) (by decide) (by rfl) (by decide) (by rfl) (by rfl))))), ?_⟩
    simp (maxSteps := 1000000) only [rGet, getO_t, atI_0, Nat.reduceSub, Nat.reduceAdd, exists_and_left, tOp, tVar, tC, tRet, tCall, tCons, tNil, L2.start, List.map_cons, List.map_nil, List.length_cons, List.length_nil, List.replicate, List.getElem?_cons_zero, Option.some.injEq, exists_eq_left', V.ref.injEq, V.str.injEq, List.append_nil, er]
    refine ⟨some p.1, rfl, small_some hn, ?_⟩
    simp (maxSteps := 1000000) only [getO_t, atI_1, Option.some.injEq, exists_eq_left', V.str.injEq, er]
    have e32 : Str.ofString " " = S [32] := S_of " "
    have l1 := oT_len (small_some hn)
    have lb := pT_len hs
    rw [e32, S_app]
    refine ⟨by rw [S_len, S_len, sizeLine_eq]; simp only [List.length_cons, List.length_nil]; omega, u, p.2, rfl, hu', hs, fun H3 s3 => ⟨_, rfl, ?_, ?_⟩⟩
    · rw [S_len, S_len, List.length_append, sizeLine_eq]
      simp only [List.length_cons, List.length_nil]
      omega
    · rw [S_app]
      have e : oT (some p.1) ++ [32] ++ pT p.2 = sT p := by simp [sT, oT]
      rw [e]
      exact q _ s3
end
end K83
namespace K83
open PySem L2
abbrev s_wish_text : Stmt := top 8
theorem sc_wish_text : FnScope ["word", "what", "goal", "text"] ["word", "what"] (defScope s_wish_text) := ⟨rfl, rfl, rfl, by decide +kernel, rfl, by decide +kernel, by decide +kernel⟩
abbrev s_parted : Stmt := top 9
theorem sc_parted : FnScope ["words", "parts"] ["words", "parts"] (defScope s_parted) := ⟨rfl, rfl, rfl, by decide +kernel, rfl, by decide +kernel, by decide +kernel⟩
theorem cs_parted_0 : CScope ["part"] [] { kind := .function, names := [(".0", .local), ("part", .local)], isGenerator := false, isCoroutine := false, more := [] } (defScope s_parted) := ⟨rfl, by decide +kernel, by decide +kernel, by decide +kernel, by decide +kernel, by decide +kernel⟩
theorem join_S0 : ∀ l : List (List Nat), joinT (S []) (l.map S) = S l.flatten
  | [] => rfl
  | [p] => by
    change S p = S (p ++ [])
    rw [List.append_nil]
  | p :: q :: r => by
    change Builtin.Str.glued (S []) ((p :: q :: r).map S) = _
    unfold Builtin.Str.glued
    have := glue_S [] (q :: r) p
    rw [List.map_cons, List.drop_succ_cons, List.drop_zero, List.headD_cons]
    change (⟨((q :: r).map S).foldl (fun a p => a ++ (S []).cps ++ p.cps) p.toArray⟩ : Str) = _
    rw [this]
    simp [S, List.flatMap]
theorem jlen0 : ∀ (l : List (List Nat)) (m : Nat), (l.map S).foldl (fun a p => a + p.length + 0) m = m + (l.map fun p => p.length).sum
  | [], m => by simp
  | p :: r, m => by
    rw [List.map_cons, List.foldl_cons, jlen0 r, List.map_cons, List.sum_cons, S_len]
    omega
theorem join_ok0 {Q : VK} {H : Hp} {zs : List Str} (l : List (List Nat)) (e : zs = l.map S) (h : (l.map fun p => p.length).sum ≤ 100000) (q : Q (.str (S l.flatten)) H) : jLen (Str.ofString "") zs ≤ sizeLine ∧ (joinT (Str.ofString "") zs).length ≤ sizeLine ∧ Q (.str (joinT (Str.ofString "") zs)) H := by
  subst e
  have e0 : Str.ofString "" = S [] := S_of ""
  refine ⟨?_, ?_, by rw [e0, join_S0]; exact q⟩
  · unfold jLen
    rw [e0, List.foldl_toArray, sizeLine_eq]
    have := jlen0 l 0
    change (l.map S).foldl (fun a p => a + p.length + 0) 0 ≤ _
    rw [this]
    omega
  · rw [e0, join_S0, S_len, sizeLine_eq, List.length_flatten]
    have : (l.map List.length).sum = (l.map fun p => p.length).sum := rfl
    omega
theorem lT_flat : ∀ ps : List (List Nat), (ps.map fun p => 59 :: 32 :: p).flatten = lT id ps
  | [] => rfl
  | p :: r => by
    rw [List.map_cons, List.flatten_cons, lT_flat r]
    rfl
section
variable {P : Program} {w : World} {K : PySem.W.Frag} {mg : Str → Option Value} {base : Heap}
def sp_parted : Sp := fun vs H Q _ => ∃ (p1 p2 : Addr) (ws ps : List (List Nat)), vs = [.ref p1, .ref p2] ∧ H p1 = some (.lst ((ws.map S).map V.str)) ∧ H p2 = some (.lst ((ps.map S).map V.str)) ∧ (ws.map fun p => p.length + 1).sum ≤ 5000 ∧ ps.length ≤ 10 ∧ (∀ p ∈ ps, p.length ≤ 900) ∧ ∀ H', Same H H' → Q (.str (S (spT ws ++ lT id ps))) H'
set_option maxHeartbeats 4000000 in
theorem own_parted (D : Def K mg "parted" s_parted) (hb : Blt mg) : Own P w K mg base 1 "parted" ["words", "parts"] sp_parted := by
  refine D.own sc_parted (fun _ _ _ _ _ _ us hl => match us, hl with | [_, _], _ => rfl) (fun vs H Q E h => ?_) (fun f cdv A outer s H vs Q E hr h => ?_)
  · obtain ⟨p1, p2, ws, ps, rfl, _⟩ := h
    rfl
  · obtain ⟨p1, p2, ws, ps, rfl, e1, e2, hw, hl, hp, q⟩ := h
    refine ⟨_, (@pss_one _ _ _ (@ps_ret _ _ _ _ (@pe_op _ _ _ _ _ _ _ _ op_add_str (@pe_join _ _ _ _ _ _ _ (@pe_str _ _ _ _) (@pv _ 0 _ _ (by rfl) (by first | exact Or.inl rfl | exact Or.inr (Or.inl rfl) | exact Or.inr (Or.inr rfl)) (by decide) (by decide)) (by constructor <;> rfl)) (@pe_join _ _ _ _ _ _ _ (@pe_str _ _ _ _) (@pe_comp _ _ _ _ _ _ _ _ _ _ _ ["part"] [] [] rfl _ cs_parted_0 (@pi_listK _ K _ _ _ (@pv _ 1 _ _ (by rfl) (by first | exact Or.inl rfl | exact Or.inr (Or.inl rfl) | exact Or.inr (Or.inr rfl)) (by decide) (by decide)) (by rfl)) (fun _ _ _ _ => (@pg_name _ _ 0 _ cs_parted_0.nd rfl (by first | exact Or.inl rfl | exact Or.inr rfl) (by first | exact .inl rfl | exact .inr rfl | assumption))) (fun _ _ _ _ => (@pf_nil _)) (fun _ _ _ _ => (@pe_fstrX _ _ _ _ _ _ (@pjx_str _ _ _ _ _ _ _ 2 (by kernel_rfl) (@pjx_e _ _ _ _ _ _ _ (@pv _ 0 _ _ (by rfl) (by first | exact Or.inl rfl | exact Or.inr (Or.inl rfl) | exact Or.inr (Or.inr rfl)) (by decide) (by decide)) (@pjx_nil _ _ (by decide)) (by decide)) (by decide)))) (by rfl) (by rfl) (by rfl) (by intro _; rfl)) (by constructor <;> rfl))))), ?_⟩
    simp (maxSteps := 1000000) only [tComp_eq, Nat.reduceSub, HO.lst.injEq, Nat.reduceAdd, iList, exists_and_left, tOp, tVar, tC, tRet, L2.start, List.map_cons, List.map_nil, List.length_cons, List.length_nil, List.replicate, List.getElem?_cons_zero, List.getElem?_cons_succ, Option.some.injEq, exists_eq_left', V.ref.injEq, V.str.injEq, List.append_nil, tJoin, e1]
    obtain ⟨f1, f2, f3⟩ := join_fits ws (by omega)
    refine ⟨ws.map S, rfl, f1, f2, ⟨_, SqL.of e2⟩, comp_list (xs := (ps.map S).map V.str) (by rw [sizeLine_eq, List.length_map, List.length_map]; omega) (fun D i acc H' => acc = (((ps.take i).map fun p => 59 :: 32 :: p).map S).map V.str ∧ H' D = some (.lst acc) ∧ Same H H') (fun D hD => ⟨rfl, upd_same, .upd_new hD⟩) ?_ ?_ ?_⟩
    · rintro D i acc H2 hD hi ⟨rfl, eD, s2⟩
      exact ⟨eD, SqL.of (s2 _ _ e2), by simp; omega⟩
    · rintro D i v acc H2 hD hv ⟨rfl, eD, s2⟩
      rw [List.map_map, List.getElem?_map] at hv
      obtain ⟨o, ho, rfl⟩ := Option.map_eq_some_iff.mp hv
      have hlo := hp o (List.mem_of_getElem? ho)
      simp (maxSteps := 1000000) only [upd_same, tYes, cSt, List.drop_succ_cons, List.drop_zero, if_true, tVar, gName, List.map_nil, List.replicate, List.getElem?_cons_zero, List.set_cons_zero, Option.some.injEq, exists_eq_left', V.str.injEq, exists_const, true_and, reduceCtorEq, false_and, false_or, List.append_nil, tFsX, tXs, tXe, tXn, Function.comp]
      have e0 : Str.empty ++ Str.ofString "; " ++ S o = S (59 :: 32 :: o) := by
        rw [S_nil, S_of "; ", S_app, S_app]
        rfl
      refine ⟨by rw [S_len]; omega, eD, ?_, s2.upd hD⟩
      rw [e0, List.take_add_one, ho, Option.toList_some, List.map_append, List.map_append, List.map_append]
      rfl
    · rintro D acc H2 hD ⟨rfl, eD, s2⟩
      rw [List.length_map, List.length_map, List.take_length] at eD
      have hsum : ∀ l : List (List Nat), (∀ p ∈ l, p.length ≤ 900) → ((l.map fun p => 59 :: 32 :: p).map fun p => p.length).sum ≤ 902 * l.length := fun l => by
        induction l with
        | nil => intro _; simp
        | cons o r ih =>
          intro h
          have h1 := h o (.head _)
          have h2 := ih (fun z hz => h z (.tail _ hz))
          rw [List.map_cons, List.map_cons, List.sum_cons, List.length_cons, List.length_cons, List.length_cons]
          omega
      have hsm := hsum ps hp
      have hfl : (ps.map fun p => 59 :: 32 :: p).flatten.length ≤ 10000 := by
        rw [List.length_flatten]
        have : ((ps.map fun p => 59 :: 32 :: p).map List.length).sum = ((ps.map fun p => 59 :: 32 :: p).map fun p => p.length).sum := rfl
        omega
      have hsp := spT_len ws
      obtain ⟨g1, g2, g3⟩ := join_ok0 (Q := fun v _ => v = V.str (S (ps.map fun p => 59 :: 32 :: p).flatten)) (H := H2) (zs := (ps.map fun p => 59 :: 32 :: p).map S) _ rfl (by omega) rfl
      have g4 : joinT (Str.ofString "") ((ps.map fun p => 59 :: 32 :: p).map S) = S (ps.map fun p => 59 :: 32 :: p).flatten := by injection g3
      refine ⟨D, rfl, _, eD, g1, g2, ?_, ?_⟩
      · rw [f3, g4, S_len, S_len, sizeLine_eq]
        omega
      · rw [f3, g4, S_app, lT_flat]
        exact q _ s2
end
end K83
namespace K83
open PySem L2
/-- what a wish asks: a number or a word -/
def WhV (x : V) (u : List Nat) : Prop := (x = .str (S u) ∧ u.length ≤ 900) ∨ ∃ k : Nat, x = .int (k : Int) ∧ u = nT k ∧ k ≤ 10 ^ 13
section
variable {P : Program} {w : World} {K : PySem.W.Frag} {mg : Str → Option Value} {base : Heap}
def sp_wish : Sp := fun vs H Q _ => (∃ (v u : List Nat) (x : V), vs = [.str (S v), x] ∧ S v ≠ Str.ofString "put" ∧ WhV x u ∧ v.length ≤ 100 ∧ Q (.str (S (v ++ 32 :: u))) H) ∨
  ∃ (p : Addr) (g : Nat) (s : List Nat), vs = [.str (Str.ofString "put"), .ref p] ∧ H p = some (.tup [.int (g : Int), .str (S s)]) ∧ g ≤ 10 ^ 13 ∧ s.length ≤ 900 ∧ Q (.str (S (K83.w "put" ++ 32 :: (nT g ++ 32 :: s)))) H
theorem own_wish (D : Def K mg "wish_text" s_wish_text) : Own P w K mg base 1 "wish_text" ["word", "what"] sp_wish := by
  refine D.own sc_wish_text (fun _ _ _ _ _ _ us hl => match us, hl with | [_, _], _ => rfl) (fun vs H Q E h => ?_) (fun f cdv A outer s H vs Q E hr h => ?_)
  · rcases h with ⟨v, u, x, rfl, _⟩ | ⟨p, g, s, rfl, _⟩
    · rfl
    · rfl
  · have hu := hr.units
    have hu1 : (A.deeper (PyProof.Rows.envOfC "wish_text" (defScope s_wish_text) s.heap.objs.size f cdv)).units + 1 < cLine := by omega
    refine ⟨_, (@pss_cons _ _ _ _ _ (@ps_if _ _ _ _ _ _ _ _ (@pt_cmpR _ _ _ _ _ _ _ _ op_ne (@pv _ 0 _ _ (by rfl) (by first | exact Or.inl rfl | exact Or.inr (Or.inl rfl) | exact Or.inr (Or.inr rfl)) (by decide) (by decide)) (@pe_str _ _ _ _) (nomark _)) (@pss_one _ _ _ (@ps_ret _ _ _ _ (@pe_fstrX _ _ _ _ _ _ (@pjx_e _ _ _ _ _ _ _ (@pv _ 0 _ _ (by rfl) (by first | exact Or.inl rfl | exact Or.inr (Or.inl rfl) | exact Or.inr (Or.inr rfl)) (by decide) (by decide)) (@pjx_str _ _ _ _ _ _ _ 1 (by kernel_rfl) (@pjx_e _ _ _ _ _ _ _ (@pv _ 1 _ _ (by rfl) (by first | exact Or.inl rfl | exact Or.inr (Or.inl rfl) | exact Or.inr (Or.inr rfl)) (by decide) (by decide)) (@pjx_nil _ _ (by decide)) (by decide)) (by decide)) (by decide))))) (@pss_nil _)) (@pss_cons _ _ _ _ _ (@ps_set _ _ 2 _ _ _ _ sc_wish_text.nd rfl (by first | exact Or.inl rfl | exact Or.inr rfl) (@pe_ix _ _ _ _ _ _ _ (ix_get hu1) (@pv _ 1 _ _ (by rfl) (by first | exact Or.inl rfl | exact Or.inr (Or.inl rfl) | exact Or.inr (Or.inr rfl)) (by decide) (by decide)) (@pe_int _ _ _ _) (fun _ _ => rfl)) (by rfl) (by first | exact .inl rfl | exact .inr rfl | assumption)) (@pss_cons _ _ _ _ _ (@ps_set _ _ 3 _ _ _ _ sc_wish_text.nd rfl (by first | exact Or.inl rfl | exact Or.inr rfl) (@pe_ix _ _ _ _ _ _ _ (ix_get hu1) (@pv _ 1 _ _ (by rfl) (by first | exact Or.inl rfl | exact Or.inr (Or.inl rfl) | exact Or.inr (Or.inr rfl)) (by decide) (by decide)) (@pe_int _ _ _ _) (fun _ _ => rfl)) (by rfl) (by first | exact .inl rfl | exact .inr rfl | assumption)) (@pss_one _ _ _ (@ps_ret _ _ _ _ (@pe_fstrX _ _ _ _ _ _ (@pjx_str _ _ _ _ _ _ _ 4 (by kernel_rfl) (@pjx_e _ _ _ _ _ _ _ (@pv _ 2 _ _ (by rfl) (by first | exact Or.inl rfl | exact Or.inr (Or.inl rfl) | exact Or.inr (Or.inr rfl)) (by decide) (by decide)) (@pjx_str _ _ _ _ _ _ _ 1 (by kernel_rfl) (@pjx_e _ _ _ _ _ _ _ (@pv _ 3 _ _ (by rfl) (by first | exact Or.inl rfl | exact Or.inr (Or.inl rfl) | exact Or.inr (Or.inr rfl)) (by decide) (by decide)) (@pjx_nil _ _ (by decide)) (by decide)) (by decide)) (by decide)) (by decide)))))))), ?_⟩
    have e32 : Str.ofString " " = S [32] := S_of " "
    rcases h with ⟨v, u, x, rfl, hne, hx, hv, q⟩ | ⟨p, g, z, rfl, ep, hg, hz, q⟩
    · have hne' : (S v = Str.ofString "put") = False := by simp [hne]
      rcases hx with ⟨rfl, hl⟩ | ⟨k, rfl, rfl, hk⟩
      · simp (maxSteps := 1000000) only [rNe_ss, rGet, Nat.reduceSub, Nat.reduceAdd, decide_false, Bool.not_false, tSeq, exists_and_left, if_true, tIfS, tTest, tOp, tVar, tC, tRet, tAsg, gName, tNext, L2.start, List.map_cons, List.map_nil, List.length_cons, List.length_nil, List.replicate, List.cons_append, List.nil_append, List.getElem?_cons_zero, List.getElem?_cons_succ, List.set_cons_zero, List.set_cons_succ, Option.some.injEq, exists_eq_left', V.bl.injEq, V.str.injEq, exists_const, reduceCtorEq, false_and, false_or, hne', tFsX, tXs, tXe, tXn]
        have e : Str.empty ++ S v ++ Str.ofString " " ++ S u = S (v ++ 32 :: u) := by
          rw [S_nil, e32, S_app, S_app, S_app]
          simp
        refine ⟨by rw [S_len]; omega, by rw [S_len]; omega, ?_⟩
        rw [e]
        exact q
      · simp (maxSteps := 1000000) only [rNe_ss, rGet, Nat.reduceSub, Nat.reduceAdd, decide_false, Bool.not_false, tSeq, exists_and_left, if_true, tIfS, tTest, tOp, tVar, tC, tRet, tAsg, gName, tNext, L2.start, List.map_cons, List.map_nil, List.length_cons, List.length_nil, List.replicate, List.cons_append, List.nil_append, List.getElem?_cons_zero, List.getElem?_cons_succ, List.set_cons_zero, List.set_cons_succ, Option.some.injEq, exists_eq_left', V.int.injEq, V.bl.injEq, V.str.injEq, exists_const, reduceCtorEq, false_and, or_false, false_or, hne', tFsX, tXs, tXe, tXn]
        have e : Str.empty ++ S v ++ Str.ofString " " ++ Str.ofString (toString (k : Int)) = S (v ++ 32 :: nT k) := by
          rw [S_nil, e32, S_num, S_app, S_app, S_app]
          simp
        refine ⟨by rw [S_len]; omega, log13 hk, ?_⟩
        rw [e]
        exact q
    · simp (maxSteps := 1000000) only [rNe_ss, rGet, getO_t, atI_0, atI_1, Nat.reduceSub, Nat.reduceAdd, decide_true, Bool.not_true, tSeq, exists_and_left, if_false, Bool.false_eq_true, tIfS, tTest, tOp, tVar, tC, tRet, tAsg, gName, tNext, L2.start, List.map_cons, List.map_nil, List.length_cons, List.length_nil, List.replicate, List.cons_append, List.nil_append, List.getElem?_cons_zero, List.getElem?_cons_succ, List.set_cons_zero, List.set_cons_succ, Option.some.injEq, exists_eq_left', V.int.injEq, V.bl.injEq, V.ref.injEq, V.str.injEq, exists_const, reduceCtorEq, false_and, or_false, false_or, ep, tFsX, tXs, tXe, tXn]
      have e : Str.empty ++ Str.ofString "put " ++ Str.ofString (toString (g : Int)) ++ Str.ofString " " ++ S z = S (K83.w "put" ++ 32 :: (nT g ++ 32 :: z)) := by
        have e1 : Str.ofString "put " = S (K83.w "put" ++ [32]) := by rw [S_of]; rfl
        rw [S_nil, e32, S_num, e1, S_app, S_app, S_app, S_app]
        simp
      refine ⟨log13 hg, by rw [S_len]; omega, ?_⟩
      rw [e]
      exact q
end
end K83
namespace K83
open PySem L2
abbrev s_row_text : Stmt := top 10
theorem sc_row_text : FnScope ["row", "word"] ["row"] (defScope s_row_text) := ⟨rfl, rfl, rfl, by decide +kernel, rfl, by decide +kernel, by decide +kernel⟩
theorem cs_row_text_0 : CScope ["thing"] [] { kind := .function, names := [(".0", .local), ("thing", .local), ("thing_text", .globalImplicit)], isGenerator := false, isCoroutine := false, more := [] } (defScope s_row_text) := ⟨rfl, by decide +kernel, by decide +kernel, by decide +kernel, by decide +kernel, by decide +kernel⟩
theorem cs_row_text_1 : CScope ["parcel"] [] { kind := .function, names := [(".0", .local), ("parcel", .local), ("parcel_text", .globalImplicit)], isGenerator := false, isCoroutine := false, more := [] } (defScope s_row_text) := ⟨rfl, by decide +kernel, by decide +kernel, by decide +kernel, by decide +kernel, by decide +kernel⟩
theorem cs_row_text_2 : CScope ["pair"] [] { kind := .function, names := [(".0", .local), ("pair", .local), ("pair_text", .globalImplicit)], isGenerator := false, isCoroutine := false, more := [] } (defScope s_row_text) := ⟨rfl, by decide +kernel, by decide +kernel, by decide +kernel, by decide +kernel, by decide +kernel⟩
theorem op_catTK {X : Cx} {K : PySem.W.Frag} (h : X.K = K := by rfl) : OpR X (binaryOp .Add) (rCatT K) := by subst h; exact op_catT
/-- what a row's tuple holds -/
def RRr (H : Hp) (v : V) : Rr → Prop
  | .came n h x y ps => ∃ p q us, v = .ref p ∧ H p = some (.tup [.str (Str.ofString "came"), .int (n : Int), .int (h : Int), .int (x : Int), .int (y : Int), .ref q]) ∧ H q = some (.tup us) ∧ Paired (RPc H) us ps
  | .way n h x o q => ∃ p, v = .ref p ∧ H p = some (.tup [.str (Str.ofString "way"), .int (n : Int), .int (h : Int), .int (x : Int), onV o, onV q])
  | .here n h pc => ∃ p u, v = .ref p ∧ H p = some (.tup [.str (Str.ofString "here"), .int (n : Int), .int (h : Int), u]) ∧ RPc H u pc
  | .gone n h z pc => ∃ p u, v = .ref p ∧ H p = some (.tup [.str (Str.ofString "gone"), .int (n : Int), .int (h : Int), u, .str (S z)]) ∧ RPc H u pc
  | .read n h x ts => ∃ p q us, v = .ref p ∧ H p = some (.tup [.str (Str.ofString "read"), .int (n : Int), .int (h : Int), .int (x : Int), .ref q]) ∧ H q = some (.tup us) ∧ Paired (RTh H) us ts
  | .sent n h x y ps => ∃ p q us, v = .ref p ∧ H p = some (.tup [.str (Str.ofString "sent"), .int (n : Int), .int (h : Int), .int (x : Int), .ref q, .int (y : Int)]) ∧ H q = some (.tup us) ∧ Paired (RSt H) us ps
  | .put n h z g s => ∃ p q, v = .ref p ∧ H p = some (.tup [.str (Str.ofString "wish"), .int (n : Int), .int (h : Int), .str (Str.ofString "put"), .ref q, .str (S z)]) ∧ H q = some (.tup [.int (g : Int), .str (S s)])
  | .wish n h z v' u => ∃ p x, v = .ref p ∧ H p = some (.tup [.str (Str.ofString "wish"), .int (n : Int), .int (h : Int), .str (S v'), x, .str (S z)]) ∧ WhV x u
theorem lT_map {α : Type} {f : α → List Nat} : ∀ l : List α, lT id (l.map f) = lT f l
  | [] => rfl
  | a :: r => by
    rw [List.map_cons]
    unfold lT
    rw [lT_map r]
    rfl
theorem slice_same {H H' : Hp} {p : Addr} {o : HO} (h : H' = H ∨ (H p = none ∧ H' = upd H p o)) : Same H H' := by
  rcases h with rfl | ⟨n, rfl⟩
  · exact .refl _
  · exact .upd_new n
abbrev B13 (n : Nat) : Prop := n ≤ 10 ^ 13
def Rr.Sm : Rr → Prop
  | .came n h x y ps => B13 n ∧ B13 h ∧ B13 x ∧ B13 y ∧ ps.length ≤ 4 ∧ ∀ p ∈ ps, p.Sm
  | .way n h x o q => B13 n ∧ B13 h ∧ B13 x ∧ small o ∧ small q
  | .here n h p => B13 n ∧ B13 h ∧ p.Sm
  | .gone n h z p => B13 n ∧ B13 h ∧ z.length ≤ 10 ∧ p.Sm
  | .read n h x ts => B13 n ∧ B13 h ∧ B13 x ∧ ts.length ≤ 4 ∧ ∀ t ∈ ts, t.Ok
  | .sent n h x y ps => B13 n ∧ B13 h ∧ B13 x ∧ B13 y ∧ ps.length ≤ 4 ∧ ∀ p ∈ ps, B13 p.1 ∧ p.2.Sm
  | .put n h z g s => B13 n ∧ B13 h ∧ z.length ≤ 10 ∧ B13 g ∧ s.length ≤ 20
  | .wish n h z v u => B13 n ∧ B13 h ∧ z.length ≤ 10 ∧ v.length ≤ 10 ∧ u.length ≤ 20 ∧ S v ≠ Str.ofString "put"
section
variable {P : Program} {w : World} {K : PySem.W.Frag} {mg : Str → Option Value} {base : Heap}
def sp_row : Sp := fun vs H Q _ => ∃ (v : V) (r : Rr), vs = [v] ∧ RRr H v r ∧ r.Sm ∧ ∀ H', Same H H' → Q (.str (S (rT r))) H'
set_option maxHeartbeats 8000000 in
theorem own_row (D : Def K mg "row_text" s_row_text) (hb : Blt mg) (F_numbers_text : Own P w K mg base 2 "numbers_text" ["numbers"] sp_nums) (F_thing_text : Own P w K mg base 1 "thing_text" ["thing"] sp_tht) (F_parcel_text : Own P w K mg base 4 "parcel_text" ["parcel"] sp_pct) (F_pair_text : Own P w K mg base 5 "pair_text" ["pair"] sp_prt) (F_wish_text : Own P w K mg base 1 "wish_text" ["word", "what"] sp_wish) (F_parted : Own P w K mg base 1 "parted" ["words", "parts"] sp_parted) : Own P w K mg base 6 "row_text" ["row"] sp_row := by
  refine D.own sc_row_text (fun _ _ _ _ _ _ us hl => match us, hl with | [_], _ => rfl) (fun vs H Q E h => ?_) (fun f cdv A outer s H vs Q E hr h => ?_)
  · obtain ⟨v, r, rfl, _⟩ := h
    rfl
  · obtain ⟨v, r, rfl, hv, hs, q⟩ := h
    have hu := hr.units
    have hu1 : (A.deeper (PyProof.Rows.envOfC "row_text" (defScope s_row_text) s.heap.objs.size f cdv)).units + 1 < cLine := by omega
    refine ⟨_, (@pss_cons _ _ _ _ _ (@ps_set _ _ 1 _ _ _ _ sc_row_text.nd rfl (by first | exact Or.inl rfl | exact Or.inr rfl) (@pe_ix _ _ _ _ _ _ _ (ix_get hu1) (@pv _ 0 _ _ (by rfl) (by first | exact Or.inl rfl | exact Or.inr (Or.inl rfl) | exact Or.inr (Or.inr rfl)) (by decide) (by decide)) (@pe_int _ _ _ _) (fun _ _ => rfl)) (by rfl) (by first | exact .inl rfl | exact .inr rfl | assumption)) (@pss_cons _ _ _ _ _ (@ps_if _ _ _ _ _ _ _ _ (@pt_cmpR _ _ _ _ _ _ _ _ op_eq (@pv _ 1 _ _ (by rfl) (by first | exact Or.inl rfl | exact Or.inr (Or.inl rfl) | exact Or.inr (Or.inr rfl)) (by decide) (by decide)) (@pe_str _ _ _ _) (nomark _)) (@pss_one _ _ _ (@ps_ret _ _ _ _ (@pe_fn _ _ _ _ _ _ _ _ _ _ _ F_parted hr (@pa_cX _ _ _ _ _ (@pe_lst _ _ _ _ (@pa_cX _ _ _ _ _ (@pv _ 1 _ _ (by rfl) (by first | exact Or.inl rfl | exact Or.inr (Or.inl rfl) | exact Or.inr (Or.inr rfl)) (by decide) (by decide)) (@pa_cX _ _ _ _ _ (@pe_fn _ _ _ _ _ _ _ _ _ _ _ F_numbers_text hr (@pa_cX _ _ _ _ _ (@pe_slice _ _ _ _ _ _ _ _ _ _ sl_TX (@pv _ 0 _ _ (by rfl) (by first | exact Or.inl rfl | exact Or.inr (Or.inl rfl) | exact Or.inr (Or.inr rfl)) (by decide) (by decide)) (@po_some _ _ _ (@pe_int _ _ _ _)) (@po_none _)) (@pa_nil _) (by rfl)) (by decide) (by rfl) (by decide) (by rfl) (by rfl)) (@pa_nil _) (by rfl)) (by rfl))) (@pa_cX _ _ _ _ _ (@pe_lst _ _ _ _ (@pa_nil _)) (@pa_nil _) (by rfl)) (by rfl)) (by decide) (by rfl) (by decide) (by rfl) (by rfl)))) (@pss_nil _)) (@pss_cons _ _ _ _ _ (@ps_if _ _ _ _ _ _ _ _ (@pt_cmpR _ _ _ _ _ _ _ _ op_eq (@pv _ 1 _ _ (by rfl) (by first | exact Or.inl rfl | exact Or.inr (Or.inl rfl) | exact Or.inr (Or.inr rfl)) (by decide) (by decide)) (@pe_str _ _ _ _) (nomark _)) (@pss_one _ _ _ (@ps_ret _ _ _ _ (@pe_fn _ _ _ _ _ _ _ _ _ _ _ F_parted hr (@pa_cX _ _ _ _ _ (@pe_lst _ _ _ _ (@pa_cX _ _ _ _ _ (@pv _ 1 _ _ (by rfl) (by first | exact Or.inl rfl | exact Or.inr (Or.inl rfl) | exact Or.inr (Or.inr rfl)) (by decide) (by decide)) (@pa_cX _ _ _ _ _ (@pe_fn _ _ _ _ _ _ _ _ _ _ _ F_numbers_text hr (@pa_cX _ _ _ _ _ (@pe_slice _ _ _ _ _ _ _ _ _ _ sl_TX (@pv _ 0 _ _ (by rfl) (by first | exact Or.inl rfl | exact Or.inr (Or.inl rfl) | exact Or.inr (Or.inr rfl)) (by decide) (by decide)) (@po_some _ _ _ (@pe_int _ _ _ _)) (@po_some _ _ _ (@pe_int _ _ _ _))) (@pa_nil _) (by rfl)) (by decide) (by rfl) (by decide) (by rfl) (by rfl)) (@pa_cX _ _ _ _ _ (@pe_ix _ _ _ _ _ _ _ (ix_get hu1) (@pv _ 0 _ _ (by rfl) (by first | exact Or.inl rfl | exact Or.inr (Or.inl rfl) | exact Or.inr (Or.inr rfl)) (by decide) (by decide)) (@pe_int _ _ _ _) (fun _ _ => rfl)) (@pa_cX _ _ _ _ _ (@pe_fn _ _ _ _ _ _ _ _ _ _ _ F_wish_text hr (@pa_cX _ _ _ _ _ (@pe_ix _ _ _ _ _ _ _ (ix_get hu1) (@pv _ 0 _ _ (by rfl) (by first | exact Or.inl rfl | exact Or.inr (Or.inl rfl) | exact Or.inr (Or.inr rfl)) (by decide) (by decide)) (@pe_int _ _ _ _) (fun _ _ => rfl)) (@pa_cX _ _ _ _ _ (@pe_ix _ _ _ _ _ _ _ (ix_get hu1) (@pv _ 0 _ _ (by rfl) (by first | exact Or.inl rfl | exact Or.inr (Or.inl rfl) | exact Or.inr (Or.inr rfl)) (by decide) (by decide)) (@pe_int _ _ _ _) (fun _ _ => rfl)) (@pa_nil _) (by rfl)) (by rfl)) (by decide) (by rfl) (by decide) (by rfl) (by rfl)) (@pa_nil _) (by rfl)) (by rfl)) (by rfl)) (by rfl))) (@pa_cX _ _ _ _ _ (@pe_lst _ _ _ _ (@pa_nil _)) (@pa_nil _) (by rfl)) (by rfl)) (by decide) (by rfl) (by decide) (by rfl) (by rfl)))) (@pss_nil _)) (@pss_cons _ _ _ _ _ (@ps_if _ _ _ _ _ _ _ _ (@pt_cmpR _ _ _ _ _ _ _ _ op_eq (@pv _ 1 _ _ (by rfl) (by first | exact Or.inl rfl | exact Or.inr (Or.inl rfl) | exact Or.inr (Or.inr rfl)) (by decide) (by decide)) (@pe_str _ _ _ _) (nomark _)) (@pss_one _ _ _ (@ps_ret _ _ _ _ (@pe_fn _ _ _ _ _ _ _ _ _ _ _ F_parted hr (@pa_cX _ _ _ _ _ (@pe_lst _ _ _ _ (@pa_cX _ _ _ _ _ (@pv _ 1 _ _ (by rfl) (by first | exact Or.inl rfl | exact Or.inr (Or.inl rfl) | exact Or.inr (Or.inr rfl)) (by decide) (by decide)) (@pa_cX _ _ _ _ _ (@pe_fn _ _ _ _ _ _ _ _ _ _ _ F_numbers_text hr (@pa_cX _ _ _ _ _ (@pe_slice _ _ _ _ _ _ _ _ _ _ sl_TX (@pv _ 0 _ _ (by rfl) (by first | exact Or.inl rfl | exact Or.inr (Or.inl rfl) | exact Or.inr (Or.inr rfl)) (by decide) (by decide)) (@po_some _ _ _ (@pe_int _ _ _ _)) (@po_some _ _ _ (@pe_int _ _ _ _))) (@pa_nil _) (by rfl)) (by decide) (by rfl) (by decide) (by rfl) (by rfl)) (@pa_cX _ _ _ _ _ (@pe_fn _ _ _ _ _ _ _ _ _ _ _ F_parcel_text hr (@pa_cX _ _ _ _ _ (@pe_ix _ _ _ _ _ _ _ (ix_get hu1) (@pv _ 0 _ _ (by rfl) (by first | exact Or.inl rfl | exact Or.inr (Or.inl rfl) | exact Or.inr (Or.inr rfl)) (by decide) (by decide)) (@pe_int _ _ _ _) (fun _ _ => rfl)) (@pa_nil _) (by rfl)) (by decide) (by rfl) (by decide) (by rfl) (by rfl)) (@pa_nil _) (by rfl)) (by rfl)) (by rfl))) (@pa_cX _ _ _ _ _ (@pe_lst _ _ _ _ (@pa_nil _)) (@pa_nil _) (by rfl)) (by rfl)) (by decide) (by rfl) (by decide) (by rfl) (by rfl)))) (@pss_nil _)) (@pss_cons _ _ _ _ _ (@ps_if _ _ _ _ _ _ _ _ (@pt_cmpR _ _ _ _ _ _ _ _ op_eq (@pv _ 1 _ _ (by rfl) (by first | exact Or.inl rfl | exact Or.inr (Or.inl rfl) | exact Or.inr (Or.inr rfl)) (by decide) (by decide)) (@pe_str _ _ _ _) (nomark _)) (@pss_one _ _ _ (@ps_ret _ _ _ _ (@pe_fn _ _ _ _ _ _ _ _ _ _ _ F_parted hr (@pa_cX _ _ _ _ _ (@pe_lst _ _ _ _ (@pa_cX _ _ _ _ _ (@pv _ 1 _ _ (by rfl) (by first | exact Or.inl rfl | exact Or.inr (Or.inl rfl) | exact Or.inr (Or.inr rfl)) (by decide) (by decide)) (@pa_cX _ _ _ _ _ (@pe_fn _ _ _ _ _ _ _ _ _ _ _ F_numbers_text hr (@pa_cX _ _ _ _ _ (@pe_slice _ _ _ _ _ _ _ _ _ _ sl_TX (@pv _ 0 _ _ (by rfl) (by first | exact Or.inl rfl | exact Or.inr (Or.inl rfl) | exact Or.inr (Or.inr rfl)) (by decide) (by decide)) (@po_some _ _ _ (@pe_int _ _ _ _)) (@po_some _ _ _ (@pe_int _ _ _ _))) (@pa_nil _) (by rfl)) (by decide) (by rfl) (by decide) (by rfl) (by rfl)) (@pa_cX _ _ _ _ _ (@pe_ix _ _ _ _ _ _ _ (ix_get hu1) (@pv _ 0 _ _ (by rfl) (by first | exact Or.inl rfl | exact Or.inr (Or.inl rfl) | exact Or.inr (Or.inr rfl)) (by decide) (by decide)) (@pe_int _ _ _ _) (fun _ _ => rfl)) (@pa_cX _ _ _ _ _ (@pe_fn _ _ _ _ _ _ _ _ _ _ _ F_parcel_text hr (@pa_cX _ _ _ _ _ (@pe_ix _ _ _ _ _ _ _ (ix_get hu1) (@pv _ 0 _ _ (by rfl) (by first | exact Or.inl rfl | exact Or.inr (Or.inl rfl) | exact Or.inr (Or.inr rfl)) (by decide) (by decide)) (@pe_int _ _ _ _) (fun _ _ => rfl)) (@pa_nil _) (by rfl)) (by decide) (by rfl) (by decide) (by rfl) (by rfl)) (@pa_nil _) (by rfl)) (by rfl)) (by rfl)) (by rfl))) (@pa_cX _ _ _ _ _ (@pe_lst _ _ _ _ (@pa_nil _)) (@pa_nil _) (by rfl)) (by rfl)) (by decide) (by rfl) (by decide) (by rfl) (by rfl)))) (@pss_nil _)) (@pss_cons _ _ _ _ _ (@ps_if _ _ _ _ _ _ _ _ (@pt_cmpR _ _ _ _ _ _ _ _ op_eq (@pv _ 1 _ _ (by rfl) (by first | exact Or.inl rfl | exact Or.inr (Or.inl rfl) | exact Or.inr (Or.inr rfl)) (by decide) (by decide)) (@pe_str _ _ _ _) (nomark _)) (@pss_one _ _ _ (@ps_ret _ _ _ _ (@pe_fn _ _ _ _ _ _ _ _ _ _ _ F_parted hr (@pa_cX _ _ _ _ _ (@pe_lst _ _ _ _ (@pa_cX _ _ _ _ _ (@pv _ 1 _ _ (by rfl) (by first | exact Or.inl rfl | exact Or.inr (Or.inl rfl) | exact Or.inr (Or.inr rfl)) (by decide) (by decide)) (@pa_cX _ _ _ _ _ (@pe_fn _ _ _ _ _ _ _ _ _ _ _ F_numbers_text hr (@pa_cX _ _ _ _ _ (@pe_slice _ _ _ _ _ _ _ _ _ _ sl_TX (@pv _ 0 _ _ (by rfl) (by first | exact Or.inl rfl | exact Or.inr (Or.inl rfl) | exact Or.inr (Or.inr rfl)) (by decide) (by decide)) (@po_some _ _ _ (@pe_int _ _ _ _)) (@po_some _ _ _ (@pe_int _ _ _ _))) (@pa_nil _) (by rfl)) (by decide) (by rfl) (by decide) (by rfl) (by rfl)) (@pa_nil _) (by rfl)) (by rfl))) (@pa_cX _ _ _ _ _ (@pe_comp _ _ _ _ _ _ _ _ _ _ _ ["thing"] [] [] rfl _ cs_row_text_0 (@pi_tupK _ K _ _ _ (@pe_ix _ _ _ _ _ _ _ (ix_get hu1) (@pv _ 0 _ _ (by rfl) (by first | exact Or.inl rfl | exact Or.inr (Or.inl rfl) | exact Or.inr (Or.inr rfl)) (by decide) (by decide)) (@pe_int _ _ _ _) (fun _ _ => rfl)) (by rfl)) (fun _ _ _ _ => (@pg_name _ _ 0 _ cs_row_text_0.nd rfl (by first | exact Or.inl rfl | exact Or.inr rfl) (by first | exact .inl rfl | exact .inr rfl | assumption))) (fun _ _ _ _ => (@pf_nil _)) (fun _ _ _ _ => (@pe_fn _ _ _ _ _ _ _ _ _ _ _ F_thing_text hr (@pa_cX _ _ _ _ _ (@pv _ 0 _ _ (by rfl) (by first | exact Or.inl rfl | exact Or.inr (Or.inl rfl) | exact Or.inr (Or.inr rfl)) (by decide) (by decide)) (@pa_nil _) (by rfl)) (by decide) (by rfl) (by decide) (by rfl) (by rfl))) (by rfl) (by rfl) (by rfl) (by intro _; rfl)) (@pa_nil _) (by rfl)) (by rfl)) (by decide) (by rfl) (by decide) (by rfl) (by rfl)))) (@pss_nil _)) (@pss_cons _ _ _ _ _ (@ps_if _ _ _ _ _ _ _ _ (@pt_cmpR _ _ _ _ _ _ _ _ op_eq (@pv _ 1 _ _ (by rfl) (by first | exact Or.inl rfl | exact Or.inr (Or.inl rfl) | exact Or.inr (Or.inr rfl)) (by decide) (by decide)) (@pe_str _ _ _ _) (nomark _)) (@pss_one _ _ _ (@ps_ret _ _ _ _ (@pe_fn _ _ _ _ _ _ _ _ _ _ _ F_parted hr (@pa_cX _ _ _ _ _ (@pe_lst _ _ _ _ (@pa_cX _ _ _ _ _ (@pv _ 1 _ _ (by rfl) (by first | exact Or.inl rfl | exact Or.inr (Or.inl rfl) | exact Or.inr (Or.inr rfl)) (by decide) (by decide)) (@pa_cX _ _ _ _ _ (@pe_fn _ _ _ _ _ _ _ _ _ _ _ F_numbers_text hr (@pa_cX _ _ _ _ _ (@pe_slice _ _ _ _ _ _ _ _ _ _ sl_TX (@pv _ 0 _ _ (by rfl) (by first | exact Or.inl rfl | exact Or.inr (Or.inl rfl) | exact Or.inr (Or.inr rfl)) (by decide) (by decide)) (@po_some _ _ _ (@pe_int _ _ _ _)) (@po_some _ _ _ (@pe_int _ _ _ _))) (@pa_nil _) (by rfl)) (by decide) (by rfl) (by decide) (by rfl) (by rfl)) (@pa_nil _) (by rfl)) (by rfl))) (@pa_cX _ _ _ _ _ (@pe_comp _ _ _ _ _ _ _ _ _ _ _ ["parcel"] [] [] rfl _ cs_row_text_1 (@pi_tupK _ K _ _ _ (@pe_ix _ _ _ _ _ _ _ (ix_get hu1) (@pv _ 0 _ _ (by rfl) (by first | exact Or.inl rfl | exact Or.inr (Or.inl rfl) | exact Or.inr (Or.inr rfl)) (by decide) (by decide)) (@pe_int _ _ _ _) (fun _ _ => rfl)) (by rfl)) (fun _ _ _ _ => (@pg_name _ _ 0 _ cs_row_text_1.nd rfl (by first | exact Or.inl rfl | exact Or.inr rfl) (by first | exact .inl rfl | exact .inr rfl | assumption))) (fun _ _ _ _ => (@pf_nil _)) (fun _ _ _ _ => (@pe_fn _ _ _ _ _ _ _ _ _ _ _ F_parcel_text hr (@pa_cX _ _ _ _ _ (@pv _ 0 _ _ (by rfl) (by first | exact Or.inl rfl | exact Or.inr (Or.inl rfl) | exact Or.inr (Or.inr rfl)) (by decide) (by decide)) (@pa_nil _) (by rfl)) (by decide) (by rfl) (by decide) (by rfl) (by rfl))) (by rfl) (by rfl) (by rfl) (by intro _; rfl)) (@pa_nil _) (by rfl)) (by rfl)) (by decide) (by rfl) (by decide) (by rfl) (by rfl)))) (@pss_nil _)) (@pss_one _ _ _ (@ps_ret _ _ _ _ (@pe_fn _ _ _ _ _ _ _ _ _ _ _ F_parted hr (@pa_cX _ _ _ _ _ (@pe_lst _ _ _ _ (@pa_cX _ _ _ _ _ (@pv _ 1 _ _ (by rfl) (by first | exact Or.inl rfl | exact Or.inr (Or.inl rfl) | exact Or.inr (Or.inr rfl)) (by decide) (by decide)) (@pa_cX _ _ _ _ _ (@pe_fn _ _ _ _ _ _ _ _ _ _ _ F_numbers_text hr (@pa_cX _ _ _ _ _ (@pe_op _ _ _ _ _ _ _ _ (op_catTK (K := K)) (@pe_slice _ _ _ _ _ _ _ _ _ _ sl_TX (@pv _ 0 _ _ (by rfl) (by first | exact Or.inl rfl | exact Or.inr (Or.inl rfl) | exact Or.inr (Or.inr rfl)) (by decide) (by decide)) (@po_some _ _ _ (@pe_int _ _ _ _)) (@po_some _ _ _ (@pe_int _ _ _ _))) (@pe_slice _ _ _ _ _ _ _ _ _ _ sl_TX (@pv _ 0 _ _ (by rfl) (by first | exact Or.inl rfl | exact Or.inr (Or.inl rfl) | exact Or.inr (Or.inr rfl)) (by decide) (by decide)) (@po_some _ _ _ (@pe_int _ _ _ _)) (@po_none _))) (@pa_nil _) (by rfl)) (by decide) (by rfl) (by decide) (by rfl) (by rfl)) (@pa_nil _) (by rfl)) (by rfl))) (@pa_cX _ _ _ _ _ (@pe_comp _ _ _ _ _ _ _ _ _ _ _ ["pair"] [] [] rfl _ cs_row_text_2 (@pi_tupK _ K _ _ _ (@pe_ix _ _ _ _ _ _ _ (ix_get hu1) (@pv _ 0 _ _ (by rfl) (by first | exact Or.inl rfl | exact Or.inr (Or.inl rfl) | exact Or.inr (Or.inr rfl)) (by decide) (by decide)) (@pe_int _ _ _ _) (fun _ _ => rfl)) (by rfl)) (fun _ _ _ _ => (@pg_name _ _ 0 _ cs_row_text_2.nd rfl (by first | exact Or.inl rfl | exact Or.inr rfl) (by first | exact .inl rfl | exact .inr rfl | assumption))) (fun _ _ _ _ => (@pf_nil _)) (fun _ _ _ _ => (@pe_fn _ _ _ _ _ _ _ _ _ _ _ F_pair_text hr (@pa_cX _ _ _ _ _ (@pv _ 0 _ _ (by rfl) (by first | exact Or.inl rfl | exact Or.inr (Or.inl rfl) | exact Or.inr (Or.inr rfl)) (by decide) (by decide)) (@pa_nil _) (by rfl)) (by decide) (by rfl) (by decide) (by rfl) (by rfl))) (by rfl) (by rfl) (by rfl) (by intro _; rfl)) (@pa_nil _) (by rfl)) (by rfl)) (by decide) (by rfl) (by decide) (by rfl) (by rfl))))))))))), ?_⟩
    cases r with
    | way n h x o r =>
      obtain ⟨p, rfl, ep⟩ := hv
      simp (maxSteps := 1000000) only [tComp_eq, rEq_ss, rGet, getO_t, atI_0, Nat.reduceSub, HO.tup.injEq, Nat.reduceAdd, decide_true, tSl, tNoPart, tPart, tSeq, exists_and_left, if_true, tIfS, tTest, tOp, tVar, tC, tRet, tAsg, gName, tNext, tCall, tCons, tNil, tLst, L2.start, List.map_cons, List.map_nil, List.length_cons, List.length_nil, List.replicate, List.cons_append, List.nil_append, List.getElem?_cons_zero, List.getElem?_cons_succ, List.set_cons_zero, List.set_cons_succ, Option.some.injEq, exists_eq_left', V.int.injEq, V.bl.injEq, V.ref.injEq, List.append_nil, ep, rSlTX]
      intro p1 H1 h1 e1
      have s1 : Same H H1 := slice_same h1
      have ecut : cutV [V.str (Str.ofString "way"), V.int (n : Int), V.int (h : Int), V.int (x : Int), onV o, onV r] (some 1) none = [some n, some h, some x, o, r].map onV := rfl
      rw [ecut] at e1
      refine ⟨p1, [some n, some h, some x, o, r], rfl, e1, fun y hy => ?_, by simp, fun H2 s2 => ⟨by rw [sizeLine_eq]; decide, ?_⟩⟩
      · simp only [List.mem_cons, List.not_mem_nil, or_false] at hy
        rcases hy with rfl | rfl | rfl | rfl | rfl
        · exact small_some hs.1
        · exact small_some hs.2.1
        · exact small_some hs.2.2.1
        · exact hs.2.2.2.1
        · exact hs.2.2.2.2
      intro p3 n3
      generalize z3 : upd H2 p3 _ = H3
      obtain ⟨s3, e3⟩ := new_same z3 n3
      refine ⟨Nat.zero_le _, ?_⟩
      intro p4 n4
      generalize z4 : upd H3 p4 _ = H4
      obtain ⟨s4, e4⟩ := new_same z4 n4
      have l1 := oT_len (small_some hs.1)
      have l2 := oT_len (small_some hs.2.1)
      have l3 := oT_len (small_some hs.2.2.1)
      have l4 := oT_len hs.2.2.2.1
      have l5 := oT_len hs.2.2.2.2
      have ls := spT_len ([some n, some h, some x, o, r].map oT)
      simp only [List.map_cons, List.map_nil, List.sum_cons, List.sum_nil] at ls
      have lw : (K83.w "way").length = 3 := by decide
      refine ⟨p3, p4, [K83.w "way", spT ([some n, some h, some x, o, r].map oT)], [], rfl, ?_, e4, ?_, by simp, by simp, fun H5 s5 => ?_⟩
      · rw [s4 _ _ e3, S_of "way"]
        rfl
      · simp only [List.map_cons, List.map_nil, List.sum_cons, List.sum_nil]
        omega
      · have e : spT [K83.w "way", spT ([some n, some h, some x, o, r].map oT)] ++ lT id [] = rT (.way n h x o r) := by simp [spT, lT, rT, oT]
        rw [e]
        exact q _ ((((s1.trans s2).trans s3).trans s4).trans s5)
    | here n h pc =>
      obtain ⟨p, u, rfl, ep, hp⟩ := hv
      have hne_way : (Str.ofString "here" = Str.ofString "way") = False := by simp; decide
      have hne_wish : (Str.ofString "here" = Str.ofString "wish") = False := by simp; decide
      simp (maxSteps := 1000000) only [tComp_eq, rEq_ss, rGet, getO_t, atI_0, Nat.reduceSub, HO.tup.injEq, Nat.reduceAdd, decide_true, decide_false, tSl, tNoPart, tPart, tSeq, exists_and_left, if_false, if_true, Bool.false_eq_true, tIfS, tTest, tOp, tVar, tC, tRet, tAsg, gName, tNext, tCall, tCons, tNil, tLst, L2.start, List.map_cons, List.map_nil, List.length_cons, List.length_nil, List.replicate, List.cons_append, List.nil_append, List.getElem?_cons_zero, List.getElem?_cons_succ, List.set_cons_zero, List.set_cons_succ, Option.some.injEq, exists_eq_left', V.int.injEq, V.bl.injEq, V.ref.injEq, List.append_nil, ep, rSlTX, hne_way, hne_wish]
      intro p1 H1 h1 e1
      have s1 : Same H H1 := slice_same h1
      have ecut : cutV [V.str (Str.ofString "here"), V.int (n : Int), V.int (h : Int), u] (some 1) (some 3) = [some n, some h].map onV := rfl
      rw [ecut] at e1
      refine ⟨p1, [some n, some h], rfl, e1, fun y hy => ?_, by simp, fun H2 s2 => ?_⟩
      · simp only [List.mem_cons, List.not_mem_nil, or_false] at hy
        rcases hy with rfl | rfl
        · exact small_some hs.1
        · exact small_some hs.2.1
      have s12 := s1.trans s2
      have ep2 := s12 _ _ ep
      have l1 := oT_len (small_some hs.1)
      have l2 := oT_len (small_some hs.2.1)
      have ls := spT_len ([some n, some h].map oT)
      simp only [List.map_cons, List.map_nil, List.sum_cons, List.sum_nil] at ls
      simp (maxSteps := 1000000) only [getO_t, atI_3, List.map_cons, List.map_nil, Option.some.injEq, exists_eq_left', ep2]
      refine ⟨u, pc, rfl, hp.same s12, hs.2.2, fun H3 s3 => ⟨by rw [sizeLine_eq]; decide, ?_⟩⟩
      intro p4 n4
      generalize z4 : upd H3 p4 _ = H4
      obtain ⟨s4, e4⟩ := new_same z4 n4
      refine ⟨Nat.zero_le _, ?_⟩
      intro p5 n5
      generalize z5 : upd H4 p5 _ = H5
      obtain ⟨s5, e5⟩ := new_same z5 n5
      have lp := pT_len hs.2.2
      have lw : (K83.w "here").length = 4 := by decide
      refine ⟨p4, p5, [K83.w "here", spT ([some n, some h].map oT), pT pc], [], rfl, ?_, e5, ?_, by simp, by simp, fun H6 s6 => ?_⟩
      · rw [s5 _ _ e4, S_of "here"]
        rfl
      · simp only [List.map_cons, List.map_nil, List.sum_cons, List.sum_nil]
        omega
      · have e : spT [K83.w "here", spT ([some n, some h].map oT), pT pc] ++ lT id [] = rT (.here n h pc) := by simp [spT, lT, rT, oT]
        rw [e]
        exact q _ ((((s12.trans s3).trans s4).trans s5).trans s6)
    | gone n h z pc =>
      obtain ⟨p, u, rfl, ep, hp⟩ := hv
      have hne_way : (Str.ofString "gone" = Str.ofString "way") = False := by simp; decide
      have hne_wish : (Str.ofString "gone" = Str.ofString "wish") = False := by simp; decide
      have hne_here : (Str.ofString "gone" = Str.ofString "here") = False := by simp; decide
      simp (maxSteps := 1000000) only [tComp_eq, rEq_ss, rGet, getO_t, atI_0, Nat.reduceSub, HO.tup.injEq, Nat.reduceAdd, decide_true, decide_false, tSl, tNoPart, tPart, tSeq, exists_and_left, if_false, if_true, Bool.false_eq_true, tIfS, tTest, tOp, tVar, tC, tRet, tAsg, gName, tNext, tCall, tCons, tNil, tLst, L2.start, List.map_cons, List.map_nil, List.length_cons, List.length_nil, List.replicate, List.cons_append, List.nil_append, List.getElem?_cons_zero, List.getElem?_cons_succ, List.set_cons_zero, List.set_cons_succ, Option.some.injEq, exists_eq_left', V.int.injEq, V.bl.injEq, V.ref.injEq, List.append_nil, ep, rSlTX, hne_way, hne_wish, hne_here]
      intro p1 H1 h1 e1
      have s1 : Same H H1 := slice_same h1
      have ecut : cutV [V.str (Str.ofString "gone"), V.int (n : Int), V.int (h : Int), u, V.str (S z)] (some 1) (some 3) = [some n, some h].map onV := rfl
      rw [ecut] at e1
      refine ⟨p1, [some n, some h], rfl, e1, fun y hy => ?_, by simp, fun H2 s2 => ?_⟩
      · simp only [List.mem_cons, List.not_mem_nil, or_false] at hy
        rcases hy with rfl | rfl
        · exact small_some hs.1
        · exact small_some hs.2.1
      have s12 := s1.trans s2
      have ep2 := s12 _ _ ep
      have l1 := oT_len (small_some hs.1)
      have l2 := oT_len (small_some hs.2.1)
      have ls := spT_len ([some n, some h].map oT)
      simp only [List.map_cons, List.map_nil, List.sum_cons, List.sum_nil] at ls
      have a4 : atI [V.str (Str.ofString "gone"), V.int (n : Int), V.int (h : Int), u, V.str (S z)] 4 = some (V.str (S z)) := rfl
      simp (maxSteps := 1000000) only [getO_t, atI_3, List.map_cons, List.map_nil, Option.some.injEq, exists_eq_left', ep2, a4]
      refine ⟨u, pc, rfl, hp.same s12, hs.2.2.2, fun H3 s3 => ⟨by rw [sizeLine_eq]; decide, ?_⟩⟩
      intro p4 n4
      generalize z4 : upd H3 p4 _ = H4
      obtain ⟨s4, e4⟩ := new_same z4 n4
      refine ⟨Nat.zero_le _, ?_⟩
      intro p5 n5
      generalize z5 : upd H4 p5 _ = H5
      obtain ⟨s5, e5⟩ := new_same z5 n5
      have lp := pT_len hs.2.2.2
      have lz := hs.2.2.1
      have lw : (K83.w "gone").length = 4 := by decide
      refine ⟨p4, p5, [K83.w "gone", spT ([some n, some h].map oT), z, pT pc], [], rfl, ?_, e5, ?_, by simp, by simp, fun H6 s6 => ?_⟩
      · rw [s5 _ _ e4, S_of "gone"]
        rfl
      · simp only [List.map_cons, List.map_nil, List.sum_cons, List.sum_nil]
        omega
      · have e : spT [K83.w "gone", spT ([some n, some h].map oT), z, pT pc] ++ lT id [] = rT (.gone n h z pc) := by simp [spT, lT, rT, oT]
        rw [e]
        exact q _ ((((s12.trans s3).trans s4).trans s5).trans s6)
    | put n h z g b =>
      obtain ⟨p, r, rfl, ep, er⟩ := hv
      have hne_way : (Str.ofString "wish" = Str.ofString "way") = False := by simp; decide
      simp (maxSteps := 1000000) only [tComp_eq, rEq_ss, rGet, getO_t, atI_0, Nat.reduceSub, HO.tup.injEq, Nat.reduceAdd, decide_true, decide_false, tSl, tNoPart, tPart, tSeq, exists_and_left, if_false, if_true, Bool.false_eq_true, tIfS, tTest, tOp, tVar, tC, tRet, tAsg, gName, tNext, tCall, tCons, tNil, tLst, L2.start, List.map_cons, List.map_nil, List.length_cons, List.length_nil, List.replicate, List.cons_append, List.nil_append, List.getElem?_cons_zero, List.getElem?_cons_succ, List.set_cons_zero, List.set_cons_succ, Option.some.injEq, exists_eq_left', V.int.injEq, V.bl.injEq, V.ref.injEq, List.append_nil, ep, rSlTX, hne_way]
      intro p1 H1 h1 e1
      have s1 : Same H H1 := slice_same h1
      have ecut : cutV [V.str (Str.ofString "wish"), V.int (n : Int), V.int (h : Int), V.str (Str.ofString "put"), V.ref r, V.str (S z)] (some 1) (some 3) = [some n, some h].map onV := rfl
      rw [ecut] at e1
      refine ⟨p1, [some n, some h], rfl, e1, fun y hy => ?_, by simp, fun H2 s2 => ?_⟩
      · simp only [List.mem_cons, List.not_mem_nil, or_false] at hy
        rcases hy with rfl | rfl
        · exact small_some hs.1
        · exact small_some hs.2.1
      have s12 := s1.trans s2
      have ep2 := s12 _ _ ep
      have l1 := oT_len (small_some hs.1)
      have l2 := oT_len (small_some hs.2.1)
      have ls := spT_len ([some n, some h].map oT)
      simp only [List.map_cons, List.map_nil, List.sum_cons, List.sum_nil] at ls
      have a4 : atI [V.str (Str.ofString "wish"), V.int (n : Int), V.int (h : Int), V.str (Str.ofString "put"), V.ref r, V.str (S z)] 4 = some (V.ref r) := rfl
      have a5 : atI [V.str (Str.ofString "wish"), V.int (n : Int), V.int (h : Int), V.str (Str.ofString "put"), V.ref r, V.str (S z)] 5 = some (V.str (S z)) := rfl
      simp (maxSteps := 1000000) only [getO_t, atI_3, List.map_cons, List.map_nil, Option.some.injEq, exists_eq_left', ep2, a4, a5]
      refine .inr ⟨r, g, b, rfl, s12 _ _ er, hs.2.2.2.1, by have := hs.2.2.2.2; omega, by rw [sizeLine_eq]; decide, ?_⟩
      intro p4 n4
      generalize z4 : upd H2 p4 _ = H4
      obtain ⟨s4, e4⟩ := new_same z4 n4
      refine ⟨Nat.zero_le _, ?_⟩
      intro p5 n5
      generalize z5 : upd H4 p5 _ = H5
      obtain ⟨s5, e5⟩ := new_same z5 n5
      have lz := hs.2.2.1
      have lw : (K83.w "wish").length = 4 := by decide
      have lp : (K83.w "put").length = 3 := by decide
      have lg := nT_len hs.2.2.2.1
      have lb := hs.2.2.2.2
      refine ⟨p4, p5, [K83.w "wish", spT ([some n, some h].map oT), z, K83.w "put" ++ 32 :: (nT g ++ 32 :: b)], [], rfl, ?_, e5, ?_, by simp, by simp, fun H6 s6 => ?_⟩
      · rw [s5 _ _ e4, S_of "wish"]
        rfl
      · simp only [List.map_cons, List.map_nil, List.sum_cons, List.sum_nil, List.length_append, List.length_cons]
        omega
      · have e : spT [K83.w "wish", spT ([some n, some h].map oT), z, K83.w "put" ++ 32 :: (nT g ++ 32 :: b)] ++ lT id [] = rT (.put n h z g b) := by simp [spT, lT, rT, oT]
        rw [e]
        exact q _ (((s12.trans s4).trans s5).trans s6)
    | wish n h z v u =>
      obtain ⟨p, x, rfl, ep, hx⟩ := hv
      have hne_way : (Str.ofString "wish" = Str.ofString "way") = False := by simp; decide
      simp (maxSteps := 1000000) only [tComp_eq, rEq_ss, rGet, getO_t, atI_0, Nat.reduceSub, HO.tup.injEq, Nat.reduceAdd, decide_true, decide_false, tSl, tNoPart, tPart, tSeq, exists_and_left, if_false, if_true, Bool.false_eq_true, tIfS, tTest, tOp, tVar, tC, tRet, tAsg, gName, tNext, tCall, tCons, tNil, tLst, L2.start, List.map_cons, List.map_nil, List.length_cons, List.length_nil, List.replicate, List.cons_append, List.nil_append, List.getElem?_cons_zero, List.getElem?_cons_succ, List.set_cons_zero, List.set_cons_succ, Option.some.injEq, exists_eq_left', V.int.injEq, V.bl.injEq, V.ref.injEq, List.append_nil, ep, rSlTX, hne_way]
      intro p1 H1 h1 e1
      have s1 : Same H H1 := slice_same h1
      have ecut : cutV [V.str (Str.ofString "wish"), V.int (n : Int), V.int (h : Int), V.str (S v), x, V.str (S z)] (some 1) (some 3) = [some n, some h].map onV := rfl
      rw [ecut] at e1
      refine ⟨p1, [some n, some h], rfl, e1, fun y hy => ?_, by simp, fun H2 s2 => ?_⟩
      · simp only [List.mem_cons, List.not_mem_nil, or_false] at hy
        rcases hy with rfl | rfl
        · exact small_some hs.1
        · exact small_some hs.2.1
      have s12 := s1.trans s2
      have ep2 := s12 _ _ ep
      have l1 := oT_len (small_some hs.1)
      have l2 := oT_len (small_some hs.2.1)
      have ls := spT_len ([some n, some h].map oT)
      simp only [List.map_cons, List.map_nil, List.sum_cons, List.sum_nil] at ls
      have a4 : atI [V.str (Str.ofString "wish"), V.int (n : Int), V.int (h : Int), V.str (S v), x, V.str (S z)] 4 = some x := rfl
      have a5 : atI [V.str (Str.ofString "wish"), V.int (n : Int), V.int (h : Int), V.str (S v), x, V.str (S z)] 5 = some (V.str (S z)) := rfl
      simp (maxSteps := 1000000) only [getO_t, atI_3, List.map_cons, List.map_nil, Option.some.injEq, exists_eq_left', ep2, a4, a5]
      refine .inl ⟨v, u, x, rfl, hs.2.2.2.2.2, hx, by have := hs.2.2.2.1; omega, by rw [sizeLine_eq]; decide, ?_⟩
      intro p4 n4
      generalize z4 : upd H2 p4 _ = H4
      obtain ⟨s4, e4⟩ := new_same z4 n4
      refine ⟨Nat.zero_le _, ?_⟩
      intro p5 n5
      generalize z5 : upd H4 p5 _ = H5
      obtain ⟨s5, e5⟩ := new_same z5 n5
      have lz := hs.2.2.1
      have lw : (K83.w "wish").length = 4 := by decide
      have lv := hs.2.2.2.1
      have lu := hs.2.2.2.2.1
      refine ⟨p4, p5, [K83.w "wish", spT ([some n, some h].map oT), z, v ++ 32 :: u], [], rfl, ?_, e5, ?_, by simp, by simp, fun H6 s6 => ?_⟩
      · rw [s5 _ _ e4, S_of "wish"]
        rfl
      · simp only [List.map_cons, List.map_nil, List.sum_cons, List.sum_nil, List.length_append, List.length_cons]
        omega
      · have e : spT [K83.w "wish", spT ([some n, some h].map oT), z, v ++ 32 :: u] ++ lT id [] = rT (.wish n h z v u) := by simp [spT, lT, rT, oT]
        rw [e]
        exact q _ (((s12.trans s4).trans s5).trans s6)
    | read n h x ts =>
      obtain ⟨p, r, us, rfl, ep, er, hp⟩ := hv
      have hne_way : (Str.ofString "read" = Str.ofString "way") = False := by simp; decide
      have hne_wish : (Str.ofString "read" = Str.ofString "wish") = False := by simp; decide
      have hne_here : (Str.ofString "read" = Str.ofString "here") = False := by simp; decide
      have hne_gone : (Str.ofString "read" = Str.ofString "gone") = False := by simp; decide
      simp (maxSteps := 1000000) only [tComp_eq, rEq_ss, rGet, getO_t, atI_0, Nat.reduceSub, HO.tup.injEq, Nat.reduceAdd, decide_true, decide_false, tSl, tNoPart, tPart, tSeq, exists_and_left, if_false, if_true, Bool.false_eq_true, tIfS, tTest, tOp, tVar, tC, tRet, tAsg, gName, tNext, tCall, tCons, tNil, tLst, L2.start, List.map_cons, List.map_nil, List.length_cons, List.length_nil, List.replicate, List.cons_append, List.nil_append, List.getElem?_cons_zero, List.getElem?_cons_succ, List.set_cons_zero, List.set_cons_succ, Option.some.injEq, exists_eq_left', V.int.injEq, V.bl.injEq, V.ref.injEq, List.append_nil, ep, rSlTX, hne_way, hne_wish, hne_here, hne_gone]
      intro p1 H1 h1 e1
      have s1 : Same H H1 := slice_same h1
      have ecut : cutV [V.str (Str.ofString "read"), V.int (n : Int), V.int (h : Int), V.int (x : Int), V.ref r] (some 1) (some 4) = [some n, some h, some x].map onV := rfl
      rw [ecut] at e1
      refine ⟨p1, [some n, some h, some x], rfl, e1, fun y hy => ?_, by simp, fun H2 s2 => ⟨by rw [sizeLine_eq]; decide, ?_⟩⟩
      · simp only [List.mem_cons, List.not_mem_nil, or_false] at hy
        rcases hy with rfl | rfl | rfl
        · exact small_some hs.1
        · exact small_some hs.2.1
        · exact small_some hs.2.2.1
      have s12 := s1.trans s2
      intro p4 n4
      generalize z4 : upd H2 p4 _ = H4
      obtain ⟨s4, e4⟩ := new_same z4 n4
      have s14 := s12.trans s4
      have ep4 := s14 _ _ ep
      have er4 := s14 _ _ er
      have aX : atI [V.str (Str.ofString "read"), V.int (n : Int), V.int (h : Int), V.int (x : Int), V.ref r] 4 = some (V.ref r) := rfl
      simp (maxSteps := 1000000) only [rGet, getO_t, exists_and_left, tOp, tVar, tC, List.getElem?_cons_zero, Option.some.injEq, exists_eq_left', V.ref.injEq, ep4, aX, iTup]
      have hlen := hp.length
      have l1 := oT_len (small_some hs.1)
      have l2 := oT_len (small_some hs.2.1)
      have l3 := oT_len (small_some hs.2.2.1)
      have ls := spT_len ([some n, some h, some x].map oT)
      simp only [List.map_cons, List.map_nil, List.sum_cons, List.sum_nil] at ls
      have lw : (K83.w "read").length = 4 := by decide
      have hl4 := hs.2.2.2.1
      refine ⟨⟨_, SqT.of er4⟩, comp_growT (SqT.of er4) (by rw [sizeLine_eq]; omega) (((ts.map tT).map S).map V.str) (by simp; omega) (fun H5 i v y Q' hv hy s5 hq => ?_) (fun D H5 nD s5 eD => ?_) (gName_mono 0)⟩
      · obtain ⟨t, ht, hr'⟩ := paired_get hp hv
        rw [List.getElem?_map, List.getElem?_map, List.getElem?_map, ht] at hy
        have ey : V.str (S (tT t)) = y := by simpa using hy
        subst ey
        simp (maxSteps := 1000000) only [cSt, List.drop_succ_cons, List.drop_zero, tVar, gName, tCall, tCons, tNil, List.map_nil, List.replicate, List.getElem?_cons_zero, List.set_cons_zero, Option.some.injEq, exists_eq_left', true_and, List.append_nil]
        exact ⟨v, t, rfl, hr'.same (s14.trans s5), hs.2.2.2.2 t (List.mem_of_getElem? ht), hq _ (.refl _)⟩
      · refine ⟨p4, D, [K83.w "read", spT ([some n, some h, some x].map oT)], ts.map tT, rfl, ?_, eD, ?_, by rw [List.length_map]; omega, fun z hz => ?_, fun H6 s6 => ?_⟩
        · rw [s5 _ _ e4, S_of "read"]
          rfl
        · simp only [List.map_cons, List.map_nil, List.sum_cons, List.sum_nil]
          omega
        · obtain ⟨t, ht, rfl⟩ := List.mem_map.mp hz
          have := tT_len (hs.2.2.2.2 t ht)
          omega
        · have e : spT [K83.w "read", spT ([some n, some h, some x].map oT)] ++ lT id (ts.map tT) = rT (.read n h x ts) := by rw [lT_map]; simp [spT, rT, oT]
          rw [e]
          exact q _ ((s14.trans s5).trans s6)
    | came n h x y ps =>
      obtain ⟨p, r, us, rfl, ep, er, hp⟩ := hv
      have hne_way : (Str.ofString "came" = Str.ofString "way") = False := by simp; decide
      have hne_wish : (Str.ofString "came" = Str.ofString "wish") = False := by simp; decide
      have hne_here : (Str.ofString "came" = Str.ofString "here") = False := by simp; decide
      have hne_read : (Str.ofString "came" = Str.ofString "read") = False := by simp; decide
      have hne_gone : (Str.ofString "came" = Str.ofString "gone") = False := by simp; decide
      simp (maxSteps := 1000000) only [tComp_eq, rEq_ss, rGet, getO_t, atI_0, Nat.reduceSub, HO.tup.injEq, Nat.reduceAdd, decide_true, decide_false, tSl, tNoPart, tPart, tSeq, exists_and_left, if_false, if_true, Bool.false_eq_true, tIfS, tTest, tOp, tVar, tC, tRet, tAsg, gName, tNext, tCall, tCons, tNil, tLst, L2.start, List.map_cons, List.map_nil, List.length_cons, List.length_nil, List.replicate, List.cons_append, List.nil_append, List.getElem?_cons_zero, List.getElem?_cons_succ, List.set_cons_zero, List.set_cons_succ, Option.some.injEq, exists_eq_left', V.int.injEq, V.bl.injEq, V.ref.injEq, List.append_nil, ep, rSlTX, hne_way, hne_wish, hne_here, hne_gone, hne_read]
      intro p1 H1 h1 e1
      have s1 : Same H H1 := slice_same h1
      have ecut : cutV [V.str (Str.ofString "came"), V.int (n : Int), V.int (h : Int), V.int (x : Int), V.int (y : Int), V.ref r] (some 1) (some 5) = [some n, some h, some x, some y].map onV := rfl
      rw [ecut] at e1
      refine ⟨p1, [some n, some h, some x, some y], rfl, e1, fun yy hy => ?_, by simp, fun H2 s2 => ⟨by rw [sizeLine_eq]; decide, ?_⟩⟩
      · simp only [List.mem_cons, List.not_mem_nil, or_false] at hy
        rcases hy with rfl | rfl | rfl | rfl
        · exact small_some hs.1
        · exact small_some hs.2.1
        · exact small_some hs.2.2.1
        · exact small_some hs.2.2.2.1
      have s12 := s1.trans s2
      intro p4 n4
      generalize z4 : upd H2 p4 _ = H4
      obtain ⟨s4, e4⟩ := new_same z4 n4
      have s14 := s12.trans s4
      have ep4 := s14 _ _ ep
      have er4 := s14 _ _ er
      have aX : atI [V.str (Str.ofString "came"), V.int (n : Int), V.int (h : Int), V.int (x : Int), V.int (y : Int), V.ref r] 5 = some (V.ref r) := rfl
      simp (maxSteps := 1000000) only [rGet, getO_t, exists_and_left, tOp, tVar, tC, List.getElem?_cons_zero, Option.some.injEq, exists_eq_left', V.ref.injEq, ep4, aX, iTup]
      have hlen := hp.length
      have l1 := oT_len (small_some hs.1)
      have l2 := oT_len (small_some hs.2.1)
      have l3 := oT_len (small_some hs.2.2.1)
      have l4 := oT_len (small_some hs.2.2.2.1)
      have ls := spT_len ([some n, some h, some x, some y].map oT)
      simp only [List.map_cons, List.map_nil, List.sum_cons, List.sum_nil] at ls
      have lw : (K83.w "came").length = 4 := by decide
      have hl4 := hs.2.2.2.2.1
      refine ⟨⟨_, SqT.of er4⟩, comp_growT (SqT.of er4) (by rw [sizeLine_eq]; omega) (((ps.map pT).map S).map V.str) (by simp; omega) (fun H5 i v yy Q' hv hy s5 hq => ?_) (fun D H5 nD s5 eD => ?_) (gName_mono 0)⟩
      · obtain ⟨t, ht, hr'⟩ := paired_get hp hv
        rw [List.getElem?_map, List.getElem?_map, List.getElem?_map, ht] at hy
        have ey : V.str (S (pT t)) = yy := by simpa using hy
        subst ey
        simp (maxSteps := 1000000) only [cSt, List.drop_succ_cons, List.drop_zero, tVar, gName, tCall, tCons, tNil, List.map_nil, List.replicate, List.getElem?_cons_zero, List.set_cons_zero, Option.some.injEq, exists_eq_left', true_and, List.append_nil]
        exact ⟨v, t, rfl, hr'.same (s14.trans s5), hs.2.2.2.2.2 t (List.mem_of_getElem? ht), fun H6 s6 => hq _ s6⟩
      · refine ⟨p4, D, [K83.w "came", spT ([some n, some h, some x, some y].map oT)], ps.map pT, rfl, ?_, eD, ?_, by rw [List.length_map]; omega, fun z hz => ?_, fun H6 s6 => ?_⟩
        · rw [s5 _ _ e4, S_of "came"]
          rfl
        · simp only [List.map_cons, List.map_nil, List.sum_cons, List.sum_nil]
          omega
        · obtain ⟨t, ht, rfl⟩ := List.mem_map.mp hz
          have := pT_len (hs.2.2.2.2.2 t ht)
          omega
        · have e : spT [K83.w "came", spT ([some n, some h, some x, some y].map oT)] ++ lT id (ps.map pT) = rT (.came n h x y ps) := by rw [lT_map]; simp [spT, rT, oT]
          rw [e]
          exact q _ ((s14.trans s5).trans s6)
    | sent n h x y ps =>
      obtain ⟨p, r, us, rfl, ep, er, hp⟩ := hv
      have hne_way : (Str.ofString "sent" = Str.ofString "way") = False := by simp; decide
      have hne_wish : (Str.ofString "sent" = Str.ofString "wish") = False := by simp; decide
      have hne_here : (Str.ofString "sent" = Str.ofString "here") = False := by simp; decide
      have hne_gone : (Str.ofString "sent" = Str.ofString "gone") = False := by simp; decide
      have hne_read : (Str.ofString "sent" = Str.ofString "read") = False := by simp; decide
      have hne_came : (Str.ofString "sent" = Str.ofString "came") = False := by simp; decide
      simp (maxSteps := 1000000) only [tComp_eq, rEq_ss, rGet, getO_t, atI_0, Nat.reduceSub, HO.tup.injEq, Nat.reduceAdd, decide_false, tSl, tNoPart, tPart, tSeq, exists_and_left, if_false, Bool.false_eq_true, tIfS, tTest, tOp, tVar, tC, tRet, tAsg, gName, tNext, tCall, tCons, tNil, tLst, L2.start, List.map_cons, List.map_nil, List.length_cons, List.length_nil, List.replicate, List.cons_append, List.nil_append, List.getElem?_cons_zero, List.getElem?_cons_succ, List.set_cons_zero, List.set_cons_succ, Option.some.injEq, exists_eq_left', V.int.injEq, V.bl.injEq, V.ref.injEq, List.append_nil, ep, rSlTX, hne_way, hne_wish, hne_here, hne_gone, hne_read, hne_came]
      intro p1 H1 h1 e1
      have s1 : Same H H1 := slice_same h1
      have ecut : cutV [V.str (Str.ofString "sent"), V.int (n : Int), V.int (h : Int), V.int (x : Int), V.ref r, V.int (y : Int)] (some 1) (some 4) = [some n, some h, some x].map onV := rfl
      rw [ecut] at e1
      have ep1 := s1 _ _ ep
      simp (maxSteps := 1000000) only [HO.tup.injEq, Option.some.injEq, exists_eq_left', ep1]
      intro p2 H2 h2 e2
      have s2 : Same H1 H2 := slice_same h2
      have ecut2 : cutV [V.str (Str.ofString "sent"), V.int (n : Int), V.int (h : Int), V.int (x : Int), V.ref r, V.int (y : Int)] (some 5) none = [some y].map onV := rfl
      rw [ecut2] at e2
      have e12 := s2 _ _ e1
      refine ⟨p1, p2, _, _, rfl, rfl, SqT.of e12, SqT.of e2, by simp, by rw [sizeLine_eq]; simp, fun z => absurd z (by simp), fun _ => ?_⟩
      intro p3 n3
      generalize z3 : upd H2 p3 _ = H3
      obtain ⟨s3, e3⟩ := new_same z3 n3
      have s13 := (s1.trans s2).trans s3
      refine ⟨p3, [some n, some h, some x, some y], rfl, e3, fun yy hy => ?_, by simp, fun H5 s5 => ⟨by rw [sizeLine_eq]; decide, ?_⟩⟩
      · simp only [List.mem_cons, List.not_mem_nil, or_false] at hy
        rcases hy with rfl | rfl | rfl | rfl
        · exact small_some hs.1
        · exact small_some hs.2.1
        · exact small_some hs.2.2.1
        · exact small_some hs.2.2.2.1
      intro p4 n4
      generalize z4 : upd H5 p4 _ = H4
      obtain ⟨s4, e4⟩ := new_same z4 n4
      have s14 := (s13.trans s5).trans s4
      have ep4 := s14 _ _ ep
      have er4 := s14 _ _ er
      have aX : atI [V.str (Str.ofString "sent"), V.int (n : Int), V.int (h : Int), V.int (x : Int), V.ref r, V.int (y : Int)] 4 = some (V.ref r) := rfl
      simp (maxSteps := 1000000) only [rGet, getO_t, exists_and_left, tOp, tVar, tC, List.getElem?_cons_zero, Option.some.injEq, exists_eq_left', V.ref.injEq, ep4, aX, iTup]
      have hlen := hp.length
      have l1 := oT_len (small_some hs.1)
      have l2 := oT_len (small_some hs.2.1)
      have l3 := oT_len (small_some hs.2.2.1)
      have l4 := oT_len (small_some hs.2.2.2.1)
      have ls := spT_len ([some n, some h, some x, some y].map oT)
      simp only [List.map_cons, List.map_nil, List.sum_cons, List.sum_nil] at ls
      have lw : (K83.w "sent").length = 4 := by decide
      have hl4 := hs.2.2.2.2.1
      refine ⟨⟨_, SqT.of er4⟩, comp_growT (SqT.of er4) (by rw [sizeLine_eq]; omega) (((ps.map sT).map S).map V.str) (by simp; omega) (fun H6 i v yy Q' hv hy s6 hq => ?_) (fun D H6 nD s6 eD => ?_) (gName_mono 0)⟩
      · obtain ⟨t, ht, hr'⟩ := paired_get hp hv
        rw [List.getElem?_map, List.getElem?_map, List.getElem?_map, ht] at hy
        have ey : V.str (S (sT t)) = yy := by simpa using hy
        subst ey
        simp (maxSteps := 1000000) only [cSt, List.drop_succ_cons, List.drop_zero, tVar, gName, tCall, tCons, tNil, List.map_nil, List.replicate, List.getElem?_cons_zero, List.set_cons_zero, Option.some.injEq, exists_eq_left', true_and, List.append_nil]
        have hb := hs.2.2.2.2.2 t (List.mem_of_getElem? ht)
        exact ⟨v, t, rfl, hr'.same (s14.trans s6), hb.1, hb.2, fun H7 s7 => hq _ s7⟩
      · refine ⟨p4, D, [K83.w "sent", spT ([some n, some h, some x, some y].map oT)], ps.map sT, rfl, ?_, eD, ?_, by rw [List.length_map]; omega, fun z hz => ?_, fun H7 s7 => ?_⟩
        · rw [s6 _ _ e4, S_of "sent"]
          rfl
        · simp only [List.map_cons, List.map_nil, List.sum_cons, List.sum_nil]
          omega
        · obtain ⟨t, ht, rfl⟩ := List.mem_map.mp hz
          have hb := hs.2.2.2.2.2 t ht
          have k1 := pT_len hb.2
          have k2 := nT_len hb.1
          simp only [sT, List.length_append, List.length_cons]
          omega
        · have e : spT [K83.w "sent", spT ([some n, some h, some x, some y].map oT)] ++ lT id (ps.map sT) = rT (.sent n h x y ps) := by rw [lT_map]; simp [spT, rT, oT]
          rw [e]
          exact q _ ((s14.trans s6).trans s7)
end
end K83
namespace K83
open PySem L2
/-! ### signs that are signs -/
def Lo (l : List Nat) : Prop := ∀ c ∈ l, c < 1114112
theorem Lo.ok {l : List Nat} (h : Lo l) : PyData.strOk (S l) = true := by
  unfold PyData.strOk S
  rw [Array.all_eq_true_iff_forall_mem]
  intro c hc
  exact decide_eq_true (h c (by simpa using hc))
theorem lo_w (s : String) : Lo (w s) := fun c hc => by
  obtain ⟨d, _, rfl⟩ := List.mem_map.mp hc
  have := d.valid
  have h : d.toNat < 0xd800 ∨ (0xdfff < d.toNat ∧ d.toNat < 0x110000) := this
  omega
theorem ok_of (s : String) : PyData.strOk (Str.ofString s) = true := by rw [S_of]; exact (lo_w s).ok
theorem S_inj {a b : List Nat} (h : S a = S b) : a = b := by
  have : a.toArray = b.toArray := congrArg Str.cps h
  simpa using this
def Th.Lo : Th → Prop
  | .sg s => K83.Lo s
  | _ => True
def Bd.Lo : Bd → Prop
  | .piece _ t => t.Lo
  | .got _ => True
  | .ask z _ => K83.Lo z
  | .told z _ _ => K83.Lo z
def isGo (v : List Nat) : Prop := v = w "begin" ∨ v = w "end"
def isNm (v : List Nat) : Prop := v = w "bind" ∨ v = w "free" ∨ v = w "ask"
def Rr.Lo : Rr → Prop
  | .came _ _ _ _ ps => ∀ p ∈ ps, p.d.Lo
  | .way _ _ _ _ _ => True
  | .here _ _ p => p.d.Lo
  | .gone _ _ z p => K83.Lo z ∧ p.d.Lo
  | .read _ _ _ ts => ∀ t ∈ ts, t.Lo
  | .sent _ _ _ _ ps => ∀ p ∈ ps, p.2.d.Lo
  | .put _ _ z _ s => K83.Lo z ∧ K83.Lo s
  | .wish _ _ z v u => K83.Lo z ∧ K83.Lo v ∧ K83.Lo u
/-! ### what is kept -/
theorem RTh.keep {A : List Addr} {H H' : Hp} {v : V} {t : Th} (h : RTh H v t) (k : Keep A H H') (hs : ∀ b ∈ A, NoT H b) : RTh H' v t := by
  obtain ⟨p, e, h⟩ := h
  exact ⟨p, e, k _ _ h fun z => hs _ z _ h⟩
theorem RBd.keep {A : List Addr} {H H' : Hp} {v : V} (k : Keep A H H') (hs : ∀ b ∈ A, NoT H b) : ∀ {b : Bd}, RBd H v b → RBd H' v b
  | .piece _ _, ⟨p, u, e, h, t⟩ => ⟨p, u, e, k _ _ h fun z => hs _ z _ h, t.keep k hs⟩
  | .got _, ⟨p, e, h⟩ => ⟨p, e, k _ _ h fun z => hs _ z _ h⟩
  | .ask _ _, ⟨p, e, h⟩ => ⟨p, e, k _ _ h fun z => hs _ z _ h⟩
  | .told _ _ _, ⟨p, e, h⟩ => ⟨p, e, k _ _ h fun z => hs _ z _ h⟩
theorem RPc.keep {A : List Addr} {H H' : Hp} {v : V} {p : Pc} (h : RPc H v p) (k : Keep A H H') (hs : ∀ b ∈ A, NoT H b) : RPc H' v p := by
  obtain ⟨q, u, e, h, b⟩ := h
  exact ⟨q, u, e, k _ _ h fun z => hs _ z _ h, b.keep k hs⟩
theorem RSt.keep {A : List Addr} {H H' : Hp} {v : V} {p : Nat × Pc} (h : RSt H v p) (k : Keep A H H') (hs : ∀ b ∈ A, NoT H b) : RSt H' v p := by
  obtain ⟨q, u, e, h, b⟩ := h
  exact ⟨q, u, e, k _ _ h fun z => hs _ z _ h, b.keep k hs⟩
theorem paired_imp {α β : Type} {R R' : α → β → Prop} (hR : ∀ a b, R a b → R' a b) : ∀ {l : List α} {m : List β}, Paired R l m → Paired R' l m
  | _, _, .nil => .nil
  | _, _, .cons h t => .cons (hR _ _ h) (paired_imp hR t)
theorem RRr.keep {A : List Addr} {H H' : Hp} {v : V} (k : Keep A H H') (hs : ∀ b ∈ A, NoT H b) : ∀ {r : Rr}, RRr H v r → RRr H' v r
  | .came _ _ _ _ _, ⟨p, q, us, e, h, h2, P⟩ => ⟨p, q, us, e, k _ _ h fun z => hs _ z _ h, k _ _ h2 fun z => hs _ z _ h2, paired_imp (fun _ _ x => x.keep k hs) P⟩
  | .way _ _ _ _ _, ⟨p, e, h⟩ => ⟨p, e, k _ _ h fun z => hs _ z _ h⟩
  | .here _ _ _, ⟨p, u, e, h, P⟩ => ⟨p, u, e, k _ _ h fun z => hs _ z _ h, P.keep k hs⟩
  | .gone _ _ _ _, ⟨p, u, e, h, P⟩ => ⟨p, u, e, k _ _ h fun z => hs _ z _ h, P.keep k hs⟩
  | .read _ _ _ _, ⟨p, q, us, e, h, h2, P⟩ => ⟨p, q, us, e, k _ _ h fun z => hs _ z _ h, k _ _ h2 fun z => hs _ z _ h2, paired_imp (fun _ _ x => x.keep k hs) P⟩
  | .sent _ _ _ _ _, ⟨p, q, us, e, h, h2, P⟩ => ⟨p, q, us, e, k _ _ h fun z => hs _ z _ h, k _ _ h2 fun z => hs _ z _ h2, paired_imp (fun _ _ x => x.keep k hs) P⟩
  | .put _ _ _ _ _, ⟨p, q, e, h, h2⟩ => ⟨p, q, e, k _ _ h fun z => hs _ z _ h, k _ _ h2 fun z => hs _ z _ h2⟩
  | .wish _ _ _ _ _, ⟨p, x, e, h, W⟩ => ⟨p, x, e, k _ _ h fun z => hs _ z _ h, W⟩
theorem RRr.same {H H' : Hp} {v : V} {r : Rr} (h : RRr H v r) (s : Same H H') : RRr H' v r := h.keep (A := []) s.keep (fun _ z => nomatch z)
/-! ### rows as data -/
def dTh : Th → PyData
  | .beg => .tuple [.str (Str.ofString "begin")]
  | .fin => .tuple [.str (Str.ofString "end")]
  | .sg s => .tuple [.str (Str.ofString "signs"), .str (S s)]
def dO : Option Nat → PyData
  | none => .none
  | some n => .int (n : Int)
def dBd : Bd → PyData
  | .piece n t => .tuple [.str (Str.ofString "piece"), .int (n : Int), dTh t]
  | .got n => .tuple [.str (Str.ofString "got"), .int (n : Int)]
  | .ask z n => .tuple [.str (Str.ofString "ask"), .str (S z), .int (n : Int)]
  | .told z o n => .tuple [.str (Str.ofString "told"), .str (S z), dO o, .int (n : Int)]
def dPc (p : Pc) : PyData := .tuple [.int (p.a : Int), .int (p.b : Int), .int (p.c : Int), dBd p.d]
def dSt (p : Nat × Pc) : PyData := .tuple [.int (p.1 : Int), dPc p.2]
def dHd (s : String) (n h : Nat) (r : List PyData) : PyData := .tuple (.str (Str.ofString s) :: .int (n : Int) :: .int (h : Int) :: r)
def DataR : Rr → PyData → Prop
  | .came n h x y ps, d => d = dHd "came" n h [.int (x : Int), .int (y : Int), .tuple (ps.map dPc)]
  | .way n h x o q, d => d = dHd "way" n h [.int (x : Int), dO o, dO q]
  | .here n h p, d => d = dHd "here" n h [dPc p]
  | .gone n h z p, d => d = dHd "gone" n h [dPc p, .str (S z)]
  | .read n h x ts, d => d = dHd "read" n h [.int (x : Int), .tuple (ts.map dTh)]
  | .sent n h x y ps, d => d = dHd "sent" n h [.int (x : Int), .tuple (ps.map dSt), .int (y : Int)]
  | .put n h z g s, d => d = dHd "wish" n h [.str (Str.ofString "put"), .tuple [.int (g : Int), .str (S s)], .str (S z)]
  | .wish n h z v u, d => ∃ x, d = dHd "wish" n h [.str (S v), x, .str (S z)] ∧ v ≠ w "put" ∧ ((isGo v ∧ ∃ k : Nat, x = .int (k : Int) ∧ u = nT k) ∨ (isNm v ∧ x = .str (S u)))
theorem go_nm {v : List Nat} (a : isGo v) (b : isNm v) : False := by
  rcases a with rfl | rfl <;> rcases b with h | h | h <;> exact absurd h (by decide)
/-- a row has one datum -/
theorem DataR.one : ∀ {r : Rr} {d e : PyData}, DataR r d → DataR r e → d = e
  | .came .., _, _, h, h' => h.trans h'.symm
  | .way .., _, _, h, h' => h.trans h'.symm
  | .here .., _, _, h, h' => h.trans h'.symm
  | .gone .., _, _, h, h' => h.trans h'.symm
  | .read .., _, _, h, h' => h.trans h'.symm
  | .sent .., _, _, h, h' => h.trans h'.symm
  | .put .., _, _, h, h' => h.trans h'.symm
  | .wish .., _, _, ⟨x, h, _, X⟩, ⟨y, h', _, Y⟩ => by
    have e : x = y := by
      rcases X with ⟨a, k, rfl, rfl⟩ | ⟨a, rfl⟩ <;> rcases Y with ⟨b, j, rfl, e⟩ | ⟨b, e⟩
      · rw [nT_inj e]
      · exact (go_nm a b).elim
      · exact (go_nm b a).elim
      · exact e.symm
    rw [h, h', e]
theorem dTh_inj : ∀ {a b : Th}, dTh a = dTh b → a = b
  | .beg, .beg, _ => rfl
  | .beg, .fin, h => by simp only [dTh, PyData.tuple.injEq, List.cons.injEq, PyData.str.injEq] at h; exact absurd h.1 (by decide)
  | .beg, .sg _, h => by simp [dTh] at h
  | .fin, .beg, h => by simp only [dTh, PyData.tuple.injEq, List.cons.injEq, PyData.str.injEq] at h; exact absurd h.1 (by decide)
  | .fin, .fin, _ => rfl
  | .fin, .sg _, h => by simp [dTh] at h
  | .sg _, .beg, h => by simp [dTh] at h
  | .sg _, .fin, h => by simp [dTh] at h
  | .sg _, .sg _, h => by
    simp only [dTh, PyData.tuple.injEq, List.cons.injEq, PyData.str.injEq, true_and, and_true] at h
    rw [S_inj h]
theorem dO_inj : ∀ {a b : Option Nat}, dO a = dO b → a = b
  | none, none, _ => rfl
  | none, some _, h => by simp [dO] at h
  | some _, none, h => by simp [dO] at h
  | some a, some b, h => by
    simp only [dO, PyData.int.injEq] at h
    rw [show a = b by omega]
theorem dBd_inj {a b : Bd} (h : dBd a = dBd b) : a = b := by
  have k1 : ¬ Str.ofString "piece" = Str.ofString "got" := by decide
  have k2 : ¬ Str.ofString "piece" = Str.ofString "ask" := by decide
  have k3 : ¬ Str.ofString "piece" = Str.ofString "told" := by decide
  have k4 : ¬ Str.ofString "got" = Str.ofString "ask" := by decide
  have k5 : ¬ Str.ofString "got" = Str.ofString "told" := by decide
  have k6 : ¬ Str.ofString "ask" = Str.ofString "told" := by decide
  cases a <;> cases b <;> simp only [dBd, PyData.tuple.injEq, List.cons.injEq, PyData.str.injEq, PyData.int.injEq, true_and, and_true, Int.natCast_inj] at h <;> first
    | exact absurd h.1 (by assumption)
    | exact absurd h.1.symm (by assumption)
    | skip
  · rw [h.1, dTh_inj h.2]
  · rw [h]
  · rw [S_inj h.1, h.2]
  · rw [S_inj h.1, dO_inj h.2.1, h.2.2]
theorem dPc_inj {p q : Pc} (h : dPc p = dPc q) : p = q := by
  simp only [dPc, PyData.tuple.injEq, List.cons.injEq, PyData.int.injEq, and_true, Int.natCast_inj] at h
  obtain ⟨h1, h2, h3, h4⟩ := h
  cases p
  cases q
  dsimp only at h1 h2 h3 h4
  rw [h1, h2, h3, dBd_inj h4]
theorem dSt_inj {p q : Nat × Pc} (h : dSt p = dSt q) : p = q := by
  simp only [dSt, PyData.tuple.injEq, List.cons.injEq, PyData.int.injEq, and_true, Int.natCast_inj] at h
  exact Prod.ext h.1 (dPc_inj h.2)
def wrd : Rr → String
  | .came .. => "came"
  | .way .. => "way"
  | .here .. => "here"
  | .gone .. => "gone"
  | .read .. => "read"
  | .sent .. => "sent"
  | .put .. => "wish"
  | .wish .. => "wish"
theorem DataR.hd : ∀ {r : Rr} {d : PyData}, DataR r d → ∃ n h l, d = dHd (wrd r) n h l
  | .came .., _, h => ⟨_, _, _, h⟩
  | .way .., _, h => ⟨_, _, _, h⟩
  | .here .., _, h => ⟨_, _, _, h⟩
  | .gone .., _, h => ⟨_, _, _, h⟩
  | .read .., _, h => ⟨_, _, _, h⟩
  | .sent .., _, h => ⟨_, _, _, h⟩
  | .put .., _, h => ⟨_, _, _, h⟩
  | .wish .., _, ⟨_, h, _⟩ => ⟨_, _, _, h⟩
theorem dHd_inj {s t : String} {n h m k : Nat} {a b : List PyData} (e : dHd s n h a = dHd t m k b) : Str.ofString s = Str.ofString t ∧ n = m ∧ h = k ∧ a = b := by
  simpa only [dHd, PyData.tuple.injEq, List.cons.injEq, PyData.str.injEq, PyData.int.injEq, Int.natCast_inj] using e
/-- a datum has one row -/
theorem DataR.inj {a b : Rr} {d : PyData} (h : DataR a d) (g : DataR b d) : a = b := by
  have hw : Str.ofString (wrd a) = Str.ofString (wrd b) := by
    obtain ⟨_, _, _, e1⟩ := h.hd
    obtain ⟨_, _, _, e2⟩ := g.hd
    exact (dHd_inj (e1.symm.trans e2)).1
  cases a <;> cases b <;> simp only [wrd] at hw <;> first | exact absurd hw (by decide) | skip
  · obtain ⟨_, e1, e2, e3⟩ := dHd_inj (h.symm.trans g)
    simp only [List.cons.injEq, PyData.int.injEq, PyData.tuple.injEq, Int.natCast_inj, and_true] at e3
    rw [e1, e2, e3.1, e3.2.1, map_inj (fun _ _ => dPc_inj) e3.2.2]
  · obtain ⟨_, e1, e2, e3⟩ := dHd_inj (h.symm.trans g)
    simp only [List.cons.injEq, PyData.int.injEq, PyData.tuple.injEq, Int.natCast_inj, and_true] at e3
    rw [e1, e2, e3.1, dO_inj e3.2.1, dO_inj e3.2.2]
  · obtain ⟨_, e1, e2, e3⟩ := dHd_inj (h.symm.trans g)
    simp only [List.cons.injEq, and_true] at e3
    rw [e1, e2, dPc_inj e3]
  · obtain ⟨_, e1, e2, e3⟩ := dHd_inj (h.symm.trans g)
    simp only [List.cons.injEq, PyData.str.injEq, and_true] at e3
    rw [e1, e2, dPc_inj e3.1, S_inj e3.2]
  · obtain ⟨_, e1, e2, e3⟩ := dHd_inj (h.symm.trans g)
    simp only [List.cons.injEq, PyData.int.injEq, PyData.tuple.injEq, Int.natCast_inj, and_true] at e3
    rw [e1, e2, e3.1, map_inj (fun _ _ => dTh_inj) e3.2]
  · obtain ⟨_, e1, e2, e3⟩ := dHd_inj (h.symm.trans g)
    simp only [List.cons.injEq, PyData.int.injEq, PyData.tuple.injEq, Int.natCast_inj, and_true] at e3
    rw [e1, e2, e3.1, e3.2.2, map_inj (fun _ _ => dSt_inj) e3.2.1]
  · obtain ⟨_, e1, e2, e3⟩ := dHd_inj (h.symm.trans g)
    simp only [List.cons.injEq, PyData.int.injEq, PyData.tuple.injEq, PyData.str.injEq, Int.natCast_inj, and_true, true_and] at e3
    rw [e1, e2, e3.1.1, S_inj e3.1.2, S_inj e3.2]
  · obtain ⟨x, g, np, _⟩ := g
    obtain ⟨_, e1, e2, e3⟩ := dHd_inj (h.symm.trans g)
    simp only [List.cons.injEq, PyData.str.injEq] at e3
    have := e3.1
    rw [S_of] at this
    exact absurd (S_inj this).symm np
  · obtain ⟨x, h, np, _⟩ := h
    obtain ⟨_, e1, e2, e3⟩ := dHd_inj (g.symm.trans h)
    simp only [List.cons.injEq, PyData.str.injEq] at e3
    have := e3.1
    rw [S_of] at this
    exact absurd (S_inj this).symm np
  · obtain ⟨x, h, _, X⟩ := h
    obtain ⟨y, g, _, Y⟩ := g
    obtain ⟨_, e1, e2, e3⟩ := dHd_inj (h.symm.trans g)
    simp only [List.cons.injEq, PyData.str.injEq, and_true] at e3
    obtain ⟨e4, e5, e6⟩ := e3
    have e4 := S_inj e4
    subst e4 e5
    rw [e1, e2, S_inj e6]
    rcases X with ⟨a, k, rfl, rfl⟩ | ⟨a, rfl⟩ <;> rcases Y with ⟨b, j, e, rfl⟩ | ⟨b, e⟩
    · simp only [PyData.int.injEq, Int.natCast_inj] at e
      rw [e]
    · exact (go_nm a b).elim
    · exact (go_nm b a).elim
    · simp only [PyData.str.injEq] at e
      rw [S_inj e]
/-! plain data: alike just where the same -/
mutual
inductive Pl : PyData → Prop
  | non : Pl .none
  | int (n : Int) : Pl (.int n)
  | str (s : Str) : Pl (.str s)
  | tup {ds : List PyData} : Pls ds → Pl (.tuple ds)
inductive Pls : List PyData → Prop
  | nil : Pls []
  | cons {d : PyData} {ds : List PyData} : Pl d → Pls ds → Pls (d :: ds)
end
mutual
theorem Pl.eq : ∀ {d e : PyData}, Pl d → Pl e → PyData.eqv d e = true → d = e
  | _, _, .non, .non, _ => rfl
  | _, _, .non, .int _, h => by simp [PyData.eqv] at h
  | _, _, .non, .str _, h => by simp [PyData.eqv] at h
  | _, _, .non, .tup _, h => by simp [PyData.eqv] at h
  | _, _, .int _, .non, h => by simp [PyData.eqv] at h
  | _, _, .int _, .int _, h => by simp [PyData.eqv] at h; rw [h]
  | _, _, .int _, .str _, h => by simp [PyData.eqv] at h
  | _, _, .int _, .tup _, h => by simp [PyData.eqv] at h
  | _, _, .str _, .non, h => by simp [PyData.eqv] at h
  | _, _, .str _, .int _, h => by simp [PyData.eqv] at h
  | _, _, .str _, .str _, h => by simp [PyData.eqv] at h; rw [h]
  | _, _, .str _, .tup _, h => by simp [PyData.eqv] at h
  | _, _, .tup _, .non, h => by simp [PyData.eqv] at h
  | _, _, .tup _, .int _, h => by simp [PyData.eqv] at h
  | _, _, .tup _, .str _, h => by simp [PyData.eqv] at h
  | _, _, .tup a, .tup b, h => by rw [PyData.eqv] at h; rw [Pls.eq a b h]
theorem Pls.eq : ∀ {d e : List PyData}, Pls d → Pls e → PyData.eqvAll d e = true → d = e
  | _, _, .nil, .nil, _ => rfl
  | _, _, .nil, .cons _ _, h => by simp [PyData.eqvAll] at h
  | _, _, .cons _ _, .nil, h => by simp [PyData.eqvAll] at h
  | _, _, .cons a t, .cons b s, h => by
    rw [PyData.eqvAll, Bool.and_eq_true] at h
    rw [Pl.eq a b h.1, Pls.eq t s h.2]
end
theorem Pls.map {α : Type} {f : α → PyData} (hf : ∀ a, Pl (f a)) : ∀ l : List α, Pls (l.map f)
  | [] => .nil
  | a :: r => .cons (hf a) (Pls.map hf r)
theorem pl_th : ∀ t, Pl (dTh t)
  | .beg => .tup (.cons (.str _) .nil)
  | .fin => .tup (.cons (.str _) .nil)
  | .sg _ => .tup (.cons (.str _) (.cons (.str _) .nil))
theorem pl_o : ∀ o, Pl (dO o)
  | none => .non
  | some _ => .int _
theorem pl_bd : ∀ b, Pl (dBd b)
  | .piece _ t => .tup (.cons (.str _) (.cons (.int _) (.cons (pl_th t) .nil)))
  | .got _ => .tup (.cons (.str _) (.cons (.int _) .nil))
  | .ask _ _ => .tup (.cons (.str _) (.cons (.str _) (.cons (.int _) .nil)))
  | .told _ o _ => .tup (.cons (.str _) (.cons (.str _) (.cons (pl_o o) (.cons (.int _) .nil))))
theorem pl_pc (p : Pc) : Pl (dPc p) := .tup (.cons (.int _) (.cons (.int _) (.cons (.int _) (.cons (pl_bd _) .nil))))
theorem pl_st (p : Nat × Pc) : Pl (dSt p) := .tup (.cons (.int _) (.cons (pl_pc _) .nil))
theorem pl_hd {s : String} {n h : Nat} {l : List PyData} (H : Pls l) : Pl (dHd s n h l) := .tup (.cons (.str _) (.cons (.int _) (.cons (.int _) H)))
theorem DataR.pl : ∀ {r : Rr} {d : PyData}, DataR r d → Pl d
  | .came .., _, h => by rw [h]; exact pl_hd (.cons (.int _) (.cons (.int _) (.cons (.tup (Pls.map pl_pc _)) .nil)))
  | .way .., _, h => by rw [h]; exact pl_hd (.cons (.int _) (.cons (pl_o _) (.cons (pl_o _) .nil)))
  | .here .., _, h => by rw [h]; exact pl_hd (.cons (pl_pc _) .nil)
  | .gone .., _, h => by rw [h]; exact pl_hd (.cons (pl_pc _) (.cons (.str _) .nil))
  | .read .., _, h => by rw [h]; exact pl_hd (.cons (.int _) (.cons (.tup (Pls.map pl_th _)) .nil))
  | .sent .., _, h => by rw [h]; exact pl_hd (.cons (.int _) (.cons (.tup (Pls.map pl_st _)) (.cons (.int _) .nil)))
  | .put .., _, h => by rw [h]; exact pl_hd (.cons (.str _) (.cons (.tup (.cons (.int _) (.cons (.str _) .nil))) (.cons (.str _) .nil)))
  | .wish .., _, ⟨x, h, _, X⟩ => by
    have px : Pl x := by
      rcases X with ⟨_, k, rfl, _⟩ | ⟨_, rfl⟩
      · exact .int _
      · exact .str _
    rw [h]
    exact pl_hd (.cons (.str _) (.cons px (.cons (.str _) .nil)))
/-- rows are alike just where they are the same -/
theorem DataR.eqv {a b : Rr} {d e : PyData} (h : DataR a d) (g : DataR b e) (hd : PyData.eqv d d = true) : PyData.eqv d e = true ↔ a = b := by
  constructor
  · intro z
    have := Pl.eq h.pl g.pl z
    subst this
    exact h.inj g
  · rintro rfl
    rw [← h.one g]
    exact hd
end K83
namespace K83
open PySem L2
/-! ### images -/
theorem RTh.im {H : Hp} {v : V} : ∀ {t : Th}, RTh H v t → t.Lo → Im H v (dTh t)
  | .beg, ⟨p, e, h⟩, _ => by rw [e]; exact .tup h (.cons (.str (ok_of _)) .nil) (by decide)
  | .fin, ⟨p, e, h⟩, _ => by rw [e]; exact .tup h (.cons (.str (ok_of _)) .nil) (by decide)
  | .sg s, ⟨p, e, h⟩, l => by rw [e]; exact .tup h (.cons (.str (ok_of _)) (.cons (.str (Lo.ok l)) .nil)) (by simp [thV])
theorem im_o {H : Hp} : ∀ o, Im H (onV o) (dO o)
  | none => .non
  | some _ => .int _
theorem RBd.im {H : Hp} {v : V} : ∀ {b : Bd}, RBd H v b → b.Lo → Im H v (dBd b)
  | .piece _ _, ⟨p, u, e, h, t⟩, l => by rw [e]; exact .tup h (.cons (.str (ok_of _)) (.cons (.int _) (.cons (t.im l) .nil))) (by simp)
  | .got _, ⟨p, e, h⟩, l => by rw [e]; exact .tup h (.cons (.str (ok_of _)) (.cons (.int _) .nil)) (by simp)
  | .ask _ _, ⟨p, e, h⟩, l => by rw [e]; exact .tup h (.cons (.str (ok_of _)) (.cons (.str (Lo.ok l)) (.cons (.int _) .nil))) (by simp)
  | .told _ _ _, ⟨p, e, h⟩, l => by rw [e]; exact .tup h (.cons (.str (ok_of _)) (.cons (.str (Lo.ok l)) (.cons (im_o _) (.cons (.int _) .nil)))) (by simp)
theorem RPc.im {H : Hp} {v : V} {p : Pc} (h : RPc H v p) (l : p.d.Lo) : Im H v (dPc p) := by
  obtain ⟨q, u, rfl, h, b⟩ := h
  exact .tup h (.cons (.int _) (.cons (.int _) (.cons (.int _) (.cons (b.im l) .nil)))) (by simp)
theorem RSt.im {H : Hp} {v : V} {p : Nat × Pc} (h : RSt H v p) (l : p.2.d.Lo) : Im H v (dSt p) := by
  obtain ⟨q, u, rfl, h, b⟩ := h
  exact .tup h (.cons (.int _) (.cons (b.im l) .nil)) (by simp)
theorem ims_of {α : Type} {H : Hp} {R : V → α → Prop} {f : α → PyData} : ∀ {us : List V} {l : List α}, Paired R us l → (∀ v a, a ∈ l → R v a → Im H v (f a)) → Ims H us (l.map f)
  | _, _, .nil, _ => .nil
  | _, _, .cons h t, hf => .cons (hf _ _ (.head _) h) (ims_of t fun v a m => hf v a (.tail _ m))
theorem dep_all {k : Nat} : ∀ {l : List PyData}, (∀ d ∈ l, d.depth ≤ k) → PyData.depthAll l ≤ k
  | [], _ => by simp [PyData.depthAll]
  | d :: r, h => by
    rw [PyData.depthAll]
    have h1 := h d (.head _)
    have h2 := dep_all fun z hz => h z (.tail _ hz)
    omega
theorem dep_tup {k : Nat} {l : List PyData} (h : ∀ d ∈ l, d.depth ≤ k) : (PyData.tuple l).depth ≤ k + 1 := by
  have := dep_all h
  rw [PyData.depth]
  omega
theorem dep_map {α : Type} {f : α → PyData} {k : Nat} (h : ∀ a, (f a).depth ≤ k) (l : List α) : (PyData.tuple (l.map f)).depth ≤ k + 1 := dep_tup fun d hd => by
  obtain ⟨a, _, rfl⟩ := List.mem_map.mp hd
  exact h a
theorem dep_th : ∀ t, (dTh t).depth ≤ 2
  | .beg => by simp [dTh, PyData.depth, PyData.depthAll]
  | .fin => by simp [dTh, PyData.depth, PyData.depthAll]
  | .sg _ => by simp [dTh, PyData.depth, PyData.depthAll]
theorem dep_o : ∀ o, (dO o).depth ≤ 1
  | none => by simp [dO, PyData.depth]
  | some _ => by simp [dO, PyData.depth]
theorem dep_bd (b : Bd) : (dBd b).depth ≤ 3 := by
  cases b with
  | piece n t => have := dep_th t; simp [dBd, PyData.depth, PyData.depthAll]; omega
  | got n => simp [dBd, PyData.depth, PyData.depthAll]
  | ask z n => simp [dBd, PyData.depth, PyData.depthAll]
  | told z o n => have := dep_o o; simp [dBd, PyData.depth, PyData.depthAll]; omega
theorem dep_pc (p : Pc) : (dPc p).depth ≤ 4 := by
  have := dep_bd p.d
  simp [dPc, PyData.depth, PyData.depthAll]; omega
theorem dep_st (p : Nat × Pc) : (dSt p).depth ≤ 5 := by
  have := dep_pc p.2
  simp [dSt, PyData.depth, PyData.depthAll]; omega
theorem dep_hd {s : String} {n h k : Nat} {l : List PyData} (H : ∀ d ∈ l, d.depth ≤ k + 1) : (dHd s n h l).depth ≤ k + 2 := by
  have := dep_all H
  unfold dHd
  simp only [PyData.depth, PyData.depthAll]
  omega
theorem DataR.dep : ∀ {r : Rr} {d : PyData}, DataR r d → d.depth ≤ 9
  | .came .., _, h => by
    rw [h]
    have := dep_map dep_pc
    refine dep_hd fun d hd => ?_
    simp only [List.mem_cons, List.not_mem_nil, or_false] at hd
    rcases hd with rfl | rfl | rfl
    · simp [PyData.depth]
    · simp [PyData.depth]
    · exact Nat.le_trans (this _) (by decide)
  | .way .., _, h => by
    rw [h]
    refine dep_hd fun d hd => ?_
    simp only [List.mem_cons, List.not_mem_nil, or_false] at hd
    rcases hd with rfl | rfl | rfl
    · simp [PyData.depth]
    · exact Nat.le_trans (dep_o _) (by decide)
    · exact Nat.le_trans (dep_o _) (by decide)
  | .here .., _, h => by
    rw [h]
    refine dep_hd fun d hd => ?_
    simp only [List.mem_cons, List.not_mem_nil, or_false] at hd
    rcases hd with rfl
    exact Nat.le_trans (dep_pc _) (by decide)
  | .gone .., _, h => by
    rw [h]
    refine dep_hd fun d hd => ?_
    simp only [List.mem_cons, List.not_mem_nil, or_false] at hd
    rcases hd with rfl | rfl
    · exact Nat.le_trans (dep_pc _) (by decide)
    · simp [PyData.depth]
  | .read .., _, h => by
    rw [h]
    have := dep_map dep_th
    refine dep_hd fun d hd => ?_
    simp only [List.mem_cons, List.not_mem_nil, or_false] at hd
    rcases hd with rfl | rfl
    · simp [PyData.depth]
    · exact Nat.le_trans (this _) (by decide)
  | .sent .., _, h => by
    rw [h]
    have := dep_map dep_st
    refine dep_hd fun d hd => ?_
    simp only [List.mem_cons, List.not_mem_nil, or_false] at hd
    rcases hd with rfl | rfl | rfl
    · simp [PyData.depth]
    · exact Nat.le_trans (this _) (by decide)
    · simp [PyData.depth]
  | .put .., _, h => by
    rw [h]
    refine dep_hd fun d hd => ?_
    simp only [List.mem_cons, List.not_mem_nil, or_false] at hd
    rcases hd with rfl | rfl | rfl <;> simp [PyData.depth, PyData.depthAll]
  | .wish .., _, ⟨x, h, _, X⟩ => by
    rw [h]
    have px : x.depth ≤ 2 := by
      rcases X with ⟨_, k, rfl, _⟩ | ⟨_, rfl⟩
      · simp [PyData.depth]
      · simp [PyData.depth]
    refine dep_hd fun d hd => ?_
    simp only [List.mem_cons, List.not_mem_nil, or_false] at hd
    rcases hd with rfl | rfl | rfl
    · simp [PyData.depth]
    · omega
    · simp [PyData.depth]
/-- a row as the law draws it -/
def GoodR (H : Hp) (v : V) (r : Rr) : Prop := RRr H v r ∧ (∃ d, Im H v d ∧ DataR r d) ∧ r.Ok ∧ r.Sm
theorem GoodR.keep {A : List Addr} {H H' : Hp} {v : V} {r : Rr} (h : GoodR H v r) (k : Keep A H H') (hs : ∀ b ∈ A, NoT H b) : GoodR H' v r := by
  obtain ⟨h1, ⟨d, h2, h3⟩, h4⟩ := h
  exact ⟨h1.keep k hs, ⟨d, h2.keep k hs, h3⟩, h4⟩
theorem GoodR.same {H H' : Hp} {v : V} {r : Rr} (h : GoodR H v r) (s : Same H H') : GoodR H' v r := h.keep (A := []) s.keep (fun _ z => nomatch z)
/-! ### the draws -/
theorem join_fits0 {zs : List Str} (l : List (List Nat)) (e : zs = l.map S) (h : (l.map fun p => p.length).sum ≤ 100000) : jLen (Str.ofString "") zs ≤ sizeLine ∧ (joinT (Str.ofString "") zs).length ≤ sizeLine ∧ joinT (Str.ofString "") zs = S l.flatten := by
  have := join_ok0 (Q := fun v _ => v = .str (S l.flatten)) (H := fun _ => none) l e h rfl
  exact ⟨this.1, this.2.1, V.str.inj this.2.2⟩
def Dr (H : Hp) (pd : Addr) : Prop := ∃ a b : Int, H pd = some (.lst [.int a, .int b])
section
variable {P : Program} {w : World} {K : PySem.W.Frag} {mg : Str → Option Value} {base : Heap} {H H' : Hp} {pd : Addr}
theorem Dr.noT (d : Dr H pd) : ∀ b ∈ [pd], NoT H b := fun b hb => by
  obtain ⟨_, _, e⟩ := d
  rw [List.mem_singleton] at hb
  subst hb
  exact .of_lst e
theorem Dr.same (d : Dr H pd) (s : Same H H') : Dr H' pd := by
  obtain ⟨a, b, e⟩ := d
  exact ⟨a, b, s _ _ e⟩
theorem Dr.ne (d : Dr H pd) {p : Addr} (n : H p = none) : p ≠ pd := fun z => by
  obtain ⟨a, b, e⟩ := d
  rw [z, e] at n
  cases n
abbrev s__law_draw : Stmt := top 12
theorem sc__law_draw : FnScope ["_law_cell"] ["_law_cell"] (defScope s__law_draw) := ⟨rfl, rfl, rfl, by decide +kernel, rfl, by decide +kernel, by decide +kernel⟩
abbrev s__law_next : Stmt := top 13
theorem sc__law_next : FnScope ["_law_draw_here", "_law_size", "_law_digit", "_law_number_here"] ["_law_draw_here", "_law_size"] (defScope s__law_next) := ⟨rfl, rfl, rfl, by decide +kernel, rfl, by decide +kernel, by decide +kernel⟩
def sp_draw : Sp := fun vs H Q _ => ∃ c : Int, vs = [.int c] ∧ ∀ (p : Addr) (a b : Int) H', H p = none → H' p = some (.lst [.int a, .int b]) → Same H H' → Q (.ref p) H'
theorem own_draw (D : Def K mg "_law_draw" s__law_draw) : Own P w K mg base 1 "_law_draw" ["_law_cell"] sp_draw := by
  refine D.own sc__law_draw (fun _ _ _ _ _ _ us hl => match us, hl with | [_], _ => rfl) (fun vs H Q E h => ?_) (fun f cdv A outer s H vs Q E hr h => ?_)
  · obtain ⟨c, rfl, _⟩ := h
    rfl
  · obtain ⟨c, rfl, q⟩ := h
    refine ⟨_, (@pss_one _ _ _ (@ps_ret _ _ _ _ (@pe_lst _ _ _ _ (@pa_cX _ _ _ _ _ (@pe_op _ _ _ _ _ _ _ _ op_mul (@pe_op _ _ _ _ _ _ _ _ op_fdiv (@pv _ 0 _ _ (by rfl) (by first | exact Or.inl rfl | exact Or.inr (Or.inl rfl) | exact Or.inr (Or.inr rfl)) (by decide) (by decide)) (@pe_int _ _ _ _)) (@pe_op _ _ _ _ _ _ _ _ op_sub (@pe_int _ _ _ _) (@pe_op _ _ _ _ _ _ _ _ op_mod (@pv _ 0 _ _ (by rfl) (by first | exact Or.inl rfl | exact Or.inr (Or.inl rfl) | exact Or.inr (Or.inr rfl)) (by decide) (by decide)) (@pe_int _ _ _ _)))) (@pa_cX _ _ _ _ _ (@pv _ 0 _ _ (by rfl) (by first | exact Or.inl rfl | exact Or.inr (Or.inl rfl) | exact Or.inr (Or.inr rfl)) (by decide) (by decide)) (@pa_nil _) (by rfl)) (by rfl))))), ?_⟩
    simp (maxSteps := 1000000) only [Nat.reduceSub, Int.reduceLT, Nat.reduceAdd, exists_and_left, tOp, tVar, tC, rI, rI0, tRet, tCons, tNil, tLst, L2.start, List.map_cons, List.map_nil, List.length_cons, List.length_nil, List.replicate, List.getElem?_cons_zero, Option.some.injEq, exists_eq_left', V.int.injEq, true_and, List.append_nil]
    refine ⟨⟨by decide, by decide⟩, .inr ⟨by omega, by omega⟩, by decide, fun p hp => q p _ _ _ hp upd_same (Same.upd_new hp)⟩
def sp_next : Sp := fun vs H Q _ => ∃ (p : Addr) (a b n : Int), vs = [.ref p, .int n] ∧ H p = some (.lst [.int a, .int b]) ∧ 1 ≤ n ∧ n < 2 ^ 200 ∧ ∀ (r a' b' : Int), 0 ≤ r → r < n → Q (.int r) (upd H p (.lst [.int a', .int b']))
theorem own_next (D : Def K mg "_law_next" s__law_next) : Own P w K mg base 1 "_law_next" ["_law_draw_here", "_law_size"] sp_next := by
  refine D.own sc__law_next (fun _ _ _ _ _ _ us hl => match us, hl with | [_, _], _ => rfl) (fun vs H Q E h => ?_) (fun f cdv A outer s H vs Q E hr h => ?_)
  · obtain ⟨p, a, b, n, rfl, _⟩ := h
    rfl
  · obtain ⟨p, a, b, n, rfl, ep, h1, h2, q⟩ := h
    have hu := hr.units
    have hu1 : (A.deeper (PyProof.Rows.envOfC "_law_next" (defScope s__law_next) s.heap.objs.size f cdv)).units + 1 < cLine := by omega
    refine ⟨_, (@pss_cons _ _ _ _ _ (@ps_asg _ _ _ _ _ _ (@pe_op _ _ _ _ _ _ _ _ op_mod (@pe_op _ _ _ _ _ _ _ _ op_add (@pe_op _ _ _ _ _ _ _ _ op_mul (@pe_ix _ _ _ _ _ _ _ (ix_get hu1) (@pv _ 0 _ _ (by rfl) (by first | exact Or.inl rfl | exact Or.inr (Or.inl rfl) | exact Or.inr (Or.inr rfl)) (by decide) (by decide)) (@pe_int _ _ _ _) (fun _ _ => rfl)) (@pe_int _ _ _ _)) (@pe_int _ _ _ _)) (@pe_int _ _ _ _)) (@pg_sub _ _ _ _ _ _ _ (@pv _ 0 _ _ (by rfl) (by first | exact Or.inl rfl | exact Or.inr (Or.inl rfl) | exact Or.inr (Or.inr rfl)) (by decide) (by decide)) (@pe_int _ _ _ _) (@set_x _ hu1) (by intro _; rfl)) (by rfl) (by rfl) (by rfl)) (@pss_cons _ _ _ _ _ (@ps_if _ _ _ _ _ _ _ _ (@pt_cmpR _ _ _ _ _ _ _ _ op_gt (@pe_ix _ _ _ _ _ _ _ (ix_get hu1) (@pv _ 0 _ _ (by rfl) (by first | exact Or.inl rfl | exact Or.inr (Or.inl rfl) | exact Or.inr (Or.inr rfl)) (by decide) (by decide)) (@pe_int _ _ _ _) (fun _ _ => rfl)) (@pe_int _ _ _ _) (nomark _)) (@pss_cons _ _ _ _ _ (@ps_set _ _ 2 _ _ _ _ sc__law_next.nd rfl (by first | exact Or.inl rfl | exact Or.inr rfl) (@pe_op _ _ _ _ _ _ _ _ op_mod (@pe_ix _ _ _ _ _ _ _ (ix_get hu1) (@pv _ 0 _ _ (by rfl) (by first | exact Or.inl rfl | exact Or.inr (Or.inl rfl) | exact Or.inr (Or.inr rfl)) (by decide) (by decide)) (@pe_int _ _ _ _) (fun _ _ => rfl)) (@pv _ 1 _ _ (by rfl) (by first | exact Or.inl rfl | exact Or.inr (Or.inl rfl) | exact Or.inr (Or.inr rfl)) (by decide) (by decide))) (by rfl) (by first | exact .inl rfl | exact .inr rfl | assumption)) (@pss_cons _ _ _ _ _ (@ps_asg _ _ _ _ _ _ (@pe_op _ _ _ _ _ _ _ _ op_fdivW (@pe_ix _ _ _ _ _ _ _ (ix_get hu1) (@pv _ 0 _ _ (by rfl) (by first | exact Or.inl rfl | exact Or.inr (Or.inl rfl) | exact Or.inr (Or.inr rfl)) (by decide) (by decide)) (@pe_int _ _ _ _) (fun _ _ => rfl)) (@pv _ 1 _ _ (by rfl) (by first | exact Or.inl rfl | exact Or.inr (Or.inl rfl) | exact Or.inr (Or.inr rfl)) (by decide) (by decide))) (@pg_sub _ _ _ _ _ _ _ (@pv _ 0 _ _ (by rfl) (by first | exact Or.inl rfl | exact Or.inr (Or.inl rfl) | exact Or.inr (Or.inr rfl)) (by decide) (by decide)) (@pe_int _ _ _ _) (@set_x _ hu1) (by intro _; rfl)) (by rfl) (by rfl) (by rfl)) (@pss_one _ _ _ (@ps_ret _ _ _ _ (@pv _ 2 _ _ (by rfl) (by first | exact Or.inl rfl | exact Or.inr (Or.inl rfl) | exact Or.inr (Or.inr rfl)) (by decide) (by decide)))))) (@pss_nil _)) (@pss_cons _ _ _ _ _ (@ps_set _ _ 3 _ _ _ _ sc__law_next.nd rfl (by first | exact Or.inl rfl | exact Or.inr rfl) (@pe_op _ _ _ _ _ _ _ _ op_mod (@pe_op _ _ _ _ _ _ _ _ op_mul (@pe_ix _ _ _ _ _ _ _ (ix_get hu1) (@pv _ 0 _ _ (by rfl) (by first | exact Or.inl rfl | exact Or.inr (Or.inl rfl) | exact Or.inr (Or.inr rfl)) (by decide) (by decide)) (@pe_int _ _ _ _) (fun _ _ => rfl)) (@pe_op _ _ _ _ _ _ _ _ op_add (@pe_op _ _ _ _ _ _ _ _ op_fdiv (@pe_ix _ _ _ _ _ _ _ (ix_get hu1) (@pv _ 0 _ _ (by rfl) (by first | exact Or.inl rfl | exact Or.inr (Or.inl rfl) | exact Or.inr (Or.inr rfl)) (by decide) (by decide)) (@pe_int _ _ _ _) (fun _ _ => rfl)) (@pe_int _ _ _ _)) (@pe_int _ _ _ _))) (@pe_int _ _ _ _)) (by rfl) (by first | exact .inl rfl | exact .inr rfl | assumption)) (@pss_one _ _ _ (@ps_ret _ _ _ _ (@pe_op _ _ _ _ _ _ _ _ op_mod (@pe_op _ _ _ _ _ _ _ _ op_mod (@pe_op _ _ _ _ _ _ _ _ op_mul (@pv _ 3 _ _ (by rfl) (by first | exact Or.inl rfl | exact Or.inr (Or.inl rfl) | exact Or.inr (Or.inr rfl)) (by decide) (by decide)) (@pe_op _ _ _ _ _ _ _ _ op_add (@pe_op _ _ _ _ _ _ _ _ op_fdiv (@pv _ 3 _ _ (by rfl) (by first | exact Or.inl rfl | exact Or.inr (Or.inl rfl) | exact Or.inr (Or.inr rfl)) (by decide) (by decide)) (@pe_int _ _ _ _)) (@pe_int _ _ _ _))) (@pe_int _ _ _ _)) (@pv _ 1 _ _ (by rfl) (by first | exact Or.inl rfl | exact Or.inr (Or.inl rfl) | exact Or.inr (Or.inr rfl)) (by decide) (by decide)))))))), ?_⟩
    simp (maxSteps := 1000000) only [ixN_20, ixN_21, rGet, getO_l, rSetX, setO_l, gSub, atI_0, atI_1, Nat.reduceSub, upd_same, upd_upd, Option.map_some, Int.reduceLT, Nat.reduceAdd, tSeq, exists_and_left, tIfS, tTest, tOp, tVar, tC, rI, rI0, tRet, tAsg, gName, tNext, L2.start, List.map_cons, List.map_nil, List.length_cons, List.length_nil, List.replicate, List.cons_append, List.nil_append, List.getElem?_cons_zero, List.getElem?_cons_succ, List.set_cons_zero, List.set_cons_succ, Option.some.injEq, exists_eq_left', V.int.injEq, V.bl.injEq, V.ref.injEq, true_and, ep]
    have hb1 : 0 ≤ (b * 48271 + 11) % 2147483647 ∧ (b * 48271 + 11) % 2147483647 < 2147483647 := ⟨Int.emod_nonneg _ (by decide), Int.emod_lt_of_pos _ (by decide)⟩
    generalize (b * 48271 + 11) % 2147483647 = b1 at hb1 ⊢
    refine ⟨.inr ⟨by decide, by decide⟩, ?_⟩
    refine ite2 (fun ha => ⟨by omega, cdivw_of (by omega) h2, q (a % n) (a / n) b1 (Int.emod_nonneg _ (by omega)) (Int.emod_lt_of_pos _ (by omega))⟩) (fun ha => ⟨⟨by decide, by decide⟩, .inl ⟨by omega, by omega⟩, ⟨by decide, by decide⟩, cmul_mod (by decide) (by decide), by omega, q _ a b1 (Int.emod_nonneg _ (by omega)) (Int.emod_lt_of_pos _ (by omega))⟩)
theorem next_ok {n : Int} {Q : VK} {E : XK} (d : Dr H pd) (h1 : 1 ≤ n) (h2 : n < 2 ^ 200) (q : ∀ (r : Nat) (H' : Hp), (r : Int) < n → Dr H' pd → Keep [pd] H H' → Q (.int (r : Int)) H') : sp_next [.ref pd, .int n] H Q E := by
  obtain ⟨a, b, e⟩ := d
  refine ⟨pd, a, b, n, rfl, e, h1, h2, fun r a' b' h0 hn => ?_⟩
  have := q r.toNat (upd H pd (.lst [.int a', .int b'])) (by omega) ⟨a', b', upd_same⟩ (Keep.refl.upd (.inl (.head _)))
  rw [Int.toNat_of_nonneg h0] at this
  exact this
/-- what a def draws from a draw -/
def Drw (R : Hp → V → Prop) : Sp := fun vs H Q _ => ∃ pd, vs = [.ref pd] ∧ Dr H pd ∧ ∀ v H', R H' v → Dr H' pd → Keep [pd] H H' → Q v H'
abbrev s__law_number : Stmt := top 14
theorem sc__law_number : FnScope ["_law_draw_here"] ["_law_draw_here"] (defScope s__law_number) := ⟨rfl, rfl, rfl, by decide +kernel, rfl, by decide +kernel, by decide +kernel⟩
abbrev s__law_thing : Stmt := top 15
theorem sc__law_thing : FnScope ["_law_draw_here", "_law_way", "_law_signs"] ["_law_draw_here"] (defScope s__law_thing) := ⟨rfl, rfl, rfl, by decide +kernel, rfl, by decide +kernel, by decide +kernel⟩
theorem cs__law_thing_0 : CScope ["_law_k"] ["_law_draw_here"] { kind := .function, names := [(".0", .local), ("_law_k", .local), ("_law_next", .globalImplicit), ("_law_draw_here", .free)], isGenerator := false, isCoroutine := false, more := [] } (defScope s__law_thing) := ⟨rfl, by decide +kernel, by decide +kernel, by decide +kernel, by decide +kernel, by decide +kernel⟩
def isNum (_ : Hp) (v : V) : Prop := ∃ n : Nat, v = .int (n : Int) ∧ n ≤ 10 ^ 12
theorem own_lnum (D : Def K mg "_law_number" s__law_number) (F__law_next : Own P w K mg base 1 "_law_next" ["_law_draw_here", "_law_size"] sp_next) : Own P w K mg base 2 "_law_number" ["_law_draw_here"] (Drw isNum) := by
  refine D.own sc__law_number (fun _ _ _ _ _ _ us hl => match us, hl with | [_], _ => rfl) (fun vs H Q E h => ?_) (fun f cdv A outer s H vs Q E hr h => ?_)
  · obtain ⟨pd, rfl, _⟩ := h
    rfl
  · obtain ⟨pd, rfl, d, q⟩ := h
    have hu := hr.units
    have hu1 : (A.deeper (PyProof.Rows.envOfC "_law_number" (defScope s__law_number) s.heap.objs.size f cdv)).units + 1 < cLine := by omega
    refine ⟨_, (@pss_one _ _ _ (@ps_ret _ _ _ _ (@pe_fn _ _ _ _ _ _ _ _ _ _ _ F__law_next hr (@pa_cX _ _ _ _ _ (@pv _ 0 _ _ (by rfl) (by first | exact Or.inl rfl | exact Or.inr (Or.inl rfl) | exact Or.inr (Or.inr rfl)) (by decide) (by decide)) (@pa_cX _ _ _ _ _ (@pe_ix _ _ _ _ _ _ _ (ix_get hu1) (@pe_lst _ _ _ _ (@pa_cX _ _ _ _ _ (@pe_int _ _ _ _) (@pa_cX _ _ _ _ _ (@pe_int _ _ _ _) (@pa_cX _ _ _ _ _ (@pe_op _ _ _ _ _ _ _ _ op_pow (@pe_int _ _ _ _) (@pe_int _ _ _ _)) (@pa_nil _) (by rfl)) (by rfl)) (by rfl))) (@pe_fn _ _ _ _ _ _ _ _ _ _ _ F__law_next hr (@pa_cX _ _ _ _ _ (@pv _ 0 _ _ (by rfl) (by first | exact Or.inl rfl | exact Or.inr (Or.inl rfl) | exact Or.inr (Or.inr rfl)) (by decide) (by decide)) (@pa_cX _ _ _ _ _ (@pe_int _ _ _ _) (@pa_nil _) (by rfl)) (by rfl)) (by decide) (by rfl) (by decide) (by rfl) (by rfl)) (fun _ _ => rfl)) (@pa_nil _) (by rfl)) (by rfl)) (by decide) (by rfl) (by decide) (by rfl) (by rfl)))), ?_⟩
    simp (maxSteps := 1000000) only [rGet, Nat.reduceSub, Nat.reduceAdd, exists_and_left, tOp, tVar, tC, rI, tRet, tCall, tCons, tNil, tLst, L2.start, List.map_cons, List.map_nil, List.length_cons, List.length_nil, List.replicate, List.getElem?_cons_zero, Option.some.injEq, exists_eq_left', V.int.injEq, V.ref.injEq, List.append_nil]
    refine ⟨by unfold CPow; decide, by rw [sizeLine_eq]; decide, ?_⟩
    intro p1 n1
    generalize z1 : upd H p1 _ = H1
    obtain ⟨s1, e1⟩ := new_same z1 n1
    refine next_ok (d.same s1) (by decide) (by decide) fun r H2 hr2 d2 k2 => ?_
    have e12 := k2 _ _ e1 (by simp [d.ne n1])
    have fin : ∀ n : Int, 1 ≤ n → n ≤ 10 ^ 12 → sp_next [V.ref pd, V.int n] H2 Q E0 := fun n h1 h2 => next_ok d2 h1 (Int.lt_of_le_of_lt h2 (by decide)) fun x H3 hx d3 k3 => q _ _ ⟨x, rfl, by omega⟩ d3 ((s1.keep.trans k2).trans k3)
    refine ⟨_, e12, ?_⟩
    match r, hr2 with
    | 0, _ => exact ⟨_, rfl, fin _ (by decide) (by decide)⟩
    | 1, _ => exact ⟨_, rfl, fin _ (by decide) (by decide)⟩
    | 2, _ => exact ⟨_, rfl, fin _ (by decide) (by decide)⟩
    | k + 3, h => exact absurd h (by omega)
/-- a comprehension over a range, each place drawn -/
theorem comp_draw {α : Type} {js : List Nat} {te : TE} {σ : St} {Q : VK} {H1 : Hp} {lo : Int} {m : Nat} (R : Hp → V → α → Prop) (hk : ∀ A H H' v a, R H v a → Keep A H H' → (∀ b ∈ A, NoT H b) → R H' v a) (hz : m ≤ 100) (d1 : Dr H1 pd)
    (hs : ∀ (i : Nat) (H : Hp) (Q' : VK), Dr H pd → (∀ v a H', R H' v a → Dr H' pd → Keep [pd] H H' → Q' v H') → te ((cSt 1 js σ).set 0 (some (.int (lo + i)))) H Q')
    (hd : ∀ D H' vs (xs : List α), H1 D = none → H' D = some (.lst vs) → Paired (R H') vs xs → xs.length = m → Dr H' pd → Keep [pd] H1 H' → Q (.ref D) H') : CompW 1 js (gName 0) tYes te σ Q (Itr lo m) H1 := by
  refine comp_range (by rw [sizeLine_eq]; omega) (fun D i acc H => ∃ xs : List α, Paired (R H) acc xs ∧ xs.length = i ∧ H D = some (.lst acc) ∧ Dr H pd ∧ Keep [pd] H1 H) (fun D hD => ⟨[], .nil, rfl, upd_same, d1.same (.upd_new hD), Keep.refl.upd (.inr hD)⟩) ?_ ?_ ?_
  · rintro D i acc H hD hi ⟨xs, P, hl, eD, d, k⟩
    exact ⟨eD, by rw [P.length]; omega⟩
  · rintro D i acc H hD hi ⟨xs, P, hl, eD, d, k⟩
    refine ⟨by simp [cSt], ?_⟩
    change te _ H _
    refine hs i H _ d fun v a H2 r d2 k2 => ?_
    have nD : D ≠ pd := d1.ne hD
    have eD2 := k2 _ _ eD (by simp [nD])
    refine ⟨eD2, xs ++ [a], ?_, by rw [List.length_append, hl]; rfl, upd_same, ?_, (k.trans k2).upd (.inr hD)⟩
    · have ku : Keep [D] H2 (upd H2 D (.lst (acc ++ [v]))) := Keep.refl.upd (.inl (.head _))
      have nt : ∀ b ∈ [D], NoT H2 b := fun b hb => by
        rw [List.mem_singleton] at hb
        subst hb
        exact .of_lst eD2
      exact paired_append (paired_imp (fun _ _ z => hk _ _ _ _ _ (hk _ _ _ _ _ z k2 d.noT) ku nt) P) (.cons (hk _ _ _ _ _ r ku nt) .nil)
    · obtain ⟨x, y, e⟩ := d2
      exact ⟨x, y, by rw [upd_ne (Ne.symm nD)]; exact e⟩
  · rintro D acc H hD ⟨xs, P, hl, eD, d, k⟩
    exact hd D H acc xs hD eD P hl d k
/-- signs drawn out of a text -/
theorem paired_str {Z : Nat → Prop} : ∀ {vs : List V} {xs : List Nat}, Paired (fun v c => v = V.str (S [c]) ∧ Z c) vs xs → vs = ((xs.map fun c => [c]).map S).map V.str ∧ ∀ c ∈ xs, Z c
  | _, _, .nil => ⟨rfl, fun _ z => nomatch z⟩
  | _, _, .cons h t => by
    obtain ⟨e, hz⟩ := paired_str t
    refine ⟨by rw [h.1, e]; rfl, fun c hc => ?_⟩
    rcases List.mem_cons.mp hc with rfl | hc
    · exact h.2
    · exact hz c hc
theorem flat_one : ∀ xs : List Nat, (xs.map fun c => [c]).flatten = xs
  | [] => rfl
  | c :: r => by rw [List.map_cons, List.flatten_cons, flat_one r]; rfl
theorem sum_one : ∀ xs : List Nat, ((xs.map fun c => [c]).map fun p => p.length).sum = xs.length
  | [] => rfl
  | c :: r => by rw [List.map_cons, List.map_cons, List.sum_cons, sum_one r, List.length_cons]; exact Nat.add_comm 1 _
def isTh (H : Hp) (v : V) : Prop := ∃ t, RTh H v t ∧ t.Ok ∧ t.Lo
theorem own_lthing (D : Def K mg "_law_thing" s__law_thing) (hb : Blt mg) (F__law_next : Own P w K mg base 1 "_law_next" ["_law_draw_here", "_law_size"] sp_next) : Own P w K mg base 2 "_law_thing" ["_law_draw_here"] (Drw isTh) := by
  refine D.own sc__law_thing (fun _ _ _ _ _ _ us hl => match us, hl with | [_], _ => rfl) (fun vs H Q E h => ?_) (fun f cdv A outer s H vs Q E hr h => ?_)
  · obtain ⟨pd, rfl, _⟩ := h
    rfl
  · obtain ⟨pd, rfl, d, q⟩ := h
    have hu := hr.units
    have hu1 : (A.deeper (PyProof.Rows.envOfC "_law_thing" (defScope s__law_thing) s.heap.objs.size f cdv)).units + 1 < cLine := by omega
    refine ⟨_, (@pss_cons _ _ _ _ _ (@ps_set _ _ 1 _ _ _ _ sc__law_thing.nd rfl (by first | exact Or.inl rfl | exact Or.inr rfl) (@pe_fn _ _ _ _ _ _ _ _ _ _ _ F__law_next hr (@pa_cX _ _ _ _ _ (@pv _ 0 _ _ (by rfl) (by first | exact Or.inl rfl | exact Or.inr (Or.inl rfl) | exact Or.inr (Or.inr rfl)) (by decide) (by decide)) (@pa_cX _ _ _ _ _ (@pe_int _ _ _ _) (@pa_nil _) (by rfl)) (by rfl)) (by decide) (by rfl) (by decide) (by rfl) (by rfl)) (by rfl) (by first | exact .inl rfl | exact .inr rfl | assumption)) (@pss_cons _ _ _ _ _ (@ps_if _ _ _ _ _ _ _ _ (@pt_cmpR _ _ _ _ _ _ _ _ op_lt (@pv _ 1 _ _ (by rfl) (by first | exact Or.inl rfl | exact Or.inr (Or.inl rfl) | exact Or.inr (Or.inr rfl)) (by decide) (by decide)) (@pe_int _ _ _ _) (nomark _)) (@pss_one _ _ _ (@ps_ret _ _ _ _ (@pe_ix _ _ _ _ _ _ _ (ix_get hu1) (@pe_lst _ _ _ _ (@pa_cX _ _ _ _ _ (@pe_tup _ _ _ _ _ (@pa_cX _ _ _ _ _ (@pe_str _ _ _ _) (@pa_nil _) (by rfl))) (@pa_cX _ _ _ _ _ (@pe_tup _ _ _ _ _ (@pa_cX _ _ _ _ _ (@pe_str _ _ _ _) (@pa_nil _) (by rfl))) (@pa_nil _) (by rfl)) (by rfl))) (@pv _ 1 _ _ (by rfl) (by first | exact Or.inl rfl | exact Or.inr (Or.inl rfl) | exact Or.inr (Or.inr rfl)) (by decide) (by decide)) (fun _ _ => rfl)))) (@pss_nil _)) (@pss_cons _ _ _ _ _ (@ps_setC _ _ _ _ _ _ _ _ _ _ _ 2 _ _ _ ["_law_k"] ["_law_draw_here"] [0] rfl sc__law_thing.nd rfl (by first | exact Or.inl rfl | exact Or.inr rfl) _ cs__law_thing_0 (@pi_range1 _ _ _ _ _ _ rfl (hb _ (by decide)) (@pa_cX _ _ _ _ _ (@pe_op _ _ _ _ _ _ _ _ op_add (@pe_int _ _ _ _) (@pe_fn _ _ _ _ _ _ _ _ _ _ _ F__law_next hr (@pa_cX _ _ _ _ _ (@pv _ 0 _ _ (by rfl) (by first | exact Or.inl rfl | exact Or.inr (Or.inl rfl) | exact Or.inr (Or.inr rfl)) (by decide) (by decide)) (@pa_cX _ _ _ _ _ (@pe_int _ _ _ _) (@pa_nil _) (by rfl)) (by rfl)) (by decide) (by rfl) (by decide) (by rfl) (by rfl))) (@pa_nil _) (by rfl)) (by rfl)) (fun _ _ _ _ => (@pg_name _ _ 0 _ cs__law_thing_0.nd rfl (by first | exact Or.inl rfl | exact Or.inr rfl) (by first | exact .inl rfl | exact .inr rfl | assumption))) (fun _ _ _ _ => (@pf_nil _)) (fun _ _ _ _ => (@pe_item_str _ _ _ _ _ _ (@pe_str _ _ _ _) (@pe_fn _ _ _ _ _ _ _ _ _ _ _ F__law_next hr (@pa_cX _ _ _ _ _ (@pv _ 1 _ _ (by rfl) (by first | exact Or.inl rfl | exact Or.inr (Or.inl rfl) | exact Or.inr (Or.inr rfl)) (by decide) (by decide)) (@pa_cX _ _ _ _ _ (@pe_int _ _ _ _) (@pa_nil _) (by rfl)) (by rfl)) (by decide) (by rfl) (by decide) (by rfl) (by rfl)) (fun _ _ => rfl))) rfl (by rfl) (by rfl) (by rfl) (by first | exact .inl rfl | exact .inr rfl | assumption) (by intro _; rfl)) (@pss_one _ _ _ (@ps_ret _ _ _ _ (@pe_tup _ _ _ _ _ (@pa_cX _ _ _ _ _ (@pe_str _ _ _ _) (@pa_cX _ _ _ _ _ (@pe_join _ _ _ _ _ _ _ (@pe_str _ _ _ _) (@pv _ 2 _ _ (by rfl) (by first | exact Or.inl rfl | exact Or.inr (Or.inl rfl) | exact Or.inr (Or.inr rfl)) (by decide) (by decide)) (by constructor <;> rfl)) (@pa_nil _) (by rfl)) (by rfl)))))))), ?_⟩
    simp (maxSteps := 1000000) only [tComp_eq, rGet, Nat.reduceSub, upd_same, Nat.reduceAdd, iRng1, List.cons.injEq, tSeq, exists_and_left, tIfS, tTest, tOp, tVar, tC, rI0, tRet, tAsg, gName, tNext, tCall, tCons, tNil, tLst, tTup, L2.start, List.map_cons, List.map_nil, List.length_cons, List.length_nil, List.replicate, List.cons_append, List.nil_append, List.getElem?_cons_zero, List.getElem?_cons_succ, List.set_cons_zero, List.set_cons_succ, Option.some.injEq, exists_eq_left', V.int.injEq, V.bl.injEq, V.ref.injEq, V.str.injEq, and_true, List.append_nil, tJoin]
    refine next_ok d (by decide) (by decide) fun r H1 hr1 d1 k1 => ⟨(r : Int), rfl, ?_⟩
    refine ite2 (fun hlt => ?_) (fun hge => ?_)
    · refine ⟨by rw [sizeLine_eq]; decide, ?_⟩
      intro p2 n2
      generalize z2 : upd H1 p2 _ = H2
      obtain ⟨s2, e2⟩ := new_same z2 n2
      refine ⟨by rw [sizeLine_eq]; decide, ?_⟩
      intro p3 n3
      generalize z3 : upd H2 p3 _ = H3
      obtain ⟨s3, e3⟩ := new_same z3 n3
      refine ⟨by rw [sizeLine_eq]; decide, ?_⟩
      intro p4 n4
      generalize z4 : upd H3 p4 _ = H4
      obtain ⟨s4, e4⟩ := new_same z4 n4
      have k4 : Keep [pd] H H4 := ((k1.same s2).same s3).same s4
      have d4 := ((d1.same s2).same s3).same s4
      match r, hlt with
      | 0, _ => exact ⟨_, rfl, q _ _ ⟨.beg, ⟨p2, rfl, s4 _ _ (s3 _ _ e2)⟩, trivial, trivial⟩ d4 k4⟩
      | 1, _ => exact ⟨_, rfl, q _ _ ⟨.fin, ⟨p3, rfl, s4 _ _ e3⟩, trivial, trivial⟩ d4 k4⟩
      | k + 2, h => exact absurd h (by simp; omega)
    · refine next_ok d1 (by decide) (by decide) fun n H2 hn d2 k2 => ⟨(n : Int), rfl, by omega, by omega, ?_⟩
      refine comp_draw (pd := pd) (fun _ v c => v = V.str (S [c]) ∧ c < 1114112) (fun _ _ _ _ _ h _ _ => h) (by omega) d2 (fun i H3 Q' d3 hq => ?_) (fun D H3 vs xs nD eD P hl d3 k3 => ?_)
      · simp (maxSteps := 1000000) only [cSt, tOp, tVar, tC, tCall, tCons, tNil, List.map_cons, List.map_nil, List.replicate, List.cons_append, List.nil_append, List.getElem?_cons_zero, List.getElem?_cons_succ, List.set_cons_zero, Option.some.injEq, exists_eq_left', V.str.injEq, List.append_nil, Option.join_some]
        refine next_ok d3 (by decide) (by decide) fun x H4 hx d4 k4 => ?_
        have hx' : x < 6 := by omega
        have hlen : (Str.ofString "ab; 1-").length = 6 := by decide
        refine ⟨(x : Int), rfl, by omega, by omega, by rw [hlen]; omega, ?_⟩
        rw [Int.toNat_natCast]
        match x, hx' with
        | 0, _ => exact ⟨97, by decide, hq _ 97 _ ⟨rfl, by decide⟩ d4 k4⟩
        | 1, _ => exact ⟨98, by decide, hq _ 98 _ ⟨rfl, by decide⟩ d4 k4⟩
        | 2, _ => exact ⟨59, by decide, hq _ 59 _ ⟨rfl, by decide⟩ d4 k4⟩
        | 3, _ => exact ⟨32, by decide, hq _ 32 _ ⟨rfl, by decide⟩ d4 k4⟩
        | 4, _ => exact ⟨49, by decide, hq _ 49 _ ⟨rfl, by decide⟩ d4 k4⟩
        | 5, _ => exact ⟨45, by decide, hq _ 45 _ ⟨rfl, by decide⟩ d4 k4⟩
      · obtain ⟨e, hz⟩ := paired_str P
        have hl2 : xs.length = 1 + n := by omega
        obtain ⟨j1, j2, j3⟩ := join_fits0 (xs.map fun c => [c]) rfl (by rw [sum_one]; omega)
        refine ⟨D, rfl, (xs.map fun c => [c]).map S, by rw [eD, e], j1, j2, by rw [sizeLine_eq]; decide, ?_⟩
        rw [j3, flat_one]
        intro p4 n4
        generalize z4 : upd H3 p4 _ = H4
        obtain ⟨s4, e4⟩ := new_same z4 n4
        exact q _ _ ⟨.sg xs, ⟨p4, rfl, e4⟩, ⟨fun z => by rw [z] at hl2; simp at hl2; omega, by omega⟩, hz⟩ (d3.same s4) (((k1.trans k2).trans k3).same s4)
end
end K83
namespace K83
open PySem L2
section
variable {P : Program} {w : World} {K : PySem.W.Frag} {mg : Str → Option Value} {base : Heap} {H H' : Hp} {pd : Addr}
abbrev s__law_body : Stmt := top 16
theorem sc__law_body : FnScope ["_law_draw_here", "_law_way", "_law_name"] ["_law_draw_here"] (defScope s__law_body) := ⟨rfl, rfl, rfl, by decide +kernel, rfl, by decide +kernel, by decide +kernel⟩
abbrev s__law_parcel : Stmt := top 17
theorem sc__law_parcel : FnScope ["_law_draw_here"] ["_law_draw_here"] (defScope s__law_parcel) := ⟨rfl, rfl, rfl, by decide +kernel, rfl, by decide +kernel, by decide +kernel⟩
def isBd (H : Hp) (v : V) : Prop := ∃ b, RBd H v b ∧ b.Ok ∧ b.Sm ∧ b.Lo
theorem own_lbody (D : Def K mg "_law_body" s__law_body) (hb : Blt mg) (F__law_next : Own P w K mg base 1 "_law_next" ["_law_draw_here", "_law_size"] sp_next) (F__law_number : Own P w K mg base 2 "_law_number" ["_law_draw_here"] (Drw isNum)) (F__law_thing : Own P w K mg base 2 "_law_thing" ["_law_draw_here"] (Drw isTh)) : Own P w K mg base 3 "_law_body" ["_law_draw_here"] (Drw isBd) := by
  refine D.own sc__law_body (fun _ _ _ _ _ _ us hl => match us, hl with | [_], _ => rfl) (fun vs H Q E h => ?_) (fun f cdv A outer s H vs Q E hr h => ?_)
  · obtain ⟨pd, rfl, _⟩ := h
    rfl
  · obtain ⟨pd, rfl, d, q⟩ := h
    have hu := hr.units
    have hu1 : (A.deeper (PyProof.Rows.envOfC "_law_body" (defScope s__law_body) s.heap.objs.size f cdv)).units + 1 < cLine := by omega
    refine ⟨_, (@pss_cons _ _ _ _ _ (@ps_set _ _ 1 _ _ _ _ sc__law_body.nd rfl (by first | exact Or.inl rfl | exact Or.inr rfl) (@pe_fn _ _ _ _ _ _ _ _ _ _ _ F__law_next hr (@pa_cX _ _ _ _ _ (@pv _ 0 _ _ (by rfl) (by first | exact Or.inl rfl | exact Or.inr (Or.inl rfl) | exact Or.inr (Or.inr rfl)) (by decide) (by decide)) (@pa_cX _ _ _ _ _ (@pe_int _ _ _ _) (@pa_nil _) (by rfl)) (by rfl)) (by decide) (by rfl) (by decide) (by rfl) (by rfl)) (by rfl) (by first | exact .inl rfl | exact .inr rfl | assumption)) (@pss_cons _ _ _ _ _ (@ps_if _ _ _ _ _ _ _ _ (@pt_cmpR _ _ _ _ _ _ _ _ op_eq (@pv _ 1 _ _ (by rfl) (by first | exact Or.inl rfl | exact Or.inr (Or.inl rfl) | exact Or.inr (Or.inr rfl)) (by decide) (by decide)) (@pe_int _ _ _ _) (nomark _)) (@pss_one _ _ _ (@ps_ret _ _ _ _ (@pe_tup _ _ _ _ _ (@pa_cX _ _ _ _ _ (@pe_str _ _ _ _) (@pa_cX _ _ _ _ _ (@pe_fn _ _ _ _ _ _ _ _ _ _ _ F__law_number hr (@pa_cX _ _ _ _ _ (@pv _ 0 _ _ (by rfl) (by first | exact Or.inl rfl | exact Or.inr (Or.inl rfl) | exact Or.inr (Or.inr rfl)) (by decide) (by decide)) (@pa_nil _) (by rfl)) (by decide) (by rfl) (by decide) (by rfl) (by rfl)) (@pa_cX _ _ _ _ _ (@pe_fn _ _ _ _ _ _ _ _ _ _ _ F__law_thing hr (@pa_cX _ _ _ _ _ (@pv _ 0 _ _ (by rfl) (by first | exact Or.inl rfl | exact Or.inr (Or.inl rfl) | exact Or.inr (Or.inr rfl)) (by decide) (by decide)) (@pa_nil _) (by rfl)) (by decide) (by rfl) (by decide) (by rfl) (by rfl)) (@pa_nil _) (by rfl)) (by rfl)) (by rfl))))) (@pss_nil _)) (@pss_cons _ _ _ _ _ (@ps_if _ _ _ _ _ _ _ _ (@pt_cmpR _ _ _ _ _ _ _ _ op_eq (@pv _ 1 _ _ (by rfl) (by first | exact Or.inl rfl | exact Or.inr (Or.inl rfl) | exact Or.inr (Or.inr rfl)) (by decide) (by decide)) (@pe_int _ _ _ _) (nomark _)) (@pss_one _ _ _ (@ps_ret _ _ _ _ (@pe_tup _ _ _ _ _ (@pa_cX _ _ _ _ _ (@pe_str _ _ _ _) (@pa_cX _ _ _ _ _ (@pe_fn _ _ _ _ _ _ _ _ _ _ _ F__law_number hr (@pa_cX _ _ _ _ _ (@pv _ 0 _ _ (by rfl) (by first | exact Or.inl rfl | exact Or.inr (Or.inl rfl) | exact Or.inr (Or.inr rfl)) (by decide) (by decide)) (@pa_nil _) (by rfl)) (by decide) (by rfl) (by decide) (by rfl) (by rfl)) (@pa_nil _) (by rfl)) (by rfl))))) (@pss_nil _)) (@pss_cons _ _ _ _ _ (@ps_set _ _ 2 _ _ _ _ sc__law_body.nd rfl (by first | exact Or.inl rfl | exact Or.inr rfl) (@pe_ix _ _ _ _ _ _ _ (ix_get hu1) (@pe_lst _ _ _ _ (@pa_cX _ _ _ _ _ (@pe_str _ _ _ _) (@pa_cX _ _ _ _ _ (@pe_str _ _ _ _) (@pa_cX _ _ _ _ _ (@pe_str _ _ _ _) (@pa_cX _ _ _ _ _ (@pe_str _ _ _ _) (@pa_nil _) (by rfl)) (by rfl)) (by rfl)) (by rfl))) (@pe_fn _ _ _ _ _ _ _ _ _ _ _ F__law_next hr (@pa_cX _ _ _ _ _ (@pv _ 0 _ _ (by rfl) (by first | exact Or.inl rfl | exact Or.inr (Or.inl rfl) | exact Or.inr (Or.inr rfl)) (by decide) (by decide)) (@pa_cX _ _ _ _ _ (@pe_int _ _ _ _) (@pa_nil _) (by rfl)) (by rfl)) (by decide) (by rfl) (by decide) (by rfl) (by rfl)) (fun _ _ => rfl)) (by rfl) (by first | exact .inl rfl | exact .inr rfl | assumption)) (@pss_cons _ _ _ _ _ (@ps_if _ _ _ _ _ _ _ _ (@pt_cmpR _ _ _ _ _ _ _ _ op_eq (@pv _ 1 _ _ (by rfl) (by first | exact Or.inl rfl | exact Or.inr (Or.inl rfl) | exact Or.inr (Or.inr rfl)) (by decide) (by decide)) (@pe_int _ _ _ _) (nomark _)) (@pss_one _ _ _ (@ps_ret _ _ _ _ (@pe_tup _ _ _ _ _ (@pa_cX _ _ _ _ _ (@pe_str _ _ _ _) (@pa_cX _ _ _ _ _ (@pv _ 2 _ _ (by rfl) (by first | exact Or.inl rfl | exact Or.inr (Or.inl rfl) | exact Or.inr (Or.inr rfl)) (by decide) (by decide)) (@pa_cX _ _ _ _ _ (@pe_fn _ _ _ _ _ _ _ _ _ _ _ F__law_number hr (@pa_cX _ _ _ _ _ (@pv _ 0 _ _ (by rfl) (by first | exact Or.inl rfl | exact Or.inr (Or.inl rfl) | exact Or.inr (Or.inr rfl)) (by decide) (by decide)) (@pa_nil _) (by rfl)) (by decide) (by rfl) (by decide) (by rfl) (by rfl)) (@pa_nil _) (by rfl)) (by rfl)) (by rfl))))) (@pss_nil _)) (@pss_one _ _ _ (@ps_ret _ _ _ _ (@pe_tup _ _ _ _ _ (@pa_cX _ _ _ _ _ (@pe_str _ _ _ _) (@pa_cX _ _ _ _ _ (@pv _ 2 _ _ (by rfl) (by first | exact Or.inl rfl | exact Or.inr (Or.inl rfl) | exact Or.inr (Or.inr rfl)) (by decide) (by decide)) (@pa_cX _ _ _ _ _ (@pe_ix _ _ _ _ _ _ _ (ix_get hu1) (@pe_lst _ _ _ _ (@pa_cX _ _ _ _ _ (@pe_non _ _ _) (@pa_cX _ _ _ _ _ (@pe_fn _ _ _ _ _ _ _ _ _ _ _ F__law_next hr (@pa_cX _ _ _ _ _ (@pv _ 0 _ _ (by rfl) (by first | exact Or.inl rfl | exact Or.inr (Or.inl rfl) | exact Or.inr (Or.inr rfl)) (by decide) (by decide)) (@pa_cX _ _ _ _ _ (@pe_int _ _ _ _) (@pa_nil _) (by rfl)) (by rfl)) (by decide) (by rfl) (by decide) (by rfl) (by rfl)) (@pa_nil _) (by rfl)) (by rfl))) (@pe_fn _ _ _ _ _ _ _ _ _ _ _ F__law_next hr (@pa_cX _ _ _ _ _ (@pv _ 0 _ _ (by rfl) (by first | exact Or.inl rfl | exact Or.inr (Or.inl rfl) | exact Or.inr (Or.inr rfl)) (by decide) (by decide)) (@pa_cX _ _ _ _ _ (@pe_int _ _ _ _) (@pa_nil _) (by rfl)) (by rfl)) (by decide) (by rfl) (by decide) (by rfl) (by rfl)) (fun _ _ => rfl)) (@pa_cX _ _ _ _ _ (@pe_fn _ _ _ _ _ _ _ _ _ _ _ F__law_number hr (@pa_cX _ _ _ _ _ (@pv _ 0 _ _ (by rfl) (by first | exact Or.inl rfl | exact Or.inr (Or.inl rfl) | exact Or.inr (Or.inr rfl)) (by decide) (by decide)) (@pa_nil _) (by rfl)) (by decide) (by rfl) (by decide) (by rfl) (by rfl)) (@pa_nil _) (by rfl)) (by rfl)) (by rfl)) (by rfl)))))))))), ?_⟩
    simp (maxSteps := 1000000) only [rGet, Nat.reduceSub, Nat.reduceAdd, tSeq, exists_and_left, tIfS, tTest, tOp, tVar, tC, tRet, tAsg, gName, tNext, tCall, tCons, tNil, tLst, tTup, L2.start, List.map_cons, List.map_nil, List.length_cons, List.length_nil, List.replicate, List.cons_append, List.nil_append, List.getElem?_cons_zero, List.getElem?_cons_succ, List.set_cons_zero, List.set_cons_succ, Option.some.injEq, exists_eq_left', V.ref.injEq, List.append_nil]
    refine next_ok d (by decide) (by decide) fun r H1 hr1 d1 k1 => ?_
    simp (maxSteps := 1000000) only [rEq_ii, exists_eq_left', V.bl.injEq]
    have nm : ∀ (H2 : Hp) (x : Nat), x < 4 → ∃ z : List Nat, getO (HO.lst [V.str (Str.ofString "a"), V.str (Str.ofString "ab"), V.str (Str.ofString "eightlet"), V.str (Str.ofString "none")]) (V.int (x : Int)) = some (V.str (S z)) ∧ Tok z ∧ z.length ≤ 8 ∧ Lo z := fun H2 x hx => by
      match x, hx with
      | 0, _ => exact ⟨K83.w "a", by rw [← S_of]; rfl, tok_w (by decide), by decide, lo_w _⟩
      | 1, _ => exact ⟨K83.w "ab", by rw [← S_of]; rfl, tok_w (by decide), by decide, lo_w _⟩
      | 2, _ => exact ⟨K83.w "eightlet", by rw [← S_of]; rfl, tok_w (by decide), by decide, lo_w _⟩
      | 3, _ => exact ⟨K83.w "none", by rw [← S_of]; rfl, tok_w (by decide), by decide, lo_w _⟩
    refine ite2 (fun h0 => ?_) (fun h0 => ite2 (fun h1 => ?_) (fun h1 => ?_))
    · refine ⟨pd, rfl, d1, ?_⟩
      rintro v H2 ⟨n, rfl, hn⟩ d2 k2
      refine ⟨pd, rfl, d2, ?_⟩
      rintro u H3 ⟨t, ht, ho, hl⟩ d3 k3
      refine ⟨by rw [sizeLine_eq]; decide, ?_⟩
      intro p4 n4
      generalize z4 : upd H3 p4 _ = H4
      obtain ⟨s4, e4⟩ := new_same z4 n4
      exact q _ _ ⟨.piece n t, ⟨p4, u, rfl, e4, ht.same s4⟩, trivial, ⟨by omega, ho⟩, hl⟩ (d3.same s4) (((k1.trans k2).trans k3).same s4)
    · refine ⟨pd, rfl, d1, ?_⟩
      rintro v H2 ⟨n, rfl, hn⟩ d2 k2
      refine ⟨by rw [sizeLine_eq]; decide, ?_⟩
      intro p4 n4
      generalize z4 : upd H2 p4 _ = H4
      obtain ⟨s4, e4⟩ := new_same z4 n4
      exact q _ _ ⟨.got n, ⟨p4, rfl, e4⟩, trivial, (show n ≤ 10 ^ 13 by omega), trivial⟩ (d2.same s4) ((k1.trans k2).same s4)
    · refine ⟨by rw [sizeLine_eq]; decide, ?_⟩
      intro p2 n2
      generalize z2 : upd H1 p2 _ = H2
      obtain ⟨s2, e2⟩ := new_same z2 n2
      refine next_ok (d1.same s2) (by decide) (by decide) fun x H3 hx d3 k3 => ?_
      have e23 := k3 _ _ e2 (by simp [d1.ne n2])
      obtain ⟨z, ez, tz, lz, oz⟩ := nm H3 x (by omega)
      refine ⟨_, e23, _, ez, ?_⟩
      refine ite2 (fun h2 => ?_) (fun h2 => ?_)
      · refine ⟨pd, rfl, d3, ?_⟩
        rintro v H4 ⟨n, rfl, hn⟩ d4 k4
        refine ⟨by rw [sizeLine_eq]; decide, ?_⟩
        intro p5 n5
        generalize z5 : upd H4 p5 _ = H5
        obtain ⟨s5, e5⟩ := new_same z5 n5
        exact q _ _ ⟨.ask z n, ⟨p5, rfl, e5⟩, tz, ⟨lz, by omega⟩, oz⟩ (d4.same s5) ((((k1.same s2).trans k3).trans k4).same s5)
      · refine next_ok d3 (by decide) (by decide) fun y H4 hy d4 k4 => ⟨by rw [sizeLine_eq]; decide, ?_⟩
        intro p5 n5
        generalize z5 : upd H4 p5 _ = H5
        obtain ⟨s5, e5⟩ := new_same z5 n5
        refine next_ok (d4.same s5) (by decide) (by decide) fun b H6 hb6 d6 k6 => ?_
        have e56 := k6 _ _ e5 (by simp [d4.ne n5])
        have ho : ∃ o : Option Nat, getO (HO.lst [V.non, V.int (y : Int)]) (V.int (b : Int)) = some (onV o) ∧ small o := by
          have hb2 : b < 2 := by omega
          match b, hb2 with
          | 0, _ => exact ⟨none, rfl, fun _ z => nomatch z⟩
          | 1, _ => exact ⟨some y, rfl, small_some (by omega)⟩
        obtain ⟨o, eo, so⟩ := ho
        refine ⟨_, e56, _, eo, pd, rfl, d6, ?_⟩
        rintro v H7 ⟨n, rfl, hn⟩ d7 k7
        refine ⟨by rw [sizeLine_eq]; decide, ?_⟩
        intro p8 n8
        generalize z8 : upd H7 p8 _ = H8
        obtain ⟨s8, e8⟩ := new_same z8 n8
        exact q _ _ ⟨.told z o n, ⟨p8, rfl, e8⟩, tz, ⟨lz, so, by omega⟩, oz⟩ (d7.same s8) (((((((k1.same s2).trans k3).trans k4).same s5).trans k6).trans k7).same s8)
def isPc (H : Hp) (v : V) : Prop := ∃ p, RPc H v p ∧ p.d.Ok ∧ p.Sm ∧ p.d.Lo
theorem own_lparcel (D : Def K mg "_law_parcel" s__law_parcel) (hb : Blt mg) (F__law_next : Own P w K mg base 1 "_law_next" ["_law_draw_here", "_law_size"] sp_next) (F__law_body : Own P w K mg base 3 "_law_body" ["_law_draw_here"] (Drw isBd)) : Own P w K mg base 4 "_law_parcel" ["_law_draw_here"] (Drw isPc) := by
  refine D.own sc__law_parcel (fun _ _ _ _ _ _ us hl => match us, hl with | [_], _ => rfl) (fun vs H Q E h => ?_) (fun f cdv A outer s H vs Q E hr h => ?_)
  · obtain ⟨pd, rfl, _⟩ := h
    rfl
  · obtain ⟨pd, rfl, d, q⟩ := h
    have hu := hr.units
    have hu1 : (A.deeper (PyProof.Rows.envOfC "_law_parcel" (defScope s__law_parcel) s.heap.objs.size f cdv)).units + 1 < cLine := by omega
    refine ⟨_, (@pss_one _ _ _ (@ps_ret _ _ _ _ (@pe_tup _ _ _ _ _ (@pa_cX _ _ _ _ _ (@pe_fn _ _ _ _ _ _ _ _ _ _ _ F__law_next hr (@pa_cX _ _ _ _ _ (@pv _ 0 _ _ (by rfl) (by first | exact Or.inl rfl | exact Or.inr (Or.inl rfl) | exact Or.inr (Or.inr rfl)) (by decide) (by decide)) (@pa_cX _ _ _ _ _ (@pe_int _ _ _ _) (@pa_nil _) (by rfl)) (by rfl)) (by decide) (by rfl) (by decide) (by rfl) (by rfl)) (@pa_cX _ _ _ _ _ (@pe_fn _ _ _ _ _ _ _ _ _ _ _ F__law_next hr (@pa_cX _ _ _ _ _ (@pv _ 0 _ _ (by rfl) (by first | exact Or.inl rfl | exact Or.inr (Or.inl rfl) | exact Or.inr (Or.inr rfl)) (by decide) (by decide)) (@pa_cX _ _ _ _ _ (@pe_int _ _ _ _) (@pa_nil _) (by rfl)) (by rfl)) (by decide) (by rfl) (by decide) (by rfl) (by rfl)) (@pa_cX _ _ _ _ _ (@pe_fn _ _ _ _ _ _ _ _ _ _ _ F__law_next hr (@pa_cX _ _ _ _ _ (@pv _ 0 _ _ (by rfl) (by first | exact Or.inl rfl | exact Or.inr (Or.inl rfl) | exact Or.inr (Or.inr rfl)) (by decide) (by decide)) (@pa_cX _ _ _ _ _ (@pe_int _ _ _ _) (@pa_nil _) (by rfl)) (by rfl)) (by decide) (by rfl) (by decide) (by rfl) (by rfl)) (@pa_cX _ _ _ _ _ (@pe_fn _ _ _ _ _ _ _ _ _ _ _ F__law_body hr (@pa_cX _ _ _ _ _ (@pv _ 0 _ _ (by rfl) (by first | exact Or.inl rfl | exact Or.inr (Or.inl rfl) | exact Or.inr (Or.inr rfl)) (by decide) (by decide)) (@pa_nil _) (by rfl)) (by decide) (by rfl) (by decide) (by rfl) (by rfl)) (@pa_nil _) (by rfl)) (by rfl)) (by rfl)) (by rfl))))), ?_⟩
    simp (maxSteps := 1000000) only [Nat.reduceSub, Nat.reduceAdd, tVar, tC, tRet, tCall, tCons, tNil, tTup, L2.start, List.map_cons, List.map_nil, List.length_cons, List.length_nil, List.replicate, List.getElem?_cons_zero, Option.some.injEq, exists_eq_left', List.append_nil]
    refine next_ok d (by decide) (by decide) fun a H1 ha d1 k1 => ?_
    refine next_ok d1 (by decide) (by decide) fun b H2 hb d2 k2 => ?_
    refine next_ok d2 (by decide) (by decide) fun c H3 hc d3 k3 => ?_
    refine ⟨pd, rfl, d3, ?_⟩
    rintro v H4 ⟨bd, hv, ho, hs, hl⟩ d4 k4
    refine ⟨by rw [sizeLine_eq]; decide, ?_⟩
    intro p5 n5
    generalize z5 : upd H4 p5 _ = H5
    obtain ⟨s5, e5⟩ := new_same z5 n5
    exact q _ _ ⟨⟨a, b, c, bd⟩, ⟨p5, v, rfl, e5, hv.same s5⟩, ho, ⟨by dsimp only; omega, by dsimp only; omega, by dsimp only; omega, hs⟩, hl⟩ (d4.same s5) ((((k1.trans k2).trans k3).trans k4).same s5)
end
end K83
namespace K83
open PySem L2
section
variable {P : Program} {w : World} {K : PySem.W.Frag} {mg : Str → Option Value} {base : Heap} {H H' : Hp} {pd : Addr}
abbrev s__law_row : Stmt := top 18
theorem sc__law_row : FnScope ["_law_draw_here", "_law_word", "_law_head", "_law_parcels", "_law_found", "_law_price", "_law_things", "_law_pairs", "_law_what", "_law_signs"] ["_law_draw_here"] (defScope s__law_row) := ⟨rfl, rfl, rfl, by decide +kernel, rfl, by decide +kernel, by decide +kernel⟩
theorem cs__law_row_0 : CScope ["_law_k"] ["_law_draw_here"] { kind := .function, names := [(".0", .local), ("_law_k", .local), ("_law_parcel", .globalImplicit), ("_law_draw_here", .free)], isGenerator := false, isCoroutine := false, more := [] } (defScope s__law_row) := ⟨rfl, by decide +kernel, by decide +kernel, by decide +kernel, by decide +kernel, by decide +kernel⟩
theorem cs__law_row_1 : CScope ["_law_k"] ["_law_draw_here"] { kind := .function, names := [(".0", .local), ("_law_k", .local), ("_law_thing", .globalImplicit), ("_law_draw_here", .free)], isGenerator := false, isCoroutine := false, more := [] } (defScope s__law_row) := ⟨rfl, by decide +kernel, by decide +kernel, by decide +kernel, by decide +kernel, by decide +kernel⟩
theorem cs__law_row_2 : CScope ["_law_k"] ["_law_draw_here"] { kind := .function, names := [(".0", .local), ("_law_k", .local), ("_law_number", .globalImplicit), ("_law_parcel", .globalImplicit), ("_law_draw_here", .free)], isGenerator := false, isCoroutine := false, more := [] } (defScope s__law_row) := ⟨rfl, by decide +kernel, by decide +kernel, by decide +kernel, by decide +kernel, by decide +kernel⟩
theorem cs__law_row_3 : CScope ["_law_k"] ["_law_draw_here"] { kind := .function, names := [(".0", .local), ("_law_k", .local), ("_law_next", .globalImplicit), ("_law_draw_here", .free)], isGenerator := false, isCoroutine := false, more := [] } (defScope s__law_row) := ⟨rfl, by decide +kernel, by decide +kernel, by decide +kernel, by decide +kernel, by decide +kernel⟩
theorem paired_all {α : Type} {R : V → α → Prop} {Z : α → Prop} : ∀ {vs : List V} {xs : List α}, Paired (fun v a => R v a ∧ Z a) vs xs → ∀ a ∈ xs, Z a
  | _, _, .nil, _, z => nomatch z
  | _, _, .cons h t, a, m => by
    rcases List.mem_cons.mp m with rfl | m
    · exact h.2
    · exact paired_all t a m
theorem opt_ok {y b : Nat} (hy : y ≤ 10 ^ 13) (hb : b < 2) : ∃ o : Option Nat, getO (HO.lst [V.non, V.int (y : Int)]) (V.int (b : Int)) = some (onV o) ∧ small o := by
  match b, hb with
  | 0, _ => exact ⟨none, rfl, fun _ z => nomatch z⟩
  | 1, _ => exact ⟨some y, rfl, small_some hy⟩
theorem why_ok {b : Nat} (hb : b < 3) : ∃ z : List Nat, getO (HO.lst [V.str (Str.ofString "count"), V.str (Str.ofString "none"), V.str (Str.ofString "full")]) (V.int (b : Int)) = some (V.str (S z)) ∧ Tok z ∧ z.length ≤ 10 ∧ Lo z := by
  match b, hb with
  | 0, _ => exact ⟨K83.w "count", by rw [← S_of]; rfl, tok_w (by decide), by decide, lo_w _⟩
  | 1, _ => exact ⟨K83.w "none", by rw [← S_of]; rfl, tok_w (by decide), by decide, lo_w _⟩
  | 2, _ => exact ⟨K83.w "full", by rw [← S_of]; rfl, tok_w (by decide), by decide, lo_w _⟩
theorem end_ok {b : Nat} (hb : b < 3) : ∃ z : List Nat, getO (HO.lst [V.str (Str.ofString "ok"), V.str (Str.ofString "shut"), V.str (Str.ofString "open")]) (V.int (b : Int)) = some (V.str (S z)) ∧ Tok z ∧ z.length ≤ 10 ∧ Lo z := by
  match b, hb with
  | 0, _ => exact ⟨K83.w "ok", by rw [← S_of]; rfl, tok_w (by decide), by decide, lo_w _⟩
  | 1, _ => exact ⟨K83.w "shut", by rw [← S_of]; rfl, tok_w (by decide), by decide, lo_w _⟩
  | 2, _ => exact ⟨K83.w "open", by rw [← S_of]; rfl, tok_w (by decide), by decide, lo_w _⟩
theorem nam_ok {b : Nat} (hb : b < 3) : ∃ z : List Nat, getO (HO.lst [V.str (Str.ofString "a"), V.str (Str.ofString "begin"), V.str (Str.ofString "put")]) (V.int (b : Int)) = some (V.str (S z)) ∧ Tok z ∧ z.length ≤ 10 ∧ Lo z := by
  match b, hb with
  | 0, _ => exact ⟨K83.w "a", by rw [← S_of]; rfl, tok_w (by decide), by decide, lo_w _⟩
  | 1, _ => exact ⟨K83.w "begin", by rw [← S_of]; rfl, tok_w (by decide), by decide, lo_w _⟩
  | 2, _ => exact ⟨K83.w "put", by rw [← S_of]; rfl, tok_w (by decide), by decide, lo_w _⟩
def isR (H : Hp) (v : V) : Prop := ∃ r, GoodR H v r
set_option maxHeartbeats 8000000 in
theorem own_lrow (D : Def K mg "_law_row" s__law_row) (hb : Blt mg) (F__law_next : Own P w K mg base 1 "_law_next" ["_law_draw_here", "_law_size"] sp_next) (F__law_number : Own P w K mg base 2 "_law_number" ["_law_draw_here"] (Drw isNum)) (F__law_thing : Own P w K mg base 2 "_law_thing" ["_law_draw_here"] (Drw isTh)) (F__law_parcel : Own P w K mg base 4 "_law_parcel" ["_law_draw_here"] (Drw isPc)) : Own P w K mg base 5 "_law_row" ["_law_draw_here"] (Drw isR) := by
  refine D.own sc__law_row (fun _ _ _ _ _ _ us hl => match us, hl with | [_], _ => rfl) (fun vs H Q E h => ?_) (fun f cdv A outer s H vs Q E hr h => ?_)
  · obtain ⟨pd, rfl, _⟩ := h
    rfl
  · obtain ⟨pd, rfl, d, q⟩ := h
    have hu := hr.units
    have hu1 : (A.deeper (PyProof.Rows.envOfC "_law_row" (defScope s__law_row) s.heap.objs.size f cdv)).units + 1 < cLine := by omega
    refine ⟨_, (@pss_cons _ _ _ _ _ (@ps_set _ _ 1 _ _ _ _ sc__law_row.nd rfl (by first | exact Or.inl rfl | exact Or.inr rfl) (@pe_ix _ _ _ _ _ _ _ (ix_get hu1) (@pe_lst _ _ _ _ (@pa_cX _ _ _ _ _ (@pe_str _ _ _ _) (@pa_cX _ _ _ _ _ (@pe_str _ _ _ _) (@pa_cX _ _ _ _ _ (@pe_str _ _ _ _) (@pa_cX _ _ _ _ _ (@pe_str _ _ _ _) (@pa_cX _ _ _ _ _ (@pe_str _ _ _ _) (@pa_cX _ _ _ _ _ (@pe_str _ _ _ _) (@pa_cX _ _ _ _ _ (@pe_str _ _ _ _) (@pa_nil _) (by rfl)) (by rfl)) (by rfl)) (by rfl)) (by rfl)) (by rfl)) (by rfl))) (@pe_fn _ _ _ _ _ _ _ _ _ _ _ F__law_next hr (@pa_cX _ _ _ _ _ (@pv _ 0 _ _ (by rfl) (by first | exact Or.inl rfl | exact Or.inr (Or.inl rfl) | exact Or.inr (Or.inr rfl)) (by decide) (by decide)) (@pa_cX _ _ _ _ _ (@pe_int _ _ _ _) (@pa_nil _) (by rfl)) (by rfl)) (by decide) (by rfl) (by decide) (by rfl) (by rfl)) (fun _ _ => rfl)) (by rfl) (by first | exact .inl rfl | exact .inr rfl | assumption)) (@pss_cons _ _ _ _ _ (@ps_set _ _ 2 _ _ _ _ sc__law_row.nd rfl (by first | exact Or.inl rfl | exact Or.inr rfl) (@pe_tup _ _ _ _ _ (@pa_cX _ _ _ _ _ (@pv _ 1 _ _ (by rfl) (by first | exact Or.inl rfl | exact Or.inr (Or.inl rfl) | exact Or.inr (Or.inr rfl)) (by decide) (by decide)) (@pa_cX _ _ _ _ _ (@pe_fn _ _ _ _ _ _ _ _ _ _ _ F__law_number hr (@pa_cX _ _ _ _ _ (@pv _ 0 _ _ (by rfl) (by first | exact Or.inl rfl | exact Or.inr (Or.inl rfl) | exact Or.inr (Or.inr rfl)) (by decide) (by decide)) (@pa_nil _) (by rfl)) (by decide) (by rfl) (by decide) (by rfl) (by rfl)) (@pa_cX _ _ _ _ _ (@pe_fn _ _ _ _ _ _ _ _ _ _ _ F__law_next hr (@pa_cX _ _ _ _ _ (@pv _ 0 _ _ (by rfl) (by first | exact Or.inl rfl | exact Or.inr (Or.inl rfl) | exact Or.inr (Or.inr rfl)) (by decide) (by decide)) (@pa_cX _ _ _ _ _ (@pe_int _ _ _ _) (@pa_nil _) (by rfl)) (by rfl)) (by decide) (by rfl) (by decide) (by rfl) (by rfl)) (@pa_nil _) (by rfl)) (by rfl)) (by rfl))) (by rfl) (by first | exact .inl rfl | exact .inr rfl | assumption)) (@pss_cons _ _ _ _ _ (@ps_if _ _ _ _ _ _ _ _ (@pt_cmpR _ _ _ _ _ _ _ _ op_eq (@pv _ 1 _ _ (by rfl) (by first | exact Or.inl rfl | exact Or.inr (Or.inl rfl) | exact Or.inr (Or.inr rfl)) (by decide) (by decide)) (@pe_str _ _ _ _) (nomark _)) (@pss_cons _ _ _ _ _ (@ps_set _ _ 3 _ _ _ _ sc__law_row.nd rfl (by first | exact Or.inl rfl | exact Or.inr rfl) (@pe_callTy _ _ _ _ _ _ _ _ _ call_tupX rfl (hb _ (by decide)) bt_tuple (@pa_cX _ _ _ _ _ (@pe_comp _ _ _ _ _ _ _ _ _ _ _ ["_law_k"] ["_law_draw_here"] [0] rfl _ cs__law_row_0 (@pi_range1 _ _ _ _ _ _ rfl (hb _ (by decide)) (@pa_cX _ _ _ _ _ (@pe_fn _ _ _ _ _ _ _ _ _ _ _ F__law_next hr (@pa_cX _ _ _ _ _ (@pv _ 0 _ _ (by rfl) (by first | exact Or.inl rfl | exact Or.inr (Or.inl rfl) | exact Or.inr (Or.inr rfl)) (by decide) (by decide)) (@pa_cX _ _ _ _ _ (@pe_int _ _ _ _) (@pa_nil _) (by rfl)) (by rfl)) (by decide) (by rfl) (by decide) (by rfl) (by rfl)) (@pa_nil _) (by rfl)) (by rfl)) (fun _ _ _ _ => (@pg_name _ _ 0 _ cs__law_row_0.nd rfl (by first | exact Or.inl rfl | exact Or.inr rfl) (by first | exact .inl rfl | exact .inr rfl | assumption))) (fun _ _ _ _ => (@pf_nil _)) (fun _ _ _ _ => (@pe_fn _ _ _ _ _ _ _ _ _ _ _ F__law_parcel hr (@pa_cX _ _ _ _ _ (@pv _ 1 _ _ (by rfl) (by first | exact Or.inl rfl | exact Or.inr (Or.inl rfl) | exact Or.inr (Or.inr rfl)) (by decide) (by decide)) (@pa_nil _) (by rfl)) (by decide) (by rfl) (by decide) (by rfl) (by rfl))) (by rfl) (by rfl) (by rfl) (by intro _; rfl)) (@pa_nil _) (by rfl)) (by decide) (by decide) (by rfl) (by rfl)) (by rfl) (by first | exact .inl rfl | exact .inr rfl | assumption)) (@pss_one _ _ _ (@ps_ret _ _ _ _ (@pe_op _ _ _ _ _ _ _ _ (op_catTK (K := K)) (@pv _ 2 _ _ (by rfl) (by first | exact Or.inl rfl | exact Or.inr (Or.inl rfl) | exact Or.inr (Or.inr rfl)) (by decide) (by decide)) (@pe_tup _ _ _ _ _ (@pa_cX _ _ _ _ _ (@pe_fn _ _ _ _ _ _ _ _ _ _ _ F__law_next hr (@pa_cX _ _ _ _ _ (@pv _ 0 _ _ (by rfl) (by first | exact Or.inl rfl | exact Or.inr (Or.inl rfl) | exact Or.inr (Or.inr rfl)) (by decide) (by decide)) (@pa_cX _ _ _ _ _ (@pe_int _ _ _ _) (@pa_nil _) (by rfl)) (by rfl)) (by decide) (by rfl) (by decide) (by rfl) (by rfl)) (@pa_cX _ _ _ _ _ (@pe_fn _ _ _ _ _ _ _ _ _ _ _ F__law_number hr (@pa_cX _ _ _ _ _ (@pv _ 0 _ _ (by rfl) (by first | exact Or.inl rfl | exact Or.inr (Or.inl rfl) | exact Or.inr (Or.inr rfl)) (by decide) (by decide)) (@pa_nil _) (by rfl)) (by decide) (by rfl) (by decide) (by rfl) (by rfl)) (@pa_cX _ _ _ _ _ (@pv _ 3 _ _ (by rfl) (by first | exact Or.inl rfl | exact Or.inr (Or.inl rfl) | exact Or.inr (Or.inr rfl)) (by decide) (by decide)) (@pa_nil _) (by rfl)) (by rfl)) (by rfl))))))) (@pss_nil _)) (@pss_cons _ _ _ _ _ (@ps_if _ _ _ _ _ _ _ _ (@pt_cmpR _ _ _ _ _ _ _ _ op_eq (@pv _ 1 _ _ (by rfl) (by first | exact Or.inl rfl | exact Or.inr (Or.inl rfl) | exact Or.inr (Or.inr rfl)) (by decide) (by decide)) (@pe_str _ _ _ _) (nomark _)) (@pss_cons _ _ _ _ _ (@ps_set _ _ 4 _ _ _ _ sc__law_row.nd rfl (by first | exact Or.inl rfl | exact Or.inr rfl) (@pe_ix _ _ _ _ _ _ _ (ix_get hu1) (@pe_lst _ _ _ _ (@pa_cX _ _ _ _ _ (@pe_non _ _ _) (@pa_cX _ _ _ _ _ (@pe_fn _ _ _ _ _ _ _ _ _ _ _ F__law_next hr (@pa_cX _ _ _ _ _ (@pv _ 0 _ _ (by rfl) (by first | exact Or.inl rfl | exact Or.inr (Or.inl rfl) | exact Or.inr (Or.inr rfl)) (by decide) (by decide)) (@pa_cX _ _ _ _ _ (@pe_int _ _ _ _) (@pa_nil _) (by rfl)) (by rfl)) (by decide) (by rfl) (by decide) (by rfl) (by rfl)) (@pa_nil _) (by rfl)) (by rfl))) (@pe_fn _ _ _ _ _ _ _ _ _ _ _ F__law_next hr (@pa_cX _ _ _ _ _ (@pv _ 0 _ _ (by rfl) (by first | exact Or.inl rfl | exact Or.inr (Or.inl rfl) | exact Or.inr (Or.inr rfl)) (by decide) (by decide)) (@pa_cX _ _ _ _ _ (@pe_int _ _ _ _) (@pa_nil _) (by rfl)) (by rfl)) (by decide) (by rfl) (by decide) (by rfl) (by rfl)) (fun _ _ => rfl)) (by rfl) (by first | exact .inl rfl | exact .inr rfl | assumption)) (@pss_cons _ _ _ _ _ (@ps_set _ _ 5 _ _ _ _ sc__law_row.nd rfl (by first | exact Or.inl rfl | exact Or.inr rfl) (@pe_ix _ _ _ _ _ _ _ (ix_get hu1) (@pe_lst _ _ _ _ (@pa_cX _ _ _ _ _ (@pe_non _ _ _) (@pa_cX _ _ _ _ _ (@pe_fn _ _ _ _ _ _ _ _ _ _ _ F__law_number hr (@pa_cX _ _ _ _ _ (@pv _ 0 _ _ (by rfl) (by first | exact Or.inl rfl | exact Or.inr (Or.inl rfl) | exact Or.inr (Or.inr rfl)) (by decide) (by decide)) (@pa_nil _) (by rfl)) (by decide) (by rfl) (by decide) (by rfl) (by rfl)) (@pa_nil _) (by rfl)) (by rfl))) (@pe_fn _ _ _ _ _ _ _ _ _ _ _ F__law_next hr (@pa_cX _ _ _ _ _ (@pv _ 0 _ _ (by rfl) (by first | exact Or.inl rfl | exact Or.inr (Or.inl rfl) | exact Or.inr (Or.inr rfl)) (by decide) (by decide)) (@pa_cX _ _ _ _ _ (@pe_int _ _ _ _) (@pa_nil _) (by rfl)) (by rfl)) (by decide) (by rfl) (by decide) (by rfl) (by rfl)) (fun _ _ => rfl)) (by rfl) (by first | exact .inl rfl | exact .inr rfl | assumption)) (@pss_one _ _ _ (@ps_ret _ _ _ _ (@pe_op _ _ _ _ _ _ _ _ (op_catTK (K := K)) (@pv _ 2 _ _ (by rfl) (by first | exact Or.inl rfl | exact Or.inr (Or.inl rfl) | exact Or.inr (Or.inr rfl)) (by decide) (by decide)) (@pe_tup _ _ _ _ _ (@pa_cX _ _ _ _ _ (@pe_fn _ _ _ _ _ _ _ _ _ _ _ F__law_next hr (@pa_cX _ _ _ _ _ (@pv _ 0 _ _ (by rfl) (by first | exact Or.inl rfl | exact Or.inr (Or.inl rfl) | exact Or.inr (Or.inr rfl)) (by decide) (by decide)) (@pa_cX _ _ _ _ _ (@pe_int _ _ _ _) (@pa_nil _) (by rfl)) (by rfl)) (by decide) (by rfl) (by decide) (by rfl) (by rfl)) (@pa_cX _ _ _ _ _ (@pv _ 4 _ _ (by rfl) (by first | exact Or.inl rfl | exact Or.inr (Or.inl rfl) | exact Or.inr (Or.inr rfl)) (by decide) (by decide)) (@pa_cX _ _ _ _ _ (@pv _ 5 _ _ (by rfl) (by first | exact Or.inl rfl | exact Or.inr (Or.inl rfl) | exact Or.inr (Or.inr rfl)) (by decide) (by decide)) (@pa_nil _) (by rfl)) (by rfl)) (by rfl)))))))) (@pss_nil _)) (@pss_cons _ _ _ _ _ (@ps_if _ _ _ _ _ _ _ _ (@pt_cmpR _ _ _ _ _ _ _ _ op_eq (@pv _ 1 _ _ (by rfl) (by first | exact Or.inl rfl | exact Or.inr (Or.inl rfl) | exact Or.inr (Or.inr rfl)) (by decide) (by decide)) (@pe_str _ _ _ _) (nomark _)) (@pss_one _ _ _ (@ps_ret _ _ _ _ (@pe_op _ _ _ _ _ _ _ _ (op_catTK (K := K)) (@pv _ 2 _ _ (by rfl) (by first | exact Or.inl rfl | exact Or.inr (Or.inl rfl) | exact Or.inr (Or.inr rfl)) (by decide) (by decide)) (@pe_tup _ _ _ _ _ (@pa_cX _ _ _ _ _ (@pe_fn _ _ _ _ _ _ _ _ _ _ _ F__law_parcel hr (@pa_cX _ _ _ _ _ (@pv _ 0 _ _ (by rfl) (by first | exact Or.inl rfl | exact Or.inr (Or.inl rfl) | exact Or.inr (Or.inr rfl)) (by decide) (by decide)) (@pa_nil _) (by rfl)) (by decide) (by rfl) (by decide) (by rfl) (by rfl)) (@pa_nil _) (by rfl)))))) (@pss_nil _)) (@pss_cons _ _ _ _ _ (@ps_if _ _ _ _ _ _ _ _ (@pt_cmpR _ _ _ _ _ _ _ _ op_eq (@pv _ 1 _ _ (by rfl) (by first | exact Or.inl rfl | exact Or.inr (Or.inl rfl) | exact Or.inr (Or.inr rfl)) (by decide) (by decide)) (@pe_str _ _ _ _) (nomark _)) (@pss_one _ _ _ (@ps_ret _ _ _ _ (@pe_op _ _ _ _ _ _ _ _ (op_catTK (K := K)) (@pv _ 2 _ _ (by rfl) (by first | exact Or.inl rfl | exact Or.inr (Or.inl rfl) | exact Or.inr (Or.inr rfl)) (by decide) (by decide)) (@pe_tup _ _ _ _ _ (@pa_cX _ _ _ _ _ (@pe_fn _ _ _ _ _ _ _ _ _ _ _ F__law_parcel hr (@pa_cX _ _ _ _ _ (@pv _ 0 _ _ (by rfl) (by first | exact Or.inl rfl | exact Or.inr (Or.inl rfl) | exact Or.inr (Or.inr rfl)) (by decide) (by decide)) (@pa_nil _) (by rfl)) (by decide) (by rfl) (by decide) (by rfl) (by rfl)) (@pa_cX _ _ _ _ _ (@pe_ix _ _ _ _ _ _ _ (ix_get hu1) (@pe_lst _ _ _ _ (@pa_cX _ _ _ _ _ (@pe_str _ _ _ _) (@pa_cX _ _ _ _ _ (@pe_str _ _ _ _) (@pa_cX _ _ _ _ _ (@pe_str _ _ _ _) (@pa_nil _) (by rfl)) (by rfl)) (by rfl))) (@pe_fn _ _ _ _ _ _ _ _ _ _ _ F__law_next hr (@pa_cX _ _ _ _ _ (@pv _ 0 _ _ (by rfl) (by first | exact Or.inl rfl | exact Or.inr (Or.inl rfl) | exact Or.inr (Or.inr rfl)) (by decide) (by decide)) (@pa_cX _ _ _ _ _ (@pe_int _ _ _ _) (@pa_nil _) (by rfl)) (by rfl)) (by decide) (by rfl) (by decide) (by rfl) (by rfl)) (fun _ _ => rfl)) (@pa_nil _) (by rfl)) (by rfl)))))) (@pss_nil _)) (@pss_cons _ _ _ _ _ (@ps_if _ _ _ _ _ _ _ _ (@pt_cmpR _ _ _ _ _ _ _ _ op_eq (@pv _ 1 _ _ (by rfl) (by first | exact Or.inl rfl | exact Or.inr (Or.inl rfl) | exact Or.inr (Or.inr rfl)) (by decide) (by decide)) (@pe_str _ _ _ _) (nomark _)) (@pss_cons _ _ _ _ _ (@ps_set _ _ 6 _ _ _ _ sc__law_row.nd rfl (by first | exact Or.inl rfl | exact Or.inr rfl) (@pe_callTy _ _ _ _ _ _ _ _ _ call_tupX rfl (hb _ (by decide)) bt_tuple (@pa_cX _ _ _ _ _ (@pe_comp _ _ _ _ _ _ _ _ _ _ _ ["_law_k"] ["_law_draw_here"] [0] rfl _ cs__law_row_1 (@pi_range1 _ _ _ _ _ _ rfl (hb _ (by decide)) (@pa_cX _ _ _ _ _ (@pe_op _ _ _ _ _ _ _ _ op_add (@pe_int _ _ _ _) (@pe_fn _ _ _ _ _ _ _ _ _ _ _ F__law_next hr (@pa_cX _ _ _ _ _ (@pv _ 0 _ _ (by rfl) (by first | exact Or.inl rfl | exact Or.inr (Or.inl rfl) | exact Or.inr (Or.inr rfl)) (by decide) (by decide)) (@pa_cX _ _ _ _ _ (@pe_int _ _ _ _) (@pa_nil _) (by rfl)) (by rfl)) (by decide) (by rfl) (by decide) (by rfl) (by rfl))) (@pa_nil _) (by rfl)) (by rfl)) (fun _ _ _ _ => (@pg_name _ _ 0 _ cs__law_row_1.nd rfl (by first | exact Or.inl rfl | exact Or.inr rfl) (by first | exact .inl rfl | exact .inr rfl | assumption))) (fun _ _ _ _ => (@pf_nil _)) (fun _ _ _ _ => (@pe_fn _ _ _ _ _ _ _ _ _ _ _ F__law_thing hr (@pa_cX _ _ _ _ _ (@pv _ 1 _ _ (by rfl) (by first | exact Or.inl rfl | exact Or.inr (Or.inl rfl) | exact Or.inr (Or.inr rfl)) (by decide) (by decide)) (@pa_nil _) (by rfl)) (by decide) (by rfl) (by decide) (by rfl) (by rfl))) (by rfl) (by rfl) (by rfl) (by intro _; rfl)) (@pa_nil _) (by rfl)) (by decide) (by decide) (by rfl) (by rfl)) (by rfl) (by first | exact .inl rfl | exact .inr rfl | assumption)) (@pss_one _ _ _ (@ps_ret _ _ _ _ (@pe_op _ _ _ _ _ _ _ _ (op_catTK (K := K)) (@pv _ 2 _ _ (by rfl) (by first | exact Or.inl rfl | exact Or.inr (Or.inl rfl) | exact Or.inr (Or.inr rfl)) (by decide) (by decide)) (@pe_tup _ _ _ _ _ (@pa_cX _ _ _ _ _ (@pe_fn _ _ _ _ _ _ _ _ _ _ _ F__law_next hr (@pa_cX _ _ _ _ _ (@pv _ 0 _ _ (by rfl) (by first | exact Or.inl rfl | exact Or.inr (Or.inl rfl) | exact Or.inr (Or.inr rfl)) (by decide) (by decide)) (@pa_cX _ _ _ _ _ (@pe_int _ _ _ _) (@pa_nil _) (by rfl)) (by rfl)) (by decide) (by rfl) (by decide) (by rfl) (by rfl)) (@pa_cX _ _ _ _ _ (@pv _ 6 _ _ (by rfl) (by first | exact Or.inl rfl | exact Or.inr (Or.inl rfl) | exact Or.inr (Or.inr rfl)) (by decide) (by decide)) (@pa_nil _) (by rfl)) (by rfl))))))) (@pss_nil _)) (@pss_cons _ _ _ _ _ (@ps_if _ _ _ _ _ _ _ _ (@pt_cmpR _ _ _ _ _ _ _ _ op_eq (@pv _ 1 _ _ (by rfl) (by first | exact Or.inl rfl | exact Or.inr (Or.inl rfl) | exact Or.inr (Or.inr rfl)) (by decide) (by decide)) (@pe_str _ _ _ _) (nomark _)) (@pss_cons _ _ _ _ _ (@ps_set _ _ 7 _ _ _ _ sc__law_row.nd rfl (by first | exact Or.inl rfl | exact Or.inr rfl) (@pe_callTy _ _ _ _ _ _ _ _ _ call_tupX rfl (hb _ (by decide)) bt_tuple (@pa_cX _ _ _ _ _ (@pe_comp _ _ _ _ _ _ _ _ _ _ _ ["_law_k"] ["_law_draw_here"] [0] rfl _ cs__law_row_2 (@pi_range1 _ _ _ _ _ _ rfl (hb _ (by decide)) (@pa_cX _ _ _ _ _ (@pe_fn _ _ _ _ _ _ _ _ _ _ _ F__law_next hr (@pa_cX _ _ _ _ _ (@pv _ 0 _ _ (by rfl) (by first | exact Or.inl rfl | exact Or.inr (Or.inl rfl) | exact Or.inr (Or.inr rfl)) (by decide) (by decide)) (@pa_cX _ _ _ _ _ (@pe_int _ _ _ _) (@pa_nil _) (by rfl)) (by rfl)) (by decide) (by rfl) (by decide) (by rfl) (by rfl)) (@pa_nil _) (by rfl)) (by rfl)) (fun _ _ _ _ => (@pg_name _ _ 0 _ cs__law_row_2.nd rfl (by first | exact Or.inl rfl | exact Or.inr rfl) (by first | exact .inl rfl | exact .inr rfl | assumption))) (fun _ _ _ _ => (@pf_nil _)) (fun _ _ _ _ => (@pe_tup _ _ _ _ _ (@pa_cX _ _ _ _ _ (@pe_fn _ _ _ _ _ _ _ _ _ _ _ F__law_number hr (@pa_cX _ _ _ _ _ (@pv _ 1 _ _ (by rfl) (by first | exact Or.inl rfl | exact Or.inr (Or.inl rfl) | exact Or.inr (Or.inr rfl)) (by decide) (by decide)) (@pa_nil _) (by rfl)) (by decide) (by rfl) (by decide) (by rfl) (by rfl)) (@pa_cX _ _ _ _ _ (@pe_fn _ _ _ _ _ _ _ _ _ _ _ F__law_parcel hr (@pa_cX _ _ _ _ _ (@pv _ 1 _ _ (by rfl) (by first | exact Or.inl rfl | exact Or.inr (Or.inl rfl) | exact Or.inr (Or.inr rfl)) (by decide) (by decide)) (@pa_nil _) (by rfl)) (by decide) (by rfl) (by decide) (by rfl) (by rfl)) (@pa_nil _) (by rfl)) (by rfl)))) (by rfl) (by rfl) (by rfl) (by intro _; rfl)) (@pa_nil _) (by rfl)) (by decide) (by decide) (by rfl) (by rfl)) (by rfl) (by first | exact .inl rfl | exact .inr rfl | assumption)) (@pss_one _ _ _ (@ps_ret _ _ _ _ (@pe_op _ _ _ _ _ _ _ _ (op_catTK (K := K)) (@pv _ 2 _ _ (by rfl) (by first | exact Or.inl rfl | exact Or.inr (Or.inl rfl) | exact Or.inr (Or.inr rfl)) (by decide) (by decide)) (@pe_tup _ _ _ _ _ (@pa_cX _ _ _ _ _ (@pe_fn _ _ _ _ _ _ _ _ _ _ _ F__law_next hr (@pa_cX _ _ _ _ _ (@pv _ 0 _ _ (by rfl) (by first | exact Or.inl rfl | exact Or.inr (Or.inl rfl) | exact Or.inr (Or.inr rfl)) (by decide) (by decide)) (@pa_cX _ _ _ _ _ (@pe_int _ _ _ _) (@pa_nil _) (by rfl)) (by rfl)) (by decide) (by rfl) (by decide) (by rfl) (by rfl)) (@pa_cX _ _ _ _ _ (@pv _ 7 _ _ (by rfl) (by first | exact Or.inl rfl | exact Or.inr (Or.inl rfl) | exact Or.inr (Or.inr rfl)) (by decide) (by decide)) (@pa_cX _ _ _ _ _ (@pe_fn _ _ _ _ _ _ _ _ _ _ _ F__law_number hr (@pa_cX _ _ _ _ _ (@pv _ 0 _ _ (by rfl) (by first | exact Or.inl rfl | exact Or.inr (Or.inl rfl) | exact Or.inr (Or.inr rfl)) (by decide) (by decide)) (@pa_nil _) (by rfl)) (by decide) (by rfl) (by decide) (by rfl) (by rfl)) (@pa_nil _) (by rfl)) (by rfl)) (by rfl))))))) (@pss_nil _)) (@pss_cons _ _ _ _ _ (@ps_set _ _ 1 _ _ _ _ sc__law_row.nd rfl (by first | exact Or.inl rfl | exact Or.inr rfl) (@pe_ix _ _ _ _ _ _ _ (ix_get hu1) (@pe_lst _ _ _ _ (@pa_cX _ _ _ _ _ (@pe_str _ _ _ _) (@pa_cX _ _ _ _ _ (@pe_str _ _ _ _) (@pa_cX _ _ _ _ _ (@pe_str _ _ _ _) (@pa_cX _ _ _ _ _ (@pe_str _ _ _ _) (@pa_cX _ _ _ _ _ (@pe_str _ _ _ _) (@pa_cX _ _ _ _ _ (@pe_str _ _ _ _) (@pa_nil _) (by rfl)) (by rfl)) (by rfl)) (by rfl)) (by rfl)) (by rfl))) (@pe_fn _ _ _ _ _ _ _ _ _ _ _ F__law_next hr (@pa_cX _ _ _ _ _ (@pv _ 0 _ _ (by rfl) (by first | exact Or.inl rfl | exact Or.inr (Or.inl rfl) | exact Or.inr (Or.inr rfl)) (by decide) (by decide)) (@pa_cX _ _ _ _ _ (@pe_int _ _ _ _) (@pa_nil _) (by rfl)) (by rfl)) (by decide) (by rfl) (by decide) (by rfl) (by rfl)) (fun _ _ => rfl)) (by rfl) (by first | exact .inl rfl | exact .inr rfl | assumption)) (@pss_cons _ _ _ _ _ (@ps_set _ _ 8 _ _ _ _ sc__law_row.nd rfl (by first | exact Or.inl rfl | exact Or.inr rfl) (@pe_fn _ _ _ _ _ _ _ _ _ _ _ F__law_next hr (@pa_cX _ _ _ _ _ (@pv _ 0 _ _ (by rfl) (by first | exact Or.inl rfl | exact Or.inr (Or.inl rfl) | exact Or.inr (Or.inr rfl)) (by decide) (by decide)) (@pa_cX _ _ _ _ _ (@pe_int _ _ _ _) (@pa_nil _) (by rfl)) (by rfl)) (by decide) (by rfl) (by decide) (by rfl) (by rfl)) (by rfl) (by first | exact .inl rfl | exact .inr rfl | assumption)) (@pss_cons _ _ _ _ _ (@ps_if _ _ _ _ _ _ _ _ (@pt_cmpR _ _ _ _ _ _ _ _ op_eq (@pv _ 1 _ _ (by rfl) (by first | exact Or.inl rfl | exact Or.inr (Or.inl rfl) | exact Or.inr (Or.inr rfl)) (by decide) (by decide)) (@pe_str _ _ _ _) (nomark _)) (@pss_cons _ _ _ _ _ (@ps_setC _ _ _ _ _ _ _ _ _ _ _ 9 _ _ _ ["_law_k"] ["_law_draw_here"] [0] rfl sc__law_row.nd rfl (by first | exact Or.inl rfl | exact Or.inr rfl) _ cs__law_row_3 (@pi_range1 _ _ _ _ _ _ rfl (hb _ (by decide)) (@pa_cX _ _ _ _ _ (@pe_op _ _ _ _ _ _ _ _ op_add (@pe_int _ _ _ _) (@pe_fn _ _ _ _ _ _ _ _ _ _ _ F__law_next hr (@pa_cX _ _ _ _ _ (@pv _ 0 _ _ (by rfl) (by first | exact Or.inl rfl | exact Or.inr (Or.inl rfl) | exact Or.inr (Or.inr rfl)) (by decide) (by decide)) (@pa_cX _ _ _ _ _ (@pe_int _ _ _ _) (@pa_nil _) (by rfl)) (by rfl)) (by decide) (by rfl) (by decide) (by rfl) (by rfl))) (@pa_nil _) (by rfl)) (by rfl)) (fun _ _ _ _ => (@pg_name _ _ 0 _ cs__law_row_3.nd rfl (by first | exact Or.inl rfl | exact Or.inr rfl) (by first | exact .inl rfl | exact .inr rfl | assumption))) (fun _ _ _ _ => (@pf_nil _)) (fun _ _ _ _ => (@pe_item_str _ _ _ _ _ _ (@pe_str _ _ _ _) (@pe_fn _ _ _ _ _ _ _ _ _ _ _ F__law_next hr (@pa_cX _ _ _ _ _ (@pv _ 1 _ _ (by rfl) (by first | exact Or.inl rfl | exact Or.inr (Or.inl rfl) | exact Or.inr (Or.inr rfl)) (by decide) (by decide)) (@pa_cX _ _ _ _ _ (@pe_int _ _ _ _) (@pa_nil _) (by rfl)) (by rfl)) (by decide) (by rfl) (by decide) (by rfl) (by rfl)) (fun _ _ => rfl))) rfl (by rfl) (by rfl) (by rfl) (by first | exact .inl rfl | exact .inr rfl | assumption) (by intro _; rfl)) (@pss_one _ _ _ (@ps_set _ _ 8 _ _ _ _ sc__law_row.nd rfl (by first | exact Or.inl rfl | exact Or.inr rfl) (@pe_tup _ _ _ _ _ (@pa_cX _ _ _ _ _ (@pv _ 8 _ _ (by rfl) (by first | exact Or.inl rfl | exact Or.inr (Or.inl rfl) | exact Or.inr (Or.inr rfl)) (by decide) (by decide)) (@pa_cX _ _ _ _ _ (@pe_join _ _ _ _ _ _ _ (@pe_str _ _ _ _) (@pv _ 9 _ _ (by rfl) (by first | exact Or.inl rfl | exact Or.inr (Or.inl rfl) | exact Or.inr (Or.inr rfl)) (by decide) (by decide)) (by constructor <;> rfl)) (@pa_nil _) (by rfl)) (by rfl))) (by rfl) (by first | exact .inl rfl | exact .inr rfl | assumption)))) (@pss_nil _)) (@pss_cons _ _ _ _ _ (@ps_if _ _ _ _ _ _ _ _ (@pt_cmpR _ _ _ _ _ _ _ _ (op_inX hu1) (@pv _ 1 _ _ (by rfl) (by first | exact Or.inl rfl | exact Or.inr (Or.inl rfl) | exact Or.inr (Or.inr rfl)) (by decide) (by decide)) (@pe_lst _ _ _ _ (@pa_cX _ _ _ _ _ (@pe_str _ _ _ _) (@pa_cX _ _ _ _ _ (@pe_str _ _ _ _) (@pa_cX _ _ _ _ _ (@pe_str _ _ _ _) (@pa_nil _) (by rfl)) (by rfl)) (by rfl))) rfl) (@pss_one _ _ _ (@ps_set _ _ 8 _ _ _ _ sc__law_row.nd rfl (by first | exact Or.inl rfl | exact Or.inr rfl) (@pe_ix _ _ _ _ _ _ _ (ix_get hu1) (@pe_lst _ _ _ _ (@pa_cX _ _ _ _ _ (@pe_str _ _ _ _) (@pa_cX _ _ _ _ _ (@pe_str _ _ _ _) (@pa_cX _ _ _ _ _ (@pe_str _ _ _ _) (@pa_nil _) (by rfl)) (by rfl)) (by rfl))) (@pe_fn _ _ _ _ _ _ _ _ _ _ _ F__law_next hr (@pa_cX _ _ _ _ _ (@pv _ 0 _ _ (by rfl) (by first | exact Or.inl rfl | exact Or.inr (Or.inl rfl) | exact Or.inr (Or.inr rfl)) (by decide) (by decide)) (@pa_cX _ _ _ _ _ (@pe_int _ _ _ _) (@pa_nil _) (by rfl)) (by rfl)) (by decide) (by rfl) (by decide) (by rfl) (by rfl)) (fun _ _ => rfl)) (by rfl) (by first | exact .inl rfl | exact .inr rfl | assumption))) (@pss_nil _)) (@pss_one _ _ _ (@ps_ret _ _ _ _ (@pe_op _ _ _ _ _ _ _ _ (op_catTK (K := K)) (@pv _ 2 _ _ (by rfl) (by first | exact Or.inl rfl | exact Or.inr (Or.inl rfl) | exact Or.inr (Or.inr rfl)) (by decide) (by decide)) (@pe_tup _ _ _ _ _ (@pa_cX _ _ _ _ _ (@pv _ 1 _ _ (by rfl) (by first | exact Or.inl rfl | exact Or.inr (Or.inl rfl) | exact Or.inr (Or.inr rfl)) (by decide) (by decide)) (@pa_cX _ _ _ _ _ (@pv _ 8 _ _ (by rfl) (by first | exact Or.inl rfl | exact Or.inr (Or.inl rfl) | exact Or.inr (Or.inr rfl)) (by decide) (by decide)) (@pa_cX _ _ _ _ _ (@pe_ix _ _ _ _ _ _ _ (ix_get hu1) (@pe_lst _ _ _ _ (@pa_cX _ _ _ _ _ (@pe_str _ _ _ _) (@pa_cX _ _ _ _ _ (@pe_str _ _ _ _) (@pa_cX _ _ _ _ _ (@pe_str _ _ _ _) (@pa_nil _) (by rfl)) (by rfl)) (by rfl))) (@pe_fn _ _ _ _ _ _ _ _ _ _ _ F__law_next hr (@pa_cX _ _ _ _ _ (@pv _ 0 _ _ (by rfl) (by first | exact Or.inl rfl | exact Or.inr (Or.inl rfl) | exact Or.inr (Or.inr rfl)) (by decide) (by decide)) (@pa_cX _ _ _ _ _ (@pe_int _ _ _ _) (@pa_nil _) (by rfl)) (by rfl)) (by decide) (by rfl) (by decide) (by rfl) (by rfl)) (fun _ _ => rfl)) (@pa_nil _) (by rfl)) (by rfl)) (by rfl)))))))))))))))))), ?_⟩
    simp (maxSteps := 1000000) only [tComp_eq, rGet, rInX, inO_l', rTupX, Nat.reduceSub, upd_same, Nat.reduceAdd, iRng1, List.cons.injEq, tSeq, exists_and_left, tIfS, tTest, tOp, tVar, tC, rI0, tRet, tAsg, gName, tNext, tCall, tCons, tNil, tCB, tLst, tTup, L2.start, List.map_cons, List.map_nil, List.length_cons, List.length_nil, List.replicate, List.cons_append, List.nil_append, List.getElem?_cons_zero, List.getElem?_cons_succ, List.set_cons_zero, List.set_cons_succ, Option.some.injEq, exists_eq_left', V.int.injEq, V.bl.injEq, V.ref.injEq, V.str.injEq, and_true, List.append_nil, tJoin]
    refine ⟨by rw [sizeLine_eq]; decide, ?_⟩
    intro p1 n1
    generalize z1 : upd H p1 _ = H1
    obtain ⟨s1, e1⟩ := new_same z1 n1
    have fin : ∀ (Hn : Hp) (p5 : Addr) (hd ys : List V), Hn p5 = some (.tup hd) → hd.length = 3 → Dr Hn pd → Keep [pd] H Hn → 0 < ys.length → ys.length ≤ 10 → (∀ l H', Same Hn H' → H' l = some (.tup (hd ++ ys)) → isR H' (.ref l)) → ∀ p2, Hn p2 = none → rCatT K (.ref p5) (.ref p2) (upd Hn p2 (.tup ys)) Q := fun Hn p5 hd ys e5 hl dn kn h0 h10 hr p2 n2 => by
      have s2 : Same Hn (upd Hn p2 (.tup ys)) := .upd_new n2
      refine ⟨p5, p2, _, _, rfl, rfl, SqT.of (s2 _ _ e5), SqT.of upd_same, (fun z => by rw [z] at hl; cases hl), (by rw [sizeLine_eq]; omega), (fun z => by rw [z] at h0; cases h0), fun _ l nl => ?_⟩
      have s3 := s2.trans (Same.upd_new (o := .tup (hd ++ ys)) nl)
      exact q _ _ (hr l _ s3 upd_same) (dn.same s3) (kn.same s3)
    refine next_ok (d.same s1) (by decide) (by decide) fun r H2 hr2 d2 k2 => ?_
    have e12 := k2 _ _ e1 (by simp [d.ne n1])
    refine ⟨_, e12, ?_⟩
    have k02 : Keep [pd] H H2 := s1.keep.trans k2
    have hr7 : r < 7 := by omega
    match r, hr7 with
    | 0, _ =>
      refine ⟨_, rfl, pd, rfl, d2, ?_⟩
      rintro _ H3 ⟨n, rfl, hn⟩ d3 k3
      refine next_ok d3 (by decide) (by decide) fun h H4 hh d4 k4 => ⟨by rw [sizeLine_eq]; decide, ?_⟩
      intro p5 n5
      generalize z5 : upd H4 p5 _ = H5
      obtain ⟨s5, e5⟩ := new_same z5 n5
      have d5 := d4.same s5
      have k5 := ((k02.trans k3).trans k4).same s5
      have hn' : n ≤ 10 ^ 13 := by omega
      have hh' : h ≤ 10 ^ 13 := by omega

      simp (maxSteps := 1000000) only [rEq_ss, decide_true, if_true, exists_eq_left', V.bl.injEq]
      refine next_ok d5 (by decide) (by decide) fun m H6 hm d6 k6 => ⟨(m : Int), rfl, by omega, by omega, ?_⟩
      refine comp_draw (pd := pd) (fun H v p => RPc H v p ∧ p.d.Ok ∧ p.Sm ∧ p.d.Lo) (fun _ _ _ _ _ h k z => ⟨h.1.keep k z, h.2⟩) (by omega) d6 (fun i H7 Q' d7 hq => ?_) (fun D H7 vs ps nD eD P hl d7 k7 => ⟨D, rfl, vs, eD, ?_⟩)
      · simp (maxSteps := 1000000) only [cSt, tVar, tCall, tCons, tNil, List.map_cons, List.map_nil, List.replicate, List.cons_append, List.nil_append, List.getElem?_cons_zero, List.getElem?_cons_succ, List.set_cons_zero, Option.some.injEq, exists_eq_left', List.append_nil, Option.join_some]
        refine ⟨pd, rfl, d7, ?_⟩
        rintro v H8 ⟨p, hp⟩ d8 k8
        exact hq v p H8 hp d8 k8
      · intro p8 n8
        generalize z8 : upd H7 p8 _ = H8
        obtain ⟨s8, e8⟩ := new_same z8 n8
        refine next_ok (d7.same s8) (by decide) (by decide) fun x H9 hx d9 k9 => ⟨pd, rfl, d9, ?_⟩
        rintro _ H10 ⟨y, rfl, hy⟩ d10 k10
        have ka : Keep [pd] H8 H10 := k9.trans k10
        have kb : Keep [pd] H5 H10 := ((k6.trans k7).same s8).trans ka
        refine ⟨by rw [sizeLine_eq]; decide, fin H10 p5 _ _ (kb _ _ e5 (by simp [d4.ne n5])) rfl d10 (k5.trans kb) (by simp) (by simp) fun l H' s' e' => ?_⟩
        have e8' := s' _ _ (ka _ _ e8 (by simp [d7.ne n8]))
        have P' : Paired (fun v p => RPc H' v p ∧ p.d.Ok ∧ p.Sm ∧ p.d.Lo) vs ps := paired_imp (fun _ _ z => ⟨((z.1.same s8).keep ka (d7.same s8).noT).same s', z.2⟩) P
        have A := paired_all P'
        have hl4 : ps.length ≤ 4 := by omega
        have hvl := P'.length
        refine ⟨.came n h x y ps, ⟨l, p8, vs, rfl, e', e8', paired_imp (fun _ _ z => z.1) P'⟩, ⟨_, .tup e' (.cons (.str (ok_of _)) (.cons (.int _) (.cons (.int _) (.cons (.int _) (.cons (.int _) (.cons (.tup e8' (ims_of P' fun v a _ z => z.1.im z.2.2.2) (by omega)) .nil)))))) (by simp), rfl⟩, fun p hp => (A p hp).1, hn', hh', (show x ≤ 10 ^ 13 by omega), (show y ≤ 10 ^ 13 by omega), hl4, fun p hp => (A p hp).2.1⟩
    | 1, _ =>
      refine ⟨_, rfl, pd, rfl, d2, ?_⟩
      rintro _ H3 ⟨n, rfl, hn⟩ d3 k3
      refine next_ok d3 (by decide) (by decide) fun h H4 hh d4 k4 => ⟨by rw [sizeLine_eq]; decide, ?_⟩
      intro p5 n5
      generalize z5 : upd H4 p5 _ = H5
      obtain ⟨s5, e5⟩ := new_same z5 n5
      have d5 := d4.same s5
      have k5 := ((k02.trans k3).trans k4).same s5
      have hn' : n ≤ 10 ^ 13 := by omega
      have hh' : h ≤ 10 ^ 13 := by omega
      have hne_came : (Str.ofString "way" = Str.ofString "came") = False := by simp; decide
      simp (maxSteps := 1000000) only [rEq_ss, decide_true, decide_false, if_false, if_true, Bool.false_eq_true, exists_eq_left', V.bl.injEq, hne_came]
      refine next_ok d5 (by decide) (by decide) fun y H6 hy d6 k6 => ⟨by rw [sizeLine_eq]; decide, ?_⟩
      intro p7 n7
      generalize z7 : upd H6 p7 _ = H7
      obtain ⟨s7, e7⟩ := new_same z7 n7
      refine next_ok (d6.same s7) (by decide) (by decide) fun b H8 hb8 d8 k8 => ?_
      have e78 := k8 _ _ e7 (by simp [d6.ne n7])
      obtain ⟨o, eo, so⟩ := opt_ok (y := y) (b := b) (by omega) (by omega)
      refine ⟨_, e78, _, eo, pd, rfl, d8, ?_⟩
      rintro _ H9 ⟨z, rfl, hz⟩ d9 k9
      refine ⟨by rw [sizeLine_eq]; decide, ?_⟩
      intro p10 n10
      generalize z10 : upd H9 p10 _ = H10
      obtain ⟨s10, e10⟩ := new_same z10 n10
      refine next_ok (d9.same s10) (by decide) (by decide) fun c H11 hc d11 k11 => ?_
      have e1011 := k11 _ _ e10 (by simp [d9.ne n10])
      obtain ⟨o2, eo2, so2⟩ := opt_ok (y := z) (b := c) (by omega) (by omega)
      refine ⟨_, e1011, _, eo2, ?_⟩
      refine next_ok d11 (by decide) (by decide) fun x H12 hx d12 k12 => ⟨by rw [sizeLine_eq]; decide, ?_⟩
      have kb : Keep [pd] H5 H12 := (((((k6.same s7).trans k8).trans k9).same s10).trans k11).trans k12
      refine fin H12 p5 _ _ (kb _ _ e5 (by simp [d4.ne n5])) rfl d12 (k5.trans kb) (by simp) (by simp) fun l H' s' e' => ?_
      exact ⟨.way n h x o o2, ⟨l, rfl, e'⟩, ⟨_, .tup e' (.cons (.str (ok_of _)) (.cons (.int _) (.cons (.int _) (.cons (.int _) (.cons (im_o _) (.cons (im_o _) .nil)))))) (by simp), rfl⟩, trivial, hn', hh', (show x ≤ 10 ^ 13 by omega), so, so2⟩
    | 2, _ =>
      refine ⟨_, rfl, pd, rfl, d2, ?_⟩
      rintro _ H3 ⟨n, rfl, hn⟩ d3 k3
      refine next_ok d3 (by decide) (by decide) fun h H4 hh d4 k4 => ⟨by rw [sizeLine_eq]; decide, ?_⟩
      intro p5 n5
      generalize z5 : upd H4 p5 _ = H5
      obtain ⟨s5, e5⟩ := new_same z5 n5
      have d5 := d4.same s5
      have k5 := ((k02.trans k3).trans k4).same s5
      have hn' : n ≤ 10 ^ 13 := by omega
      have hh' : h ≤ 10 ^ 13 := by omega
      have hne_came : (Str.ofString "wish" = Str.ofString "came") = False := by simp; decide
      have hne_way : (Str.ofString "wish" = Str.ofString "way") = False := by simp; decide
      have hne_here : (Str.ofString "wish" = Str.ofString "here") = False := by simp; decide
      have hne_gone : (Str.ofString "wish" = Str.ofString "gone") = False := by simp; decide
      have hne_read : (Str.ofString "wish" = Str.ofString "read") = False := by simp; decide
      have hne_sent : (Str.ofString "wish" = Str.ofString "sent") = False := by simp; decide
      simp (maxSteps := 1000000) only [rEq_ss, decide_false, if_false, Bool.false_eq_true, exists_eq_left', V.bl.injEq, hne_came, hne_way, hne_here, hne_gone, hne_read, hne_sent]
      refine ⟨by rw [sizeLine_eq]; decide, ?_⟩
      intro p6 n6
      generalize z6 : upd H5 p6 _ = H6
      obtain ⟨s6, e6⟩ := new_same z6 n6
      have tail : ∀ (Hn : Hp) (wd wt : V), Hn p5 = some (HO.tup [V.str (Str.ofString "wish"), V.int (n : Int), V.int (h : Int)]) → Dr Hn pd → Keep [pd] H Hn → (∀ (z : List Nat) (l : Addr) (H' : Hp), Tok z → z.length ≤ 10 → Lo z → Keep [pd] Hn H' → H' l = some (.tup [V.str (Str.ofString "wish"), V.int (n : Int), V.int (h : Int), wd, wt, V.str (S z)]) → isR H' (.ref l)) →
          3 ≤ sizeLine ∧ ∀ p_2 : Addr, Hn p_2 = none → sp_next [V.ref pd, V.int 3] (upd Hn p_2 (HO.lst [V.str (Str.ofString "ok"), V.str (Str.ofString "shut"), V.str (Str.ofString "open")])) (fun y H2 => ∃ x, H2 p_2 = some x ∧ ∃ x_1, getO x y = some x_1 ∧ 3 ≤ sizeLine ∧ ∀ p : Addr, H2 p = none → rCatT K (V.ref p5) (V.ref p) (upd H2 p (HO.tup [wd, wt, x_1])) Q) E0 := fun Hn wd wt ep dn kn hR => by
        refine ⟨by rw [sizeLine_eq]; decide, ?_⟩
        intro p7 n7
        generalize z7 : upd Hn p7 _ = H7
        obtain ⟨s7, e7⟩ := new_same z7 n7
        refine next_ok (dn.same s7) (by decide) (by decide) fun b H8 hb8 d8 k8 => ?_
        have e78 := k8 _ _ e7 (by simp [dn.ne n7])
        obtain ⟨z, ez, tz, lz, oz⟩ := end_ok (b := b) (by omega)
        have kb : Keep [pd] Hn H8 := s7.keep.trans k8
        have np : p5 ∉ [pd] := by simp [d4.ne n5]
        exact ⟨_, e78, _, ez, by rw [sizeLine_eq]; decide, fin H8 p5 _ _ (kb _ _ ep np) rfl d8 (kn.trans kb) (by simp) (by simp) fun l H' s' e' => hR z l H' tz lz oz (kb.same s') e'⟩
      refine next_ok (d5.same s6) (by decide) (by decide) fun g H7 hg d7 k7 => ?_
      have e67 := k7 _ _ e6 (by simp [d5.ne n6])
      have np : p5 ∉ [pd] := by simp [d4.ne n5]
      have k57 : Keep [pd] H5 H7 := s6.keep.trans k7
      refine ⟨_, e67, ?_⟩
      have hg6 : g < 6 := by omega
      have go : ∀ (v : String), isGo (K83.w v) → Tok (K83.w v) → (K83.w v).length ≤ 10 → K83.w v ≠ K83.w "put" → ∀ (k : Nat) (H8 : Hp), k < 12 → Dr H8 pd → Keep [pd] H5 H8 → ∀ (z : List Nat) (l : Addr) (H' : Hp), Tok z → z.length ≤ 10 → Lo z → Keep [pd] H8 H' → H' l = some (.tup [V.str (Str.ofString "wish"), V.int (n : Int), V.int (h : Int), V.str (Str.ofString v), V.int (k : Int), V.str (S z)]) → isR H' (.ref l) := fun v hv tv lv np k H8 hk d8 k8 z l H' tz lz oz _ e' => by
        rw [S_of v] at e'
        have lk := nT_len (n := k) (by omega)
        exact ⟨.wish n h z (K83.w v) (nT k), ⟨l, _, rfl, e', .inr ⟨k, rfl, rfl, by omega⟩⟩, ⟨_, .tup e' (.cons (.str (ok_of _)) (.cons (.int _) (.cons (.int _) (.cons (.str (lo_w _).ok) (.cons (.int _) (.cons (.str oz.ok) .nil)))))) (by simp), _, rfl, np, .inl ⟨hv, k, rfl, rfl⟩⟩, ⟨tz, tv, nT_tok, np⟩, hn', hh', lz, lv, by omega, fun z => np (S_inj (by rw [← S_of "put"]; exact z))⟩
      have nm : ∀ (v : String), isNm (K83.w v) → Tok (K83.w v) → (K83.w v).length ≤ 10 → K83.w v ≠ K83.w "put" → ∀ (u : List Nat), Tok u → u.length ≤ 10 → Lo u → ∀ (H8 : Hp) (z : List Nat) (l : Addr) (H' : Hp), Tok z → z.length ≤ 10 → Lo z → Keep [pd] H8 H' → H' l = some (.tup [V.str (Str.ofString "wish"), V.int (n : Int), V.int (h : Int), V.str (Str.ofString v), V.str (S u), V.str (S z)]) → isR H' (.ref l) := fun v hv tv lv np u tu lu ou H8 z l H' tz lz oz _ e' => by
        rw [S_of v] at e'
        exact ⟨.wish n h z (K83.w v) u, ⟨l, _, rfl, e', .inl ⟨rfl, by omega⟩⟩, ⟨_, .tup e' (.cons (.str (ok_of _)) (.cons (.int _) (.cons (.int _) (.cons (.str (lo_w _).ok) (.cons (.str ou.ok) (.cons (.str oz.ok) .nil)))))) (by simp), _, rfl, np, .inr ⟨hv, rfl⟩⟩, ⟨tz, tv, tu, np⟩, hn', hh', lz, lv, by omega, fun z => np (S_inj (by rw [← S_of "put"]; exact z))⟩
      match g, hg6 with
      | 0, _ =>
        refine ⟨_, rfl, next_ok d7 (by decide) (by decide) fun k H8 hk d8 k8 => ?_⟩
        have hne : (Str.ofString "begin" = Str.ofString "put") = False := by simp; decide
        simp (maxSteps := 1000000) only [rEq_ss, decide_false, if_false, Bool.false_eq_true, exists_eq_left', V.bl.injEq, hne]
        refine ⟨by rw [sizeLine_eq]; decide, ?_⟩
        intro p9 n9
        generalize z9 : upd H8 p9 _ = H9
        obtain ⟨s9, e9⟩ := new_same z9 n9
        refine ⟨false, by decide, ?_⟩
        have k9 := (k57.trans k8).same s9
        exact tail H9 _ _ (k9 _ _ e5 np) (d8.same s9) (k5.trans k9) (go "begin" (.inl rfl) (tok_w (by decide)) (by decide) (by decide) k H9 (by omega) (d8.same s9) k9)
      | 1, _ =>
        refine ⟨_, rfl, next_ok d7 (by decide) (by decide) fun k H8 hk d8 k8 => ?_⟩
        have hne : (Str.ofString "end" = Str.ofString "put") = False := by simp; decide
        simp (maxSteps := 1000000) only [rEq_ss, decide_false, if_false, Bool.false_eq_true, exists_eq_left', V.bl.injEq, hne]
        refine ⟨by rw [sizeLine_eq]; decide, ?_⟩
        intro p9 n9
        generalize z9 : upd H8 p9 _ = H9
        obtain ⟨s9, e9⟩ := new_same z9 n9
        refine ⟨false, by decide, ?_⟩
        have k9 := (k57.trans k8).same s9
        exact tail H9 _ _ (k9 _ _ e5 np) (d8.same s9) (k5.trans k9) (go "end" (.inr rfl) (tok_w (by decide)) (by decide) (by decide) k H9 (by omega) (d8.same s9) k9)
      | 2, _ =>
        refine ⟨_, rfl, next_ok d7 (by decide) (by decide) fun k H8 hk d8 k8 => ?_⟩
        simp (maxSteps := 1000000) only [rEq_ss, decide_true, if_true, exists_eq_left', V.bl.injEq]
        refine next_ok d8 (by decide) (by decide) fun m H9 hm d9 k9 => ⟨(m : Int), rfl, by omega, by omega, ?_⟩
        refine comp_draw (pd := pd) (fun _ v c => v = V.str (S [c]) ∧ c < 1114112) (fun _ _ _ _ _ h _ _ => h) (by omega) d9 (fun i H10 Q' d10 hq => ?_) (fun D H10 vs xs nD eD P hl d10 k10 => ?_)
        · simp (maxSteps := 1000000) only [cSt, tOp, tVar, tC, tCall, tCons, tNil, List.map_cons, List.map_nil, List.replicate, List.cons_append, List.nil_append, List.getElem?_cons_zero, List.getElem?_cons_succ, List.set_cons_zero, Option.some.injEq, exists_eq_left', V.str.injEq, List.append_nil, Option.join_some]
          refine next_ok d10 (by decide) (by decide) fun x H11 hx d11 k11 => ?_
          have hx' : x < 4 := by omega
          have hlen : (Str.ofString "x; 2").length = 4 := by decide
          refine ⟨(x : Int), rfl, by omega, by omega, by rw [hlen]; omega, ?_⟩
          rw [Int.toNat_natCast]
          match x, hx' with
          | 0, _ => exact ⟨120, by decide, hq _ 120 _ ⟨rfl, by decide⟩ d11 k11⟩
          | 1, _ => exact ⟨59, by decide, hq _ 59 _ ⟨rfl, by decide⟩ d11 k11⟩
          | 2, _ => exact ⟨32, by decide, hq _ 32 _ ⟨rfl, by decide⟩ d11 k11⟩
          | 3, _ => exact ⟨50, by decide, hq _ 50 _ ⟨rfl, by decide⟩ d11 k11⟩
        · obtain ⟨e, hz⟩ := paired_str P
          have hl2 : xs.length = 1 + m := by omega
          obtain ⟨j1, j2, j3⟩ := join_fits0 (xs.map fun c => [c]) rfl (by rw [sum_one]; omega)
          refine ⟨D, rfl, (xs.map fun c => [c]).map S, by rw [eD, e], j1, j2, by rw [sizeLine_eq]; decide, ?_⟩
          rw [j3, flat_one]
          intro p11 n11
          generalize z11 : upd H10 p11 _ = H11
          obtain ⟨s11, e11⟩ := new_same z11 n11
          refine ⟨by rw [sizeLine_eq]; decide, ?_⟩
          intro p12 n12
          generalize z12 : upd H11 p12 _ = H12
          obtain ⟨s12, e12⟩ := new_same z12 n12
          refine ⟨false, by decide, ?_⟩
          have k12 := ((((k57.trans k8).trans k9).trans k10).same s11).same s12
          have d12 := (d10.same s11).same s12
          refine tail H12 _ _ (k12 _ _ e5 np) d12 (k5.trans k12) fun z l H' tz lz oz k13 e' => ?_
          have e11' := k13 _ _ (s12 _ _ e11) (by simp [d10.ne n11])
          exact ⟨.put n h z k xs, ⟨l, p11, rfl, e', e11'⟩, ⟨_, .tup e' (.cons (.str (ok_of _)) (.cons (.int _) (.cons (.int _) (.cons (.str (ok_of _)) (.cons (.tup e11' (.cons (.int _) (.cons (.str (Lo.ok hz)) .nil)) (by simp)) (.cons (.str oz.ok) .nil)))))) (by simp), rfl⟩, tz, hn', hh', lz, (show k ≤ 10 ^ 13 by omega), by omega⟩
      | 3, _ =>
        refine ⟨_, rfl, next_ok d7 (by decide) (by decide) fun k H8 hk d8 k8 => ?_⟩
        have hne : (Str.ofString "bind" = Str.ofString "put") = False := by simp; decide
        simp (maxSteps := 1000000) only [rEq_ss, decide_false, if_false, Bool.false_eq_true, exists_eq_left', V.bl.injEq, hne]
        refine ⟨by rw [sizeLine_eq]; decide, ?_⟩
        intro p9 n9
        generalize z9 : upd H8 p9 _ = H9
        obtain ⟨s9, e9⟩ := new_same z9 n9
        refine ⟨true, by decide, ?_⟩
        rw [if_pos rfl]
        refine ⟨by rw [sizeLine_eq]; decide, ?_⟩
        intro p10 n10
        generalize z10 : upd H9 p10 _ = H10
        obtain ⟨s10, e10⟩ := new_same z10 n10
        have d10 := (d8.same s9).same s10
        refine next_ok d10 (by decide) (by decide) fun b H11 hb11 d11 k11 => ?_
        have e1011 := k11 _ _ e10 (by simp [(d8.same s9).ne n10])
        obtain ⟨u, eu, tu, lu, ou⟩ := nam_ok (b := b) (by omega)
        have kk := (((k57.trans k8).same s9).same s10).trans k11
        exact ⟨_, e1011, _, eu, tail H11 _ _ (kk _ _ e5 np) d11 (k5.trans kk) (nm "bind" (.inl rfl) (tok_w (by decide)) (by decide) (by decide) u tu lu ou H11)⟩
      | 4, _ =>
        refine ⟨_, rfl, next_ok d7 (by decide) (by decide) fun k H8 hk d8 k8 => ?_⟩
        have hne : (Str.ofString "free" = Str.ofString "put") = False := by simp; decide
        simp (maxSteps := 1000000) only [rEq_ss, decide_false, if_false, Bool.false_eq_true, exists_eq_left', V.bl.injEq, hne]
        refine ⟨by rw [sizeLine_eq]; decide, ?_⟩
        intro p9 n9
        generalize z9 : upd H8 p9 _ = H9
        obtain ⟨s9, e9⟩ := new_same z9 n9
        refine ⟨true, by decide, ?_⟩
        rw [if_pos rfl]
        refine ⟨by rw [sizeLine_eq]; decide, ?_⟩
        intro p10 n10
        generalize z10 : upd H9 p10 _ = H10
        obtain ⟨s10, e10⟩ := new_same z10 n10
        have d10 := (d8.same s9).same s10
        refine next_ok d10 (by decide) (by decide) fun b H11 hb11 d11 k11 => ?_
        have e1011 := k11 _ _ e10 (by simp [(d8.same s9).ne n10])
        obtain ⟨u, eu, tu, lu, ou⟩ := nam_ok (b := b) (by omega)
        have kk := (((k57.trans k8).same s9).same s10).trans k11
        exact ⟨_, e1011, _, eu, tail H11 _ _ (kk _ _ e5 np) d11 (k5.trans kk) (nm "free" (.inr (.inl rfl)) (tok_w (by decide)) (by decide) (by decide) u tu lu ou H11)⟩
      | 5, _ =>
        refine ⟨_, rfl, next_ok d7 (by decide) (by decide) fun k H8 hk d8 k8 => ?_⟩
        have hne : (Str.ofString "ask" = Str.ofString "put") = False := by simp; decide
        simp (maxSteps := 1000000) only [rEq_ss, decide_false, if_false, Bool.false_eq_true, exists_eq_left', V.bl.injEq, hne]
        refine ⟨by rw [sizeLine_eq]; decide, ?_⟩
        intro p9 n9
        generalize z9 : upd H8 p9 _ = H9
        obtain ⟨s9, e9⟩ := new_same z9 n9
        refine ⟨true, by decide, ?_⟩
        rw [if_pos rfl]
        refine ⟨by rw [sizeLine_eq]; decide, ?_⟩
        intro p10 n10
        generalize z10 : upd H9 p10 _ = H10
        obtain ⟨s10, e10⟩ := new_same z10 n10
        have d10 := (d8.same s9).same s10
        refine next_ok d10 (by decide) (by decide) fun b H11 hb11 d11 k11 => ?_
        have e1011 := k11 _ _ e10 (by simp [(d8.same s9).ne n10])
        obtain ⟨u, eu, tu, lu, ou⟩ := nam_ok (b := b) (by omega)
        have kk := (((k57.trans k8).same s9).same s10).trans k11
        exact ⟨_, e1011, _, eu, tail H11 _ _ (kk _ _ e5 np) d11 (k5.trans kk) (nm "ask" (.inr (.inr rfl)) (tok_w (by decide)) (by decide) (by decide) u tu lu ou H11)⟩
    | 3, _ =>
      refine ⟨_, rfl, pd, rfl, d2, ?_⟩
      rintro _ H3 ⟨n, rfl, hn⟩ d3 k3
      refine next_ok d3 (by decide) (by decide) fun h H4 hh d4 k4 => ⟨by rw [sizeLine_eq]; decide, ?_⟩
      intro p5 n5
      generalize z5 : upd H4 p5 _ = H5
      obtain ⟨s5, e5⟩ := new_same z5 n5
      have d5 := d4.same s5
      have k5 := ((k02.trans k3).trans k4).same s5
      have hn' : n ≤ 10 ^ 13 := by omega
      have hh' : h ≤ 10 ^ 13 := by omega
      have hne_came : (Str.ofString "here" = Str.ofString "came") = False := by simp; decide
      have hne_way : (Str.ofString "here" = Str.ofString "way") = False := by simp; decide
      simp (maxSteps := 1000000) only [rEq_ss, decide_true, decide_false, if_false, if_true, Bool.false_eq_true, exists_eq_left', V.bl.injEq, hne_came, hne_way]
      refine ⟨pd, rfl, d5, ?_⟩
      rintro v H6 ⟨p, hp, po, ps, pl⟩ d6 k6
      refine ⟨by rw [sizeLine_eq]; decide, fin H6 p5 _ _ (k6 _ _ e5 (by simp [d4.ne n5])) rfl d6 (k5.trans k6) (by simp) (by simp) fun l H' s' e' => ?_⟩
      exact ⟨.here n h p, ⟨l, v, rfl, e', hp.same s'⟩, ⟨_, .tup e' (.cons (.str (ok_of _)) (.cons (.int _) (.cons (.int _) (.cons ((hp.same s').im pl) .nil)))) (by simp), rfl⟩, po, hn', hh', ps⟩
    | 4, _ =>
      refine ⟨_, rfl, pd, rfl, d2, ?_⟩
      rintro _ H3 ⟨n, rfl, hn⟩ d3 k3
      refine next_ok d3 (by decide) (by decide) fun h H4 hh d4 k4 => ⟨by rw [sizeLine_eq]; decide, ?_⟩
      intro p5 n5
      generalize z5 : upd H4 p5 _ = H5
      obtain ⟨s5, e5⟩ := new_same z5 n5
      have d5 := d4.same s5
      have k5 := ((k02.trans k3).trans k4).same s5
      have hn' : n ≤ 10 ^ 13 := by omega
      have hh' : h ≤ 10 ^ 13 := by omega
      have hne_came : (Str.ofString "gone" = Str.ofString "came") = False := by simp; decide
      have hne_way : (Str.ofString "gone" = Str.ofString "way") = False := by simp; decide
      have hne_here : (Str.ofString "gone" = Str.ofString "here") = False := by simp; decide
      simp (maxSteps := 1000000) only [rEq_ss, decide_true, decide_false, if_false, if_true, Bool.false_eq_true, exists_eq_left', V.bl.injEq, hne_came, hne_way, hne_here]
      refine ⟨pd, rfl, d5, ?_⟩
      rintro v H6 ⟨p, hp, po, ps, pl⟩ d6 k6
      refine ⟨by rw [sizeLine_eq]; decide, ?_⟩
      intro p7 n7
      generalize z7 : upd H6 p7 _ = H7
      obtain ⟨s7, e7⟩ := new_same z7 n7
      refine next_ok (d6.same s7) (by decide) (by decide) fun b H8 hb8 d8 k8 => ?_
      have e78 := k8 _ _ e7 (by simp [d6.ne n7])
      obtain ⟨z, ez, tz, lz, oz⟩ := why_ok (b := b) (by omega)
      refine ⟨_, e78, _, ez, by rw [sizeLine_eq]; decide, ?_⟩
      have kb : Keep [pd] H5 H8 := (k6.same s7).trans k8
      refine fin H8 p5 _ _ (kb _ _ e5 (by simp [d4.ne n5])) rfl d8 (k5.trans kb) (by simp) (by simp) fun l H' s' e' => ?_
      have hp' := ((hp.same s7).keep k8 (d6.same s7).noT).same s'
      exact ⟨.gone n h z p, ⟨l, v, rfl, e', hp'⟩, ⟨_, .tup e' (.cons (.str (ok_of _)) (.cons (.int _) (.cons (.int _) (.cons (hp'.im pl) (.cons (.str oz.ok) .nil))))) (by simp), rfl⟩, ⟨tz, po⟩, hn', hh', lz, ps⟩
    | 5, _ =>
      refine ⟨_, rfl, pd, rfl, d2, ?_⟩
      rintro _ H3 ⟨n, rfl, hn⟩ d3 k3
      refine next_ok d3 (by decide) (by decide) fun h H4 hh d4 k4 => ⟨by rw [sizeLine_eq]; decide, ?_⟩
      intro p5 n5
      generalize z5 : upd H4 p5 _ = H5
      obtain ⟨s5, e5⟩ := new_same z5 n5
      have d5 := d4.same s5
      have k5 := ((k02.trans k3).trans k4).same s5
      have hn' : n ≤ 10 ^ 13 := by omega
      have hh' : h ≤ 10 ^ 13 := by omega
      have hne_came : (Str.ofString "read" = Str.ofString "came") = False := by simp; decide
      have hne_way : (Str.ofString "read" = Str.ofString "way") = False := by simp; decide
      have hne_here : (Str.ofString "read" = Str.ofString "here") = False := by simp; decide
      have hne_gone : (Str.ofString "read" = Str.ofString "gone") = False := by simp; decide
      simp (maxSteps := 1000000) only [rEq_ss, decide_true, decide_false, if_false, if_true, Bool.false_eq_true, exists_eq_left', V.bl.injEq, hne_came, hne_way, hne_here, hne_gone]
      refine next_ok d5 (by decide) (by decide) fun m H6 hm d6 k6 => ⟨(m : Int), rfl, by omega, by omega, ?_⟩
      refine comp_draw (pd := pd) (fun H v t => RTh H v t ∧ t.Ok ∧ t.Lo) (fun _ _ _ _ _ h k z => ⟨h.1.keep k z, h.2⟩) (by omega) d6 (fun i H7 Q' d7 hq => ?_) (fun D H7 vs ts nD eD P hl d7 k7 => ⟨D, rfl, vs, eD, ?_⟩)
      · simp (maxSteps := 1000000) only [cSt, tVar, tCall, tCons, tNil, List.map_cons, List.map_nil, List.replicate, List.cons_append, List.nil_append, List.getElem?_cons_zero, List.getElem?_cons_succ, List.set_cons_zero, Option.some.injEq, exists_eq_left', List.append_nil, Option.join_some]
        refine ⟨pd, rfl, d7, ?_⟩
        rintro v H8 ⟨t, ht⟩ d8 k8
        exact hq v t H8 ht d8 k8
      · intro p8 n8
        generalize z8 : upd H7 p8 _ = H8
        obtain ⟨s8, e8⟩ := new_same z8 n8
        refine next_ok (d7.same s8) (by decide) (by decide) fun x H10 hx d10 ka => ?_
        have kb : Keep [pd] H5 H10 := ((k6.trans k7).same s8).trans ka
        refine ⟨by rw [sizeLine_eq]; decide, fin H10 p5 _ _ (kb _ _ e5 (by simp [d4.ne n5])) rfl d10 (k5.trans kb) (by simp) (by simp) fun l H' s' e' => ?_⟩
        have e8' := s' _ _ (ka _ _ e8 (by simp [d7.ne n8]))
        have P' : Paired (fun v t => RTh H' v t ∧ t.Ok ∧ t.Lo) vs ts := paired_imp (fun _ _ z => ⟨((z.1.same s8).keep ka (d7.same s8).noT).same s', z.2⟩) P
        have A := paired_all P'
        have hl4 : ts.length ≤ 4 := by omega
        have hvl := P'.length
        exact ⟨.read n h x ts, ⟨l, p8, vs, rfl, e', e8', paired_imp (fun _ _ z => z.1) P'⟩, ⟨_, .tup e' (.cons (.str (ok_of _)) (.cons (.int _) (.cons (.int _) (.cons (.int _) (.cons (.tup e8' (ims_of P' fun v a _ z => z.1.im z.2.2) (by omega)) .nil))))) (by simp), rfl⟩, trivial, hn', hh', (show x ≤ 10 ^ 13 by omega), hl4, fun t ht => (A t ht).1⟩
    | 6, _ =>
      refine ⟨_, rfl, pd, rfl, d2, ?_⟩
      rintro _ H3 ⟨n, rfl, hn⟩ d3 k3
      refine next_ok d3 (by decide) (by decide) fun h H4 hh d4 k4 => ⟨by rw [sizeLine_eq]; decide, ?_⟩
      intro p5 n5
      generalize z5 : upd H4 p5 _ = H5
      obtain ⟨s5, e5⟩ := new_same z5 n5
      have d5 := d4.same s5
      have k5 := ((k02.trans k3).trans k4).same s5
      have hn' : n ≤ 10 ^ 13 := by omega
      have hh' : h ≤ 10 ^ 13 := by omega
      have hne_came : (Str.ofString "sent" = Str.ofString "came") = False := by simp; decide
      have hne_way : (Str.ofString "sent" = Str.ofString "way") = False := by simp; decide
      have hne_here : (Str.ofString "sent" = Str.ofString "here") = False := by simp; decide
      have hne_gone : (Str.ofString "sent" = Str.ofString "gone") = False := by simp; decide
      have hne_read : (Str.ofString "sent" = Str.ofString "read") = False := by simp; decide
      simp (maxSteps := 1000000) only [rEq_ss, decide_true, decide_false, if_false, if_true, Bool.false_eq_true, exists_eq_left', V.bl.injEq, hne_came, hne_way, hne_here, hne_gone, hne_read]
      refine next_ok d5 (by decide) (by decide) fun m H6 hm d6 k6 => ⟨(m : Int), rfl, by omega, by omega, ?_⟩
      refine comp_draw (pd := pd) (fun H v p => RSt H v p ∧ p.2.d.Ok ∧ (p.1 ≤ 10 ^ 13 ∧ p.2.Sm) ∧ p.2.d.Lo) (fun _ _ _ _ _ h k z => ⟨h.1.keep k z, h.2⟩) (by omega) d6 (fun i H7 Q' d7 hq => ?_) (fun D H7 vs ps nD eD P hl d7 k7 => ⟨D, rfl, vs, eD, ?_⟩)
      · simp (maxSteps := 1000000) only [Nat.reduceAdd, cSt, tVar, tCall, tCons, tNil, tTup, List.map_cons, List.map_nil, List.length_cons, List.length_nil, List.replicate, List.cons_append, List.nil_append, List.getElem?_cons_zero, List.getElem?_cons_succ, List.set_cons_zero, Option.some.injEq, exists_eq_left', List.append_nil, Option.join_some]
        refine ⟨pd, rfl, d7, ?_⟩
        rintro _ H8 ⟨a, rfl, ha⟩ d8 k8
        refine ⟨pd, rfl, d8, ?_⟩
        rintro v H9 ⟨p, hp, po, ps, pl⟩ d9 k9
        refine ⟨by rw [sizeLine_eq]; decide, ?_⟩
        intro p10 n10
        generalize z10 : upd H9 p10 _ = H10
        obtain ⟨s10, e10⟩ := new_same z10 n10
        exact hq _ (a, p) H10 ⟨⟨p10, v, rfl, e10, hp.same s10⟩, po, ⟨(show a ≤ 10 ^ 13 by omega), ps⟩, pl⟩ (d9.same s10) ((k8.trans k9).same s10)
      · intro p8 n8
        generalize z8 : upd H7 p8 _ = H8
        obtain ⟨s8, e8⟩ := new_same z8 n8
        refine next_ok (d7.same s8) (by decide) (by decide) fun x H9 hx d9 k9 => ⟨pd, rfl, d9, ?_⟩
        rintro _ H10 ⟨y, rfl, hy⟩ d10 k10
        have ka : Keep [pd] H8 H10 := k9.trans k10
        have kb : Keep [pd] H5 H10 := ((k6.trans k7).same s8).trans ka
        refine ⟨by rw [sizeLine_eq]; decide, fin H10 p5 _ _ (kb _ _ e5 (by simp [d4.ne n5])) rfl d10 (k5.trans kb) (by simp) (by simp) fun l H' s' e' => ?_⟩
        have e8' := s' _ _ (ka _ _ e8 (by simp [d7.ne n8]))
        have P' : Paired (fun v p => RSt H' v p ∧ p.2.d.Ok ∧ (p.1 ≤ 10 ^ 13 ∧ p.2.Sm) ∧ p.2.d.Lo) vs ps := paired_imp (fun _ _ z => ⟨((z.1.same s8).keep ka (d7.same s8).noT).same s', z.2⟩) P
        have A := paired_all P'
        have hl4 : ps.length ≤ 4 := by omega
        have hvl := P'.length
        exact ⟨.sent n h x y ps, ⟨l, p8, vs, rfl, e', e8', paired_imp (fun _ _ z => z.1) P'⟩, ⟨_, .tup e' (.cons (.str (ok_of _)) (.cons (.int _) (.cons (.int _) (.cons (.int _) (.cons (.tup e8' (ims_of P' fun v a _ z => z.1.im z.2.2.2) (by omega)) (.cons (.int _) .nil)))))) (by simp), rfl⟩, fun p hp => (A p hp).1, hn', hh', (show x ≤ 10 ^ 13 by omega), (show y ≤ 10 ^ 13 by omega), hl4, fun p hp => (A p hp).2.1⟩
end
end K83
namespace K83
open PySem L2
/-! ### adding texts told by their signs -/
def rAddS : R2 := fun x y H Q => ∃ a b : List Nat, x = .str (S a) ∧ y = .str (S b) ∧ a.length + b.length ≤ 100000 ∧ Q (.str (S (a ++ b))) H
theorem op_addS {X : Cx} : OpR X (binaryOp .Add) rAddS := op_add_str.weak fun _ _ _ _ ⟨a, b, h1, h2, hl, q⟩ => ⟨S a, S b, h1, h2, by rw [S_len, S_len, sizeLine_eq]; omega, by rw [S_app]; exact q⟩
def rStrS : List V → Hp → VK → Prop := fun xs H Q => (∃ n : Nat, xs = [.int (n : Int)] ∧ n ≤ 10 ^ 13 ∧ Q (.str (S (nT n))) H) ∨ (∃ z : List Nat, xs = [.str (S z)] ∧ Q (.str (S z)) H) ∨ (xs = [.non] ∧ Q (.str (S (w "None"))) H)
theorem call_strS {X : Cx} : CallR X (.type "str") rStrS := fun pins s σ H xs us Q I r h => call_strV pins s σ H xs us Q I r (by
  rcases h with ⟨n, e, hn, q⟩ | ⟨z, e, q⟩ | ⟨e, q⟩
  · exact .inl ⟨n, e, log13 hn, by have := S_num n; rw [← this] at q; exact q⟩
  · exact .inr (.inl ⟨_, e, q⟩)
  · exact .inr (.inr ⟨e, by rw [S_of]; exact q⟩))
theorem S_eq {a b : List Nat} : (S a = S b) = (a = b) := propext ⟨S_inj, fun h => by rw [h]⟩
theorem nat_eq {a b : Nat} : ((a : Int) = (b : Int)) = (a = b) := propext ⟨fun h => by omega, fun h => by rw [h]⟩
section
variable {P : Program} {w : World} {K : PySem.W.Frag} {mg : Str → Option Value} {base : Heap}
abbrev s__law_thing_text : Stmt := top 19
theorem sc__law_thing_text : FnScope ["_law_thing_here"] ["_law_thing_here"] (defScope s__law_thing_text) := ⟨rfl, rfl, rfl, by decide +kernel, rfl, by decide +kernel, by decide +kernel⟩
abbrev s__law_parcel_text : Stmt := top 20
theorem sc__law_parcel_text : FnScope ["_law_parcel_here", "_law_body_here", "_law_text_here", "_law_one"] ["_law_parcel_here"] (defScope s__law_parcel_text) := ⟨rfl, rfl, rfl, by decide +kernel, rfl, by decide +kernel, by decide +kernel⟩
theorem own_ltht (D : Def K mg "_law_thing_text" s__law_thing_text) (hb : Blt mg) : Own P w K mg base 1 "_law_thing_text" ["_law_thing_here"] sp_tht := by
  refine D.own sc__law_thing_text (fun _ _ _ _ _ _ us hl => match us, hl with | [_], _ => rfl) (fun vs H Q E h => ?_) (fun f cdv A outer s H vs Q E hr h => ?_)
  · obtain ⟨v, t, rfl, _⟩ := h
    rfl
  · obtain ⟨v, t, rfl, ⟨p, rfl, ep⟩, ht, q⟩ := h
    have hu := hr.units
    have hu1 : (A.deeper (PyProof.Rows.envOfC "_law_thing_text" (defScope s__law_thing_text) s.heap.objs.size f cdv)).units + 1 < cLine := by omega
    refine ⟨_, (@pss_cons _ _ _ _ _ (@ps_if _ _ _ _ _ _ _ _ (@pt_cmpR _ _ _ _ _ _ _ _ op_eq (@pe_callB _ _ _ _ _ _ _ _ _ call_lenX rfl (hb _ (by decide)) bt_len (@pa_cX _ _ _ _ _ (@pv _ 0 _ _ (by rfl) (by first | exact Or.inl rfl | exact Or.inr (Or.inl rfl) | exact Or.inr (Or.inr rfl)) (by decide) (by decide)) (@pa_nil _) (by rfl)) (by decide) (by decide) (by rfl) (by rfl)) (@pe_int _ _ _ _) (nomark _)) (@pss_one _ _ _ (@ps_ret _ _ _ _ (@pe_ix _ _ _ _ _ _ _ (ix_get hu1) (@pv _ 0 _ _ (by rfl) (by first | exact Or.inl rfl | exact Or.inr (Or.inl rfl) | exact Or.inr (Or.inr rfl)) (by decide) (by decide)) (@pe_int _ _ _ _) (fun _ _ => rfl)))) (@pss_nil _)) (@pss_one _ _ _ (@ps_ret _ _ _ _ (@pe_op _ _ _ _ _ _ _ _ op_addS (@pe_op _ _ _ _ _ _ _ _ op_addS (@pe_op _ _ _ _ _ _ _ _ op_addS (@pe_str _ _ _ _) (@pe_callTy _ _ _ _ _ _ _ _ _ call_strS rfl (hb _ (by decide)) bt_str (@pa_cX _ _ _ _ _ (@pe_callB _ _ _ _ _ _ _ _ _ call_lenX rfl (hb _ (by decide)) bt_len (@pa_cX _ _ _ _ _ (@pe_ix _ _ _ _ _ _ _ (ix_get hu1) (@pv _ 0 _ _ (by rfl) (by first | exact Or.inl rfl | exact Or.inr (Or.inl rfl) | exact Or.inr (Or.inr rfl)) (by decide) (by decide)) (@pe_int _ _ _ _) (fun _ _ => rfl)) (@pa_nil _) (by rfl)) (by decide) (by decide) (by rfl) (by rfl)) (@pa_nil _) (by rfl)) (by decide) (by decide) (by rfl) (by rfl))) (@pe_str _ _ _ _)) (@pe_ix _ _ _ _ _ _ _ (ix_get hu1) (@pv _ 0 _ _ (by rfl) (by first | exact Or.inl rfl | exact Or.inr (Or.inl rfl) | exact Or.inr (Or.inr rfl)) (by decide) (by decide)) (@pe_int _ _ _ _) (fun _ _ => rfl)))))), ?_⟩
    have e1 := S_of "signs "
    have e2 := S_of " "
    cases t with
    | beg =>
      have ep' : H p = some (.tup [.str (Str.ofString "begin")]) := ep
      simp (maxSteps := 1000000) only [rGet, getO_t, rLenX, lenX_r, lenO_t, Option.bind_some, atI_0, Nat.reduceSub, Nat.reduceAdd, List.cons.injEq, rEq_ii, tSeq, exists_and_left, tIfS, tTest, tOp, tVar, tC, tRet, tNext, tCons, tNil, tCB, L2.start, List.map_cons, List.map_nil, List.length_cons, List.length_nil, List.replicate, List.getElem?_cons_zero, Option.some.injEq, exists_eq_left', V.bl.injEq, V.ref.injEq, and_true, List.append_nil, ep']
      rw [if_pos (by decide), S_of]
      exact q
    | fin =>
      have ep' : H p = some (.tup [.str (Str.ofString "end")]) := ep
      simp (maxSteps := 1000000) only [rGet, getO_t, rLenX, lenX_r, lenO_t, Option.bind_some, atI_0, Nat.reduceSub, Nat.reduceAdd, List.cons.injEq, rEq_ii, tSeq, exists_and_left, tIfS, tTest, tOp, tVar, tC, tRet, tNext, tCons, tNil, tCB, L2.start, List.map_cons, List.map_nil, List.length_cons, List.length_nil, List.replicate, List.getElem?_cons_zero, Option.some.injEq, exists_eq_left', V.bl.injEq, V.ref.injEq, and_true, List.append_nil, ep']
      rw [if_pos (by decide), S_of]
      exact q
    | sg z =>
      have ep' : H p = some (.tup [.str (Str.ofString "signs"), .str (S z)]) := ep
      simp (maxSteps := 1000000) only [rGet, getO_t, rLenX, lenX_r, lenX_s', lenO_t, Option.bind_some, atI_0, atI_1, Nat.reduceSub, Nat.reduceAdd, List.cons.injEq, rEq_ii, tSeq, exists_and_left, tIfS, tTest, tOp, tVar, tC, tRet, tNext, tCons, tNil, tCB, L2.start, List.map_cons, List.map_nil, List.length_cons, List.length_nil, List.replicate, List.getElem?_cons_zero, Option.some.injEq, exists_eq_left', V.int.injEq, V.bl.injEq, V.ref.injEq, V.str.injEq, exists_const, and_true, reduceCtorEq, false_and, or_false, List.append_nil, ep', rStrS, rAddS, e1, e2, S_eq, nat_eq]
      rw [if_neg (by decide)]
      have hl := ht.2
      have l1 := nT_len (n := z.length) (by omega)
      have k1 : (K83.w "signs ").length = 6 := by decide
      have k2 : (K83.w " ").length = 1 := by decide
      have e : K83.w "signs " ++ nT z.length ++ K83.w " " ++ z = tT (.sg z) := by
        unfold tT
        have e1 : K83.w "signs " = K83.w "signs" ++ [32] := by decide
        have e2 : K83.w " " = [32] := by decide
        rw [e1, e2]
        simp
      rw [S_len]
      refine ⟨z.length, if_pos (by rw [sizeLine_eq]; omega), by omega, ?_, ?_, ?_, by rw [e]; exact q⟩ <;> (try simp only [List.length_append]) <;> omega
def bw : Bd → List Nat
  | .piece .. => K83.w "piece"
  | .got .. => K83.w "got"
  | .ask .. => K83.w "ask"
  | .told .. => K83.w "told"
theorem RBd.hd {H : Hp} {u : V} : ∀ {b : Bd}, RBd H u b → ∃ p rest, u = .ref p ∧ H p = some (.tup (.str (S (bw b)) :: rest))
  | .piece .., ⟨p, v, e, h, _⟩ => ⟨p, _, e, by rw [h, S_of]; rfl⟩
  | .got .., ⟨p, e, h⟩ => ⟨p, _, e, by rw [h, S_of]; rfl⟩
  | .ask .., ⟨p, e, h⟩ => ⟨p, _, e, by rw [h, S_of]; rfl⟩
  | .told .., ⟨p, e, h⟩ => ⟨p, _, e, by rw [h, S_of]; rfl⟩
theorem bw_len : ∀ b, (bw b).length ≤ 5
  | .piece .. => show (K83.w "piece").length ≤ 5 by decide
  | .got .. => show (K83.w "got").length ≤ 5 by decide
  | .ask .. => show (K83.w "ask").length ≤ 5 by decide
  | .told .. => show (K83.w "told").length ≤ 5 by decide
/-- a value and its word -/
def WV (v : V) (t : List Nat) : Prop := (∃ n : Nat, v = .int (n : Int) ∧ n ≤ 10 ^ 13 ∧ t = nT n) ∨ (v = .str (S t) ∧ t.length ≤ 20) ∨ (v = .non ∧ t = K83.w "none")
theorem WV.len {v : V} {t : List Nat} (h : WV v t) : t.length ≤ 20 := by
  rcases h with ⟨n, _, hn, rfl⟩ | ⟨_, h⟩ | ⟨_, rfl⟩
  · have := nT_len hn
    omega
  · exact h
  · decide
theorem wv_o {o : Option Nat} (h : small o) : WV (onV o) (oT o) := by
  cases o with
  | none => exact .inr (.inr ⟨rfl, rfl⟩)
  | some n => exact .inl ⟨n, rfl, h n rfl, rfl⟩
/-- words behind a text, one by one -/
abbrev wBody (i j : Nat) : TS := tAsg (tOp rAddS (tOp rAddS (tVar i) (tC (V.str (S (K83.w " "))))) (tOp rGet (tLst (tCons (tCB rStrS (tCons (tVar j) tNil)) (tCons (tC (V.str (S (K83.w "none")))) tNil))) (tCB (fun xs H Q => (∃ i, xs = [V.int i] ∧ Q (V.int i) H) ∨ ∃ k, xs = [V.bl k] ∧ Q (V.int (if k = true then 1 else 0)) H) (tCons (tOp (fun x y H Q => y = V.non ∧ Q (V.bl (decide (x = V.non))) H) (tVar j) (tC V.non)) tNil)))) (gName i)
abbrev wT (ts : List (List Nat)) : List Nat := ts.flatMap fun t => 32 :: t
theorem wT_len : ∀ {ts : List (List Nat)}, (∀ t ∈ ts, t.length ≤ 20) → (wT ts).length ≤ 21 * ts.length
  | [], _ => by simp
  | t :: r, h => by
    have h1 := h t (.head _)
    have h2 := wT_len fun z hz => h z (.tail _ hz)
    unfold wT at h2 ⊢
    rw [List.flatMap_cons, List.length_append, List.length_cons, List.length_cons]
    omega
theorem wv_all : ∀ {xs : List V} {ts : List (List Nat)}, Paired WV xs ts → ∀ t ∈ ts, t.length ≤ 20
  | _, _, .nil, _, z => nomatch z
  | _, _, .cons h t, a, m => by
    rcases List.mem_cons.mp m with rfl | m
    · exact h.len
    · exact wv_all t a m
theorem word_loop {a : Addr} {xs : List V} {ts : List (List Nat)} {D : Ends} {H1 : Hp} {l : List Nat} {v0 : Option V} (mk : List Nat → Option V → St) (i j : Nat) (hi : ∀ l v, (mk l v)[i]? = some (some (.str (S l)))) (hj : ∀ l x, (mk l (some x))[j]? = some (some x)) (sj : ∀ l v x, (mk l v).set j (some x) = mk l (some x)) (si : ∀ l m v, (mk l v).set i (some (.str (S m))) = mk m v)
    (ea : H1 a = some (.tup xs)) (P : Paired WV xs ts) (hl : l.length ≤ 1000) (hx : xs.length ≤ 10) (hd : ∀ H' v, Same H1 H' → D.nx (mk (l ++ wT ts) v) H') : ForW (gName j) (wBody i j) D (mk l v0) (Itt K a) H1 := by
  have hlen := P.length
  have k2 : (K83.w " ").length = 1 := by decide
  have e32 : K83.w " " = [32] := by decide
  refine for_tup (xs := xs) (fun k σ H' => Same H1 H' ∧ ∃ v, σ = mk (l ++ wT (ts.take k)) v) ⟨.refl _, v0, by simp⟩ ?_ ?_ ?_
  · rintro k σ H' hk ⟨s', _⟩
    exact SqT.of (s' _ _ ea)
  · rintro k x σ H' hk ⟨s', v, rfl⟩
    obtain ⟨t, ht, hv⟩ := paired_get P hk
    have hlt := (List.getElem?_eq_some_iff.mp hk).1
    have hlw := wT_len (ts := ts.take k) fun z hz => wv_all P z (List.mem_of_mem_take hz)
    have hlt2 : (ts.take k).length ≤ 10 := by rw [List.length_take]; omega
    have hl1 : (l ++ wT (ts.take k)).length ≤ 1300 := by rw [List.length_append]; omega
    have hl2 : (l ++ wT (ts.take k) ++ K83.w " ").length ≤ 1301 := by rw [List.length_append, k2]; omega
    have et : l ++ wT (ts.take k) ++ K83.w " " ++ t = l ++ wT (ts.take (k + 1)) := by
      rw [List.take_add_one, ht, e32]
      simp [wT]
    have ht20 := hv.len
    change wBody i j _ ((mk _ v).set j (some x)) H'
    rw [sj]
    generalize l ++ wT (ts.take k) = m at hl1 hl2 et ⊢
    have fin : ∀ H'', Same H1 H'' → ∃ v, (mk m (some x)).set i (some (.str (S (m ++ K83.w " " ++ t)))) = mk (l ++ wT (ts.take (k + 1))) v := fun H'' s'' => ⟨_, by rw [si, et]⟩
    rcases hv with ⟨n, rfl, hn, rfl⟩ | ⟨rfl, h20⟩ | ⟨rfl, rfl⟩
    · simp (maxSteps := 1000000) only [rGet, getO_l, atI_0, upd_same, Nat.reduceAdd, decide_false, List.cons.injEq, exists_and_left, if_false, Bool.false_eq_true, tOp, tVar, tC, tAsg, gName, tCons, tNil, tCB, tLst, List.length_cons, List.length_nil, Option.some.injEq, exists_eq_left', V.int.injEq, V.bl.injEq, V.ref.injEq, V.str.injEq, exists_const, and_true, true_and, reduceCtorEq, false_and, or_false, false_or, hi, hj, rStrS, rAddS, S_eq, nat_eq]
      exact ⟨by omega, hn, by rw [sizeLine_eq]; decide, fun p np => ⟨by omega, s'.trans (.upd_new np), fin _ s'⟩⟩
    · simp (maxSteps := 1000000) only [rGet, getO_l, atI_0, upd_same, Nat.reduceAdd, decide_false, List.cons.injEq, exists_and_left, if_false, Bool.false_eq_true, tOp, tVar, tC, tAsg, gName, tCons, tNil, tCB, tLst, List.length_cons, List.length_nil, Option.some.injEq, exists_eq_left', V.bl.injEq, V.ref.injEq, V.str.injEq, exists_const, and_true, true_and, reduceCtorEq, false_and, or_false, false_or, hi, hj, rStrS, rAddS, S_eq]
      exact ⟨by omega, by rw [sizeLine_eq]; decide, fun p np => ⟨by omega, s'.trans (.upd_new np), fin _ s'⟩⟩
    · simp (maxSteps := 1000000) only [rGet, getO_l, atI_1, upd_same, Nat.reduceAdd, decide_true, List.cons.injEq, exists_and_left, if_true, tOp, tVar, tC, tAsg, gName, tCons, tNil, tCB, tLst, List.length_cons, List.length_nil, Option.some.injEq, exists_eq_left', V.bl.injEq, V.ref.injEq, V.str.injEq, exists_const, and_true, true_and, reduceCtorEq, false_and, false_or, hi, hj, rStrS, rAddS, S_eq]
      exact ⟨by omega, by rw [sizeLine_eq]; decide, fun p np => ⟨by omega, s'.trans (.upd_new np), fin _ s'⟩⟩
  · rintro σ H' ⟨s', v, rfl⟩
    rw [hlen, List.take_length]
    exact hd H' v s'
def hdT (p : Pc) : List Nat := nT p.a ++ K83.w " " ++ nT p.b ++ K83.w " " ++ nT p.c ++ K83.w " " ++ bw p.d
theorem hdT_len {p : Pc} (h : p.Sm) : (hdT p).length ≤ 60 := by
  have h1 := nT_len h.1
  have h2 := nT_len h.2.1
  have h3 := nT_len h.2.2.1
  have h4 := bw_len p.d
  have k2 : (K83.w " ").length = 1 := by decide
  unfold hdT
  simp only [List.length_append]
  omega
set_option maxHeartbeats 8000000 in
theorem own_lpct (D : Def K mg "_law_parcel_text" s__law_parcel_text) (hb : Blt mg) (F__law_thing_text : Own P w K mg base 1 "_law_thing_text" ["_law_thing_here"] sp_tht) : Own P w K mg base 2 "_law_parcel_text" ["_law_parcel_here"] sp_pct := by
  refine D.own sc__law_parcel_text (fun _ _ _ _ _ _ us hl => match us, hl with | [_], _ => rfl) (fun vs H Q E h => ?_) (fun f cdv A outer s H vs Q E hr h => ?_)
  · obtain ⟨v, p, rfl, _⟩ := h
    rfl
  · obtain ⟨v, p, rfl, ⟨r, u, rfl, er, hu'⟩, hs, q⟩ := h
    have hu := hr.units
    have hu1 : (A.deeper (PyProof.Rows.envOfC "_law_parcel_text" (defScope s__law_parcel_text) s.heap.objs.size f cdv)).units + 1 < cLine := by omega
    refine ⟨_, (@pss_cons _ _ _ _ _ (@ps_set _ _ 1 _ _ _ _ sc__law_parcel_text.nd rfl (by first | exact Or.inl rfl | exact Or.inr rfl) (@pe_ix _ _ _ _ _ _ _ (ix_get hu1) (@pv _ 0 _ _ (by rfl) (by first | exact Or.inl rfl | exact Or.inr (Or.inl rfl) | exact Or.inr (Or.inr rfl)) (by decide) (by decide)) (@pe_int _ _ _ _) (fun _ _ => rfl)) (by rfl) (by first | exact .inl rfl | exact .inr rfl | assumption)) (@pss_cons _ _ _ _ _ (@ps_set _ _ 2 _ _ _ _ sc__law_parcel_text.nd rfl (by first | exact Or.inl rfl | exact Or.inr rfl) (@pe_op _ _ _ _ _ _ _ _ op_addS (@pe_op _ _ _ _ _ _ _ _ op_addS (@pe_callTy _ _ _ _ _ _ _ _ _ call_strS rfl (hb _ (by decide)) bt_str (@pa_cX _ _ _ _ _ (@pe_ix _ _ _ _ _ _ _ (ix_get hu1) (@pv _ 0 _ _ (by rfl) (by first | exact Or.inl rfl | exact Or.inr (Or.inl rfl) | exact Or.inr (Or.inr rfl)) (by decide) (by decide)) (@pe_int _ _ _ _) (fun _ _ => rfl)) (@pa_nil _) (by rfl)) (by decide) (by decide) (by rfl) (by rfl)) (@pe_str _ _ _ _)) (@pe_callTy _ _ _ _ _ _ _ _ _ call_strS rfl (hb _ (by decide)) bt_str (@pa_cX _ _ _ _ _ (@pe_ix _ _ _ _ _ _ _ (ix_get hu1) (@pv _ 0 _ _ (by rfl) (by first | exact Or.inl rfl | exact Or.inr (Or.inl rfl) | exact Or.inr (Or.inr rfl)) (by decide) (by decide)) (@pe_int _ _ _ _) (fun _ _ => rfl)) (@pa_nil _) (by rfl)) (by decide) (by decide) (by rfl) (by rfl))) (by rfl) (by first | exact .inl rfl | exact .inr rfl | assumption)) (@pss_cons _ _ _ _ _ (@ps_set _ _ 2 _ _ _ _ sc__law_parcel_text.nd rfl (by first | exact Or.inl rfl | exact Or.inr rfl) (@pe_op _ _ _ _ _ _ _ _ op_addS (@pe_op _ _ _ _ _ _ _ _ op_addS (@pe_op _ _ _ _ _ _ _ _ op_addS (@pe_op _ _ _ _ _ _ _ _ op_addS (@pv _ 2 _ _ (by rfl) (by first | exact Or.inl rfl | exact Or.inr (Or.inl rfl) | exact Or.inr (Or.inr rfl)) (by decide) (by decide)) (@pe_str _ _ _ _)) (@pe_callTy _ _ _ _ _ _ _ _ _ call_strS rfl (hb _ (by decide)) bt_str (@pa_cX _ _ _ _ _ (@pe_ix _ _ _ _ _ _ _ (ix_get hu1) (@pv _ 0 _ _ (by rfl) (by first | exact Or.inl rfl | exact Or.inr (Or.inl rfl) | exact Or.inr (Or.inr rfl)) (by decide) (by decide)) (@pe_int _ _ _ _) (fun _ _ => rfl)) (@pa_nil _) (by rfl)) (by decide) (by decide) (by rfl) (by rfl))) (@pe_str _ _ _ _)) (@pe_ix _ _ _ _ _ _ _ (ix_get hu1) (@pv _ 1 _ _ (by rfl) (by first | exact Or.inl rfl | exact Or.inr (Or.inl rfl) | exact Or.inr (Or.inr rfl)) (by decide) (by decide)) (@pe_int _ _ _ _) (fun _ _ => rfl))) (by rfl) (by first | exact .inl rfl | exact .inr rfl | assumption)) (@pss_cons _ _ _ _ _ (@ps_if _ _ _ _ _ _ _ _ (@pt_cmpR _ _ _ _ _ _ _ _ op_eq (@pe_ix _ _ _ _ _ _ _ (ix_get hu1) (@pv _ 1 _ _ (by rfl) (by first | exact Or.inl rfl | exact Or.inr (Or.inl rfl) | exact Or.inr (Or.inr rfl)) (by decide) (by decide)) (@pe_int _ _ _ _) (fun _ _ => rfl)) (@pe_str _ _ _ _) (nomark _)) (@pss_one _ _ _ (@ps_ret _ _ _ _ (@pe_op _ _ _ _ _ _ _ _ op_addS (@pe_op _ _ _ _ _ _ _ _ op_addS (@pe_op _ _ _ _ _ _ _ _ op_addS (@pe_op _ _ _ _ _ _ _ _ op_addS (@pv _ 2 _ _ (by rfl) (by first | exact Or.inl rfl | exact Or.inr (Or.inl rfl) | exact Or.inr (Or.inr rfl)) (by decide) (by decide)) (@pe_str _ _ _ _)) (@pe_callTy _ _ _ _ _ _ _ _ _ call_strS rfl (hb _ (by decide)) bt_str (@pa_cX _ _ _ _ _ (@pe_ix _ _ _ _ _ _ _ (ix_get hu1) (@pv _ 1 _ _ (by rfl) (by first | exact Or.inl rfl | exact Or.inr (Or.inl rfl) | exact Or.inr (Or.inr rfl)) (by decide) (by decide)) (@pe_int _ _ _ _) (fun _ _ => rfl)) (@pa_nil _) (by rfl)) (by decide) (by decide) (by rfl) (by rfl))) (@pe_str _ _ _ _)) (@pe_fn _ _ _ _ _ _ _ _ _ _ _ F__law_thing_text hr (@pa_cX _ _ _ _ _ (@pe_ix _ _ _ _ _ _ _ (ix_get hu1) (@pv _ 1 _ _ (by rfl) (by first | exact Or.inl rfl | exact Or.inr (Or.inl rfl) | exact Or.inr (Or.inr rfl)) (by decide) (by decide)) (@pe_int _ _ _ _) (fun _ _ => rfl)) (@pa_nil _) (by rfl)) (by decide) (by rfl) (by decide) (by rfl) (by rfl))))) (@pss_nil _)) (@pss_cons _ _ _ _ _ (@ps_for _ _ _ _ _ _ _ _ PassesOwn.never rfl (@pi_tupK _ K _ _ _ (@pe_slice _ _ _ _ _ _ _ _ _ _ sl_TX (@pv _ 1 _ _ (by rfl) (by first | exact Or.inl rfl | exact Or.inr (Or.inl rfl) | exact Or.inr (Or.inr rfl)) (by decide) (by decide)) (@po_some _ _ _ (@pe_int _ _ _ _)) (@po_none _)) (by rfl)) (@pg_name _ _ 3 _ sc__law_parcel_text.nd rfl (by first | exact Or.inl rfl | exact Or.inr rfl) (by first | exact .inl rfl | exact .inr rfl | assumption)) (@pss_one _ _ _ (@ps_set _ _ 2 _ _ _ _ sc__law_parcel_text.nd rfl (by first | exact Or.inl rfl | exact Or.inr rfl) (@pe_op _ _ _ _ _ _ _ _ op_addS (@pe_op _ _ _ _ _ _ _ _ op_addS (@pv _ 2 _ _ (by rfl) (by first | exact Or.inl rfl | exact Or.inr (Or.inl rfl) | exact Or.inr (Or.inr rfl)) (by decide) (by decide)) (@pe_str _ _ _ _)) (@pe_ix _ _ _ _ _ _ _ (ix_get hu1) (@pe_lst _ _ _ _ (@pa_cX _ _ _ _ _ (@pe_callTy _ _ _ _ _ _ _ _ _ call_strS rfl (hb _ (by decide)) bt_str (@pa_cX _ _ _ _ _ (@pv _ 3 _ _ (by rfl) (by first | exact Or.inl rfl | exact Or.inr (Or.inl rfl) | exact Or.inr (Or.inr rfl)) (by decide) (by decide)) (@pa_nil _) (by rfl)) (by decide) (by decide) (by rfl) (by rfl)) (@pa_cX _ _ _ _ _ (@pe_str _ _ _ _) (@pa_nil _) (by rfl)) (by rfl))) (@pe_callTy _ _ _ _ _ _ _ _ _ call_int1 rfl (hb _ (by decide)) bt_int (@pa_cX _ _ _ _ _ (@pe_cmpR _ _ _ _ _ _ _ _ op_isN (@pv _ 3 _ _ (by rfl) (by first | exact Or.inl rfl | exact Or.inr (Or.inl rfl) | exact Or.inr (Or.inr rfl)) (by decide) (by decide)) (@pe_non _ _ _) (nomark _)) (@pa_nil _) (by rfl)) (by decide) (by decide) (by rfl) (by rfl)) (fun _ _ => rfl))) (by rfl) (by first | exact .inl rfl | exact .inr rfl | assumption))) (by intro _; rfl)) (@pss_one _ _ _ (@ps_ret _ _ _ _ (@pv _ 2 _ _ (by rfl) (by first | exact Or.inl rfl | exact Or.inr (Or.inl rfl) | exact Or.inr (Or.inr rfl)) (by decide) (by decide))))))))), ?_⟩
    have e2 := S_of " "
    have k2 : (K83.w " ").length = 1 := by decide
    have e32 : K83.w " " = [32] := by decide
    have h1 := nT_len hs.1
    have h2 := nT_len hs.2.1
    have h3 := nT_len hs.2.2.1
    have hl60 := hdT_len hs
    refine use3 (fun σ' H' => H' = H ∧ σ' = [some (.ref r), some u, some (.str (S (hdT p))), none]) ?key ?go
    case go =>
      intro R hR
      obtain ⟨b, rest, rfl, eb⟩ := hu'.hd
      have h4 := bw_len p.d
      simp (maxSteps := 1000000) only [rGet, getO_t, atI_0, atI_1, atI_2, atI_3, Nat.reduceSub, Nat.reduceAdd, List.cons.injEq, tSeq, exists_and_left, tOp, tVar, tC, tAsg, gName, tCons, tNil, tCB, L2.start, List.map_cons, List.map_nil, List.length_cons, List.length_nil, List.replicate, List.cons_append, List.nil_append, List.getElem?_cons_zero, List.getElem?_cons_succ, List.set_cons_zero, List.set_cons_succ, Option.some.injEq, exists_eq_left', V.int.injEq, V.ref.injEq, V.str.injEq, exists_const, and_true, reduceCtorEq, false_and, or_false, er, eb, rStrS, rAddS, S_eq, nat_eq, e2]
      refine ⟨hs.1, ?_, hs.2.1, ?_, ?_, hs.2.2.1, ?_, ?_, ?_, hR _ _ ⟨rfl, rfl⟩⟩ <;> (try simp only [List.length_append]) <;> omega
    case key =>
      rintro σ' H' ⟨rfl, rfl⟩
      have e3 := S_of "piece"
      have e4 := S_of "none"
      have ep : p = ⟨p.a, p.b, p.c, p.d⟩ := rfl
      have mkl : ∀ (b : Addr) (l : List Nat) (v : Option V), [some (V.ref r), some (V.ref b), some (V.str (S l)), v] = (fun l v => [some (V.ref r), some (V.ref b), some (V.str (S l)), v]) l v := fun _ _ _ => rfl
      cases hpd : p.d with
      | piece n t =>
        have hb' : p.d.Sm := hs.2.2.2
        rw [hpd] at hu' hb'
        obtain ⟨b, v, rfl, eb, ht⟩ := hu'
        rw [S_of "piece"] at eb
        simp (maxSteps := 1000000) only [tFor_eq, rEq_ss, rGet, getO_t, atI_0, atI_1, atI_2, decide_true, List.cons.injEq, tSeq, exists_and_left, if_true, tIfS, tTest, tOp, tVar, tC, tRet, tNext, tCall, tCons, tNil, tCB, List.getElem?_cons_zero, List.getElem?_cons_succ, Option.some.injEq, exists_eq_left', V.int.injEq, V.bl.injEq, V.ref.injEq, V.str.injEq, exists_const, and_true, reduceCtorEq, false_and, or_false, List.append_nil, eb, rStrS, rAddS, S_eq, nat_eq, e2, e3]
        have l1 := nT_len hb'.1
        have l2 := tT_len hb'.2
        refine ⟨by omega, hb'.1, ?_, ?_, v, t, rfl, ht, hb'.2, _, rfl, ?_, ?_⟩
        · simp only [List.length_append]; omega
        · simp only [List.length_append]; omega
        · simp only [List.length_append]; omega
        · have e : hdT p ++ K83.w " " ++ nT n ++ K83.w " " ++ tT t = pT p := by
            unfold hdT pT
            rw [hpd, e32]
            simp [bw, bT]
          rw [e]
          exact q _ (.refl _)
      | told z o n =>
        have hb' : p.d.Sm := hs.2.2.2
        rw [hpd] at hu' hb'
        obtain ⟨b, rfl, eb⟩ := hu'
        rw [S_of "told"] at eb
        have hne : (K83.w "told" = K83.w "piece") = False := by simp; decide
        simp (maxSteps := 1000000) only [tFor_eq, rEq_ss, rGet, getO_t, atI_0, atI_1, atI_2, HO.tup.injEq, decide_false, tSl, tNoPart, tPart, List.cons.injEq, tSeq, exists_and_left, if_false, Bool.false_eq_true, tIfS, tTest, tOp, tVar, tC, tRet, tNext, tCall, tCons, tNil, tCB, List.getElem?_cons_zero, List.getElem?_cons_succ, Option.some.injEq, exists_eq_left', V.int.injEq, V.bl.injEq, V.ref.injEq, V.str.injEq, exists_const, and_true, reduceCtorEq, false_and, or_false, false_or, List.append_nil, eb, rStrS, rAddS, S_eq, e2, e3, e4, hne, rSlTX, iTup]
        intro p1 H1 hh e1
        have s1 := slice_same hh
        have ec : cutV [V.str (S (K83.w "told")), V.str (S z), onV o, V.int (n : Int)] (some 1) none = [V.str (S z), onV o, V.int (n : Int)] := rfl
        rw [ec] at e1
        refine ⟨⟨_, SqT.of e1⟩, word_loop (ts := [z, oT o, nT n]) (fun l v => [some (V.ref r), some (V.ref b), some (V.str (S l)), v]) 2 3 (fun _ _ => rfl) (fun _ _ => rfl) (fun _ _ _ => rfl) (fun _ _ _ => rfl) e1 (.cons (.inr (.inl ⟨rfl, by have := hb'.1; omega⟩)) (.cons (wv_o hb'.2.1) (.cons (.inl ⟨n, rfl, hb'.2.2, rfl⟩) .nil))) (by omega) (by simp) fun H2 v s2 => ?_⟩
        have e : hdT p ++ wT [z, oT o, nT n] = pT p := by
          unfold hdT pT
          rw [hpd, e32]
          simp [bw, bT, wT]
        rw [e]
        simp (maxSteps := 1000000) only [tVar, tRet, List.getElem?_cons_zero, List.getElem?_cons_succ, Option.some.injEq, exists_eq_left']
        exact q _ (s1.trans s2)
      | got n =>
        have hb' : p.d.Sm := hs.2.2.2
        rw [hpd] at hu' hb'
        obtain ⟨b, rfl, eb⟩ := hu'
        rw [S_of "got"] at eb
        have hne : (K83.w "got" = K83.w "piece") = False := by simp; decide
        simp (maxSteps := 1000000) only [tFor_eq, rEq_ss, rGet, getO_t, atI_0, atI_1, HO.tup.injEq, decide_false, tSl, tNoPart, tPart, List.cons.injEq, tSeq, exists_and_left, if_false, Bool.false_eq_true, tIfS, tTest, tOp, tVar, tC, tRet, tNext, tCall, tCons, tNil, tCB, List.getElem?_cons_zero, List.getElem?_cons_succ, Option.some.injEq, exists_eq_left', V.int.injEq, V.bl.injEq, V.ref.injEq, V.str.injEq, exists_const, and_true, reduceCtorEq, false_and, or_false, List.append_nil, eb, rStrS, rAddS, S_eq, nat_eq, e2, e3, e4, hne, rSlTX, iTup]
        intro p1 H1 hh e1
        have s1 := slice_same hh
        have ec : cutV [V.str (S (K83.w "got")), V.int (n : Int)] (some 1) none = [V.int (n : Int)] := rfl
        rw [ec] at e1
        refine ⟨⟨_, SqT.of e1⟩, word_loop (ts := [nT n]) (fun l v => [some (V.ref r), some (V.ref b), some (V.str (S l)), v]) 2 3 (fun _ _ => rfl) (fun _ _ => rfl) (fun _ _ _ => rfl) (fun _ _ _ => rfl) e1 (.cons (.inl ⟨n, rfl, hb', rfl⟩) .nil) (by omega) (by simp) fun H2 v s2 => ?_⟩
        have e : hdT p ++ wT [nT n] = pT p := by
          unfold hdT pT
          rw [hpd, e32]
          simp [bw, bT, wT]
        rw [e]
        simp (maxSteps := 1000000) only [tVar, tRet, List.getElem?_cons_zero, List.getElem?_cons_succ, Option.some.injEq, exists_eq_left']
        exact q _ (s1.trans s2)
      | ask z n =>
        have hb' : p.d.Sm := hs.2.2.2
        rw [hpd] at hu' hb'
        obtain ⟨b, rfl, eb⟩ := hu'
        rw [S_of "ask"] at eb
        have hne : (K83.w "ask" = K83.w "piece") = False := by simp; decide
        simp (maxSteps := 1000000) only [tFor_eq, rEq_ss, rGet, getO_t, atI_0, atI_1, atI_2, HO.tup.injEq, decide_false, tSl, tNoPart, tPart, List.cons.injEq, tSeq, exists_and_left, if_false, Bool.false_eq_true, tIfS, tTest, tOp, tVar, tC, tRet, tNext, tCall, tCons, tNil, tCB, List.getElem?_cons_zero, List.getElem?_cons_succ, Option.some.injEq, exists_eq_left', V.int.injEq, V.bl.injEq, V.ref.injEq, V.str.injEq, exists_const, and_true, reduceCtorEq, false_and, or_false, false_or, List.append_nil, eb, rStrS, rAddS, S_eq, e2, e3, e4, hne, rSlTX, iTup]
        intro p1 H1 hh e1
        have s1 := slice_same hh
        have ec : cutV [V.str (S (K83.w "ask")), V.str (S z), V.int (n : Int)] (some 1) none = [V.str (S z), V.int (n : Int)] := rfl
        rw [ec] at e1
        refine ⟨⟨_, SqT.of e1⟩, word_loop (ts := [z, nT n]) (fun l v => [some (V.ref r), some (V.ref b), some (V.str (S l)), v]) 2 3 (fun _ _ => rfl) (fun _ _ => rfl) (fun _ _ _ => rfl) (fun _ _ _ => rfl) e1 (.cons (.inr (.inl ⟨rfl, by have := hb'.1; omega⟩)) (.cons (.inl ⟨n, rfl, hb'.2, rfl⟩) .nil)) (by omega) (by simp) fun H2 v s2 => ?_⟩
        have e : hdT p ++ wT [z, nT n] = pT p := by
          unfold hdT pT
          rw [hpd, e32]
          simp [bw, bT, wT]
        rw [e]
        simp (maxSteps := 1000000) only [tVar, tRet, List.getElem?_cons_zero, List.getElem?_cons_succ, Option.some.injEq, exists_eq_left']
        exact q _ (s1.trans s2)
end
end K83
namespace K83
open PySem L2
theorem lT_flatM {α : Type} {f : α → List Nat} : ∀ l : List α, (l.map fun a => w "; " ++ f a).flatten = lT f l
  | [] => rfl
  | a :: r => by
    have e : w "; " = [59, 32] := by decide
    rw [List.map_cons, List.flatten_cons, lT_flatM r, e]
    rfl
theorem lT_snoc {α : Type} {f : α → List Nat} {a : α} : ∀ l : List α, lT f (l ++ [a]) = lT f l ++ (w "; " ++ f a)
  | [] => by
    have e : w "; " = [59, 32] := by decide
    rw [e]
    simp [lT]
  | b :: r => by
    rw [List.cons_append]
    unfold lT
    rw [lT_snoc r]
    simp
theorem lT_len {α : Type} {f : α → List Nat} {k : Nat} : ∀ {l : List α}, (∀ a ∈ l, (f a).length ≤ k) → (lT f l).length ≤ (k + 2) * l.length
  | [], _ => by simp [lT]
  | a :: r, h => by
    have h1 := h a (.head _)
    have h2 := lT_len fun z hz => h z (.tail _ hz)
    unfold lT
    rw [List.length_cons, List.length_cons, List.length_append, List.length_cons, Nat.mul_succ]
    omega
def rn : Rr → Nat
  | .came n .. => n
  | .way n .. => n
  | .here n .. => n
  | .gone n .. => n
  | .read n .. => n
  | .sent n .. => n
  | .put n .. => n
  | .wish n .. => n
def rh : Rr → Nat
  | .came _ h .. => h
  | .way _ h .. => h
  | .here _ h .. => h
  | .gone _ h .. => h
  | .read _ h .. => h
  | .sent _ h .. => h
  | .put _ h .. => h
  | .wish _ h .. => h
theorem RRr.hd {H : Hp} {v : V} : ∀ {r : Rr}, RRr H v r → ∃ p rest, v = .ref p ∧ H p = some (.tup (.str (S (word r)) :: .int (rn r : Int) :: .int (rh r : Int) :: rest))
  | .came .., ⟨p, _, _, e, h, _⟩ => ⟨p, _, e, by rw [h, S_of]; rfl⟩
  | .way .., ⟨p, e, h⟩ => ⟨p, _, e, by rw [h, S_of]; rfl⟩
  | .here .., ⟨p, _, e, h, _⟩ => ⟨p, _, e, by rw [h, S_of]; rfl⟩
  | .gone .., ⟨p, _, e, h, _⟩ => ⟨p, _, e, by rw [h, S_of]; rfl⟩
  | .read .., ⟨p, _, _, e, h, _⟩ => ⟨p, _, e, by rw [h, S_of]; rfl⟩
  | .sent .., ⟨p, _, _, e, h, _⟩ => ⟨p, _, e, by rw [h, S_of]; rfl⟩
  | .put .., ⟨p, _, e, h, _⟩ => ⟨p, _, e, by rw [h, S_of "wish"]; rfl⟩
  | .wish .., ⟨p, _, e, h, _⟩ => ⟨p, _, e, by rw [h, S_of]; rfl⟩
theorem Rr.Sm.hd : ∀ {r : Rr}, r.Sm → rn r ≤ 10 ^ 13 ∧ rh r ≤ 10 ^ 13 ∧ (word r).length ≤ 4
  | .came .., h => ⟨h.1, h.2.1, show (w "came").length ≤ 4 by decide⟩
  | .way .., h => ⟨h.1, h.2.1, show (w "way").length ≤ 4 by decide⟩
  | .here .., h => ⟨h.1, h.2.1, show (w "here").length ≤ 4 by decide⟩
  | .gone .., h => ⟨h.1, h.2.1, show (w "gone").length ≤ 4 by decide⟩
  | .read .., h => ⟨h.1, h.2.1, show (w "read").length ≤ 4 by decide⟩
  | .sent .., h => ⟨h.1, h.2.1, show (w "sent").length ≤ 4 by decide⟩
  | .put .., h => ⟨h.1, h.2.1, show (w "wish").length ≤ 4 by decide⟩
  | .wish .., h => ⟨h.1, h.2.1, show (w "wish").length ≤ 4 by decide⟩
def rhT (r : Rr) : List Nat := word r ++ w " " ++ nT (rn r) ++ w " " ++ nT (rh r)
theorem rhT_len {r : Rr} (h : r.Sm) : (rhT r).length ≤ 40 := by
  obtain ⟨h1, h2, h3⟩ := h.hd
  have h1 := nT_len h1
  have h2 := nT_len h2
  have k2 : (w " ").length = 1 := by decide
  unfold rhT
  simp only [List.length_append]
  omega
theorem skipW {p : Addr} {xs : List V} {k : Int} {a : List Nat} {z : String} {t R : TS} {D : Ends} {σ : St} {H : Hp} (h0 : σ[0]? = some (some (.ref p))) (ep : H p = some (.tup xs)) (hk : getO (.tup xs) (.int k) = some (.str (S a))) (hne : a ≠ w z) (hR : R D σ H) : tSeq (tIfS (tTest (tOp rEq (tOp rGet (tVar 0) (tC (.int k))) (tC (.str (Str.ofString z))))) t tNext) R D σ H := by
  have e : decide (V.str (S a) = V.str (Str.ofString z)) = false := decide_eq_false fun q => hne (S_inj (by rw [← S_of z]; exact V.str.inj q))
  refine ⟨.ref p, h0, p, _, _, rfl, ep, hk, rfl, false, by rw [e], ?_⟩
  exact hR
theorem takeW {p : Addr} {xs : List V} {k : Int} {a : List Nat} {z : String} {t R : TS} {D : Ends} {σ : St} {H : Hp} (h0 : σ[0]? = some (some (.ref p))) (ep : H p = some (.tup xs)) (hk : getO (.tup xs) (.int k) = some (.str (S a))) (ha : a = w z) (hT : ∀ N, t { D with nx := N } σ H) : tSeq (tIfS (tTest (tOp rEq (tOp rGet (tVar 0) (tC (.int k))) (tC (.str (Str.ofString z))))) t tNext) R D σ H := by
  have e : decide (V.str (S a) = V.str (Str.ofString z)) = true := decide_eq_true (by rw [ha, S_of])
  refine ⟨.ref p, h0, p, _, _, rfl, ep, hk, rfl, true, by rw [e], ?_⟩
  exact hT _
section
variable {P : Program} {w : World} {K : PySem.W.Frag} {mg : Str → Option Value} {base : Heap}
abbrev s__law_text : Stmt := top 21
theorem sc__law_text : FnScope ["_law_row_here", "_law_text_here", "_law_one", "_law_things", "_law_number_here", "_law_parcel_here"] ["_law_row_here"] (defScope s__law_text) := ⟨rfl, rfl, rfl, by decide +kernel, rfl, by decide +kernel, by decide +kernel⟩
theorem cs__law_text_0 : CScope ["_law_parcel_here"] [] { kind := .function, names := [(".0", .local), ("_law_parcel_here", .local), ("_law_parcel_text", .globalImplicit)], isGenerator := false, isCoroutine := false, more := [] } (defScope s__law_text) := ⟨rfl, by decide +kernel, by decide +kernel, by decide +kernel, by decide +kernel, by decide +kernel⟩
theorem cs__law_text_1 : CScope ["_law_thing_here"] [] { kind := .function, names := [(".0", .local), ("_law_thing_here", .local), ("_law_thing_text", .globalImplicit)], isGenerator := false, isCoroutine := false, more := [] } (defScope s__law_text) := ⟨rfl, by decide +kernel, by decide +kernel, by decide +kernel, by decide +kernel, by decide +kernel⟩
set_option maxHeartbeats 8000000 in
theorem own_ltxt (D : Def K mg "_law_text" s__law_text) (hb : Blt mg) (F__law_thing_text : Own P w K mg base 1 "_law_thing_text" ["_law_thing_here"] sp_tht) (F__law_parcel_text : Own P w K mg base 2 "_law_parcel_text" ["_law_parcel_here"] sp_pct) : Own P w K mg base 3 "_law_text" ["_law_row_here"] sp_row := by
  refine D.own sc__law_text (fun _ _ _ _ _ _ us hl => match us, hl with | [_], _ => rfl) (fun vs H Q E h => ?_) (fun f cdv A outer s H vs Q E hr h => ?_)
  · obtain ⟨v, r, rfl, _⟩ := h
    rfl
  · obtain ⟨v, r, rfl, hv, hs, q⟩ := h
    have hu := hr.units
    have hu1 : (A.deeper (PyProof.Rows.envOfC "_law_text" (defScope s__law_text) s.heap.objs.size f cdv)).units + 1 < cLine := by omega
    refine ⟨_, (@pss_cons _ _ _ _ _ (@ps_set _ _ 1 _ _ _ _ sc__law_text.nd rfl (by first | exact Or.inl rfl | exact Or.inr rfl) (@pe_op _ _ _ _ _ _ _ _ op_addS (@pe_op _ _ _ _ _ _ _ _ op_addS (@pe_op _ _ _ _ _ _ _ _ op_addS (@pe_op _ _ _ _ _ _ _ _ op_addS (@pe_ix _ _ _ _ _ _ _ (ix_get hu1) (@pv _ 0 _ _ (by rfl) (by first | exact Or.inl rfl | exact Or.inr (Or.inl rfl) | exact Or.inr (Or.inr rfl)) (by decide) (by decide)) (@pe_int _ _ _ _) (fun _ _ => rfl)) (@pe_str _ _ _ _)) (@pe_callTy _ _ _ _ _ _ _ _ _ call_strS rfl (hb _ (by decide)) bt_str (@pa_cX _ _ _ _ _ (@pe_ix _ _ _ _ _ _ _ (ix_get hu1) (@pv _ 0 _ _ (by rfl) (by first | exact Or.inl rfl | exact Or.inr (Or.inl rfl) | exact Or.inr (Or.inr rfl)) (by decide) (by decide)) (@pe_int _ _ _ _) (fun _ _ => rfl)) (@pa_nil _) (by rfl)) (by decide) (by decide) (by rfl) (by rfl))) (@pe_str _ _ _ _)) (@pe_callTy _ _ _ _ _ _ _ _ _ call_strS rfl (hb _ (by decide)) bt_str (@pa_cX _ _ _ _ _ (@pe_ix _ _ _ _ _ _ _ (ix_get hu1) (@pv _ 0 _ _ (by rfl) (by first | exact Or.inl rfl | exact Or.inr (Or.inl rfl) | exact Or.inr (Or.inr rfl)) (by decide) (by decide)) (@pe_int _ _ _ _) (fun _ _ => rfl)) (@pa_nil _) (by rfl)) (by decide) (by decide) (by rfl) (by rfl))) (by rfl) (by first | exact .inl rfl | exact .inr rfl | assumption)) (@pss_cons _ _ _ _ _ (@ps_if _ _ _ _ _ _ _ _ (@pt_cmpR _ _ _ _ _ _ _ _ op_eq (@pe_ix _ _ _ _ _ _ _ (ix_get hu1) (@pv _ 0 _ _ (by rfl) (by first | exact Or.inl rfl | exact Or.inr (Or.inl rfl) | exact Or.inr (Or.inr rfl)) (by decide) (by decide)) (@pe_int _ _ _ _) (fun _ _ => rfl)) (@pe_str _ _ _ _) (nomark _)) (@pss_cons _ _ _ _ _ (@ps_set _ _ 1 _ _ _ _ sc__law_text.nd rfl (by first | exact Or.inl rfl | exact Or.inr rfl) (@pe_op _ _ _ _ _ _ _ _ op_addS (@pe_op _ _ _ _ _ _ _ _ op_addS (@pe_op _ _ _ _ _ _ _ _ op_addS (@pe_op _ _ _ _ _ _ _ _ op_addS (@pv _ 1 _ _ (by rfl) (by first | exact Or.inl rfl | exact Or.inr (Or.inl rfl) | exact Or.inr (Or.inr rfl)) (by decide) (by decide)) (@pe_str _ _ _ _)) (@pe_callTy _ _ _ _ _ _ _ _ _ call_strS rfl (hb _ (by decide)) bt_str (@pa_cX _ _ _ _ _ (@pe_ix _ _ _ _ _ _ _ (ix_get hu1) (@pv _ 0 _ _ (by rfl) (by first | exact Or.inl rfl | exact Or.inr (Or.inl rfl) | exact Or.inr (Or.inr rfl)) (by decide) (by decide)) (@pe_int _ _ _ _) (fun _ _ => rfl)) (@pa_nil _) (by rfl)) (by decide) (by decide) (by rfl) (by rfl))) (@pe_str _ _ _ _)) (@pe_callTy _ _ _ _ _ _ _ _ _ call_strS rfl (hb _ (by decide)) bt_str (@pa_cX _ _ _ _ _ (@pe_ix _ _ _ _ _ _ _ (ix_get hu1) (@pv _ 0 _ _ (by rfl) (by first | exact Or.inl rfl | exact Or.inr (Or.inl rfl) | exact Or.inr (Or.inr rfl)) (by decide) (by decide)) (@pe_int _ _ _ _) (fun _ _ => rfl)) (@pa_nil _) (by rfl)) (by decide) (by decide) (by rfl) (by rfl))) (by rfl) (by first | exact .inl rfl | exact .inr rfl | assumption)) (@pss_one _ _ _ (@ps_ret _ _ _ _ (@pe_op _ _ _ _ _ _ _ _ op_addS (@pv _ 1 _ _ (by rfl) (by first | exact Or.inl rfl | exact Or.inr (Or.inl rfl) | exact Or.inr (Or.inr rfl)) (by decide) (by decide)) (@pe_join _ _ _ _ _ _ _ (@pe_str _ _ _ _) (@pe_comp _ _ _ _ _ _ _ _ _ _ _ ["_law_parcel_here"] [] [] rfl _ cs__law_text_0 (@pi_tupK _ K _ _ _ (@pe_ix _ _ _ _ _ _ _ (ix_get hu1) (@pv _ 0 _ _ (by rfl) (by first | exact Or.inl rfl | exact Or.inr (Or.inl rfl) | exact Or.inr (Or.inr rfl)) (by decide) (by decide)) (@pe_int _ _ _ _) (fun _ _ => rfl)) (by rfl)) (fun _ _ _ _ => (@pg_name _ _ 0 _ cs__law_text_0.nd rfl (by first | exact Or.inl rfl | exact Or.inr rfl) (by first | exact .inl rfl | exact .inr rfl | assumption))) (fun _ _ _ _ => (@pf_nil _)) (fun _ _ _ _ => (@pe_op _ _ _ _ _ _ _ _ op_addS (@pe_str _ _ _ _) (@pe_fn _ _ _ _ _ _ _ _ _ _ _ F__law_parcel_text hr (@pa_cX _ _ _ _ _ (@pv _ 0 _ _ (by rfl) (by first | exact Or.inl rfl | exact Or.inr (Or.inl rfl) | exact Or.inr (Or.inr rfl)) (by decide) (by decide)) (@pa_nil _) (by rfl)) (by decide) (by rfl) (by decide) (by rfl) (by rfl)))) (by rfl) (by rfl) (by rfl) (by intro _; rfl)) (by constructor <;> rfl)))))) (@pss_nil _)) (@pss_cons _ _ _ _ _ (@ps_if _ _ _ _ _ _ _ _ (@pt_cmpR _ _ _ _ _ _ _ _ op_eq (@pe_ix _ _ _ _ _ _ _ (ix_get hu1) (@pv _ 0 _ _ (by rfl) (by first | exact Or.inl rfl | exact Or.inr (Or.inl rfl) | exact Or.inr (Or.inr rfl)) (by decide) (by decide)) (@pe_int _ _ _ _) (fun _ _ => rfl)) (@pe_str _ _ _ _) (nomark _)) (@pss_cons _ _ _ _ _ (@ps_for _ _ _ _ _ _ _ _ PassesOwn.never rfl (@pi_tupK _ K _ _ _ (@pe_slice _ _ _ _ _ _ _ _ _ _ sl_TX (@pv _ 0 _ _ (by rfl) (by first | exact Or.inl rfl | exact Or.inr (Or.inl rfl) | exact Or.inr (Or.inr rfl)) (by decide) (by decide)) (@po_some _ _ _ (@pe_int _ _ _ _)) (@po_none _)) (by rfl)) (@pg_name _ _ 2 _ sc__law_text.nd rfl (by first | exact Or.inl rfl | exact Or.inr rfl) (by first | exact .inl rfl | exact .inr rfl | assumption)) (@pss_one _ _ _ (@ps_set _ _ 1 _ _ _ _ sc__law_text.nd rfl (by first | exact Or.inl rfl | exact Or.inr rfl) (@pe_op _ _ _ _ _ _ _ _ op_addS (@pe_op _ _ _ _ _ _ _ _ op_addS (@pv _ 1 _ _ (by rfl) (by first | exact Or.inl rfl | exact Or.inr (Or.inl rfl) | exact Or.inr (Or.inr rfl)) (by decide) (by decide)) (@pe_str _ _ _ _)) (@pe_ix _ _ _ _ _ _ _ (ix_get hu1) (@pe_lst _ _ _ _ (@pa_cX _ _ _ _ _ (@pe_callTy _ _ _ _ _ _ _ _ _ call_strS rfl (hb _ (by decide)) bt_str (@pa_cX _ _ _ _ _ (@pv _ 2 _ _ (by rfl) (by first | exact Or.inl rfl | exact Or.inr (Or.inl rfl) | exact Or.inr (Or.inr rfl)) (by decide) (by decide)) (@pa_nil _) (by rfl)) (by decide) (by decide) (by rfl) (by rfl)) (@pa_cX _ _ _ _ _ (@pe_str _ _ _ _) (@pa_nil _) (by rfl)) (by rfl))) (@pe_callTy _ _ _ _ _ _ _ _ _ call_int1 rfl (hb _ (by decide)) bt_int (@pa_cX _ _ _ _ _ (@pe_cmpR _ _ _ _ _ _ _ _ op_isN (@pv _ 2 _ _ (by rfl) (by first | exact Or.inl rfl | exact Or.inr (Or.inl rfl) | exact Or.inr (Or.inr rfl)) (by decide) (by decide)) (@pe_non _ _ _) (nomark _)) (@pa_nil _) (by rfl)) (by decide) (by decide) (by rfl) (by rfl)) (fun _ _ => rfl))) (by rfl) (by first | exact .inl rfl | exact .inr rfl | assumption))) (by intro _; rfl)) (@pss_one _ _ _ (@ps_ret _ _ _ _ (@pv _ 1 _ _ (by rfl) (by first | exact Or.inl rfl | exact Or.inr (Or.inl rfl) | exact Or.inr (Or.inr rfl)) (by decide) (by decide))))) (@pss_nil _)) (@pss_cons _ _ _ _ _ (@ps_if _ _ _ _ _ _ _ _ (@pt_cmpR _ _ _ _ _ _ _ _ op_eq (@pe_ix _ _ _ _ _ _ _ (ix_get hu1) (@pv _ 0 _ _ (by rfl) (by first | exact Or.inl rfl | exact Or.inr (Or.inl rfl) | exact Or.inr (Or.inr rfl)) (by decide) (by decide)) (@pe_int _ _ _ _) (fun _ _ => rfl)) (@pe_str _ _ _ _) (nomark _)) (@pss_one _ _ _ (@ps_ret _ _ _ _ (@pe_op _ _ _ _ _ _ _ _ op_addS (@pe_op _ _ _ _ _ _ _ _ op_addS (@pv _ 1 _ _ (by rfl) (by first | exact Or.inl rfl | exact Or.inr (Or.inl rfl) | exact Or.inr (Or.inr rfl)) (by decide) (by decide)) (@pe_str _ _ _ _)) (@pe_fn _ _ _ _ _ _ _ _ _ _ _ F__law_parcel_text hr (@pa_cX _ _ _ _ _ (@pe_ix _ _ _ _ _ _ _ (ix_get hu1) (@pv _ 0 _ _ (by rfl) (by first | exact Or.inl rfl | exact Or.inr (Or.inl rfl) | exact Or.inr (Or.inr rfl)) (by decide) (by decide)) (@pe_int _ _ _ _) (fun _ _ => rfl)) (@pa_nil _) (by rfl)) (by decide) (by rfl) (by decide) (by rfl) (by rfl))))) (@pss_nil _)) (@pss_cons _ _ _ _ _ (@ps_if _ _ _ _ _ _ _ _ (@pt_cmpR _ _ _ _ _ _ _ _ op_eq (@pe_ix _ _ _ _ _ _ _ (ix_get hu1) (@pv _ 0 _ _ (by rfl) (by first | exact Or.inl rfl | exact Or.inr (Or.inl rfl) | exact Or.inr (Or.inr rfl)) (by decide) (by decide)) (@pe_int _ _ _ _) (fun _ _ => rfl)) (@pe_str _ _ _ _) (nomark _)) (@pss_one _ _ _ (@ps_ret _ _ _ _ (@pe_op _ _ _ _ _ _ _ _ op_addS (@pe_op _ _ _ _ _ _ _ _ op_addS (@pe_op _ _ _ _ _ _ _ _ op_addS (@pe_op _ _ _ _ _ _ _ _ op_addS (@pv _ 1 _ _ (by rfl) (by first | exact Or.inl rfl | exact Or.inr (Or.inl rfl) | exact Or.inr (Or.inr rfl)) (by decide) (by decide)) (@pe_str _ _ _ _)) (@pe_ix _ _ _ _ _ _ _ (ix_get hu1) (@pv _ 0 _ _ (by rfl) (by first | exact Or.inl rfl | exact Or.inr (Or.inl rfl) | exact Or.inr (Or.inr rfl)) (by decide) (by decide)) (@pe_int _ _ _ _) (fun _ _ => rfl))) (@pe_str _ _ _ _)) (@pe_fn _ _ _ _ _ _ _ _ _ _ _ F__law_parcel_text hr (@pa_cX _ _ _ _ _ (@pe_ix _ _ _ _ _ _ _ (ix_get hu1) (@pv _ 0 _ _ (by rfl) (by first | exact Or.inl rfl | exact Or.inr (Or.inl rfl) | exact Or.inr (Or.inr rfl)) (by decide) (by decide)) (@pe_int _ _ _ _) (fun _ _ => rfl)) (@pa_nil _) (by rfl)) (by decide) (by rfl) (by decide) (by rfl) (by rfl))))) (@pss_nil _)) (@pss_cons _ _ _ _ _ (@ps_if _ _ _ _ _ _ _ _ (@pt_cmpR _ _ _ _ _ _ _ _ op_eq (@pe_ix _ _ _ _ _ _ _ (ix_get hu1) (@pv _ 0 _ _ (by rfl) (by first | exact Or.inl rfl | exact Or.inr (Or.inl rfl) | exact Or.inr (Or.inr rfl)) (by decide) (by decide)) (@pe_int _ _ _ _) (fun _ _ => rfl)) (@pe_str _ _ _ _) (nomark _)) (@pss_cons _ _ _ _ _ (@ps_setC _ _ _ _ _ _ _ _ _ _ _ 3 _ _ _ ["_law_thing_here"] [] [] rfl sc__law_text.nd rfl (by first | exact Or.inl rfl | exact Or.inr rfl) _ cs__law_text_1 (@pi_tupK _ K _ _ _ (@pe_ix _ _ _ _ _ _ _ (ix_get hu1) (@pv _ 0 _ _ (by rfl) (by first | exact Or.inl rfl | exact Or.inr (Or.inl rfl) | exact Or.inr (Or.inr rfl)) (by decide) (by decide)) (@pe_int _ _ _ _) (fun _ _ => rfl)) (by rfl)) (fun _ _ _ _ => (@pg_name _ _ 0 _ cs__law_text_1.nd rfl (by first | exact Or.inl rfl | exact Or.inr rfl) (by first | exact .inl rfl | exact .inr rfl | assumption))) (fun _ _ _ _ => (@pf_nil _)) (fun _ _ _ _ => (@pe_op _ _ _ _ _ _ _ _ op_addS (@pe_str _ _ _ _) (@pe_fn _ _ _ _ _ _ _ _ _ _ _ F__law_thing_text hr (@pa_cX _ _ _ _ _ (@pv _ 0 _ _ (by rfl) (by first | exact Or.inl rfl | exact Or.inr (Or.inl rfl) | exact Or.inr (Or.inr rfl)) (by decide) (by decide)) (@pa_nil _) (by rfl)) (by decide) (by rfl) (by decide) (by rfl) (by rfl)))) rfl (by rfl) (by rfl) (by rfl) (by first | exact .inl rfl | exact .inr rfl | assumption) (by intro _; rfl)) (@pss_one _ _ _ (@ps_ret _ _ _ _ (@pe_op _ _ _ _ _ _ _ _ op_addS (@pe_op _ _ _ _ _ _ _ _ op_addS (@pe_op _ _ _ _ _ _ _ _ op_addS (@pv _ 1 _ _ (by rfl) (by first | exact Or.inl rfl | exact Or.inr (Or.inl rfl) | exact Or.inr (Or.inr rfl)) (by decide) (by decide)) (@pe_str _ _ _ _)) (@pe_callTy _ _ _ _ _ _ _ _ _ call_strS rfl (hb _ (by decide)) bt_str (@pa_cX _ _ _ _ _ (@pe_ix _ _ _ _ _ _ _ (ix_get hu1) (@pv _ 0 _ _ (by rfl) (by first | exact Or.inl rfl | exact Or.inr (Or.inl rfl) | exact Or.inr (Or.inr rfl)) (by decide) (by decide)) (@pe_int _ _ _ _) (fun _ _ => rfl)) (@pa_nil _) (by rfl)) (by decide) (by decide) (by rfl) (by rfl))) (@pe_join _ _ _ _ _ _ _ (@pe_str _ _ _ _) (@pv _ 3 _ _ (by rfl) (by first | exact Or.inl rfl | exact Or.inr (Or.inl rfl) | exact Or.inr (Or.inr rfl)) (by decide) (by decide)) (by constructor <;> rfl)))))) (@pss_nil _)) (@pss_cons _ _ _ _ _ (@ps_if _ _ _ _ _ _ _ _ (@pt_cmpR _ _ _ _ _ _ _ _ op_eq (@pe_ix _ _ _ _ _ _ _ (ix_get hu1) (@pv _ 0 _ _ (by rfl) (by first | exact Or.inl rfl | exact Or.inr (Or.inl rfl) | exact Or.inr (Or.inr rfl)) (by decide) (by decide)) (@pe_int _ _ _ _) (fun _ _ => rfl)) (@pe_str _ _ _ _) (nomark _)) (@pss_cons _ _ _ _ _ (@ps_set _ _ 1 _ _ _ _ sc__law_text.nd rfl (by first | exact Or.inl rfl | exact Or.inr rfl) (@pe_op _ _ _ _ _ _ _ _ op_addS (@pe_op _ _ _ _ _ _ _ _ op_addS (@pe_op _ _ _ _ _ _ _ _ op_addS (@pe_op _ _ _ _ _ _ _ _ op_addS (@pv _ 1 _ _ (by rfl) (by first | exact Or.inl rfl | exact Or.inr (Or.inl rfl) | exact Or.inr (Or.inr rfl)) (by decide) (by decide)) (@pe_str _ _ _ _)) (@pe_callTy _ _ _ _ _ _ _ _ _ call_strS rfl (hb _ (by decide)) bt_str (@pa_cX _ _ _ _ _ (@pe_ix _ _ _ _ _ _ _ (ix_get hu1) (@pv _ 0 _ _ (by rfl) (by first | exact Or.inl rfl | exact Or.inr (Or.inl rfl) | exact Or.inr (Or.inr rfl)) (by decide) (by decide)) (@pe_int _ _ _ _) (fun _ _ => rfl)) (@pa_nil _) (by rfl)) (by decide) (by decide) (by rfl) (by rfl))) (@pe_str _ _ _ _)) (@pe_callTy _ _ _ _ _ _ _ _ _ call_strS rfl (hb _ (by decide)) bt_str (@pa_cX _ _ _ _ _ (@pe_ix _ _ _ _ _ _ _ (ix_get hu1) (@pv _ 0 _ _ (by rfl) (by first | exact Or.inl rfl | exact Or.inr (Or.inl rfl) | exact Or.inr (Or.inr rfl)) (by decide) (by decide)) (@pe_int _ _ _ _) (fun _ _ => rfl)) (@pa_nil _) (by rfl)) (by decide) (by decide) (by rfl) (by rfl))) (by rfl) (by first | exact .inl rfl | exact .inr rfl | assumption)) (@pss_cons _ _ _ _ _ (@ps_for _ _ _ _ _ _ _ _ PassesOwn.never rfl (@pi_tupK _ K _ _ _ (@pe_ix _ _ _ _ _ _ _ (ix_get hu1) (@pv _ 0 _ _ (by rfl) (by first | exact Or.inl rfl | exact Or.inr (Or.inl rfl) | exact Or.inr (Or.inr rfl)) (by decide) (by decide)) (@pe_int _ _ _ _) (fun _ _ => rfl)) (by rfl)) (@pg_seqX _ _ _ _ 2 _ rfl (@pgs_cons _ _ _ _ _ (@pg_name _ _ 4 _ sc__law_text.nd rfl (by first | exact Or.inl rfl | exact Or.inr rfl) (by first | exact .inl rfl | exact .inr rfl | assumption)) (@pgs_cons _ _ _ _ _ (@pg_name _ _ 5 _ sc__law_text.nd rfl (by first | exact Or.inl rfl | exact Or.inr rfl) (by first | exact .inl rfl | exact .inr rfl | assumption)) (@pgs_nil _) (by rfl)) (by rfl)) (by rfl) (by rfl)) (@pss_one _ _ _ (@ps_set _ _ 1 _ _ _ _ sc__law_text.nd rfl (by first | exact Or.inl rfl | exact Or.inr rfl) (@pe_op _ _ _ _ _ _ _ _ op_addS (@pe_op _ _ _ _ _ _ _ _ op_addS (@pe_op _ _ _ _ _ _ _ _ op_addS (@pe_op _ _ _ _ _ _ _ _ op_addS (@pv _ 1 _ _ (by rfl) (by first | exact Or.inl rfl | exact Or.inr (Or.inl rfl) | exact Or.inr (Or.inr rfl)) (by decide) (by decide)) (@pe_str _ _ _ _)) (@pe_callTy _ _ _ _ _ _ _ _ _ call_strS rfl (hb _ (by decide)) bt_str (@pa_cX _ _ _ _ _ (@pv _ 4 _ _ (by rfl) (by first | exact Or.inl rfl | exact Or.inr (Or.inl rfl) | exact Or.inr (Or.inr rfl)) (by decide) (by decide)) (@pa_nil _) (by rfl)) (by decide) (by decide) (by rfl) (by rfl))) (@pe_str _ _ _ _)) (@pe_fn _ _ _ _ _ _ _ _ _ _ _ F__law_parcel_text hr (@pa_cX _ _ _ _ _ (@pv _ 5 _ _ (by rfl) (by first | exact Or.inl rfl | exact Or.inr (Or.inl rfl) | exact Or.inr (Or.inr rfl)) (by decide) (by decide)) (@pa_nil _) (by rfl)) (by decide) (by rfl) (by decide) (by rfl) (by rfl))) (by rfl) (by first | exact .inl rfl | exact .inr rfl | assumption))) (by intro _; rfl)) (@pss_one _ _ _ (@ps_ret _ _ _ _ (@pv _ 1 _ _ (by rfl) (by first | exact Or.inl rfl | exact Or.inr (Or.inl rfl) | exact Or.inr (Or.inr rfl)) (by decide) (by decide)))))) (@pss_nil _)) (@pss_cons _ _ _ _ _ (@ps_if _ _ _ _ _ _ _ _ (@pt_cmpR _ _ _ _ _ _ _ _ op_eq (@pe_ix _ _ _ _ _ _ _ (ix_get hu1) (@pv _ 0 _ _ (by rfl) (by first | exact Or.inl rfl | exact Or.inr (Or.inl rfl) | exact Or.inr (Or.inr rfl)) (by decide) (by decide)) (@pe_int _ _ _ _) (fun _ _ => rfl)) (@pe_str _ _ _ _) (nomark _)) (@pss_one _ _ _ (@ps_ret _ _ _ _ (@pe_op _ _ _ _ _ _ _ _ op_addS (@pe_op _ _ _ _ _ _ _ _ op_addS (@pe_op _ _ _ _ _ _ _ _ op_addS (@pe_op _ _ _ _ _ _ _ _ op_addS (@pe_op _ _ _ _ _ _ _ _ op_addS (@pe_op _ _ _ _ _ _ _ _ op_addS (@pv _ 1 _ _ (by rfl) (by first | exact Or.inl rfl | exact Or.inr (Or.inl rfl) | exact Or.inr (Or.inr rfl)) (by decide) (by decide)) (@pe_str _ _ _ _)) (@pe_ix _ _ _ _ _ _ _ (ix_get hu1) (@pv _ 0 _ _ (by rfl) (by first | exact Or.inl rfl | exact Or.inr (Or.inl rfl) | exact Or.inr (Or.inr rfl)) (by decide) (by decide)) (@pe_int _ _ _ _) (fun _ _ => rfl))) (@pe_str _ _ _ _)) (@pe_callTy _ _ _ _ _ _ _ _ _ call_strS rfl (hb _ (by decide)) bt_str (@pa_cX _ _ _ _ _ (@pe_ix _ _ _ _ _ _ _ (ix_get hu1) (@pe_ix _ _ _ _ _ _ _ (ix_get hu1) (@pv _ 0 _ _ (by rfl) (by first | exact Or.inl rfl | exact Or.inr (Or.inl rfl) | exact Or.inr (Or.inr rfl)) (by decide) (by decide)) (@pe_int _ _ _ _) (fun _ _ => rfl)) (@pe_int _ _ _ _) (fun _ _ => rfl)) (@pa_nil _) (by rfl)) (by decide) (by decide) (by rfl) (by rfl))) (@pe_str _ _ _ _)) (@pe_ix _ _ _ _ _ _ _ (ix_get hu1) (@pe_ix _ _ _ _ _ _ _ (ix_get hu1) (@pv _ 0 _ _ (by rfl) (by first | exact Or.inl rfl | exact Or.inr (Or.inl rfl) | exact Or.inr (Or.inr rfl)) (by decide) (by decide)) (@pe_int _ _ _ _) (fun _ _ => rfl)) (@pe_int _ _ _ _) (fun _ _ => rfl))))) (@pss_nil _)) (@pss_one _ _ _ (@ps_ret _ _ _ _ (@pe_op _ _ _ _ _ _ _ _ op_addS (@pe_op _ _ _ _ _ _ _ _ op_addS (@pe_op _ _ _ _ _ _ _ _ op_addS (@pe_op _ _ _ _ _ _ _ _ op_addS (@pe_op _ _ _ _ _ _ _ _ op_addS (@pe_op _ _ _ _ _ _ _ _ op_addS (@pv _ 1 _ _ (by rfl) (by first | exact Or.inl rfl | exact Or.inr (Or.inl rfl) | exact Or.inr (Or.inr rfl)) (by decide) (by decide)) (@pe_str _ _ _ _)) (@pe_ix _ _ _ _ _ _ _ (ix_get hu1) (@pv _ 0 _ _ (by rfl) (by first | exact Or.inl rfl | exact Or.inr (Or.inl rfl) | exact Or.inr (Or.inr rfl)) (by decide) (by decide)) (@pe_int _ _ _ _) (fun _ _ => rfl))) (@pe_str _ _ _ _)) (@pe_ix _ _ _ _ _ _ _ (ix_get hu1) (@pv _ 0 _ _ (by rfl) (by first | exact Or.inl rfl | exact Or.inr (Or.inl rfl) | exact Or.inr (Or.inr rfl)) (by decide) (by decide)) (@pe_int _ _ _ _) (fun _ _ => rfl))) (@pe_str _ _ _ _)) (@pe_callTy _ _ _ _ _ _ _ _ _ call_strS rfl (hb _ (by decide)) bt_str (@pa_cX _ _ _ _ _ (@pe_ix _ _ _ _ _ _ _ (ix_get hu1) (@pv _ 0 _ _ (by rfl) (by first | exact Or.inl rfl | exact Or.inr (Or.inl rfl) | exact Or.inr (Or.inr rfl)) (by decide) (by decide)) (@pe_int _ _ _ _) (fun _ _ => rfl)) (@pa_nil _) (by rfl)) (by decide) (by decide) (by rfl) (by rfl))))))))))))), ?_⟩
    have e2 := S_of " "
    have k2 : (K83.w " ").length = 1 := by decide
    have e32 : K83.w " " = [32] := by decide
    have hl40 := rhT_len hs
    refine use1 (fun σ' H' => H' = H ∧ σ' = [some v, some (.str (S (rhT r))), none, none, none, none]) ?key ?go
    case go =>
      intro R hR
      obtain ⟨p, rest, rfl, ep⟩ := hv.hd
      obtain ⟨h1, h2, h3⟩ := hs.hd
      have l1 := nT_len h1
      have l2 := nT_len h2
      simp (maxSteps := 1000000) only [rGet, getO_t, atI_0, atI_1, atI_2, Nat.reduceSub, Nat.reduceAdd, List.cons.injEq, tSeq, exists_and_left, tOp, tVar, tC, tAsg, gName, tCons, tNil, tCB, L2.start, List.map_cons, List.map_nil, List.length_cons, List.length_nil, List.replicate, List.cons_append, List.nil_append, List.getElem?_cons_zero, List.set_cons_zero, List.set_cons_succ, Option.some.injEq, exists_eq_left', V.int.injEq, V.ref.injEq, V.str.injEq, exists_const, and_true, reduceCtorEq, false_and, or_false, ep, rStrS, rAddS, S_eq, nat_eq, e2]
      refine ⟨?_, h1, ?_, ?_, h2, ?_, hR _ _ ⟨rfl, rfl⟩⟩ <;> (try simp only [List.length_append]) <;> omega
    case key =>
      rintro σ' H' ⟨rfl, rfl⟩
      have ex : ∀ x : String, Str.ofString x = S (K83.w x) := S_of
      have e3 := S_of "came"
      have e4 := S_of "way"
      have e5 := S_of "here"
      have e6 := S_of "gone"
      have e7 := S_of "read"
      have e8 := S_of "sent"
      have e9 := S_of "put"
      have e10 := S_of "; "
      have e11 := S_of " put "
      have e12 := S_of "none"
      have kw : (K83.w "; ").length = 2 := by decide
      cases r with
      | came n h x y ps =>
        obtain ⟨p, q', us, rfl, ep, er, hp⟩ := hv
        rw [e3] at ep
        have a4 : atI [V.str (S (K83.w "came")), V.int (n : Int), V.int (h : Int), V.int (x : Int), V.int (y : Int), V.ref q'] 4 = some (V.int (y : Int)) := rfl
        have a5 : atI [V.str (S (K83.w "came")), V.int (n : Int), V.int (h : Int), V.int (x : Int), V.int (y : Int), V.ref q'] 5 = some (V.ref q') := rfl
        refine takeW rfl ep rfl rfl fun N => ?_
        simp (maxSteps := 1000000) only [tComp_eq, rGet, getO_t, atI_3, Nat.reduceAdd, List.cons.injEq, tSeq, exists_and_left, tOp, tVar, tC, tRet, tAsg, gName, tCons, tNil, tCB, List.length_cons, List.length_nil, List.getElem?_cons_zero, List.getElem?_cons_succ, List.set_cons_zero, List.set_cons_succ, Option.some.injEq, exists_eq_left', V.int.injEq, V.ref.injEq, V.str.injEq, exists_const, and_true, reduceCtorEq, false_and, or_false, ep, rStrS, rAddS, S_eq, nat_eq, e2, e10, a4, a5, tJoin, iTup]
        have lx := nT_len hs.2.2.1
        have ly := nT_len hs.2.2.2.1
        have hlen := hp.length
        have hl4 := hs.2.2.2.2.1
        refine ⟨by omega, hs.2.2.1, ?_, ?_, hs.2.2.2.1, ?_, ⟨_, SqT.of er⟩, comp_growT (SqT.of er) (by rw [sizeLine_eq]; omega) (((ps.map fun a => K83.w "; " ++ pT a).map S).map V.str) (by simp; omega) (fun H5 i v yy Q' hv hy s5 hq => ?_) (fun D H5 nD s5 eD => ?_) (gName_mono 0)⟩
        · simp only [List.length_append]; omega
        · simp only [List.length_append]; omega
        · simp only [List.length_append]; omega
        · obtain ⟨t, ht, hr'⟩ := paired_get hp hv
          rw [List.getElem?_map, List.getElem?_map, List.getElem?_map, ht] at hy
          have ey : V.str (S (K83.w "; " ++ pT t)) = yy := by simpa using hy
          subst ey
          have ts := hs.2.2.2.2.2 t (List.mem_of_getElem? ht)
          have lt := pT_len ts
          simp (maxSteps := 1000000) only [cSt, List.drop_succ_cons, List.drop_zero, exists_and_left, tOp, tVar, tC, gName, tCall, tCons, tNil, List.map_nil, List.replicate, List.getElem?_cons_zero, List.set_cons_zero, Option.some.injEq, exists_eq_left', V.str.injEq, true_and, List.append_nil, rAddS, S_eq]
          exact ⟨v, t, rfl, hr'.same s5, ts, fun H6 s6 => ⟨_, rfl, by omega, hq _ s6⟩⟩
        · have hsum : ((ps.map fun a => K83.w "; " ++ pT a).map fun p => p.length).sum ≤ 202 * ps.length := by
            rw [← List.length_flatten, lT_flatM]
            exact lT_len fun a ha => pT_len (hs.2.2.2.2.2 a ha)
          have hll : (lT pT ps).length ≤ _ := lT_len fun a ha => pT_len (hs.2.2.2.2.2 a ha)
          obtain ⟨j1, j2, j3⟩ := join_fits0 (ps.map fun a => K83.w "; " ++ pT a) rfl (by omega)
          refine ⟨D, rfl, _, eD, j1, j2, _, j3, ?_, ?_⟩
          · rw [lT_flatM]
            simp only [List.length_append]
            omega
          · have e : rhT (.came n h x y ps) ++ K83.w " " ++ nT x ++ K83.w " " ++ nT y ++ (ps.map fun a => K83.w "; " ++ pT a).flatten = rT (.came n h x y ps) := by
              rw [lT_flatM]
              unfold rhT
              rw [e32]
              simp [word, rT, rn, rh]
            rw [e]
            exact q _ s5
      | way n h x o o2 =>
        obtain ⟨p, rfl, ep⟩ := hv
        rw [e4] at ep
        refine skipW rfl ep rfl (show K83.w "way" ≠ K83.w "came" by decide) (takeW rfl ep rfl rfl fun N => ?_)
        simp (maxSteps := 1000000) only [tFor_eq, HO.tup.injEq, tSl, tNoPart, tPart, tSeq, exists_and_left, tVar, tC, List.getElem?_cons_zero, Option.some.injEq, exists_eq_left', V.int.injEq, V.ref.injEq, ep, e2, rSlTX, iTup, e12]
        intro p1 H1 hh e1
        have s1 := slice_same hh
        have ec : cutV [V.str (S (K83.w "way")), V.int (n : Int), V.int (h : Int), V.int (x : Int), onV o, onV o2] (some 3) none = [V.int (x : Int), onV o, onV o2] := rfl
        rw [ec] at e1
        refine ⟨⟨_, SqT.of e1⟩, word_loop (ts := [nT x, oT o, oT o2]) (fun l v => [some (V.ref p), some (V.str (S l)), v, none, none, none]) 1 2 (fun _ _ => rfl) (fun _ _ => rfl) (fun _ _ _ => rfl) (fun _ _ _ => rfl) e1 (.cons (.inl ⟨x, rfl, hs.2.2.1, rfl⟩) (.cons (wv_o hs.2.2.2.1) (.cons (wv_o hs.2.2.2.2) .nil))) (by omega) (by simp) fun H2 v s2 => ?_⟩
        have e : rhT (.way n h x o o2) ++ wT [nT x, oT o, oT o2] = rT (.way n h x o o2) := by
          unfold rhT
          rw [e32]
          simp [word, rT, wT, rn, rh]
        rw [e]
        simp (maxSteps := 1000000) only [tVar, tRet, List.getElem?_cons_zero, List.getElem?_cons_succ, Option.some.injEq, exists_eq_left']
        exact q _ (s1.trans s2)
      | here n h pc =>
        obtain ⟨p, u, rfl, ep, hp⟩ := hv
        rw [e5] at ep
        refine skipW rfl ep rfl (show K83.w "here" ≠ K83.w "came" by decide) (skipW rfl ep rfl (show K83.w "here" ≠ K83.w "way" by decide) (takeW rfl ep rfl rfl fun N => ?_))
        simp (maxSteps := 1000000) only [rGet, getO_t, atI_3, exists_and_left, tOp, tVar, tC, tRet, tCall, tCons, tNil, List.getElem?_cons_zero, List.getElem?_cons_succ, Option.some.injEq, exists_eq_left', V.ref.injEq, V.str.injEq, List.append_nil, ep, rAddS, S_eq, e2]
        have lp := pT_len hs.2.2
        refine ⟨by omega, u, pc, rfl, hp, hs.2.2, fun H1 s1 => ⟨_, rfl, ?_, ?_⟩⟩
        · simp only [List.length_append]; omega
        · have e : rhT (.here n h pc) ++ K83.w " " ++ pT pc = rT (.here n h pc) := by
            unfold rhT
            rw [e32]
            simp [word, rT, rn, rh]
          rw [e]
          exact q _ s1
      | gone n h z pc =>
        obtain ⟨p, u, rfl, ep, hp⟩ := hv
        rw [e6] at ep
        have a4 : atI [V.str (S (K83.w "gone")), V.int (n : Int), V.int (h : Int), u, V.str (S z)] 4 = some (V.str (S z)) := rfl
        refine skipW rfl ep rfl (show K83.w "gone" ≠ K83.w "came" by decide) (skipW rfl ep rfl (show K83.w "gone" ≠ K83.w "way" by decide) (skipW rfl ep rfl (show K83.w "gone" ≠ K83.w "here" by decide) (takeW rfl ep rfl rfl fun N => ?_)))
        simp (maxSteps := 1000000) only [rGet, getO_t, atI_3, exists_and_left, tOp, tVar, tC, tRet, tCall, tCons, tNil, List.getElem?_cons_zero, List.getElem?_cons_succ, Option.some.injEq, exists_eq_left', V.ref.injEq, V.str.injEq, List.append_nil, ep, rAddS, S_eq, e2, a4]
        have lp := pT_len hs.2.2.2
        have lz := hs.2.2.1
        refine ⟨by omega, ?_, ?_, u, pc, rfl, hp, hs.2.2.2, fun H1 s1 => ⟨_, rfl, ?_, ?_⟩⟩
        · simp only [List.length_append]; omega
        · simp only [List.length_append]; omega
        · simp only [List.length_append]; omega
        · have e : rhT (.gone n h z pc) ++ K83.w " " ++ z ++ K83.w " " ++ pT pc = rT (.gone n h z pc) := by
            unfold rhT
            rw [e32]
            simp [word, rT, rn, rh]
          rw [e]
          exact q _ s1
      | read n h x ts =>
        obtain ⟨p, q', us, rfl, ep, er, hp⟩ := hv
        rw [e7] at ep
        have a4 : atI [V.str (S (K83.w "read")), V.int (n : Int), V.int (h : Int), V.int (x : Int), V.ref q'] 4 = some (V.ref q') := rfl
        refine skipW rfl ep rfl (show K83.w "read" ≠ K83.w "came" by decide) (skipW rfl ep rfl (show K83.w "read" ≠ K83.w "way" by decide) (skipW rfl ep rfl (show K83.w "read" ≠ K83.w "here" by decide) (skipW rfl ep rfl (show K83.w "read" ≠ K83.w "gone" by decide) (takeW rfl ep rfl rfl fun N => ?_))))
        simp (maxSteps := 1000000) only [tComp_eq, rGet, getO_t, Nat.reduceAdd, List.cons.injEq, tSeq, exists_and_left, tOp, tVar, tC, tRet, tAsg, gName, tCons, tNil, tCB, List.length_cons, List.length_nil, List.getElem?_cons_zero, List.getElem?_cons_succ, List.set_cons_zero, List.set_cons_succ, Option.some.injEq, exists_eq_left', V.ref.injEq, V.str.injEq, and_true, ep, rStrS, rAddS, S_eq, e2, e10, a4, tJoin, iTup]
        have lx := nT_len hs.2.2.1
        have hlen := hp.length
        have hl4 := hs.2.2.2.1
        refine ⟨⟨_, SqT.of er⟩, comp_growT (SqT.of er) (by rw [sizeLine_eq]; omega) (((ts.map fun a => K83.w "; " ++ tT a).map S).map V.str) (by simp; omega) (fun H5 i v yy Q' hv hy s5 hq => ?_) (fun D H5 nD s5 eD => ?_) (gName_mono 0)⟩
        · obtain ⟨t, ht, hr'⟩ := paired_get hp hv
          rw [List.getElem?_map, List.getElem?_map, List.getElem?_map, ht] at hy
          have ey : V.str (S (K83.w "; " ++ tT t)) = yy := by simpa using hy
          subst ey
          have tk := hs.2.2.2.2 t (List.mem_of_getElem? ht)
          have lt := tT_len tk
          simp (maxSteps := 1000000) only [cSt, List.drop_succ_cons, List.drop_zero, exists_and_left, tOp, tVar, tC, gName, tCall, tCons, tNil, List.map_nil, List.replicate, List.getElem?_cons_zero, List.set_cons_zero, Option.some.injEq, exists_eq_left', V.str.injEq, true_and, List.append_nil, rAddS, S_eq]
          exact ⟨v, t, rfl, hr'.same s5, tk, _, rfl, by omega, hq _ (.refl _)⟩
        · have ep5 := s5 _ _ ep
          simp (maxSteps := 1000000) only [getO_t, atI_3, Option.some.injEq, exists_eq_left', V.int.injEq, V.ref.injEq, exists_const, reduceCtorEq, false_and, or_false, ep5, nat_eq]
          have hsum : ((ts.map fun a => K83.w "; " ++ tT a).map fun p => p.length).sum ≤ 42 * ts.length := by
            rw [← List.length_flatten, lT_flatM]
            exact lT_len fun a ha => tT_len (hs.2.2.2.2 a ha)
          have hll : (lT tT ts).length ≤ _ := lT_len fun a ha => tT_len (hs.2.2.2.2 a ha)
          obtain ⟨j1, j2, j3⟩ := join_fits0 (ts.map fun a => K83.w "; " ++ tT a) rfl (by omega)
          refine ⟨by omega, hs.2.2.1, ?_, _, eD, j1, j2, _, j3, ?_, ?_⟩
          · simp only [List.length_append]; omega
          · rw [lT_flatM]
            simp only [List.length_append]
            omega
          · have e : rhT (.read n h x ts) ++ K83.w " " ++ nT x ++ (ts.map fun a => K83.w "; " ++ tT a).flatten = rT (.read n h x ts) := by
              rw [lT_flatM]
              unfold rhT
              rw [e32]
              simp [word, rT, rn, rh]
            rw [e]
            exact q _ s5
      | sent n h x y ps =>
        obtain ⟨p, q', us, rfl, ep, er, hp⟩ := hv
        rw [e8] at ep
        have a4 : atI [V.str (S (K83.w "sent")), V.int (n : Int), V.int (h : Int), V.int (x : Int), V.ref q', V.int (y : Int)] 4 = some (V.ref q') := rfl
        have a5 : atI [V.str (S (K83.w "sent")), V.int (n : Int), V.int (h : Int), V.int (x : Int), V.ref q', V.int (y : Int)] 5 = some (V.int (y : Int)) := rfl
        refine skipW rfl ep rfl (show K83.w "sent" ≠ K83.w "came" by decide) (skipW rfl ep rfl (show K83.w "sent" ≠ K83.w "way" by decide) (skipW rfl ep rfl (show K83.w "sent" ≠ K83.w "here" by decide) (skipW rfl ep rfl (show K83.w "sent" ≠ K83.w "gone" by decide) (skipW rfl ep rfl (show K83.w "sent" ≠ K83.w "read" by decide) (takeW rfl ep rfl rfl fun N => ?_)))))
        simp (maxSteps := 1000000) only [tFor_eq, rGet, getO_t, atI_3, List.cons.injEq, tSeq, exists_and_left, tOp, tVar, tC, tAsg, gName, tCons, tNil, tCB, List.getElem?_cons_zero, List.getElem?_cons_succ, List.set_cons_zero, List.set_cons_succ, Option.some.injEq, exists_eq_left', V.int.injEq, V.ref.injEq, V.str.injEq, exists_const, and_true, reduceCtorEq, false_and, or_false, ep, rStrS, rAddS, S_eq, nat_eq, e2, e10, a4, a5, iTup]
        have lx := nT_len hs.2.2.1
        have ly := nT_len hs.2.2.2.1
        have hlen := hp.length
        have hl4 := hs.2.2.2.2.1
        have ls : ∀ a ∈ ps, (sT a).length ≤ 220 := fun a ha => by
          have hb := hs.2.2.2.2.2 a ha
          have k1 := pT_len hb.2
          have k2 := nT_len hb.1
          simp only [sT, List.length_append, List.length_cons]
          omega
        refine ⟨by omega, hs.2.2.1, ?_, ?_, hs.2.2.2.1, ?_, ⟨_, SqT.of er⟩, for_tup (xs := us) (fun k σ H1 => Same H' H1 ∧ ∃ v4 v5, σ = [some (V.ref p), some (V.str (S (rhT (.sent n h x y ps) ++ K83.w " " ++ nT x ++ K83.w " " ++ nT y ++ lT sT (ps.take k)))), none, none, v4, v5]) ⟨.refl _, none, none, by simp [lT]⟩ ?_ ?_ ?_⟩
        · simp only [List.length_append]; omega
        · simp only [List.length_append]; omega
        · simp only [List.length_append]; omega
        · rintro k σ H1 hk ⟨s1, _⟩
          exact SqT.of (s1 _ _ er)
        · rintro k v σ H1 hk ⟨s1, v4, v5, rfl⟩
          obtain ⟨t, ht, hr'⟩ := paired_get hp hk
          obtain ⟨qq, u, rfl, eq, hu'⟩ := hr'.same s1
          have hb := hs.2.2.2.2.2 t (List.mem_of_getElem? ht)
          have k1 := pT_len hb.2
          have k3 := nT_len hb.1
          have hlt := (List.getElem?_eq_some_iff.mp ht).1
          have hll := lT_len (l := ps.take k) fun a ha => ls a (List.mem_of_mem_take ha)
          have hlt2 : (ps.take k).length ≤ 4 := by rw [List.length_take]; omega
          have hl1 : (rhT (.sent n h x y ps) ++ K83.w " " ++ nT x ++ K83.w " " ++ nT y ++ lT sT (ps.take k)).length ≤ 2000 := by simp only [List.length_append]; omega
          have et : rhT (.sent n h x y ps) ++ K83.w " " ++ nT x ++ K83.w " " ++ nT y ++ lT sT (ps.take k) ++ K83.w "; " ++ nT t.1 ++ K83.w " " ++ pT t.2 = rhT (.sent n h x y ps) ++ K83.w " " ++ nT x ++ K83.w " " ++ nT y ++ lT sT (ps.take (k + 1)) := by
            rw [List.take_add_one, ht, Option.toList_some, lT_snoc, e32]
            simp [sT]
          generalize rhT (.sent n h x y ps) ++ K83.w " " ++ nT x ++ K83.w " " ++ nT y ++ lT sT (ps.take k) = m at hl1 et ⊢
          simp (maxSteps := 1000000) only [gSeqX, seqO_t, gCons, gNil, Nat.reduceAdd, exists_eq', List.cons.injEq, exists_and_left, tOp, tVar, tC, tAsg, gName, tCall, tCons, tNil, tCB, List.length_cons, List.length_nil, List.getElem?_cons_zero, List.getElem?_cons_succ, List.set_cons_zero, List.set_cons_succ, Option.some.injEq, exists_eq_left', V.int.injEq, V.ref.injEq, V.str.injEq, exists_const, and_true, true_and, reduceCtorEq, false_and, or_false, and_assoc, List.append_nil, eq, rStrS, rAddS, S_eq, nat_eq]
          refine ⟨by omega, hb.1, ?_, ?_, u, t.2, rfl, hu', hb.2, fun H2 s2 => ⟨_, rfl, ?_, s1.trans s2, et⟩⟩ <;> simp only [List.length_append] <;> omega
        · rintro σ H1 ⟨s1, v4, v5, rfl⟩
          have e : rhT (.sent n h x y ps) ++ K83.w " " ++ nT x ++ K83.w " " ++ nT y ++ lT sT ps = rT (.sent n h x y ps) := by
            unfold rhT
            rw [e32]
            simp [word, rT, rn, rh]
          rw [hlen, List.take_length, e]
          simp (maxSteps := 1000000) only [tVar, tRet, List.getElem?_cons_zero, List.getElem?_cons_succ, Option.some.injEq, exists_eq_left']
          exact q _ s1
      | put n h z g b =>
        obtain ⟨p, q', rfl, ep, er⟩ := hv
        rw [S_of "wish", e9] at ep
        have a4 : atI [V.str (S (K83.w "wish")), V.int (n : Int), V.int (h : Int), V.str (S (K83.w "put")), V.ref q', V.str (S z)] 4 = some (V.ref q') := rfl
        have a5 : atI [V.str (S (K83.w "wish")), V.int (n : Int), V.int (h : Int), V.str (S (K83.w "put")), V.ref q', V.str (S z)] 5 = some (V.str (S z)) := rfl
        refine skipW rfl ep rfl (show K83.w "wish" ≠ K83.w "came" by decide) (skipW rfl ep rfl (show K83.w "wish" ≠ K83.w "way" by decide) (skipW rfl ep rfl (show K83.w "wish" ≠ K83.w "here" by decide) (skipW rfl ep rfl (show K83.w "wish" ≠ K83.w "gone" by decide) (skipW rfl ep rfl (show K83.w "wish" ≠ K83.w "read" by decide) (skipW rfl ep rfl (show K83.w "wish" ≠ K83.w "sent" by decide) (takeW rfl ep rfl rfl fun N => ?_))))))
        simp (maxSteps := 1000000) only [rGet, getO_t, atI_0, atI_1, List.cons.injEq, exists_and_left, tOp, tVar, tC, tRet, tCons, tNil, tCB, List.getElem?_cons_zero, List.getElem?_cons_succ, Option.some.injEq, exists_eq_left', V.int.injEq, V.ref.injEq, V.str.injEq, exists_const, and_true, reduceCtorEq, false_and, or_false, ep, rStrS, rAddS, S_eq, nat_eq, e2, a4, a5, e11, er]
        have lz := hs.2.2.1
        have lg := nT_len hs.2.2.2.1
        have lb := hs.2.2.2.2
        have kp : (K83.w " put ").length = 5 := by decide
        have ek : K83.w " put " = [32] ++ K83.w "put" ++ [32] := by decide
        refine ⟨by omega, ?_, ?_, hs.2.2.2.1, ?_, ?_, ?_, ?_⟩
        · simp only [List.length_append]; omega
        · simp only [List.length_append]; omega
        · simp only [List.length_append]; omega
        · simp only [List.length_append]; omega
        · simp only [List.length_append]; omega
        · have e : rhT (.put n h z g b) ++ K83.w " " ++ z ++ K83.w " put " ++ nT g ++ K83.w " " ++ b = rT (.put n h z g b) := by
            unfold rhT
            rw [ek, e32]
            simp [word, rT, rn, rh]
          rw [e]
          exact q _ (.refl _)
      | wish n h z v u =>
        obtain ⟨p, x, rfl, ep, hx⟩ := hv
        rw [S_of "wish"] at ep
        have lz := hs.2.2.1
        have lv := hs.2.2.2.1
        have lu := hs.2.2.2.2.1
        have nv : v ≠ K83.w "put" := fun z => hs.2.2.2.2.2 (by rw [e9, z])
        have e : rhT (.wish n h z v u) ++ K83.w " " ++ z ++ K83.w " " ++ v ++ K83.w " " ++ u = rT (.wish n h z v u) := by
          unfold rhT
          rw [e32]
          simp [word, rT, rn, rh]
        rcases hx with ⟨rfl, hl⟩ | ⟨k, rfl, rfl, hk⟩
        · have a4 : atI [V.str (S (K83.w "wish")), V.int (n : Int), V.int (h : Int), V.str (S v), V.str (S u), V.str (S z)] 4 = some (V.str (S u)) := rfl
          have a5 : atI [V.str (S (K83.w "wish")), V.int (n : Int), V.int (h : Int), V.str (S v), V.str (S u), V.str (S z)] 5 = some (V.str (S z)) := rfl
          refine skipW rfl ep rfl (show K83.w "wish" ≠ K83.w "came" by decide) (skipW rfl ep rfl (show K83.w "wish" ≠ K83.w "way" by decide) (skipW rfl ep rfl (show K83.w "wish" ≠ K83.w "here" by decide) (skipW rfl ep rfl (show K83.w "wish" ≠ K83.w "gone" by decide) (skipW rfl ep rfl (show K83.w "wish" ≠ K83.w "read" by decide) (skipW rfl ep rfl (show K83.w "wish" ≠ K83.w "sent" by decide) (skipW rfl ep rfl nv ?_))))))
          simp (maxSteps := 1000000) only [rGet, getO_t, atI_3, List.cons.injEq, exists_and_left, tOp, tVar, tC, tRet, tCons, tNil, tCB, List.getElem?_cons_zero, List.getElem?_cons_succ, Option.some.injEq, exists_eq_left', V.ref.injEq, V.str.injEq, exists_const, and_true, reduceCtorEq, false_and, or_false, false_or, ep, rStrS, rAddS, S_eq, e2, a4, a5]
          rw [e]
          refine ⟨by omega, ?_, ?_, ?_, ?_, ?_, q _ (.refl _)⟩ <;> simp only [List.length_append] <;> omega
        · have a4 : atI [V.str (S (K83.w "wish")), V.int (n : Int), V.int (h : Int), V.str (S v), V.int (k : Int), V.str (S z)] 4 = some (V.int (k : Int)) := rfl
          have a5 : atI [V.str (S (K83.w "wish")), V.int (n : Int), V.int (h : Int), V.str (S v), V.int (k : Int), V.str (S z)] 5 = some (V.str (S z)) := rfl
          refine skipW rfl ep rfl (show K83.w "wish" ≠ K83.w "came" by decide) (skipW rfl ep rfl (show K83.w "wish" ≠ K83.w "way" by decide) (skipW rfl ep rfl (show K83.w "wish" ≠ K83.w "here" by decide) (skipW rfl ep rfl (show K83.w "wish" ≠ K83.w "gone" by decide) (skipW rfl ep rfl (show K83.w "wish" ≠ K83.w "read" by decide) (skipW rfl ep rfl (show K83.w "wish" ≠ K83.w "sent" by decide) (skipW rfl ep rfl nv ?_))))))
          simp (maxSteps := 1000000) only [rGet, getO_t, atI_3, List.cons.injEq, exists_and_left, tOp, tVar, tC, tRet, tCons, tNil, tCB, List.getElem?_cons_zero, List.getElem?_cons_succ, Option.some.injEq, exists_eq_left', V.int.injEq, V.ref.injEq, V.str.injEq, exists_const, and_true, reduceCtorEq, false_and, or_false, ep, rStrS, rAddS, S_eq, nat_eq, e2, a4, a5]
          rw [e]
          refine ⟨by omega, ?_, ?_, ?_, ?_, hk, ?_, q _ (.refl _)⟩ <;> simp only [List.length_append] <;> omega
end
end K83
namespace K83
open PySem L2
/-! ### what is known -/
def Kn (H : Hp) (pk : Addr) (n : Nat) : Prop := ∃ kvs : List (Key × V), H pk = some (.dK kvs) ∧ kvs.length ≤ n ∧ ∀ z v, valV kvs (Sum.inr z) = some v → ∃ r, GoodR H v r ∧ z = S (rT r)
theorem Kn.keep {A : List Addr} {H H' : Hp} {pk : Addr} {n : Nat} (h : Kn H pk n) (k : Keep A H H') (hs : ∀ b ∈ A, NoT H b) (hp : pk ∉ A) : Kn H' pk n := by
  obtain ⟨kvs, e, hl, g⟩ := h
  exact ⟨kvs, k _ _ e hp, hl, fun z v hv => by
    obtain ⟨r, G, e⟩ := g z v hv
    exact ⟨r, G.keep k hs, e⟩⟩
theorem Kn.same {H H' : Hp} {pk : Addr} {n : Nat} (h : Kn H pk n) (s : Same H H') : Kn H' pk n := h.keep (A := []) s.keep (fun _ z => nomatch z) (by simp)
theorem Kn.noT {H : Hp} {pk : Addr} {n : Nat} (h : Kn H pk n) : ∀ b ∈ [pk], NoT H b := fun b hb => by
  obtain ⟨kvs, e, _⟩ := h
  rw [List.mem_singleton] at hb
  subst hb
  exact .of_dK e
section
variable {P : Program} {w : World} {K : PySem.W.Frag} {mg : Str → Option Value} {base : Heap}
abbrev s_law : Stmt := top 22
theorem sc_law : FnScope ["_law_script", "_law_known", "_law_cell", "_law_draw_here", "_law_row_here", "_law_near", "_law_one", "_law_text_here", "_law_thing_here"] ["_law_script"] (defScope s_law) := ⟨rfl, rfl, rfl, by decide +kernel, rfl, by decide +kernel, by decide +kernel⟩
def sp_law (K : PySem.W.Frag) : Sp := fun vs H Q _ => ∃ (a : Addr) (ns : List Int), vs = [.ref a] ∧ SqL K H a (ns.map V.int) ∧ ns.length ≤ 63 ∧ ∀ H', Q (.bl true) H'
def Pm (sc pk : Addr) (H0 : Hp) (i : Nat) (σ : St) (H' : Hp) : Prop := Kn H' pk (2 * i) ∧ Keep [pk] H0 H' ∧ ∃ v2 v3 v4 v5 v6 v7 v8, σ = [some (V.ref sc), some (V.ref pk), v2, v3, v4, v5, v6, v7, v8]
set_option maxHeartbeats 8000000 in
theorem law_fn {f : Addr} {fd : FuncData} (F : Fun K "law" "law" s_law f fd) (hb : Blt mg) (F__law_draw : Own P w K mg base 1 "_law_draw" ["_law_cell"] sp_draw) (F__law_next : Own P w K mg base 1 "_law_next" ["_law_draw_here", "_law_size"] sp_next) (F__law_row : Own P w K mg base 5 "_law_row" ["_law_draw_here"] (Drw isR)) (F__law_thing : Own P w K mg base 2 "_law_thing" ["_law_draw_here"] (Drw isTh))
    (F_row_text : Own P w K mg base 6 "row_text" ["row"] sp_row) (F_thing_text : Own P w K mg base 1 "thing_text" ["thing"] sp_tht) (F__law_text : Own P w K mg base 3 "_law_text" ["_law_row_here"] sp_row) (F__law_thing_text : Own P w K mg base 1 "_law_thing_text" ["_law_thing_here"] sp_tht) : FnOk P w K mg base CX0 7 f fd ["_law_script"] (sp_law K) := by
  refine F.ok sc_law (fun vs H Q E h => ?_) (fun cdv A outer s H vs Q E hr h => ?_)
  · obtain ⟨a, ns, rfl, _⟩ := h
    rfl
  · obtain ⟨sc, ns, rfl, hS, h63, q⟩ := h
    have hu := hr.units
    have hu1 : (A.deeper (PyProof.Rows.envOfC "law" (defScope s_law) s.heap.objs.size f cdv)).units + 1 < cLine := by omega
    refine ⟨_, (@pss_cons _ _ _ _ _ (@ps_set _ _ 1 _ _ _ _ sc_law.nd rfl (by first | exact Or.inl rfl | exact Or.inr rfl) (@pe_dnewK _ _) (by rfl) (by first | exact .inl rfl | exact .inr rfl | assumption)) (@pss_cons _ _ _ _ _ (@ps_for _ _ _ _ _ _ _ _ PassesOwn.never rfl (@pi_listK _ K _ _ _ (@pe_slice _ _ _ _ _ _ _ _ _ _ (sl_listK K) (@pv _ 0 _ _ (by rfl) (by first | exact Or.inl rfl | exact Or.inr (Or.inl rfl) | exact Or.inr (Or.inr rfl)) (by decide) (by decide)) (@po_none _) (@po_some _ _ _ (@pe_int _ _ _ _))) (by rfl)) (@pg_name _ _ 2 _ sc_law.nd rfl (by first | exact Or.inl rfl | exact Or.inr rfl) (by first | exact .inl rfl | exact .inr rfl | assumption)) (@pss_cons _ _ _ _ _ (@ps_set _ _ 3 _ _ _ _ sc_law.nd rfl (by first | exact Or.inl rfl | exact Or.inr rfl) (@pe_fn _ _ _ _ _ _ _ _ _ _ _ F__law_draw hr (@pa_cX _ _ _ _ _ (@pv _ 2 _ _ (by rfl) (by first | exact Or.inl rfl | exact Or.inr (Or.inl rfl) | exact Or.inr (Or.inr rfl)) (by decide) (by decide)) (@pa_nil _) (by rfl)) (by decide) (by rfl) (by decide) (by rfl) (by rfl)) (by rfl) (by first | exact .inl rfl | exact .inr rfl | assumption)) (@pss_cons _ _ _ _ _ (@ps_set _ _ 4 _ _ _ _ sc_law.nd rfl (by first | exact Or.inl rfl | exact Or.inr rfl) (@pe_fn _ _ _ _ _ _ _ _ _ _ _ F__law_row hr (@pa_cX _ _ _ _ _ (@pv _ 3 _ _ (by rfl) (by first | exact Or.inl rfl | exact Or.inr (Or.inl rfl) | exact Or.inr (Or.inr rfl)) (by decide) (by decide)) (@pa_nil _) (by rfl)) (by decide) (by rfl) (by decide) (by rfl) (by rfl)) (by rfl) (by first | exact .inl rfl | exact .inr rfl | assumption)) (@pss_cons _ _ _ _ _ (@ps_set _ _ 5 _ _ _ _ sc_law.nd rfl (by first | exact Or.inl rfl | exact Or.inr rfl) (@pe_fn _ _ _ _ _ _ _ _ _ _ _ F__law_row hr (@pa_cX _ _ _ _ _ (@pe_fn _ _ _ _ _ _ _ _ _ _ _ F__law_draw hr (@pa_cX _ _ _ _ _ (@pe_op _ _ _ _ _ _ _ _ op_add (@pv _ 2 _ _ (by rfl) (by first | exact Or.inl rfl | exact Or.inr (Or.inl rfl) | exact Or.inr (Or.inr rfl)) (by decide) (by decide)) (@pe_op _ _ _ _ _ _ _ _ op_mul (@pe_op _ _ _ _ _ _ _ _ op_mul (@pe_int _ _ _ _) (@pe_fn _ _ _ _ _ _ _ _ _ _ _ F__law_next hr (@pa_cX _ _ _ _ _ (@pv _ 3 _ _ (by rfl) (by first | exact Or.inl rfl | exact Or.inr (Or.inl rfl) | exact Or.inr (Or.inr rfl)) (by decide) (by decide)) (@pa_cX _ _ _ _ _ (@pe_int _ _ _ _) (@pa_nil _) (by rfl)) (by rfl)) (by decide) (by rfl) (by decide) (by rfl) (by rfl))) (@pe_op _ _ _ _ _ _ _ _ op_add (@pe_int _ _ _ _) (@pe_op _ _ _ _ _ _ _ _ op_mod (@pv _ 2 _ _ (by rfl) (by first | exact Or.inl rfl | exact Or.inr (Or.inl rfl) | exact Or.inr (Or.inr rfl)) (by decide) (by decide)) (@pe_int _ _ _ _))))) (@pa_nil _) (by rfl)) (by decide) (by rfl) (by decide) (by rfl) (by rfl)) (@pa_nil _) (by rfl)) (by decide) (by rfl) (by decide) (by rfl) (by rfl)) (by rfl) (by first | exact .inl rfl | exact .inr rfl | assumption)) (@pss_cons _ _ _ _ _ (@ps_for _ _ _ _ _ _ _ _ PassesOwn.never rfl (@pi_listK _ K _ _ _ (@pe_lst _ _ _ _ (@pa_cX _ _ _ _ _ (@pv _ 4 _ _ (by rfl) (by first | exact Or.inl rfl | exact Or.inr (Or.inl rfl) | exact Or.inr (Or.inr rfl)) (by decide) (by decide)) (@pa_cX _ _ _ _ _ (@pv _ 5 _ _ (by rfl) (by first | exact Or.inl rfl | exact Or.inr (Or.inl rfl) | exact Or.inr (Or.inr rfl)) (by decide) (by decide)) (@pa_nil _) (by rfl)) (by rfl))) (by rfl)) (@pg_name _ _ 6 _ sc_law.nd rfl (by first | exact Or.inl rfl | exact Or.inr rfl) (by first | exact .inl rfl | exact .inr rfl | assumption)) (@pss_cons _ _ _ _ _ (@ps_set _ _ 7 _ _ _ _ sc_law.nd rfl (by first | exact Or.inl rfl | exact Or.inr rfl) (@pe_fn _ _ _ _ _ _ _ _ _ _ _ F_row_text hr (@pa_cX _ _ _ _ _ (@pv _ 6 _ _ (by rfl) (by first | exact Or.inl rfl | exact Or.inr (Or.inl rfl) | exact Or.inr (Or.inr rfl)) (by decide) (by decide)) (@pa_nil _) (by rfl)) (by decide) (by rfl) (by decide) (by rfl) (by rfl)) (by rfl) (by first | exact .inl rfl | exact .inr rfl | assumption)) (@pss_cons _ _ _ _ _ (@ps_if _ _ _ _ _ _ _ _ (@PW.pt _ _ _ (@pw_or _ _ _ _ _ _ _ (@pt_cmpR _ _ _ _ _ _ _ _ op_ne (@pv _ 7 _ _ (by rfl) (by first | exact Or.inl rfl | exact Or.inr (Or.inl rfl) | exact Or.inr (Or.inr rfl)) (by decide) (by decide)) (@pe_fn _ _ _ _ _ _ _ _ _ _ _ F__law_text hr (@pa_cX _ _ _ _ _ (@pv _ 6 _ _ (by rfl) (by first | exact Or.inl rfl | exact Or.inr (Or.inl rfl) | exact Or.inr (Or.inr rfl)) (by decide) (by decide)) (@pa_nil _) (by rfl)) (by decide) (by rfl) (by decide) (by rfl) (by rfl)) (nomark _)) (@pw_or1 _ _ _ _ (@pt_cmpR _ _ _ _ _ _ _ _ (op_neX hu) (@pe_dgX2 _ _ _ _ _ _ _ _ _ hu1 (@pv _ 1 _ _ (by rfl) (by first | exact Or.inl rfl | exact Or.inr (Or.inl rfl) | exact Or.inr (Or.inr rfl)) (by decide) (by decide)) (@pv _ 7 _ _ (by rfl) (by first | exact Or.inl rfl | exact Or.inr (Or.inl rfl) | exact Or.inr (Or.inr rfl)) (by decide) (by decide)) (@pv _ 6 _ _ (by rfl) (by first | exact Or.inl rfl | exact Or.inr (Or.inl rfl) | exact Or.inr (Or.inr rfl)) (by decide) (by decide)) (by constructor <;> rfl)) (@pv _ 6 _ _ (by rfl) (by first | exact Or.inl rfl | exact Or.inr (Or.inl rfl) | exact Or.inr (Or.inr rfl)) (by decide) (by decide)) (nomark _))))) (@pss_one _ _ _ (@ps_ret _ _ _ _ (@pe_bl _ _ _ _))) (@pss_nil _)) (@pss_one _ _ _ (@ps_asg _ _ _ _ _ _ (@pv _ 6 _ _ (by rfl) (by first | exact Or.inl rfl | exact Or.inr (Or.inl rfl) | exact Or.inr (Or.inr rfl)) (by decide) (by decide)) (@pg_sub _ _ _ _ _ _ _ (@pv _ 1 _ _ (by rfl) (by first | exact Or.inl rfl | exact Or.inr (Or.inl rfl) | exact Or.inr (Or.inr rfl)) (by decide) (by decide)) (@pv _ 7 _ _ (by rfl) (by first | exact Or.inl rfl | exact Or.inr (Or.inl rfl) | exact Or.inr (Or.inr rfl)) (by decide) (by decide)) (@set_x _ hu1) (by intro _; rfl)) (by rfl) (by rfl) (by rfl))))) (by intro _; rfl)) (@pss_cons _ _ _ _ _ (@ps_if _ _ _ _ _ _ _ _ (@pt_cmpR _ _ _ _ _ _ _ _ op_ne (@pe_cmpR _ _ _ _ _ _ _ _ op_eq (@pe_fn _ _ _ _ _ _ _ _ _ _ _ F_row_text hr (@pa_cX _ _ _ _ _ (@pv _ 4 _ _ (by rfl) (by first | exact Or.inl rfl | exact Or.inr (Or.inl rfl) | exact Or.inr (Or.inr rfl)) (by decide) (by decide)) (@pa_nil _) (by rfl)) (by decide) (by rfl) (by decide) (by rfl) (by rfl)) (@pe_fn _ _ _ _ _ _ _ _ _ _ _ F_row_text hr (@pa_cX _ _ _ _ _ (@pv _ 5 _ _ (by rfl) (by first | exact Or.inl rfl | exact Or.inr (Or.inl rfl) | exact Or.inr (Or.inr rfl)) (by decide) (by decide)) (@pa_nil _) (by rfl)) (by decide) (by rfl) (by decide) (by rfl) (by rfl)) (nomark _)) (@pe_cmpR _ _ _ _ _ _ _ _ (op_eqX hu) (@pv _ 4 _ _ (by rfl) (by first | exact Or.inl rfl | exact Or.inr (Or.inl rfl) | exact Or.inr (Or.inr rfl)) (by decide) (by decide)) (@pv _ 5 _ _ (by rfl) (by first | exact Or.inl rfl | exact Or.inr (Or.inl rfl) | exact Or.inr (Or.inr rfl)) (by decide) (by decide)) (nomark _)) (nomark _)) (@pss_one _ _ _ (@ps_ret _ _ _ _ (@pe_bl _ _ _ _))) (@pss_nil _)) (@pss_cons _ _ _ _ _ (@ps_set _ _ 8 _ _ _ _ sc_law.nd rfl (by first | exact Or.inl rfl | exact Or.inr rfl) (@pe_fn _ _ _ _ _ _ _ _ _ _ _ F__law_thing hr (@pa_cX _ _ _ _ _ (@pv _ 3 _ _ (by rfl) (by first | exact Or.inl rfl | exact Or.inr (Or.inl rfl) | exact Or.inr (Or.inr rfl)) (by decide) (by decide)) (@pa_nil _) (by rfl)) (by decide) (by rfl) (by decide) (by rfl) (by rfl)) (by rfl) (by first | exact .inl rfl | exact .inr rfl | assumption)) (@pss_one _ _ _ (@ps_if _ _ _ _ _ _ _ _ (@pt_cmpR _ _ _ _ _ _ _ _ op_ne (@pe_fn _ _ _ _ _ _ _ _ _ _ _ F_thing_text hr (@pa_cX _ _ _ _ _ (@pv _ 8 _ _ (by rfl) (by first | exact Or.inl rfl | exact Or.inr (Or.inl rfl) | exact Or.inr (Or.inr rfl)) (by decide) (by decide)) (@pa_nil _) (by rfl)) (by decide) (by rfl) (by decide) (by rfl) (by rfl)) (@pe_fn _ _ _ _ _ _ _ _ _ _ _ F__law_thing_text hr (@pa_cX _ _ _ _ _ (@pv _ 8 _ _ (by rfl) (by first | exact Or.inl rfl | exact Or.inr (Or.inl rfl) | exact Or.inr (Or.inr rfl)) (by decide) (by decide)) (@pa_nil _) (by rfl)) (by decide) (by rfl) (by decide) (by rfl) (by rfl)) (nomark _)) (@pss_one _ _ _ (@ps_ret _ _ _ _ (@pe_bl _ _ _ _))) (@pss_nil _))))))))) (by intro _; rfl)) (@pss_one _ _ _ (@ps_ret _ _ _ _ (@pe_bl _ _ _ _))))), ?_⟩
    simp (maxSteps := 1000000) only [tFor_eq, tDNewK, Nat.reduceSub, Nat.reduceAdd, iList, tSl, rSlL, tNoPart, tPart, tSeq, exists_and_left, tVar, tC, tAsg, gName, L2.start, List.map_cons, List.map_nil, List.length_cons, List.length_nil, List.replicate, List.cons_append, List.nil_append, List.getElem?_cons_zero, List.set_cons_zero, List.set_cons_succ, Option.some.injEq, exists_eq_left', V.int.injEq, V.ref.injEq]
    intro p1 n1
    generalize z1 : upd H p1 _ = H1
    obtain ⟨s1, e1⟩ := new_same z1 n1
    have hS1 := s1.seq hS
    refine ⟨_, hS1, ?_⟩
    obtain ⟨cs, hcs⟩ := cutV_map ns none (some 30)
    have lcs : cs.length ≤ 63 := by
      have := cutV_length (ns.map V.int) none (some 30)
      rw [hcs, List.length_map, List.length_map] at this
      omega
    rw [hcs]
    intro p2 n2
    generalize z2 : upd H1 p2 _ = H2
    obtain ⟨s2, e2⟩ := new_same z2 n2
    have n21 : p2 ≠ p1 := fun z => by rw [z, e1] at n2; cases n2
    refine ⟨⟨_, SqL.of e2⟩, for_list (xs := cs.map V.int) (Pm sc p1 H2) ⟨⟨[], s2 _ _ e1, Nat.zero_le _, fun z v h => by cases h⟩, .refl, _, _, _, _, _, _, _, rfl⟩ ?_ ?_ ?_⟩
    · rintro i σ H3 hi ⟨_, k3, _⟩
      exact SqL.of (k3 _ _ e2 (by simp [n21]))
    · rintro i x σ H3 hx ⟨kn3, k3, v2, v3, v4, v5, v6, v7, v8, rfl⟩
      rw [List.getElem?_map] at hx
      obtain ⟨c, hc, rfl⟩ := Option.map_eq_some_iff.mp hx
      have hi63 : i < cs.length := (List.getElem?_eq_some_iff.mp hc).1
      change tSeq _ _ _ _ _
      refine use3 (fun σ' H' => ∃ pd u v r t, σ' = [some (V.ref sc), some (V.ref p1), some (V.int c), some (V.ref pd), some u, some v, v6, v7, v8] ∧ Same H3 H' ∧ H3 pd = none ∧ Dr H' pd ∧ GoodR H' u r ∧ GoodR H' v t) ?key ?go
      case go =>
        intro R hR
        simp (maxSteps := 1000000) only [Int.reduceLT, tSeq, exists_and_left, tOp, tVar, tC, rI, rI0, tAsg, gName, tCall, tCons, tNil, List.getElem?_cons_zero, List.getElem?_cons_succ, List.set_cons_zero, List.set_cons_succ, Option.some.injEq, exists_eq_left', V.int.injEq, true_and, List.append_nil]
        refine ⟨c, rfl, fun pd a b H4 npd epd s4 => ⟨pd, rfl, ⟨a, b, epd⟩, ?_⟩⟩
        rintro u H5 ⟨r, G5⟩ d5 k5
        refine next_ok d5 (by decide) (by decide) fun m H6 hm d6 k6 => ⟨(m : Int), rfl, ?_, ?_, _, rfl, fun pe a b H7 npe epe s7 => ⟨pe, rfl, ⟨a, b, epe⟩, ?_⟩⟩
        · exact .inl ⟨by decide, by decide⟩
        · exact .inr ⟨by omega, by omega⟩
        rintro v H8 ⟨t, G8⟩ d8 k8
        have s6 : Same H3 H6 := fun b o e => k6 _ _ (k5 _ _ (s4 _ _ e) (by simp; rintro rfl; rw [npd] at e; cases e)) (by simp; rintro rfl; rw [npd] at e; cases e)
        have s68 : Same H6 H8 := fun b o e => k8 _ _ (s7 _ _ e) (by simp; rintro rfl; rw [npe] at e; cases e)
        exact hR _ _ ⟨pd, u, v, r, t, rfl, s6.trans s68, npd, d6.same s68, (G5.keep k6 d5.noT).same s68, G8⟩
      case key =>
        rintro σ' H4 ⟨pd, u, v, r, t, rfl, s4, npd, d4, Gu, Gv⟩
        have kn4 := kn3.same s4
        refine use1 (fun σ' H' => ∃ u6 u7, σ' = [some (V.ref sc), some (V.ref p1), some (V.int c), some (V.ref pd), some u, some v, u6, u7, v8] ∧ Keep [p1] H4 H' ∧ Kn H' p1 (2 * (i + 1))) ?key2 ?go2
        case go2 =>
          intro R hR
          simp (maxSteps := 1000000) only [tFor_eq, Nat.reduceAdd, iList, tSeq, tVar, tCons, tNil, tLst, List.length_cons, List.length_nil, List.getElem?_cons_zero, List.getElem?_cons_succ, Option.some.injEq, exists_eq_left', V.ref.injEq]
          refine ⟨by rw [sizeLine_eq]; decide, ?_⟩
          intro p5 n5
          generalize z5 : upd H4 p5 _ = H5
          obtain ⟨s5, e5⟩ := new_same z5 n5
          refine ⟨⟨_, SqL.of e5⟩, for_list (xs := [u, v]) (fun j σ' H' => ∃ u6 u7, σ' = [some (V.ref sc), some (V.ref p1), some (V.int c), some (V.ref pd), some u, some v, u6, u7, v8] ∧ Keep [p1] H5 H' ∧ Kn H' p1 (2 * i + j)) ⟨_, _, rfl, .refl, kn4.same s5⟩ ?_ ?_ ?_⟩
          · rintro j σ' H6 hj ⟨u6, u7, rfl, k6, kn6⟩
            refine SqL.of (k6 _ _ e5 ?_)
            have ne : p5 ≠ p1 := fun z => by
              obtain ⟨kvs, ek, _⟩ := kn4
              rw [z, ek] at n5
              cases n5
            simp [ne]
          · rintro j x σ' H6 hx ⟨u6, u7, rfl, k6, kn6⟩
            have hj2 : j < 2 := (List.getElem?_eq_some_iff.mp hx).1
            have hG : ∃ r, GoodR H6 x r := by
              match j, hj2 with
              | 0, _ =>
                cases hx
                exact ⟨r, (Gu.same s5).keep k6 (kn4.same s5).noT⟩
              | 1, _ =>
                cases hx
                exact ⟨t, (Gv.same s5).keep k6 (kn4.same s5).noT⟩
            obtain ⟨ρ, G⟩ := hG
            simp (maxSteps := 1000000) only [rSetX, gSub, List.cons.injEq, tSeq, exists_and_left, if_true, tIfS, tOr, tTest, tOp, tVar, tC, tRet, tAsg, gName, tNext, tCall, tCons, tNil, List.getElem?_cons_zero, List.getElem?_cons_succ, List.set_cons_zero, List.set_cons_succ, Option.some.injEq, exists_eq_left', V.ref.injEq, and_true, true_and, and_assoc, List.append_nil]
            refine ⟨x, ρ, rfl, G.1, G.2.2.2, fun H7 s7 => ?_⟩
            refine ⟨x, ρ, rfl, (G.same s7).1, G.2.2.2, fun H8 s8 => ?_⟩
            have G8 := (G.same s7).same s8
            have kn8 := (kn6.same s7).same s8
            have k8 : Keep [p1] H5 H8 := (k6.same s7).same s8
            obtain ⟨kvs, ek, hlk, hkn⟩ := kn8
            simp (maxSteps := 1000000) only [rNe_ss, HO.dK.injEq, decide_true, Bool.not_true, exists_and_left, if_false, Bool.false_eq_true, tVar, List.getElem?_cons_zero, List.getElem?_cons_succ, Option.some.injEq, exists_eq_left', V.bl.injEq, V.ref.injEq, tDGX2, ek]
            have hv : GoodR H8 ((valV kvs (Sum.inr (S (rT ρ)))).getD x) ρ := by
              cases hval : valV kvs (Sum.inr (S (rT ρ))) with
              | none => exact G8
              | some v' =>
                obtain ⟨r', G', e'⟩ := hkn _ _ hval
                have := rT_inj G8.2.2.1 G'.2.2.1 (S_inj e')
                rw [this]
                exact G'
            obtain ⟨_, ⟨d1, im1, dr1⟩, _⟩ := hv
            obtain ⟨_, ⟨d2, im2, dr2⟩, _⟩ := G8
            have ed : (!PyData.eqv d1 d2) = false := by rw [(dr1.eqv dr2 im1.refl).mpr rfl]; rfl
            refine ⟨_, rfl, d1, d2, im1.dt, im2.dt, Nat.le_trans dr1.dep (by decide), Nat.le_trans dr2.dep (by decide), false, by rw [ed], ?_⟩
            rw [if_neg (by decide)]
            have ku : Keep [p1] H8 (upd H8 p1 (.dK (putK kvs (Sum.inr (S (rT ρ))) x))) := Keep.refl.upd (.inl (.head _))
            have nt : ∀ b ∈ [p1], NoT H8 b := fun b hb => by
              rw [List.mem_singleton] at hb
              subst hb
              exact .of_dK ek
            refine ⟨_, ek, _, setO_ds (by omega), k8.trans ku, _, upd_same, ?_, fun z v hz => ?_⟩
            · have := length_putK kvs (Sum.inr (S (rT ρ)) : Key) x
              omega
            · rw [valV_put] at hz
              by_cases hzz : (Sum.inr z : Key) = Sum.inr (S (rT ρ))
              · rw [if_pos hzz] at hz
                cases hz
                exact ⟨ρ, ((G.same s7).same s8).keep ku nt, Sum.inr.inj hzz⟩
              · rw [if_neg hzz] at hz
                obtain ⟨r', G', e'⟩ := hkn _ _ hz
                exact ⟨r', G'.keep ku nt, e'⟩
          · rintro σ' H6 ⟨u6, u7, rfl, k6, kn6⟩
            exact hR _ _ ⟨u6, u7, rfl, s5.keep.trans k6, kn6⟩
        case key2 =>
          rintro σ' H5 ⟨u6, u7, rfl, k5, kn5⟩
          simp (maxSteps := 1000000) only [tSeq, tIfS, tTest, tOp, tVar, tC, tRet, tAsg, gName, tNext, tCall, tCons, tNil, List.getElem?_cons_zero, List.getElem?_cons_succ, List.set_cons_zero, List.set_cons_succ, Option.some.injEq, exists_eq_left', List.append_nil]
          have Gu5 := Gu.keep k5 kn4.noT
          have Gv5 := Gv.keep k5 kn4.noT
          refine ⟨u, r, rfl, Gu5.1, Gu5.2.2.2, fun H6 s6 => ⟨v, t, rfl, (Gv5.same s6).1, Gv5.2.2.2, fun H7 s7 => ?_⟩⟩
          obtain ⟨_, ⟨du, imu, dru⟩, ou, _⟩ := (Gu5.same s6).same s7
          obtain ⟨_, ⟨dv, imv, drv⟩, ov, _⟩ := (Gv5.same s6).same s7
          simp (maxSteps := 1000000) only [rEq_ss]
          have e : PyData.eqv du dv = decide (S (rT r) = S (rT t)) := by
            rw [Bool.eq_iff_iff, decide_eq_true_iff, dru.eqv drv imu.refl]
            constructor
            · rintro rfl
              rfl
            · intro z
              exact rT_inj ou ov (S_inj z)
          refine ⟨du, dv, imu.dt, imv.dt, Nat.le_trans dru.dep (by decide), Nat.le_trans drv.dep (by decide), ?_⟩
          rw [e]
          have d7 : Dr H7 pd := by
            obtain ⟨a, b, ed⟩ := d4
            refine ⟨a, b, s7 _ _ (s6 _ _ (k5 _ _ ed ?_))⟩
            obtain ⟨kvs, ek, _⟩ := kn3
            simp
            rintro rfl
            rw [npd] at ek
            cases ek
          simp (maxSteps := 1000000) only [decide_true, Bool.not_true, rNe_bb, if_false, Bool.false_eq_true, exists_eq_left', V.bl.injEq]
          refine ⟨pd, rfl, d7, ?_⟩
          rintro x H8 ⟨th, ht, ho, _⟩ d8 k8
          refine ⟨x, th, rfl, ht, ho, x, th, rfl, ht, ho, ?_⟩
          simp (maxSteps := 1000000) only [rNe_ss, decide_true, Bool.not_true, if_false, Bool.false_eq_true, exists_eq_left', V.bl.injEq]
          have np : p1 ∉ [pd] := by
            obtain ⟨kvs, ek, _⟩ := kn3
            simp
            rintro rfl
            rw [npd] at ek
            cases ek
          refine ⟨((kn5.same s6).same s7).keep k8 d7.noT np, fun b o e hb => ?_, _, _, _, _, _, _, _, rfl⟩
          have h3 := k3 b o e hb
          exact k8 _ _ (s7 _ _ (s6 _ _ (k5 _ _ (s4 _ _ h3) hb))) (by simp; rintro rfl; rw [npd] at h3; cases h3)
    · rintro σ H3 ⟨_, _, v2, v3, v4, v5, v6, v7, v8, rfl⟩
      simp (maxSteps := 1000000) only [tC, tRet]
      exact q _
end
end K83
namespace K83
open PySem L2 PySem.W
section
variable {P : Program} {w : World} {K : PySem.W.Frag} {mg : Str → Option Value}
theorem glb_str {K : PySem.W.Frag} {h : Heap} {mg : Str → Option Value} (X : K.In h) (G : h.Ns mainGlobals mg) {x z : Str} {t : PySem.Tok} (a : PySem.W.nsIn K mainGlobals x = some (some (.str z t))) : ∃ u, mg x = some u ∧ RelV (.str z) u :=
  ⟨_, PySem.W.mg_of X G a, t, rfl⟩
theorem last {fa : Addr} (D1 : Def K mg "number_text" s_number_text) (D2 : Def K mg "numbers_text" s_numbers_text) (D3 : Def K mg "thing_text" s_thing_text) (D4 : Def K mg "body_text" s_body_text) (D5 : Def K mg "parcel_text" s_parcel_text) (D6 : Def K mg "pair_text" s_pair_text) (D7 : Def K mg "wish_text" s_wish_text) (D8 : Def K mg "parted" s_parted) (D9 : Def K mg "row_text" s_row_text)
    (L1 : Def K mg "_law_draw" s__law_draw) (L2 : Def K mg "_law_next" s__law_next) (L3 : Def K mg "_law_number" s__law_number) (L4 : Def K mg "_law_thing" s__law_thing) (L5 : Def K mg "_law_body" s__law_body) (L6 : Def K mg "_law_parcel" s__law_parcel) (L7 : Def K mg "_law_row" s__law_row) (L8 : Def K mg "_law_thing_text" s__law_thing_text) (L9 : Def K mg "_law_parcel_text" s__law_parcel_text) (L10 : Def K mg "_law_text" s__law_text) (DE : Def K mg "law" s_law)
    (g : ∃ u, mg "NONE" = some u ∧ RelV (.str (Str.ofString "none")) u) (hb : Blt mg) (hmg : mg "law" = some (.ref fa)) :
    ∃ fd : FuncData, (∀ (s : Shared) (u : Value), BindsTo s fd ⟨[u], []⟩ [("_law_script", u)]) ∧ ∀ base : Heap, K.In base → base.Ns mainGlobals mg → FnOk P w K mg base CX0 7 fa fd ["_law_script"] (sp_law K) := by
  obtain ⟨f, fd, hm, F⟩ := DE
  have e := hmg.symm.trans hm
  cases e
  refine ⟨fd, ?_, fun base _ _ => ?_⟩
  · obtain ⟨oc, od, kV, doc, pm, an, cdv, ct, osl, rfl, lk, hcd⟩ := F.ex
    exact fun s u => .of_eq rfl
  · have f1 := own_num (P := P) (w := w) (base := base) D1 hb g
    have f2 := own_nums D2 f1
    have f3 := own_tht (P := P) (w := w) (base := base) D3 hb
    have f4 := own_bdt D4 hb f1 f2 f3
    have f5 := own_pct D5 hb f2 f4
    have nx := own_next (P := P) (w := w) (base := base) L2
    have nu := own_lnum L3 nx
    have th := own_lthing L4 hb nx
    have pc := own_lparcel L6 hb nx (own_lbody L5 hb nx nu th)
    have lt := own_ltht (P := P) (w := w) (base := base) L8 hb
    exact law_fn F hb (own_draw L1) nx (own_lrow L7 hb nx nu th pc) th (own_row D9 hb f2 f3 f5 (own_prt D6 hb f1 f5) (own_wish D7) (own_parted D8 hb)) f3 (own_ltxt L10 hb lt (own_lpct L9 hb lt)) lt
end
end K83
open PySem PySem.W PyProof.Rows
set_option maxHeartbeats 0 in
theorem PySem.Challenge.cw_roadnet_k83_rows_told_as_text_holds : PySem.Challenge.rw_roadnet_k83_rows_told_as_text.Holds := by
  w_on; o_law; k_head; (case hw => w_witness2)
  k_fill
  refine L2.walk_ofK (l := PySem.Challenge.rw_roadnet_k83_rows_told_as_text) (n := 63) (k := 7) (x := "_law_script") (CX := L2.CX0) (sp := K83.sp_law) rfl (by decide) rfl ⟨rfl, by decide, by decide⟩ (fun w h Y => PySem.W.kIn_of Y) ?F (fun _ _ a ns hl _ hS => ⟨a, ns, rfl, hS, hl, fun _ => rfl⟩) fun _ _ _ _ z => z
  case F =>
    intro w mg fa h KX G hmg
    have D_number_text : L2.Def (L2.KOf KX) mg "number_text" K83.s_number_text := by
      dsimp only [L2.KOf]
      refine' L2.def_mk KX G ?a ?l ?c ?k
      (case a => k_is); (case l => k_is); (case c => k_is); (case k => k_is)
    have D_numbers_text : L2.Def (L2.KOf KX) mg "numbers_text" K83.s_numbers_text := by
      dsimp only [L2.KOf]
      refine' L2.def_mk KX G ?a ?l ?c ?k
      (case a => k_is); (case l => k_is); (case c => k_is); (case k => k_is)
    have D_thing_text : L2.Def (L2.KOf KX) mg "thing_text" K83.s_thing_text := by
      dsimp only [L2.KOf]
      refine' L2.def_mk KX G ?a ?l ?c ?k
      (case a => k_is); (case l => k_is); (case c => k_is); (case k => k_is)
    have D_body_text : L2.Def (L2.KOf KX) mg "body_text" K83.s_body_text := by
      dsimp only [L2.KOf]
      refine' L2.def_mk KX G ?a ?l ?c ?k
      (case a => k_is); (case l => k_is); (case c => k_is); (case k => k_is)
    have D_parcel_text : L2.Def (L2.KOf KX) mg "parcel_text" K83.s_parcel_text := by
      dsimp only [L2.KOf]
      refine' L2.def_mk KX G ?a ?l ?c ?k
      (case a => k_is); (case l => k_is); (case c => k_is); (case k => k_is)
    have D_pair_text : L2.Def (L2.KOf KX) mg "pair_text" K83.s_pair_text := by
      dsimp only [L2.KOf]
      refine' L2.def_mk KX G ?a ?l ?c ?k
      (case a => k_is); (case l => k_is); (case c => k_is); (case k => k_is)
    have D_wish_text : L2.Def (L2.KOf KX) mg "wish_text" K83.s_wish_text := by
      dsimp only [L2.KOf]
      refine' L2.def_mk KX G ?a ?l ?c ?k
      (case a => k_is); (case l => k_is); (case c => k_is); (case k => k_is)
    have D_parted : L2.Def (L2.KOf KX) mg "parted" K83.s_parted := by
      dsimp only [L2.KOf]
      refine' L2.def_mk KX G ?a ?l ?c ?k
      (case a => k_is); (case l => k_is); (case c => k_is); (case k => k_is)
    have D_row_text : L2.Def (L2.KOf KX) mg "row_text" K83.s_row_text := by
      dsimp only [L2.KOf]
      refine' L2.def_mk KX G ?a ?l ?c ?k
      (case a => k_is); (case l => k_is); (case c => k_is); (case k => k_is)
    have D__law_draw : L2.Def (L2.KOf KX) mg "_law_draw" K83.s__law_draw := by
      dsimp only [L2.KOf]
      refine' L2.def_mk KX G ?a ?l ?c ?k
      (case a => k_is); (case l => k_is); (case c => k_is); (case k => k_is)
    have D__law_next : L2.Def (L2.KOf KX) mg "_law_next" K83.s__law_next := by
      dsimp only [L2.KOf]
      refine' L2.def_mk KX G ?a ?l ?c ?k
      (case a => k_is); (case l => k_is); (case c => k_is); (case k => k_is)
    have D__law_number : L2.Def (L2.KOf KX) mg "_law_number" K83.s__law_number := by
      dsimp only [L2.KOf]
      refine' L2.def_mk KX G ?a ?l ?c ?k
      (case a => k_is); (case l => k_is); (case c => k_is); (case k => k_is)
    have D__law_thing : L2.Def (L2.KOf KX) mg "_law_thing" K83.s__law_thing := by
      dsimp only [L2.KOf]
      refine' L2.def_mk KX G ?a ?l ?c ?k
      (case a => k_is); (case l => k_is); (case c => k_is); (case k => k_is)
    have D__law_body : L2.Def (L2.KOf KX) mg "_law_body" K83.s__law_body := by
      dsimp only [L2.KOf]
      refine' L2.def_mk KX G ?a ?l ?c ?k
      (case a => k_is); (case l => k_is); (case c => k_is); (case k => k_is)
    have D__law_parcel : L2.Def (L2.KOf KX) mg "_law_parcel" K83.s__law_parcel := by
      dsimp only [L2.KOf]
      refine' L2.def_mk KX G ?a ?l ?c ?k
      (case a => k_is); (case l => k_is); (case c => k_is); (case k => k_is)
    have D__law_row : L2.Def (L2.KOf KX) mg "_law_row" K83.s__law_row := by
      dsimp only [L2.KOf]
      refine' L2.def_mk KX G ?a ?l ?c ?k
      (case a => k_is); (case l => k_is); (case c => k_is); (case k => k_is)
    have D__law_thing_text : L2.Def (L2.KOf KX) mg "_law_thing_text" K83.s__law_thing_text := by
      dsimp only [L2.KOf]
      refine' L2.def_mk KX G ?a ?l ?c ?k
      (case a => k_is); (case l => k_is); (case c => k_is); (case k => k_is)
    have D__law_parcel_text : L2.Def (L2.KOf KX) mg "_law_parcel_text" K83.s__law_parcel_text := by
      dsimp only [L2.KOf]
      refine' L2.def_mk KX G ?a ?l ?c ?k
      (case a => k_is); (case l => k_is); (case c => k_is); (case k => k_is)
    have D__law_text : L2.Def (L2.KOf KX) mg "_law_text" K83.s__law_text := by
      dsimp only [L2.KOf]
      refine' L2.def_mk KX G ?a ?l ?c ?k
      (case a => k_is); (case l => k_is); (case c => k_is); (case k => k_is)
    have D_law : L2.Def (L2.KOf KX) mg "law" K83.s_law := by
      dsimp only [L2.KOf]
      refine' L2.def_mk KX G ?a ?l ?c ?k
      (case a => k_is); (case l => k_is); (case c => k_is); (case k => k_is)
    have hb : L2.Blt mg := by
      refine' L2.blt_mk (K := L2.KOf KX) KX G ?b1 ?b2 ?b3 ?b4 ?b5 ?b6 ?b7 ?b8 ?b9 ?b10 ?b11 ?b12 ?b13
      all_goals (dsimp only [L2.KOf]; k_is)
    have g : ∃ u, mg "NONE" = some u ∧ L2.RelV (.str (Str.ofString "none")) u := by
      refine' K83.glb_str KX G ?a
      (case a => k_is)
    exact K83.last D_number_text D_numbers_text D_thing_text D_body_text D_parcel_text D_pair_text D_wish_text D_parted D_row_text D__law_draw D__law_next D__law_number D__law_thing D__law_body D__law_parcel D__law_row D__law_thing_text D__law_parcel_text D__law_text D_law g hb hmg
#print axioms PySem.Challenge.cw_roadnet_k83_rows_told_as_text_holds
