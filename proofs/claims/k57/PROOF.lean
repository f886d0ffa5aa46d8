import PyProof.Rows.All
import Wide.All
import OpenK.AllK
import Wide.FinOn
import Lean
import PyProof.EqAt
import PyProof.EqKinds
import PyProof.TupleCall
import PyProof.NeData
import PyProof.EqLayable
import PyProof.ConsumeWalk
import PyProof.StrWalks
import PyProof.FString5
import PyProof.CallStr
import KE.KDictList
import KE.KDictSum
import PyProof.Rows.SortWalk
import PyProof.ListRange
import PyProof.StationsW
import PyProof.ExcClass2
import PyProof.ExcInit
import PyProof.Rows.FStr
import PyProof.FString
import PyProof.ExcBaseAll.ValueError
import OpenK.KOwn
import PyProof.RulesAs
import PyProof.NsDelKeeps
import KE.KIsAll
import PyProof.ExcArgs
import OpenK.KCls
import PyProof.InstStoreFacts
import OpenK.KMake
import PySem.Challenge.RW_roadnet_k57_answers_kept_near
set_option Elab.async false
set_option linter.all false
set_option maxRecDepth 100000
/-! THE HAND LAYER, for ints, bools, texts, own classes, LISTS and tuples (index, slices, in, append, pop ..), calls, loops. Paste it whole ahead of your own text; what your proof does not reach may be deleted. -/
namespace L2
open PySem PySem.Spec PyProof.Rows

/-- a key: an int or a str -/
abbrev Key := Sum Int Str
def keyIs : Key → Value → Bool
  | .inl k, v => Value.isInt k v
  | .inr x, v => Value.isStrOf x v
def keyH (w : World) : Key → Int
  | .inl k => hashInt k
  | .inr x => hashStr w x
theorem keyIs_shape : ∀ {k : Key} {v : Value}, keyIs k v = true → (∃ i t, k = Sum.inl i ∧ v = Value.int i t) ∨ (∃ x t, k = Sum.inr x ∧ v = Value.str x t)
  | .inl i, v, h => by
    obtain ⟨t, e⟩ := Value.isInt_shape (k := i) (v := v) h
    exact .inl ⟨i, t, rfl, e⟩
  | .inr x, v, h => by
    obtain ⟨t, e⟩ := Value.isStrOf_shape (x := x) (v := v) h
    exact .inr ⟨x, t, rfl, e⟩
theorem keyIs_int (i : Int) (t : Tok) : keyIs (.inl i) (.int i t) = true := by simp [keyIs, Value.isInt]
theorem keyIs_str (x : Str) (t : Tok) : keyIs (.inr x) (.str x t) = true := by simp [keyIs, Value.isStrOf]
theorem key_ll (a b : Int) : decide ((Sum.inl a : Key) = Sum.inl b) = (a == b) := by
  by_cases e : a = b
  · subst e; simp
  · have h : ¬ (Sum.inl a : Key) = Sum.inl b := fun q => e (Sum.inl.inj q)
    rw [decide_eq_false h]
    exact (beq_eq_false_iff_ne.mpr e).symm
theorem key_rr (a b : Str) : decide ((Sum.inr a : Key) = Sum.inr b) = decide (a = b) := by
  by_cases e : a = b
  · subst e; simp
  · have h : ¬ (Sum.inr a : Key) = Sum.inr b := fun q => e (Sum.inr.inj q)
    rw [decide_eq_false h, decide_eq_false e]
theorem key_lr (a : Int) (b : Str) : decide ((Sum.inl a : Key) = Sum.inr b) = false := decide_eq_false (fun q => nomatch q)
theorem key_rl (a : Str) (b : Int) : decide ((Sum.inr a : Key) = Sum.inl b) = false := decide_eq_false (fun q => nomatch q)

def mixKind (prog : Program) (w : World) : PySem.KeyKind prog w Key where
  is := keyIs
  hash := keyH w
  inj := fun v a b ha hb => by
    rcases keyIs_shape ha with ⟨i, t, rfl, rfl⟩ | ⟨x, t, rfl, rfl⟩
    · rcases keyIs_shape hb with ⟨j, u, rfl, e⟩ | ⟨y, u, rfl, e⟩
      · injection e with e1 _; rw [e1]
      · exact nomatch e
    · rcases keyIs_shape hb with ⟨j, u, rfl, e⟩ | ⟨y, u, rfl, e⟩
      · exact nomatch e
      · injection e with e1 _; rw [e1]
  byValue := fun k v h => by
    rcases keyIs_shape h with ⟨i, t, rfl, rfl⟩ | ⟨x, t, rfl, rfl⟩ <;> rfl
  pyHash := fun hv h => by
    rcases keyIs_shape hv with ⟨i, t, rfl, rfl⟩ | ⟨x, t, rfl, rfl⟩
    · exact wpAny_pyHash_int h
    · exact wpAny_pyHash_str h
  eqBool := fun hu hv h => by
    rcases keyIs_shape hu with ⟨i, t, rfl, rfl⟩ | ⟨x, t, rfl, rfl⟩
    · rcases keyIs_shape hv with ⟨j, u, rfl, rfl⟩ | ⟨y, u, rfl, rfl⟩
      · rw [key_ll] at h; exact wpAny_eqBool_int h
      · rw [key_lr] at h; exact SeqAt.EqAt.int_str i t y u _ _ _ _ h
    · rcases keyIs_shape hv with ⟨j, u, rfl, rfl⟩ | ⟨y, u, rfl, rfl⟩
      · rw [key_rl] at h; exact SeqAt.EqAt.str_int x t j u _ _ _ _ h
      · rw [key_rr] at h; exact wpAny_eqBool_str h
  «strs» := fun k x t v h => by
    rcases keyIs_shape h with ⟨i, u, rfl, e⟩ | ⟨y, u, rfl, e⟩
    · exact nomatch e
    · injection e with e1 _
      subst e1
      cases v <;> rfl

theorem mixKind_int (prog : Program) (w : World) (i : Int) (t : Tok) : (mixKind prog w).is (.inl i) (.int i t) = true := keyIs_int i t
theorem mixKind_str (prog : Program) (w : World) (x : Str) (t : Tok) : (mixKind prog w).is (.inr x) (.str x t) = true := keyIs_str x t
end L2

namespace L2
open PySem PySem.Spec PyProof.Rows

/-- a value, without the heap -/
inductive V where
  | non | bl (b : Bool) | int (i : Int) | str (x : Str) | byt (b : Array UInt8) | flt (b : UInt64) | ref (a : Addr) | ty (n : String)
  deriving DecidableEq

def RelV : V → Value → Prop
  | .non, u => u = Value.none
  | .bl b, u => u = Value.bool b
  | .int i, u => ∃ t, u = Value.int i t
  | .str x, u => ∃ t, u = Value.str x t
  | .byt b, u => ∃ t, u = Value.bytes b t
  | .flt b, u => ∃ t, u = Value.float b t
  | .ref a, u => u = Value.ref a
  | .ty n, u => u = Value.type n

abbrev Vals : List V → List Value → Prop := Paired RelV
theorem Vals.length {xs : List V} {us : List Value} (r : Vals xs us) : xs.length = us.length := Paired.length r
theorem Vals.get : ∀ {xs : List V} {us : List Value} {i : Nat} {x : V}, Vals xs us → xs[i]? = some x → ∃ u, us[i]? = some u ∧ RelV x u
  | _, _, _, _, .nil, e => by simp at e
  | _, _, 0, _, .cons r _, e => by simp at e; subst e; exact ⟨_, rfl, r⟩
  | _, _, i + 1, x, .cons _ t, e => by
    obtain ⟨u, h1, h2⟩ := Vals.get (i := i) (x := x) t (by simpa using e)
    exact ⟨u, by simpa using h1, h2⟩
theorem Vals.set {x : V} {u : Value} (r : RelV x u) : ∀ {xs : List V} {us : List Value} (i : Nat), Vals xs us → Vals (xs.set i x) (us.set i u)
  | _, _, _, .nil => .nil
  | _, _, 0, .cons _ t => .cons r t
  | _, _, i + 1, .cons q t => .cons q (Vals.set r i t)
theorem Vals.append : ∀ {xs ys : List V} {us ws : List Value}, Vals xs us → Vals ys ws → Vals (xs ++ ys) (us ++ ws)
  | _, _, _, _, .nil, s => s
  | _, _, _, _, .cons r t, s => .cons r (Vals.append t s)
theorem Vals.take : ∀ {xs : List V} {us : List Value} (n : Nat), Vals xs us → Vals (xs.take n) (us.take n)
  | _, _, 0, _ => .nil
  | _, _, _ + 1, .nil => .nil
  | _, _, n + 1, .cons r t => .cons r (Vals.take n t)
theorem Vals.drop : ∀ {xs : List V} {us : List Value} (n : Nat), Vals xs us → Vals (xs.drop n) (us.drop n)
  | _, _, 0, r => r
  | _, _, _ + 1, .nil => .nil
  | _, _, n + 1, .cons _ t => Vals.drop n t
theorem Vals.none_of : ∀ {xs : List V} {us : List Value} {i : Nat}, Vals xs us → xs[i]? = none → us[i]? = none := fun {xs us i} r e => by
  have h1 := r.length
  have h2 : xs.length ≤ i := List.getElem?_eq_none_iff.mp e
  exact List.getElem?_eq_none_iff.mpr (by omega)

def RelO : Option V → Option Value → Prop
  | some v, some u => RelV v u
  | none, none => True
  | _, _ => False
def KV {κ : Type} : List (κ × V) → List (κ × Value) → Prop := Paired fun (p : κ × V) (q : κ × Value) => p.1 = q.1 ∧ RelV p.2 q.2

/-- a key of a dict (00_mix): an int or a text -/
def kV : Key → V
  | .inl i => .int i
  | .inr x => .str x

/-- what stands at a tracked address -/
inductive HO where
  /-- a list -/
  | lst (xs : List V)
  /-- a tuple (never changes) -/
  | tup (xs : List V)
  /-- a dict whose keys are ints and texts; one whose keys are tuples of ints and texts (the empty one is both) -/
  | dK (kvs : List (Key × V)) | dT (kvs : List (List Key × V))
  /-- a set of ints: its members, its size -/
  | set (S : Int → Bool) (n : Nat)
  /-- an instance of the class at C, its dict at dx, its attributes -/
  | ins (C dx : Addr) (fs : List (Str × V))
  /-- the dict of the instance at x -/
  | own (x : Addr)
  /-- the dict of an exception -/
  | xd (fs : List (Str × V))
  /-- a bound method, f of x -/
  | met (f x : Addr)
  /-- a range object lo, lo + 1, .. below hi -/
  | rng (lo hi : Int)
  /-- a thing that is known to the object (the script; a dict while a loop walks it): read, never written while it is so -/
  | frz (o : Obj) (u : HO)
  /-- a code object's table -/
  | tbl (ps : Array Value)
  /-- any other thing, by what is true of its one object (a def of one's own: SetO a S n := HO.ext fun h => ..) -/
  | ext (φ : Heap → Prop)

abbrev Hp := Addr → Option HO
def upd (H : Hp) (a : Addr) (o : HO) : Hp := fun b => if b = a then some o else H b
theorem upd_same {H : Hp} {a : Addr} {o : HO} : upd H a o a = some o := by unfold upd; rw [if_pos rfl]
theorem upd_ne {H : Hp} {a b : Addr} {o : HO} (h : b ≠ a) : upd H a o b = H b := by unfold upd; rw [if_neg h]
theorem upd_upd {H : Hp} {a : Addr} {o u : HO} : upd (upd H a o) a u = upd H a u := by
  funext b; unfold upd; split <;> rfl
/-- two objects of different content stand apart -/
theorem ne_of {H : Hp} {a b : Addr} {o u : HO} (h : H a = some o) (h' : H b = some u) (d : o ≠ u) : a ≠ b := by
  intro e; subst e; rw [h] at h'; exact d (Option.some.inj h')
theorem ne_of_none {H : Hp} {a b : Addr} {o : HO} (h : H a = some o) (h' : H b = none) : a ≠ b := by
  intro e; subst e; rw [h] at h'; cases h'

section
variable (P : Program) (w : World)
def ObjOk (H : Hp) (h : Heap) (a : Addr) : HO → Prop
  | .lst xs => xs.length ≤ sizeLine ∧ ∃ (its : List Value) (n : Nat), Vals xs its ∧ h.get? a = some { cls := .type "list", data := .seq its.toArray n }
  | .tup xs => xs.length ≤ sizeLine ∧ ∃ its : List Value, Vals xs its ∧ IsTup h a its.toArray
  | .dK kvs => kvs.length ≤ sizeLine ∧ (a == sysModules) = false ∧ ∃ vs, KV kvs vs ∧ h.DictOf (mixKind P w) a vs
  | .dT kvs => kvs.length ≤ sizeLine ∧ (a == sysModules) = false ∧ ∃ xs : List (List Key × Addr × Value),
      Paired (fun (p : List Key × V) (q : List Key × Addr × Value) => p.1 = q.1 ∧ H q.2.1 = some (.tup (p.1.map kV)) ∧ RelV p.2 q.2.2) kvs xs ∧
      ∃ o es ep, h.get? a = some o ∧ o.ExactDict ∧ o.data = .dict es ep ∧ es.toList = xs.map (entryOfKey (tupleKind (mixKind P w))) ∧ (xs.map (·.1)).Nodup
  | .set S n => h.SetOf (intKind P w) a S n
  | .ins C dx fs => H dx = some (.own a) ∧ fs.length ≤ 1000 ∧ dx ≠ a ∧ h.get? a = some (PySem.W.instObj C dx) ∧
      ∃ mA, h.Ns1 dx mA ∧ (∀ f, RelO (fs.lookup f) (mA f)) ∧ PySem.Within mA (fs.map (·.1))
  | .own _ => ∃ o, h.get? a = some o
  | .xd fs => ∃ mA, h.Ns1 a mA ∧ ∀ f, RelO (fs.lookup f) (mA f)
  | .rng lo hi => ∃ t u v, h.get? a = some { cls := .type "range", data := .fields #[.int lo t, .int hi u, .int 1 v] }
  | .frz o u => h.get? a = some o ∧ ObjOk H h a u
  | .tbl ps => h.get? a = some { cls := .none, data := .fields ps }
  | .met f x => h.get? a = some (PySem.W.methodObj (.ref f) (.ref x))
  | .ext φ => φ h ∧ (∃ o, h.get? a = some o) ∧ ∀ h1 h2 : Heap, φ h1 → (∀ o, h1.get? a = some o → h2.get? a = some o) → φ h2
/-- the abstract heap is held -/
def HOk (H : Hp) (h : Heap) : Prop := ∀ a o, H a = some o → ObjOk P w H h a o
end

section
variable {P : Program} {w : World} {H H' : Hp} {h h' : Heap} {a : Addr} {o : HO}
theorem ObjOk.lt (x : ObjOk P w H h a o) : a < h.objs.size := by
  cases o with
  | lst xs => obtain ⟨_, _, _, _, e⟩ := x; exact Heap.lt_size e
  | tup xs => obtain ⟨_, _, _, p⟩ := x; exact p.lt
  | dK kvs => obtain ⟨_, _, _, _, o, _, _, e, _⟩ := x; exact Heap.lt_size e
  | dT kvs => obtain ⟨_, _, _, _, o, _, _, e, _⟩ := x; exact Heap.lt_size e
  | set S n => obtain ⟨o, _, _, _, e, _⟩ := x; exact Heap.lt_size e
  | ins C dx fs => obtain ⟨_, _, _, e, _⟩ := x; exact Heap.lt_size e
  | own y => obtain ⟨_, e⟩ := x; exact Heap.lt_size e
  | xd fs => obtain ⟨_, ⟨_, _, _, e, _⟩, _⟩ := x; exact Heap.lt_size e
  | rng lo hi => obtain ⟨_, _, _, e⟩ := x; exact Heap.lt_size e
  | frz ob u => obtain ⟨e, _⟩ := x; exact Heap.lt_size e
  | tbl ps => exact Heap.lt_size (show h.get? a = some _ from x)
  | met f y => exact Heap.lt_size (show h.get? a = some _ from x)
  | ext φ => obtain ⟨_, ⟨_, e⟩, _⟩ := x; exact Heap.lt_size e
theorem Paired.mapP {α β : Type} {F G : α → β → Prop} : ∀ {l₁ : List α} {l₂ : List β}, Paired F l₁ l₂ → (∀ a b, F a b → G a b) → Paired G l₁ l₂
  | _, _, .nil, _ => .nil
  | _, _, .cons r t, f => .cons (f _ _ r) (Paired.mapP t f)
/-- what an object's description leans on: its own object, its own dict, the tuples -/
theorem ObjOk.stay (x : ObjOk P w H h a o) (k : ∀ b u, (b = a ∨ H b = some (.own a)) → h.get? b = some u → h'.get? b = some u)
    (ho : ∀ b, H b = some (.own a) → H' b = some (.own a)) (ht : ∀ b xs, H b = some (.tup xs) → H' b = some (.tup xs)) : ObjOk P w H' h' a o := by
  induction o with
  | lst xs => obtain ⟨z, its, n, r, e⟩ := x; exact ⟨z, its, n, r, k _ _ (.inl rfl) e⟩
  | tup xs => obtain ⟨z, its, r, ob, e, c⟩ := x; exact ⟨z, its, r, ob, k _ _ (.inl rfl) e, c⟩
  | dK kvs => obtain ⟨z, y, vs, r, ob, es, ep, e, c⟩ := x; exact ⟨z, y, vs, r, ob, es, ep, k _ _ (.inl rfl) e, c⟩
  | dT kvs =>
    obtain ⟨z, y, xs, r, ob, es, ep, e, c⟩ := x
    exact ⟨z, y, xs, Paired.mapP r fun p q z => ⟨z.1, ht _ _ z.2.1, z.2.2⟩, ob, es, ep, k _ _ (.inl rfl) e, c⟩
  | set S n => obtain ⟨ob, es, ep, t, e, c⟩ := x; exact ⟨ob, es, ep, t, k _ _ (.inl rfl) e, c⟩
  | ins C dx fs =>
    obtain ⟨d, z, ne, e, mA, ⟨od, es, ep, e2, c⟩, r⟩ := x
    exact ⟨ho _ d, z, ne, k _ _ (.inl rfl) e, mA, ⟨od, es, ep, k _ _ (.inr d) e2, c⟩, r⟩
  | own y => obtain ⟨ob, e⟩ := x; exact ⟨ob, k _ _ (.inl rfl) e⟩
  | xd fs => obtain ⟨mA, ⟨od, es, ep, e, c⟩, r⟩ := x; exact ⟨mA, ⟨od, es, ep, k _ _ (.inl rfl) e, c⟩, r⟩
  | rng lo hi => obtain ⟨t, u, v, e⟩ := x; exact ⟨t, u, v, k _ _ (.inl rfl) e⟩
  | frz ob u ih => obtain ⟨e, q⟩ := x; exact ⟨k _ _ (.inl rfl) e, ih q⟩
  | tbl ps =>
    have e : h.get? a = some { cls := .none, data := .fields ps } := x
    show h'.get? a = some { cls := .none, data := .fields ps }
    exact k a _ (.inl rfl) e
  | met f y =>
    have e : h.get? a = some (PySem.W.methodObj (.ref f) (.ref y)) := x
    show h'.get? a = some (PySem.W.methodObj (.ref f) (.ref y))
    exact k a _ (.inl rfl) e
  | ext φ => obtain ⟨p, ⟨o, e⟩, st⟩ := x; exact ⟨st _ _ p fun o q => k _ _ (.inl rfl) q, ⟨o, k _ _ (.inl rfl) e⟩, st⟩
theorem HOk.lt (x : HOk P w H h) (e : H a = some o) : a < h.objs.size := (x a o e).lt
theorem HOk.fresh (x : HOk P w H h) (e : h.objs.size ≤ a) : H a = none := by
  cases q : H a with
  | none => rfl
  | some u => exact absurd (Nat.lt_of_lt_of_le (x.lt q) e) (Nat.lt_irrefl _)
/-- every object of the heap is kept -/
theorem HOk.kept (x : HOk P w H h) (k : ∀ b u, h.get? b = some u → h'.get? b = some u) : HOk P w H h' := fun a o e =>
  (x a o e).stay (fun b u _ q => k b u q) (fun _ q => q) fun _ _ q => q
/-- a new object is laid and tracked -/
theorem HOk.laid (x : HOk P w H h) (k : ∀ b u, h.get? b = some u → h'.get? b = some u) (hp : h.objs.size ≤ a) (new : ObjOk P w (upd H a o) h' a o) : HOk P w (upd H a o) h' := fun b u e => by
  have hn := x.fresh hp
  by_cases hb : b = a
  · subst hb; rw [upd_same] at e; cases e; exact new
  · rw [upd_ne hb] at e
    exact (x b u e).stay (fun c v _ q => k c v q) (fun c q => by rw [upd_ne (ne_of_none q hn)]; exact q) fun c xs q => by rw [upd_ne (ne_of_none q hn)]; exact q
end

/-- what may be read as u: it is u, or a known u -/
def Rd (H : Hp) (a : Addr) (u : HO) : Prop := H a = some u ∨ ∃ o, H a = some (.frz o u)
theorem Rd.of {H : Hp} {a : Addr} {u : HO} (h : H a = some u) : Rd H a u := .inl h
theorem Rd.ok {P : Program} {w : World} {H : Hp} {h : Heap} {a : Addr} {u : HO} (r : Rd H a u) (x : HOk P w H h) : ObjOk P w H h a u := by
  rcases r with r | ⟨o, r⟩
  · exact x a u r
  · obtain ⟨_, q⟩ := x a _ r
    exact q
/-- what may be written -/
def Mut : Option HO → Prop
  | some (.lst _) => True
  | some (.dK _) => True
  | some (.dT _) => True
  | some (.set _ _) => True
  | some (.ins _ _ _) => True
  | some (.ext _) => True
  | _ => False
section
variable {P : Program} {w : World} {H : Hp} {h h' : Heap} {x e : Addr} {o' : HO}
/-- the object at e is changed: x itself, or the dict of the instance x -/
theorem HOk.write (ok : HOk P w H h) (mu : Mut (H x)) (he : e = x ∨ H e = some (.own x)) (k : ∀ b u, b ≠ e → h.get? b = some u → h'.get? b = some u) (heo : ∃ u, h'.get? e = some u)
    (new : ObjOk P w (upd H x o') h' x o') : HOk P w (upd H x o') h' := fun b u q => by
  have nown : ∀ c y, H c = some (.own y) → c ≠ x := fun c y r z => by subst z; rw [r] at mu; exact mu
  have ntup : ∀ c xs, H c = some (.tup xs) → c ≠ x := fun c xs r z => by subst z; rw [r] at mu; exact mu
  by_cases hb : b = x
  · subst hb; rw [upd_same] at q; cases q; exact new
  · rw [upd_ne hb] at q
    by_cases hbe : b = e
    · have q' : H b = some (.own x) := by
        rcases he with z | z
        · exact absurd (hbe.trans z) hb
        · rw [hbe]; exact z
      rw [q] at q'; cases q'
      obtain ⟨v, hv⟩ := heo
      exact ⟨v, by rw [hbe]; exact hv⟩
    · refine (ok b u q).stay (fun c v hc r => k c v ?_ r) (fun c r => by rw [upd_ne (nown c b r)]; exact r) fun c xs r => by rw [upd_ne (ntup c xs r)]; exact r
      rcases hc with rfl | hc
      · exact hbe
      · rintro rfl
        rcases he with z | z
        · exact nown c b hc z
        · rw [hc] at z; cases z; exact hb rfl
end

/-! ### kept unless tracked; of the frames at fs (the callers') the slots may change (an exception that passes writes there); of the records at ex (iterators) nothing is said -/
structure Un (fs ex : List Addr) (H H' : Hp) (h h' : Heap) : Prop where
  keep : ∀ b o, h.get? b = some o → H b = none → b ∉ fs → b ∉ ex → h'.get? b = some o
  slot : ∀ b o, h.get? b = some o → H b = none → b ∈ fs → b ∉ ex → ∃ sl, h'.get? b = some { o with slots := sl }
  free : ∀ b o, h.get? b = some o → H b = none → b ∉ ex → H' b = none
  there : ∀ b o, h.get? b = some o → b ∉ ex → ∃ o', h'.get? b = some o'
  tups : ∀ b xs, H b = some (.tup xs) → H' b = some (.tup xs)
  frzs : ∀ b o u, H b = some (.frz o u) → H' b = some (.frz o u)
  tbls : ∀ b ps, H b = some (.tbl ps) → ∃ more, H' b = some (.tbl (ps ++ more))
section
variable {fs fs' ex ex' : List Addr} {H H1 H2 : Hp} {h h1 h2 h' : Heap} {a x e : Addr} {o : HO}
theorem Un.any (u : Un fs ex H H1 h h1) {b : Addr} {ob : Obj} (q : h.get? b = some ob) (n : H b = none) (hx : b ∉ ex) : ∃ sl, h1.get? b = some { ob with slots := sl } := by
  by_cases hb : b ∈ fs
  · exact u.slot b ob q n hb hx
  · exact ⟨ob.slots, u.keep b ob q n hb hx⟩
theorem Un.trans (a : Un fs ex H H1 h h1) (b : Un fs ex H1 H2 h1 h2) : Un fs ex H H2 h h2 where
  keep := fun c ob q n hc hx => b.keep c ob (a.keep c ob q n hc hx) (a.free c ob q n hx) hc hx
  slot := fun c ob q n hc hx => by
    obtain ⟨sl, e1⟩ := a.slot c ob q n hc hx
    obtain ⟨sl', e2⟩ := b.slot c _ e1 (a.free c ob q n hx) hc hx
    exact ⟨sl', e2⟩
  free := fun c ob q n hx => by
    obtain ⟨o', e1⟩ := a.there c ob q hx
    exact b.free c o' e1 (a.free c ob q n hx) hx
  there := fun c ob q hx => by
    obtain ⟨o', e1⟩ := a.there c ob q hx
    exact b.there c o' e1 hx
  tups := fun c xs q => b.tups c xs (a.tups c xs q)
  frzs := fun c ob xs q => b.frzs c ob xs (a.frzs c ob xs q)
  tbls := fun c ps q => by
    obtain ⟨m1, e1⟩ := a.tbls c ps q
    obtain ⟨m2, e2⟩ := b.tbls c _ e1
    exact ⟨m1 ++ m2, by rw [e2, Array.append_assoc]⟩
theorem Un.kept (k : ∀ b u, h.get? b = some u → h'.get? b = some u) : Un fs ex H H h h' :=
  ⟨fun b ob q _ _ _ => k b ob q, fun b ob q _ _ _ => ⟨ob.slots, k b ob q⟩, fun _ _ _ n _ => n, fun b ob q _ => ⟨ob, k b ob q⟩, fun _ _ q => q, fun _ _ _ q => q, fun _ ps q => ⟨#[], by rw [q]; simp⟩⟩
theorem Un.refl : Un fs ex H H h h := Un.kept fun _ _ q => q
theorem Un.laid (k : ∀ b u, h.get? b = some u → h'.get? b = some u) (hp : h.objs.size ≤ a) (hn : H a = none) : Un fs ex H (upd H a o) h h' where
  keep := fun b u q _ _ _ => k b u q
  slot := fun b u q _ _ _ => ⟨u.slots, k b u q⟩
  free := fun b u q n _ => by rw [upd_ne (Nat.ne_of_lt (Nat.lt_of_lt_of_le (Heap.lt_size q) hp))]; exact n
  there := fun b u q _ => ⟨u, k b u q⟩
  tups := fun b xs q => by rw [upd_ne (ne_of_none q hn)]; exact q
  frzs := fun b u xs q => by rw [upd_ne (ne_of_none q hn)]; exact q
  tbls := fun b ps q => ⟨#[], by rw [upd_ne (ne_of_none q hn), q]; simp⟩
theorem Un.write (mu : Mut (H x)) (he : e = x ∨ H e = some (.own x)) (k : ∀ b u, b ≠ e → h.get? b = some u → h'.get? b = some u) (heo : ∃ u, h'.get? e = some u) : Un fs ex H (upd H x o) h h' := by
  have hx : ∀ b, H b = none → b ≠ x := fun b n z => by subst z; rw [n] at mu; exact mu
  have hb : ∀ b, H b = none → b ≠ e := fun b n z => by
    subst z
    rcases he with r | r
    · exact hx b n r
    · rw [n] at r; cases r
  have hm : ∀ b u, H b = some u → ¬ Mut (some u) → b ≠ x := fun b u q nm z => by subst z; rw [q] at mu; exact nm mu
  refine ⟨fun b u q n _ _ => k b u (hb b n) q, fun b u q n _ _ => ⟨u.slots, k b u (hb b n) q⟩, fun b u q n _ => by rw [upd_ne (hx b n)]; exact n, fun b u q _ => ?_,
    fun b xs q => by rw [upd_ne (hm b _ q fun z => z)]; exact q, fun b u xs q => by rw [upd_ne (hm b _ q fun z => z)]; exact q, fun b ps q => ⟨#[], by rw [upd_ne (hm b _ q fun z => z), q]; simp⟩⟩
  by_cases hbe : b = e
  · subst hbe; exact heo
  · exact ⟨u, k b u hbe q⟩
theorem Un.mono (u : Un fs ex H H1 h h1) (hs : ∀ b ∈ fs, b ∈ fs') (hx : ∀ b ∈ ex, b ∈ ex') : Un fs' ex' H H1 h h1 :=
  ⟨fun b ob q n hb he => u.keep b ob q n (fun z => hb (hs b z)) fun z => he (hx b z), fun _ _ q n _ he => u.any q n fun z => he (hx _ z), fun b ob q n he => u.free b ob q n fun z => he (hx b z), fun b ob q he => u.there b ob q fun z => he (hx b z), u.tups, u.frzs, u.tbls⟩
end

/-! ### the heap without what is tracked -/
def trk (h : Heap) (H : Hp) : List Addr := (List.range h.objs.size).filter fun a => (H a).isSome
def hidT (h : Heap) (H : Hp) : Heap := PySem.W.hideAll h (trk h H)
theorem hidT_size (h : Heap) (H : Hp) : (hidT h H).objs.size = h.objs.size := PySem.W.hideAll_size _ _
theorem hidT_get {h : Heap} {H : Hp} {b : Addr} {o : Obj} (e : h.get? b = some o) (n : H b = none) : (hidT h H).get? b = some o :=
  PySem.W.hideAll_get _ e fun hm => by
    have q : (H b).isSome = true := (List.mem_filter.mp hm).2
    rw [n] at q; simp at q
theorem of_hidT {h : Heap} {H : Hp} {b : Addr} {o : Obj} (e : (hidT h H).get? b = some o) : h.get? b = some o ∧ H b = none := by
  have e' : h.get? b = some o := PySem.W.of_hideAll (trk h H) e
  refine ⟨e', ?_⟩
  cases q : H b with
  | none => rfl
  | some x =>
    have hm : b ∈ trk h H := List.mem_filter.mpr ⟨List.mem_range.mpr (Heap.lt_size e'), by simp [q]⟩
    have z : (hidT h H).get? b = none := PySem.W.hideAll_none (trk h H) hm
    rw [z] at e; cases e

/-! ### OpenK's ledger, filled with every new object but one -/
def allNews (g h : Heap) (L : Addr) : List (Addr × Obj) := (List.range h.objs.size).filterMap fun a => if a = L ∨ (g.get? a).isSome = true then none else (h.get? a).map fun o => (a, o)
def rest (g h : Heap) (L d : Addr) : List (Addr × Obj) := (allNews g h L).filter fun p => decide (p.1 ≠ d)
end L2

namespace L2
open PySem PySem.Spec PyProof.Rows

/-- the module's facts, over the base: the heap at the law's entry without what is tracked there -/
structure Mod (K : PySem.W.Frag) (mg : Str → Option Value) (base : Heap) : Prop where
  kin : K.In base
  glob : base.Ns mainGlobals mg
  blt : ∃ mb, base.Ns builtinsNs mb ∧ ∀ x : Str, x ≠ "__name__" → mb x = bootBuiltins x
  nolimit : base.NoLimit

/-- the context: a def's body (or a comprehension's block) running. base: fixed through the whole law; s₀, H₀: the entry; outer: the frames whose slots others may change (a def's callers); stack: all frames that run;
   ex: iterators that were made ahead of the entry and are walked here (a comprehension's); fn: the names whose cells were made at the entry (a def: all; a comprehension's block: its own); calm: not within an except suite; pn: pins that every state bears; xe: what is wanted of an exception that leaves the code -/
structure Cx where
  prog : Program
  w : World
  K : PySem.W.Frag
  mg : Str → Option Value
  base : Heap
  A : Around
  N : List Str
  s₀ : Shared
  H₀ : Hp
  env : Env
  outer : List Env
  stack : List Env
  ex : List Addr
  fn : Str → Bool
  calm : Bool
  pn : List (Addr × Obj)
  xe : Value → Shared → Prop
/-- the callers' frames -/
def frs (l : List Env) : List Addr := l.filterMap (·.frame)
abbrev Cx.fs (X : Cx) : List Addr := frs X.outer

def Vis (sc : Scope) (x : Str) : Prop := sc.names.lookup x = some .local ∨ sc.names.lookup x = some .cell ∨ sc.names.lookup x = some .free
def Loc (sc : Scope) (x : Str) : Prop := sc.names.lookup x = some .local ∨ sc.names.lookup x = some .cell
def Look (env : Env) (h : Heap) (m : Str → Option Value) (x : Str) (u : Value) : Prop :=
  (env.kindOf x = some .local ∧ m x = some u) ∨ ((env.kindOf x = some .cell ∨ env.kindOf x = some .free) ∧ ∃ c, env.cells.lookup x = some c ∧ h.IsCell c (some u))

structure Cx.Ok (X : Cx) : Prop where
  mod : Mod X.K X.mg X.base
  kind : X.env.scope.kind = .function
  glob : X.env.globals = mainGlobals
  blt : X.env.builtins = builtinsNs
  above : X.s₀.heap.objs.size ≤ X.env.locals
  inj : ∀ x y c, X.env.cells.lookup x = some c → X.env.cells.lookup y = some c → x = y
  has : ∀ x, (X.env.kindOf x = some .cell ∨ X.env.kindOf x = some .free) → ∃ c, X.env.cells.lookup x = some c
  cab : ∀ x c, X.fn x = true → X.env.cells.lookup x = some c → X.s₀.heap.objs.size ≤ c
  hd : X.calm = true → X.A.handled = none
  frames : X.A.frames = some X.stack
  stk : X.stack = X.outer ∨ (X.stack = X.env :: X.outer ∧ X.env.frame = some X.env.locals)
  exf : ∀ b ∈ X.ex, b ≠ X.env.locals ∧ ∀ x c, X.env.cells.lookup x = some c → c ≠ b
  bs : ∀ b o, X.base.get? b = some o → X.s₀.heap.get? b = some o ∧ X.H₀ b = none
  bsz : X.base.objs.size ≤ X.s₀.heap.objs.size
  noex : ∀ b o, X.base.get? b = some o → b ∉ X.ex
  exfs : ∀ b ∈ X.ex, b ∉ X.fs
  funs : X.s₀.heap.FunFrames X.base X.outer
  frf : ∀ b ∈ X.fs, X.H₀ b = none

structure Inv (X : Cx) (pins : List (Addr × Obj)) (σ : List (Option V)) (H : Hp) (s : Shared) : Prop where
  ok : X.Ok
  os : s.os = X.s₀.os
  bare : AllBare s.gens
  base : Un X.fs X.ex X.H₀ H X.s₀.heap s.heap
  loc : ∃ m, s.heap.Ns X.env.locals m ∧ ∀ (i : Nat) (x : Str) (v : V), X.N[i]? = some x → σ[i]? = some (some v) → Vis X.env.scope x → ∃ u, RelV v u ∧ Look X.env s.heap m x u
  cell : ∀ x c, X.env.cells.lookup x = some c → ∃ v, s.heap.IsCell c v
  free : H X.env.locals = none
  freeC : ∀ x c, X.env.cells.lookup x = some c → H c = none
  pin : ∀ p ∈ X.pn ++ pins, s.heap.get? p.1 = some p.2 ∧ H p.1 = none ∧ p.1 ≠ X.env.locals ∧ p.1 ∉ X.fs ∧ ∀ v, p.2.data ≠ .cell v
  hok : HOk X.prog X.w H s.heap
  len : σ.length = X.N.length

section
variable {X : Cx} {pins : List (Addr × Obj)} {σ : List (Option V)} {H H' : Hp} {s : Shared} {h' : Heap}

theorem Cx.Ok.nofr (ok : X.Ok) {b : Addr} {o : Obj} (e : X.base.get? b = some o) : b ∉ X.fs := fun hb => by
  have := (ok.funs.mem hb).1
  rw [e] at this; cases this
theorem Inv.bs (I : Inv X pins σ H s) : ∀ b o, X.base.get? b = some o → s.heap.get? b = some o ∧ H b = none := fun b o e =>
  ⟨I.base.keep b o (I.ok.bs b o e).1 (I.ok.bs b o e).2 (I.ok.nofr e) (I.ok.noex b o e), I.base.free b o (I.ok.bs b o e).1 (I.ok.bs b o e).2 (I.ok.noex b o e)⟩
theorem Inv.bk (I : Inv X pins σ H s) : ∀ b o, X.base.get? b = some o → s.heap.get? b = some o := fun b o e => (I.bs b o e).1
theorem Inv.mod (I : Inv X pins σ H s) : Mod X.K X.mg X.base := I.ok.mod
theorem Inv.kIn (I : Inv X pins σ H s) : X.K.In s.heap := I.ok.mod.kin.keeps I.bk
theorem Inv.nolimit (I : Inv X pins σ H s) : s.heap.NoLimit := I.ok.mod.nolimit.keeps I.bk
/-- the frame over the base: for OpenK's rules (K.In X.base is I.mod.kin) -/
theorem Inv.fr (I : Inv X pins σ H s) : ∃ m, Fr X.base X.env.locals s.heap m :=
  let ⟨m, hn, _⟩ := I.loc
  ⟨m, hn, I.bk, Nat.le_trans I.ok.bsz I.ok.above⟩
theorem Inv.lt (I : Inv X pins σ H s) : X.env.locals < s.heap.objs.size := let ⟨_, hn, _⟩ := I.loc; hn.lt
theorem Inv.sz (I : Inv X pins σ H s) : X.s₀.heap.objs.size ≤ s.heap.objs.size := Nat.le_trans I.ok.above (Nat.le_of_lt I.lt)
theorem Inv.nofs (I : Inv X pins σ H s) {a : Addr} (h : s.heap.objs.size ≤ a) : a ∉ X.fs := fun hb => by
  obtain ⟨_, o, ho, _⟩ := I.ok.funs.mem hb
  exact absurd (Nat.lt_of_lt_of_le (Heap.lt_size ho) (Nat.le_trans I.sz h)) (Nat.lt_irrefl _)
theorem Inv.cne (I : Inv X pins σ H s) : ∀ x c, X.env.cells.lookup x = some c → c ≠ X.env.locals := fun x c e z => by
  obtain ⟨v, o, ho, hd⟩ := I.cell x c e
  obtain ⟨m, ⟨o', es, ep, ho', hd', _⟩, _⟩ := I.loc
  rw [z, ho'] at ho; cases ho; rw [hd'] at hd; cases hd
theorem Inv.funs (I : Inv X pins σ H s) : s.heap.FunFrames X.base X.outer := by
  have all : ∀ (l : List Env), (∀ b ∈ frs l, b ∈ X.fs) → X.s₀.heap.FunFrames X.base l → s.heap.FunFrames X.base l := by
    intro l
    induction l with
    | nil => intro _ _; trivial
    | cons env r ih =>
      intro hs hl
      obtain ⟨hk, ⟨L, o, hf, hn, ho, hd⟩, hr⟩ := hl
      have hL : L ∈ X.fs := hs L (by unfold frs; rw [List.filterMap_cons, hf]; exact List.mem_cons_self)
      obtain ⟨sl, e⟩ := I.base.slot L o ho (I.ok.frf L hL) hL fun z => I.ok.exfs L z hL
      exact ⟨hk, ⟨L, _, hf, hn, e, hd⟩, ih (fun b hb => hs b (by unfold frs; rw [List.filterMap_cons, hf]; exact List.mem_cons_of_mem _ hb)) hr⟩
  exact all X.outer (fun _ hb => hb) I.ok.funs

/-- the frames that run, for a call -/
theorem Inv.stack (I : Inv X pins σ H s) : s.heap.FunFrames X.base X.stack := by
  rcases I.ok.stk with e | ⟨e, hf⟩
  · rw [e]; exact I.funs
  · rw [e]
    obtain ⟨m, hn, _⟩ := I.loc
    refine .cons (by rw [I.ok.kind]; decide) hf hn ?_ I.funs
    exact Heap.get?_none_of_le (Nat.le_trans I.ok.bsz I.ok.above)
theorem Inv.stkSub (I : Inv X pins σ H s) : ∀ b ∈ frs X.stack, b ∈ X.env.locals :: X.fs := fun b hb => by
  rcases I.ok.stk with e | ⟨e, hf⟩
  · rw [e] at hb; exact List.mem_cons_of_mem _ hb
  · rw [e] at hb
    unfold frs at hb
    rw [List.filterMap_cons, hf] at hb
    exact hb
theorem Inv.stkFree (I : Inv X pins σ H s) : ∀ b ∈ frs X.stack, H b = none := fun b hb => by
  rcases List.mem_cons.mp (I.stkSub b hb) with e | hb
  · rw [e]; exact I.free
  · obtain ⟨_, o, ho, _⟩ := I.ok.funs.mem hb
    exact I.base.free b o ho (I.ok.frf b hb) fun z => I.ok.exfs b z hb

/-- THE STEP: the untracked objects but the frame and the records at ch are kept (the callers' frames up to slots), the frame's map is kept, the new abstract heap is held -/
theorem Inv.step {g' : Array GenState} {t' : Nat} {d' : Drawn} {ch : List Addr} (I : Inv X pins σ H s)
    (hch : ∀ b ∈ ch, (b ∈ X.ex ∨ X.s₀.heap.objs.size ≤ b) ∧ b ≠ X.env.locals ∧ (∀ x c, X.env.cells.lookup x = some c → c ≠ b) ∧ ∀ p ∈ X.pn ++ pins, p.1 ≠ b)
    (keep : ∀ b o, b ≠ X.env.locals → b ∉ X.fs → b ∉ ch → s.heap.get? b = some o → H b = none → h'.get? b = some o)
    (slot : ∀ b o, b ≠ X.env.locals → b ∈ X.fs → b ∉ ch → s.heap.get? b = some o → H b = none → ∃ sl, h'.get? b = some { o with slots := sl }) (free : ∀ b o, b ∉ ch → s.heap.get? b = some o → H b = none → H' b = none)
    (there : ∀ b o, b ∉ ch → s.heap.get? b = some o → ∃ o', h'.get? b = some o')
    (tups : ∀ b xs, H b = some (.tup xs) → H' b = some (.tup xs)) (frzs : ∀ b o u, H b = some (.frz o u) → H' b = some (.frz o u)) (tbls : ∀ b ps, H b = some (.tbl ps) → ∃ more, H' b = some (.tbl (ps ++ more)))
    (ns : ∀ m, s.heap.Ns X.env.locals m → h'.Ns X.env.locals m) (hok : HOk X.prog X.w H' h') (hg : AllBare g') :
    Inv X pins σ H' { s with heap := h', gens := g', drawn := d', toks := t' } := by
  have neL : ∀ b o, X.s₀.heap.get? b = some o → b ≠ X.env.locals := fun b o e => Nat.ne_of_lt (Nat.lt_of_lt_of_le (Heap.lt_size e) I.ok.above)
  have neC : ∀ b o, X.s₀.heap.get? b = some o → b ∉ X.ex → b ∉ ch := fun b o e hx hb => by
    rcases (hch b hb).1 with z | z
    · exact hx z
    · exact absurd (Nat.lt_of_lt_of_le (Heap.lt_size e) z) (Nat.lt_irrefl _)
  have cellK : ∀ x c, X.env.cells.lookup x = some c → ∀ v, s.heap.IsCell c v → h'.IsCell c v := fun x c e v ⟨o, ho, hd⟩ => by
    have nch : c ∉ ch := fun z => (hch c z).2.2.1 x c e rfl
    by_cases hc : c ∈ X.fs
    · obtain ⟨sl, q⟩ := slot c o (I.cne x c e) hc nch ho (I.freeC x c e)
      exact ⟨_, q, hd⟩
    · exact ⟨o, keep c o (I.cne x c e) hc nch ho (I.freeC x c e), hd⟩
  refine ⟨I.ok, I.os, hg, ⟨fun b o e n hb hx => ?_, fun b o e n hb hx => ?_, fun b o e n hx => ?_, fun b o e hx => ?_, fun b xs e => tups b xs (I.base.tups b xs e), fun b o xs e => frzs b o xs (I.base.frzs b o xs e), fun b ps e => ?_⟩, ?_, fun x c e => ?_, ?_, fun x c e => ?_, fun p hp => ?_, hok, I.len⟩
  · exact keep b o (neL b o e) hb (neC b o e hx) (I.base.keep b o e n hb hx) (I.base.free b o e n hx)
  · obtain ⟨sl, e1⟩ := I.base.slot b o e n hb hx
    obtain ⟨sl', e2⟩ := slot b _ (neL b o e) hb (neC b o e hx) e1 (I.base.free b o e n hx)
    exact ⟨sl', e2⟩
  · obtain ⟨o', e1⟩ := I.base.there b o e hx
    exact free b o' (neC b o e hx) e1 (I.base.free b o e n hx)
  · obtain ⟨o', e1⟩ := I.base.there b o e hx
    exact there b o' (neC b o e hx) e1
  · obtain ⟨m1, e1⟩ := I.base.tbls b ps e
    obtain ⟨m2, e2⟩ := tbls b _ e1
    exact ⟨m1 ++ m2, by rw [e2, Array.append_assoc]⟩
  · obtain ⟨m, hn, hl⟩ := I.loc
    refine ⟨m, ns m hn, fun i x v e1 e2 e3 => ?_⟩
    obtain ⟨u, r, l⟩ := hl i x v e1 e2 e3
    refine ⟨u, r, ?_⟩
    rcases l with l | ⟨k, c, e, z⟩
    · exact .inl l
    · exact .inr ⟨k, c, e, cellK x c e _ z⟩
  · obtain ⟨v, z⟩ := I.cell x c e
    exact ⟨v, cellK x c e v z⟩
  · obtain ⟨m, ⟨o, _, _, ho, _⟩, _⟩ := I.loc
    exact free _ o (fun z => (hch _ z).2.1 rfl) ho I.free
  · obtain ⟨v, o, ho, hd⟩ := I.cell x c e
    exact free c o (fun z => (hch c z).2.2.1 x c e rfl) ho (I.freeC x c e)
  · obtain ⟨e, n, ne, nf, d⟩ := I.pin p hp
    have nch : p.1 ∉ ch := fun z => (hch p.1 z).2.2.2 p hp rfl
    exact ⟨keep p.1 p.2 ne nf nch e n, free p.1 p.2 nch e n, ne, nf, d⟩
/-- .. where the frame's own object is kept too -/
theorem Inv.un {t' : Nat} (I : Inv X pins σ H s) (u : Un X.fs [] H H' s.heap h') (hok : HOk X.prog X.w H' h') : Inv X pins σ H' { s with heap := h', toks := t' } := by
  obtain ⟨m, ⟨o, es, ep, ho, r⟩, _⟩ := id I.loc
  obtain ⟨sl, hL⟩ := u.any ho I.free (by simp)
  exact I.step (g' := s.gens) (d' := s.drawn) (ch := []) (fun _ z => nomatch z) (fun b o _ hb _ e n => u.keep b o e n hb (by simp)) (fun b o _ hb _ e n => u.slot b o e n hb (by simp)) (fun b o _ e n => u.free b o e n (by simp)) (fun b o _ e => u.there b o e (by simp)) u.tups u.frzs u.tbls (fun m' hm => by
    obtain ⟨o', es', ep', ho', r'⟩ := hm
    rw [ho] at ho'; cases ho'
    exact ⟨_, es', ep', hL, r'⟩) hok I.bare
/-- behind a call (or a comprehension's block): the slots of this frame may have changed too, the records at ch may have turned -/
theorem Inv.call {g' : Array GenState} {t' : Nat} {d' : Drawn} {ch : List Addr} (I : Inv X pins σ H s) (u : Un (frs X.stack) ch H H' s.heap h') (hok : HOk X.prog X.w H' h') (hg : AllBare g')
    (hch : ∀ b ∈ ch, (b ∈ X.ex ∨ X.s₀.heap.objs.size ≤ b) ∧ b ≠ X.env.locals ∧ (∀ x c, X.env.cells.lookup x = some c → c ≠ b) ∧ ∀ p ∈ X.pn ++ pins, p.1 ≠ b) :
    Inv X pins σ H' { s with heap := h', gens := g', drawn := d', toks := t' } := by
  obtain ⟨m, ⟨o, es, ep, ho, r⟩, _⟩ := id I.loc
  obtain ⟨sl, hL⟩ := u.any ho I.free fun z => (hch _ z).2.1 rfl
  exact I.step (ch := ch) hch (fun b o hL hb hc e n => u.keep b o e n (fun z => (List.mem_cons.mp (I.stkSub b z)).elim hL hb) hc) (fun b o _ _ hc e n => u.any e n hc) (fun b o hc e n => u.free b o e n hc) (fun b o hc e => u.there b o e hc) u.tups u.frzs u.tbls (fun m' hm => by
    obtain ⟨o', es', ep', ho', r'⟩ := hm
    rw [ho] at ho'; cases ho'
    exact ⟨_, es', ep', hL, r'⟩) hok hg
/-- an untracked record of ours (an iterator) has turned -/
theorem Inv.turned {t' : Nat} {it : Addr} (I : Inv X pins σ H s) (k : ∀ b o, b ≠ it → s.heap.get? b = some o → h'.get? b = some o) (hn : H it = none) (hL : it ≠ X.env.locals)
    (h1 : it ∈ X.ex ∨ X.s₀.heap.objs.size ≤ it) (h2 : ∀ x c, X.env.cells.lookup x = some c → c ≠ it) (h3 : ∀ p ∈ X.pn ++ pins, p.1 ≠ it) : Inv X pins σ H { s with heap := h', toks := t' } := by
  have nit : ∀ b u, H b = some u → b ≠ it := fun b u e z => by rw [z, hn] at e; cases e
  refine I.step (g' := s.gens) (d' := s.drawn) (ch := [it]) (fun b hb => ?_) (fun b o _ _ hc e _ => k b o (fun z => hc (by simp [z])) e) (fun b o _ _ hc e _ => ⟨o.slots, k b o (fun z => hc (by simp [z])) e⟩) (fun _ _ _ _ n => n)
    (fun b o hc e => ⟨o, k b o (fun z => hc (by simp [z])) e⟩) (fun _ _ e => e) (fun _ _ _ e => e) (fun b ps e => ⟨#[], by rw [e]; simp⟩) (fun m hm => ?_) (fun b u e => ?_) I.bare
  · have e : b = it := by simpa using hb
    subst e
    exact ⟨h1, hL, h2, h3⟩
  · obtain ⟨o, es, ep, ho, r⟩ := hm
    exact ⟨o, es, ep, k _ o (Ne.symm hL) ho, r⟩
  · refine (I.hok b u e).stay (fun c v hc q => k c v ?_ q) (fun _ q => q) fun _ _ q => q
    rcases hc with z | z
    · rw [z]; exact nit b u e
    · exact nit c _ z
theorem Inv.tok (I : Inv X pins σ H s) (t : Nat) : Inv X pins σ H { s with toks := t } := I.un (h' := s.heap) (t' := t) Un.refl I.hok
/-- all objects kept -/
theorem Inv.kept {t' : Nat} (I : Inv X pins σ H s) (k : ∀ b u, s.heap.get? b = some u → h'.get? b = some u) : Inv X pins σ H { s with heap := h', toks := t' } := I.un (Un.kept k) (I.hok.kept k)
/-- a new object laid and tracked -/
theorem Inv.laid {a : Addr} {o : HO} {t' : Nat} (I : Inv X pins σ H s) (k : ∀ b u, s.heap.get? b = some u → h'.get? b = some u) (hp : s.heap.objs.size ≤ a) (new : ObjOk X.prog X.w (upd H a o) h' a o) :
    Inv X pins σ (upd H a o) { s with heap := h', toks := t' } := I.un (Un.laid k hp (I.hok.fresh hp)) (I.hok.laid k hp new)
/-- an object written -/
theorem Inv.write {x e : Addr} {o : HO} {t' : Nat} (I : Inv X pins σ H s) (mu : Mut (H x)) (he : e = x ∨ H e = some (.own x)) (k : ∀ b u, b ≠ e → s.heap.get? b = some u → h'.get? b = some u) (heo : ∃ u, h'.get? e = some u)
    (new : ObjOk X.prog X.w (upd H x o) h' x o) : Inv X pins σ (upd H x o) { s with heap := h', toks := t' } := I.un (Un.write mu he k heo) (I.hok.write mu he k heo new)
/-- forgetting slots, pins -/
theorem Inv.weak {σ' : List (Option V)} (I : Inv X pins σ H s) (hl : σ'.length = σ.length) (w : ∀ (i : Nat) v, σ'[i]? = some (some v) → σ[i]? = some (some v)) : Inv X pins σ' H s :=
  ⟨I.ok, I.os, I.bare, I.base, let ⟨m, hn, hl'⟩ := I.loc; ⟨m, hn, fun i x v e1 e2 e3 => hl' i x v e1 (w i v e2) e3⟩, I.cell, I.free, I.freeC, I.pin, I.hok, hl.trans I.len⟩
theorem Inv.pins_of {pins' : List (Addr × Obj)} (I : Inv X pins σ H s) (h : ∀ p ∈ pins', s.heap.get? p.1 = some p.2 ∧ H p.1 = none ∧ p.1 ≠ X.env.locals ∧ p.1 ∉ X.fs ∧ ∀ v, p.2.data ≠ .cell v) : Inv X pins' σ H s :=
  ⟨I.ok, I.os, I.bare, I.base, I.loc, I.cell, I.free, I.freeC, fun p hp => (List.mem_append.mp hp).elim (fun z => I.pin p (List.mem_append_left _ z)) (h p), I.hok, I.len⟩

theorem nodup_ix {N : List Str} (hN : N.Nodup) {i j : Nat} {x : Str} (a : N[i]? = some x) (b : N[j]? = some x) : i = j := by
  obtain ⟨h1, e1⟩ := List.getElem?_eq_some_iff.mp a
  obtain ⟨h2, e2⟩ := List.getElem?_eq_some_iff.mp b
  exact (List.getElem_inj hN).mp (e1.trans e2.symm)

/-- a name is stored; what changed -/
theorem store_ok2 {M : Model} {A : Around} {E : Value → Shared → Prop} {i : Nat} {x : Str} {v : V} {u : Value} {Q : Unit → Shared → Prop} (I : Inv X pins σ H s) (hN : X.N.Nodup) (hi : X.N[i]? = some x) (hx : Loc X.env.scope x) (r : RelV v u)
    (h : ∀ s', Inv X pins (σ.set i (some v)) H s' → (∃ a, Heap.SameBut a s.heap s'.heap ∧ (a = X.env.locals ∨ X.env.cells.lookup x = some a)) → Q () s') (hf : X.fn x = true ∨ X.env.scope.names.lookup x = some .local := by first | exact .inl rfl | exact .inr rfl | assumption) : wpAny M A (storeName X.env x u) Q E s := by
  obtain ⟨m, hn, hl⟩ := id I.loc
  have hcls : (X.env.scope.kind == .class || (X.env.scope.kind == .module && X.env.locals != X.env.globals)) = false := by rw [I.ok.kind]; rfl
  have hiσ : i < σ.length := by rw [I.len]; exact (List.getElem?_eq_some_iff.mp hi).1
  have cne := I.cne
  have tracked : ∀ {a : Addr} {h' : Heap}, (∃ o, s.heap.get? a = some o ∧ H a = none) → Heap.SameBut a s.heap h' → HOk X.prog X.w H h' := fun {a h'} ha hs b ob e => by
    obtain ⟨_, _, hfree⟩ := ha
    refine (I.hok b ob e).stay (fun c w' hc q => (hs.2 c ?_).trans q) (fun _ q => q) fun _ _ q => q
    rintro rfl
    rcases hc with rfl | hc
    · rw [hfree] at e; cases e
    · rw [hfree] at hc; cases hc
  rcases hx with hk | hk
  · refine wpAny_storeName_local hk hn (fun h' hn' hs => ?_) hcls
    obtain ⟨oL, _, _, hoL, _⟩ := id hn
    refine h _ ⟨I.ok, I.os, I.bare, ⟨fun b o e n hb hx => ?_, fun b o e n hb hx => ?_, I.base.free, fun b o e hx => ?_, I.base.tups, I.base.frzs, I.base.tbls⟩, ⟨_, hn', fun j y v' e1 e2 e3 => ?_⟩, fun y c e => ?_, I.free, I.freeC, fun p hp => ?_, tracked ⟨oL, hoL, I.free⟩ hs, by simpa using I.len⟩ ⟨_, hs, .inl rfl⟩
    · exact (hs.2 b (Nat.ne_of_lt (Nat.lt_of_lt_of_le (Heap.lt_size e) I.ok.above))).trans (I.base.keep b o e n hb hx)
    · obtain ⟨sl, e1⟩ := I.base.slot b o e n hb hx
      exact ⟨sl, (hs.2 b (Nat.ne_of_lt (Nat.lt_of_lt_of_le (Heap.lt_size e) I.ok.above))).trans e1⟩
    · obtain ⟨o', e1⟩ := I.base.there b o e hx
      exact ⟨o', (hs.2 b (Nat.ne_of_lt (Nat.lt_of_lt_of_le (Heap.lt_size e) I.ok.above))).trans e1⟩
    · by_cases hj : j = i
      · subst hj
        rw [hi] at e1; cases e1
        rw [List.getElem?_set_self hiσ] at e2
        cases e2
        exact ⟨u, r, .inl ⟨hk, by simp⟩⟩
      · rw [List.getElem?_set_ne (Ne.symm hj)] at e2
        obtain ⟨u', r', q⟩ := hl j y v' e1 e2 e3
        refine ⟨u', r', ?_⟩
        rcases q with ⟨k, e⟩ | ⟨k, c, e, z⟩
        · refine .inl ⟨k, ?_⟩
          have : y ≠ x := fun e => hj (nodup_ix hN e1 (e ▸ hi))
          simp [this, e]
        · exact .inr ⟨k, c, e, z.sameBut hs (cne y c e)⟩
    · obtain ⟨w', z⟩ := I.cell y c e
      exact ⟨w', z.sameBut hs (cne y c e)⟩
    · obtain ⟨e, n, ne, nf, d⟩ := I.pin p hp
      exact ⟨(hs.2 p.1 ne).trans e, n, ne, nf, d⟩
  · have hfn : X.fn x = true := by
      rcases hf with z | z
      · exact z
      · rw [z] at hk; cases hk
    obtain ⟨c, hc⟩ := I.ok.has x (.inl hk)
    obtain ⟨w', z⟩ := I.cell x c hc
    refine wpAny_storeName_cell I.ok.kind hk hc z (fun h' hc' hs => ?_)
    obtain ⟨oc, hoc, hocd⟩ := id z
    refine h { s with heap := h' } ⟨I.ok, I.os, I.bare, ⟨fun b o e n hb hx => ?_, fun b o e n hb hx => ?_, I.base.free, fun b o e hx => ?_, I.base.tups, I.base.frzs, I.base.tbls⟩, ⟨m, hn.sameBut hs (Ne.symm (cne x c hc)), fun j y v' e1 e2 e3 => ?_⟩, fun y c' e => ?_, I.free, I.freeC, fun p hp => ?_, tracked ⟨oc, hoc, I.freeC x c hc⟩ hs, by simpa using I.len⟩ ⟨c, hs, .inr hc⟩
    · exact (hs.2 b (Nat.ne_of_lt (Nat.lt_of_lt_of_le (Heap.lt_size e) (I.ok.cab x c hfn hc)))).trans (I.base.keep b o e n hb hx)
    · obtain ⟨sl, e1⟩ := I.base.slot b o e n hb hx
      exact ⟨sl, (hs.2 b (Nat.ne_of_lt (Nat.lt_of_lt_of_le (Heap.lt_size e) (I.ok.cab x c hfn hc)))).trans e1⟩
    · obtain ⟨o', e1⟩ := I.base.there b o e hx
      exact ⟨o', (hs.2 b (Nat.ne_of_lt (Nat.lt_of_lt_of_le (Heap.lt_size e) (I.ok.cab x c hfn hc)))).trans e1⟩
    · by_cases hj : j = i
      · subst hj
        rw [hi] at e1; cases e1
        rw [List.getElem?_set_self hiσ] at e2
        cases e2
        exact ⟨u, r, .inr ⟨.inl hk, c, hc, hc'⟩⟩
      · rw [List.getElem?_set_ne (Ne.symm hj)] at e2
        obtain ⟨u', r', q⟩ := hl j y v' e1 e2 e3
        refine ⟨u', r', ?_⟩
        rcases q with q | ⟨k, c', e, z'⟩
        · exact .inl q
        · refine .inr ⟨k, c', e, z'.sameBut hs ?_⟩
          rintro rfl
          exact hj (nodup_ix hN e1 (I.ok.inj _ _ _ e hc ▸ hi))
    · by_cases hcc : c' = c
      · subst hcc; exact ⟨_, hc'⟩
      · obtain ⟨w2, z2⟩ := I.cell y c' e
        exact ⟨w2, z2.sameBut hs hcc⟩
    · obtain ⟨e, n, ne, nf, d⟩ := I.pin p hp
      refine ⟨(hs.2 p.1 ?_).trans e, n, ne, nf, d⟩
      intro q
      rw [q, hoc] at e
      have q' : oc = p.2 := Option.some.inj e
      exact d w' (by rw [← q']; exact hocd)
theorem store_ok {M : Model} {A : Around} {E : Value → Shared → Prop} {i : Nat} {x : Str} {v : V} {u : Value} {Q : Unit → Shared → Prop} (I : Inv X pins σ H s) (hN : X.N.Nodup) (hi : X.N[i]? = some x) (hx : Loc X.env.scope x) (r : RelV v u)
    (h : ∀ s', Inv X pins (σ.set i (some v)) H s' → Q () s') (hf : X.fn x = true ∨ X.env.scope.names.lookup x = some .local := by first | exact .inl rfl | exact .inr rfl | assumption) : wpAny M A (storeName X.env x u) Q E s :=
  store_ok2 I hN hi hx r (fun s' I' _ => h s' I') hf
/-- behind a call or a block, the state as it is -/
theorem Inv.call' {s' : Shared} {ch : List Addr} (I : Inv X pins σ H s) (ho : s'.os = s.os) (u : Un (frs X.stack) ch H H' s.heap s'.heap) (hok : HOk X.prog X.w H' s'.heap) (hg : AllBare s'.gens)
    (hch : ∀ b ∈ ch, (b ∈ X.ex ∨ X.s₀.heap.objs.size ≤ b) ∧ b ≠ X.env.locals ∧ (∀ x c, X.env.cells.lookup x = some c → c ≠ b) ∧ ∀ p ∈ X.pn ++ pins, p.1 ≠ b) : Inv X pins σ H' s' := by
  obtain ⟨h', g', d', t', o'⟩ := s'
  have e : o' = s.os := ho
  subst e
  exact I.call (g' := g') (t' := t') (d' := d') u hok hg hch
end

/-! ### the judgements -/
/-- an exception: its class, its own dict's address (where it has one), the abstract heap behind it -/
abbrev XK := Value → Option Addr → Hp → Prop
abbrev St := List (Option V)
abbrev VK := V → Hp → Prop
/-- an expression's reading; a test's; an argument list's -/
abbrev TE := St → Hp → VK → Prop
abbrev TT := St → Hp → (Bool → Hp → Prop) → Prop
abbrev TA := St → Hp → (List V → Hp → Prop) → Prop
/-- what is wanted behind a statement -/
structure Ends where
  nx : St → Hp → Prop
  rt : VK
  bk : St → Hp → Prop := fun _ _ => False
  ct : St → Hp → Prop := fun _ _ => False
abbrev TS := Ends → St → Hp → Prop

def EP (X : Cx) (pins : List (Addr × Obj)) (σ : St) (Q : VK) (u : Value) (s' : Shared) : Prop := ∃ v H', Inv X pins σ H' s' ∧ RelV v u ∧ Q v H'
def TP (X : Cx) (pins : List (Addr × Obj)) (σ : St) (Q : Bool → Hp → Prop) (b : Bool) (s' : Shared) : Prop := ∃ H', Inv X pins σ H' s' ∧ Q b H'
def AP (X : Cx) (pins : List (Addr × Obj)) (σ : St) (Q : List V → Hp → Prop) (us : List Value) (s' : Shared) : Prop := ∃ vs H', Inv X pins σ H' s' ∧ Vals vs us ∧ Q vs H'
def SP (X : Cx) (pins : List (Addr × Obj)) (D : Ends) (f : Flow) (s' : Shared) : Prop :=
  match f with
  | .next => ∃ σ' H', Inv X pins σ' H' s' ∧ D.nx σ' H'
  | .brk => ∃ σ' H', Inv X pins σ' H' s' ∧ D.bk σ' H'
  | .cont => ∃ σ' H', Inv X pins σ' H' s' ∧ D.ct σ' H'
  | .ret u => ∃ v σ' H', Inv X pins σ' H' s' ∧ RelV v u ∧ D.rt v H'

def PE (X : Cx) (e : Expr) (t : TE) : Prop :=
  ∀ (pins : List (Addr × Obj)) (s : Shared) (σ : St) (H : Hp) (Q : VK), Inv X pins σ H s → t σ H Q → wpAny (model X.prog X.w) X.A (eval e X.env) (EP X pins σ Q) X.xe s
def PT (X : Cx) (e : Expr) (t : TT) : Prop :=
  ∀ (pins : List (Addr × Obj)) (s : Shared) (σ : St) (H : Hp) (Q : Bool → Hp → Prop), Inv X pins σ H s → t σ H Q → wpAny (model X.prog X.w) X.A (isTrue e X.env (eval e X.env)) (TP X pins σ Q) X.xe s
/-- a test whatever its 'whole' is (and, or) -/
def PW (X : Cx) (e : Expr) (t : TT) : Prop :=
  ∀ (whole : Sem Value) (pins : List (Addr × Obj)) (s : Shared) (σ : St) (H : Hp) (Q : Bool → Hp → Prop), Inv X pins σ H s → t σ H Q → wpAny (model X.prog X.w) X.A (isTrue e X.env whole) (TP X pins σ Q) X.xe s
theorem PW.pt {X : Cx} {e : Expr} {t : TT} (h : PW X e t) : PT X e t := h _
/-- an argument list (no star), from the left -/
def PA (X : Cx) (es : List Expr) (t : TA) : Prop :=
  ∀ (pos : Pos) (pins : List (Addr × Obj)) (s : Shared) (σ : St) (H : Hp) (Q : List V → Hp → Prop), Inv X pins σ H s → t σ H Q → wpAny (model X.prog X.w) X.A (spliced (backTo pos (starEach es X.env))) (AP X pins σ Q) X.xe s
def PS (X : Cx) (st : Stmt) (t : TS) : Prop :=
  ∀ (pins : List (Addr × Obj)) (s : Shared) (σ : St) (H : Hp) (D : Ends), Inv X pins σ H s → t D σ H → wpAny (model X.prog X.w) X.A (exec st X.env) (SP X pins D) X.xe s
def PSs (X : Cx) (st : List Stmt) (t : TS) : Prop :=
  ∀ (pins : List (Addr × Obj)) (s : Shared) (σ : St) (H : Hp) (D : Ends), Inv X pins σ H s → t D σ H → wpAny (model X.prog X.w) X.A (execs st X.env) (SP X pins D) X.xe s
/-- weaken the end -/
theorem thn {α : Type} {t : Sem α} {Q Q' : α → Shared → Prop} {M : Model} {A : Around} {E : Value → Shared → Prop} {s : Shared} (h : wpAny M A t Q E s) (hQ : ∀ a s, Q a s → Q' a s) : wpAny M A t Q' E s := wpAny_mono h hQ fun _ _ x => x
end L2

namespace L2
open PySem PySem.Spec PyProof.Rows
section
variable {X : Cx}

/-! ### names and constants -/
def tVar (i : Nat) : TE := fun σ H Q => ∃ v, σ[i]? = some (some v) ∧ Q v H
def tC (v : V) : TE := fun _ H Q => Q v H
theorem pe_var {i : Nat} {x : Str} {pos : Pos} (hN : X.N[i]? = some x) (hv : Vis X.env.scope x) (hd : (x == ("__debug__" : Str)) = false := by decide) (hcd : (x == ("__classdict__" : Str)) = false := by decide) : PE X (.Name x pos) (tVar i) := by
  intro pins s σ H Q I h
  obtain ⟨v, e, h⟩ := h
  obtain ⟨m, hn, hl⟩ := I.loc
  obtain ⟨u, r, l⟩ := hl i x v hN e hv
  have fin : EP X pins σ Q u s := ⟨v, H, I, r, h⟩
  rcases l with ⟨hk, hm⟩ | ⟨hk, c, hc, hcell⟩
  · exact wpAny_Name (wpAny_loadName_local I.ok.kind hk hn hm fin) hd
  · rcases hk with hk | hk
    · exact wpAny_Name (wpAny_loadName_cell I.ok.kind hk hc hcell fin) hd
    · exact wpAny_Name (wpAny_loadName_free I.ok.kind hk hc hcell fin hcd) hd
theorem pe_int {i j pos} : PE X (.Constant (.int i) j pos) (tC (.int i)) := fun _ _ _ H _ I h => wpAny_Constant_int ⟨.int i, H, I.tok _, ⟨_, rfl⟩, h⟩
theorem pe_bl {b j pos} : PE X (.Constant (.bool b) j pos) (tC (.bl b)) := fun _ _ _ H _ I h => Constant_bool ⟨.bl b, H, I, rfl, h⟩
theorem pe_non {j pos} : PE X (.Constant .none j pos) (tC .non) := fun _ _ _ H _ I h => Constant_none ⟨.non, H, I, rfl, h⟩
theorem pe_str {x j pos} : PE X (.Constant (.str x) j pos) (tC (.str x)) := fun _ _ _ H _ I h => Calls.Constant_str ⟨.str x, H, I.tok _, ⟨_, rfl⟩, h⟩

/-- a global name of the def -/
def Gl (X : Cx) (x : Str) : Prop := X.env.kindOf x = some .globalImplicit
theorem ld_glob {E : Value → Shared → Prop} {pins : List (Addr × Obj)} {s : Shared} {σ : St} {H : Hp} {x : Str} {u : Value} {pos : Pos} {Q : Value → Shared → Prop} (I : Inv X pins σ H s) (hg : Gl X x) (hm : X.mg x = some u) (h : Q u s)
    (hd : (x == ("__debug__" : Str)) = false := by decide) : wpAny (model X.prog X.w) X.A (eval (.Name x pos) X.env) Q E s :=
  Calls.Name_function_global I.ok.kind hg (Calls.loadGlobal_global (by rw [I.ok.glob]; exact I.mod.glob.keeps I.bk) hm h) hd
theorem ld_blt {E : Value → Shared → Prop} {pins : List (Addr × Obj)} {s : Shared} {σ : St} {H : Hp} {x : Str} {u : Value} {pos : Pos} {Q : Value → Shared → Prop} (I : Inv X pins σ H s) (hg : Gl X x) (hm : X.mg x = none) (hv : bootBuiltins x = some u) (h : Q u s)
    (hn : x ≠ "__name__" := by decide) (hd : (x == ("__debug__" : Str)) = false := by decide) : wpAny (model X.prog X.w) X.A (eval (.Name x pos) X.env) Q E s := by
  obtain ⟨mb, h1, h2⟩ := I.mod.blt
  exact Calls.Name_function_global I.ok.kind hg (Calls.loadGlobal_builtin (by rw [I.ok.glob]; exact I.mod.glob.keeps I.bk) hm (by rw [I.ok.blt]; exact h1.keeps I.bk) ((h2 x hn).trans hv) h) hd
/-! ### arithmetic -/
variable {a b : Expr} {ta tb : TE} {pos : Pos}
/-! ### comparisons -/
/-! ### and, or, not -/
variable {tA tB' : TT} {rest : List Expr}
def tAnd (t u : TT) : TT := fun σ H Q => t σ H fun c H1 => if c = true then u σ H1 Q else Q false H1
def tOr (t u : TT) : TT := fun σ H Q => t σ H fun c H1 => if c = true then Q true H1 else u σ H1 Q
def tNot (t : TT) : TT := fun σ H Q => t σ H fun c H1 => Q (!c) H1
theorem pw_and1 (ha : PT X a tA) : PW X (.BoolOp .And [a] pos) tA := by
  intro wh pins s σ H Q I h
  refine isTrue_and (thn (ha pins s σ H Q I h) fun c s1 e => ?_)
  cases c with
  | true => exact isTrue_and_nil e
  | false => exact e
theorem pw_or1 (ha : PT X a tA) : PW X (.BoolOp .Or [a] pos) tA := by
  intro wh pins s σ H Q I h
  refine isTrue_or (thn (ha pins s σ H Q I h) fun c s1 e => ?_)
  cases c with
  | false => exact isTrue_or_nil e
  | true => exact e
theorem pw_and (ha : PT X a tA) (hb : PW X (.BoolOp .And (b :: rest) pos) tB') : PW X (.BoolOp .And (a :: b :: rest) pos) (tAnd tA tB') := by
  intro wh pins s σ H Q I h
  refine isTrue_and (thn (ha pins s σ H _ I h) fun c s1 ⟨H1, I1, q1⟩ => ?_)
  cases c with
  | true => exact hb wh pins s1 σ H1 Q I1 q1
  | false => exact ⟨H1, I1, q1⟩
theorem pw_or (ha : PT X a tA) (hb : PW X (.BoolOp .Or (b :: rest) pos) tB') : PW X (.BoolOp .Or (a :: b :: rest) pos) (tOr tA tB') := by
  intro wh pins s σ H Q I h
  refine isTrue_or (thn (ha pins s σ H _ I h) fun c s1 ⟨H1, I1, q1⟩ => ?_)
  cases c with
  | true => exact ⟨H1, I1, q1⟩
  | false => exact hb wh pins s1 σ H1 Q I1 q1
theorem pt_not (ha : PT X a tA) : PT X (.UnaryOp .Not a pos) (tNot tA) := by
  intro pins s σ H Q I h
  exact isTrue_not (ha pins s σ H (fun c H1 => Q (!c) H1) I h)
/-- .. as values (bools) -/
def tAndV (ta tb : TE) : TE := fun σ H Q => ta σ H fun x H1 => ∃ c, x = .bl c ∧ if c = true then tb σ H1 Q else Q (.bl false) H1
def tOrV (ta tb : TE) : TE := fun σ H Q => ta σ H fun x H1 => ∃ c, x = .bl c ∧ if c = true then Q (.bl true) H1 else tb σ H1 Q
def tNotV (ta : TE) : TE := fun σ H Q => ta σ H fun x H1 => ∃ c, x = .bl c ∧ Q (.bl (!c)) H1
theorem pe_one {op} {t : TE} (h : PE X a t) : PE X (.BoolOp op [a] pos) t := fun pins s σ H Q I hw => BoolOp_one (h pins s σ H Q I hw)
theorem pe_and (ha : PE X a ta) (hb : PE X (.BoolOp .And (b :: rest) pos) tb) : PE X (.BoolOp .And (a :: b :: rest) pos) (tAndV ta tb) := by
  intro pins s σ H Q I h
  refine BoolOp_and (thn (ha pins s σ H _ I h) fun v s1 ⟨x, H1, I1, r1, q1⟩ => ?_)
  obtain ⟨c, rfl, q1⟩ := q1
  cases r1
  refine wpAny_truthy_bool ?_
  cases c with
  | true => exact hb pins s1 σ H1 Q I1 q1
  | false => exact ⟨.bl false, H1, I1, rfl, q1⟩
/-- a if t else b -/
def tIf (t : TT) (ta tb : TE) : TE := fun σ H Q => t σ H fun c H1 => if c = true then ta σ H1 Q else tb σ H1 Q
end
end L2

namespace L2
open PySem PySem.Spec PyProof.Rows

/-! ### a list, a tuple that is read: tracked, frozen, or an object of the module -/
def SqL (K : PySem.W.Frag) (H : Hp) (a : Addr) (xs : List V) : Prop :=
  Rd H a (.lst xs) ∨
    ∃ (o : Obj) (its : Array Value) (n : Nat), K.lookup a = some o ∧ o.cls = .type "list" ∧ o.dict = none ∧ o.data = .seq its n ∧ its.size ≤ sizeLine ∧ Vals xs its.toList
def SqT (K : PySem.W.Frag) (H : Hp) (a : Addr) (xs : List V) : Prop :=
  Rd H a (.tup xs) ∨
    ∃ (o : Obj) (its : Array Value) (n : Nat), K.lookup a = some o ∧ o.cls = .type "tuple" ∧ o.data = .seq its n ∧ its.size ≤ sizeLine ∧ Vals xs its.toList
def absV : Value → Option V
  | .none => some .non
  | .bool b => some (.bl b)
  | .int i _ => some (.int i)
  | .str x _ => some (.str x)
  | .bytes b _ => some (.byt b)
  | .float b _ => some (.flt b)
  | .ref a => some (.ref a)
  | .type n => some (.ty n)
  | _ => none
theorem RelV.abs {x : V} {u : Value} (r : RelV x u) : absV u = some x := by
  cases x with
  | non => cases r; rfl
  | bl _ => cases r; rfl
  | int _ => obtain ⟨t, rfl⟩ := r; rfl
  | str _ => obtain ⟨t, rfl⟩ := r; rfl
  | byt _ => obtain ⟨t, rfl⟩ := r; rfl
  | flt _ => obtain ⟨t, rfl⟩ := r; rfl
  | ref _ => cases r; rfl
  | ty _ => cases r; rfl
theorem RelV.inj {x y : V} {u : Value} (r : RelV x u) (q : RelV y u) : x = y := Option.some.inj (r.abs.symm.trans q.abs)
theorem Vals.inj : ∀ {xs ys : List V} {us : List Value}, Vals xs us → Vals ys us → xs = ys
  | _, _, _, .nil, .nil => rfl
  | _, _, _, .cons r t, .cons r' t' => by rw [r.inj r', Vals.inj t t']
section
variable {X : Cx} {pins : List (Addr × Obj)} {σ : St} {H : Hp} {s : Shared} {a : Addr} {xs ys : List V}
theorem SqL.of {K : PySem.W.Frag} (h : H a = some (.lst xs)) : SqL K H a xs := .inl (.inl h)
theorem SqT.of {K : PySem.W.Frag} (h : H a = some (.tup xs)) : SqT K H a xs := .inl (.inl h)
theorem Inv.list (I : Inv X pins σ H s) (h : SqL X.K H a xs) : ∃ its : List Value, Vals xs its ∧ PlainL s.heap a its.toArray ∧ xs.length ≤ sizeLine := by
  rcases h with h | ⟨o, its, n, hk, hc, hd, hs, hz, r⟩
  · obtain ⟨z, its, n, r, e⟩ := h.ok I.hok
    exact ⟨its, r, ⟨_, n, e, rfl, rfl, rfl⟩, z⟩
  · refine ⟨its.toList, r, ⟨o, n, I.kIn a o hk, hc, hd, by simpa using hs⟩, ?_⟩
    have e := r.length
    simp only [Array.length_toList] at e
    omega
theorem Inv.tuple (I : Inv X pins σ H s) (h : SqT X.K H a xs) : ∃ its : List Value, Vals xs its ∧ IsTup s.heap a its.toArray ∧ xs.length ≤ sizeLine := by
  rcases h with h | ⟨o, its, n, hk, hc, hs, hz, r⟩
  · obtain ⟨z, its, r, p⟩ := h.ok I.hok
    exact ⟨its, r, p, z⟩
  · refine ⟨its.toList, r, ⟨o, I.kIn a o hk, hc, n, by simpa using hs⟩, ?_⟩
    have e := r.length
    simp only [Array.length_toList] at e
    omega
theorem Inv.list_inj (I : Inv X pins σ H s) (h : SqL X.K H a xs) (h' : SqL X.K H a ys) : xs = ys := by
  obtain ⟨its, r, ⟨o, n, e, _, _, d⟩, _⟩ := I.list h
  obtain ⟨its', r', ⟨o', n', e', _, _, d'⟩, _⟩ := I.list h'
  rw [e] at e'; cases e'
  rw [d] at d'
  injection d' with d1 _
  have : its = its' := by simpa using congrArg Array.toList d1
  subst this
  exact r.inj r'
end

/-! ### another wish about exceptions -/
abbrev Cx.wish (X : Cx) (E : Value → Shared → Prop) : Cx := { X with xe := E }
/-- no exception leaves -/
abbrev Cx.nox (X : Cx) : Cx := X.wish fun _ _ => False
theorem Cx.Ok.wish {X : Cx} (ok : X.Ok) (E : Value → Shared → Prop) : (X.wish E).Ok :=
  ⟨ok.mod, ok.kind, ok.glob, ok.blt, ok.above, ok.inj, ok.has, ok.cab, ok.hd, ok.frames, ok.stk, ok.exf, ok.bs, ok.bsz, ok.noex, ok.exfs, ok.funs, ok.frf⟩
theorem Cx.Ok.unwish {X : Cx} {E : Value → Shared → Prop} (ok : (X.wish E).Ok) : X.Ok :=
  ⟨ok.mod, ok.kind, ok.glob, ok.blt, ok.above, ok.inj, ok.has, ok.cab, ok.hd, ok.frames, ok.stk, ok.exf, ok.bs, ok.bsz, ok.noex, ok.exfs, ok.funs, ok.frf⟩
section
variable {X : Cx} {pins : List (Addr × Obj)} {σ : St} {H : Hp} {s : Shared} {E : Value → Shared → Prop}
theorem Inv.wish (I : Inv X pins σ H s) (E : Value → Shared → Prop) : Inv (X.wish E) pins σ H s := ⟨I.ok.wish E, I.os, I.bare, I.base, I.loc, I.cell, I.free, I.freeC, I.pin, I.hok, I.len⟩
theorem Inv.unwish (I : Inv (X.wish E) pins σ H s) : Inv X pins σ H s := ⟨I.ok.unwish, I.os, I.bare, I.base, I.loc, I.cell, I.free, I.freeC, I.pin, I.hok, I.len⟩
theorem SP.unwish {D : Ends} {f : Flow} {s' : Shared} (h : SP (X.wish E) pins D f s') : SP X pins D f s' := by
  cases f with
  | next => obtain ⟨σ', H', I, q⟩ := h; exact ⟨σ', H', I.unwish, q⟩
  | brk => obtain ⟨σ', H', I, q⟩ := h; exact ⟨σ', H', I.unwish, q⟩
  | cont => obtain ⟨σ', H', I, q⟩ := h; exact ⟨σ', H', I.unwish, q⟩
  | ret u => obtain ⟨v, σ', H', I, r, q⟩ := h; exact ⟨v, σ', H', I.unwish, r, q⟩
theorem PE.nox {e : Expr} {t : TE} (h : PE X.nox e t) : PE X e t := fun pins s σ H Q I hw =>
  wpAny_mono (h pins s σ H Q (I.wish _) hw) (fun _ _ ⟨v, H', I', r, q⟩ => ⟨v, H', I'.unwish, r, q⟩) fun _ _ z => False.elim z
theorem PT.nox {e : Expr} {t : TT} (h : PT X.nox e t) : PT X e t := fun pins s σ H Q I hw =>
  wpAny_mono (h pins s σ H Q (I.wish _) hw) (fun _ _ ⟨H', I', q⟩ => ⟨H', I'.unwish, q⟩) fun _ _ z => False.elim z
theorem PSs.nox {st : List Stmt} {t : TS} (h : PSs X.nox st t) : PSs X st t := fun pins s σ H D I hw =>
  wpAny_mono (h pins s σ H D (I.wish _) hw) (fun _ _ q => q.unwish) fun _ _ z => False.elim z
end

/-! ### blocks and small statements -/
section
variable {X : Cx} {st : Stmt} {rest : List Stmt} {t u : TS} {e : Expr} {te : TE} {pos : Pos}
def tNext : TS := fun D σ H => D.nx σ H
def tSeq (t u : TS) : TS := fun D σ H => t { D with nx := u D } σ H
theorem pss_nil : PSs X [] tNext := fun _ _ σ H _ I h => wpAny_execs_nil ⟨σ, H, I, h⟩
theorem pss_cons (h1 : PS X st t) (h2 : PSs X rest u) : PSs X (st :: rest) (tSeq t u) := by
  intro pins s σ H D I h
  refine wpAny_execs_cons (thn (h1 pins s σ H { D with nx := u D } I h) fun f s1 q => ?_)
  cases f with
  | next =>
    obtain ⟨σ', H', I', q⟩ := q
    exact h2 pins s1 σ' H' D I' q
  | ret v => exact q
  | brk => exact q
  | cont => exact q
theorem pss_one (h1 : PS X st t) : PSs X [st] t := by
  intro pins s σ H D I h
  refine wpAny_execs_cons (thn (h1 pins s σ H D I h) fun f s1 q => ?_)
  cases f with
  | next => exact wpAny_execs_nil q
  | ret v => exact q
  | brk => exact q
  | cont => exact q
/-- in a def's body nothing is shown -/
theorem Inv.quiet {pins : List (Addr × Obj)} {σ : St} {H : Hp} {s : Shared} (I : Inv X pins σ H s) : interactive X.env = false := by simp [interactive, I.ok.kind]
/-- an expression whose value is dropped -/
def tDrop (te : TE) : TS := fun D σ H => te σ H fun _ H1 => D.nx σ H1
theorem ps_expr (he : PE X e te) (hs : swapsWith e none pos.line X.env = pure false := by rfl) : PS X (.Expr e pos) (tDrop te) := by
  intro pins s σ H D I h
  exact wpAny_Expr_any (thn (he pins s σ H _ I h) fun v s1 ⟨x, H1, I1, r1, q1⟩ => ⟨σ, H1, I1, q1⟩) I.quiet hs
def tRet (te : TE) : TS := fun D σ H => te σ H D.rt
theorem ps_ret (he : PE X e te) : PS X (.Return (some e) pos) (tRet te) := by
  intro pins s σ H D I h
  exact wpAny_Return_some (thn (he pins s σ H _ I h) fun v s1 ⟨x, H1, I1, r1, q1⟩ => ⟨x, σ, H1, I1, r1, q1⟩)
def tRetN : TS := fun D _ H => D.rt .non H
def tIfS (c : TT) (t u : TS) : TS := fun D σ H => c σ H fun b H1 => if b = true then t D σ H1 else u D σ H1
theorem ps_if {c : Expr} {a b : List Stmt} {tc : TT} (hc : PT X c tc) (ha : PSs X a t) (hb : PSs X b u) : PS X (.If c a b pos) (tIfS tc t u) := by
  intro pins s σ H D I h
  refine wpAny_If (thn (hc pins s σ H _ I h) fun d s1 ⟨H1, I1, q1⟩ => ?_)
  cases d with
  | true => exact ha pins s1 σ H1 D I1 q1
  | false => exact hb pins s1 σ H1 D I1 q1
/-- code that the proof never comes to -/
def tNever : TS := fun _ _ _ => False
end

/-! ### targets -/
abbrev TG := V → St → Hp → (St → Hp → Prop) → Prop
abbrev TGs := List V → St → Hp → (St → Hp → Prop) → Prop
def PG (X : Cx) (target : Expr) (t : TG) : Prop :=
  ∀ (pins : List (Addr × Obj)) (s : Shared) (σ : St) (H : Hp) (v : V) (u : Value) (Q : St → Hp → Prop), Inv X pins σ H s → RelV v u → t v σ H Q →
    wpAny (model X.prog X.w) X.A (assign target X.env u) (fun _ s' => ∃ σ' H', Inv X pins σ' H' s' ∧ Q σ' H') X.xe s
/-- o[i] = v, by values -/
abbrev TSet := V → V → V → Hp → (Hp → Prop) → Prop
def PSet (X : Cx) (t : TSet) : Prop :=
  ∀ (pins : List (Addr × Obj)) (s : Shared) (σ : St) (H : Hp) (o i v : V) (ov iv u : Value) (Q : Hp → Prop), Inv X pins σ H s → RelV o ov → RelV i iv → RelV v u → t o i v H Q →
    wpAny (model X.prog X.w) X.A (setItem ov iv u) (fun _ s' => ∃ H', Inv X pins σ H' s' ∧ Q H') X.xe s
section
variable {X : Cx} {pos : Pos}
def gName (i : Nat) : TG := fun v σ H Q => Q (σ.set i (some v)) H
theorem pg_name {i : Nat} {x : Str} (hN : X.N.Nodup) (hi : X.N[i]? = some x) (hx : Loc X.env.scope x) (hf : X.fn x = true ∨ X.env.scope.names.lookup x = some .local := by first | exact .inl rfl | exact .inr rfl | assumption) : PG X (.Name x pos) (gName i) := by
  intro pins s σ H v u Q I r h
  exact wpAny_assign_Name (store_ok I hN hi hx r (fun s' I' => ⟨_, H, I', h⟩) hf)
def gNil : TGs := fun vs σ H Q => vs = [] ∧ Q σ H
def gCons (t : TG) (u : TGs) : TGs := fun vs σ H Q => ∃ v r, vs = v :: r ∧ t v σ H fun σ' H' => u r σ' H' Q
/-- o[i] = .. -/
def gSub (to ti : TE) (t : TSet) : TG := fun v σ H Q => to σ H fun o H1 => ti σ H1 fun i H2 => t o i v H2 fun H3 => Q σ H3
theorem pg_sub {o i : Expr} {to ti : TE} {t : TSet} (ho : PE X o to) (hi : PE X i ti) (hs : PSet X t)
    (ha : ∀ v, assign (.Subscript o i pos) X.env v = (do
      let ov ← holding [v] (eval o X.env)
      let iv ← holding [v, ov] (eval i X.env)
      standAt pos
      holding [v, ov, iv] (setItem ov iv v)
      release [v, ov, iv] []) := by intro _; rfl) : PG X (.Subscript o i pos) (gSub to ti t) := by
  intro pins s σ H v u Q I r h
  rw [ha]
  refine wpAny_bind (wpAny_holding (thn (ho pins s σ H _ I h) fun ov s1 ⟨x, H1, I1, r1, q1⟩ => ?_))
  refine wpAny_bind (wpAny_holding (thn (hi pins s1 σ H1 _ I1 q1) fun iv s2 ⟨y, H2, I2, r2, q2⟩ => ?_))
  refine wpAny_bind (wpAny_standAt (wpAny_bind (wpAny_holding (thn (hs pins s2 σ H2 x y v ov iv u _ I2 r1 r2 r q2) fun _ s3 ⟨H3, I3, q3⟩ => ?_))))
  exact wpAny_release ⟨σ, H3, I3, q3⟩
/-- target = value -/
def tAsg (te : TE) (g : TG) : TS := fun D σ H => te σ H fun x H1 => g x σ H1 D.nx
theorem ps_asg {tg e : Expr} {te : TE} {g : TG} (he : PE X e te) (hg : PG X tg g) (hs : swapsWithSole [tg] e pos.line X.env = pure false := by rfl) (hw : swappedStores [tg] e X.env = pure none := by rfl)
    (h1 : (assignEach [tg] X.env).map (·.2) = [assign tg X.env] := by rfl) : PS X (.Assign [tg] e pos) (tAsg te g) := by
  intro pins s σ H D I h
  refine wpAny_Assign_stores (thn (he pins s σ H _ I h) fun v s1 ⟨x, H1, I1, r1, q1⟩ => ?_) hs hw
  rw [h1]
  exact thn (hg pins s1 σ H1 x v _ I1 r1 q1) fun _ s2 q => q
/-- name = value -/
theorem ps_set {i : Nat} {x : Str} {e : Expr} {te : TE} {pos' : Pos} (hN : X.N.Nodup) (hi : X.N[i]? = some x) (hx : Loc X.env.scope x) (he : PE X e te) (hs : swapsWith e (some (.Name x pos')) pos.line X.env = pure false := by rfl) (hf : X.fn x = true ∨ X.env.scope.names.lookup x = some .local := by first | exact .inl rfl | exact .inr rfl | assumption) :
    PS X (.Assign [.Name x pos'] e pos) (tAsg te (gName i)) := by
  intro pins s σ H D I h
  refine wpAny_Assign_Name (thn (he pins s σ H _ I h) fun v s1 ⟨y, H1, I1, r1, q1⟩ => ?_) hs
  exact store_ok I1 hN hi hx r1 (fun s2 I2 => ⟨_, H1, I2, q1⟩) hf
end

/-! ### while -/
section
variable {X : Cx} {pos : Pos}
/-- the invariant W with its measure -/
def tWhile (c : TT) (tb : TS) : TS := fun D σ H => ∃ W : Nat → St → Hp → Prop, (∃ m, W m σ H) ∧ ∀ m σ H, W m σ H →
  c σ H fun b H1 => if b = true then ∃ N : St → Hp → Prop, (∀ σ' H', N σ' H' → ∃ m', m' < m ∧ W m' σ' H') ∧ tb { D with nx := N, ct := N, bk := D.nx } σ H1 else D.nx σ H1
end

/-! ### what a loop or a comprehension walks -/
/-- at turn i: it yields x (the heap may grow), or it stops -/
structure It where
  go : Nat → Hp → Prop
  yld : Nat → Hp → V → Hp → Prop
  stop : Nat → Hp → Prop
/-- the iterator's own objects may turn: they are not the frame's, not pinned, younger than the entry (or a comprehension's own) -/
def FpOk (X : Cx) (pins : List (Addr × Obj)) (H : Hp) (b : Addr) : Prop :=
  H b = none ∧ b ≠ X.env.locals ∧ b ∉ X.fs ∧ (b ∈ X.ex ∨ X.s₀.heap.objs.size ≤ b) ∧ (∀ x c, X.env.cells.lookup x = some c → c ≠ b) ∧ ∀ p ∈ X.pn ++ pins, p.1 ≠ b
theorem Inv.fpOk {X : Cx} {pins : List (Addr × Obj)} {σ : St} {H H' : Hp} {s : Shared} {b : Addr} (I : Inv X pins σ H s) (hb : s.heap.objs.size ≤ b) (hn : H' b = none) : FpOk X pins H' b := by
  refine ⟨hn, Nat.ne_of_gt (Nat.lt_of_lt_of_le I.lt hb), I.nofs hb, .inr (Nat.le_trans I.sz hb), fun x c e z => ?_, fun p hp z => ?_⟩
  · obtain ⟨v, q⟩ := I.cell x c e
    exact absurd (Nat.lt_of_lt_of_le q.lt (by rw [z]; exact hb)) (Nat.lt_irrefl _)
  · exact absurd (Nat.lt_of_lt_of_le (Heap.lt_size (I.pin p hp).1) (by rw [z]; exact hb)) (Nat.lt_irrefl _)
structure Turn (P : Program) (w : World) (K : PySem.W.Frag) (tg : Expr) (J : It) (fp : List Addr) (it : Addr) (tn : Nat → Heap → Prop) : Prop where
  mem : it ∈ fp
  obj : ∀ i h, tn i h → ∀ b ∈ fp, ∃ o, h.get? b = some o ∧ ∀ v, o.data ≠ .cell v
  keep : ∀ i h h', tn i h → (∀ b ∈ fp, ∀ o, h.get? b = some o → h'.get? b = some o) → tn i h'
  item : ∀ (X : Cx), X.prog = P → X.w = w → X.K = K → X.calm = true → ∀ (i : Nat) (pins : List (Addr × Obj)) (s : Shared) (σ : St) (H : Hp) (E : Value → Shared → Prop), Inv X pins σ H s → (∀ b ∈ fp, FpOk X pins H b) → tn i s.heap → J.go i H →
    wpAny (model P w) X.A (pyNext (.ref it)) (fun r s1 => ∃ u, r = some u ∧
      wpAny (model P w) X.A (letOwnedTupleGo tg (.ref it) u) (fun _ s2 => ∃ x H', Inv X pins σ H' s2 ∧ RelV x u ∧ J.yld i H x H' ∧ tn (i + 1) s2.heap ∧ ∀ b ∈ fp, H' b = none) E s1) E s
  done : ∀ (X : Cx), X.prog = P → X.w = w → X.K = K → X.calm = true → ∀ (i : Nat) (pins : List (Addr × Obj)) (s : Shared) (σ : St) (H : Hp) (E : Value → Shared → Prop), Inv X pins σ H s → (∀ b ∈ fp, FpOk X pins H b) → tn i s.heap → J.stop i H →
    wpAny (model P w) X.A (pyNext (.ref it)) (fun r s1 => r = none ∧ Inv X pins σ H s1) E s
  self : ∀ (A : Around) (i : Nat) (s : Shared) (Q : Value → Shared → Prop) (E : Value → Shared → Prop), tn i s.heap → Q (.ref it) s → wpAny (model P w) A (pyIter (.ref it)) Q E s
abbrev TI := St → Hp → (It → Hp → Prop) → Prop
/-- an iterator has come -/
def PIE (X : Cx) (pins : List (Addr × Obj)) (σ : St) (tg : Expr) (R : It → Hp → Prop) (itv : Value) (s2 : Shared) : Prop :=
  ∃ (it : Addr) (fp : List Addr) (tn : Nat → Heap → Prop) (J : It) (H' : Hp), itv = .ref it ∧ Inv X pins σ H' s2 ∧ Turn X.prog X.w X.K tg J fp it tn ∧ tn 0 s2.heap ∧ (∀ b ∈ fp, FpOk X pins H' b) ∧ R J H'
def PI (X : Cx) (tg iter : Expr) (wi : TI) : Prop :=
  ∀ (pins : List (Addr × Obj)) (s : Shared) (σ : St) (H : Hp) (R : It → Hp → Prop), Inv X pins σ H s → wi σ H R →
    wpAny (model X.prog X.w) X.A (eval iter X.env) (fun v s1 => wpAny (model X.prog X.w) X.A (pyIter v) (PIE X pins σ tg R) X.xe s1) X.xe s

/-- the step ahead of the store is nothing for an iterator that keeps no tuple -/
theorem go_of {M : Model} {A : Around} {E : Value → Shared → Prop} {s : Shared} {tg : Expr} {it : Addr} {u : Value} {o : Obj} {n : String} {vs : Array Value} {Q : Unit → Shared → Prop} (ho : s.heap.get? it = some o) (hc : o.cls = .type n) (hd : o.data = .fields vs)
    (hn : ["enumerate", "zip", "dict_itemiterator", "dict_reverseitemiterator", "odict_iterator", "itertools.zip_longest", "itertools.pairwise"].contains n = false) (hQ : Q () s) : wpAny M A (letOwnedTupleGo tg (.ref it) u) Q E s := by
  unfold letOwnedTupleGo
  cases tg <;> first
    | exact wpAny_pure hQ
    | (cases u <;> first
        | exact wpAny_pure hQ
        | (refine wpAny_bind (wpAny_load ho ?_)
           rw [hc, hd]
           show wpAny M A (if (["enumerate", "zip", "dict_itemiterator", "dict_reverseitemiterator", "odict_iterator", "itertools.zip_longest", "itertools.pairwise"].contains n && vs[0]? == some (rawInt _)) = true then _ else _) Q E s
           rw [if_neg (by intro h; rw [hn, Bool.false_and] at h; cases h)]
           exact wpAny_pure hQ))

/-- the list at a, as it stands at each turn (a loop may append to it) -/
def Itl (K : PySem.W.Frag) (a : Addr) : It :=
  ⟨fun i H => ∃ xs x, SqL K H a xs ∧ xs[i]? = some x, fun i H x H' => H' = H ∧ ∀ xs, SqL K H a xs → xs[i]? = some x, fun i H => ∃ xs, SqL K H a xs ∧ xs.length ≤ i⟩
/-- lo, lo + 1, .. (n of them) -/
def Itr (lo : Int) (n : Nat) : It := ⟨fun i _ => i < n, fun i H x H' => H' = H ∧ x = .int (lo + i), fun i _ => n ≤ i⟩
theorem turn_list {P : Program} {w : World} {K : PySem.W.Frag} {tg : Expr} (a it : Addr) : Turn P w K tg (Itl K a) [it] it (fun i h => h.IsListIter it a i) where
  mem := by simp
  obj := fun i h st b hb => by
    have e : b = it := by simpa using hb
    subst e
    obtain ⟨o, e, c, d⟩ := st
    exact ⟨o, e, fun v z => by rw [d] at z; cases z⟩
  keep := fun i h h' st k => st.at fun o e => k it (by simp) o e
  item := by
    intro X hP hw hK hc i pins s σ H E I hf st hg
    subst hP hw hK
    obtain ⟨xs, x, hq, hx⟩ := hg
    obtain ⟨its, rv, p, hz⟩ := I.list hq
    obtain ⟨u, hu, ru⟩ := rv.get hx
    obtain ⟨f0, f1, f2, f3, f4, f5⟩ := hf it (by simp)
    refine wpAny_pyNext_list_item st p.isList (x := u) (by simpa using hu) fun h' st' sb => ?_
    have I1 : Inv X pins σ H { s with heap := h' } := I.turned (t' := s.toks) (fun b o hb e => (sb.2 b hb).trans e) f0 f1 f3 f4 f5
    obtain ⟨o, e, c, d⟩ := id st'
    exact ⟨u, rfl, go_of (s := { s with heap := h' }) e c d (by decide) ⟨x, H, I1, ru, ⟨rfl, fun ys hy => by rw [I.list_inj hy hq]; exact hx⟩, st', fun b hb => (hf b hb).1⟩⟩
  done := by
    intro X hP hw hK hc i pins s σ H E I hf st hg
    subst hP hw hK
    obtain ⟨xs, hq, hx⟩ := hg
    obtain ⟨its, rv, p, hz⟩ := I.list hq
    obtain ⟨f0, f1, f2, f3, f4, f5⟩ := hf it (by simp)
    have hl := rv.length
    exact wpAny_pyNext_list_end (I.ok.hd hc) st p.isList (by simp; omega) fun h' eb => ⟨rfl, I.turned (t' := s.toks) (fun b o hb e => eb b o hb e) f0 f1 f3 f4 f5⟩
  self := fun _ _ _ _ _ st h => wpAny_pyIter_listiter st h
theorem turn_range {P : Program} {w : World} {K : PySem.W.Frag} {tg : Expr} (it : Addr) (lo : Int) (n : Nat) : Turn P w K tg (Itr lo n) [it] it (fun i h => IsRangeIter h it (lo + (i : Nat) * 1) ((n : Int) - (i : Nat)) 1) where
  mem := by simp
  obj := fun i h st b hb => by
    have e : b = it := by simpa using hb
    subst e
    exact ⟨_, st, fun v z => by
      have z' : Data.fields _ = Data.cell v := z
      cases z'⟩
  keep := fun i h h' st k => k it (by simp) _ st
  item := by
    intro X hP hw hK hc i pins s σ H E I hf st hg
    subst hP hw hK
    obtain ⟨f0, f1, f2, f3, f4, f5⟩ := hf it (by simp)
    have W := Walks.range (prog := X.prog) (w := X.w) (I.ok.hd hc) it lo 1 n
    refine W.item i s _ _ hg st fun v h' tk hv st' kk => ?_
    obtain ⟨t, rfl⟩ := hv
    have I1 : Inv X pins σ H { s with heap := h', toks := tk } := I.turned (fun b o hb e => kk b o (by simpa using hb) e) f0 f1 f3 f4 f5
    refine ⟨_, rfl, go_of (s := { s with heap := h', toks := tk }) (n := "range_iterator") st' rfl rfl (by decide) ⟨.int (lo + i), H, I1, ⟨t, ?_⟩, ⟨rfl, rfl⟩, st', fun b hb => (hf b hb).1⟩⟩
    rw [Int.mul_one]
  done := by
    intro X hP hw hK hc i pins s σ H E I hf st hg
    subst hP hw hK
    obtain ⟨f0, f1, f2, f3, f4, f5⟩ := hf it (by simp)
    exact wpAny_pyNext_range_end (I.ok.hd hc) st (by have : n ≤ i := hg; omega) fun h' eb => ⟨rfl, I.turned (t' := s.toks) (fun b o hb e => eb b o hb e) f0 f1 f3 f4 f5⟩
  self := fun _ _ _ _ _ st h => wpAny_pyIter_rangeiter st h
end L2

namespace L2
open PySem PySem.Spec PyProof.Rows
section
variable {X : Cx} {tg : Expr}
def iList (K : PySem.W.Frag) (tl : TE) : TI := fun σ H R => tl σ H fun x H1 => ∃ a, x = .ref a ∧ (∃ xs, SqL K H1 a xs) ∧ R (Itl K a) H1
theorem pi_list {l : Expr} {tl : TE} (hl : PE X l tl) : PI X tg l (iList X.K tl) := by
  intro pins s σ H R I h
  refine thn (hl pins s σ H _ I h) fun v s1 ⟨x, H1, I1, r1, q1⟩ => ?_
  obtain ⟨a, e, ⟨xs, hq⟩, q⟩ := q1
  subst e
  cases r1
  obtain ⟨its, rv, p, hz⟩ := I1.list hq
  refine wpAny_pyIter_list p.isList ?_
  refine ⟨s1.heap.objs.size, [s1.heap.objs.size], _, _, H1, rfl, I1.kept (t' := s1.toks) fun b o e => Heap.get?_push_of_some _ e, turn_list a _, ⟨_, Heap.get?_push_size _ rfl, rfl, rfl⟩, fun b hb => ?_, q⟩
  have e : b = s1.heap.objs.size := by simpa using hb
  subst e
  exact I1.fpOk (Nat.le_refl _) (I1.hok.fresh (Nat.le_refl _))
/-- a range object just made, walked -/
theorem range_it {pins : List (Addr × Obj)} {σ : St} {H : Hp} {s : Shared} {R : It → Hp → Prop} {E : Value → Shared → Prop} {lo hi : Int} {t u v : Tok} {tk : Nat} (I : Inv X pins σ H s) (h1 : -(2 ^ 62) ≤ lo) (h2 : lo < 2 ^ 62) (h3 : -(2 ^ 62) ≤ hi) (h4 : hi < 2 ^ 62)
    (q : R (Itr lo (hi - lo).toNat) H) : wpAny (model X.prog X.w) X.A (pyIter (.ref s.heap.objs.size)) (PIE X pins σ tg R) E { s with heap := s.heap.push { cls := .type "range", data := .fields #[.int lo t, .int hi u, .int 1 v] }, toks := tk } := by
  refine wpAny_pyIter_range (IsRange.new ..) (small_one h1 h2 h3 h4) ?_
  have I1 : Inv X pins σ H { s with heap := s.heap.push { cls := .type "range", data := .fields #[.int lo t, .int hi u, .int 1 v] }, toks := tk } := I.kept fun b o e => Heap.get?_push_of_some _ e
  refine ⟨(s.heap.push { cls := .type "range", data := .fields #[.int lo t, .int hi u, .int 1 v] }).objs.size, [(s.heap.push { cls := .type "range", data := .fields #[.int lo t, .int hi u, .int 1 v] }).objs.size], _, _, H, rfl,
    I1.kept (t' := tk) fun b o e => Heap.get?_push_of_some _ e, turn_range _ lo (hi - lo).toNat, ?_, fun b hb => ?_, q⟩
  · have e1 : lo + ((0 : Nat) : Int) * 1 = lo := by simp
    have e2 : (((hi - lo).toNat : Nat) : Int) - ((0 : Nat) : Int) = Builtin.Range.rangeSize lo hi 1 := by rw [rangeSize_one]; split <;> omega
    show IsRangeIter _ _ (lo + ((0 : Nat) : Int) * 1) ((((hi - lo).toNat : Nat) : Int) - ((0 : Nat) : Int)) 1
    rw [e1, e2]
    exact Heap.get?_push_size _ rfl
  · have e : b = (s.heap.push { cls := .type "range", data := .fields #[.int lo t, .int hi u, .int 1 v] }).objs.size := by simpa using hb
    subst e
    exact I1.fpOk (Nat.le_refl _) (I1.hok.fresh (Nat.le_refl _))
def iRng1 (ta : TA) : TI := fun σ H R => ta σ H fun vs H1 => ∃ j : Int, vs = [.int j] ∧ -(2 ^ 62) ≤ j ∧ j < 2 ^ 62 ∧ R (Itr 0 j.toNat) H1
def iRng2 (ta : TA) : TI := fun σ H R => ta σ H fun vs H1 => ∃ i j : Int, vs = [.int i, .int j] ∧ (-(2 ^ 62) ≤ i ∧ i < 2 ^ 62 ∧ -(2 ^ 62) ≤ j ∧ j < 2 ^ 62) ∧ R (Itr i (j - i).toNat) H1
theorem pi_range1 {a : Expr} {ta : TA} {p pos : Pos} (hg : Gl X "range") (hm : X.mg "range" = none) (ha : PA X [a] ta) (hs : starEach [a] X.env = [(false, eval a X.env)] := by rfl) : PI X tg (.Call (.Name "range" p) [a] [] pos) (iRng1 ta) := by
  intro pins s σ H R I h
  refine Call_ (ld_blt I hg hm boot_range (PyProof.Rows.callWith_type1 (thn (ha pos pins s σ H _ I h) fun us s1 ⟨vs, H1, I1, r1, q1⟩ => ?_) hs rfl))
  obtain ⟨j, e, q1, q2, q⟩ := q1
  subst e
  cases r1 with
  | cons r rr =>
    cases rr
    obtain ⟨t, rfl⟩ := r
    exact call_range_1 (range_it I1 (by omega) (by omega) q1 q2 (by simpa using q))
/-! ### for -/
/-- W: the invariant by the turn and a measure; N: what the body is to reach -/
def tFor (wi : TI) (g : TG) (tb : TS) : TS := fun D σ H => wi σ H fun J H1 => ∃ W : Nat → Nat → St → Hp → Prop, (∃ m, W 0 m σ H1) ∧ ∀ i m σ H, W i m σ H →
  (J.stop i H ∧ D.nx σ H) ∨ (J.go i H ∧ ∃ N : St → Hp → Prop, (∀ σ' H', N σ' H' → ∃ m', m' < m ∧ W (i + 1) m' σ' H') ∧ ∀ x H', J.yld i H x H' → g x σ H' fun σ2 H2 => tb { D with nx := N, ct := N, bk := D.nx } σ2 H2)
/-- the records at fp as they stand -/
def pinsAt (fp : List Addr) (h : Heap) : List (Addr × Obj) := fp.filterMap fun b => (h.get? b).map fun o => (b, o)
theorem mem_pinsAt {fp : List Addr} {h : Heap} {b : Addr} {o : Obj} (hb : b ∈ fp) (e : h.get? b = some o) : (b, o) ∈ pinsAt fp h := List.mem_filterMap.mpr ⟨b, hb, by rw [e]; rfl⟩
theorem of_pinsAt {fp : List Addr} {h : Heap} {p : Addr × Obj} (hp : p ∈ pinsAt fp h) : p.1 ∈ fp ∧ h.get? p.1 = some p.2 := by
  obtain ⟨b, hb, e⟩ := List.mem_filterMap.mp hp
  cases q : h.get? b with
  | none => rw [q] at e; cases e
  | some o =>
    rw [q] at e
    have e' : (b, o) = p := Option.some.inj e
    subst e'
    exact ⟨hb, q⟩
theorem Inv.pinned {pins : List (Addr × Obj)} {σ : St} {H : Hp} {s : Shared} {fp : List Addr} (I : Inv X pins σ H s) (hf : ∀ b ∈ fp, FpOk X pins H b) (ho : ∀ b ∈ fp, ∃ o, s.heap.get? b = some o ∧ ∀ v, o.data ≠ .cell v) : Inv X (pins ++ pinsAt fp s.heap) σ H s :=
  I.pins_of fun p hp => (List.mem_append.mp hp).elim (fun z => I.pin p (List.mem_append_right _ z)) fun z => by
    obtain ⟨hb, e⟩ := of_pinsAt z
    obtain ⟨f0, f1, f2, _⟩ := hf p.1 hb
    obtain ⟨o, e', d⟩ := ho p.1 hb
    rw [e] at e'; cases e'
    exact ⟨e, f0, f1, f2, d⟩
theorem Inv.unpinned {pins pl : List (Addr × Obj)} {σ : St} {H : Hp} {s : Shared} (I : Inv X (pins ++ pl) σ H s) : Inv X pins σ H s := I.pins_of fun p hp => I.pin p (List.mem_append_right _ (List.mem_append_left _ hp))
theorem ps_for {iter : Expr} {body : List Stmt} {wi : TI} {g : TG} {tb : TS} {pos : Pos} (hp : PassesOwn (model X.prog X.w) X.A X.env X.xe) (hc : X.calm = true) (hi : PI X tg iter wi) (hg : PG X tg g) (hb : PSs X body tb)
    (hs : ∀ x, foldedSetIterable iter X.env x = pure x := by intro _; rfl) : PS X (.For tg iter body [] pos) (tFor wi g tb) := by
  intro pins s σ H D I h
  refine wpAny_For (thn (hi pins s σ H _ I h) fun v s1 h1 => thn h1 fun itv s2 h2 => ?_) hs
  obtain ⟨it, fp, tn, J, H2, e, I2, T, st2, f2, W, ⟨m0, w0⟩, turn⟩ := h2
  subst e
  -- what stays true of the iterator's objects through the loop
  have stat : ∀ {H' : Hp}, (∀ b ∈ fp, H' b = none) → ∀ b ∈ fp, FpOk X pins H' b := fun hn b hb => ⟨hn b hb, (f2 b hb).2⟩
  refine codeAny_forLoop_any (fun n s' => ∃ i σ' H', Inv X pins σ' H' s' ∧ tn i s'.heap ∧ (∀ b ∈ fp, H' b = none) ∧ W i n σ' H') ?_ m0 ⟨0, σ, H2, I2, st2, fun b hb => (f2 b hb).1, w0⟩
  rintro n s3 ⟨i, σ3, H3, I3, st3, fr3, w3⟩
  rcases turn i n σ3 H3 w3 with ⟨stop, qn⟩ | ⟨go, N, hN, step⟩
  · refine wpAny_passesOwn hp (thn (T.done X rfl rfl rfl hc i pins s3 σ3 H3 X.xe I3 (stat fr3) st3 stop) fun r s4 ⟨hr, I4⟩ => ?_)
    subst hr
    exact wpAny_execs_nil ⟨σ3, H3, I4, qn⟩
  · refine wpAny_passesOwn hp (thn (T.item X rfl rfl rfl hc i pins s3 σ3 H3 X.xe I3 (stat fr3) st3 go) fun r s4 ⟨u, hr, h4⟩ => ?_)
    subst hr
    refine wpAny_passesOwn hp (thn h4 fun _ s5 ⟨x, H5, I5, r5, y5, st5, fr5⟩ => ?_)
    have I5' := I5.pinned (stat fr5) (T.obj _ _ st5)
    refine wpAny_passesOwn hp (thn (hg _ s5 σ3 H5 x u _ I5' r5 (step x H5 y5)) fun _ s6 ⟨σ6, H6, I6, q6⟩ => ?_)
    refine wpAny_passesOwn hp (thn (hb _ s6 σ6 H6 _ I6 q6) fun f s7 q7 => ?_)
    have again : ∀ {σ7 : St} {H7 : Hp}, Inv X (pins ++ pinsAt fp s5.heap) σ7 H7 s7 → N σ7 H7 → ∃ m, m < n ∧ ∃ i σ' H', Inv X pins σ' H' s7 ∧ tn i s7.heap ∧ (∀ b ∈ fp, H' b = none) ∧ W i m σ' H' := fun {σ7 H7} I7 n7 => by
      obtain ⟨m', hm, w7⟩ := hN σ7 H7 n7
      refine ⟨m', hm, i + 1, σ7, H7, I7.unpinned, T.keep _ _ _ st5 fun b hb o e => (I7.pin (b, o) (List.mem_append_right _ (List.mem_append_right _ (mem_pinsAt hb e)))).1, fun b hb => ?_, w7⟩
      obtain ⟨o, e, d⟩ := T.obj _ _ st5 b hb
      exact (I7.pin (b, o) (List.mem_append_right _ (List.mem_append_right _ (mem_pinsAt hb e)))).2.1
    cases f with
    | next => obtain ⟨σ7, H7, I7, n7⟩ := q7; exact again I7 n7
    | cont => obtain ⟨σ7, H7, I7, n7⟩ := q7; exact again I7 n7
    | brk => obtain ⟨σ7, H7, I7, q7⟩ := q7; exact ⟨σ7, H7, I7.unpinned, q7⟩
    | ret v => obtain ⟨x7, σ7, H7, I7, r7, q7⟩ := q7; exact ⟨x7, σ7, H7, I7.unpinned, r7, q7⟩
end

/-! ### the forms one uses -/
/-- over a list that the body leaves as it is -/
theorem for_list {K : PySem.W.Frag} {a : Addr} {xs : List V} {g : TG} {tb : TS} {D : Ends} {σ : St} {H : Hp} (Pv : Nat → St → Hp → Prop) (h0 : Pv 0 σ H) (hl : ∀ i σ H, i ≤ xs.length → Pv i σ H → SqL K H a xs)
    (hs : ∀ i x σ H, xs[i]? = some x → Pv i σ H → g x σ H fun σ2 H2 => tb { D with nx := Pv (i + 1), ct := Pv (i + 1), bk := D.nx } σ2 H2) (hd : ∀ σ H, Pv xs.length σ H → D.nx σ H) :
    ∃ W : Nat → Nat → St → Hp → Prop, (∃ m, W 0 m σ H) ∧ ∀ i m σ H, W i m σ H →
      ((Itl K a).stop i H ∧ D.nx σ H) ∨ ((Itl K a).go i H ∧ ∃ N : St → Hp → Prop, (∀ σ' H', N σ' H' → ∃ m', m' < m ∧ W (i + 1) m' σ' H') ∧ ∀ x H', (Itl K a).yld i H x H' → g x σ H' fun σ2 H2 => tb { D with nx := N, ct := N, bk := D.nx } σ2 H2) := by
  refine ⟨fun i m σ H => m = xs.length - i ∧ i ≤ xs.length ∧ Pv i σ H, ⟨xs.length, by simp, Nat.zero_le _, h0⟩, ?_⟩
  rintro i m σ H ⟨rfl, hi, p⟩
  have q := hl i σ H hi p
  by_cases hlt : i < xs.length
  · refine .inr ⟨⟨xs, xs[i], q, by simp [hlt]⟩, Pv (i + 1), fun σ' H' p' => ⟨xs.length - (i + 1), by omega, rfl, hlt, p'⟩, fun x H' y => ?_⟩
    obtain ⟨e, y⟩ := y
    subst e
    exact hs i x σ _ (y xs q) p
  · have e : i = xs.length := by omega
    subst e
    exact .inl ⟨⟨xs, q, Nat.le_refl _⟩, hd σ H p⟩
theorem for_range {lo : Int} {n : Nat} {g : TG} {tb : TS} {D : Ends} {σ : St} {H : Hp} (Pv : Nat → St → Hp → Prop) (h0 : Pv 0 σ H)
    (hs : ∀ i σ H, i < n → Pv i σ H → g (.int (lo + i)) σ H fun σ2 H2 => tb { D with nx := Pv (i + 1), ct := Pv (i + 1), bk := D.nx } σ2 H2) (hd : ∀ σ H, Pv n σ H → D.nx σ H) :
    ∃ W : Nat → Nat → St → Hp → Prop, (∃ m, W 0 m σ H) ∧ ∀ i m σ H, W i m σ H →
      ((Itr lo n).stop i H ∧ D.nx σ H) ∨ ((Itr lo n).go i H ∧ ∃ N : St → Hp → Prop, (∀ σ' H', N σ' H' → ∃ m', m' < m ∧ W (i + 1) m' σ' H') ∧ ∀ x H', (Itr lo n).yld i H x H' → g x σ H' fun σ2 H2 => tb { D with nx := N, ct := N, bk := D.nx } σ2 H2) := by
  refine ⟨fun i m σ H => m = n - i ∧ i ≤ n ∧ Pv i σ H, ⟨n, by simp, Nat.zero_le _, h0⟩, ?_⟩
  rintro i m σ H ⟨rfl, hi, p⟩
  by_cases hlt : i < n
  · refine .inr ⟨hlt, Pv (i + 1), fun σ' H' p' => ⟨n - (i + 1), by omega, rfl, hlt, p'⟩, fun x H' y => ?_⟩
    obtain ⟨e, y⟩ := y
    subst e y
    exact hs i σ _ hlt p
  · have e : i = n := by omega
    subst e
    exact .inl ⟨Nat.le_refl _, hd σ H p⟩
/-- while, by a word and a measure of the state -/
theorem while_by {c : TT} {tb : TS} {D : Ends} {σ : St} {H : Hp} (Pv : St → Hp → Prop) (μ : St → Hp → Nat) (h0 : Pv σ H)
    (hs : ∀ σ H, Pv σ H → c σ H fun b H1 => if b = true then tb { D with nx := fun σ' H' => Pv σ' H' ∧ μ σ' H' < μ σ H, ct := fun σ' H' => Pv σ' H' ∧ μ σ' H' < μ σ H, bk := D.nx } σ H1 else D.nx σ H1)
    (mono : ∀ σ H Q Q', (∀ b H1, Q b H1 → Q' b H1) → c σ H Q → c σ H Q') : tWhile c tb D σ H := by
  refine ⟨fun m σ H => m = μ σ H ∧ Pv σ H, ⟨_, rfl, h0⟩, ?_⟩
  rintro m σ H ⟨rfl, p⟩
  refine mono σ H _ _ (fun b H1 q => ?_) (hs σ H p)
  cases b with
  | true => exact ⟨_, fun σ' H' ⟨p', l⟩ => ⟨_, l, rfl, p'⟩, q⟩
  | false => exact q
end L2

namespace L2
open PySem PySem.Spec PyProof.Rows

abbrev R2 := V → V → Hp → VK → Prop
/-- a two-place operation on values: f is binaryOp op, inplaceOp op or compareOp op -/
def OpR (X : Cx) (f : Value → Value → Sem Value) (r : R2) : Prop :=
  ∀ (pins : List (Addr × Obj)) (s : Shared) (σ : St) (H : Hp) (x y : V) (v u : Value) (Q : VK), Inv X pins σ H s → RelV x v → RelV y u → r x y H Q →
    wpAny (model X.prog X.w) X.A (f v u) (EP X pins σ Q) X.xe s
/-- a one-place operation -/
def UnR (X : Cx) (f : Value → Sem Value) (r : V → Hp → VK → Prop) : Prop :=
  ∀ (pins : List (Addr × Obj)) (s : Shared) (σ : St) (H : Hp) (x : V) (v : Value) (Q : VK), Inv X pins σ H s → RelV x v → r x H Q →
    wpAny (model X.prog X.w) X.A (f v) (EP X pins σ Q) X.xe s
/-- a call of a value that is known (a builtin, a type) with values -/
def CallR (X : Cx) (f : Value) (r : List V → Hp → VK → Prop) : Prop :=
  ∀ (pins : List (Addr × Obj)) (s : Shared) (σ : St) (H : Hp) (xs : List V) (us : List Value) (Q : VK), Inv X pins σ H s → Vals xs us → r xs H Q →
    wpAny (model X.prog X.w) X.A (call f us) (EP X pins σ Q) X.xe s
/-- a value's truth -/
def TruR (X : Cx) (r : V → Hp → (Bool → Hp → Prop) → Prop) : Prop :=
  ∀ (pins : List (Addr × Obj)) (s : Shared) (σ : St) (H : Hp) (x : V) (v : Value) (Q : Bool → Hp → Prop), Inv X pins σ H s → RelV x v → r x H Q →
    wpAny (model X.prog X.w) X.A (truthy v) (TP X pins σ Q) X.xe s

def tOp (r : R2) (ta tb : TE) : TE := fun σ H Q => ta σ H fun x H1 => tb σ H1 fun y H2 => r x y H2 Q
def tUn (r : V → Hp → VK → Prop) (ta : TE) : TE := fun σ H Q => ta σ H fun x H1 => r x H1 Q
/-- ints in, under C, and a value out -/
def rI (C : Int → Int → Prop) (g : Int → Int → V) : R2 := fun x y H Q => ∃ i j, x = .int i ∧ y = .int j ∧ C i j ∧ Q (g i j) H
def rI0 (g : Int → Int → V) : R2 := fun x y H Q => ∃ i j, x = .int i ∧ y = .int j ∧ Q (g i j) H
def rU (g : Int → V) : V → Hp → VK → Prop := fun x H Q => ∃ i, x = .int i ∧ Q (g i) H

section
variable {X : Cx} {a b c : Expr} {ta tb tc : TE} {pos : Pos}

theorem binT (ha : PE X a ta) (hb : PE X b tb) {pins : List (Addr × Obj)} {s : Shared} {σ : St} {H : Hp} {R : V → V → Hp → Prop} (I : Inv X pins σ H s)
    (h : ta σ H fun x H1 => tb σ H1 fun y H2 => R x y H2) {Q : Value → Shared → Prop} {f : Value → Value → Sem Value}
    (hf : ∀ v u s2 x y H2, Inv X pins σ H2 s2 → RelV x v → RelV y u → R x y H2 → wpAny (model X.prog X.w) X.A (f v u) Q X.xe s2) :
    wpAny (model X.prog X.w) X.A (eval a X.env) (fun v s₁ => wpAny (model X.prog X.w) X.A (eval b X.env) (fun u s₂ => wpAny (model X.prog X.w) X.A (f v u) Q X.xe s₂) X.xe s₁) X.xe s := by
  refine thn (ha pins s σ H _ I h) fun v s1 ⟨x, H1, I1, r1, q1⟩ => ?_
  refine thn (hb pins s1 σ H1 _ I1 q1) fun u s2 ⟨y, H2, I2, r2, q2⟩ => ?_
  exact hf v u s2 x y H2 I2 r1 r2 q2

theorem pe_op {op : Operator} {r : R2} (ho : OpR X (binaryOp op) r) (ha : PE X a ta) (hb : PE X b tb) : PE X (.BinOp a op b pos) (tOp r ta tb) := by
  intro pins s σ H Q I h
  exact wpAny_BinOp (binT ha hb I h fun v u s2 x y H2 I2 rx ry q => ho pins s2 σ H2 x y v u Q I2 rx ry q)
theorem pe_un {op : UnaryOp} {r : V → Hp → VK → Prop} (ho : UnR X (unaryOp op) r) (ha : PE X a ta) : PE X (.UnaryOp op a pos) (tUn r ta) := by
  intro pins s σ H Q I h
  exact UnaryOp_ (thn (ha pins s σ H _ I h) fun v s1 ⟨x, H1, I1, r1, q1⟩ => ho pins s1 σ H1 x v Q I1 r1 q1)
/-! ### ints -/
theorem opI {f : Value → Value → Sem Value} {C : Int → Int → Prop} {g : Int → Int → Int}
    (rule : ∀ (i j : Int) (t u : Tok) (s : Shared) (Q : Value → Shared → Prop) (E : Value → Shared → Prop), C i j → Q (.int (g i j) s.toks) { s with toks := s.toks + 1 } → wpAny (model X.prog X.w) X.A (f (.int i t) (.int j u)) Q E s) :
    OpR X f (rI C fun i j => .int (g i j)) := by
  intro pins s σ H x y v u Q I rx ry h
  obtain ⟨i, j, rfl, rfl, hc, q⟩ := h
  obtain ⟨t, rfl⟩ := rx
  obtain ⟨t', rfl⟩ := ry
  exact rule i j t t' s _ _ hc ⟨.int (g i j), H, I.tok _, ⟨_, rfl⟩, q⟩
theorem opI0 {f : Value → Value → Sem Value} {g : Int → Int → Int}
    (rule : ∀ (i j : Int) (t u : Tok) (s : Shared) (Q : Value → Shared → Prop) (E : Value → Shared → Prop), Q (.int (g i j) s.toks) { s with toks := s.toks + 1 } → wpAny (model X.prog X.w) X.A (f (.int i t) (.int j u)) Q E s) :
    OpR X f (rI0 fun i j => .int (g i j)) := by
  intro pins s σ H x y v u Q I rx ry h
  obtain ⟨i, j, rfl, rfl, q⟩ := h
  obtain ⟨t, rfl⟩ := rx
  obtain ⟨t', rfl⟩ := ry
  exact rule i j t t' s _ _ ⟨.int (g i j), H, I.tok _, ⟨_, rfl⟩, q⟩
theorem opB0 {f : Value → Value → Sem Value} {g : Int → Int → Bool}
    (rule : ∀ (i j : Int) (t u : Tok) (s : Shared) (Q : Value → Shared → Prop) (E : Value → Shared → Prop), Q (.bool (g i j)) s → wpAny (model X.prog X.w) X.A (f (.int i t) (.int j u)) Q E s) :
    OpR X f (rI0 fun i j => .bl (g i j)) := by
  intro pins s σ H x y v u Q I rx ry h
  obtain ⟨i, j, rfl, rfl, q⟩ := h
  obtain ⟨t, rfl⟩ := rx
  obtain ⟨t', rfl⟩ := ry
  exact rule i j t t' s _ _ ⟨.bl (g i j), H, I, rfl, q⟩

def CDiv (i j : Int) : Prop := 0 < j ∧ j < 1073741824
def CPow (i j : Int) : Prop := 0 ≤ j ∧ j ≤ 1000000 ∧ i.natAbs < 2 ^ 64
def CMul (i j : Int) : Prop := (-(2 ^ 64) < i ∧ i < 2 ^ 64) ∨ (-(2 ^ 64) < j ∧ j < 2 ^ 64)
theorem CMul.ok {i j : Int} (h : CMul i j) : IntMulOk i j := by
  rcases h with ⟨h1, h2⟩ | ⟨h1, h2⟩
  · exact .of_left (intBits_le_64 h1 h2)
  · exact .of_right (intBits_le_64 h1 h2)
theorem op_add : OpR X (binaryOp .Add) (rI0 fun i j => .int (i + j)) := opI0 fun _ _ _ _ _ _ _ q => add_int q
theorem op_sub : OpR X (binaryOp .Sub) (rI0 fun i j => .int (i - j)) := opI0 fun _ _ _ _ _ _ _ q => sub_int q
theorem op_mul : OpR X (binaryOp .Mult) (rI CMul fun i j => .int (i * j)) := opI fun _ _ _ _ _ _ _ hc q => mul_int q hc.ok
/-- // by a positive divisor -/
theorem op_fdiv : OpR X (binaryOp .FloorDiv) (rI CDiv fun i j => .int (i / j)) := opI fun i j _ _ _ _ _ hc q => by
  have h1 : (0 : Int) < j := hc.1
  have h2 : j < 1073741824 := hc.2
  exact floordiv_int (by omega) (by rw [Int.fdiv_eq_ediv_of_nonneg i (by omega)]; exact q) (.inl (PyProof.noPylong_small (by omega)))
/-- % by a positive divisor of any size -/
theorem op_mod : OpR X (binaryOp .Mod) (rI (fun _ j => 0 < j) fun i j => .int (i % j)) := opI fun i j _ _ _ _ _ hc q => by
  have h1 : (0 : Int) < j := hc
  exact mod_int' (by omega) (by rw [Int.fmod_eq_emod_of_nonneg i (by omega)]; exact q)
theorem op_pow : OpR X (binaryOp .Pow) (rI CPow fun i j => .int (i ^ j.toNat)) := opI fun _ _ _ _ _ _ _ hc q => pow_int_small hc.1 hc.2.1 hc.2.2 q
theorem unI {f : Value → Sem Value} {g : Int → Int}
    (rule : ∀ (i : Int) (t : Tok) (s : Shared) (Q : Value → Shared → Prop) (E : Value → Shared → Prop), Q (.int (g i) s.toks) { s with toks := s.toks + 1 } → wpAny (model X.prog X.w) X.A (f (.int i t)) Q E s) :
    UnR X f (rU fun i => .int (g i)) := by
  intro pins s σ H x v Q I rx h
  obtain ⟨i, rfl, q⟩ := h
  obtain ⟨t, rfl⟩ := rx
  exact rule i t s _ _ ⟨.int (g i), H, I.tok _, ⟨_, rfl⟩, q⟩
theorem un_neg : UnR X (unaryOp .USub) (rU fun i => .int (-i)) := unI fun _ _ _ _ _ q => neg_int q
/-! ### bools among ints: n += (a < b) -/
end

/-! ### comparisons -/
/-- the scalars that == tells apart as data does -/
def scal : V → V → Bool
  | .non, .non => true | .non, .int _ => true | .int _, .non => true | .non, .bl _ => true | .bl _, .non => true | .non, .str _ => true | .str _, .non => true
  | .int _, .int _ => true | .bl _, .bl _ => true | .str _, .str _ => true | .byt _, .byt _ => true
  | .int _, .str _ => true | .str _, .int _ => true | .bl _, .str _ => true | .str _, .bl _ => true
  | _, _ => false
def rEq : R2 := fun x y H Q => scal x y = true ∧ Q (.bl (decide (x = y))) H
def rNe : R2 := fun x y H Q => scal x y = true ∧ Q (.bl (!decide (x = y))) H

theorem dec_int {i j : Int} : decide (V.int i = V.int j) = (i == j) := by
  rw [Bool.eq_iff_iff]
  simp
theorem dec_bl {i j : Bool} : decide (V.bl i = V.bl j) = (i == j) := by
  rw [Bool.eq_iff_iff]
  simp
theorem dec_str {i j : Str} : decide (V.str i = V.str j) = (i == j) := by
  rw [Bool.eq_iff_iff]
  simp
theorem dec_byt {i j : Array UInt8} : decide (V.byt i = V.byt j) = (i.toList == j.toList) := by
  rw [Bool.eq_iff_iff]
  cases i
  cases j
  simp

section
variable {X : Cx} {a b c : Expr} {ta tb tc : TE} {pos : Pos}
theorem fin_bl {pins : List (Addr × Obj)} {σ : St} {H : Hp} {s : Shared} {Q : VK} {k k' : Bool} (I : Inv X pins σ H s) (q : Q (.bl k) H) (e : k = k') : EP X pins σ Q (.bool k') s := by
  subst e
  exact ⟨.bl k, H, I, rfl, q⟩
theorem op_eq : OpR X (compareOp .Eq) rEq := by
  intro pins s σ H x y v u Q I rx ry h
  obtain ⟨hs, q⟩ := h
  cases x with
  | non =>
    cases rx
    cases y with
    | non => cases ry; exact PySem.EqNone.eq_none_none (fin_bl I q (by simp))
    | bl j => cases ry; exact PySem.EqNone.eq_none_bool (fin_bl I q (by simp))
    | int j => obtain ⟨t', rfl⟩ := ry; exact PySem.EqNone.eq_none_int (fin_bl I q (by simp))
    | str j => obtain ⟨t', rfl⟩ := ry; exact PySem.EqNone.eq_none_str (fin_bl I q (by simp))
    | _ => exact absurd (show false = true from hs) Bool.false_ne_true
  | bl i =>
    cases rx
    cases y with
    | non => cases ry; exact PySem.EqNone.eq_bool_none (fin_bl I q (by simp))
    | bl j => cases ry; exact eq_bool (fin_bl I q dec_bl)
    | str j => obtain ⟨t', rfl⟩ := ry; exact PySem.EqMixed.eq_bool_str (fin_bl I q (by simp))
    | _ => exact absurd (show false = true from hs) Bool.false_ne_true
  | int i =>
    obtain ⟨t, rfl⟩ := rx
    cases y with
    | non => cases ry; exact PySem.EqNone.eq_int_none (fin_bl I q (by simp))
    | int j => obtain ⟨t', rfl⟩ := ry; exact eq_int (fin_bl I q dec_int)
    | str j => obtain ⟨t', rfl⟩ := ry; exact PySem.EqMixed.eq_int_str (fin_bl I q (by simp))
    | _ => exact absurd (show false = true from hs) Bool.false_ne_true
  | str i =>
    obtain ⟨t, rfl⟩ := rx
    cases y with
    | non => cases ry; exact PySem.EqNone.eq_str_none (fin_bl I q (by simp))
    | bl j => cases ry; exact PySem.EqMixed.eq_str_bool (fin_bl I q (by simp))
    | int j => obtain ⟨t', rfl⟩ := ry; exact PySem.EqMixed.eq_str_int (fin_bl I q (by simp))
    | str j => obtain ⟨t', rfl⟩ := ry; exact eq_str (fin_bl I q dec_str)
    | _ => exact absurd (show false = true from hs) Bool.false_ne_true
  | byt i =>
    obtain ⟨t, rfl⟩ := rx
    cases y with
    | byt j => obtain ⟨t', rfl⟩ := ry; exact PySem.W.eq_bytes (fin_bl I q dec_byt)
    | _ => exact absurd (show false = true from hs) Bool.false_ne_true
  | _ => cases y <;> exact absurd (show false = true from hs) Bool.false_ne_true
theorem op_ne : OpR X (compareOp .NotEq) rNe := by
  intro pins s σ H x y v u Q I rx ry h
  obtain ⟨hs, q⟩ := h
  cases x with
  | non =>
    cases rx
    cases y with
    | non => cases ry; exact PySem.EqNone.ne_none_none (fin_bl I q (by simp))
    | bl j => cases ry; exact PySem.EqNone.ne_none_bool (fin_bl I q (by simp))
    | int j => obtain ⟨t', rfl⟩ := ry; exact PySem.EqNone.ne_none_int (fin_bl I q (by simp))
    | str j => obtain ⟨t', rfl⟩ := ry; exact PySem.EqNone.ne_none_str (fin_bl I q (by simp))
    | _ => exact absurd (show false = true from hs) Bool.false_ne_true
  | bl i =>
    cases rx
    cases y with
    | non => cases ry; exact PySem.EqNone.ne_bool_none (fin_bl I q (by simp))
    | bl j => cases ry; exact ne_bool (fin_bl I q (congrArg not dec_bl))
    | str j => obtain ⟨t', rfl⟩ := ry; exact PySem.EqMixed.ne_bool_str (fin_bl I q (by simp))
    | _ => exact absurd (show false = true from hs) Bool.false_ne_true
  | int i =>
    obtain ⟨t, rfl⟩ := rx
    cases y with
    | non => cases ry; exact PySem.EqNone.ne_int_none (fin_bl I q (by simp))
    | int j => obtain ⟨t', rfl⟩ := ry; exact ne_int (fin_bl I q (congrArg not dec_int))
    | str j => obtain ⟨t', rfl⟩ := ry; exact PySem.EqMixed.ne_int_str (fin_bl I q (by simp))
    | _ => exact absurd (show false = true from hs) Bool.false_ne_true
  | str i =>
    obtain ⟨t, rfl⟩ := rx
    cases y with
    | non => cases ry; exact PySem.EqNone.ne_str_none (fin_bl I q (by simp))
    | bl j => cases ry; exact PySem.EqMixed.ne_str_bool (fin_bl I q (by simp))
    | int j => obtain ⟨t', rfl⟩ := ry; exact PySem.EqMixed.ne_str_int (fin_bl I q (by simp))
    | str j => obtain ⟨t', rfl⟩ := ry; exact ne_str (fin_bl I q (congrArg not dec_str))
    | _ => exact absurd (show false = true from hs) Bool.false_ne_true
  | byt i =>
    obtain ⟨t, rfl⟩ := rx
    cases y with
    | byt j => obtain ⟨t', rfl⟩ := ry; exact PySem.W.ne_bytes (fin_bl I q (congrArg not dec_byt))
    | _ => exact absurd (show false = true from hs) Bool.false_ne_true
  | _ => cases y <;> exact absurd (show false = true from hs) Bool.false_ne_true

theorem op_lt : OpR X (compareOp .Lt) (rI0 fun i j => .bl (decide (i < j))) := opB0 fun _ _ _ _ _ _ _ q => lt_int q
theorem op_le : OpR X (compareOp .LtE) (rI0 fun i j => .bl (decide (i ≤ j))) := opB0 fun _ _ _ _ _ _ _ q => le_int q
theorem op_gt : OpR X (compareOp .Gt) (rI0 fun i j => .bl (decide (j < i))) := opB0 fun _ _ _ _ _ _ _ q => gt_int q
/-- is None, is not None: the right side a value none -/
theorem op_isN : OpR X (compareOp .Is) (fun x y H Q => y = .non ∧ Q (.bl (decide (x = .non))) H) := by
  intro pins s σ H x y v u Q I rx ry h
  obtain ⟨rfl, q⟩ := h
  cases ry
  refine is_none_gen (fin_bl I q ?_)
  cases x <;> first
    | (cases rx; rfl)
    | (obtain ⟨t, rfl⟩ := rx; rfl)
theorem op_notN : OpR X (compareOp .IsNot) (fun x y H Q => y = .non ∧ Q (.bl (!decide (x = .non))) H) := by
  intro pins s σ H x y v u Q I rx ry h
  obtain ⟨rfl, q⟩ := h
  cases ry
  refine isnot_none_gen (fin_bl I q ?_)
  cases x <;> first
    | (cases rx; rfl)
    | (obtain ⟨t, rfl⟩ := rx; rfl)

/-- two rules for one operation: by cases -/
theorem OpR.or {f : Value → Value → Sem Value} {r r' : R2} (h : OpR X f r) (h' : OpR X f r') : OpR X f (fun x y H Q => r x y H Q ∨ r' x y H Q) := by
  intro pins s σ H x y v u Q I rx ry q
  rcases q with q | q
  · exact h pins s σ H x y v u Q I rx ry q
  · exact h' pins s σ H x y v u Q I rx ry q

theorem nomark (b : Expr) {op : CmpOp} (h : op ≠ .In := by decide) (h2 : op ≠ .NotIn := by decide) : behindInMarks op b = false := by
  have e1 : (op == CmpOp.In) = false := by cases op <;> first | rfl | exact absurd rfl h
  have e2 : (op == CmpOp.NotIn) = false := by cases op <;> first | rfl | exact absurd rfl h2
  cases b <;> simp [behindInMarks, e1, e2]
/-- a comparison as a value; hm: nomark b, or (for in, not in) by with_unfolding_all rfl -/
theorem pe_cmpR {op : CmpOp} {r : R2} (ho : OpR X (compareOp op) r) (ha : PE X a ta) (hb : PE X b tb) (hm : behindInMarks op b = false) : PE X (.Compare a [op] [b] pos) (tOp r ta tb) := by
  intro pins s σ H Q I h
  exact wpAny_Compare1 (binT ha hb I h fun v u s2 x y H2 I2 rx ry q => ho pins s2 σ H2 x y v u Q I2 rx ry q) hm
/-- a reading of a value as a test -/
def tTest (t : TE) : TT := fun σ H Q => t σ H fun x H' => ∃ k, x = .bl k ∧ Q k H'
theorem pt_cmpR {op : CmpOp} {r : R2} (ho : OpR X (compareOp op) r) (ha : PE X a ta) (hb : PE X b tb) (hm : behindInMarks op b = false) : PT X (.Compare a [op] [b] pos) (tTest (tOp r ta tb)) := by
  intro pins s σ H Q I h
  refine wpAny_isTrue_Compare1 (thn (ha pins s σ H _ I h) fun v s1 ⟨x, H1, I1, r1, q1⟩ => thn (hb pins s1 σ H1 _ I1 q1) fun u s2 ⟨y, H2, I2, r2, q2⟩ =>
    thn (ho pins s2 σ H2 x y v u _ I2 r1 r2 q2) fun c s3 ⟨z, H3, I3, r3, k, e, q3⟩ => ?_) hm
  subst e
  cases r3
  exact wpAny_truthy_bool ⟨H3, I3, q3⟩
/-- a op1 b op2 c -/
def tChain (r r' : R2) (ta tb tc : TE) : TE := fun σ H Q => ta σ H fun x H1 => tb σ H1 fun y H2 => r x y H2 fun z H3 => ∃ k, z = .bl k ∧
  (if k = true then tc σ H3 fun w' H4 => r' y w' H4 Q else Q (.bl false) H3)
/-! ### truth -/
/-- a value's truth by the abstract heap -/
def TruV (K : PySem.W.Frag) (x : V) (H : Hp) (k : Bool) : Prop :=
  match x with
  | .non => k = false
  | .bl b => k = b
  | .int i => k = (i != 0)
  | .str y => y.length ≤ sizeLine ∧ k = ((y.length : Int) != 0)
  | .byt y => y.size ≤ sizeLine ∧ k = ((y.size : Int) != 0)
  | .ref p => (∃ xs, SqL K H p xs ∧ k = !xs.isEmpty) ∨ (∃ xs, SqT K H p xs ∧ k = !xs.isEmpty) ∨ ∃ kvs, H p = some (.dK kvs) ∧ k = !kvs.isEmpty
  | _ => False
theorem isEmpty_kv {κ : Type} {kvs : List (κ × V)} {vs : List (κ × Value)} (r : KV kvs vs) : (!vs.isEmpty) = !kvs.isEmpty := by
  cases r <;> rfl
theorem isEmpty_of {xs : List V} {its : List Value} (r : Vals xs its) : (!its.toArray.isEmpty) = !xs.isEmpty := by
  cases r <;> simp
theorem line63 : (sizeLine : Nat) < 2 ^ 63 := by rw [sizeLine_eq]; decide
theorem tru_ok : TruR X (fun x H Q => ∃ k, TruV X.K x H k ∧ Q k H) := by
  intro pins s σ H x v Q I rx h
  obtain ⟨k, e, q⟩ := h
  have hl := line63
  have hs : sizeLine = 16777216 := sizeLine_eq
  cases x with
  | non =>
    cases rx
    have e' : k = false := e
    subst e'
    exact truthy_none ⟨H, I, q⟩
  | bl b =>
    cases rx
    have e' : k = b := e
    subst e'
    exact wpAny_truthy_bool ⟨H, I, q⟩
  | int i =>
    obtain ⟨t, rfl⟩ := rx
    have e' : k = (i != 0) := e
    subst e'
    exact PySem.P.truthy_int ⟨H, I, q⟩
  | str y =>
    obtain ⟨t, rfl⟩ := rx
    obtain ⟨hy, e'⟩ : y.length ≤ sizeLine ∧ k = ((y.length : Int) != 0) := e
    subst e'
    exact PySem.P.truthy_str (by omega) ⟨H, I.tok _, q⟩
  | byt y =>
    obtain ⟨t, rfl⟩ := rx
    obtain ⟨hy, e'⟩ : y.size ≤ sizeLine ∧ k = ((y.size : Int) != 0) := e
    subst e'
    exact PySem.W.truthy_bytes (by omega) ⟨H, I.tok _, q⟩
  | ref p =>
    cases rx
    have e' : (∃ xs, SqL X.K H p xs ∧ k = !xs.isEmpty) ∨ (∃ xs, SqT X.K H p xs ∧ k = !xs.isEmpty) ∨ ∃ kvs, H p = some (.dK kvs) ∧ k = !kvs.isEmpty := e
    rcases e' with ⟨xs, hx, e'⟩ | ⟨xs, hx, e'⟩ | ⟨kvs, hx, e'⟩
    · subst e'
      obtain ⟨its, r, pl, hz⟩ := I.list hx
      have hlen := r.length
      exact wpAny_truthy_list pl.isList (by simp only [List.size_toArray]; omega) ⟨H, I.tok _, by rw [isEmpty_of r]; exact q⟩
    · subst e'
      obtain ⟨its, r, pl, hz⟩ := I.tuple hx
      have hlen := r.length
      exact truthy_tuple pl (by simp only [List.size_toArray]; omega) ⟨H, I.tok _, by rw [isEmpty_of r]; exact q⟩
    · subst e'
      obtain ⟨hz, hS, vs, r, m⟩ : kvs.length ≤ sizeLine ∧ (p == sysModules) = false ∧ ∃ vs, KV kvs vs ∧ s.heap.DictOf (mixKind X.prog X.w) p vs := I.hok p _ hx
      have hlen : kvs.length = vs.length := Paired.length r
      exact wpAny_truthy_dict hS m (by omega) ⟨H, I.tok _, by rw [isEmpty_kv r]; exact q⟩
  | _ => exact (show False from e).elim
/-! ### strs and bytes -/
theorem op_add_str : OpR X (binaryOp .Add) (fun x y H Q => ∃ i j, x = .str i ∧ y = .str j ∧ i.length + j.length ≤ sizeLine ∧ Q (.str (i ++ j)) H) := by
  intro pins s σ H x y v u Q I rx ry h
  obtain ⟨i, j, rfl, rfl, hz, q⟩ := h
  obtain ⟨t, rfl⟩ := rx
  obtain ⟨t', rfl⟩ := ry
  exact add_str (fun t' tk => ⟨.str (i ++ j), H, I.tok _, ⟨_, rfl⟩, q⟩) hz
/-! ### scalar builtins, by CallR -/
theorem vals1 {x : V} {us : List Value} (r : Vals [x] us) : ∃ u, us = [u] ∧ RelV x u := by
  cases r with
  | cons r1 r2 => cases r2; exact ⟨_, rfl, r1⟩
theorem vals2 {x y : V} {us : List Value} (r : Vals [x, y] us) : ∃ u w', us = [u, w'] ∧ RelV x u ∧ RelV y w' := by
  cases r with
  | cons r1 r2 =>
    cases r2 with
    | cons r3 r4 => cases r4; exact ⟨_, _, rfl, r1, r3⟩
theorem call_max2 (hc : X.calm = true) : CallR X (.builtin "max") (fun xs H Q => ∃ i j, xs = [.int i, .int j] ∧ Q (.int (if j > i then j else i)) H) := by
  intro pins s σ H xs us Q I r h
  obtain ⟨i, j, rfl, q⟩ := h
  obtain ⟨u, w', rfl, ⟨t, rfl⟩, ⟨t', rfl⟩⟩ := vals2 r
  refine max_two_ints (I.ok.hd hc) fun h' tk k => ⟨_, H, I.kept k, ?_, q⟩
  by_cases hj : j > i
  · rw [if_pos hj, if_pos hj]; exact ⟨_, rfl⟩
  · rw [if_neg hj, if_neg hj]; exact ⟨_, rfl⟩
theorem call_int1 : CallR X (.type "int") (fun xs H Q => (∃ i, xs = [.int i] ∧ Q (.int i) H) ∨ ∃ k, xs = [.bl k] ∧ Q (.int (if k then 1 else 0)) H) := by
  intro pins s σ H xs us Q I r h
  rcases h with ⟨i, rfl, q⟩ | ⟨k, rfl, q⟩
  · obtain ⟨u, rfl, t, rfl⟩ := vals1 r
    exact call_int_int ⟨.int i, H, I, ⟨_, rfl⟩, q⟩
  · obtain ⟨u, rfl, r1⟩ := vals1 r
    cases r1
    exact call_int_bool ⟨.int (if k then 1 else 0), H, I.tok _, ⟨_, rfl⟩, q⟩
end
end L2

namespace L2
open PySem PySem.Spec PyProof.Rows

/-! ### an instance, its attributes a map -/
structure ObjM (h : Heap) (x dx C : Addr) (mA : Str → Option Value) : Prop where
  obj : h.get? x = some (PySem.W.instObj C dx)
  ns : h.Ns1 dx mA
  ne : dx ≠ x

theorem lookIn_ns {h : Heap} {dx : Addr} {mA : Str → Option Value} (n : h.Ns1 dx mA) : ∃ od, h.get? dx = some od ∧ ∀ name, PySem.W.lookIn name od = some (mA name) := by
  obtain ⟨o, es, ep, ho, hd, hk, _, hm⟩ := n
  refine ⟨o, ho, fun name => ?_⟩
  have e := hm name
  unfold nsFind findBy at e
  rw [← Array.find?_toList] at e
  unfold PySem.W.lookIn
  rw [hd]
  dsimp only
  split
  · rename_i y q
    rw [q] at e
    exact congrArg some e
  · rename_i q
    rw [q] at e
    have a : es.toList.any (·.refKey) = false := by
      rw [List.any_eq_false]
      intro y hy
      obtain ⟨z, t, hkey⟩ := hk y (Array.mem_toList_iff.mp hy)
      simp [DictEntry.refKey, hkey]
    have a' : ¬ es.toList.any (·.refKey) = true := by rw [a]; exact Bool.false_ne_true
    rw [if_neg a']
    exact congrArg some e

theorem ObjM.look {h : Heap} {x dx C : Addr} {mA : Str → Option Value} (I : ObjM h x dx C mA) : ∃ od, PySem.W.InstAt h x (PySem.W.instObj C dx) C (some od) ∧ ∀ name, PySem.W.lookIn name od = some (mA name) :=
  let ⟨od, ho, hl⟩ := lookIn_ns I.ns
  ⟨od, ⟨I.obj, rfl, rfl, ho⟩, hl⟩

section
variable {prog : Program} {w : World} {A : Around} {E : Value → Shared → Prop} {s : Shared} {K : PySem.W.Frag} {x dx C f : Addr} {mA : Str → Option Value} {name : Str} {v : Value}

theorem get_map {expr : Bool} {Q : Value → Shared → Prop} (X : K.In s.heap) (I : ObjM s.heap x dx C mA) (hg : PySem.W.plainGet K C name = true) (hh : PySem.W.hasDictIn K C = true)
    (ha : PySem.W.findIn K (.ref C) name = some none) (hv : mA name = some v) (hv' : PySem.W.handedIn v = true) (h : Q v { s with toks := s.toks + 1 }) :
    wpAny (model prog w) A (getAttr (.ref x) name expr) Q E s := by
  obtain ⟨od, J, hl⟩ := I.look
  exact PySem.W.get_value X J (PySem.W.plainGet_of hg).1 (PySem.W.findObj_own hh ha rfl (by rw [hl, hv])) hv' h

theorem get_meth {pl : Sem Bool} {Q : Value × List Value → Shared → Prop} (X : K.In s.heap) (I : ObjM s.heap x dx C mA) (hg : PySem.W.plainGet K C name = true)
    (hf : PySem.W.findIn K (.ref C) name = some (some (.ref f))) (ht : PySem.W.isFn K (.ref f) = true) (hv : mA name = none) (h : Q (.ref f, [.ref x]) s) :
    wpAny (model prog w) A (getMethod (.ref x) name pl) Q E s := by
  obtain ⟨od, J, hl⟩ := I.look
  exact PySem.W.method_fn X J (PySem.W.plainGet_of hg).1 (PySem.W.plainGet_of hg).2 hf (beq_iff_eq.mp ht) (by show (PySem.W.lookIn name od).map (·.isSome) = some false; rw [hl, hv]; rfl) h

theorem set_map {ns : List Str} {Q : Unit → Shared → Prop} (X : K.In s.heap) (I : ObjM s.heap x dx C mA)
    (hs : PySem.W.findIn K (.ref C) "__setattr__" = some (some (.builtin "object.__setattr__"))) (hp : PySem.W.plainOver K C = true) (ht : PySem.W.takerIn K C name = some none) (hh : PySem.W.hasDictIn K C = true)
    (hw : PySem.Within mA ns) (hsz : ns.length ≤ sizeLine)
    (h : ∀ h', ObjM h' x dx C (fun y => if y = name then some v else mA y) → Heap.SameBut dx s.heap h' → Q () { s with heap := h', toks := s.toks + 2 }) :
    wpAny (model prog w) A (setAttr (.ref x) name v) Q E s := by
  obtain ⟨od, J, hl⟩ := I.look
  refine PySem.W.set_plain X J hs (PySem.W.osa_open (s := { s with toks := s.toks + 1 }) (r := none) X J hp ht fun b => ?_)
  obtain ⟨cd, hc, hd'⟩ := PySem.W.any_some hh
  have hx : s.heap.get? x = some ⟨.ref C, some dx, .plain, #[]⟩ := I.obj
  refine wpAny_bind (wpAny_pure (wpAny_bind (wpAny_bind (wpAny_loadPart hx (wpAny_bind (PySem.W.Looks.here (s := { s with toks := s.toks + 1 }) (PySem.W.looks_clsIn X hc) ?_))))))
  rw [hd']
  refine wpAny_pure (a := some dx) (wpAny_bind (wpAny_pure (wpAny_bind ?_)))
  refine wpAny_nsSet1 (s := { s with toks := s.toks + 1 }) I.ns fun h' hn2 hs2 => ?_
  obtain ⟨oD, esD, epD, hoD, hdD, hcD⟩ := hn2.count (PySem.Within.cons name v hw)
  refine wpAny_bind (wpAny_lookBehind hoD (by rw [hdD]; exact pastItsLine_dict (Nat.le_trans hcD (by rw [List.length_cons]; omega))) ?_)
  exact wpAny_pure (h _ ⟨(hs2.2 _ (Ne.symm I.ne)).trans I.obj, hn2, I.ne⟩ hs2)

/-- C(..): the dict at the heap's end, the instance behind it; then its __init__ -/
theorem make_map {R : Result → Shared → Prop} {vs : List Value} {kw : List (Str × Value)} (X : K.In s.heap) (hm : PySem.W.makesIn K C = true)
    (hi : PySem.W.findIn K (.ref C) "__init__" = some (some (.ref f))) (hf : PySem.W.typeIn K (.ref f) = some (.type "function"))
    (h : codeAny (model prog w) (A.under (.builtin "type.__call__" ⟨.ref C :: vs, kw⟩)) (.call (.ref f) ⟨.ref (s.heap.objs.size + 1) :: vs, kw⟩) (PySem.W.InitBack (s.heap.objs.size + 1) R)
      { s with heap := (s.heap.push PySem.W.emptyDict).push (PySem.W.instObj C s.heap.objs.size) }) :
    codeAny (model prog w) A (.call (.ref C) ⟨vs, kw⟩) R s := by
  obtain ⟨hh, g, d, t, os⟩ := s
  exact PySem.W.make_core (PySem.W.makes_of X hm) (PySem.W.looks_findIn X hi) (fun self => PySem.W.bind_fn X self hf) (.inl rfl) h
end

/-! ### the attributes as a list of pairs -/
def putF (f : Str) (v : V) : List (Str × V) → List (Str × V)
  | [] => [(f, v)]
  | (g, x) :: r => if g = f then (g, v) :: r else (g, x) :: putF f v r
theorem lookup_putF (f g : Str) (v : V) : ∀ fs : List (Str × V), (putF f v fs).lookup g = if g = f then some v else fs.lookup g
  | [] => by
    show List.lookup g [(f, v)] = _
    by_cases h : g = f
    · have hb : (g == f) = true := beq_iff_eq.mpr h
      simp only [List.lookup, hb, if_pos h]
    · have hb : (g == f) = false := beq_eq_false_iff_ne.mpr h
      simp only [List.lookup, hb, if_neg h]
  | (k, x) :: r => by
    have ih := lookup_putF f g v r
    rw [show putF f v ((k, x) :: r) = (if k = f then (k, v) :: r else (k, x) :: putF f v r) from rfl]
    by_cases hk : k = f
    · rw [if_pos hk]
      by_cases h : g = k
      · have hb : (g == k) = true := beq_iff_eq.mpr h
        simp only [List.lookup, hb, if_pos (h.trans hk)]
      · have hb : (g == k) = false := beq_eq_false_iff_ne.mpr h
        simp only [List.lookup, hb, if_neg (fun e : g = f => h (e.trans hk.symm))]
    · rw [if_neg hk]
      by_cases h : g = k
      · have hb : (g == k) = true := beq_iff_eq.mpr h
        simp only [List.lookup, hb, if_neg (fun e : g = f => hk (h.symm.trans e))]
      · have hb : (g == k) = false := beq_eq_false_iff_ne.mpr h
        simp only [List.lookup, hb]
        exact ih
theorem keys_putF (f : Str) (v : V) : ∀ fs : List (Str × V), f ∈ (putF f v fs).map (·.1) ∧ ∀ g, g ∈ fs.map (·.1) → g ∈ (putF f v fs).map (·.1)
  | [] => ⟨by simp [putF], fun g h => by simp at h⟩
  | (k, x) :: r => by
    obtain ⟨i1, i2⟩ := keys_putF f v r
    rw [show putF f v ((k, x) :: r) = (if k = f then (k, v) :: r else (k, x) :: putF f v r) from rfl]
    by_cases hk : k = f
    · rw [if_pos hk]
      subst hk
      exact ⟨by simp, fun g h => by simpa using h⟩
    · rw [if_neg hk]
      refine ⟨?_, fun g h => ?_⟩
      · rw [List.map_cons]
        exact List.mem_cons_of_mem _ i1
      · rw [List.map_cons] at h ⊢
        rcases List.mem_cons.mp h with e | e
        · exact List.mem_cons.mpr (.inl e)
        · exact List.mem_cons_of_mem _ (i2 g e)
theorem length_putF (f : Str) (v : V) : ∀ fs : List (Str × V), (putF f v fs).length ≤ fs.length + 1
  | [] => by simp [putF]
  | (k, x) :: r => by
    have ih := length_putF f v r
    rw [show putF f v ((k, x) :: r) = (if k = f then (k, v) :: r else (k, x) :: putF f v r) from rfl]
    by_cases hk : k = f
    · rw [if_pos hk, List.length_cons, List.length_cons]; omega
    · rw [if_neg hk, List.length_cons, List.length_cons]; omega

theorem RelO.some_of {v : V} {o : Option Value} (r : RelO (some v) o) : ∃ u, o = some u ∧ RelV v u := by
  cases o with
  | none => exact (show False from r).elim
  | some u => exact ⟨u, rfl, r⟩
theorem RelO.none_of {o : Option Value} (r : RelO none o) : o = none := by
  cases o with
  | none => rfl
  | some u => exact (show False from r).elim
theorem handed_of {v : V} {u : Value} (r : RelV v u) : PySem.W.handedIn u = true := by
  cases v with
  | non => cases (show u = Value.none from r); rfl
  | bl b => cases (show u = Value.bool b from r); rfl
  | int i => obtain ⟨t, e⟩ := (show ∃ t, u = Value.int i t from r); cases e; rfl
  | str x => obtain ⟨t, e⟩ := (show ∃ t, u = Value.str x t from r); cases e; rfl
  | byt b => obtain ⟨t, e⟩ := (show ∃ t, u = Value.bytes b t from r); cases e; rfl
  | flt b => obtain ⟨t, e⟩ := (show ∃ t, u = Value.float b t from r); cases e; rfl
  | ref a => cases (show u = Value.ref a from r); rfl
  | ty n => cases (show u = Value.type n from r); rfl

section
variable {P : Program} {w : World} {H H' : Hp} {h h' : Heap} {a C dx : Addr} {fs fs' : List (Str × V)}
theorem ins_get (hok : HOk P w H h) (e : H a = some (.ins C dx fs)) : ∃ mA, ObjM h a dx C mA ∧ (∀ f, RelO (fs.lookup f) (mA f)) ∧ PySem.Within mA (fs.map (·.1)) ∧ fs.length ≤ 1000 ∧ H dx = some (.own a) := by
  obtain ⟨d, z, ne, ob, mA, n, r, q⟩ := (show ObjOk P w H h a (.ins C dx fs) from hok a _ e)
  exact ⟨mA, ⟨ob, n, ne⟩, r, q, z, d⟩
end

/-! ### what of the text a class must have -/
structure Cls (K : PySem.W.Frag) (C : Addr) : Prop where
  pg : PySem.W.plainGet K C Str.empty = true
  hd : PySem.W.hasDictIn K C = true
  po : PySem.W.plainOver K C = true
  sa : PySem.W.findIn K (.ref C) "__setattr__" = some (some (.builtin "object.__setattr__"))
theorem Cls.get {K : PySem.W.Frag} {C : Addr} (c : Cls K C) (f : Str) : PySem.W.plainGet K C f = true := c.pg
/-- no class of it has the name -/
def NoAttr (K : PySem.W.Frag) (C : Addr) (f : Str) : Prop := PySem.W.findIn K (.ref C) f = some none
theorem NoAttr.taker {K : PySem.W.Frag} {C : Addr} {f : Str} (n : NoAttr K C f) : PySem.W.takerIn K C f = some none := by
  unfold PySem.W.takerIn
  rw [show PySem.W.findIn K (.ref C) f = some none from n]
  rfl
/-- a constant of the class -/
structure Con (K : PySem.W.Frag) (C : Addr) (f : Str) (v : V) (u : Value) : Prop where
  at_ : PySem.W.findIn K (.ref C) f = some (some u)
  rel : RelV v u
  get : PySem.W.specialIn K u "__get__" = some none
  cp : PySem.W.copiedNames.contains f = false
/-- a method: a plain def of the class or of one above it -/
structure Meth (K : PySem.W.Frag) (C : Addr) (m : Str) (f : Addr) : Prop where
  at_ : PySem.W.findIn K (.ref C) m = some (some (.ref f))
  fn : PySem.W.isFn K (.ref f) = true
  kp : PySem.W.keepIn K (.ref f) = true

section
variable {X : Cx} {pins : List (Addr × Obj)} {σ : St} {H : Hp} {s : Shared} {a C dx : Addr} {fs : List (Str × V)} {f : Str} {v : V} {A : Around} {E : Value → Shared → Prop}

theorem getattr_ok {b : Bool} {Q : Value → Shared → Prop} (I : Inv X pins σ H s) (e : H a = some (.ins C dx fs)) (c : Cls X.K C) (n : NoAttr X.K C f) (l : fs.lookup f = some v)
    (h : ∀ u s', Inv X pins σ H s' → RelV v u → Q u s') : wpAny (model X.prog X.w) A (getAttr (.ref a) f b) Q E s := by
  obtain ⟨mA, O, r, _, _, _⟩ := ins_get I.hok e
  obtain ⟨u, hu, ru⟩ := RelO.some_of (v := v) (o := mA f) (by rw [← l]; exact r f)
  exact get_map I.kIn O (c.get f) c.hd n hu (handed_of ru) (h u _ (I.tok _) ru)

theorem getmeth_ok {m : Str} {g : Addr} {pl : Sem Bool} {Q : Value × List Value → Shared → Prop} (I : Inv X pins σ H s) (e : H a = some (.ins C dx fs)) (c : Cls X.K C) (k : Meth X.K C m g) (l : fs.lookup m = none)
    (h : Q (.ref g, [.ref a]) s) : wpAny (model X.prog X.w) A (getMethod (.ref a) m pl) Q E s := by
  obtain ⟨mA, O, r, _, _, _⟩ := ins_get I.hok e
  have hn : mA m = none := RelO.none_of (by rw [← l]; exact r m)
  exact get_meth I.kIn O (c.get m) k.at_ k.fn hn h

theorem setattr_ok {y : V} {u : Value} {Q : Unit → Shared → Prop} (I : Inv X pins σ H s) (e : H a = some (.ins C dx fs)) (c : Cls X.K C) (n : NoAttr X.K C f) (hl : fs.length < 1000) (ry : RelV y u)
    (h : ∀ s', Inv X pins σ (upd H a (.ins C dx (putF f y fs))) s' → Q () s') : wpAny (model X.prog X.w) A (setAttr (.ref a) f u) Q E s := by
  obtain ⟨mA, O, r, wi, _, ho⟩ := ins_get I.hok e
  have hz : (fs.map (·.1)).length ≤ sizeLine := by rw [List.length_map, sizeLine_eq]; omega
  refine set_map I.kIn O c.sa c.po n.taker c.hd wi hz fun h' O' sb => h _ ?_
  have hd : ∃ o, h'.get? dx = some o := let ⟨o, _, _, e', _⟩ := O'.ns; ⟨o, e'⟩
  refine I.write (x := a) (e := dx) (by rw [e]; exact True.intro) (.inr ho) (fun b q hb z => (sb.2 b hb).trans z) hd ?_
  refine ⟨by rw [upd_ne O.ne]; exact ho, ?_, O.ne, O'.obj, _, O'.ns, fun g => ?_, fun g hg => ?_⟩
  · have := length_putF f y fs; omega
  · show RelO ((putF f y fs).lookup g) (if g = f then some u else mA g)
    rw [lookup_putF]
    by_cases q : g = f
    · rw [if_pos q, if_pos q]; exact ry
    · rw [if_neg q, if_neg q]; exact r g
  · by_cases q : g = f
    · rw [q]; exact (keys_putF f y fs).1
    · refine (keys_putF f y fs).2 g (wi g fun z => hg ?_)
      show (if g = f then some u else mA g) = none
      rw [if_neg q]; exact z

/-- a new instance, tracked, without attributes -/
theorem Inv.made (I : Inv X pins σ H s) : Inv X pins σ (upd (upd H s.heap.objs.size (.own (s.heap.objs.size + 1))) (s.heap.objs.size + 1) (.ins C s.heap.objs.size []))
    { s with heap := (s.heap.push PySem.W.emptyDict).push (PySem.W.instObj C s.heap.objs.size) } := by
  have e1 : (s.heap.push PySem.W.emptyDict).get? s.heap.objs.size = some PySem.W.emptyDict := Heap.get?_push_size s.heap rfl
  have e2 : ((s.heap.push PySem.W.emptyDict).push (PySem.W.instObj C s.heap.objs.size)).get? (s.heap.objs.size + 1) = some (PySem.W.instObj C s.heap.objs.size) := by
    have := Heap.get?_push_size (s.heap.push PySem.W.emptyDict) (o := PySem.W.instObj C s.heap.objs.size) rfl
    rwa [Heap.size_push] at this
  have e3 : (s.heap.push PySem.W.emptyDict).Ns s.heap.objs.size (fun _ => none) := ⟨PySem.W.emptyDict, #[], _, e1, rfl, (fun e he => absurd he (by simp)), fun _ => rfl⟩
  have I1 := I.laid (a := s.heap.objs.size) (o := .own (s.heap.objs.size + 1)) (h' := s.heap.push PySem.W.emptyDict) (t' := s.toks) (fun b u q => Heap.get?_push_of_some _ q) (Nat.le_refl _) ⟨_, e1⟩
  refine I1.laid (a := s.heap.objs.size + 1) (o := .ins C s.heap.objs.size []) (t' := s.toks) (fun b u q => Heap.get?_push_of_some _ q) (Nat.le_of_eq (Heap.size_push _ _)) ?_
  have ne : s.heap.objs.size ≠ s.heap.objs.size + 1 := Nat.ne_of_lt (Nat.lt_succ_self _)
  refine ⟨by rw [upd_ne ne, upd_same], Nat.zero_le _, ne, e2, fun _ => none, (Heap.Ns1.of_empty e3).at fun o q => Heap.get?_push_of_some _ q, fun _ => True.intro, fun y hy => absurd rfl hy⟩

/-- e.f where nothing but the object is asked: through attributeBase (super) and the last hold -/
theorem attr_of {prog : Program} {w : World} {env : Env} {e : Expr} {f : Str} {pos : Pos} {s : Shared} {Q : Value → Shared → Prop} (hb : attributeBase e f env (eval e env) = eval e env)
    (h : wpAny (model prog w) A (eval e env) (fun o s₁ => wpAny (model prog w) A (getAttr o f true) Q E s₁) E s) : wpAny (model prog w) A (eval (.Attribute e f pos) env) Q E s :=
  Attribute_any_ h (by rw [arm_eval_Attribute, hb])
end

/-! ### readings and rules -/
/-- e.f, an attribute of the instance -/
def tFld (K : PySem.W.Frag) (ta : TE) (f : Str) : TE := fun σ H Q => ta σ H fun x H1 => ∃ a C dx fs v, x = .ref a ∧ H1 a = some (.ins C dx fs) ∧ Cls K C ∧ NoAttr K C f ∧ fs.lookup f = some v ∧ Q v H1
/-- e.f = value -/
def sFld (K : PySem.W.Frag) (ta tv : TE) (f : Str) : TS := fun D σ H => tv σ H fun y H1 => ta σ H1 fun x H2 => ∃ a C dx fs, x = .ref a ∧ H2 a = some (.ins C dx fs) ∧ Cls K C ∧ NoAttr K C f ∧ fs.length < 1000 ∧
  D.nx σ (upd H2 a (.ins C dx (putF f y fs)))
section
variable {X : Cx} {o e value : Expr} {f : Str} {pos pos' tpos : Pos} {ta tv : TE}
theorem pe_fld (he : PE X e ta) (hb : attributeBase e f X.env (eval e X.env) = eval e X.env) : PE X (.Attribute e f pos) (tFld X.K ta f) := by
  intro pins s σ H Q I h
  refine attr_of hb (thn (he pins s σ H _ I h) fun u s1 ⟨x, H1, I1, rx, a, C, dx, fs, v, ex, ea, c, n, l, q⟩ => ?_)
  subst ex
  obtain rfl : u = Value.ref a := rx
  exact getattr_ok I1 ea c n l fun u' s2 I2 ru => ⟨v, H1, I2, ru, q⟩
theorem ps_fld (ha : PE X o ta) (hv : PE X value tv) (hs : swapsWith value (some (.Attribute o f pos')) pos.line X.env = pure false) : PS X (.Assign [.Attribute o f pos'] value pos) (sFld X.K ta tv f) := by
  intro pins s σ H D I h
  refine plainObj_wpAny_Assign_Attribute (thn (hv pins s σ H _ I h) fun u s1 ⟨y, H1, I1, ry, q⟩ => thn (ha pins s1 σ H1 _ I1 q) fun ov s2 ⟨x, H2, I2, rx, a, C, dx, fs, ex, ea, c, n, l, q2⟩ => ?_) hs
  subst ex
  obtain rfl : ov = Value.ref a := rx
  exact setattr_ok I2 ea c n l ry fun s3 I3 => ⟨σ, _, I3, q2⟩
end

/-! ### isinstance -/
section
variable {X : Cx} {pins : List (Addr × Obj)} {σ : St} {H : Hp} {s : Shared} {A : Around} {E : Value → Shared → Prop} {Q : Value → Shared → Prop} {c : Value} {b : Bool}
/-- the type of a value, as the fragment's deciders take it; for an instance its class -/
inductive TyOf (K : PySem.W.Frag) (H : Hp) : V → Value → Prop where
  | non : TyOf K H .non (.type "NoneType")
  | bl (x : Bool) : TyOf K H (.bl x) (.type "bool")
  | int (i : Int) : TyOf K H (.int i) (.type "int")
  | str (x : Str) : TyOf K H (.str x) (.type "str")
  | flt (x : UInt64) : TyOf K H (.flt x) (.type "float")
  | lst {a : Addr} {xs : List V} (e : H a = some (.lst xs)) : TyOf K H (.ref a) (.type "list")
  | frz {a : Addr} {o : Obj} {xs : List V} (e : H a = some (.frz o (.lst xs))) : TyOf K H (.ref a) (.type "list")
  | tup {a : Addr} {xs : List V} (e : H a = some (.tup xs)) : TyOf K H (.ref a) (.type "tuple")
  | dK {a : Addr} {kvs : List (Key × V)} (e : H a = some (.dK kvs)) : TyOf K H (.ref a) (.type "dict")
  | dT {a : Addr} {kvs : List (List Key × V)} (e : H a = some (.dT kvs)) : TyOf K H (.ref a) (.type "dict")
  | ins {a C dx : Addr} {fs : List (Str × V)} (e : H a = some (.ins C dx fs)) (cl : Cls K C) (ha : PySem.W.findIn K (.ref C) "__class__" = some (some (.builtin "object.__class__")))
      (hn : PySem.W.specialIn K (.builtin "object.__class__") "__get__" = some (some (.builtin "getset_descriptor.__get__"))) (htk : PySem.W.takesIn K (.builtin "object.__class__") = some true)
      (hm : PySem.W.mroIn K C (.type "object") = some true) : TyOf K H (.ref a) (.ref C)
end
end L2

namespace L2
open PySem PySem.Spec PyProof.Rows

/-! ### room -/
structure Room (k : Nat) (A : Around) : Prop where
  hd : A.handled = none
  dp : A.depth + 3 * k + 5 < recursionLimit
  un : A.units + 16 * k + 200 < cLine
theorem Room.mono {j k : Nat} {A : Around} (r : Room k A) (h : j ≤ k) : Room j A := ⟨r.hd, by have := r.dp; omega, by have := r.un; omega⟩
theorem Room.deeper {k : Nat} {A : Around} (r : Room (k + 1) A) (env : Env) : Room k (A.deeper env) :=
  ⟨r.hd, by have := r.dp; show A.depth + 1 + 3 * k + 5 < _; omega, by have := r.un; show A.units + 3 + 16 * k + 200 < _; omega⟩
theorem Room.in1 {k : Nat} {A : Around} (r : Room (k + 1) A) : Room k A.in1 :=
  ⟨r.hd, by have := r.dp; show A.depth + 3 * k + 5 < _; omega, by have := r.un; show A.units + 1 + 16 * k + 200 < _; omega⟩
theorem make_depth {A : Around} {C : Addr} {us : List Value} {kw : List (Str × Value)} : (A.under (.builtin "type.__call__" ⟨.ref C :: us, kw⟩)).depth = A.depth + 1 := by
  first | rfl | simp [Around.under, Code.weight, Code.isCreation, Code.isGuard, Code.isCaller, Code.frames, Code.isFrame, guardIds]
theorem make_units {A : Around} {C : Addr} {us : List Value} {kw : List (Str × Value)} : (A.under (.builtin "type.__call__" ⟨.ref C :: us, kw⟩)).units = A.units + 1 := by
  first | rfl | simp [Around.under, Code.cUnits, Code.frames, Code.isFrame]
theorem Room.make {k : Nat} {A : Around} (r : Room (k + 1) A) (C : Addr) (us : List Value) (kw : List (Str × Value)) : Room k (A.under (.builtin "type.__call__" ⟨.ref C :: us, kw⟩)) :=
  ⟨r.hd, by have := r.dp; rw [make_depth]; omega, by have := r.un; rw [make_units]; omega⟩
theorem Room.depth {k : Nat} {A : Around} (r : Room k A) : A.depth < recursionLimit := by have := r.dp; omega
theorem Room.units {k : Nat} {A : Around} (r : Room k A) : A.units + 64 < cLine := by have := r.un; omega
/-! ### argument lists and displays -/
def tNil : TA := fun _ H Q => Q [] H
def tCons (ta : TE) (tr : TA) : TA := fun σ H Q => ta σ H fun x H1 => tr σ H1 fun xs H2 => Q (x :: xs) H2
section
variable {X : Cx} {e : Expr} {es : List Expr} {te : TE} {t : TA} {pos : Pos}
theorem pa_nil : PA X [] tNil := fun _ _ _ _ H Q I h => Calls.spliced_nil ⟨[], H, I, .nil, h⟩
theorem pa_cons (ha : PE X e te) (hr : PA X es t) (hs : starEach (e :: es) X.env = (false, eval e X.env) :: starEach es X.env := by rfl) : PA X (e :: es) (tCons te t) := by
  intro pos pins s σ H Q I h
  rw [hs]
  show wpAny _ _ (spliced ((false, eval e X.env) :: backTo pos (starEach es X.env))) _ _ s
  refine Calls.spliced_cons (thn (ha pins s σ H _ I h) fun u s1 ⟨x, H1, I1, r1, q1⟩ => ?_)
  exact thn (hr pos pins s1 σ H1 _ I1 q1) fun us s2 ⟨xs, H2, I2, r2, q2⟩ => ⟨x :: xs, H2, I2, .cons r1 r2, q2⟩

/-- a tuple, a list of written items -/
def tTup (t : TA) : TE := fun σ H Q => t σ H fun xs H1 => xs.length ≤ sizeLine ∧ ∀ p, H1 p = none → Q (.ref p) (upd H1 p (.tup xs))
def tLst (t : TA) : TE := fun σ H Q => t σ H fun xs H1 => xs.length ≤ sizeLine ∧ ∀ p, H1 p = none → Q (.ref p) (upd H1 p (.lst xs))
theorem pe_tup {x1} (h : PA X es t) : PE X (.Tuple es x1 pos) (tTup t) := by
  intro pins s σ H Q I hq
  refine wpAny_Tuple_spliced (thn (h pos pins s σ H _ I hq) fun us s1 ⟨xs, H1, I1, r, z, q⟩ => ⟨by rw [← r.length]; exact z, ?_⟩)
  have hf : H1 s1.heap.objs.size = none := I1.hok.fresh (Nat.le_refl _)
  refine ⟨.ref s1.heap.objs.size, upd H1 s1.heap.objs.size (.tup xs), I1.laid (t' := s1.toks) (fun b u e => Heap.get?_push_of_some _ e) (Nat.le_refl _) ?_, rfl, q _ hf⟩
  exact ⟨z, us, r, ⟨_, Heap.get?_push_size _ rfl, rfl, _, rfl⟩⟩
theorem pe_lst (h : PA X es t) : PE X (.List es pos) (tLst t) := by
  intro pins s σ H Q I hq
  refine wpAny_List_spliced (thn (h pos pins s σ H _ I hq) fun us s1 ⟨xs, H1, I1, r, z, q⟩ => ⟨by rw [← r.length]; exact z, ?_⟩)
  have hf : H1 s1.heap.objs.size = none := I1.hok.fresh (Nat.le_refl _)
  refine ⟨.ref s1.heap.objs.size, upd H1 s1.heap.objs.size (.lst xs), I1.laid (t' := s1.toks) (fun b u e => Heap.get?_push_of_some _ e) (Nat.le_refl _) ?_, rfl, q _ hf⟩
  exact ⟨z, us, 0, r, Heap.get?_push_size _ rfl⟩
end

/-! ### what a def promises -/
/-- a def's promise: the bound arguments in the parameters' order, the heap, the wanted end, the wanted exception -/
abbrev Sp := List V → Hp → VK → XK → Prop
/-- how an exception lies behind a call (file 08 gives it): the callers' frames, abstract heap and state ahead of the call, the wish, the exception, the state -/
abbrev CXT := List Env → Hp → Shared → XK → Value → Shared → Prop

/-- the state at a call -/
structure Env0 (P : Program) (w : World) (K : PySem.W.Frag) (mg : Str → Option Value) (base : Heap) (A : Around) (outer : List Env) (s : Shared) (H : Hp) : Prop where
  frames : A.frames = some outer
  mod : Mod K mg base
  bs : ∀ b o, base.get? b = some o → s.heap.get? b = some o ∧ H b = none
  bsz : base.objs.size ≤ s.heap.objs.size
  funs : s.heap.FunFrames base outer
  frf : ∀ b ∈ frs outer, H b = none
  hok : HOk P w H s.heap
  bare : AllBare s.gens
/-- a call's end -/
def CE (outer : List Env) (P : Program) (w : World) (H : Hp) (s : Shared) (Q : VK) (u : Value) (s' : Shared) : Prop :=
  ∃ v H', s'.os = s.os ∧ AllBare s'.gens ∧ Un (frs outer) [] H H' s.heap s'.heap ∧ HOk P w H' s'.heap ∧ RelV v u ∧ Q v H'
def CR (CX : CXT) (outer : List Env) (P : Program) (w : World) (H : Hp) (s : Shared) (Q : VK) (E : XK) (r : Result) (s' : Shared) : Prop :=
  match r with
  | .ok (.ret u) => CE outer P w H s Q u s'
  | .ok _ => False
  | .error e => CX outer H s E e s'
structure FnOk (P : Program) (w : World) (K : PySem.W.Frag) (mg : Str → Option Value) (base : Heap) (CX : CXT) (k : Nat) (f : Addr) (fd : FuncData) (ps : List Str) (sp : Sp) : Prop where
  len : ∀ vs H Q E, sp vs H Q E → vs.length = ps.length
  run : ∀ (A : Around) (outer : List Env) (s : Shared) (H : Hp) (args : Args) (us : List Value) (vs : List V) (Q : VK) (E : XK), Room k A → Env0 P w K mg base A outer s H → BindsTo s fd args (ps.zip us) → Vals vs us → sp vs H Q E →
    codeAny (model P w) A (.call (.ref f) args) (CR CX outer P w H s Q E) s
theorem FnOk.mono {P : Program} {w : World} {K : PySem.W.Frag} {mg : Str → Option Value} {base : Heap} {CX : CXT} {j k : Nat} {f : Addr} {fd : FuncData} {ps : List Str} {sp : Sp} (F : FnOk P w K mg base CX j f fd ps sp) (h : j ≤ k) :
    FnOk P w K mg base CX k f fd ps sp := ⟨F.len, fun A outer s H args us vs Q E hr => F.run A outer s H args us vs Q E (hr.mono h)⟩
/-- a weaker promise -/
theorem FnOk.imp {P : Program} {w : World} {K : PySem.W.Frag} {mg : Str → Option Value} {base : Heap} {CX : CXT} {k : Nat} {f : Addr} {fd : FuncData} {ps : List Str} {sp sp' : Sp} (F : FnOk P w K mg base CX k f fd ps sp)
    (h : ∀ vs H Q E, sp' vs H Q E → sp vs H Q E) : FnOk P w K mg base CX k f fd ps sp' :=
  ⟨fun vs H Q E q => F.len vs H Q E (h _ _ _ _ q), fun A outer s H args us vs Q E hr he hb hv hs => F.run A outer s H args us vs Q E hr he hb hv (h _ _ _ _ hs)⟩

theorem Env0.make {P : Program} {w : World} {K : PySem.W.Frag} {mg : Str → Option Value} {base : Heap} {A : Around} {outer : List Env} {s : Shared} {H : Hp} (e : Env0 P w K mg base A outer s H) (C : Addr) (us : List Value) (kw : List (Str × Value)) :
    Env0 P w K mg base (A.under (.builtin "type.__call__" ⟨.ref C :: us, kw⟩)) outer s H := ⟨by first | exact e.frames | (simpa [Around.under, Code.envs, Code.isFrame, pushEnvs] using e.frames), e.mod, e.bs, e.bsz, e.funs, e.frf, e.hok, e.bare⟩
theorem Env0.in1 {P : Program} {w : World} {K : PySem.W.Frag} {mg : Str → Option Value} {base : Heap} {A : Around} {outer : List Env} {s : Shared} {H : Hp} (e : Env0 P w K mg base A outer s H) :
    Env0 P w K mg base A.in1 outer s H := ⟨e.frames, e.mod, e.bs, e.bsz, e.funs, e.frf, e.hok, e.bare⟩

section
variable {X : Cx} {pins : List (Addr × Obj)} {σ : St} {H : Hp} {s s' : Shared}
/-- from a body: what a callee wants -/
theorem Inv.env0 (I : Inv X pins σ H s) : Env0 X.prog X.w X.K X.mg X.base X.A X.stack s H :=
  ⟨I.ok.frames, I.ok.mod, I.bs, Nat.le_trans I.ok.bsz I.sz, I.stack, I.stkFree, I.hok, I.bare⟩
/-- behind a call -/
theorem Inv.after {Q : VK} {u : Value} (I : Inv X pins σ H s) (h : CE X.stack X.prog X.w H s Q u s') : EP X pins σ Q u s' := by
  obtain ⟨v, H', os, bare, un, hok, r, q⟩ := h
  obtain ⟨hh, g, d, t, os'⟩ := s'
  obtain rfl : os' = s.os := os
  exact ⟨v, H', I.call (h' := hh) (g' := g) (d' := d) (t' := t) (ch := []) un hok bare (fun b z => absurd z (by simp)), r, q⟩
end

/-! ### calls -/
/-- f(..): the written arguments, then the defaults dvs; E: what is wanted of an exception -/
def tCall (sp : Sp) (dvs : List V) (E : XK) (t : TA) : TE := fun σ H Q => t σ H fun vs H1 => sp (vs ++ dvs) H1 Q E
/-- o.m(..) of an instance of the class at C -/
def tMeth (C : Addr) (m : Str) (sp : Sp) (dvs : List V) (E : XK) (ta : TE) (t : TA) : TE := fun σ H Q => ta σ H fun x H1 => ∃ a dx fs, x = .ref a ∧ H1 a = some (.ins C dx fs) ∧ fs.lookup m = none ∧
  t σ H1 fun vs H2 => sp (x :: (vs ++ dvs)) H2 Q E
/-- C(..): a new instance and its dict, then __init__ -/
def tMake (C : Addr) (sp : Sp) (dvs : List V) (E : XK) (t : TA) : TE := fun σ H Q => t σ H fun vs H1 => ∀ x dx, H1 x = none → H1 dx = none → dx ≠ x →
  sp (.ref x :: (vs ++ dvs)) (upd (upd H1 dx (.own x)) x (.ins C dx [])) (fun v H2 => v = .non ∧ Q (.ref x) H2) E

/-- how the parameters are bound: us the positional arguments, kw the keywords' values by name, ds the defaults that fill up -/
def Binds (K : PySem.W.Frag) (fd : FuncData) (ps : List Str) (ds : List Value) : Prop :=
  ∀ (s : Shared) (us : List Value), K.In s.heap → (us ++ ds).length = ps.length → BindsTo s fd ⟨us, []⟩ (ps.zip (us ++ ds))
/-- every parameter is given -/
theorem Binds.all {K : PySem.W.Frag} {fd : FuncData} {ps : List Str} (h : ∀ us : List Value, us.length = ps.length → bindArgs fd ⟨us, []⟩ = pure (ps.zip us)) : Binds K fd ps [] := fun s us _ hl => by
  rw [List.append_nil] at hl ⊢
  exact .of_eq (h us hl)

/-- an exception of a callee reaches what this body wants of exceptions -/
def Passes (CX : CXT) (X : Cx) (E : XK) : Prop := ∀ (pins : List (Addr × Obj)) (σ : St) (H : Hp) (s : Shared) (e : Value) (s' : Shared), Inv X pins σ H s → CX X.stack H s E e s' → X.xe e s'

section
variable {X : Cx} {CX : CXT} {k : Nat} {f C : Addr} {fd : FuncData} {ps : List Str} {sp : Sp} {dvs : List V} {ds : List Value} {E : XK} {x m : Str} {p pos apos : Pos} {e o : Expr} {es : List Expr} {ta : TE} {t : TA}

/-- the callee runs -/
theorem run_fn {pins : List (Addr × Obj)} {σ : St} {H : Hp} {s : Shared} {Q : VK} {us : List Value} {vs : List V} (F : FnOk X.prog X.w X.K X.mg X.base CX k f fd ps sp) (hr : Room k X.A) (hb : Binds X.K fd ps ds) (hd : Vals dvs ds) (hx : Passes CX X E)
    (I : Inv X pins σ H s) (r : Vals vs us) (h : sp (vs ++ dvs) H Q E) : wpAny (model X.prog X.w) X.A (call (.ref f) us) (EP X pins σ Q) X.xe s := by
  have r2 : Vals (vs ++ dvs) (us ++ ds) := r.append hd
  have hl : (us ++ ds).length = ps.length := by rw [← r2.length]; exact F.len _ _ _ _ h
  refine wpAny_call (codeAny_mono (F.run X.A X.stack s H ⟨us, []⟩ (us ++ ds) (vs ++ dvs) Q E hr I.env0 (hb s us I.kIn hl) r2 h) fun r s' hq => ?_)
  cases r with
  | error e => exact hx pins σ H s e s' I hq
  | ok fl =>
    cases fl with
    | ret u => exact I.after hq
    | next => exact False.elim hq
    | brk => exact False.elim hq
    | cont => exact False.elim hq

theorem pe_call (F : FnOk X.prog X.w X.K X.mg X.base CX k f fd ps sp) (hr : Room k X.A) (hg : Gl X x) (hm : X.mg x = some (.ref f)) (hk : PySem.W.keepIn X.K (.ref f) = true) (hb : Binds X.K fd ps ds) (hd : Vals dvs ds) (hx : Passes CX X E)
    (ha : PA X (e :: es) t) (hdb : (x == ("__debug__" : Str)) = false := by decide) (he : starEach (e :: es) X.env = (false, eval e X.env) :: starEach es X.env := by rfl) (hpl : (backTo pos (starEach es X.env)).any (·.1) = false := by rfl) :
    PE X (.Call (.Name x p) (e :: es) [] pos) (tCall sp dvs E t) := by
  intro pins s σ H Q I h
  refine wpAny_Call_Name_kw (ld_glob I hg hm ?_ hdb)
  refine PySem.W.callWith_K (h₀ := X.base) I.ok.mod.kin hk (thn (ha pos pins s σ H _ I h) fun us s1 ⟨vs, H1, I1, r, q⟩ => ⟨I1.kIn, ?_⟩) he hpl
  exact run_fn F hr hb hd hx I1 r q
/-- o.m(e, ..) -/
theorem pe_meth {pl : Sem Bool} (he : PE X o ta) (c : Cls X.K C) (hm : Meth X.K C m f) (F : FnOk X.prog X.w X.K X.mg X.base CX k f fd ps sp) (hr : Room k X.A) (hb : Binds X.K fd ps ds) (hd : Vals dvs ds) (hx : Passes CX X E) (ha : PA X (e :: es) t)
    (hst : starEach (e :: es) X.env = (false, eval e X.env) :: starEach es X.env := by rfl) (hpl : (backTo pos (starEach es X.env)).any (·.1) = false := by rfl)
    (ht : eval (.Call (.Attribute o m apos) (e :: es) [] pos) X.env = (do
      let ov ← eval o X.env
      standAt apos.atName
      let (f, first) ← holding [ov] (getMethod ov m pl)
      callWith pos f first (backTo pos (starEach (e :: es) X.env)) (backToKw pos (keywordEach [] X.env))) := by rfl) :
    PE X (.Call (.Attribute o m apos) (e :: es) [] pos) (tMeth C m sp dvs E ta t) := by
  intro pins s σ H Q I h
  refine PySem.W.methodCall_KW (pl := pl) (thn (he pins s σ H _ I h) fun u s1 ⟨x, H1, I1, rx, a, dx, fs, ex, ea, l, q⟩ => ?_) ht
  subst ex
  obtain rfl : u = Value.ref a := rx
  refine getmeth_ok I1 ea c hm l ?_
  refine PySem.W.callWith_K (first := [.ref a]) (h₀ := X.base) I.ok.mod.kin hm.kp (thn (ha pos pins s1 σ H1 _ I1 q) fun us s2 ⟨vs, H2, I2, r, q2⟩ => ⟨I2.kIn, ?_⟩) hst hpl
  exact run_fn (us := .ref a :: us) (vs := .ref a :: vs) F hr hb hd hx I2 (.cons rfl r) q2
/-- what a class must have to be made -/
structure Mk (K : PySem.W.Frag) (C f : Addr) : Prop where
  makes : PySem.W.makesIn K C = true
  init : PySem.W.findIn K (.ref C) "__init__" = some (some (.ref f))
  fn : PySem.W.isFn K (.ref f) = true
  kp : PySem.W.keepIn K (.ref C) = true

theorem run_make {pins : List (Addr × Obj)} {σ : St} {H : Hp} {s : Shared} {Q : VK} {us : List Value} {vs : List V} (M : Mk X.K C f) (F : FnOk X.prog X.w X.K X.mg X.base CX k f fd ps sp) (hr : Room (k + 1) X.A) (hb : Binds X.K fd ps ds) (hd : Vals dvs ds)
    (hx : Passes CX X E) (I : Inv X pins σ H s) (r : Vals vs us)
    (h : ∀ x dx, H x = none → H dx = none → dx ≠ x → sp (.ref x :: (vs ++ dvs)) (upd (upd H dx (.own x)) x (.ins C dx [])) (fun v H2 => v = .non ∧ Q (.ref x) H2) E) :
    wpAny (model X.prog X.w) X.A (call (.ref C) us) (EP X pins σ Q) X.xe s := by
  have hq := h (s.heap.objs.size + 1) s.heap.objs.size (I.hok.fresh (Nat.le_succ _)) (I.hok.fresh (Nat.le_refl _)) (Nat.ne_of_lt (Nat.lt_succ_self _))
  have I2 := Inv.made (C := C) I
  have r2 : Vals (V.ref (s.heap.objs.size + 1) :: (vs ++ dvs)) (Value.ref (s.heap.objs.size + 1) :: (us ++ ds)) := .cons rfl (r.append hd)
  have hl : (Value.ref (s.heap.objs.size + 1) :: us ++ ds).length = ps.length := by
    have e := r2.length
    rw [F.len _ _ _ _ hq] at e
    exact e.symm
  refine wpAny_call (make_map (f := f) I.kIn M.makes M.init (beq_iff_eq.mp M.fn) (codeAny_mono (F.run _ X.stack _ _ ⟨Value.ref (s.heap.objs.size + 1) :: us, []⟩ (Value.ref (s.heap.objs.size + 1) :: (us ++ ds)) _ _ E (hr.make C us [])
    (I2.env0.make C us []) (hb _ (Value.ref (s.heap.objs.size + 1) :: us) I2.kIn hl) r2 hq) fun r s' hq' => ?_))
  cases r with
  | error e => exact hx pins σ _ _ e s' I2 hq'
  | ok fl =>
    cases fl with
    | ret u =>
      obtain ⟨v, H', I3, rv, ev, q3⟩ := I2.after hq'
      subst ev
      exact ⟨rv, ⟨V.ref (s.heap.objs.size + 1), H', I3, rfl, q3⟩⟩
    | next => exact False.elim hq'
    | brk => exact False.elim hq'
    | cont => exact False.elim hq'
theorem pe_make (M : Mk X.K C f) (F : FnOk X.prog X.w X.K X.mg X.base CX k f fd ps sp) (hr : Room (k + 1) X.A) (hg : Gl X x) (hm : X.mg x = some (.ref C)) (hb : Binds X.K fd ps ds) (hd : Vals dvs ds) (hx : Passes CX X E)
    (ha : PA X (e :: es) t) (hdb : (x == ("__debug__" : Str)) = false := by decide) (he : starEach (e :: es) X.env = (false, eval e X.env) :: starEach es X.env := by rfl) (hpl : (backTo pos (starEach es X.env)).any (·.1) = false := by rfl) :
    PE X (.Call (.Name x p) (e :: es) [] pos) (tMake C sp dvs E t) := by
  intro pins s σ H Q I h
  refine wpAny_Call_Name_kw (ld_glob I hg hm ?_ hdb)
  refine PySem.W.callWith_K (h₀ := X.base) I.ok.mod.kin M.kp (thn (ha pos pins s σ H _ I h) fun us s1 ⟨vs, H1, I1, r, q⟩ => ⟨I1.kIn, ?_⟩) he hpl
  exact run_make M F hr hb hd hx I1 r q
end

/-! ### keywords -/
section
variable {X : Cx} {CX : CXT} {k : Nat} {f C : Addr} {fd : FuncData} {ps ks : List Str} {sp : Sp} {E : XK} {x m : Str} {p pos apos kpos : Pos} {e o : Expr} {es : List Expr} {kws : List Keyword} {te ta : TE} {t tk : TA} {nm : Option Str}
/-- how a call with keywords binds: g puts the positional values us and the keywords' values ws (names ks) in the parameters' order, defaults among them -/
structure KBinds (K : PySem.W.Frag) (fd : FuncData) (ps ks : List Str) (g : List Value → List Value → List Value) (gV : List V → List V → List V) : Prop where
  to : ∀ (s : Shared) (us ws : List Value), K.In s.heap → (g us ws).length = ps.length → BindsTo s fd ⟨us, ks.zip ws⟩ (ps.zip (g us ws))
  rel : ∀ {vs : List V} {us : List Value} {zs : List V} {ws : List Value}, Vals vs us → Vals zs ws → Vals (gV vs zs) (g us ws)
variable {g : List Value → List Value → List Value} {gV : List V → List V → List V}
end

/-! ### a def's body keeps its promise -/
/-- names: the parameters first -/
structure FnScope (N P : List Str) (sc : Scope) : Prop where
  kind : sc.kind = .function
  co : sc.isCoroutine = false
  gen : sc.isGenerator = false
  nd : N.Nodup
  pre : N.take P.length = P
  par : ∀ x ∈ P, sc.names.lookup x = some .local ∨ sc.names.lookup x = some .cell
  nofree : ∀ y ∈ sc.names, y.2 ≠ .free

theorem bindL_out {kindOf : Str → Option NameKind} {x : Str} : ∀ {binds : List (Str × Value)} {m : Str → Option Value}, (∀ v, (x, v) ∉ binds) → bindL kindOf binds m x = m x
  | [], _, _ => rfl
  | (n, v) :: r, m, h => by
    unfold bindL
    rw [bindL_out fun w hw => h w (List.mem_cons_of_mem _ hw)]
    split
    · have : x ≠ n := by rintro rfl; exact h v List.mem_cons_self
      simp [this]
    · rfl
theorem bindC_out {kindOf : Str → Option NameKind} {x : Str} : ∀ {binds : List (Str × Value)} {m : Str → Option Value}, (∀ v, (x, v) ∉ binds) → bindC kindOf binds m x = m x
  | [], _, _ => rfl
  | (n, v) :: r, m, h => by
    unfold bindC
    rw [bindC_out fun w hw => h w (List.mem_cons_of_mem _ hw)]
    split
    · rfl
    · have : x ≠ n := by rintro rfl; exact h v List.mem_cons_self
      simp [this]
theorem bindL_get {kindOf : Str → Option NameKind} {x : Str} {v : Value} : ∀ {P : List Str} {vs : List Value} {i : Nat} {m : Str → Option Value}, P.Nodup → P[i]? = some x → vs[i]? = some v → kindOf x = some .local →
    bindL kindOf (P.zip vs) m x = some v
  | [], _, _, _, _, h, _, _ => by simp at h
  | _ :: _, [], _, _, _, _, h, _ => by simp at h
  | p :: P, w :: vs, 0, m, nd, h1, h2, hk => by
    simp at h1 h2; subst h1; subst h2
    show bindL kindOf ((p, w) :: P.zip vs) m p = _
    unfold bindL
    rw [bindL_out fun v hv => (List.nodup_cons.mp nd).1 (List.of_mem_zip hv).1, if_pos hk]
    simp
  | p :: P, w :: vs, i + 1, m, nd, h1, h2, hk => by
    show bindL kindOf ((p, w) :: P.zip vs) m x = _
    unfold bindL
    exact bindL_get (i := i) (List.nodup_cons.mp nd).2 (by simpa using h1) (by simpa using h2) hk
theorem bindC_get {kindOf : Str → Option NameKind} {x : Str} {v : Value} : ∀ {P : List Str} {vs : List Value} {i : Nat} {m : Str → Option Value}, P.Nodup → P[i]? = some x → vs[i]? = some v → kindOf x ≠ some .local →
    bindC kindOf (P.zip vs) m x = some v
  | [], _, _, _, _, h, _, _ => by simp at h
  | _ :: _, [], _, _, _, _, h, _ => by simp at h
  | p :: P, w :: vs, 0, m, nd, h1, h2, hk => by
    simp at h1 h2; subst h1; subst h2
    show bindC kindOf ((p, w) :: P.zip vs) m p = _
    unfold bindC
    rw [bindC_out fun v hv => (List.nodup_cons.mp nd).1 (List.of_mem_zip hv).1, if_neg hk]
    simp
  | p :: P, w :: vs, i + 1, m, nd, h1, h2, hk => by
    show bindC kindOf ((p, w) :: P.zip vs) m x = _
    unfold bindC
    exact bindC_get (i := i) (List.nodup_cons.mp nd).2 (by simpa using h1) (by simpa using h2) hk

/-- the names' values at the entry -/
def start (N : List Str) (vs : List V) : St := vs.map some ++ List.replicate (N.length - vs.length) none

/-- the context of a def's body, at its entry; an exception leaves the frame, then lies as CX says -/
def cxOf (CX : CXT) (P : Program) (w : World) (K : PySem.W.Frag) (mg : Str → Option Value) (base : Heap) (N : List Str) (qual : Str) (scope : Scope) (f : Addr) (cd : Value) (A : Around) (outer : List Env) (s : Shared) (H : Hp) (E : XK) : Cx where
  prog := P
  w := w
  K := K
  mg := mg
  base := base
  A := A.deeper (envOfC qual scope s.heap.objs.size f cd)
  N := N
  s₀ := s
  H₀ := H
  env := envOfC qual scope s.heap.objs.size f cd
  outer := outer
  stack := envOfC qual scope s.heap.objs.size f cd :: outer
  ex := []
  calm := true
  fn := fun _ => true
  pn := []
  xe := fun e s' => wpAny (model P w) (A.deeper (envOfC qual scope s.heap.objs.size f cd)) (leaving (envOfC qual scope s.heap.objs.size f cd) e) (fun _ s'' => CX outer H s E e s'') (fun e' s'' => CX outer H s E e' s'') s'

theorem cell_has {sc : Scope} {n : Nat} {x : Str} (h : sc.names.lookup x = some .cell) : ∃ c, (cellsFrom n sc.names []).lookup x = some c := by
  have q := PySem.W.cellsFrom_some sc.names n [] (.inl h)
  exact Option.isSome_iff_exists.mp q

theorem inv_start {CX : CXT} {P : Program} {w : World} {K : PySem.W.Frag} {mg : Str → Option Value} {base : Heap} {N ps : List Str} {qual : Str} {scope : Scope} {f : Addr} {cd : Value} {A : Around} {outer : List Env} {s s1 : Shared} {H : Hp} {E : XK} {us : List Value} {vs : List V}
    (S : FnScope N ps scope) (hd : A.handled = none) (e0 : Env0 P w K mg base A outer s H) (hl : vs.length = ps.length) (r : Vals vs us)
    (x : InCallC s s.heap.objs.size (bindL (envOfC qual scope s.heap.objs.size f cd).kindOf (ps.zip us) fun _ => none) (cellsFrom (s.heap.objs.size + 1) scope.names []) (bindC (envOfC qual scope s.heap.objs.size f cd).kindOf (ps.zip us) fun _ => none) s1) :
    Inv (cxOf CX P w K mg base N qual scope f cd A outer s H E) [] (start N vs) H s1 := by
  have hpl : ps.length ≤ N.length := by have := congrArg List.length S.pre; rw [List.length_take] at this; omega
  obtain ⟨h1, tk, rfl, hk⟩ := x.done
  have noA : ∀ b : Addr, b ∉ (cxOf CX P w K mg base N qual scope f cd A outer s H E).ex := fun b z => absurd (show b ∈ ([] : List Addr) from z) (by simp)
  refine ⟨⟨e0.mod, S.kind, rfl, rfl, Nat.le_refl _, fun y z c h1 h2 => ?_, fun y hy => ?_, fun y c _ h => ?_, fun _ => hd, Around.frames_deeper e0.frames, .inr ⟨rfl, rfl⟩, fun b z => absurd z (noA b), e0.bs, e0.bsz, fun b _ _ => noA b, fun b z => absurd z (noA b), e0.funs, e0.frf⟩,
    rfl, e0.bare, Un.kept hk, ⟨_, x.toInCall.ns, fun i y v h1 h2 h3 => ?_⟩, fun y c h => ⟨_, x.cell y c h⟩, e0.hok.fresh (Nat.le_refl _), fun y c h => ?_, fun p hp => absurd (show p ∈ ([] : List (Addr × Obj)) from hp) (by simp), e0.hok.kept hk, ?_⟩
  · exact name_of_addr x.apart (PySem.mem_of_lookup h1) (PySem.mem_of_lookup h2)
  · have hy : scope.names.lookup y = some .cell ∨ scope.names.lookup y = some .free := hy
    rcases hy with hy | hy
    · exact cell_has hy
    · exact absurd rfl (S.nofree _ (PySem.mem_of_lookup hy))
  · exact Nat.le_of_lt (x.above y c (PySem.mem_of_lookup h))
  · have hi : i < vs.length := by
      unfold start at h2
      by_cases hi : i < vs.length
      · exact hi
      · rw [List.getElem?_append_right (by simpa using hi)] at h2
        rw [List.getElem?_replicate] at h2
        split at h2 <;> cases h2
    have ha : vs[i]? = some v := by
      unfold start at h2
      rw [List.getElem?_append_left (by simpa using hi), List.getElem?_map] at h2
      cases e : vs[i]? with
      | none => rw [e] at h2; cases h2
      | some a => rw [e] at h2; cases h2; rfl
    obtain ⟨u, hu, rv⟩ := r.get ha
    have hp : ps[i]? = some y := by
      rw [← S.pre, List.getElem?_take_of_lt (by omega)]; exact h1
    have ndP : ps.Nodup := by rw [← S.pre]; exact S.nd.sublist (List.take_sublist _ _)
    refine ⟨u, rv, ?_⟩
    rcases S.par y (List.mem_of_getElem? hp) with k | k
    · exact .inl ⟨k, bindL_get ndP hp hu k⟩
    · obtain ⟨c, e⟩ := cell_has (n := s.heap.objs.size + 1) k
      refine .inr ⟨.inl k, c, e, ?_⟩
      have q := x.cell y c e
      rw [bindC_get ndP hp hu (by show scope.names.lookup y ≠ _; rw [k]; decide)] at q
      exact q
  · exact e0.hok.fresh (Nat.le_of_lt (x.above y c (PySem.mem_of_lookup h)))
  · unfold start
    show _ = N.length
    rw [List.length_append, List.length_map, List.length_replicate]
    omega

/-- THE RULE: a def (or a method) of the text, by its body. The body's reading t is chosen for each entry; it is run at the parameters' values -/
theorem fn_of {CX : CXT} {P : Program} {w : World} {K : PySem.W.Frag} {mg : Str → Option Value} {base : Heap} {k : Nat} {f : Addr} {name qual : Str} {params : Arguments} {body : List Stmt} {scope : Scope} {dV kV doc pm cdv ct oc : Value} {an od : Option Addr}
    {osl : Array (Option Value)} {N ps : List Str} {sp : Sp} (lk : K.lookup f = some ⟨oc, od, .func (PySem.W.fnOf name qual params body scope dV kV doc pm an cdv ct), osl⟩) (hcd : PySem.W.codeIn K cdv qual = true) (S : FnScope N ps scope)
    (len : ∀ vs H Q E, sp vs H Q E → vs.length = ps.length)
    (hbody : ∀ (A : Around) (outer : List Env) (s : Shared) (H : Hp) (vs : List V) (Q : VK) (E : XK), Room k (A.deeper (envOfC qual scope s.heap.objs.size f cdv)) → sp vs H Q E →
      ∃ t, PSs (cxOf CX P w K mg base N qual scope f cdv A outer s H E) body t ∧ t { nx := fun _ H' => Q .non H', rt := Q } (start N vs) H) :
    FnOk P w K mg base CX (k + 1) f (PySem.W.fnOf name qual params body scope dV kV doc pm an cdv ct) ps sp := by
  refine ⟨len, fun A outer s H args us vs Q E hr e0 hb r hsp => ?_⟩
  have hl := len _ _ _ _ hsp
  have KX : K.In s.heap := e0.mod.kin.keeps fun b o e => (e0.bs b o e).1
  have lim : s.heap.NoLimit := e0.mod.nolimit.keeps fun b o e => (e0.bs b o e).1
  have hkind : ∀ y ∈ ps.zip us, scope.names.lookup y.1 = some .local ∨ (scope.names.lookup y.1 = some .cell ∧ ((cellsFrom (s.heap.objs.size + 1) scope.names []).lookup y.1).isSome = true) := fun ⟨n, v⟩ hy => by
    rcases S.par n (List.of_mem_zip hy).1 with q | q
    · exact .inl q
    · exact .inr ⟨q, PySem.W.cellsFrom_some _ _ _ (.inl q)⟩
  refine codeAny_call_function hr.depth (KX _ _ lk) rfl S.co S.gen rfl (PySem.W.codeRec_of KX hcd) (hb _ _ _ _ ?_)
  refine wpAny_newFunctionEnv_cells S.kind hkind fun env he s1 x => ?_
  subst he
  refine ⟨lim.keeps x.toInCall.keep, codeAny_func ?_⟩
  obtain ⟨t, ht, hq⟩ := hbody A outer s H vs Q E (hr.deeper _) hsp
  have I : Inv (cxOf CX P w K mg base N qual scope f cdv A outer s H E) [] (start N vs) H s1 := inv_start S hr.hd e0 hl r x
  refine wpAny_mono (ht [] s1 (start N vs) H _ I hq) (fun fl s' hs => ?_) fun e s' hs => hs
  have fin : ∀ {σ' : St} {H' : Hp} {v : V} {u : Value}, Inv (cxOf CX P w K mg base N qual scope f cdv A outer s H E) [] σ' H' s' → RelV v u → Q v H' → CE outer P w H s Q u s' :=
    fun {σ' H' v u} J rv q => ⟨v, H', J.os, J.bare, J.base, J.hok, rv, q⟩
  cases fl with
  | ret u =>
    obtain ⟨v, σ', H', J, rv, q⟩ := hs
    exact fin J rv q
  | next =>
    obtain ⟨σ', H', J, q⟩ := hs
    exact fin (v := V.non) (u := Value.none) J rfl q
  | brk =>
    obtain ⟨_, _, _, q⟩ := hs
    exact False.elim q
  | cont =>
    obtain ⟨_, _, _, q⟩ := hs
    exact False.elim q
end L2

namespace L2
open PySem PySem.Spec PyProof.Rows
section
variable {X : Cx} {x : Str} {p pos : Pos} {e : Expr} {es : List Expr} {t : TA} {id T : String} {r : List V → Hp → VK → Prop}

def tCB (r : List V → Hp → VK → Prop) (t : TA) : TE := fun σ H Q => t σ H fun vs H1 => r vs H1 Q
/-- f(e, ..), f a built-in function -/
theorem pe_callB (hc : CallR X (.builtin id) r) (hg : Gl X x) (hm : X.mg x = none) (hv : bootBuiltins x = some (.builtin id)) (ha : PA X (e :: es) t) (hn : x ≠ "__name__" := by decide) (hdb : (x == ("__debug__" : Str)) = false := by decide)
    (he : starEach (e :: es) X.env = (false, eval e X.env) :: starEach es X.env := by rfl) (hpl : (backTo pos (starEach es X.env)).any (·.1) = false := by rfl) : PE X (.Call (.Name x p) (e :: es) [] pos) (tCB r t) := by
  intro pins s σ H Q I h
  refine wpAny_Call_Name_kw (ld_blt I hg hm hv ?_ hn hdb)
  exact PyProof.Rows.callWith_builtin1 (thn (ha pos pins s σ H _ I h) fun us s1 ⟨vs, H1, I1, r1, q1⟩ => hc pins s1 σ H1 vs us Q I1 r1 q1) he hpl
/-- T(e, ..), T a built-in type -/
theorem pe_callTy (hc : CallR X (.type T) r) (hg : Gl X x) (hm : X.mg x = none) (hv : bootBuiltins x = some (.type T)) (ha : PA X (e :: es) t) (hn : x ≠ "__name__" := by decide) (hdb : (x == ("__debug__" : Str)) = false := by decide)
    (he : starEach (e :: es) X.env = (false, eval e X.env) :: starEach es X.env := by rfl) (hpl : (backTo pos (starEach es X.env)).any (·.1) = false := by rfl) : PE X (.Call (.Name x p) (e :: es) [] pos) (tCB r t) := by
  intro pins s σ H Q I h
  refine wpAny_Call_Name_kw (ld_blt I hg hm hv ?_ hn hdb)
  exact PyProof.Rows.callWith_type1 (thn (ha pos pins s σ H _ I h) fun us s1 ⟨vs, H1, I1, r1, q1⟩ => hc pins s1 σ H1 vs us Q I1 r1 q1) he hpl
end
end L2

namespace HT
open PySem PyProof.Rows

section
open PySem.SeqAt
open PySem.AutoSeq1 (wpAny_loadPart')
open PySem.MeetsSeq PySem.MeetsSeq2 PySem.MeetsSeq3

end

section
variable {prog : Program} {w : World} {A : Around} {E : Value → Shared → Prop} {s : Shared}

/-! ### t[a:b], not the whole -/
/-- a slice's bound as a place among n (d where it is left out) -/
def sIx (n d : Nat) : Option Int → Nat
  | none => d
  | some v => if v < 0 then (v + (n : Int)).toNat else min v.toNat n
theorem sIx_none (n d : Nat) : sIx n d none = d := rfl
theorem sIx_nat (n d k : Nat) : sIx n d (some (k : Int)) = min k n := by
  show (if (k : Int) < 0 then ((k : Int) + (n : Int)).toNat else min (k : Int).toNat n) = min k n
  rw [if_neg (by omega), Int.toNat_natCast]
end
end HT

namespace L2
open PySem PySem.Spec PyProof.Rows

/-! ### the parts of a slice -/
abbrev TO := St → Hp → (Option Int → Hp → Prop) → Prop
/-- a slice's part (left out, or an int) -/
def PO (X : Cx) (e : Option Expr) (t : TO) : Prop :=
  ∀ (pins : List (Addr × Obj)) (s : Shared) (σ : St) (H : Hp) (Q : Option Int → Hp → Prop), Inv X pins σ H s → t σ H Q →
    wpAny (model X.prog X.w) X.A (evalPart e X.env) (fun u s' => ∃ o H', Inv X pins σ H' s' ∧ IsPart u o ∧ Q o H') X.xe s
def tNoPart : TO := fun _ H Q => Q none H
def tPart (t : TE) : TO := fun σ H Q => t σ H fun x H1 => ∃ i, x = .int i ∧ Q (some i) H1

section
variable {X : Cx} {e : Expr} {te : TE} {lo hi : Option Expr} {tl th : TO} {pos p2 : Pos}

theorem po_none : PO X none tNoPart := by
  intro pins s σ H Q I h
  rw [evalPart_none]
  exact wpAny_pure ⟨none, H, I, .none, h⟩
theorem po_some (h : PE X e te) : PO X (some e) (tPart te) := by
  intro pins s σ H Q I hw
  rw [evalPart_some]
  refine thn (h pins s σ H _ I hw) fun u s1 ⟨x, H1, I1, r1, q1⟩ => ?_
  obtain ⟨i, rfl, q⟩ := q1
  obtain ⟨t, rfl⟩ := r1
  exact ⟨some i, H1, I1, .int i t, q⟩

/-- what a slice of a value is, by values: the slice object stands at sl -/
def SlR (X : Cx) (r : V → Option Int → Option Int → Hp → VK → Prop) : Prop :=
  ∀ (pins : List (Addr × Obj)) (s : Shared) (σ : St) (H : Hp) (x : V) (v vl vu : Value) (lo hi : Option Int) (sl : Addr) (Q : VK), Inv X pins σ H s → RelV x v → s.heap.IsSliceOf sl vl vu .none → IsPart vl lo → IsPart vu hi → r x lo hi H Q →
    ∃ T id, typeLookup (.type T) "__getitem__" = pure (some (.builtin id)) ∧ s.TypeIs v T ∧ wpAny (model X.prog X.w) X.A (getItem v (.ref sl)) (EP X pins σ Q) X.xe s
theorem SlR.or {r r' : V → Option Int → Option Int → Hp → VK → Prop} (h : SlR X r) (h' : SlR X r') : SlR X (fun x lo hi H Q => r x lo hi H Q ∨ r' x lo hi H Q) := by
  intro pins s σ H x v vl vu lo hi sl Q I rx hs pl pu q
  rcases q with q | q
  · exact h pins s σ H x v vl vu lo hi sl Q I rx hs pl pu q
  · exact h' pins s σ H x v vl vu lo hi sl Q I rx hs pl pu q
def tSl (r : V → Option Int → Option Int → Hp → VK → Prop) (te : TE) (tl th : TO) : TE := fun σ H Q => te σ H fun x H1 => tl σ H1 fun l H2 => th σ H2 fun u H3 => r x l u H3 Q
/-- a[lo:hi], any a -/
theorem pe_slice {r : V → Option Int → Option Int → Hp → VK → Prop} (hr : SlR X r) (he : PE X e te) (hl : PO X lo tl) (hu : PO X hi th) : PE X (.Subscript e (.Slice lo hi none p2) pos) (tSl r te tl th) := by
  intro pins s σ H Q I h
  refine Subscript_ (thn (he pins s σ H _ I h) fun v s1 ⟨x, H1, I1, r1, q1⟩ => ?_)
  refine wpAny_Slice (thn (hl pins s1 σ H1 _ I1 q1) fun vl s2 ⟨l, H2, I2, pl, q2⟩ => thn (hu pins s2 σ H2 _ I2 q2) fun vu s3 ⟨u, H3, I3, pu, q3⟩ => ?_)
  rw [evalPart_none]
  refine wpAny_pure ?_
  have I4 : Inv X pins σ H3 { s3 with heap := s3.heap.push { cls := .type "slice", data := .fields #[vl, vu, .none] } } := I3.kept (t' := s3.toks) fun b ob q => Heap.get?_push_of_some _ q
  obtain ⟨T, id, hT, ht, hg⟩ := hr pins { s3 with heap := s3.heap.push { cls := .type "slice", data := .fields #[vl, vu, .none] } } σ H3 x v vl vu l u s3.heap.objs.size Q I4 r1 (Heap.IsSliceOf.new ..) pl pu q3
  show wpAny (model X.prog X.w) X.A (subscriptTail e (.Slice lo hi none p2) v (.ref s3.heap.objs.size)) (EP X pins σ Q) X.xe { s3 with heap := s3.heap.push { cls := .type "slice", data := .fields #[vl, vu, .none] } }
  exact tail_any (ops := [.ref s3.heap.objs.size, v]) ht hT hg (by with_unfolding_all rfl)

/-- the items of xs[lo:hi] -/
def cutV (xs : List V) (lo hi : Option Int) : List V := (xs.drop (HT.sIx xs.length 0 lo)).take (HT.sIx xs.length xs.length hi - HT.sIx xs.length 0 lo)
theorem cutV_length (xs : List V) (lo hi : Option Int) : (cutV xs lo hi).length ≤ xs.length := by
  unfold cutV
  rw [List.length_take, List.length_drop]
  omega
/-! ### t < u, t + u -/
end
end L2

namespace L2
open PySem PySem.Spec PyProof.Rows

/-! ### places -/
/-- the place that an index of any sign means -/
def ixN (n : Nat) (i : Int) : Option Nat := if 0 ≤ i then (if i < n then some i.toNat else none) else if -(n : Int) ≤ i then some (i + n).toNat else none
def atI {α : Type} (xs : List α) (i : Int) : Option α := (ixN xs.length i).bind fun j => xs[j]?
theorem ixN_seq {n : Nat} {i : Int} {j : Nat} (h : ixN n i = some j) : seqIndex? i n = some j ∧ j < n ∧ -(n : Int) ≤ i ∧ i < n := by
  unfold ixN at h
  by_cases h0 : 0 ≤ i
  · rw [if_pos h0] at h
    by_cases h1 : i < n
    · rw [if_pos h1] at h
      have e : i.toNat = j := Option.some.inj h
      exact ⟨by rw [seqIndex_of h0 h1, e], by omega, by omega, h1⟩
    · rw [if_neg h1] at h; cases h
  · rw [if_neg h0] at h
    by_cases h1 : -(n : Int) ≤ i
    · rw [if_pos h1] at h
      have e : (i + n).toNat = j := Option.some.inj h
      exact ⟨by rw [seqIndex_neg (by omega) h1, e], by omega, h1, by omega⟩
    · rw [if_neg h1] at h; cases h
theorem atI_get {α : Type} {xs : List α} {i : Int} {v : α} (h : atI xs i = some v) : ∃ j, seqIndex? i xs.length = some j ∧ xs[j]? = some v ∧ j < xs.length ∧ -(xs.length : Int) ≤ i ∧ i < xs.length := by
  unfold atI at h
  cases e : ixN xs.length i with
  | none => rw [e] at h; cases h
  | some j =>
    rw [e] at h
    obtain ⟨h1, h2, h3, h4⟩ := ixN_seq e
    exact ⟨j, h1, h, h2, h3, h4⟩
theorem atI_nat {α : Type} {xs : List α} {j : Nat} {v : α} (h : xs[j]? = some v) : atI xs (j : Int) = some v := by
  have hj : j < xs.length := (List.getElem?_eq_some_iff.mp h).1
  have e : ixN xs.length (j : Int) = some j := by
    unfold ixN
    rw [if_pos (by omega), if_pos (by omega)]; simp
  unfold atI; rw [e]; exact h
theorem atI_last {α : Type} (xs : List α) (v : α) : atI (xs ++ [v]) (-1) = some v := by
  have hl : (xs ++ [v]).length = xs.length + 1 := by simp
  have e : ixN (xs ++ [v]).length (-1) = some xs.length := by
    unfold ixN
    rw [hl, if_neg (by decide), if_pos (by omega)]
    congr 1
    omega
  unfold atI
  rw [e]
  show (xs ++ [v])[xs.length]? = some v
  simp

/-! ### what may be subscripted -/
/-- what stands as an index of a plain subscript -/
def PlainIx (b : Expr) : Prop := ∀ o i, subscripted b false o i = operate [o, i] (getItem o i)
/-- a subscript by values -/
def IxR (X : Cx) (r : R2) : Prop :=
  ∀ (value slice : Expr) (pins : List (Addr × Obj)) (s : Shared) (σ : St) (H : Hp) (x y : V) (v u : Value) (Q : VK), Inv X pins σ H s → RelV x v → RelV y u → r x y H Q →
    subscripted slice false v u = operate [v, u] (getItem v u) → wpAny (model X.prog X.w) X.A (subscriptTail value slice v u) (EP X pins σ Q) X.xe s
/-- a call of a builtin's method by values: the receiver, the arguments -/
def MtR (X : Cx) (id : String) (r : V → List V → Hp → VK → Prop) : Prop :=
  ∀ (pins : List (Addr × Obj)) (s : Shared) (σ : St) (H : Hp) (x : V) (xs : List V) (v : Value) (us : List Value) (Q : VK), Inv X pins σ H s → RelV x v → Vals xs us → r x xs H Q →
    wpAny (model X.prog X.w) X.A (call (.builtin id) (v :: us)) (EP X pins σ Q) X.xe s
section
variable {X : Cx} {a b : Expr} {ta tb : TE} {pos : Pos}
theorem IxR.or {r r' : R2} (h : IxR X r) (h' : IxR X r') : IxR X (fun x y H Q => r x y H Q ∨ r' x y H Q) := by
  intro value slice pins s σ H x y v u Q I rx ry q hs
  rcases q with q | q
  · exact h value slice pins s σ H x y v u Q I rx ry q hs
  · exact h' value slice pins s σ H x y v u Q I rx ry q hs
theorem MtR.or {id : String} {r r' : V → List V → Hp → VK → Prop} (h : MtR X id r) (h' : MtR X id r') : MtR X id (fun x xs H Q => r x xs H Q ∨ r' x xs H Q) := by
  intro pins s σ H x xs v us Q I rx rs q
  rcases q with q | q
  · exact h pins s σ H x xs v us Q I rx rs q
  · exact h' pins s σ H x xs v us Q I rx rs q
/-- a[b] -/
theorem pe_ix {r : R2} (hr : IxR X r) (ha : PE X a ta) (hb : PE X b tb) (hs : PlainIx b) : PE X (.Subscript a b pos) (tOp r ta tb) := by
  intro pins s σ H Q I h
  exact Subscript_ (binT ha hb I h fun v u s2 x y H2 I2 rx ry q => hr a b pins s2 σ H2 x y v u Q I2 rx ry q (hs _ _))

def rIxL (K : PySem.W.Frag) : R2 := fun x y H Q => ∃ p xs i v, x = .ref p ∧ y = .int i ∧ SqL K H p xs ∧ atI xs i = some v ∧ Q v H
def rIxT (K : PySem.W.Frag) : R2 := fun x y H Q => ∃ p xs i v, x = .ref p ∧ y = .int i ∧ SqT K H p xs ∧ atI xs i = some v ∧ Q v H
def rIxS : R2 := fun x y H Q => ∃ z i c, x = .str z ∧ y = .int i ∧ z.length ≤ sizeLine ∧ atI z.cps.toList i = some c ∧ Q (.str ⟨#[c]⟩) H
theorem ix_list : IxR X (rIxL X.K) := by
  intro value slice pins s σ H x y v u Q I rx ry h hs
  obtain ⟨p, xs, i, z, rfl, rfl, hq, he, q⟩ := h
  cases rx
  obtain ⟨t, rfl⟩ := ry
  obtain ⟨its, r, pl, hz⟩ := I.list hq
  obtain ⟨j, h1, h2, h3, h4, h5⟩ := atI_get he
  obtain ⟨w, ew, rw'⟩ := r.get h2
  have hl := r.length
  have hn := line63
  have fin : EP X pins σ Q w s := ⟨z, H, I, rw', q⟩
  by_cases h0 : 0 ≤ i
  · have hj : i.toNat = j := by
      rw [seqIndex_of h0 h5] at h1
      exact Option.some.inj h1
    exact item_listR pl.isList h0 (by omega) (by rw [hj]; simpa using ew) fin hs
  · have hj : (i + (its.toArray.size : Int)).toNat = j := by
      rw [seqIndex_neg (by omega) h4] at h1
      rw [List.size_toArray, ← hl]
      exact Option.some.inj h1
    exact subscriptTail_builtinR (x := w) pl.isList.typeIs slot_list_getitem.lookup
      (wpAny_getItem_list_neg (Q := fun r s' => r = w ∧ EP X pins σ Q r s') pl.isList (by omega) (by rw [List.size_toArray] <;> omega) (by omega) (by rw [hj]; simpa using ew) ⟨rfl, fin⟩) hs
theorem ix_tup : IxR X (rIxT X.K) := by
  intro value slice pins s σ H x y v u Q I rx ry h hs
  obtain ⟨p, xs, i, z, rfl, rfl, hq, he, q⟩ := h
  cases rx
  obtain ⟨t, rfl⟩ := ry
  obtain ⟨its, r, pl, hz⟩ := I.tuple hq
  obtain ⟨j, h1, h2, h3, h4, h5⟩ := atI_get he
  obtain ⟨w, ew, rw'⟩ := r.get h2
  have hl := r.length
  have hn := line63
  have fin : EP X pins σ Q w s := ⟨z, H, I, rw', q⟩
  exact subscriptTail_builtinR (x := w) pl.typeIs slot_tuple_getitem.lookup
    (getItem_tuple (j := j) (Q := fun r s' => r = w ∧ EP X pins σ Q r s') pl (by omega) (by omega) (by rw [List.size_toArray, ← hl]; exact h1) (by simpa using ew) ⟨rfl, fin⟩) hs
theorem ix_str : IxR X rIxS := by
  intro value slice pins s σ H x y v u Q I rx ry h hs
  obtain ⟨z, i, c, rfl, rfl, hz, he, q⟩ := h
  obtain ⟨t, rfl⟩ := rx
  obtain ⟨t', rfl⟩ := ry
  obtain ⟨j, h1, h2, h3, h4, h5⟩ := atI_get he
  have hl : z.cps.toList.length = z.length := by simp [Str.length]
  rw [hl] at h1 h4 h5
  have hn := line63
  exact tail_any (typeIs_str s z t) slot_str_getitem.lookup (getItem_str (c := c) (by
    have e1 : decide (i < -(2 ^ 63 : Int)) = false := decide_eq_false (by omega)
    have e2 : decide (i ≥ 2 ^ 63) = false := decide_eq_false (by omega)
    rw [e1, e2, Bool.or_false]) (by rw [h1]; simpa using h2) ⟨.str ⟨#[c]⟩, H, I.tok _, ⟨_, rfl⟩, q⟩) hs
/-! ### xs[i] = v, any sign -/
/-- the list's object behind a store -/
theorem mapSeq_set (its : List Value) (n j : Nat) (u : Value) : Obj.mapSeq (·.setIfInBounds j u) { cls := .type "list", data := .seq its.toArray n } = { cls := .type "list", data := .seq (its.set j u).toArray n } := by
  simp [Obj.mapSeq]
theorem Inv.lst {pins : List (Addr × Obj)} {σ : St} {H : Hp} {s : Shared} {p : Addr} {xs : List V} (I : Inv X pins σ H s) (h : H p = some (.lst xs)) :
    ∃ (its : List Value) (n : Nat), Vals xs its ∧ s.heap.get? p = some { cls := .type "list", data := .seq its.toArray n } ∧ xs.length ≤ sizeLine := by
  obtain ⟨z, its, n, r, e⟩ := I.hok p _ h
  exact ⟨its, n, r, e, z⟩
/-- the list at p is written by an update of its object -/
theorem Inv.lstUpd {pins : List (Addr × Obj)} {σ : St} {H : Hp} {s : Shared} {p : Addr} {xs ys : List V} {its its' : List Value} {n n' : Nat} {f : Obj → Obj} (I : Inv X pins σ H s) (h : H p = some (.lst xs))
    (ho : s.heap.get? p = some { cls := .type "list", data := .seq its.toArray n }) (hf : f { cls := .type "list", data := .seq its.toArray n } = { cls := .type "list", data := .seq its'.toArray n' }) (r : Vals ys its') (hz : ys.length ≤ sizeLine) (t : Nat) :
    Inv X pins σ (upd H p (.lst ys)) { s with heap := s.heap.update p f, toks := t } := by
  have e : (s.heap.update p f).get? p = some { cls := .type "list", data := .seq its'.toArray n' } := by
    rw [Heap.get?_update_self f ho (by rw [hf] <;> rfl), hf]
  refine I.write (x := p) (e := p) (by rw [h]; trivial) (.inl rfl) (fun b u hb q => (Heap.get?_update_other _ _ (Ne.symm hb)).trans q) ⟨_, e⟩ ?_
  exact ⟨hz, its', n', r, e⟩
def rSetL : V → V → V → Hp → (Hp → Prop) → Prop := fun o i v H Q => ∃ p xs k j, o = .ref p ∧ i = .int k ∧ H p = some (.lst xs) ∧ ixN xs.length k = some j ∧ Q (upd H p (.lst (xs.set j v)))
theorem set_list : PSet X rSetL := by
  intro pins s σ H o i v ov iv u Q I ro ri rv h
  obtain ⟨p, xs, k, j, rfl, rfl, hp, hj, q⟩ := h
  cases ro
  obtain ⟨t, rfl⟩ := ri
  obtain ⟨its, n, r, ho, hz⟩ := I.lst hp
  obtain ⟨h1, h2, h3, h4⟩ := ixN_seq hj
  have hl := r.length
  have hn := line63
  have I' : Inv X pins σ (upd H p (.lst (xs.set j v))) { s with heap := s.heap.update p (Obj.mapSeq (·.setIfInBounds j u)) } :=
    I.lstUpd hp ho (mapSeq_set its n j u) (r.set rv j) (by rw [List.length_set]; exact hz) s.toks
  by_cases h0 : 0 ≤ k
  · have hk : k.toNat = j := by
      rw [seqIndex_of h0 h4] at h1
      exact Option.some.inj h1
    exact PySem.W.ki_setAt ho h0 (by omega) (by rw [List.size_toArray, ← hl]; exact h4) (by rw [hk]; exact ⟨_, I', q⟩)
  · have hk : (k + (its.toArray.size : Int)).toNat = j := by
      rw [seqIndex_neg (by omega) h3] at h1
      rw [List.size_toArray, ← hl]
      exact Option.some.inj h1
    exact PySem.W.ki_setBack ho (by omega) (by rw [List.size_toArray, ← hl]; exact h3) (by omega) (by rw [hk]; exact ⟨_, I', q⟩)

/-! ### slices -/
theorem slice_bounds (lo hi : Option Int) (n : Nat) : (sliceBounds lo hi none n).1 = ((HT.sIx n 0 lo : Nat) : Int) ∧ (sliceBounds lo hi none n).2.1 = ((HT.sIx n n hi : Nat) : Int) ∧ (sliceBounds lo hi none n).2.2 = 1 := by
  refine ⟨?_, ?_, rfl⟩
  · cases lo with
    | none => simp [sliceBounds, HT.sIx]
    | some i =>
      simp only [sliceBounds, HT.sIx, Option.getD_none, show (1 : Int) > 0 by decide, if_true]
      by_cases h : i < 0
      · simp only [h, if_true] <;> omega
      · simp only [h, if_false] <;> omega
  · cases hi with
    | none => simp [sliceBounds, HT.sIx]
    | some i =>
      simp only [sliceBounds, HT.sIx, Option.getD_none, show (1 : Int) > 0 by decide, if_true]
      by_cases h : i < 0
      · simp only [h, if_true] <;> omega
      · simp only [h, if_false] <;> omega
theorem slicePick_cut (its : List Value) (lo hi : Option Int) : slicePick its.toArray lo hi none = ((its.drop (HT.sIx its.length 0 lo)).take (HT.sIx its.length its.length hi - HT.sIx its.length 0 lo)).toArray := by
  obtain ⟨h1, h2, h3⟩ := slice_bounds lo hi its.toArray.size
  unfold slicePick
  rw [h1, h2, h3]
  simp only [sliceRange_one, pick_run, List.size_toArray] <;> rfl
/-- xs[lo:hi] of a list: a new list -/
def rSlL (K : PySem.W.Frag) : V → Option Int → Option Int → Hp → VK → Prop := fun x lo hi H Q => ∃ a xs, x = .ref a ∧ SqL K H a xs ∧ ∀ p, H p = none → Q (.ref p) (upd H p (.lst (cutV xs lo hi)))
theorem sl_list : SlR X (rSlL X.K) := by
  intro pins s σ H x v vl vu lo hi sl Q I rx hs pl pu h
  obtain ⟨a, xs, rfl, hx, q⟩ := h
  cases rx
  obtain ⟨its, r, ht, hz⟩ := I.list hx
  have hlen := r.length
  refine ⟨"list", _, slot_list_getitem.lookup, ht.isList.typeIs, ?_⟩
  refine wpAny_getItem_list_slice ht.isList hs pl pu .none (by simp) ?_ (by rw [List.size_toArray] <;> omega)
  rw [slicePick_cut, ← hlen]
  refine ⟨.ref s.heap.objs.size, _, I.laid (t' := s.toks) (o := .lst (cutV xs lo hi)) (fun b ob q => Heap.get?_push_of_some _ q) (Nat.le_refl _) ?_, rfl, q _ (I.hok.fresh (Nat.le_refl _))⟩
  exact ⟨Nat.le_trans (cutV_length xs lo hi) hz, _, 0, (r.drop (HT.sIx xs.length 0 lo)).take (HT.sIx xs.length xs.length hi - HT.sIx xs.length 0 lo), Heap.get?_push_size _ rfl⟩

/-! ### in, not in: flat items -/
def flatV : V → Bool
  | .non => true
  | .bl _ => true
  | .int _ => true
  | .str _ => true
  | _ => false
/-- == of flat values -/
def eqV : V → V → Bool
  | .non, .non => true
  | .bl a, .bl b => a == b
  | .bl a, .int b => (if a then 1 else 0) == b
  | .int a, .bl b => a == (if b then 1 else 0)
  | .int a, .int b => a == b
  | .str a, .str b => a == b
  | _, _ => false
theorem eqAt_V {A : Around} {s : Shared} {y x : V} {u v : Value} (ry : RelV y u) (rx : RelV x v) (fy : flatV y = true) (fx : flatV x = true) : SeqAt.EqAt A s u v (eqV y x) := by
  cases y with
  | non =>
    cases ry
    cases x with
    | non => cases rx; exact SeqAt.EqAt.same _
    | bl b => cases rx; exact SeqAt.EqAt.none_bool b
    | int b => obtain ⟨t, rfl⟩ := rx; exact SeqAt.EqAt.none_int b t
    | str b => obtain ⟨t, rfl⟩ := rx; exact SeqAt.EqAt.none_str b t
    | _ => exact absurd (show false = true from fx) Bool.false_ne_true
  | bl a =>
    cases ry
    cases x with
    | non => cases rx; exact SeqAt.EqAt.bool_none a
    | bl b => cases rx; exact SeqAt.EqAt.bool_bool a b
    | int b => obtain ⟨t, rfl⟩ := rx; exact SeqAt.EqAt.bool_int a b t
    | str b => obtain ⟨t, rfl⟩ := rx; exact SeqAt.EqAt.bool_str a b t
    | _ => exact absurd (show false = true from fx) Bool.false_ne_true
  | int a =>
    obtain ⟨t', rfl⟩ := ry
    cases x with
    | non => cases rx; exact SeqAt.EqAt.int_none a t'
    | bl b => cases rx; exact SeqAt.EqAt.int_bool a t' b
    | int b => obtain ⟨t, rfl⟩ := rx; exact SeqAt.EqAt.int_int a t' b t
    | str b => obtain ⟨t, rfl⟩ := rx; exact SeqAt.EqAt.int_str a t' b t
    | _ => exact absurd (show false = true from fx) Bool.false_ne_true
  | str a =>
    obtain ⟨t', rfl⟩ := ry
    cases x with
    | non => cases rx; exact SeqAt.EqAt.str_none a t'
    | bl b => cases rx; exact SeqAt.EqAt.str_bool a t' b
    | int b => obtain ⟨t, rfl⟩ := rx; exact SeqAt.EqAt.str_int a t' b t
    | str b => obtain ⟨t, rfl⟩ := rx; exact SeqAt.EqAt.str_str a t' b t
    | _ => exact absurd (show false = true from fx) Bool.false_ne_true
  | _ => exact absurd (show false = true from fy) Bool.false_ne_true
/-- the items' answers, read off the values (a value's own answer does not lean on its token) -/
def eqU (x : V) (u : Value) : Bool := match u with
  | .none => eqV .non x
  | .bool b => eqV (.bl b) x
  | .int i _ => eqV (.int i) x
  | .str z _ => eqV (.str z) x
  | _ => false
theorem eqU_of {x y : V} {u : Value} (r : RelV y u) (f : flatV y = true) : eqU x u = eqV y x := by
  cases y with
  | non => cases r; rfl
  | bl b => cases r; rfl
  | int i => obtain ⟨t, rfl⟩ := r; rfl
  | str z => obtain ⟨t, rfl⟩ := r; rfl
  | _ => exact absurd (show false = true from f) Bool.false_ne_true
theorem any_eqU {x : V} : ∀ {xs : List V} {us : List Value}, Vals xs us → xs.all flatV = true → us.any (eqU x) = xs.any fun y => eqV y x
  | _, _, .nil, _ => rfl
  | y :: xs, u :: us, .cons r t, f => by
    rw [List.all_cons, Bool.and_eq_true] at f
    rw [List.any_cons, List.any_cons, eqU_of r f.1, any_eqU t f.2]
theorem mem_eqAt {A : Around} {s : Shared} {x : V} {v : Value} (rx : RelV x v) (fx : flatV x = true) : ∀ {xs : List V} {us : List Value}, Vals xs us → xs.all flatV = true → ∀ u ∈ us, SeqAt.EqAt A s u v (eqU x u)
  | _, _, .nil, _ => fun u hu => by cases hu
  | y :: xs, u :: us, .cons r t, f => fun u' hu => by
    rw [List.all_cons, Bool.and_eq_true] at f
    rcases List.mem_cons.mp hu with rfl | hu
    · rw [eqU_of r f.1]; exact eqAt_V r rx f.1 fx
    · exact mem_eqAt rx fx t f.2 u' hu
def inV (x : V) (xs : List V) : Bool := xs.any fun y => eqV y x
/-- x in a list or tuple of flat items -/
def rIn (K : PySem.W.Frag) (neg : Bool) : R2 := fun x y H Q => ∃ p xs, y = .ref p ∧ (SqL K H p xs ∨ SqT K H p xs) ∧ flatV x = true ∧ xs.all flatV = true ∧ Q (.bl (if neg then !inV x xs else inV x xs)) H
theorem op_in_seq : OpR X (compareOp .In) (rIn X.K false) := by
  intro pins s σ H x y v u Q I rx ry h
  obtain ⟨p, xs, rfl, hq, fx, fs, q⟩ := h
  cases ry
  rcases hq with hq | hq
  · obtain ⟨its, r, pl, hz⟩ := I.list hq
    refine SeqAt.in_listAt (eqU x) pl.isList (fun w hw => mem_eqAt rx fx r fs w (by simpa using hw)) ⟨.bl _, H, I, rfl, ?_⟩
    rw [show its.toArray.any (eqU x) = its.any (eqU x) by simp, any_eqU r fs]
    exact q
  · obtain ⟨its, r, pl, hz⟩ := I.tuple hq
    refine SeqAt.in_tupleAt (eqU x) pl (fun w hw => mem_eqAt rx fx r fs w (by simpa using hw)) ⟨.bl _, H, I, rfl, ?_⟩
    rw [show its.toArray.any (eqU x) = its.any (eqU x) by simp, any_eqU r fs]
    exact q
theorem op_notIn_seq : OpR X (compareOp .NotIn) (rIn X.K true) := by
  intro pins s σ H x y v u Q I rx ry h
  obtain ⟨p, xs, rfl, hq, fx, fs, q⟩ := h
  cases ry
  rcases hq with hq | hq
  · obtain ⟨its, r, pl, hz⟩ := I.list hq
    refine SeqAt.notIn_listAt (eqU x) pl.isList (fun w hw => mem_eqAt rx fx r fs w (by simpa using hw)) ⟨.bl _, H, I, rfl, ?_⟩
    rw [show its.toArray.any (eqU x) = its.any (eqU x) by simp, any_eqU r fs]
    exact q
  · obtain ⟨its, r, pl, hz⟩ := I.tuple hq
    refine SeqAt.notIn_tupleAt (eqU x) pl (fun w hw => mem_eqAt rx fx r fs w (by simpa using hw)) ⟨.bl _, H, I, rfl, ?_⟩
    rw [show its.toArray.any (eqU x) = its.any (eqU x) by simp, any_eqU r fs]
    exact q
/-! ### len, list(x), tuple(x) of any list or tuple that is read -/
theorem call_len_seq : CallR X (.builtin "len") (fun xs H Q => ∃ p ys, xs = [.ref p] ∧ (SqL X.K H p ys ∨ SqT X.K H p ys) ∧ Q (.int ys.length) H) := by
  intro pins s σ H xs us Q I r h
  obtain ⟨p, ys, rfl, hq, q⟩ := h
  obtain ⟨u, rfl, rx⟩ := vals1 r
  cases rx
  have hn := line63
  rcases hq with hq | hq
  · obtain ⟨its, r', pl, hz⟩ := I.list hq
    have hlen := r'.length
    exact Calls.call_len_list pl.isList (by simp only [List.size_toArray] <;> omega) ⟨.int ys.length, H, I.tok _, ⟨s.toks + 1, by rw [List.size_toArray, hlen]⟩, q⟩
  · obtain ⟨its, r', pl, hz⟩ := I.tuple hq
    have hlen := r'.length
    exact len_tuple pl (by simp only [List.size_toArray] <;> omega) ⟨.int ys.length, H, I.tok _, ⟨s.toks + 1, by rw [List.size_toArray, hlen]⟩, q⟩
theorem call_len_str : CallR X (.builtin "len") (fun xs H Q => ∃ z, xs = [.str z] ∧ z.length ≤ sizeLine ∧ Q (.int z.length) H) := by
  intro pins s σ H xs us Q I r h
  obtain ⟨z, rfl, hz, q⟩ := h
  obtain ⟨u, rfl, t, rfl⟩ := vals1 r
  have hn := line63
  exact len_str (by omega) ⟨.int z.length, H, I.tok _, ⟨_, rfl⟩, q⟩
theorem CallR.or {f : Value} {r r' : List V → Hp → VK → Prop} (h : CallR X f r) (h' : CallR X f r') : CallR X f (fun xs H Q => r xs H Q ∨ r' xs H Q) := by
  intro pins s σ H xs us Q I rs q
  rcases q with q | q
  · exact h pins s σ H xs us Q I rs q
  · exact h' pins s σ H xs us Q I rs q
/-! ### the call of a builtin's method: o.m(..) -/
/-- the value is of that builtin type -/
def tyV (K : PySem.W.Frag) (T : String) (x : V) (H : Hp) : Prop := match x with
  | .str _ => T = "str"
  | .int _ => T = "int"
  | .ref p => (T = "list" ∧ ∃ xs, SqL K H p xs) ∨ (T = "tuple" ∧ ∃ o, K.lookup p = some o ∧ o.cls = .type "tuple" ∧ o.dict = none) ∨
      (T = "dict" ∧ ((∃ kvs, H p = some (.dK kvs)) ∨ ∃ kvs, H p = some (.dT kvs))) ∨ (T = "set" ∧ ∃ S n, H p = some (.set S n))
  | _ => False
theorem tyV_is {pins : List (Addr × Obj)} {σ : St} {H : Hp} {s : Shared} {T : String} {x : V} {v : Value} (I : Inv X pins σ H s) (r : RelV x v) (ty : tyV X.K T x H) :
    s.TypeIs v T ∧ ∀ a, v = .ref a → ∃ ob, s.heap.get? a = some ob ∧ ob.dict = none := by
  cases x with
  | str z =>
    obtain ⟨t, rfl⟩ := r
    cases (show T = "str" from ty)
    exact ⟨typeIs_str s z t, fun _ e => nomatch e⟩
  | int i =>
    obtain ⟨t, rfl⟩ := r
    cases (show T = "int" from ty)
    exact ⟨typeIs_int s i t, fun _ e => nomatch e⟩
  | ref p =>
    cases r
    rcases ty with ⟨rfl, xs, hq⟩ | ⟨rfl, o, hk, hc, hd⟩ | ⟨rfl, hk⟩ | ⟨rfl, S, n, hk⟩
    · obtain ⟨its, _, pl, _⟩ := I.list hq
      refine ⟨pl.isList.typeIs, fun a e => ?_⟩
      cases e
      obtain ⟨o, n, e, c, hd, _⟩ := pl
      exact ⟨o, e, hd⟩
    · refine ⟨⟨o, I.kIn p o hk, hc⟩, fun a e => ?_⟩
      cases e
      exact ⟨o, I.kIn _ o hk, hd⟩
    · have z : ∃ o, s.heap.get? p = some o ∧ o.ExactDict := by
        rcases hk with ⟨kvs, hk⟩ | ⟨kvs, hk⟩
        · obtain ⟨_, _, _, _, o, _, _, e, ex, _⟩ := I.hok p _ hk
          exact ⟨o, e, ex⟩
        · obtain ⟨_, _, _, _, o, _, _, e, ex, _⟩ := I.hok p _ hk
          exact ⟨o, e, ex⟩
      obtain ⟨o, e, ex⟩ := z
      refine ⟨⟨o, e, ex.1⟩, fun a e2 => ?_⟩
      cases e2
      exact ⟨o, e, ex.2.1⟩
    · obtain ⟨o, _, _, _, e, ex, _⟩ := I.hok p _ hk
      refine ⟨⟨o, e, ex.1⟩, fun a e2 => ?_⟩
      cases e2
      exact ⟨o, e, ex.2.1⟩
  | _ => exact False.elim ty
def tBM0 (K : PySem.W.Frag) (T : String) (r : V → List V → Hp → VK → Prop) (to : TE) : TE := fun σ H Q => to σ H fun x H1 => tyV K T x H1 ∧ r x [] H1 Q
def tBM (K : PySem.W.Frag) (T : String) (r : V → List V → Hp → VK → Prop) (to : TE) (t : TA) : TE := fun σ H Q => to σ H fun x H1 => tyV K T x H1 ∧ t σ H1 fun xs H2 => r x xs H2 Q
variable {o e : Expr} {es : List Expr} {to : TE} {t : TA} {name : Str} {apos cpos : Pos} {T id : String} {r : V → List V → Hp → VK → Prop}
/- xs.append(e), list.index on a module's tuple .. are MtR facts of 06m -/
end
end L2

namespace L2
open PySem PySem.Spec PyProof.Rows

def MtM (X : Cx) (id : String) (r : V → List V → Hp → VK → Prop) : Prop :=
  ∀ (pins : List (Addr × Obj)) (s : Shared) (σ : St) (H : Hp) (x : V) (xs : List V) (v : Value) (us : List Value) (Q : VK), Inv X pins σ H s → RelV x v → Vals xs us → r x xs H Q →
    wpAny (model X.prog X.w) X.A (call (.builtin id) (v :: us)) (EP X pins σ Q) X.xe s

/-! ### lists of values -/
theorem Vals.one : ∀ {x : V} {us : List Value}, Vals [x] us → ∃ u, us = [u] ∧ RelV x u
  | _, _, .cons r .nil => ⟨_, rfl, r⟩
theorem Vals.two : ∀ {x y : V} {us : List Value}, Vals [x, y] us → ∃ u v, us = [u, v] ∧ RelV x u ∧ RelV y v
  | _, _, _, .cons r (.cons q .nil) => ⟨_, _, rfl, r, q⟩
theorem Vals.dropLast {xs : List V} {us : List Value} (h : Vals xs us) : Vals xs.dropLast us.dropLast := by
  induction h with
  | nil => exact .nil
  | cons r t ih =>
    cases t with
    | nil => exact .nil
    | cons q t' => exact .cons r ih
theorem Vals.eraseIdx : ∀ {xs : List V} {us : List Value} (i : Nat), Vals xs us → Vals (xs.eraseIdx i) (us.eraseIdx i)
  | _, _, _, .nil => .nil
  | _, _, 0, .cons _ t => t
  | _, _, i + 1, .cons r t => .cons r (Vals.eraseIdx i t)
theorem Vals.reverse {xs : List V} {us : List Value} (h : Vals xs us) : Vals xs.reverse us.reverse := by
  induction h with
  | nil => exact .nil
  | cons r t ih => rw [List.reverse_cons, List.reverse_cons]; exact Vals.append ih (.cons r .nil)
section
variable {X : Cx} {pins : List (Addr × Obj)} {σ : St} {H : Hp} {s : Shared} {l b : Addr} {xs ys zs : List V}

/-! ### the two steps: a tracked list is rewritten, a new list is laid -/
theorem Inv.lset {its its' : List Value} {n : Nat} {f : Array Value → Array Value} {t' : Nat} (I : Inv X pins σ H s) (hH : H l = some (.lst xs))
    (e : s.heap.get? l = some { cls := .type "list", data := .seq its.toArray n }) (hf : f its.toArray = its'.toArray) (hv : Vals ys its') (hz : ys.length ≤ sizeLine) :
    Inv X pins σ (upd H l (.lst ys)) { s with heap := s.heap.update l (Obj.mapSeq f), toks := t' } := by
  have q := PySem.IsL.update e f
  rw [hf] at q
  refine I.write (x := l) (e := l) (by rw [hH]; exact trivial) (.inl rfl) (fun b' u hb hu => (Heap.get?_update_other s.heap (Obj.mapSeq f) (Ne.symm hb)).trans hu) ⟨_, q⟩ ?_
  exact ⟨hz, its', _, hv, q⟩
theorem Inv.lnew {its : List Value} {t' : Nat} (I : Inv X pins σ H s) (hv : Vals ys its) (hz : ys.length ≤ sizeLine) :
    Inv X pins σ (upd H s.heap.objs.size (.lst ys)) { s with heap := s.heap.push { cls := .type "list", data := .seq its.toArray }, toks := t' } :=
  I.laid (fun _ _ q => Heap.get?_push_of_some _ q) (Nat.le_refl _) ⟨hz, its, 0, hv, Heap.get?_push_size _ rfl⟩
theorem Inv.fresh (I : Inv X pins σ H s) : H s.heap.objs.size = none := I.hok.fresh (Nat.le_refl _)
theorem Inv.lstM (I : Inv X pins σ H s) (hH : H l = some (.lst xs)) : xs.length ≤ sizeLine ∧ ∃ (its : List Value) (n : Nat), Vals xs its ∧ xs.length = its.length ∧ s.heap.get? l = some { cls := .type "list", data := .seq its.toArray n } := by
  obtain ⟨z, its, n, r, e⟩ := I.hok l _ hH
  exact ⟨z, its, n, r, r.length, e⟩

end

section
variable {X : Cx}

/-! ### methods -/
def rAppend : V → List V → Hp → VK → Prop := fun x vs H Q => ∃ l xs y, x = .ref l ∧ vs = [y] ∧ H l = some (.lst xs) ∧ xs.length < sizeLine ∧ Q .non (upd H l (.lst (xs ++ [y])))
theorem mt_append : MtM X "list.append" rAppend := by
  intro pins s σ H x vs v us Q I rx rv h
  obtain ⟨l, xs, y, rfl, rfl, hH, hz, q⟩ := h
  cases rx
  obtain ⟨u, rfl, ru⟩ := rv.one
  obtain ⟨z, its, n, r, hl, e⟩ := I.lstM hH
  refine call_meets F.slot_list_append ⟨_, e, rfl⟩ F.entry_list_append (F.args_list_append_2 _ _) (PySem.list_append l its.toArray n u (by rw [List.size_toArray]; omega)) ⟨e, ?_⟩
  refine ⟨.non, _, I.lset (its' := its ++ [u]) hH e (by simp) (r.append (.cons ru .nil)) ?_, rfl, q⟩
  rw [List.length_append, List.length_singleton]
  omega

def rExtend : V → List V → Hp → VK → Prop := fun x vs H Q => ∃ l b xs zs, x = .ref l ∧ vs = [.ref b] ∧ H l = some (.lst xs) ∧ H b = some (.lst zs) ∧ xs.length + zs.length ≤ sizeLine ∧ Q .non (upd H l (.lst (xs ++ zs)))
def rPop : V → List V → Hp → VK → Prop := fun x vs H Q => ∃ l xs y, x = .ref l ∧ vs = [] ∧ H l = some (.lst xs) ∧ xs[xs.length - 1]? = some y ∧ Q y (upd H l (.lst xs.dropLast))
def rPopAt : V → List V → Hp → VK → Prop := fun x vs H Q => ∃ l xs i k y, x = .ref l ∧ vs = [.int i] ∧ H l = some (.lst xs) ∧ -(2 ^ 63) ≤ i ∧ i < 2 ^ 63 ∧ seqIndex? i xs.length = some k ∧ xs[k]? = some y ∧ Q y (upd H l (.lst (xs.eraseIdx k)))
def rReverse : V → List V → Hp → VK → Prop := fun x vs H Q => ∃ l xs, x = .ref l ∧ vs = [] ∧ H l = some (.lst xs) ∧ Q .non (upd H l (.lst xs.reverse))
def rClear : V → List V → Hp → VK → Prop := fun x vs H Q => ∃ l xs, x = .ref l ∧ vs = [] ∧ H l = some (.lst xs) ∧ Q .non (upd H l (.lst []))
/-! ### list + list, list += list, list * int -/
def rCat : R2 := fun x y H Q => ∃ l b xs zs, x = .ref l ∧ y = .ref b ∧ H l = some (.lst xs) ∧ H b = some (.lst zs) ∧ xs.length + zs.length ≤ sizeLine ∧ ∀ p, H p = none → Q (.ref p) (upd H p (.lst (xs ++ zs)))
/-! ### del xs[i] -/
end

/-! ### xs[a:b] = ys -/
section
variable {prog : Program} {w : World} {A : Around} {E : Value → Shared → Prop} {s : Shared}
end

section
variable {X : Cx}
end
end L2

namespace Att
open PySem PySem.W PySem.Calls PyProof.Rows

/-! ### the script -/
theorem ints_of_wellAll {P : Params} {h : Heap} : ∀ (ns : List Int) (vs : List Value), WellAll P h vs (ns.map WData.int) → IntsAre vs ns := by
  intro ns
  induction ns with
  | nil =>
    intro vs w
    rw [List.map_nil] at w
    cases w
    exact .nil
  | cons n ns ih =>
    intro vs w
    rw [List.map_cons] at w
    cases w with
    | cons a b =>
      cases a
      exact .cons _ _ (ih _ b)

theorem script_of {l : OpenLaw} {n : Nat} (hn : l.most = some n) {P : Params} {h : Heap} {args : List WData} {vals : List Value}
    (hpre : l.row.toRowW.claim.pre args = true) (hwl : WellAll P h vals args) :
    ∃ a vs ns, vals = [Value.ref a] ∧ args = [WData.list (ns.map WData.int)] ∧ h.get? a = some { cls := .type "list", data := .seq vs.toArray } ∧ IntsAre vs ns ∧ ns.length ≤ n := by
  have hsh : WShape.hasAll [] args [.list .int] = true := (pre_splitW hpre).1
  have hc : l.pre.holds [] { args := args } = true := (pre_splitW hpre).2
  obtain ⟨d, r, rfl, h1, h2⟩ := hasAllW_cons hsh
  obtain rfl := hasAllW_nil h2
  obtain ⟨xs, rfl, h3⟩ := hasW_list h1
  obtain ⟨ns, rfl⟩ := items_int h3
  have hlen : ns.length ≤ n := by
    unfold OpenLaw.pre at hc
    have h4 : (WTm.not (.lt (.lit (.int (n : Int))) (.len (.arg 0)))).holds [] { args := [.list (ns.map .int)] } = true := by
      have h4 := (holds_andW hc).1
      rw [hn] at h4
      exact h4
    have h5 := condW_of h4 (w_not (w_lt w_lit (w_len_list (w_arg rfl))))
    rw [List.length_map] at h5
    refine Nat.le_of_not_lt fun q => ?_
    have q' : (n : Int) < ((ns.length : Nat) : Int) := by omega
    first
      | (rw [decide_eq_true q'] at h5; exact absurd h5 (by decide))
      | (simp at h5; omega)
  cases hwl with
  | cons w1 w2 =>
    cases w2
    cases w1 with
    | list ho hall => exact ⟨_, _, ns, rfl, rfl, ho, ints_of_wellAll ns _ hall, hlen⟩

theorem post_true (l : OpenLaw) (args : List WData) : l.row.toRowW.claim.post args (.bool true) args = true :=
  postW_of (r := l.row.toRowW) (X := (true == true))
    (show WShape.has [] (.bool true) .bool = true by first | rfl | decide | simp [WShape.has, WShape.arms, WShape.armsAll])
    (show (WTm.eq .res (.lit (.bool true))).value [] { args := args, res := some (.bool true), after := args } = some (.bool (true == true)) from w_eq_bool (w_res rfl) w_lit) rfl

/-! ### the attachment: holds_open's last premise (the goal 'hc' behind k_head) from a wpAny of the law's body -/
/-- the same from a codeAny of the CALL (for a layer whose function contracts speak of calls) -/
theorem attach_call {l : OpenLaw} {n : Nat} {q : Program} {loose : List Str} {XP : (Str → Option Value) → Heap → Prop} {YP : World → Heap → Prop} {d : DefRec}
    (hn : l.most = some n) (hdf : d.params.defaults = [])
    (call : ∀ (w : World) (s₀ s₁ : Shared) (mg mb : Str → Option Value) (fa : Addr) (o : Obj) (pm cd doc : Value) (a : Addr) (vs : List Value) (ns : List Int),
      Ground q loose [] XP w s₀ mg mb s₁.heap → YP w s₁.heap →
      s₁.heap.get? fa = some o → o.data = .func (docDef d.name d.params d.body d.scope pm cd doc) → s₁.heap.CodeRec cd d.name → mg d.name = some (.ref fa) →
      s₁.heap.get? a = some { cls := .type "list", data := .seq vs.toArray } → IntsAre vs ns → ns.length ≤ n → s₁.gens = #[] →
      codeAny (model l.prog w) callerA (.call (.ref fa) ⟨[.ref a], []⟩) (fun r s' => r = .ok (.ret (.bool true)) ∧ OldK s₁.heap s'.heap ∧ s'.os = s₁.os ∧ AllBare s'.gens) s₁) :
    WalkO q loose XP YP l.row.toRowW d [] (fun f vs => PySem.call f vs) := by
  intro w s₀ s₁ mg mb G Y fa o pm cd doc dV kV ho hd hcd hD hmg hg args vals as hpre hlay hrd hwl hlo
  obtain rfl : dV = .none := Dflts.none hD hdf
  obtain rfl : kV = .none := Dflts.noKw hD
  obtain ⟨a, vs, ns, rfl, rfl, hobj, hints, hlen⟩ := script_of hn hpre hwl
  refine enter_call (codeAny_mono (call w s₀ s₁ mg mb fa o pm cd doc a vs ns G Y ho (fd_plain hd) hcd hmg hobj hints hlen hg) fun r s' hq => ?_)
  obtain ⟨rfl, h2, h3, h4⟩ := hq
  exact ⟨.inl ⟨.bool true, .bool true, [], rfl, fun _ => rfl, .bool true, post_true l _, fun _ => ⟨List.Pairwise.nil, fun _ hm => (nomatch hm)⟩⟩, h2, h3, h4⟩

/-! ### rules over ANY heap (no ledger) from facts about the written part K: the library's own take a ledger (News) for what they write -/
section
variable {prog : Program} {w : World} {A : Around} {E : Value → Shared → Prop} {s : Shared} {K : Frag}

/-! the whole heap as the ledger: makes every rule that writes through a ledger a rule over any heap -/
def ledger (h : Heap) (L d : Addr) : List (Addr × Obj) := (List.range h.objs.size).filterMap fun a => if a = L ∨ a = d then none else (h.get? a).map fun o => (a, o)
end
end Att

namespace L2
open PySem PySem.Spec PyProof.Rows

theorem vals_ints : ∀ {vs : List Value} {ns : List Int}, IntsAre vs ns → Vals (ns.map V.int) vs
  | _, _, .nil => .nil
  | _, _, .cons n t h => .cons ⟨t, rfl⟩ (vals_ints h)

/-- nothing is tracked but the script, known to the object (or it is an object of the module) -/
def Only (H : Hp) : Prop := ∀ b, H b = none ∨ ∃ o xs, H b = some (.frz o (.lst xs))

/-- THE HEAD: the law's promise, at the heap behind the top. F, the promise of the law's def, may use that base is part of the heap (so K.In base, base.Ns mainGlobals mg stand in Mod) -/
theorem law_call {P : Program} {w : World} {K : PySem.W.Frag} {mg mb : Str → Option Value} {CX : CXT} {k : Nat} {fa a : Addr} {fd : FuncData} {x : Str} {sp : Sp} {s₁ : Shared} {vs : List Value} {ns : List Int}
    (KX : K.In s₁.heap) (hns : s₁.heap.Ns mainGlobals mg) (hb : s₁.heap.Ns builtinsNs mb) (hbb : ∀ x : Str, x ≠ "__name__" → mb x = bootBuiltins x) (hlim : s₁.heap.NoLimit) (hg : s₁.gens = #[])
    (ha : s₁.heap.get? a = some { cls := .type "list", data := .seq vs.toArray }) (hi : IntsAre vs ns) (hl : ns.length ≤ sizeLine) (hr : Room k callerA)
    (F : ∀ base : Heap, K.In base → base.Ns mainGlobals mg → FnOk P w K mg base CX k fa fd [x] sp) (hbind : ∀ (s : Shared) (u : Value), BindsTo s fd ⟨[u], []⟩ [(x, u)])
    (hsp : ∀ H : Hp, Only H → SqL K H a (ns.map V.int) → sp [.ref a] H (fun v _ => v = .bl true) fun _ _ _ => False)
    (hCX : ∀ H e s', CX [] H s₁ (fun _ _ _ => False) e s' → False) :
    codeAny (model P w) callerA (.call (.ref fa) ⟨[.ref a], []⟩) (fun r s' => r = .ok (.ret (.bool true)) ∧ OldK s₁.heap s'.heap ∧ s'.os = s₁.os ∧ AllBare s'.gens) s₁ := by
  have rv := vals_ints hi
  have lenV := hi.length
  -- from an abstract heap in which nothing but the script may be tracked
  have core : ∀ H : Hp, Only H → SqL K H a (ns.map V.int) → HOk P w H s₁.heap → (∀ b, H b ≠ none → b = a) → (H a ≠ none → K.lookup a = none) →
      codeAny (model P w) callerA (.call (.ref fa) ⟨[.ref a], []⟩) (fun r s' => r = .ok (.ret (.bool true)) ∧ OldK s₁.heap s'.heap ∧ s'.os = s₁.os ∧ AllBare s'.gens) s₁ := by
    intro H hO hS hok hA hK
    have base_of : ∀ {b : Addr} {o : Obj}, s₁.heap.get? b = some o → H b = none → (hidT s₁.heap H).get? b = some o := fun e n => hidT_get e n
    have noA : ∀ {b : Addr} {o : Obj} {es : Array DictEntry} {ep : Nat}, s₁.heap.get? b = some o → o.data = .dict es ep → H b = none := fun {b o es ep} e d => by
      cases q : H b with
      | none => rfl
      | some u =>
        have e' : b = a := hA b (by rw [q]; simp)
        subst e'
        rw [ha] at e; cases e
        have d' : Data.seq vs.toArray _ = Data.dict es ep := d
        cases d'
    have nsK : ∀ {b : Addr} {m : Str → Option Value}, s₁.heap.Ns b m → (hidT s₁.heap H).Ns b m := fun {b m} ⟨o, es, ep, e, d, r⟩ => ⟨o, es, ep, base_of e (noA e d), d, r⟩
    have hKb : K.In (hidT s₁.heap H) := fun b o e => base_of (KX b o e) (by
      cases q : H b with
      | none => rfl
      | some u =>
        have e' : b = a := hA b (by rw [q]; simp)
        subst e'
        rw [hK (by rw [q]; simp)] at e; cases e)
    have hM : Mod K mg (hidT s₁.heap H) := ⟨hKb, nsK hns, ⟨mb, nsK hb, hbb⟩, let ⟨mc, h1, h2⟩ := hlim; ⟨mc, nsK h1, h2⟩⟩
    have e0 : Env0 P w K mg (hidT s₁.heap H) callerA [] s₁ H := ⟨rfl, hM, fun b o e => of_hidT e, Nat.le_of_eq (hidT_size _ _), trivial, fun b hb => absurd (show b ∈ ([] : List Addr) from hb) (by simp), hok, .of_eq hg⟩
    refine codeAny_mono ((F _ hKb (nsK hns)).run callerA [] s₁ H ⟨[.ref a], []⟩ [.ref a] [.ref a] _ _ hr e0 (hbind s₁ (.ref a)) (.cons rfl .nil) (hsp H hO hS)) fun r s' h => ?_
    cases r with
    | error e => exact (hCX H e s' h).elim
    | ok fl =>
      cases fl with
      | next => exact False.elim h
      | brk => exact False.elim h
      | cont => exact False.elim h
      | ret u =>
        obtain ⟨v, H', os, bare, un, hok', r', q⟩ := h
        have q' : v = .bl true := q
        subst q'
        obtain rfl : u = Value.bool true := r'
        refine ⟨rfl, OldK.of_keep fun b o e => ?_, os, bare⟩
        cases q : H b with
        | none => exact un.keep b o e q (by intro z; exact absurd (show b ∈ ([] : List Addr) from z) (by simp)) (by simp)
        | some u =>
          rcases hO b with z | ⟨ob, xs, z⟩
          · rw [q] at z; cases z
          · have z2 := un.frzs b ob _ z
            obtain ⟨e1, _⟩ := hok b _ z
            obtain ⟨e2, _⟩ := hok' b _ z2
            rw [e] at e1; cases e1
            exact e2
  cases hk : K.lookup a with
  | some o =>
    -- the script is one of the module's own objects
    have e := KX a o hk
    rw [ha] at e
    cases e
    refine core (fun _ => none) (fun _ => .inl rfl) (.inr ⟨_, vs.toArray, _, hk, rfl, rfl, rfl, by rw [List.size_toArray, lenV]; exact hl, by simpa using rv⟩) (fun b u z => by have z' : (none : Option HO) = some u := z; cases z') (fun b z => absurd rfl z) fun z => absurd rfl z
  | none =>
    refine core (fun b => if b = a then some (.frz { cls := .type "list", data := .seq vs.toArray } (.lst (ns.map V.int))) else none) (fun b => ?_) (.inl (.inr ⟨{ cls := .type "list", data := .seq vs.toArray }, if_pos rfl⟩)) (fun b u z => ?_) (fun b z => ?_) fun _ => hk
    · by_cases hb : b = a
      · exact .inr ⟨_, _, if_pos hb⟩
      · exact .inl (if_neg hb)
    · by_cases hb : b = a
      · have z' := (if_pos hb).symm.trans z
        cases z'
        subst hb
        exact ⟨ha, by rw [List.length_map]; exact hl, vs, _, rv, ha⟩
      · have z' := (if_neg hb).symm.trans z
        cases z'
    · by_cases hb : b = a
      · exact hb
      · exact absurd (if_neg hb) z
end L2

namespace L2
open PySem PySem.Spec PyProof.Rows

abbrev KOf {K : PySem.W.Frag} {h : Heap} (_ : K.In h) : PySem.W.Frag := K

/-- the goal that k_head leaves (case hc), from the law's promise. F gives the function object fd (K's own) once, then the promise over every base -/
theorem walk_of {l : PySem.W.OpenLaw} {n k : Nat} {q : Program} {loose : List Str} {XP : (Str → Option Value) → Heap → Prop} {YP : World → Heap → Prop} {d : DefRec} {K : Params → PySem.W.Frag} {CX : World → CXT} {sp : World → Sp} {x : Str}
    (hn : l.most = some n) (hn2 : n ≤ sizeLine) (hdf : d.params.defaults = []) (hr : Room k callerA)
    (hY : ∀ (w : World) (h : Heap), YP w h → (K w.params).In h)
    (F : ∀ (w : World) (mg : Str → Option Value) (fa : Addr) (h : Heap), (K w.params).In h → h.Ns mainGlobals mg → mg d.name = some (.ref fa) →
      ∃ fd : FuncData, (∀ (s : Shared) (u : Value), BindsTo s fd ⟨[u], []⟩ [(x, u)]) ∧
        ∀ base : Heap, (K w.params).In base → base.Ns mainGlobals mg → FnOk l.prog w (K w.params) mg base (CX w) k fa fd [x] (sp w))
    (hsp : ∀ (w : World) (H : Hp) (a : Addr) (ns : List Int), ns.length ≤ n → Only H → SqL (K w.params) H a (ns.map V.int) → sp w [.ref a] H (fun v _ => v = .bl true) fun _ _ _ => False)
    (hCX : ∀ (w : World) (H : Hp) (s : Shared) (e : Value) (s' : Shared), CX w [] H s (fun _ _ _ => False) e s' → False) :
    PySem.W.WalkO q loose XP YP l.row.toRowW d [] (fun f vs => PySem.call f vs) := by
  refine Att.attach_call hn hdf fun w s₀ s₁ mg mb fa o pm cd doc a vs ns G Y ho hd hcd hmg hobj hints hlen hg => ?_
  have KX := hY w _ Y
  obtain ⟨fd, hb, hF⟩ := F w mg fa _ KX G.T.g hmg
  exact law_call KX G.T.g G.T.b G.T.builtins G.T.nolimit hg hobj hints (Nat.le_trans hlen hn2) hr hF hb (fun H hO hS => hsp w H a ns hlen hO hS) fun H e s' => hCX w H s₁ e s'
/-- the same where the promise hangs on the written part alone: (sp := My.sp_law), no hole under a binder -/
theorem walk_ofK {l : PySem.W.OpenLaw} {n k : Nat} {q : Program} {loose : List Str} {XP : (Str → Option Value) → Heap → Prop} {YP : World → Heap → Prop} {d : DefRec} {K : Params → PySem.W.Frag} {CX : CXT} {sp : PySem.W.Frag → Sp} {x : Str}
    (hn : l.most = some n) (hn2 : n ≤ sizeLine) (hdf : d.params.defaults = []) (hr : Room k callerA)
    (hY : ∀ (w : World) (h : Heap), YP w h → (K w.params).In h)
    (F : ∀ (w : World) (mg : Str → Option Value) (fa : Addr) (h : Heap), (K w.params).In h → h.Ns mainGlobals mg → mg d.name = some (.ref fa) →
      ∃ fd : FuncData, (∀ (s : Shared) (u : Value), BindsTo s fd ⟨[u], []⟩ [(x, u)]) ∧
        ∀ base : Heap, (K w.params).In base → base.Ns mainGlobals mg → FnOk l.prog w (K w.params) mg base CX k fa fd [x] (sp (K w.params)))
    (hsp : ∀ (K : PySem.W.Frag) (H : Hp) (a : Addr) (ns : List Int), ns.length ≤ n → Only H → SqL K H a (ns.map V.int) → sp K [.ref a] H (fun v _ => v = .bl true) fun _ _ _ => False)
    (hCX : ∀ (H : Hp) (s : Shared) (e : Value) (s' : Shared), CX [] H s (fun _ _ _ => False) e s' → False) :
    PySem.W.WalkO q loose XP YP l.row.toRowW d [] (fun f vs => PySem.call f vs) :=
  walk_of (K := K) (CX := fun _ => CX) (sp := fun w => sp (K w.params)) hn hn2 hdf hr hY F (fun w H a ns h1 h2 h3 => hsp (K w.params) H a ns h1 h2 h3) fun _ H s e s' => hCX H s e s'
end L2

/-! SHORT WORDS over the layer: a def of the text, its body, what a loop and a test want. -/
namespace L2
open PySem PySem.Spec PyProof.Rows

/-! ### the text by places -/
/-- the j-th statement of a class's body -/
def inClass (s : Stmt) (j : Nat) : Stmt := match s with
  | .ClassDef _ _ _ body _ _ _ _ _ _ _ => body.getD j (.Pass ⟨0, 0, 0, 0⟩)
  | _ => .Pass ⟨0, 0, 0, 0⟩
def defArgs (s : Stmt) : Arguments := match s with
  | .FunctionDef _ a _ _ _ _ _ _ _ _ => a
  | _ => { posonlyargs := [], args := [], vararg := none, kwonlyargs := [], kw_defaults := [], kwarg := none, defaults := [] }
def defBody (s : Stmt) : List Stmt := match s with
  | .FunctionDef _ _ b _ _ _ _ _ _ _ => b
  | _ => []
def defScope (s : Stmt) : Scope := match s with
  | .FunctionDef _ _ _ _ _ _ sc _ _ _ => sc
  | _ => { kind := .function, names := [], isGenerator := false, isCoroutine := false }

/-! ### no exception leaves a def -/
abbrev CX0 : CXT := fun _ _ _ _ _ _ => False
abbrev E0 : XK := fun _ _ _ => False
theorem pass0 {X : Cx} : Passes CX0 X E0 := fun _ _ _ _ _ _ _ h => h.elim

/-! ### a def (or method) of the text as it stands behind the top -/
structure Fun (K : PySem.W.Frag) (x qual : Str) (st : Stmt) (f : Addr) (fd : FuncData) : Prop where
  ex : ∃ (oc : Value) (od : Option Addr) (kV doc pm : Value) (an : Option Addr) (cdv ct : Value) (osl : Array (Option Value)),
    fd = PySem.W.fnOf x qual (defArgs st) (defBody st) (defScope st) .none kV doc pm an cdv ct ∧ K.lookup f = some ⟨oc, od, .func fd, osl⟩ ∧ PySem.W.codeIn K cdv qual = true
  kp : PySem.W.keepIn K (.ref f) = true
section
variable {P : Program} {w : World} {K : PySem.W.Frag} {mg : Str → Option Value} {base : Heap}
/-- THE RULE for a def: its body as a term of rules, and the reading of that term -/
theorem Fun.ok {x qual : Str} {st : Stmt} {f : Addr} {fd : FuncData} {N ps : List Str} {k : Nat} {sp : Sp} (F : Fun K x qual st f fd) (S : FnScope N ps (defScope st)) (len : ∀ vs H Q E, sp vs H Q E → vs.length = ps.length)
    (hbody : ∀ (cdv : Value) (A : Around) (outer : List Env) (s : Shared) (H : Hp) (vs : List V) (Q : VK) (E : XK), Room k (A.deeper (envOfC qual (defScope st) s.heap.objs.size f cdv)) → sp vs H Q E →
      ∃ t, PSs (cxOf CX0 P w K mg base N qual (defScope st) f cdv A outer s H E).nox (defBody st) t ∧ t { nx := fun _ H' => Q .non H', rt := Q } (start N vs) H) : FnOk P w K mg base CX0 (k + 1) f fd ps sp := by
  obtain ⟨oc, od, kV, doc, pm, an, cdv, ct, osl, rfl, lk, hcd⟩ := F.ex
  refine fn_of lk hcd S len fun A outer s H vs Q E hr hsp => ?_
  obtain ⟨t, h, q⟩ := hbody cdv A outer s H vs Q E hr hsp
  exact ⟨t, h.nox, q⟩
/-- how its arguments bind (no defaults): h is «fun _ _ _ _ _ _ us hl => match us, hl with | [_, _], _ => rfl», one _ a parameter -/
theorem Fun.binds {x qual : Str} {st : Stmt} {f : Addr} {fd : FuncData} {ps : List Str} (F : Fun K x qual st f fd)
    (h : ∀ (kV doc pm : Value) (an : Option Addr) (cdv ct : Value) (us : List Value), us.length = ps.length → bindArgs (PySem.W.fnOf x qual (defArgs st) (defBody st) (defScope st) .none kV doc pm an cdv ct) ⟨us, []⟩ = pure (ps.zip us)) : Binds K fd ps [] := by
  obtain ⟨oc, od, kV, doc, pm, an, cdv, ct, osl, rfl, lk, hcd⟩ := F.ex
  exact .all (h kV doc pm an cdv ct)
theorem fun_mk {x qual : Str} {st : Stmt} {f : Addr} {oc : Value} {od an : Option Addr} {osl : Array (Option Value)} {kV doc pm cdv ct : Value} (l : K.lookup f = some ⟨oc, od, .func (PySem.W.fnOf x qual (defArgs st) (defBody st) (defScope st) .none kV doc pm an cdv ct), osl⟩)
    (c : PySem.W.codeIn K cdv qual = true) (k : PySem.W.keepIn K (.ref f) = true) : Fun K x qual st f (PySem.W.fnOf x qual (defArgs st) (defBody st) (defScope st) .none kV doc pm an cdv ct) := ⟨⟨oc, od, kV, doc, pm, an, cdv, ct, osl, rfl, l, c⟩, k⟩
end
/-! ### expressions in short: the name that stands in the i-th slot -/
section
variable {X : Cx}
theorem pv (i : Nat) {x : Str} {pos : Pos} (hN : X.N[i]? = some x := by rfl) (hv : Vis X.env.scope x := by first | exact Or.inl rfl | exact Or.inr (Or.inl rfl) | exact Or.inr (Or.inr rfl)) (hd : (x == ("__debug__" : Str)) = false := by decide)
    (hcd : (x == ("__classdict__" : Str)) = false := by decide) : PE X (.Name x pos) (tVar i) := pe_var hN hv hd hcd
end

/-! ### tests -/
theorem iteT {A B : Prop} (h : A) : if true = true then A else B := by
  rw [if_pos rfl]
  exact h
theorem ite2 {c A B : Prop} [Decidable c] (h1 : c → A) (h2 : ¬ c → B) : if c then A else B := by
  by_cases h : c
  · rw [if_pos h]
    exact h1 h
  · rw [if_neg h]
    exact h2 h
/-! ### heaps -/
/-- all that was tracked is as it was -/
def Same (H H' : Hp) : Prop := ∀ b o, H b = some o → H' b = some o
theorem Same.refl (H : Hp) : Same H H := fun _ _ h => h
theorem Same.trans {H H1 H2 : Hp} (a : Same H H1) (b : Same H1 H2) : Same H H2 := fun c o h => b c o (a c o h)
theorem Same.free {H H' : Hp} (e : Same H H') {l : Addr} (h : H' l = Option.none) : H l = Option.none := by
  cases q : H l with
  | none => rfl
  | some o =>
    rw [e l o q] at h
    cases h
theorem Same.seq {K : PySem.W.Frag} {H H' : Hp} {a : Addr} {xs : List V} (e : Same H H') (h : SqL K H a xs) : SqL K H' a xs := by
  rcases h with (h | ⟨o, h⟩) | h
  · exact .inl (.inl (e _ _ h))
  · exact .inl (.inr ⟨o, e _ _ h⟩)
  · exact .inr h

end L2
namespace L2
open PySem PySem.Spec PyProof.Rows

/-! ### lists of pairs as tables -/
section
variable {κ : Type} [DecidableEq κ]
def valV (kvs : List (κ × V)) (k : κ) : Option V := (kvs.find? fun kv => decide (kv.1 = k)).map (·.2)
/-- in its place, or at the end -/
def putK (kvs : List (κ × V)) (k : κ) (v : V) : List (κ × V) :=
  if (kvs.any fun kv => decide (kv.1 = k)) = true then kvs.map (fun kv => if kv.1 = k then (kv.1, v) else kv) else kvs ++ [(k, v)]
def dropK (kvs : List (κ × V)) (k : κ) : List (κ × V) := kvs.filter fun kv => decide (kv.1 ≠ k)

theorem valV_nil {k : κ} : valV ([] : List (κ × V)) k = none := rfl
theorem valV_pos {p : κ × V} {r : List (κ × V)} {k : κ} (e : p.1 = k) : valV (p :: r) k = some p.2 := by simp [valV, List.find?_cons, e]
theorem valV_neg {p : κ × V} {r : List (κ × V)} {k : κ} (e : ¬ p.1 = k) : valV (p :: r) k = valV r k := by simp [valV, List.find?_cons, e]
theorem valV_any (k : κ) : ∀ kvs : List (κ × V), (kvs.any fun kv => decide (kv.1 = k)) = (valV kvs k).isSome
  | [] => rfl
  | p :: r => by
    rw [List.any_cons]
    by_cases e : p.1 = k
    · simp only [valV_pos e, decide_eq_true e, Bool.true_or, Option.isSome_some]
    · rw [valV_neg e, decide_eq_false e, Bool.false_or]; exact valV_any k r
theorem valV_map (k j : κ) (y : V) : ∀ kvs : List (κ × V), valV (kvs.map fun kv => if kv.1 = k then (kv.1, y) else kv) j = (valV kvs j).map fun x => if j = k then y else x
  | [] => rfl
  | p :: r => by
    have ih := valV_map k j y r
    rw [List.map_cons]
    by_cases h : p.1 = k
    · rw [if_pos h]
      by_cases e : p.1 = j
      · rw [valV_pos (p := (p.1, y)) e, valV_pos e, Option.map_some, if_pos (e.symm.trans h)]
      · rw [valV_neg (p := (p.1, y)) e, valV_neg e, ih]
    · rw [if_neg h]
      by_cases e : p.1 = j
      · rw [valV_pos (p := p) e, valV_pos e, Option.map_some, if_neg (fun z => h (e.trans z))]
      · rw [valV_neg (p := p) e, valV_neg e, ih]
theorem valV_snoc (k j : κ) (y : V) : ∀ kvs : List (κ × V), valV kvs k = none → valV (kvs ++ [(k, y)]) j = if j = k then some y else valV kvs j
  | [], _ => by
    by_cases e : k = j
    · rw [if_pos e.symm]; exact valV_pos (p := (k, y)) e
    · rw [if_neg (fun z => e z.symm)]; exact valV_neg (p := (k, y)) e
  | p :: r, hn => by
    rw [List.cons_append]
    have hk : ¬ p.1 = k := fun z => by rw [valV_pos z] at hn; cases hn
    rw [valV_neg hk] at hn
    have ih := valV_snoc k j y r hn
    by_cases e : p.1 = j
    · rw [valV_pos e, valV_pos e, if_neg (fun z => hk (e.trans z))]
    · rw [valV_neg e, valV_neg e, ih]
theorem valV_put (kvs : List (κ × V)) (k j : κ) (y : V) : valV (putK kvs k y) j = if j = k then some y else valV kvs j := by
  unfold putK
  by_cases a : (kvs.any fun kv => decide (kv.1 = k)) = true
  · rw [if_pos a, valV_map]
    rw [valV_any] at a
    by_cases e : j = k
    · obtain ⟨x, hx⟩ := Option.isSome_iff_exists.mp a
      rw [if_pos e, e, hx, Option.map_some, if_pos rfl]
    · rw [if_neg e]
      cases valV kvs j with
      | none => rfl
      | some x => rw [Option.map_some, if_neg e]
  · rw [if_neg a]
    refine valV_snoc k j y kvs ?_
    rw [valV_any] at a
    cases q : valV kvs k with
    | none => rfl
    | some x => rw [q] at a; exact (a rfl).elim
theorem length_putK (kvs : List (κ × V)) (k : κ) (v : V) : (putK kvs k v).length ≤ kvs.length + 1 := by
  unfold putK
  split
  · rw [List.length_map]; omega
  · rw [List.length_append, List.length_cons, List.length_nil]; omega
theorem putK_new {kvs : List (κ × V)} {k : κ} (v : V) (h : valV kvs k = none) : putK kvs k v = kvs ++ [(k, v)] := by
  unfold putK
  rw [valV_any, h]
  exact if_neg (by decide)

theorem RelO.isSome_eq {o : Option V} {u : Option Value} (r : RelO o u) : o.isSome = u.isSome := by
  cases o with
  | none => cases u with
    | none => rfl
    | some _ => exact (show False from r).elim
  | some _ => cases u with
    | none => exact (show False from r).elim
    | some _ => rfl
theorem RelO.getD {o : Option V} {u : Option Value} {d : V} {d' : Value} (r : RelO o u) (rd : RelV d d') : RelV (o.getD d) (u.getD d') := by
  cases o with
  | none => cases u with
    | none => exact rd
    | some _ => exact (show False from r).elim
  | some _ => cases u with
    | none => exact (show False from r).elim
    | some _ => exact r

/-- raw tables of the same keys -/
theorem KV.val {kvs : List (κ × V)} {vs : List (κ × Value)} (r : KV kvs vs) (k : κ) : RelO (valV kvs k) (valueAt vs k) := by
  unfold KV at r
  induction r with
  | nil => exact True.intro
  | @cons p q ps qs h t ih =>
    obtain ⟨h1, h2⟩ := h
    by_cases e : p.1 = k
    · have e' : q.1 = k := h1.symm.trans e
      have b : valueAt (q :: qs) k = some q.2 := by simp [valueAt, List.find?_cons, e']
      rw [valV_pos e, b]; exact h2
    · have e' : ¬ q.1 = k := fun z => e (h1.trans z)
      have b : valueAt (q :: qs) k = valueAt qs k := by simp [valueAt, List.find?_cons, e']
      rw [valV_neg e, b]; exact ih
theorem KV.any {kvs : List (κ × V)} {vs : List (κ × Value)} (r : KV kvs vs) (k : κ) : (kvs.any fun kv => decide (kv.1 = k)) = vs.any fun kv => decide (kv.1 = k) := by
  unfold KV at r
  induction r with
  | nil => rfl
  | cons h t ih => rw [List.any_cons, List.any_cons, ih, h.1]
theorem KV.repl {kvs : List (κ × V)} {vs : List (κ × Value)} (r : KV kvs vs) (k : κ) {y : V} {u : Value} (ry : RelV y u) :
    KV (kvs.map fun kv => if kv.1 = k then (kv.1, y) else kv) (vs.map fun kv => if kv.1 = k then (kv.1, u) else kv) := by
  unfold KV at r ⊢
  induction r with
  | nil => exact .nil
  | @cons p q ps qs h t ih =>
    rw [List.map_cons, List.map_cons]
    refine .cons ?_ ih
    obtain ⟨h1, h2⟩ := h
    by_cases e : p.1 = k
    · rw [if_pos e, if_pos (h1.symm.trans e)]; exact ⟨h1, ry⟩
    · rw [if_neg e, if_neg (fun z => e (h1.trans z))]; exact ⟨h1, h2⟩
theorem KV.put {kvs : List (κ × V)} {vs : List (κ × Value)} (r : KV kvs vs) (k : κ) {y : V} {u : Value} (ry : RelV y u) : KV (putK kvs k y) (stored vs k u) := by
  unfold putK stored
  rw [r.any k]
  by_cases e : (vs.any fun kv => decide (kv.1 = k)) = true
  · rw [if_pos e, if_pos e]; exact r.repl k ry
  · rw [if_neg e, if_neg e]; exact Paired.snoc r ⟨rfl, ry⟩
theorem KV.drop {kvs : List (κ × V)} {vs : List (κ × Value)} (r : KV kvs vs) (k : κ) : KV (dropK kvs k) (without vs k) := by
  unfold KV at r ⊢
  unfold dropK without
  induction r with
  | nil => exact .nil
  | @cons p q ps qs h t ih =>
    obtain ⟨h1, h2⟩ := h
    rw [List.filter_cons, List.filter_cons]
    by_cases e : p.1 = k
    · have a : ¬ decide (p.1 ≠ k) = true := by simp [e]
      have b : ¬ decide (q.1 ≠ k) = true := by simp [h1.symm.trans e]
      rw [if_neg a, if_neg b]; exact ih
    · have e' : ¬ q.1 = k := fun z => e (h1.trans z)
      have a : decide (p.1 ≠ k) = true := by simp [e]
      have b : decide (q.1 ≠ k) = true := by simp [e']
      rw [if_pos a, if_pos b]; exact .cons ⟨h1, h2⟩ ih
theorem KV.keys {kvs : List (κ × V)} {vs : List (κ × Value)} (r : KV kvs vs) : kvs.map (·.1) = vs.map (·.1) := by
  unfold KV at r
  induction r with
  | nil => rfl
  | cons h t ih => rw [List.map_cons, List.map_cons, ih, h.1]
theorem KV.length {kvs : List (κ × V)} {vs : List (κ × Value)} (r : KV kvs vs) : kvs.length = vs.length := Paired.length r
theorem dropK_le (kvs : List (κ × V)) (k : κ) : (dropK kvs k).length ≤ kvs.length := List.length_filter_le _ _
end


/-! ### a tracked dict, its keys ints and texts or tuples of these -/
theorem kV_is {P : Program} {w : World} {k : Key} {u : Value} (r : RelV (kV k) u) : (mixKind P w).is k u = true := by
  cases k with
  | inl i => obtain ⟨t, e⟩ := (show ∃ t, u = Value.int i t from r); subst e; exact mixKind_int P w i t
  | inr x => obtain ⟨t, e⟩ := (show ∃ t, u = Value.str x t from r); subst e; exact mixKind_str P w x t
theorem items_are {P : Program} {w : World} : ∀ {ks : List Key} {us : List Value}, Vals (ks.map kV) us → ItemsAre (mixKind P w) ks us
  | [], _, r => by rw [List.map_nil] at r; cases r; exact .nil
  | k :: ks, _, r => by
    rw [List.map_cons] at r
    cases r with
    | cons h t => exact .cons (kV_is h) (items_are t)

/-- raw entries of a dict with tuple keys -/
abbrev KT (H : Hp) : List (List Key × V) → List (List Key × Addr × Value) → Prop := Paired fun p q => p.1 = q.1 ∧ H q.2.1 = some (.tup (p.1.map kV)) ∧ RelV p.2 q.2.2
theorem KT.val {H : Hp} {kvs : List (List Key × V)} {xs : List (List Key × Addr × Value)} (r : KT H kvs xs) (k : List Key) : RelO (valV kvs k) ((atKey xs k).map (·.2)) := by
  induction r with
  | nil => exact True.intro
  | @cons p q ps qs h t ih =>
    obtain ⟨h1, _, h2⟩ := h
    by_cases e : p.1 = k
    · have e' : q.1 = k := h1.symm.trans e
      have b : atKey (q :: qs) k = some q.2 := by simp [atKey, List.find?_cons, e']
      rw [valV_pos e, b]; exact h2
    · have e' : ¬ q.1 = k := fun z => e (h1.trans z)
      have b : atKey (q :: qs) k = atKey qs k := by simp [atKey, List.find?_cons, e']
      rw [valV_neg e, b]; exact ih
theorem KT.repl {H : Hp} {kvs : List (List Key × V)} {xs : List (List Key × Addr × Value)} (r : KT H kvs xs) (k : List Key) {y : V} {u : Value} (ry : RelV y u) :
    KT H (kvs.map fun kv => if kv.1 = k then (kv.1, y) else kv) (xs.map (putAt k u)) := by
  induction r with
  | nil => exact .nil
  | @cons p q ps qs h t ih =>
    rw [List.map_cons, List.map_cons]
    refine .cons ?_ ih
    obtain ⟨h1, h2, h3⟩ := h
    unfold putAt
    by_cases e : p.1 = k
    · rw [if_pos e, if_pos (h1.symm.trans e)]; exact ⟨h1, h2, ry⟩
    · rw [if_neg e, if_neg (fun z => e (h1.trans z))]; exact ⟨h1, h2, h3⟩
theorem KT.put {H : Hp} {kvs : List (List Key × V)} {xs : List (List Key × Addr × Value)} (r : KT H kvs xs) (k : List Key) {b : Addr} {y : V} {u : Value} (hb : H b = some (.tup (k.map kV))) (ry : RelV y u) :
    KT H (putK kvs k y) (storedH xs k b u) := by
  have e : (kvs.any fun kv => decide (kv.1 = k)) = (atKey xs k).isSome := by
    rw [valV_any, (r.val k).isSome_eq, Option.isSome_map]
  unfold putK storedH
  rw [e]
  by_cases q : (atKey xs k).isSome = true
  · rw [if_pos q, if_pos q]; exact r.repl k ry
  · rw [if_neg q, if_neg q]; exact Paired.snoc r ⟨rfl, hb, ry⟩
theorem KT.keeps {H H' : Hp} {kvs : List (List Key × V)} {xs : List (List Key × Addr × Value)} (r : KT H kvs xs) (ht : ∀ b ys, H b = some (.tup ys) → H' b = some (.tup ys)) : KT H' kvs xs :=
  Paired.mapP r fun _ _ z => ⟨z.1, ht _ _ z.2.1, z.2.2⟩

section
variable {P : Program} {w : World} {H : Hp} {h : Heap} {a : Addr}
theorem rd_of {u : HO} (ok : HOk P w H h) (e : Rd H a u) : ObjOk P w H h a u := e.ok ok
theorem dk_rd {kvs : List (Key × V)} (ok : HOk P w H h) (e : Rd H a (.dK kvs)) : kvs.length ≤ sizeLine ∧ (a == sysModules) = false ∧ ∃ vs, KV kvs vs ∧ h.DictOf (mixKind P w) a vs :=
  show ObjOk P w H h a (.dK kvs) from rd_of ok e
theorem dk_of {kvs : List (Key × V)} (ok : HOk P w H h) (e : H a = some (.dK kvs)) : kvs.length ≤ sizeLine ∧ (a == sysModules) = false ∧ ∃ vs, KV kvs vs ∧ h.DictOf (mixKind P w) a vs := dk_rd ok (.inl e)
/-- a tracked tuple of ints and texts is a key -/
theorem key_of {ks : List Key} (ok : HOk P w H h) (e : H a = some (.tup (ks.map kV))) : (tupleKind (mixKind P w)).is h ks a := by
  obtain ⟨_, its, r, o, h1, h2, n, h3⟩ := (show ObjOk P w H h a (.tup (ks.map kV)) from ok a _ e)
  exact ⟨o, its.toArray, n, h1, h2, h3, by simpa using items_are r⟩
theorem dt_rd {kvs : List (List Key × V)} (ok : HOk P w H h) (e : Rd H a (.dT kvs)) : kvs.length ≤ sizeLine ∧ (a == sysModules) = false ∧
    ∃ xs, KT H kvs xs ∧ h.DictOfH (tupleKind (mixKind P w)) a xs := by
  obtain ⟨z, y, xs, r, o, es, ep, h1, h2, h3, h4, h5⟩ := (show ObjOk P w H h a (.dT kvs) from rd_of ok e)
  refine ⟨z, y, xs, r, o, es, ep, h1, h2, h3, h4, fun x hx => ?_, h5⟩
  have all : ∀ {l : List (List Key × V)} {m : List (List Key × Addr × Value)}, KT H l m → ∀ x ∈ m, (tupleKind (mixKind P w)).is h x.1 x.2.1 := by
    intro l m q
    induction q with
    | nil => intro x hx; exact nomatch hx
    | @cons p q ps qs hq t ih =>
      intro x hx
      rcases List.mem_cons.mp hx with e | hx
      · subst e
        exact key_of ok (by rw [← hq.1]; exact hq.2.1)
      · exact ih x hx
  exact all r x hx
theorem dt_of {kvs : List (List Key × V)} (ok : HOk P w H h) (e : H a = some (.dT kvs)) : kvs.length ≤ sizeLine ∧ (a == sysModules) = false ∧
    ∃ xs, KT H kvs xs ∧ h.DictOfH (tupleKind (mixKind P w)) a xs := dt_rd ok (.inl e)
end

/-- what the dict at a holds at the key y -/
def DGet (H : Hp) (a : Addr) (y : V) (r : Option V) : Prop :=
  (∃ kvs k, Rd H a (.dK kvs) ∧ y = kV k ∧ r = valV kvs k) ∨ ∃ kvs k b, Rd H a (.dT kvs) ∧ y = .ref b ∧ H b = some (.tup (k.map kV)) ∧ r = valV kvs k
/-- the heap behind a[y] = v -/
def DPut (H : Hp) (a : Addr) (y v : V) (H' : Hp) : Prop :=
  (∃ kvs k, H a = some (.dK kvs) ∧ y = kV k ∧ kvs.length < sizeLine ∧ H' = upd H a (.dK (putK kvs k v))) ∨
  ∃ kvs k b, H a = some (.dT kvs) ∧ y = .ref b ∧ H b = some (.tup (k.map kV)) ∧ kvs.length < sizeLine ∧ H' = upd H a (.dT (putK kvs k v))
theorem DGet.k {H : Hp} {a : Addr} {kvs : List (Key × V)} {k : Key} (e : H a = some (.dK kvs)) : DGet H a (kV k) (valV kvs k) := .inl ⟨kvs, k, .inl e, rfl, rfl⟩
theorem DGet.t {H : Hp} {a b : Addr} {kvs : List (List Key × V)} {k : List Key} (e : H a = some (.dT kvs)) (eb : H b = some (.tup (k.map kV))) : DGet H a (.ref b) (valV kvs k) := .inr ⟨kvs, k, b, .inl e, rfl, eb, rfl⟩
theorem DPut.k {H : Hp} {a : Addr} {kvs : List (Key × V)} {k : Key} {v : V} (e : H a = some (.dK kvs)) (hl : kvs.length < sizeLine) : DPut H a (kV k) v (upd H a (.dK (putK kvs k v))) := .inl ⟨kvs, k, e, rfl, hl, rfl⟩
theorem DPut.t {H : Hp} {a b : Addr} {kvs : List (List Key × V)} {k : List Key} {v : V} (e : H a = some (.dT kvs)) (eb : H b = some (.tup (k.map kV))) (hl : kvs.length < sizeLine) :
    DPut H a (.ref b) v (upd H a (.dT (putK kvs k v))) := .inr ⟨kvs, k, b, e, rfl, eb, hl, rfl⟩


section
variable {X : Cx} {pins : List (Addr × Obj)} {σ : St} {H : Hp} {s : Shared} {a : Addr} {y v : V} {u r : Value} {o : Option V} {A : Around} {E : Value → Shared → Prop}

theorem Inv.big (I : Inv X pins σ H s) : sysModules < s.heap.objs.size := by
  have h : mainGlobals < s.heap.objs.size := (I.mod.glob.keeps I.bk).lt
  exact Nat.lt_trans (by decide) h

/-- d[y], there -/
theorem d_getItem {Q : Value → Shared → Prop} (hu : A.units + 1 < cLine) (I : Inv X pins σ H s) (g : DGet H a y (some v)) (ry : RelV y u) (h : ∀ w' s', Inv X pins σ H s' → RelV v w' → Q w' s') :
    wpAny (model X.prog X.w) A (getItem (.ref a) u) Q E s := by
  rcases g with ⟨kvs, k, e, ey, l⟩ | ⟨kvs, k, b, e, ey, eb, l⟩
  · subst ey
    obtain ⟨z, hd, vs, rel, dd⟩ := dk_rd I.hok e
    obtain ⟨w', hw, rw'⟩ := RelO.some_of (v := v) (o := valueAt vs k) (by rw [l]; exact rel.val k)
    exact wpAny_getItem_of (kV_is ry) dd.mapOf hw (h w' _ (I.tok _) rw')
  · subst ey
    cases (show u = Value.ref b from ry)
    obtain ⟨z, hd, xs, rel, dd⟩ := dt_rd I.hok e
    obtain ⟨w', hw, rw'⟩ := RelO.some_of (v := v) (o := (atKey xs k).map (·.2)) (by rw [l]; exact rel.val k)
    obtain ⟨p, hp, hp2⟩ := Option.map_eq_some_iff.mp hw
    refine wpAny_getItem_heap (tupleKind_room_in1 hu) (key_of I.hok eb) dd hp ?_
    rw [hp2]
    exact h w' _ (I.tok _) rw'
/-- y in d -/
theorem d_in {Q : Value → Shared → Prop} (hu : A.units + 1 < cLine) (I : Inv X pins σ H s) (g : DGet H a y o) (ry : RelV y u) (h : ∀ s', Inv X pins σ H s' → Q (.bool o.isSome) s') :
    wpAny (model X.prog X.w) A (compareOp .In u (.ref a)) Q E s := by
  rcases g with ⟨kvs, k, e, ey, l⟩ | ⟨kvs, k, b, e, ey, eb, l⟩
  · subst ey
    obtain ⟨z, hd, vs, rel, dd⟩ := dk_rd I.hok e
    refine wpAny_in_of (kV_is ry) hd dd.mapOf ?_
    rw [← (rel.val k).isSome_eq, ← l]
    exact h _ (I.tok _)
  · subst ey
    cases (show u = Value.ref b from ry)
    obtain ⟨z, hd, xs, rel, dd⟩ := dt_rd I.hok e
    refine wpAny_in_heap (tupleKind_room_in1 hu) (key_of I.hok eb) hd dd ?_
    have q := (rel.val k).isSome_eq
    rw [Option.isSome_map] at q
    rw [← q, ← l]
    exact h _ (I.tok _)
theorem d_notIn {Q : Value → Shared → Prop} (hu : A.units + 1 < cLine) (I : Inv X pins σ H s) (g : DGet H a y o) (ry : RelV y u) (h : ∀ s', Inv X pins σ H s' → Q (.bool (!o.isSome)) s') :
    wpAny (model X.prog X.w) A (compareOp .NotIn u (.ref a)) Q E s := by
  rcases g with ⟨kvs, k, e, ey, l⟩ | ⟨kvs, k, b, e, ey, eb, l⟩
  · subst ey
    obtain ⟨z, hd, vs, rel, dd⟩ := dk_rd I.hok e
    refine wpAny_notIn_of (kV_is ry) hd dd.mapOf ?_
    rw [← (rel.val k).isSome_eq, ← l]
    exact h _ (I.tok _)
  · subst ey
    cases (show u = Value.ref b from ry)
    obtain ⟨z, hd, xs, rel, dd⟩ := dt_rd I.hok e
    refine wpAny_notIn_heap (tupleKind_room_in1 hu) (key_of I.hok eb) hd dd ?_
    have q := (rel.val k).isSome_eq
    rw [Option.isSome_map] at q
    rw [← q, ← l]
    exact h _ (I.tok _)
/-- a dict's object is replaced -/
theorem d_write {h' : Heap} {t' : Nat} {ob : HO} (I : Inv X pins σ H s) (mu : Mut (H a)) (hs : Heap.SameBut a s.heap h') (he : ∃ q, h'.get? a = some q) (new : ObjOk X.prog X.w (upd H a ob) h' a ob) :
    Inv X pins σ (upd H a ob) { s with heap := h', toks := t' } :=
  I.write (x := a) (e := a) mu (.inl rfl) (fun b q hb z => (hs.2 b hb).trans z) he new
theorem dk_new {P : Program} {w : World} {H' : Hp} {h' : Heap} {kvs : List (Key × V)} {vs : List (Key × Value)} (z : kvs.length ≤ sizeLine) (hd : (a == sysModules) = false) (rel : KV kvs vs) (dd : h'.DictOf (mixKind P w) a vs) :
    ObjOk P w H' h' a (.dK kvs) := ⟨z, hd, vs, rel, dd⟩
/-- d[y] = v -/
theorem d_setItem {H' : Hp} {Q : Unit → Shared → Prop} (hu : A.units + 1 < cLine) (I : Inv X pins σ H s) (g : DPut H a y v H') (ry : RelV y u) (rv : RelV v r) (h : ∀ s', Inv X pins σ H' s' → Q () s') :
    wpAny (model X.prog X.w) A (setItem (.ref a) u r) Q E s := by
  rcases g with ⟨kvs, k, e, ey, l, eH⟩ | ⟨kvs, k, b, e, ey, eb, l, eH⟩
  · subst ey eH
    obtain ⟨z, hd, vs, rel, dd⟩ := dk_of I.hok e
    have hz : vs.length ≤ sizeLine := by rw [← rel.length]; exact z
    have hl : (putK kvs k v).length ≤ sizeLine := by have := length_putK kvs k v; omega
    refine wpAny_setItem_pairs (hsz := hz) (kV_is ry) dd fun h' dd' hs => h _ ?_
    have he : ∃ q, h'.get? a = some q := let ⟨q, _, _, hq, _⟩ := dd'; ⟨q, hq⟩
    exact d_write I (by rw [e]; exact True.intro) hs he (dk_new hl hd (rel.put k rv) dd')
  · subst ey eH
    cases (show u = Value.ref b from ry)
    obtain ⟨z, hd, xs, rel, dd⟩ := dt_of I.hok e
    have hz : xs.length ≤ sizeLine := by rw [← Paired.length rel]; exact z
    have hl : (putK kvs k v).length ≤ sizeLine := by have := length_putK kvs k v; omega
    refine wpAny_setItem_heap (hsz := hz) (tupleKind_room_in1 hu) (key_of I.hok eb) dd fun h' dd' hs => h _ ?_
    obtain ⟨q, es, ep, hq, h2, h3, h4, _, h5⟩ := dd'
    refine d_write I (by rw [e]; exact True.intro) hs ⟨q, hq⟩ ⟨hl, hd, _, (rel.put k eb rv).keeps fun c ys ec => ?_, q, es, ep, hq, h2, h3, h4, h5⟩
    rw [upd_ne (ne_of ec e (fun z => nomatch z))]
    exact ec
end

section
variable {X : Cx} {pins : List (Addr × Obj)} {σ : St} {H : Hp} {s : Shared} {a : Addr} {kvs : List (Key × V)} {k : Key} {u : Value} {A : Around} {E : Value → Shared → Prop}
/-- d.pop(k[, x]), there -/
theorem d_pop {v : V} {more : List Value} {Q : Value → Shared → Prop} (I : Inv X pins σ H s) (e : H a = some (.dK kvs)) (ry : RelV (kV k) u) (l : valV kvs k = some v) (hm : more = [] ∨ ∃ x, more = [x])
    (h : ∀ w' s', Inv X pins σ (upd H a (.dK (dropK kvs k))) s' → RelV v w' → Q w' s') : wpAny (model X.prog X.w) A (call (.builtin "dict.pop") (.ref a :: u :: more)) Q E s := by
  obtain ⟨z, hd, vs, rel, dd⟩ := dk_of I.hok e
  obtain ⟨w', hw, rw'⟩ := RelO.some_of (v := v) (o := valueAt vs k) (by rw [← l]; exact rel.val k)
  have hp : (keyPart u).isSome = true := by
    cases k with
    | inl i => obtain ⟨t, q⟩ := (show ∃ t, u = Value.int i t from ry); subst q; rfl
    | inr x => obtain ⟨t, q⟩ := (show ∃ t, u = Value.str x t from ry); subst q; rfl
  have ha : argsOk "dict.pop" ⟨.ref a :: u :: more, []⟩ := by
    rcases hm with q | ⟨x, q⟩
    · subst q; exact PySem.F.args_dict_pop_2 _ _
    · subst q; exact PySem.F.args_dict_pop_3 _ _ _
  refine call_meetsIn PySem.F.slot_dict_pop dd.typeIs PySem.F.entry_dict_pop ha (meets_dict_pop_there (mixKind X.prog X.w) a (kV_is ry) more hm hp)
    ⟨vs, w', dd, by rw [← rel.length]; exact z, hw, fun h' dd' hs => h w' _ ?_ rw'⟩
  have he : ∃ q, h'.get? a = some q := let ⟨q, _, _, hq, _⟩ := dd'; ⟨q, hq⟩
  exact d_write I (by rw [e]; exact True.intro) hs he (dk_new (Nat.le_trans (dropK_le kvs k) z) hd (rel.drop k) dd')
/-- len(d) -/
theorem d_len {Q : Value → Shared → Prop} (I : Inv X pins σ H s) (e : Rd H a (.dK kvs)) (h : ∀ t s', Inv X pins σ H s' → Q (.int kvs.length t) s') : wpAny (model X.prog X.w) A (call (.builtin "len") [.ref a]) Q E s := by
  obtain ⟨z, hd, vs, rel, dd⟩ := dk_rd I.hok e
  refine call_len_dict hd dd (by rw [← rel.length]; rw [sizeLine_eq] at z; omega) ?_
  rw [← rel.length]
  exact h _ _ (I.tok _)
end


/-! ### readings and rules -/
theorem dict_typeIs {X : Cx} {pins : List (Addr × Obj)} {σ : St} {H : Hp} {s : Shared} {a : Addr} {y : V} {o : Option V} (I : Inv X pins σ H s) (g : DGet H a y o) : s.TypeIs (.ref a) "dict" := by
  rcases g with ⟨kvs, k, e, _, _⟩ | ⟨kvs, k, b, e, _, _, _⟩
  · obtain ⟨_, _, vs, _, dd⟩ := dk_rd I.hok e
    exact dd.typeIs
  · obtain ⟨_, _, xs, _, dd⟩ := dt_rd I.hok e
    exact dd.typeIs
/-- d[y] -/
def tDGet (td ty : TE) : TE := fun σ H Q => td σ H fun x H1 => ty σ H1 fun y H2 => ∃ a v, x = .ref a ∧ DGet H2 a y (some v) ∧ Q v H2
/-- d[y] = v -/
def sDPut (td ty tv : TE) : TS := fun D σ H => tv σ H fun v H1 => td σ H1 fun x H2 => ty σ H2 fun y H3 => ∃ a H4, x = .ref a ∧ DPut H3 a y v H4 ∧ D.nx σ H4
section
variable {X : Cx} {o i e value : Expr} {pos pos' tpos : Pos} {td ty tv : TE}
end


/-! ### displays -/
theorem dk_empty {P : Program} {w : World} {H : Hp} (h : Heap) (hb : sysModules < h.objs.size) : ObjOk P w H (h.push { cls := .type "dict", data := .dict #[] }) h.objs.size (.dK []) :=
  ⟨Nat.zero_le _, beq_eq_false_iff_ne.mpr (Ne.symm (Nat.ne_of_lt hb)), [], .nil, Heap.DictOf.new h⟩
/-- {}, to be a dict of the kind that is wanted -/
def tDNewK : TE := fun _ H Q => ∀ p, H p = none → Q (.ref p) (upd H p (.dK []))
section
variable {X : Cx} {pos : Pos}
theorem pe_dnewK : PE X (.Dict [] [] pos) tDNewK := fun pins s σ H Q I h =>
  wpAny_Dict_empty ⟨.ref s.heap.objs.size, _, I.laid (a := s.heap.objs.size) (o := .dK []) (t' := s.toks) (fun _ _ q => Heap.get?_push_of_some _ q) (Nat.le_refl _) (dk_empty s.heap I.big), rfl, h _ (I.hok.fresh (Nat.le_refl _))⟩
end

/-- the pairs of a display, from the left -/
def tPairs : List (TE × TE) → St → Hp → (List (V × V) → Hp → Prop) → Prop
  | [], _, H, Q => Q [] H
  | (tk, tv) :: r, σ, H, Q => tk σ H fun x H1 => tv σ H1 fun y H2 => tPairs r σ H2 fun ps H3 => Q ((x, y) :: ps) H3
def mergeK (kvs more : List (Key × V)) : List (Key × V) := more.foldl (fun acc kv => putK acc kv.1 kv.2) kvs
/-- {k: v, ..} with keys ints and texts; the new dict stands empty while the pairs are made -/
def tDisp (trs : List (TE × TE)) : TE := fun σ H Q => ∀ p, H p = none → tPairs trs σ (upd H p (.dK [])) fun ps H2 => H2 p = some (.dK []) ∧ ∃ kvs : List (Key × V), ps = kvs.map (fun kv => (kV kv.1, kv.2)) ∧ kvs.length ≤ 15 ∧ Q (.ref p) (upd H2 p (.dK (mergeK [] kvs)))
/-! ### methods -/
/-- a method call o.m(e) of a built-in, with one argument: what must be seen of the text -/
structure M1 (X : Cx) (o : Expr) (m : Str) (apos : Pos) (e : Expr) (cpos : Pos) : Prop where
  base : attributeBase o m X.env (eval o X.env) = eval o X.env
  few : ((backTo cpos (starEach [e] X.env)).all (fun x => !x.1) && (backToKw cpos (keywordEach [] X.env)).all (fun x => x.1.isSome)
    && decide (([e] : List Expr).length + ([] : List Keyword).length + (if ([] : List Keyword).isEmpty then 0 else 1) < 30)) = true
  line : (apos.endLine == cpos.line) = true
  trees : backTo cpos (starEach [e] X.env) = [(false, eval e X.env)]
structure M2 (X : Cx) (o : Expr) (m : Str) (apos : Pos) (e f : Expr) (cpos : Pos) : Prop where
  base : attributeBase o m X.env (eval o X.env) = eval o X.env
  few : ((backTo cpos (starEach [e, f] X.env)).all (fun x => !x.1) && (backToKw cpos (keywordEach [] X.env)).all (fun x => x.1.isSome)
    && decide (([e, f] : List Expr).length + ([] : List Keyword).length + (if ([] : List Keyword).isEmpty then 0 else 1) < 30)) = true
  line : (apos.endLine == cpos.line) = true
  trees : backTo cpos (starEach [e, f] X.env) = [(false, eval e X.env), (false, eval f X.env)]

/-- a is a dict, whatever its keys -/
def IsD (H : Hp) (a : Addr) : Prop := (∃ kvs, Rd H a (.dK kvs)) ∨ ∃ kvs, Rd H a (.dT kvs)
theorem isD_at {X : Cx} {pins : List (Addr × Obj)} {σ : St} {H : Hp} {s : Shared} {a : Addr} (I : Inv X pins σ H s) (d : IsD H a) :
    s.TypeIs (.ref a) "dict" ∧ (∀ b, Value.ref a = .ref b → ∃ ob, s.heap.get? b = some ob ∧ ob.dict = none) ∧ (a == sysModules) = false := by
  rcases d with ⟨kvs, e⟩ | ⟨kvs, e⟩
  · obtain ⟨_, hd, vs, _, dd⟩ := dk_rd I.hok e
    refine ⟨dd.typeIs, fun b q => ?_, hd⟩
    cases q
    obtain ⟨ob, _, _, h1, h2, _⟩ := dd
    exact ⟨ob, h1, h2.2.1⟩
  · obtain ⟨_, hd, xs, _, dd⟩ := dt_rd I.hok e
    refine ⟨dd.typeIs, fun b q => ?_, hd⟩
    cases q
    obtain ⟨ob, _, _, h1, h2, _⟩ := dd
    exact ⟨ob, h1, h2.2.1⟩

section
variable {X : Cx} {pins : List (Addr × Obj)} {σ : St} {H : Hp} {s : Shared} {a : Addr} {y d : V} {u r : Value} {o : Option V} {A : Around} {E : Value → Shared → Prop}
end

/-- d.pop(k): there; d.pop(k, x): there or not -/
def tDPop1 (td ty : TE) : TE := fun σ H Q => td σ H fun x H1 => ∃ a, x = .ref a ∧ IsD H1 a ∧ ty σ H1 fun y H2 => ∃ kvs k v, H2 a = some (.dK kvs) ∧ y = kV k ∧ valV kvs k = some v ∧ Q v (upd H2 a (.dK (dropK kvs k)))
section
variable {X : Cx} {o e f : Expr} {apos cpos : Pos} {td ty tx : TE}
theorem pe_dpop1 (ho : PE X o td) (he : PE X e ty) (m : M1 X o "pop" apos e cpos) : PE X (.Call (.Attribute o "pop" apos) [e] [] cpos) (tDPop1 td ty) := by
  intro pins s σ H Q I h
  refine wpAny_Call_method m.base m.few m.line PySem.F.plainAttrs_dict PySem.F.slot_dict_pop PySem.F.type_dict_pop (thn (ho pins s σ H _ I h) fun u s1 ⟨x, H1, I1, rx, a, ex, d, q1⟩ => ?_)
  subst ex
  obtain rfl : u = Value.ref a := rx
  obtain ⟨t1, t2, _⟩ := isD_at I1 d
  refine ⟨t1, t2, ?_⟩
  rw [m.trees]
  refine Calls.callWith_builtin rfl (Calls.evalArgs_plain (Calls.spliced_cons (thn (he pins s1 σ H1 _ I1 q1) fun iv s2 ⟨y, H2, I2, ry, kvs, k, v, ea, ey, l, q2⟩ => Calls.spliced_nil ?_)))
  subst ey
  exact d_pop I2 ea ry l (.inl rfl) fun w' s3 I3 rw' => ⟨v, _, I3, rw', q2⟩
end

/-! ### dict(d): a copy -/
section
variable {X : Cx} {pins : List (Addr × Obj)} {σ : St} {H : Hp} {s : Shared} {a : Addr} {kvs : List (Key × V)} {A : Around} {E : Value → Shared → Prop}
end


section
variable {X : Cx} {pins : List (Addr × Obj)} {σ : St} {H : Hp} {s : Shared} {a : Addr} {y : V} {u : Value} {A : Around} {E : Value → Shared → Prop}
end
end L2

namespace L2
open PySem PySem.Spec PyProof.Rows
/-! ### a dict's pairs: keys that differ -/
section
variable {κ : Type} [DecidableEq κ]
theorem valV_not {kvs : List (κ × V)} {k : κ} (h : valV kvs k = none) : ¬ k ∈ kvs.map (·.1) := by
  intro m
  obtain ⟨p, hp, e⟩ := List.mem_map.mp m
  have q : (kvs.any fun kv => decide (kv.1 = k)) = true := List.any_eq_true.mpr ⟨p, hp, decide_eq_true e⟩
  rw [valV_any, h] at q
  exact absurd q (by simp)
theorem nd_snoc : ∀ {l : List κ} {k : κ}, l.Nodup → ¬ k ∈ l → (l ++ [k]).Nodup
  | [], k, _, _ => by simp
  | a :: r, k, h, hk => by
    obtain ⟨h1, h2⟩ := List.nodup_cons.mp h
    show (a :: (r ++ [k])).Nodup
    refine List.nodup_cons.mpr ⟨fun m => ?_, nd_snoc h2 fun m => hk (List.mem_cons.mpr (Or.inr m))⟩
    rcases List.mem_append.mp m with q | q
    · exact h1 q
    · exact hk (List.mem_cons.mpr (Or.inl (List.mem_singleton.mp q).symm))
theorem nd_putK {kvs : List (κ × V)} {k : κ} (v : V) (hn : (kvs.map (·.1)).Nodup) (h : valV kvs k = none) : ((putK kvs k v).map (·.1)).Nodup := by
  rw [putK_new v h, List.map_append]
  exact nd_snoc hn (valV_not h)
theorem dropK_pos {p : κ × V} {r : List (κ × V)} {k : κ} (e : p.1 = k) : dropK (p :: r) k = dropK r k := by
  unfold dropK
  rw [List.filter_cons, if_neg (by simp [e])]
theorem dropK_neg {p : κ × V} {r : List (κ × V)} {k : κ} (e : ¬ p.1 = k) : dropK (p :: r) k = p :: dropK r k := by
  unfold dropK
  rw [List.filter_cons, if_pos (by simp [e])]
theorem dropK_mem {kvs : List (κ × V)} {k : κ} {p : κ × V} (h : p ∈ dropK kvs k) : p ∈ kvs := (List.mem_filter.mp h).1
theorem nd_dropK : ∀ {kvs : List (κ × V)} {k : κ}, (kvs.map (·.1)).Nodup → ((dropK kvs k).map (·.1)).Nodup
  | [], _, _ => List.nodup_nil
  | p :: r, k, h => by
    have h : (p.1 :: r.map (·.1)).Nodup := h
    obtain ⟨h1, h2⟩ := List.nodup_cons.mp h
    by_cases e : p.1 = k
    · rw [dropK_pos e]
      exact nd_dropK h2
    · rw [dropK_neg e]
      show (p.1 :: (dropK r k).map (·.1)).Nodup
      refine List.nodup_cons.mpr ⟨fun m => h1 ?_, nd_dropK h2⟩
      obtain ⟨q, hq, eq⟩ := List.mem_map.mp m
      exact List.mem_map.mpr ⟨q, dropK_mem hq, eq⟩
end
end L2
/-! A list comprehension in the hand layer: one clause, any target, any tests. -/
namespace L2
open PySem PySem.Spec PyProof.Rows

section
variable {prog : Program} {w : World} {A : Around} {R : Result → Shared → Prop} {s : Shared}
abbrev testsOf (ifs : List Expr) (env : Env) : Sem Bool :=
  forIn ifs true fun c r => if r = true then do let ok ← isTrue c env (eval c env); pure (ForInStep.yield ok) else pure (ForInStep.yield r)

theorem compLoop_gen {elt target iter : Expr} {ifs : List Expr} {scope : Scope} {pos : Pos} {it acc : Value} {env : Env} {nE : Value → Shared → Prop} (hE : nE = notedBy (model prog w) A env fun e s' => R (.error e) s') (I : Nat → Shared → Prop)
    (turn : ∀ n s, I n s → wpAny (model prog w) A (pyNext it) (fun r s1 => match r with
      | none => R (.ok .next) s1
      | some v => wpAny (model prog w) A (letOwnedTupleGo target it v) (fun _ s1b => wpAny (model prog w) A (assign target env v) (fun _ s2 =>
          wpAny (model prog w) A (testsOf ifs env) (fun ok s3 =>
            if ok = true then wpAny (model prog w) A (eval elt env) (fun x s4 =>
              wpAny (model prog w) A (call (.builtin "list.append") [acc, x]) (fun _ s5 => ∃ m, m < n ∧ I m s5) nE s4) nE s3
            else ∃ m, m < n ∧ I m s3) nE s2) nE s1b) nE s1) nE s)
    (n : Nat) (h : I n s) :
    codeAny (model prog w) A (.compLoop (.ListComp elt [⟨target, iter, ifs, 0⟩] scope pos) 0 it acc env) R s := by
  subst hE
  refine codeAny_loop rfl I (fun n s hI => ?_) n h
  show wpAny _ A ((compTurn (.ListComp elt [⟨target, iter, ifs, 0⟩] scope pos) 0 it acc env).onRaise (fun x => do noteFrame x env; theTreesLotGoes x)) _ _ s
  refine wpAny_noted ?_
  rw [compTurn_list]
  refine wpAny_bind (wpAny_standAt (wpAny_bind (wpAny_mono (turn n s hI) (fun r s1 h1 => ?_) fun _ _ h' => h')))
  cases r with
  | none => exact wpAny_pure h1
  | some v =>
    refine wpAny_bind (wpAny_mono h1 (fun _ s1b h1b => ?_) fun _ _ h' => h')
    refine wpAny_bind (wpAny_mono h1b (fun _ s2 h2 => wpAny_bind (wpAny_mono h2 (fun ok s3 h3 => ?_) fun _ _ h' => h')) fun _ _ h' => h')
    cases ok with
    | false => exact wpAny_pure ⟨rfl, h3⟩
    | true =>
      exact wpAny_bind (wpAny_bind (wpAny_mono h3 (fun x s4 h4 => wpAny_bind (wpAny_mono h4 (fun _ s5 h5 => wpAny_pure (wpAny_pure ⟨rfl, h5⟩)) fun _ _ h' => h')) fun _ _ h' => h'))
end

/-! ### the block's cells -/
def clOf (cells : List (Str × Addr)) : List (Str × NameKind) → List (Str × Addr) → List (Str × Addr)
  | [], acc => acc
  | (n, k) :: r, acc => clOf cells r (if k == NameKind.free then (n, (cells.lookup n).getD 0) :: acc else acc)

theorem closure_forIn (env : Env) : ∀ (names : List (Str × NameKind)) (acc : List (Str × Addr)), (∀ y ∈ names, y.2 = .free → ∃ c, env.cells.lookup y.1 = some c) →
    (forIn names acc fun x (r : List (Str × Addr)) => match x with
      | (name, kind) => if (kind == NameKind.free) = true then (do let a ← cellOf env name; pure (ForInStep.yield ((name, a) :: r))) else pure (ForInStep.yield r) : Sem (List (Str × Addr))) = pure (clOf env.cells names acc)
  | [], acc, _ => by simp [clOf]
  | (n, k) :: r, acc, h => by
    have ih := fun acc => closure_forIn env r acc fun y hy => h y (List.mem_cons_of_mem _ hy)
    rw [List.forIn_cons]
    unfold clOf
    by_cases hk : k = .free
    · subst hk
      obtain ⟨c, e⟩ := h (n, .free) List.mem_cons_self rfl
      simp only [beq_self_eq_true, if_true, cellOf, e, Option.getD_some, pure_bind]
      exact ih _
    · have hb : (k == NameKind.free) = false := by simpa using hk
      simp only [hb, Bool.false_eq_true, if_false, pure_bind]
      exact ih _

theorem closureFor_eq {scope : Scope} {env : Env} (h : ∀ y ∈ scope.names, y.2 = .free → ∃ c, env.cells.lookup y.1 = some c) : closureFor scope env = pure (clOf env.cells scope.names []) := by
  have e := closure_forIn env scope.names [] h
  unfold closureFor
  first
    | (rw [e]; rfl)
    | (simp only [bind_pure]; exact e)
    | (show (_ >>= _) = _; rw [e]; rfl)

theorem clOf_lookup {cells : List (Str × Addr)} {x : Str} {c : Addr} : ∀ (names : List (Str × NameKind)) (acc : List (Str × Addr)), (∀ y ∈ names, y.2 = .free → ∃ c, cells.lookup y.1 = some c) →
    (∀ d, acc.lookup x = some d → cells.lookup x = some d) → (clOf cells names acc).lookup x = some c → cells.lookup x = some c
  | [], acc, _, ha, e => ha c e
  | (n, k) :: r, acc, h, ha, e => by
    unfold clOf at e
    refine clOf_lookup r _ (fun y hy => h y (List.mem_cons_of_mem _ hy)) (fun d hd => ?_) e
    by_cases hk : k = .free
    · subst hk
      obtain ⟨c', e'⟩ := h (n, .free) List.mem_cons_self rfl
      have e2 : cells.lookup n = some c' := e'
      rw [if_pos (beq_self_eq_true _), e2] at hd
      cases hx : x == n with
      | true =>
        have : x = n := eq_of_beq hx
        subst this
        simp only [List.lookup_cons, hx, Option.getD_some] at hd
        rw [e2]
        exact hd
      | false =>
        simp only [List.lookup_cons, hx] at hd
        exact ha d hd
    · have hb : ¬ (k == NameKind.free) = true := by simpa using hk
      rw [if_neg hb] at hd
      exact ha d hd

theorem clOf_keeps {cells : List (Str × Addr)} {x : Str} : ∀ (names : List (Str × NameKind)) (acc : List (Str × Addr)), (acc.lookup x).isSome = true → ((clOf cells names acc).lookup x).isSome = true
  | [], _, h => h
  | (n, k) :: r, acc, h => by
    unfold clOf
    refine clOf_keeps r _ ?_
    by_cases hk : (k == NameKind.free) = true
    · rw [if_pos hk]
      cases hx : x == n with
      | true => simp only [List.lookup_cons, hx, Option.isSome_some]
      | false => simp only [List.lookup_cons, hx]; exact h
    · rw [if_neg hk]; exact h

theorem clOf_has {cells : List (Str × Addr)} {x : Str} : ∀ (names : List (Str × NameKind)) (acc : List (Str × Addr)), (x, NameKind.free) ∈ names → ((clOf cells names acc).lookup x).isSome = true
  | (n, k) :: r, acc, h => by
    unfold clOf
    rcases List.mem_cons.mp h with e | h
    · cases e
      refine clOf_keeps r _ ?_
      rw [if_pos (beq_self_eq_true _)]
      simp only [List.lookup_cons, beq_self_eq_true, Option.isSome_some]
    · exact clOf_has r _ h

theorem relab_lookup {env : Env} (x : Str) : ∀ names : List (Str × NameKind),
    (names.map fun (n, k) => if (k == NameKind.free && env.scope.kind == .function && env.kindOf n == some .cell) then (n, NameKind.cell) else (n, k)).lookup x =
      (names.lookup x).map fun k => if (k == NameKind.free && env.scope.kind == .function && env.kindOf x == some .cell) then NameKind.cell else k
  | [] => rfl
  | (n, k) :: r => by
    have ih := relab_lookup (env := env) x r
    rw [List.map_cons]
    cases hx : x == n with
    | true =>
      have : x = n := eq_of_beq hx
      subst this
      show List.lookup x ((if (k == NameKind.free && env.scope.kind == .function && env.kindOf x == some .cell) = true then (x, NameKind.cell) else (x, k)) :: _) = _
      by_cases hc : (k == NameKind.free && env.scope.kind == .function && env.kindOf x == some .cell) = true
      · rw [if_pos hc]; simp only [List.lookup_cons, hx, Option.map_some]; rw [if_pos hc]
      · rw [if_neg hc]; simp only [List.lookup_cons, hx, Option.map_some]; rw [if_neg hc]
    | false =>
      show List.lookup x ((if (k == NameKind.free && env.scope.kind == .function && env.kindOf n == some .cell) = true then (n, NameKind.cell) else (n, k)) :: _) = _
      by_cases hc : (k == NameKind.free && env.scope.kind == .function && env.kindOf n == some .cell) = true
      · rw [if_pos hc]; simp only [List.lookup_cons, hx]; exact ih
      · rw [if_neg hc]; simp only [List.lookup_cons, hx]; exact ih

/-- what is asked of the block's names: own are the clause's, caps are captured -/
structure CScope (own caps : List Str) (scope osc : Scope) : Prop where
  kind : scope.kind = .function
  nocell : ∀ y ∈ scope.names, y.2 ≠ .cell
  loc : ∀ y ∈ scope.names, y.2 = .local → scope.names.lookup y.1 = some .local
  fr : ∀ y ∈ scope.names, y.2 = .free → osc.names.lookup y.1 = some .cell ∨ osc.names.lookup y.1 = some .free
  cap : ∀ x ∈ caps, scope.names.lookup x = some .free
  nd : (own ++ caps).Nodup

/-- the block's context -/
def cxC (X : Cx) (scope : Scope) (N' : List Str) (C : Addr) (fp : List Addr) (s : Shared) (H : Hp) : Cx where
  prog := X.prog
  w := X.w
  K := X.K
  mg := X.mg
  base := X.base
  A := X.A
  N := N'
  s₀ := s
  H₀ := H
  env := compEnvC scope (clOf X.env.cells scope.names []) C X.env
  outer := X.stack
  stack := X.stack
  ex := fp
  fn := fun _ => false
  calm := X.calm
  pn := X.pn
  xe := fun _ _ => False

/-- the block's slots: own ones unset, captured ones as they stand -/
def cSt (n : Nat) (js : List Nat) (σ : St) : St := List.replicate n none ++ js.map fun j => (σ[j]?).join

/-- the tests of a clause -/
def PF (X : Cx) (ifs : List Expr) (t : TT) : Prop :=
  ∀ (pins : List (Addr × Obj)) (s : Shared) (σ : St) (H : Hp) (Q : Bool → Hp → Prop), Inv X pins σ H s → t σ H Q → wpAny (model X.prog X.w) X.A (testsOf ifs X.env) (TP X pins σ Q) X.xe s
def tYes : TT := fun _ H Q => Q true H
theorem pf_nil {X : Cx} : PF X [] tYes := fun pins s σ H Q I h => by
  show wpAny _ _ (forIn [] true _) _ _ s
  rw [List.forIn_nil]
  exact wpAny_pure ⟨H, I, h⟩
theorem pf_one {X : Cx} {c : Expr} {tc : TT} (hc : PT X c tc) : PF X [c] tc := fun pins s σ H Q I h => by
  show wpAny _ _ (forIn [c] true _) _ _ s
  rw [List.forIn_cons]
  simp only [List.forIn_nil, if_true]
  refine wpAny_bind (wpAny_bind (thn (hc pins s σ H Q I h) fun b s1 q => wpAny_pure ?_))
  exact wpAny_pure q

/-- W: the invariant by the turn, a measure, what was gathered; D: where it is gathered -/
def tComp (n : Nat) (js : List Nat) (wi : TI) (g : TG) (tc : TT) (te : TE) : TE := fun σ H Q => wi σ H fun J H1 => ∀ D, H1 D = none → ∃ W : Nat → Nat → List V → Hp → Prop, (∃ m, W 0 m [] (upd H1 D (.lst []))) ∧ ∀ i m acc H, W i m acc H →
  H D = some (.lst acc) ∧ ((J.stop i H ∧ Q (.ref D) H) ∨ (J.go i H ∧ acc.length < sizeLine ∧ ∃ Nx : List V → Hp → Prop, (∀ acc' H', Nx acc' H' → ∃ m', m' < m ∧ W (i + 1) m' acc' H') ∧
    ∀ x H', J.yld i H x H' → g x (cSt n js σ) H' fun σ2 H2 => σ2.drop n = (cSt n js σ).drop n ∧ tc σ2 H2 fun b H3 => if b = true then te σ2 H3 fun v H4 => H4 D = some (.lst acc) ∧ Nx (acc ++ [v]) (upd H4 D (.lst (acc ++ [v]))) else H3 D = some (.lst acc) ∧ Nx acc H3))

section
variable {X : Cx} {pins : List (Addr × Obj)} {σ : St} {H : Hp} {s : Shared}

abbrev capN (X : Cx) (js : List Nat) : List Str := js.map fun j => (X.N[j]?).getD Str.empty
theorem js_ok {X : Cx} {js : List Nat} (h : (js.all fun j => decide (j < X.N.length)) = true) : ∀ j ∈ js, ∃ x, X.N[j]? = some x := fun j hj => by
  have := of_decide_eq_true (List.all_eq_true.mp h j hj)
  exact ⟨X.N[j], List.getElem?_eq_getElem this⟩

/-- the block begins: its frame is laid at C -/
theorem Inv.block {scope : Scope} {own : List Str} {js : List Nat} {fp : List Addr} {h' : Heap} {t' : Nat} {m : Str → Option Value} (I : Inv X pins σ H s) (S : CScope own (capN X js) scope X.env.scope) (hj : ∀ j ∈ js, ∃ x, X.N[j]? = some x)
    (hf : ∀ b ∈ fp, FpOk X pins H b) (hfo : ∀ b ∈ fp, ∃ o, s.heap.get? b = some o) (hn : h'.Ns s.heap.objs.size m) (hk : ∀ b o, s.heap.get? b = some o → h'.get? b = some o) :
    Inv (cxC X scope (own ++ capN X js) s.heap.objs.size fp s H) pins (cSt own.length js σ) H { s with heap := h', toks := t' } := by
  have hfr : ∀ y ∈ scope.names, y.2 = .free → ∃ c, X.env.cells.lookup y.1 = some c := fun y hy e => I.ok.has y.1 (S.fr y hy e)
  have hcl : ∀ x c, (clOf X.env.cells scope.names []).lookup x = some c → X.env.cells.lookup x = some c := fun x c e => clOf_lookup scope.names [] hfr (fun d z => nomatch z) e
  have hlt : ∀ b o, s.heap.get? b = some o → b ≠ s.heap.objs.size := fun b o e => Nat.ne_of_lt (Heap.lt_size e)
  have nstk : ∀ b, b ≠ X.env.locals → b ∉ X.fs → b ∉ frs X.stack := fun b h1 h2 hb => (List.mem_cons.mp (I.stkSub b hb)).elim h1 h2
  have hrl : ∀ x, (relabel scope X.env).names.lookup x = (scope.names.lookup x).map fun k => if (k == NameKind.free && X.env.scope.kind == .function && X.env.kindOf x == some .cell) then NameKind.cell else k := fun x => relab_lookup x scope.names
  refine ⟨⟨I.ok.mod, S.kind, I.ok.glob, I.ok.blt, Nat.le_refl _, fun x y c h1 h2 => I.ok.inj x y c (hcl x c h1) (hcl y c h2), fun x hx => ?_, (fun x c z => nomatch z), I.ok.hd, I.ok.frames, .inl rfl, fun b hb => ?_, I.bs, Nat.le_trans I.ok.bsz I.sz, fun b o e hb => ?_, fun b hb => ?_, I.stack, I.stkFree⟩,
    rfl, I.bare, Un.kept hk, ⟨m, hn, fun i x v h1 h2 h3 => ?_⟩, fun x c e => ?_, I.hok.fresh (Nat.le_refl _), fun x c e => I.freeC x c (hcl x c e), fun p hp => ?_, I.hok.kept hk, ?_⟩
  · have hx' : (relabel scope X.env).names.lookup x = some .cell ∨ (relabel scope X.env).names.lookup x = some .free := hx
    rw [hrl] at hx'
    cases e : scope.names.lookup x with
    | none => rw [e] at hx'; rcases hx' with z | z <;> cases z
    | some k =>
      have hm : (x, k) ∈ scope.names := PySem.mem_of_lookup e
      have hkf : k = .free := by
        rw [e] at hx'
        cases k with
        | free => rfl
        | cell => exact absurd rfl (S.nocell _ hm)
        | _ => exfalso; revert hx'; simp
      subst hkf
      exact Option.isSome_iff_exists.mp (clOf_has scope.names [] hm)
  · obtain ⟨o, e⟩ := hfo b hb
    obtain ⟨_, _, _, _, f4, _⟩ := hf b hb
    exact ⟨hlt b o e, fun x c z => f4 x c (hcl x c z)⟩
  · obtain ⟨_, _, _, f3, _⟩ := hf b hb
    rcases f3 with z | z
    · exact I.ok.noex b o e z
    · exact absurd (Nat.lt_of_lt_of_le (Heap.lt_size (I.ok.bs b o e).1) z) (Nat.lt_irrefl _)
  · obtain ⟨_, f1, f2, _⟩ := hf b hb
    exact nstk b f1 f2
  · -- a captured name
    have h1' : (own ++ capN X js)[i]? = some x := h1
    have hi : own.length ≤ i := by
      rcases Nat.lt_or_ge i own.length with z | z
      · exfalso
        unfold cSt at h2
        rw [List.getElem?_append_left (by simpa using z), List.getElem?_replicate] at h2
        split at h2 <;> cases h2
      · exact z
    rw [List.getElem?_append_right hi] at h1'
    unfold cSt at h2
    rw [List.getElem?_append_right (by simpa using hi), List.length_replicate, List.getElem?_map] at h2
    unfold capN at h1'
    rw [List.getElem?_map] at h1'
    cases ej : js[i - own.length]? with
    | none => rw [ej] at h2; cases h2
    | some j =>
      rw [ej] at h1' h2
      obtain ⟨y, ey⟩ := hj j (List.mem_of_getElem? ej)
      have exy : y = x := by
        have z : some ((X.N[j]?).getD Str.empty) = some x := h1'
        rw [ey] at z
        exact Option.some.inj z
      subst exy
      have es : σ[j]? = some (some v) := by
        have z : some ((σ[j]?).join) = some (some v) := h2
        cases q : σ[j]? with
        | none => rw [q] at z; cases z
        | some o => rw [q] at z; cases o with
          | none => cases z
          | some v' => cases z; rfl
      have hcap : y ∈ capN X js := List.mem_map.mpr ⟨j, List.mem_of_getElem? ej, by rw [ey]; rfl⟩
      have hfree : scope.names.lookup y = some .free := S.cap y hcap
      have hm : (y, NameKind.free) ∈ scope.names := PySem.mem_of_lookup hfree
      have ho := S.fr _ hm rfl
      obtain ⟨m0, hn0, hl0⟩ := I.loc
      obtain ⟨u, r, l⟩ := hl0 j y v ey es (ho.elim (fun z => .inr (.inl z)) fun z => .inr (.inr z))
      refine ⟨u, r, .inr ⟨?_, ?_⟩⟩
      · show (relabel scope X.env).names.lookup y = _ ∨ (relabel scope X.env).names.lookup y = _
        rw [hrl, hfree, Option.map_some]
        by_cases hcc : (NameKind.free == NameKind.free && X.env.scope.kind == .function && X.env.kindOf y == some .cell) = true
        · rw [if_pos hcc]; exact .inl rfl
        · rw [if_neg hcc]; exact .inr rfl
      · rcases l with ⟨k, _⟩ | ⟨_, c, e, z⟩
        · have k' : X.env.scope.names.lookup y = some .local := k
          rcases ho with z | z <;> (rw [k'] at z; cases z)
        · obtain ⟨c', e'⟩ := Option.isSome_iff_exists.mp (clOf_has (cells := X.env.cells) scope.names [] hm)
          have := hcl y c' e'
          rw [e] at this
          cases this
          refine ⟨c, e', ?_⟩
          obtain ⟨oc, ho', hd⟩ := z
          exact ⟨oc, hk c oc ho', hd⟩
  · obtain ⟨v, o, ho, hd⟩ := I.cell x c (hcl x c e)
    exact ⟨v, o, hk c o ho, hd⟩
  · obtain ⟨e, n, ne, nf, d⟩ := I.pin p hp
    exact ⟨hk _ _ e, n, hlt _ _ e, nstk p.1 ne nf, d⟩
  · unfold cSt
    show _ = (own ++ capN X js).length
    simp

/-- the block is left: its frame's object may have changed -/
theorem Inv.unblock {scope : Scope} {N' : List Str} {fp : List Addr} {σb : St} {H' : Hp} {s' : Shared} {h' : Heap} (I : Inv X pins σ H s) (hf : ∀ b ∈ fp, FpOk X pins H b)
    (B : Inv (cxC X scope N' s.heap.objs.size fp s H) pins σb H' s') (hs : Heap.SameBut s.heap.objs.size s'.heap h') : Inv X pins σ H' { s' with heap := h' } := by
  have hlt : ∀ b o, s.heap.get? b = some o → b ≠ s.heap.objs.size := fun b o e => Nat.ne_of_lt (Heap.lt_size e)
  have hu : Un (frs X.stack) fp H H' s.heap s'.heap := B.base
  have hfree : H' s.heap.objs.size = none := B.free
  refine I.call' (s' := { s' with heap := h' }) (ch := fp) B.os ⟨fun b o e n hb hx => ?_, fun b o e n hb hx => ?_, hu.free, fun b o e hx => ?_, hu.tups, hu.frzs, hu.tbls⟩ (fun b u e => ?_) B.bare fun b hb => ?_
  · exact (hs.2 b (hlt b o e)).trans (hu.keep b o e n hb hx)
  · obtain ⟨sl, z⟩ := hu.slot b o e n hb hx
    exact ⟨sl, (hs.2 b (hlt b o e)).trans z⟩
  · obtain ⟨o', z⟩ := hu.there b o e hx
    exact ⟨o', (hs.2 b (hlt b o e)).trans z⟩
  · refine (B.hok b u e).stay (fun c v hc q => (hs.2 c ?_).trans q) (fun _ q => q) fun _ _ q => q
    rintro rfl
    rcases hc with z | z
    · rw [← z, hfree] at e; cases e
    · rw [hfree] at z; cases z
  · obtain ⟨_, f1, f2, f3, f4, f5⟩ := hf b hb
    exact ⟨f3, f1, f4, f5⟩
end

section
variable {X : Cx} {elt tg iter : Expr} {ifs : List Expr} {scope : Scope} {pos : Pos} {own : List Str} {js : List Nat} {wi : TI} {g : TG} {tc : TT} {te : TE}

theorem comp_core (hc : X.calm = true) (S : CScope own (capN X js) scope X.env.scope) (hj : ∀ j ∈ js, ∃ x, X.N[j]? = some x) (hi : PI X tg iter wi)
    (hg : ∀ C fp s H, PG (cxC X scope (own ++ capN X js) C fp s H) tg g) (ht : ∀ C fp s H, PF (cxC X scope (own ++ capN X js) C fp s H) ifs tc) (he : ∀ C fp s H, PE (cxC X scope (own ++ capN X js) C fp s H) elt te)
    {pins : List (Addr × Obj)} {σ : St} {H : Hp} {s : Shared} {Q : VK} (I : Inv X pins σ H s) (h : tComp own.length js wi g tc te σ H Q) {RR : Value → Addr → Result → Shared → Prop}
    (hRR : ∀ D C s' m H', s'.heap.Ns C m → H' C = none → C ≠ X.env.locals → C ∉ X.fs → (∀ x c, X.env.cells.lookup x = some c → c ≠ C) → X.s₀.heap.objs.size ≤ C → (∀ p ∈ X.pn ++ pins, p.1 ≠ C) → (∀ h', Heap.SameBut C s'.heap h' → Inv X pins σ H' { s' with heap := h' }) → Q (.ref D) H' → RR (.ref D) C (.ok .next) s') :
    wpAny (model X.prog X.w) X.A (eval iter X.env) (fun x s1 => wpAny (model X.prog X.w) X.A (pyIter x) (fun it s2 => wpAny (model X.prog X.w) X.A (newList []) (fun acc s3 =>
      wpAny (model X.prog X.w) X.A (newFunctionEnv scope X.env.globals (clOf X.env.cells scope.names []) [] X.env.qual none .none (some X.env)) (fun cenv s4 =>
        codeAny (model X.prog X.w) X.A (.compStart (.ListComp elt [⟨tg, iter, ifs, 0⟩] scope pos) 0 it acc { cenv with scope := relabel scope X.env }) (RR acc cenv.locals) s4) X.xe s3) X.xe s2) X.xe s1) X.xe s := by
  refine thn (hi pins s σ H _ I h) fun v s1 h1 => thn h1 fun itv s2 h2 => ?_
  obtain ⟨it, fp, tn, J, H2, e, I2, T, st2, f2, hq⟩ := h2
  subst e
  refine wpAny_newList ?_ (by simp)
  have I3 := I2.lnew (t' := s2.toks) (ys := []) (its := []) .nil (by simp)
  have hDn : H2 s2.heap.objs.size = none := I2.fresh
  generalize hD : s2.heap.objs.size = D at I3 hDn ⊢
  generalize hH3 : upd H2 D (.lst []) = H3 at I3
  generalize hs3 : ({ s2 with heap := s2.heap.push { cls := .type "list", data := .seq ([] : List Value).toArray }, toks := s2.toks } : Shared) = s3 at I3
  have k3 : ∀ b o, s2.heap.get? b = some o → s3.heap.get? b = some o := fun b o e => by rw [← hs3]; exact Heap.get?_push_of_some _ e
  have st3 : tn 0 s3.heap := T.keep _ _ _ st2 fun b _ o e => k3 b o e
  have fo2 : ∀ b ∈ fp, ∃ o, s2.heap.get? b = some o := fun b hb => (T.obj _ _ st2 b hb).imp fun _ z => z.1
  have neD : ∀ b ∈ fp, b ≠ D := fun b hb => by
    obtain ⟨o, e⟩ := fo2 b hb
    rw [← hD]
    exact Nat.ne_of_lt (Heap.lt_size e)
  have f3 : ∀ b ∈ fp, FpOk X pins H3 b := fun b hb => by
    obtain ⟨a0, a1⟩ := f2 b hb
    exact ⟨by rw [← hH3, upd_ne (neD b hb)]; exact a0, a1⟩
  have fo3 : ∀ b ∈ fp, ∃ o, s3.heap.get? b = some o := fun b hb => (fo2 b hb).imp fun o e => k3 b o e
  obtain ⟨W, ⟨m0, w0⟩, turn⟩ := hq D hDn
  rw [hH3] at w0
  refine wpAny_newFunctionEnv S.nocell (by intro y hy; simp at hy) (fun h4 hns4 hsb4 => ?_) S.kind
  have k4 : ∀ b o, s3.heap.get? b = some o → h4.get? b = some o := fun b o e => hsb4.extBut b o (Nat.ne_of_lt (Heap.lt_size e)) (Heap.get?_push_of_some _ e)
  have B4 := I3.block (t' := s3.toks + ([] : List (Str × Value)).length) S hj f3 fo3 hns4 k4
  have st4 : tn 0 h4 := T.keep _ _ _ st3 fun b _ o e => k4 b o e
  have f4 : ∀ b ∈ fp, FpOk (cxC X scope (own ++ capN X js) s3.heap.objs.size fp s3 H3) pins H3 b := fun b hb => by
    obtain ⟨a0, a1, a2, a3, a4, a5⟩ := f3 b hb
    obtain ⟨o, e⟩ := fo3 b hb
    exact ⟨a0, (B4.ok.exf b hb).1, B4.ok.exfs b hb, .inl hb, (B4.ok.exf b hb).2, a5⟩
  have nL : s3.heap.objs.size ≠ X.env.locals := Nat.ne_of_gt I3.lt
  have nF : s3.heap.objs.size ∉ X.fs := I3.nofs (Nat.le_refl _)
  have nC : ∀ x c, X.env.cells.lookup x = some c → c ≠ s3.heap.objs.size := fun x c e => by
    obtain ⟨_, o, ho, _⟩ := I3.cell x c e
    exact Nat.ne_of_lt (Heap.lt_size ho)
  -- the loop
  have loop : ∀ s5 : Shared, s5 = { s3 with heap := h4, toks := s3.toks + ([] : List (Str × Value)).length } →
      codeAny (model X.prog X.w) X.A (.compLoop (.ListComp elt [⟨tg, iter, ifs, 0⟩] scope pos) 0 (.ref it) (.ref D) (compEnvC scope (clOf X.env.cells scope.names []) s3.heap.objs.size X.env)) (RR (.ref D) s3.heap.objs.size) s5 := by
    rintro s5 rfl
    have stat : ∀ {H' : Hp}, (∀ b ∈ fp, H' b = none) → ∀ b ∈ fp, FpOk (cxC X scope (own ++ capN X js) s3.heap.objs.size fp s3 H3) pins H' b := fun hn b hb => ⟨hn b hb, (f4 b hb).2⟩
    refine compLoop_gen rfl (fun n s' => ∃ i acc H', Inv (cxC X scope (own ++ capN X js) s3.heap.objs.size fp s3 H3) pins (cSt own.length js σ) H' s' ∧ tn i s'.heap ∧ (∀ b ∈ fp, H' b = none) ∧ W i n acc H') ?_ m0
      ⟨0, [], H3, B4, st4, fun b hb => (f3 b hb).1, w0⟩
    rintro n s6 ⟨i, acc, H6, B6, st6, fr6, w6⟩
    obtain ⟨hacc, way⟩ := turn i n acc H6 w6
    rcases way with ⟨stop, q⟩ | ⟨go, hz, Nx, hN, step⟩
    · refine thn (T.done (cxC X scope (own ++ capN X js) s3.heap.objs.size fp s3 H3) rfl rfl rfl hc i pins s6 _ H6 _ B6 (stat fr6) st6 stop) fun r s7 ⟨hr, B7⟩ => ?_
      subst hr
      obtain ⟨m, hm, _⟩ := B7.loc
      exact hRR D _ s7 m H6 hm B7.free nL nF nC I3.sz (fun p hp => Nat.ne_of_lt (Heap.lt_size (I3.pin p hp).1)) (fun h' hs => I3.unblock f3 B7 hs) q
    · refine thn (T.item (cxC X scope (own ++ capN X js) s3.heap.objs.size fp s3 H3) rfl rfl rfl hc i pins s6 _ H6 _ B6 (stat fr6) st6 go) fun r s7 ⟨u, hr, h7⟩ => ?_
      subst hr
      refine thn h7 fun _ s8 ⟨x, H8, B8, r8, y8, st8, fr8⟩ => ?_
      have B8' := B8.pinned (stat fr8) (T.obj _ _ st8)
      have away : ∀ {s9 : Shared} {σ9 : St} {H9 : Hp} {acc' : List V}, Inv (cxC X scope (own ++ capN X js) s3.heap.objs.size fp s3 H3) (pins ++ pinsAt fp s8.heap) σ9 H9 s9 → σ9.drop own.length = (cSt own.length js σ).drop own.length → Nx acc' H9 →
          ∃ m', m' < n ∧ ∃ i acc H', Inv (cxC X scope (own ++ capN X js) s3.heap.objs.size fp s3 H3) pins (cSt own.length js σ) H' s9 ∧ tn i s9.heap ∧ (∀ b ∈ fp, H' b = none) ∧ W i m' acc H' := fun {s9 σ9 H9 acc'} B9 hd nx => by
        obtain ⟨m', hm, w9⟩ := hN acc' H9 nx
        refine ⟨m', hm, i + 1, acc', H9, B9.unpinned.weak ?_ ?_, T.keep _ _ _ st8 fun b hb o e => (B9.pin (b, o) (List.mem_append_right _ (List.mem_append_right _ (mem_pinsAt hb e)))).1, fun b hb => ?_, w9⟩
        · rw [B9.len, B6.len]
        · intro k v hv
          unfold cSt at hv
          have hk : own.length ≤ k := by
            rcases Nat.lt_or_ge k own.length with z | z
            · exfalso
              rw [List.getElem?_append_left (by simpa using z), List.getElem?_replicate] at hv
              split at hv <;> cases hv
            · exact z
          have e1 : σ9[k]? = (σ9.drop own.length)[k - own.length]? := by rw [List.getElem?_drop]; congr 1; omega
          rw [e1, hd, List.getElem?_drop]
          have e2 : own.length + (k - own.length) = k := by omega
          rw [e2]
          exact hv
        · obtain ⟨o, e, d⟩ := T.obj _ _ st8 b hb
          exact (B9.pin (b, o) (List.mem_append_right _ (List.mem_append_right _ (mem_pinsAt hb e)))).2.1
      refine wpAny_mono (hg _ _ _ _ _ s8 _ H8 x u _ B8' r8 (step x H8 y8)) (fun _ s9 ⟨σ9, H9, B9, hd9, q9⟩ => ?_) fun _ _ f => f.elim
      refine wpAny_mono (ht _ _ _ _ _ s9 σ9 H9 _ B9 q9) (fun b s10 ⟨H10, B10, q10⟩ => ?_) fun _ _ f => f.elim
      cases b with
      | false =>
        rw [if_neg Bool.false_ne_true] at q10 ⊢
        exact away B10 hd9 q10.2
      | true =>
        rw [if_pos rfl] at q10 ⊢
        refine wpAny_mono (he _ _ _ _ _ s10 σ9 H10 _ B10 q10) (fun y s11 ⟨z, H11, B11, r11, q11⟩ => ?_) fun _ _ f => f.elim
        obtain ⟨hl11, nx⟩ := q11
        refine wpAny_mono (mt_append (X := cxC X scope (own ++ capN X js) s3.heap.objs.size fp s3 H3) _ s11 σ9 H11 (.ref D) [z] (.ref D) [y] (fun _ H12 => Nx (acc ++ [z]) H12) B11 rfl (.cons r11 .nil) ⟨D, acc, z, rfl, rfl, hl11, hz, nx⟩) (fun _ s12 ⟨_, H12, B12, _, q12⟩ => ?_) fun _ _ f => f.elim
        exact away B12 hd9 q12
  exact codeAny_compStart_list (loop _ rfl) (T.self X.A 0 _ _ _ st4 (loop _ rfl))

/-- a list comprehension -/
theorem pe_comp (own caps : List Str) (js : List Nat) (hc : X.calm = true) {osc : Scope} (S : CScope own caps scope osc) (hi : PI X tg iter wi)
    (hg : ∀ C fp s H, PG (cxC X scope (own ++ caps) C fp s H) tg g) (ht : ∀ C fp s H, PF (cxC X scope (own ++ caps) C fp s H) ifs tc) (he : ∀ C fp s H, PE (cxC X scope (own ++ caps) C fp s H) elt te)
    (ho : X.env.scope = osc := by rfl) (hcp : capN X js = caps := by rfl) (hj : (js.all fun j => decide (j < X.N.length)) = true := by rfl)
    (hs : ∀ x, foldedSetIterable iter X.env x = pure x := by intro _; rfl) : PE X (.ListComp elt [⟨tg, iter, ifs, 0⟩] scope pos) (tComp own.length js wi g tc te) := by
  subst ho
  subst hcp
  intro pins s σ H Q I h
  have hfr : ∀ y ∈ scope.names, y.2 = .free → ∃ c, X.env.cells.lookup y.1 = some c := fun y hy e => I.ok.has y.1 (S.fr y hy e)
  rw [eval_ListComp]
  refine wpAny_comprehension_free (use := none) rfl hs (closureFor_eq hfr) S.kind S.loc ?_
  refine comp_core hc S (js_ok hj) hi hg ht he I h (RR := fun acc C => compPost (model X.prog X.w) X.A X.xe none (EP X pins σ Q) acc C) ?_
  intro D C s' m H' hn hf h1 h2 h3 h4 h5 hI hq
  exact ⟨m, hn, fun h' hs' => ⟨.ref D, H', hI h' hs', rfl, hq⟩⟩

/-- x = [ .. for .. ], where the store goes ahead of the block's end -/
theorem ps_setC {i : Nat} {x : Str} {pos' spos : Pos} (own caps : List Str) (js : List Nat) (hc : X.calm = true) (hN : X.N.Nodup) (hxi : X.N[i]? = some x) (hx : Loc X.env.scope x)
    {osc : Scope} (S : CScope own caps scope osc) (hi : PI X tg iter wi)
    (hg : ∀ C fp s H, PG (cxC X scope (own ++ caps) C fp s H) tg g) (ht : ∀ C fp s H, PF (cxC X scope (own ++ caps) C fp s H) ifs tc) (he : ∀ C fp s H, PE (cxC X scope (own ++ caps) C fp s H) elt te)
    (hsw : swapsWith (.ListComp elt [⟨tg, iter, ifs, 0⟩] scope pos) (some (.Name x pos')) spos.line X.env = pure true)
    (ho : X.env.scope = osc := by rfl) (hcp : capN X js = caps := by rfl) (hj : (js.all fun j => decide (j < X.N.length)) = true := by rfl)
    (hf : X.fn x = true ∨ X.env.scope.names.lookup x = some .local := by first | exact .inl rfl | exact .inr rfl | assumption)
    (hs : ∀ x, foldedSetIterable iter X.env x = pure x := by intro _; rfl) : PS X (.Assign [.Name x pos'] (.ListComp elt [⟨tg, iter, ifs, 0⟩] scope pos) spos) (tAsg (tComp own.length js wi g tc te) (gName i)) := by
  subst ho
  subst hcp
  intro pins s σ H D0 I h
  have hfr : ∀ y ∈ scope.names, y.2 = .free → ∃ c, X.env.cells.lookup y.1 = some c := fun y hy e => I.ok.has y.1 (S.fr y hy e)
  have h' : tComp own.length js wi g tc te σ H (fun v H1 => D0.nx (σ.set i (some v)) H1) := h
  unfold exec
  refine wpAny_bind (wpAny_standAt (wpAny_bind (wpAny_of_eq (show swapsWithSole _ _ _ _ = _ from hsw) ?_)))
  simp only [if_true]
  unfold evalThenUse
  refine wpAny_bind (wpAny_bind ?_)
  refine wpAny_comprehension_free (use := some _) (Q := fun _ s' => wpAny _ _ (pure PUnit.unit) (fun _ s'' => wpAny _ _ (pure Flow.next) (SP X pins D0) X.xe s'') X.xe s') rfl hs (closureFor_eq hfr) S.kind S.loc ?_
  refine comp_core hc S (js_ok hj) hi hg ht he I h' (RR := fun acc C => compPost (model X.prog X.w) X.A X.xe (some _) _ acc C) ?_
  intro D C s' m H' hn hfree h1 h2 h3 h4 h5 hI hq
  have I' : Inv X pins σ H' s' := hI s'.heap (.refl ..)
  obtain ⟨o, es, ep, ho, hod, r⟩ := id hn
  show wpAny _ _ (assign (.Name x pos') X.env (.ref D)) _ _ s'
  refine wpAny_assign_Name (store_ok2 I' hN hxi hx (v := .ref D) rfl (fun s2 I2 ⟨a, hsa, ha⟩ => ?_) hf)
  have hCa : C ≠ a := by
    rcases ha with z | z
    · rw [z]; exact h1
    · exact (h3 x a z).symm
  refine ⟨m, hn.sameBut hsa hCa, fun h'' hs'' => wpAny_pure (wpAny_pure ?_)⟩
  refine ⟨_, H', ?_, hq⟩
  -- what is left: the block's frame changes once more
  exact I2.turned (t' := s2.toks) (it := C) (fun b o hb e => (hs''.2 b hb).trans e) hfree (Ne.symm h1 |>.symm) (.inr h4) h3 h5
end
end L2
/-! Data and its equality, any and all, isinstance, slices of tuples, own defs in short. -/
namespace L2
open PySem PySem.Spec PyProof.Rows

/-! ### data -/
mutual
inductive Has (K : PySem.W.Frag) (H : Hp) : V → PyData → Prop
  | non : Has K H .non .none
  | bl (b : Bool) : Has K H (.bl b) (.bool b)
  | int (i : Int) : Has K H (.int i) (.int i)
  | str (x : Str) : Has K H (.str x) (.str x)
  | lst {a : Addr} {xs : List V} {ds : List PyData} : SqL K H a xs → HasAll K H xs ds → Has K H (.ref a) (.list ds)
  | tup {a : Addr} {xs : List V} {ds : List PyData} : SqT K H a xs → HasAll K H xs ds → Has K H (.ref a) (.tuple ds)
inductive HasAll (K : PySem.W.Frag) (H : Hp) : List V → List PyData → Prop
  | nil : HasAll K H [] []
  | cons {x : V} {xs : List V} {d : PyData} {ds : List PyData} : Has K H x d → HasAll K H xs ds → HasAll K H (x :: xs) (d :: ds)
end

section
variable {X : Cx} {pins : List (Addr × Obj)} {σ : St} {H : Hp} {s : Shared}
mutual
theorem Has.reads (I : Inv X pins σ H s) : ∀ {x : V} {d : PyData} {u : Value}, Has X.K H x d → RelV x u → ∃ as, Reads s.heap u d as
  | _, _, _, .non, r => by cases r; exact ⟨_, .none⟩
  | _, _, _, .bl b, r => by cases r; exact ⟨_, .bool b⟩
  | _, _, _, .int i, r => by obtain ⟨t, rfl⟩ := r; exact ⟨_, .int i t⟩
  | _, _, _, .str x, r => by obtain ⟨t, rfl⟩ := r; exact ⟨_, .str x t⟩
  | _, _, _, .lst h hs, r => by
    cases r
    obtain ⟨its, rv, ⟨o, n, ho, hc, hd, hs'⟩, hz⟩ := I.list h
    obtain ⟨as, ra⟩ := HasAll.reads I hs rv
    exact ⟨_, .list ho hc hs' ra⟩
  | _, _, _, .tup h hs, r => by
    cases r
    obtain ⟨its, rv, ⟨o, ho, hc, n, hs'⟩, hz⟩ := I.tuple h
    obtain ⟨as, ra⟩ := HasAll.reads I hs rv
    exact ⟨_, .tuple ho hc hs' ra⟩
theorem HasAll.reads (I : Inv X pins σ H s) : ∀ {xs : List V} {ds : List PyData} {us : List Value}, HasAll X.K H xs ds → Vals xs us → ∃ as, ReadsAll s.heap us ds as
  | _, _, _, .nil, r => by cases r; exact ⟨_, .nil⟩
  | _, _, _, .cons h hs, .cons r rs => by
    obtain ⟨as, ra⟩ := Has.reads I h r
    obtain ⟨bs, rb⟩ := HasAll.reads I hs rs
    exact ⟨_, .cons ra rb⟩
end
end

def rNeD (K : PySem.W.Frag) : R2 := fun x y H Q => ∃ d e, Has K H x d ∧ Has K H y e ∧ SeqAt.shaped d = true ∧ SeqAt.shaped e = true ∧ Q (.bl (!PyData.eqv d e)) H
section
variable {X : Cx}
theorem op_neD (hu : X.A.units + 64 < cLine) : OpR X (compareOp .NotEq) (rNeD X.K) := by
  intro pins s σ H x y v u Q I rx ry h
  obtain ⟨d, e, hd, he, sd, se, q⟩ := h
  obtain ⟨as, ra⟩ := hd.reads I rx
  obtain ⟨bs, rb⟩ := he.reads I ry
  exact SeqAt.compareNe_reads ra rb (SeqAt.canLay_of_shaped sd) (SeqAt.canLay_of_shaped se) (SeqAt.room_of_shaped sd hu) ⟨.bl _, H, I, rfl, q⟩

/-! ### any, all of a list of truths -/
theorem vals_bl : ∀ {bs : List Bool} {us : List Value}, Vals (bs.map V.bl) us → us = bs.map Value.bool
  | [], _, r => by cases r; rfl
  | b :: bs, _, .cons r t => by
    cases r
    rw [vals_bl t]
    rfl
theorem range_all (bs : List Bool) : (List.range bs.length).all (fun i => bs.getD i false) = bs.all id := by
  rw [Bool.eq_iff_iff, List.all_eq_true, List.all_eq_true]
  constructor
  · intro h b hb
    obtain ⟨i, hi, e⟩ := List.mem_iff_getElem.mp hb
    have := h i (List.mem_range.mpr hi)
    rw [List.getD_eq_getElem?_getD, List.getElem?_eq_getElem hi] at this
    rw [← e]; exact this
  · intro h i hi
    have hi := List.mem_range.mp hi
    rw [List.getD_eq_getElem?_getD, List.getElem?_eq_getElem hi]
    exact h _ (List.getElem_mem hi)
theorem truthOf_bools (prog : Program) (w : World) (A : Around) (bs : List Bool) : TruthOf prog w A (fun i v => ((bs.map Value.bool).toArray)[i]? = some v) fun i => bs.getD i false := by
  intro i v s Q E hP hQ
  simp only [List.getElem?_toArray, List.getElem?_map] at hP
  cases e : bs[i]? with
  | none => rw [e] at hP; cases hP
  | some b =>
    rw [e] at hP
    cases hP
    dsimp only at hQ
    rw [List.getD_eq_getElem?_getD, e] at hQ
    exact wpAny_truthy_bool hQ
theorem call_all (hc : X.calm = true) : CallR X (.builtin "all") (fun xs H Q => ∃ (p : Addr) (bs : List Bool), xs = [.ref p] ∧ SqL X.K H p (bs.map V.bl) ∧ Q (.bl (bs.all id)) H) := by
  intro pins s σ H xs us Q I r h
  obtain ⟨p, bs, rfl, hq, q⟩ := h
  obtain ⟨u, rfl, rx⟩ := vals1 r
  cases rx
  obtain ⟨its, rv, pl, hz⟩ := I.list hq
  have e := vals_bl rv
  subst e
  have hne : p ≠ s.heap.objs.size := by obtain ⟨o, n, ho, _⟩ := pl; exact Nat.ne_of_lt (Heap.lt_size ho)
  refine call_all_walk (wpAny_pyIter_list pl.isList ?_)
  refine ⟨_, _, _, _, _, _, fun i => bs.getD i false, rfl, Walks.list (A := X.A.in1) (show X.A.in1.handled = none from I.ok.hd hc) s.heap.objs.size p hne (bs.map Value.bool).toArray, ⟨⟨_, Heap.get?_push_size _ rfl, rfl, rfl⟩, (pl.keeps fun b o e => Heap.get?_push_of_some _ e).isList⟩, truthOf_bools _ _ _ bs, fun h' tk hk => ?_⟩
  refine ⟨.bl (bs.all id), H, I.kept (t' := tk) fun b o e => hk b o (by simp; exact Nat.ne_of_lt (Heap.lt_size e)) (Heap.get?_push_of_some _ e), ?_, q⟩
  show Value.bool _ = Value.bool _
  rw [← range_all]
  simp

/-! ### isinstance -/
def clsV : V → Value
  | .ty n => .type n
  | .ref a => .ref a
  | _ => .none
end
end L2

/-! ### a def of the text, and its promise, in short -/
namespace L2
open PySem PySem.Spec PyProof.Rows
/-- the def x stands at the top as st -/
def Def (K : PySem.W.Frag) (mg : Str → Option Value) (x : Str) (st : Stmt) : Prop := ∃ f fd, mg x = some (.ref f) ∧ Fun K x x st f fd
/-- the def x keeps the promise sp -/
def Own (P : Program) (w : World) (K : PySem.W.Frag) (mg : Str → Option Value) (base : Heap) (k : Nat) (x : Str) (ps : List Str) (sp : Sp) : Prop :=
  ∃ f fd, mg x = some (.ref f) ∧ PySem.W.keepIn K (.ref f) = true ∧ Binds K fd ps [] ∧ FnOk P w K mg base CX0 k f fd ps sp
theorem Def.own {P : Program} {w : World} {K : PySem.W.Frag} {mg : Str → Option Value} {base : Heap} {x : Str} {st : Stmt} {N ps : List Str} {k : Nat} {sp : Sp} (D : Def K mg x st) (S : FnScope N ps (defScope st))
    (hb : ∀ (kV doc pm : Value) (an : Option Addr) (cdv ct : Value) (us : List Value), us.length = ps.length → bindArgs (PySem.W.fnOf x x (defArgs st) (defBody st) (defScope st) .none kV doc pm an cdv ct) ⟨us, []⟩ = pure (ps.zip us))
    (len : ∀ vs H Q E, sp vs H Q E → vs.length = ps.length)
    (hbody : ∀ (f : Addr) (cdv : Value) (A : Around) (outer : List Env) (s : Shared) (H : Hp) (vs : List V) (Q : VK) (E : XK), Room k (A.deeper (envOfC x (defScope st) s.heap.objs.size f cdv)) → sp vs H Q E →
      ∃ t, PSs (cxOf CX0 P w K mg base N x (defScope st) f cdv A outer s H E).nox (defBody st) t ∧ t { nx := fun _ H' => Q .non H', rt := Q } (start N vs) H) : Own P w K mg base (k + 1) x ps sp := by
  obtain ⟨f, fd, hm, F⟩ := D
  exact ⟨f, fd, hm, F.kp, F.binds hb, F.ok S len (hbody f)⟩
theorem def_mk {K : PySem.W.Frag} {h : Heap} {mg : Str → Option Value} (X : K.In h) (G : h.Ns mainGlobals mg) {x : Str} {st : Stmt} {f : Addr} {oc : Value} {od an : Option Addr} {osl : Array (Option Value)} {kV doc pm cdv ct : Value}
    (a : PySem.W.nsIn K mainGlobals x = some (some (.ref f)))
    (l : K.lookup f = some ⟨oc, od, .func (PySem.W.fnOf x x (defArgs st) (defBody st) (defScope st) .none kV doc pm an cdv ct), osl⟩) (c : PySem.W.codeIn K cdv x = true) (k : PySem.W.keepIn K (.ref f) = true) : Def K mg x st :=
  ⟨f, _, PySem.W.mg_of X G a, fun_mk l c k⟩
section
variable {X : Cx} {j k : Nat} {x : Str} {ps : List Str} {sp : Sp} {p pos : Pos} {e : Expr} {es : List Expr} {t : TA}
theorem pe_fn (F : Own X.prog X.w X.K X.mg X.base j x ps sp) (hr : Room k X.A) (ha : PA X (e :: es) t) (hk : j ≤ k := by decide) (hg : Gl X x := by rfl)
    (hdb : (x == ("__debug__" : Str)) = false := by decide) (he : starEach (e :: es) X.env = (false, eval e X.env) :: starEach es X.env := by rfl) (hpl : (backTo pos (starEach es X.env)).any (·.1) = false := by rfl) :
    PE X (.Call (.Name x p) (e :: es) [] pos) (tCall sp [] E0 t) := by
  obtain ⟨f, fd, hm, kp, hb, F⟩ := F
  exact pe_call F (hr.mono hk) hg hm kp hb .nil pass0 ha hdb he hpl
end
/-- the names of built-ins that no def of the text takes -/
def Blt (mg : Str → Option Value) : Prop := ∀ x : Str, x ∈ (["len", "any", "all", "max", "min", "isinstance", "list", "tuple", "int", "bool", "str", "dict", "range"] : List Str) → mg x = none
theorem blt_mk {K : PySem.W.Frag} {h : Heap} {mg : Str → Option Value} (X : K.In h) (G : h.Ns mainGlobals mg) (z0 : PySem.W.nsIn K mainGlobals "len" = some none) (z1 : PySem.W.nsIn K mainGlobals "any" = some none) (z2 : PySem.W.nsIn K mainGlobals "all" = some none) (z3 : PySem.W.nsIn K mainGlobals "max" = some none) (z4 : PySem.W.nsIn K mainGlobals "min" = some none) (z5 : PySem.W.nsIn K mainGlobals "isinstance" = some none) (z6 : PySem.W.nsIn K mainGlobals "list" = some none) (z7 : PySem.W.nsIn K mainGlobals "tuple" = some none) (z8 : PySem.W.nsIn K mainGlobals "int" = some none) (z9 : PySem.W.nsIn K mainGlobals "bool" = some none) (z10 : PySem.W.nsIn K mainGlobals "str" = some none) (z11 : PySem.W.nsIn K mainGlobals "dict" = some none) (z12 : PySem.W.nsIn K mainGlobals "range" = some none) : Blt mg := by
  intro x hx
  simp only [List.mem_cons, List.not_mem_nil, or_false] at hx
  rcases hx with rfl | rfl | rfl | rfl | rfl | rfl | rfl | rfl | rfl | rfl | rfl | rfl | rfl
  · exact PySem.W.mg_none_of X G z0
  · exact PySem.W.mg_none_of X G z1
  · exact PySem.W.mg_none_of X G z2
  · exact PySem.W.mg_none_of X G z3
  · exact PySem.W.mg_none_of X G z4
  · exact PySem.W.mg_none_of X G z5
  · exact PySem.W.mg_none_of X G z6
  · exact PySem.W.mg_none_of X G z7
  · exact PySem.W.mg_none_of X G z8
  · exact PySem.W.mg_none_of X G z9
  · exact PySem.W.mg_none_of X G z10
  · exact PySem.W.mg_none_of X G z11
  · exact PySem.W.mg_none_of X G z12
theorem bt_len : bootBuiltins "len" = some (.builtin "len") := by decide +kernel
theorem bt_all : bootBuiltins "all" = some (.builtin "all") := by decide +kernel
theorem bt_max : bootBuiltins "max" = some (.builtin "max") := by decide +kernel
theorem bt_list : bootBuiltins "list" = some (.type "list") := by decide +kernel
theorem bt_int : bootBuiltins "int" = some (.type "int") := by decide +kernel
end L2

namespace HT
open PySem PySem.Spec PyProof.Rows
section
variable {prog : Program} {w : World} {A : Around} {E : Value → Shared → Prop} {s : Shared}
end
end HT

namespace L2
open PySem PySem.Spec PyProof.Rows
section
variable {X : Cx}
end
end L2
/-! The rules that read through the fragment, with the fragment named: so that a block's terms do not hang on the block's context. -/
namespace L2
open PySem PySem.Spec PyProof.Rows
section
variable {X : Cx} (K : PySem.W.Frag)
theorem sl_listK (h : X.K = K := by rfl) : SlR X (rSlL K) := by subst h; exact sl_list
def rLen (K : PySem.W.Frag) : List V → Hp → VK → Prop := fun xs H Q => ∃ p ys, xs = [.ref p] ∧ (SqL K H p ys ∨ SqT K H p ys) ∧ Q (.int ys.length) H
def rListOf (K : PySem.W.Frag) : List V → Hp → VK → Prop := fun xs H Q => ∃ p ys, xs = [.ref p] ∧ (SqL K H p ys ∨ SqT K H p ys) ∧ ∀ l, H l = none → Q (.ref l) (upd H l (.lst ys))
def rTupOf (K : PySem.W.Frag) : List V → Hp → VK → Prop := fun xs H Q => ∃ p ys, xs = [.ref p] ∧ ((SqL K H p ys ∧ ∀ l, H l = none → Q (.ref l) (upd H l (.tup ys))) ∨ (SqT K H p ys ∧ Q (.ref p) H))
def rAny (K : PySem.W.Frag) : List V → Hp → VK → Prop := fun xs H Q => ∃ (p : Addr) (bs : List Bool), xs = [.ref p] ∧ SqL K H p (bs.map V.bl) ∧ Q (.bl (bs.any id)) H
def rAll (K : PySem.W.Frag) : List V → Hp → VK → Prop := fun xs H Q => ∃ (p : Addr) (bs : List Bool), xs = [.ref p] ∧ SqL K H p (bs.map V.bl) ∧ Q (.bl (bs.all id)) H
def rIsI (K : PySem.W.Frag) : List V → Hp → VK → Prop := fun xs H Q => ∃ x c t b, xs = [x, c] ∧ (∃ n, c = .ty n) ∧ TyOf K H x t ∧ PySem.W.kitOne K t (clsV c) = some b ∧ Q (.bl b) H
theorem pi_listK {tg l : Expr} {tl : TE} (hl : PE X l tl) (h : X.K = K := by rfl) : PI X tg l (iList K tl) := by subst h; exact pi_list hl
def tTru (K : PySem.W.Frag) (ta : TE) : TT := fun σ H Q => ta σ H fun x H' => ∃ k, TruV K x H' k ∧ Q k H'
theorem pe_fldK {e : Expr} {ta : TE} {f : Str} {pos : Pos} (he : PE X e ta) (hb : attributeBase e f X.env (eval e X.env) = eval e X.env := by rfl) (h : X.K = K := by rfl) : PE X (.Attribute e f pos) (tFld K ta f) := by subst h; exact pe_fld he hb
end
end L2
/-! The forms of a comprehension that one uses. -/
namespace L2
open PySem PySem.Spec PyProof.Rows

/-- what tComp asks of an iterator -/
def CompW (n : Nat) (js : List Nat) (g : TG) (tc : TT) (te : TE) (σ : St) (Q : VK) (J : It) (H1 : Hp) : Prop :=
  ∀ D, H1 D = none → ∃ W : Nat → Nat → List V → Hp → Prop, (∃ m, W 0 m [] (upd H1 D (.lst []))) ∧ ∀ i m acc H, W i m acc H →
    H D = some (.lst acc) ∧ ((J.stop i H ∧ Q (.ref D) H) ∨ (J.go i H ∧ acc.length < sizeLine ∧ ∃ Nx : List V → Hp → Prop, (∀ acc' H', Nx acc' H' → ∃ m', m' < m ∧ W (i + 1) m' acc' H') ∧
      ∀ x H', J.yld i H x H' → g x (cSt n js σ) H' fun σ2 H2 => σ2.drop n = (cSt n js σ).drop n ∧ tc σ2 H2 fun b H3 => if b = true then te σ2 H3 fun v H4 => H4 D = some (.lst acc) ∧ Nx (acc ++ [v]) (upd H4 D (.lst (acc ++ [v]))) else H3 D = some (.lst acc) ∧ Nx acc H3))
section
variable {n : Nat} {js : List Nat} {g : TG} {tc : TT} {te : TE} {σ : St} {Q : VK} {H1 : Hp}
/-- over a list that stays -/
theorem comp_list {K : PySem.W.Frag} {a : Addr} {xs : List V} (hz : xs.length ≤ sizeLine) (Pv : Addr → Nat → List V → Hp → Prop) (h0 : ∀ D, H1 D = none → Pv D 0 [] (upd H1 D (.lst [])))
    (hl : ∀ D i acc H, H1 D = none → i ≤ xs.length → Pv D i acc H → H D = some (.lst acc) ∧ SqL K H a xs ∧ acc.length ≤ i)
    (hs : ∀ D i x acc H, H1 D = none → xs[i]? = some x → Pv D i acc H → g x (cSt n js σ) H fun σ2 H2 => σ2.drop n = (cSt n js σ).drop n ∧ tc σ2 H2 fun b H3 => if b = true then te σ2 H3 fun v H4 => H4 D = some (.lst acc) ∧ Pv D (i + 1) (acc ++ [v]) (upd H4 D (.lst (acc ++ [v]))) else H3 D = some (.lst acc) ∧ Pv D (i + 1) acc H3)
    (hd : ∀ D acc H, H1 D = none → Pv D xs.length acc H → Q (.ref D) H) : CompW n js g tc te σ Q (Itl K a) H1 := by
  intro D hD
  refine ⟨fun i m acc H => m = xs.length - i ∧ i ≤ xs.length ∧ Pv D i acc H, ⟨xs.length, by simp, Nat.zero_le _, h0 D hD⟩, ?_⟩
  rintro i m acc H ⟨rfl, hi, p⟩
  obtain ⟨e1, q, e3⟩ := hl D i acc H hD hi p
  refine ⟨e1, ?_⟩
  by_cases hlt : i < xs.length
  · refine .inr ⟨⟨xs, xs[i], q, by simp [hlt]⟩, by omega, Pv D (i + 1), fun acc' H' p' => ⟨xs.length - (i + 1), by omega, rfl, hlt, p'⟩, fun x H' y => ?_⟩
    obtain ⟨e, y⟩ := y
    subst e
    exact hs D i x acc _ hD (y xs q) p
  · have e : i = xs.length := by omega
    subst e
    exact .inl ⟨⟨xs, q, Nat.le_refl _⟩, hd D acc H hD p⟩
/-- over a range -/
theorem comp_range {lo : Int} {m : Nat} (hz : m ≤ sizeLine) (Pv : Addr → Nat → List V → Hp → Prop) (h0 : ∀ D, H1 D = none → Pv D 0 [] (upd H1 D (.lst [])))
    (hl : ∀ D i acc H, H1 D = none → i ≤ m → Pv D i acc H → H D = some (.lst acc) ∧ acc.length ≤ i)
    (hs : ∀ D i acc H, H1 D = none → i < m → Pv D i acc H → g (.int (lo + i)) (cSt n js σ) H fun σ2 H2 => σ2.drop n = (cSt n js σ).drop n ∧ tc σ2 H2 fun b H3 => if b = true then te σ2 H3 fun v H4 => H4 D = some (.lst acc) ∧ Pv D (i + 1) (acc ++ [v]) (upd H4 D (.lst (acc ++ [v]))) else H3 D = some (.lst acc) ∧ Pv D (i + 1) acc H3)
    (hd : ∀ D acc H, H1 D = none → Pv D m acc H → Q (.ref D) H) : CompW n js g tc te σ Q (Itr lo m) H1 := by
  intro D hD
  refine ⟨fun i k acc H => k = m - i ∧ i ≤ m ∧ Pv D i acc H, ⟨m, by simp, Nat.zero_le _, h0 D hD⟩, ?_⟩
  rintro i k acc H ⟨rfl, hi, p⟩
  obtain ⟨e1, e3⟩ := hl D i acc H hD hi p
  refine ⟨e1, ?_⟩
  by_cases hlt : i < m
  · refine .inr ⟨hlt, by omega, Pv D (i + 1), fun acc' H' p' => ⟨m - (i + 1), by omega, rfl, hlt, p'⟩, fun x H' y => ?_⟩
    obtain ⟨e, y⟩ := y
    subst e y
    exact hs D i acc _ hD hlt p
  · have e : i = m := by omega
    subst e
    exact .inl ⟨Nat.le_refl _, hd D acc H hD p⟩

theorem Same.upd_new {H : Hp} {a : Addr} {o : HO} (h : H a = none) : Same H (upd H a o) := fun b u e => by
  rw [upd_ne (ne_of_none e h)]
  exact e
theorem Same.upd {H0 H : Hp} {a : Addr} {o : HO} (e : Same H0 H) (h : H0 a = none) : Same H0 (upd H a o) := fun b u q => by
  rw [upd_ne (ne_of_none q h)]
  exact e b u q
/-- over a list, an element that is reckoned and makes nothing -/
theorem comp_pure {K : PySem.W.Frag} {a : Addr} {xs : List V} (hx : SqL K H1 a xs) (hz : xs.length ≤ sizeLine) (f : V → V)
    (hs : ∀ (H : Hp) x (Q' : VK), x ∈ xs → Same H1 H → Q' (f x) H → g x (cSt n js σ) H fun σ2 H2 => σ2.drop n = (cSt n js σ).drop n ∧ te σ2 H2 Q')
    (hq : ∀ D, H1 D = none → Q (.ref D) (upd H1 D (.lst (xs.map f)))) (gm : ∀ x σ H P P', (∀ σ2 H2, P σ2 H2 → P' σ2 H2) → g x σ H P → g x σ H P') : CompW n js g tYes te σ Q (Itl K a) H1 := by
  refine comp_list hz (fun D i acc H => acc = (xs.take i).map f ∧ H = upd H1 D (.lst acc)) (fun D _ => ⟨by simp, rfl⟩) ?_ ?_ ?_
  · rintro D i acc H hD hi ⟨rfl, rfl⟩
    exact ⟨upd_same, (Same.upd_new hD).seq hx, by simp; omega⟩
  · rintro D i x acc H hD hxi ⟨rfl, rfl⟩
    refine gm _ _ _ _ _ (fun σ2 H2 h => ?_) (hs _ x (fun v H4 => H4 D = some (.lst ((xs.take i).map f)) ∧ (((xs.take i).map f) ++ [v] = (xs.take (i + 1)).map f ∧ upd H4 D (.lst (((xs.take i).map f) ++ [v])) = upd H1 D (.lst (((xs.take i).map f) ++ [v])))) (List.mem_of_getElem? hxi) (Same.upd_new hD) ⟨upd_same, ?_, by rw [upd_upd]⟩)
    · exact ⟨h.1, h.2⟩
    · rw [List.take_add_one, hxi]
      simp
  · rintro D acc H hD ⟨rfl, rfl⟩
    rw [List.take_length]
    exact hq D hD
/-- over a range, an element that is reckoned and makes nothing -/
theorem comp_pureR {lo : Int} {m : Nat} (hz : m ≤ sizeLine) (f : Int → V)
    (hs : ∀ (H : Hp) (i : Nat) (Q' : VK), i < m → Same H1 H → Q' (f (lo + i)) H → g (.int (lo + i)) (cSt n js σ) H fun σ2 H2 => σ2.drop n = (cSt n js σ).drop n ∧ te σ2 H2 Q')
    (hq : ∀ D, H1 D = none → Q (.ref D) (upd H1 D (.lst ((List.range m).map fun (i : Nat) => f (lo + i))))) (gm : ∀ x σ H P P', (∀ σ2 H2, P σ2 H2 → P' σ2 H2) → g x σ H P → g x σ H P') : CompW n js g tYes te σ Q (Itr lo m) H1 := by
  refine comp_range hz (fun D i acc H => acc = (List.range i).map (fun (i : Nat) => f (lo + i)) ∧ H = upd H1 D (.lst acc)) (fun D _ => ⟨by simp, rfl⟩) ?_ ?_ ?_
  · rintro D i acc H hD hi ⟨rfl, rfl⟩
    exact ⟨upd_same, by simp⟩
  · rintro D i acc H hD hi ⟨rfl, rfl⟩
    refine gm _ _ _ _ _ (fun σ2 H2 h => ?_) (hs _ i (fun v H4 => H4 D = some (.lst ((List.range i).map fun (i : Nat) => f (lo + i))) ∧ (((List.range i).map fun (i : Nat) => f (lo + i)) ++ [v] = (List.range (i + 1)).map (fun (i : Nat) => f (lo + i)) ∧ upd H4 D (.lst (((List.range i).map fun (i : Nat) => f (lo + i)) ++ [v])) = upd H1 D (.lst (((List.range i).map fun (i : Nat) => f (lo + i)) ++ [v])))) hi (Same.upd_new hD) ⟨upd_same, ?_, by rw [upd_upd]⟩)
    · exact ⟨h.1, h.2⟩
    · rw [List.range_succ]
      simp
  · rintro D acc H hD ⟨rfl, rfl⟩
    exact hq D hD
theorem gName_mono (i : Nat) : ∀ (x : V) (σ : St) (H : Hp) (P P' : St → Hp → Prop), (∀ σ2 H2, P σ2 H2 → P' σ2 H2) → gName i x σ H P → gName i x σ H P' := fun _ _ _ _ _ h q => h _ _ q
end

/-! ### readings in short, for simp -/
theorem cxOf_K {CX : CXT} {P : Program} {w : World} {K : PySem.W.Frag} {mg : Str → Option Value} {base : Heap} {N : List Str} {qual : Str} {scope : Scope} {f : Addr} {cd : Value} {A : Around} {outer : List Env} {s : Shared} {H : Hp} {E : XK} :
    (cxOf CX P w K mg base N qual scope f cd A outer s H E).K = K := rfl
theorem cxC_K {X : Cx} {scope : Scope} {N' : List Str} {C : Addr} {fp : List Addr} {s : Shared} {H : Hp} : (cxC X scope N' C fp s H).K = X.K := rfl
theorem upd_none {H : Hp} {p a : Addr} {o : HO} (h : upd H p o a = none) : a ≠ p ∧ H a = none := by
  unfold upd at h
  split at h
  · cases h
  · rename_i z; exact ⟨z, h⟩
section
variable {H : Hp} {Q : VK} {i j : Int} {b c : Bool} {x y : Str}
theorem rEq_ii : rEq (.int i) (.int j) H Q = Q (.bl (decide (i = j))) H := by simp [rEq, scal]
theorem rNe_ii : rNe (.int i) (.int j) H Q = Q (.bl (!decide (i = j))) H := by simp [rNe, scal]
theorem rEq_bb : rEq (.bl b) (.bl c) H Q = Q (.bl (decide (b = c))) H := by simp [rEq, scal]
theorem rNe_bb : rNe (.bl b) (.bl c) H Q = Q (.bl (!decide (b = c))) H := by simp [rNe, scal]
theorem cmul_mod {a m b : Int} (h0 : 0 < m) (h1 : m ≤ 2147483648) : CMul (a % m) b := by
  have h2 := Int.emod_nonneg a (show m ≠ 0 by omega)
  have h3 := Int.emod_lt_of_pos a h0
  exact .inl ⟨by omega, by omega⟩
theorem atI_in {α : Type} {xs : List α} {k : Int} (h0 : 0 ≤ k) (h1 : k < xs.length) : ∃ v, v ∈ xs ∧ atI xs k = some v := by
  obtain ⟨n, rfl⟩ := Int.eq_ofNat_of_zero_le h0
  have hn : n < xs.length := by omega
  exact ⟨xs[n], List.getElem_mem hn, atI_nat (List.getElem?_eq_getElem hn)⟩
end
theorem truV_bl {K : PySem.W.Frag} {H : Hp} {b k : Bool} : TruV K (.bl b) H k = (k = b) := rfl
theorem clsV_ty {n : String} : clsV (.ty n) = .type n := rfl
/-- what tFor asks of an iterator -/
def ForW (g : TG) (tb : TS) (D : Ends) (σ : St) (J : It) (H1 : Hp) : Prop := ∃ W : Nat → Nat → St → Hp → Prop, (∃ m, W 0 m σ H1) ∧ ∀ i m σ H, W i m σ H →
  (J.stop i H ∧ D.nx σ H) ∨ (J.go i H ∧ ∃ N : St → Hp → Prop, (∀ σ' H', N σ' H' → ∃ m', m' < m ∧ W (i + 1) m' σ' H') ∧ ∀ x H', J.yld i H x H' → g x σ H' fun σ2 H2 => tb { D with nx := N, ct := N, bk := D.nx } σ2 H2)
theorem tFor_eq {wi : TI} {g : TG} {tb : TS} {D : Ends} {σ : St} {H : Hp} : tFor wi g tb D σ H = wi σ H fun J H1 => ForW g tb D σ J H1 := rfl
theorem tComp_eq {n : Nat} {js : List Nat} {wi : TI} {g : TG} {tc : TT} {te : TE} {σ : St} {H : Hp} {Q : VK} : tComp n js wi g tc te σ H Q = wi σ H fun J H1 => CompW n js g tc te σ Q J H1 := rfl
/-- what was just made -/
theorem new_same {H H' : Hp} {p : Addr} {o : HO} (h : upd H p o = H') (hp : H p = none) : Same H H' ∧ H' p = some o := by
  subst h
  exact ⟨Same.upd_new hp, upd_same⟩
end L2
/-! Lists of tuples of ints on the abstract heap. -/
namespace L2
open PySem PySem.Spec PyProof.Rows
def TupI (H : Hp) (x : V) (d : List Int) : Prop := ∃ t, x = .ref t ∧ H t = some (.tup (d.map V.int))
abbrev DeedsX (H : Hp) (xs : List V) (ds : List (List Int)) : Prop := Paired (TupI H) xs ds
def DeedsAt (H : Hp) (a : Addr) (ds : List (List Int)) : Prop := ∃ xs, H a = some (.lst xs) ∧ DeedsX H xs ds
def dD (d : List Int) : PyData := .tuple (d.map PyData.int)
section
variable {H H' : Hp} {x : V} {d : List Int} {xs ys : List V} {ds es : List (List Int)} {a : Addr} {o : HO}
theorem TupI.same (e : Same H H') (h : TupI H x d) : TupI H' x d := let ⟨t, p, q⟩ := h; ⟨t, p, e _ _ q⟩
theorem TupI.upd (h : TupI H x d) (ha : ∀ zs, H a ≠ some (.tup zs)) : TupI (upd H a o) x d := by
  obtain ⟨t, p, q⟩ := h
  refine ⟨t, p, ?_⟩
  rw [upd_ne]
  · exact q
  · rintro rfl; exact ha _ q
theorem DeedsX.same (e : Same H H') (h : DeedsX H xs ds) : DeedsX H' xs ds := Paired.mapP h fun _ _ z => z.same e
theorem DeedsX.upd (h : DeedsX H xs ds) (ha : ∀ zs, H a ≠ some (.tup zs)) : DeedsX (upd H a o) xs ds := Paired.mapP h fun _ _ z => z.upd ha
theorem DeedsX.len (h : DeedsX H xs ds) : xs.length = ds.length := Paired.length h
theorem paired_append {α β : Type} {F : α → β → Prop} : ∀ {l1 m1 : List α} {l2 m2 : List β}, Paired F l1 l2 → Paired F m1 m2 → Paired F (l1 ++ m1) (l2 ++ m2)
  | _, _, _, _, .nil, s => s
  | _, _, _, _, .cons r t, s => .cons r (paired_append t s)
theorem paired_get {α β : Type} {F : α → β → Prop} : ∀ {l1 : List α} {l2 : List β} {i : Nat} {x : α}, Paired F l1 l2 → l1[i]? = some x → ∃ y, l2[i]? = some y ∧ F x y
  | _, _, _, _, .nil, e => by simp at e
  | _, _, 0, _, .cons r _, e => by simp at e; subst e; exact ⟨_, rfl, r⟩
  | _, _, i + 1, x, .cons _ t, e => by
    obtain ⟨u, h1, h2⟩ := paired_get (i := i) (x := x) t (by simpa using e)
    exact ⟨u, by simpa using h1, h2⟩
theorem DeedsAt.same (e : Same H H') (h : DeedsAt H a ds) : DeedsAt H' a ds := let ⟨xs, p, q⟩ := h; ⟨xs, e _ _ p, q.same e⟩
theorem hasAll_ints {K : PySem.W.Frag} : ∀ d : List Int, HasAll K H (d.map V.int) (d.map PyData.int)
  | [] => .nil
  | i :: d => .cons (.int i) (hasAll_ints d)
theorem TupI.has {K : PySem.W.Frag} (h : TupI H x d) : Has K H x (dD d) := by
  obtain ⟨t, rfl, e⟩ := h
  exact .tup (SqT.of e) (hasAll_ints d)
theorem DeedsX.has {K : PySem.W.Frag} : ∀ {xs : List V} {ds : List (List Int)}, DeedsX H xs ds → HasAll K H xs (ds.map dD)
  | _, _, .nil => .nil
  | _, _, .cons r t => .cons r.has (DeedsX.has t)
theorem DeedsAt.has {K : PySem.W.Frag} (h : DeedsAt H a ds) : Has K H (.ref a) (.list (ds.map dD)) := let ⟨_, p, q⟩ := h; .lst (SqL.of p) q.has
/-! equality of such data -/
/-! cuts -/
theorem cutV_take (xs : List V) {k : Int} (h : 0 ≤ k) : cutV xs none (some k) = xs.take k.toNat := by
  obtain ⟨n, rfl⟩ := Int.eq_ofNat_of_zero_le h
  unfold cutV
  rw [HT.sIx_none, HT.sIx_nat, List.drop_zero, Int.toNat_natCast, Nat.sub_zero]
  rcases Nat.le_total n xs.length with z | z
  · rw [Nat.min_eq_left z]
  · rw [Nat.min_eq_right z, List.take_of_length_le (Nat.le_refl _), List.take_of_length_le z]
theorem cutV_map (d : List Int) (lo hi : Option Int) : ∃ e : List Int, cutV (d.map V.int) lo hi = e.map V.int := by
  unfold cutV
  exact ⟨(d.drop (HT.sIx (d.map V.int).length 0 lo)).take (HT.sIx (d.map V.int).length (d.map V.int).length hi - HT.sIx (d.map V.int).length 0 lo), by rw [List.map_take, List.map_drop]⟩
end
end L2
/-! Own classes in short; dicts with written keys; is with a truth. -/
namespace L2
open PySem PySem.Spec PyProof.Rows
/-- the method m of the class at C stands as st -/
def DefM (K : PySem.W.Frag) (C : Addr) (m qual : Str) (st : Stmt) : Prop := ∃ f fd, Meth K C m f ∧ Fun K m qual st f fd
/-- the class's __init__ stands as st, and the class can be made -/
def DefI (K : PySem.W.Frag) (C : Addr) (qual : Str) (st : Stmt) : Prop := ∃ f fd, Mk K C f ∧ Fun K "__init__" qual st f fd
def OwnM (P : Program) (w : World) (K : PySem.W.Frag) (mg : Str → Option Value) (base : Heap) (k : Nat) (C : Addr) (m : Str) (ps : List Str) (sp : Sp) : Prop :=
  ∃ f fd, Meth K C m f ∧ Binds K fd ps [] ∧ FnOk P w K mg base CX0 k f fd ps sp
def OwnI (P : Program) (w : World) (K : PySem.W.Frag) (mg : Str → Option Value) (base : Heap) (k : Nat) (C : Addr) (ps : List Str) (sp : Sp) : Prop :=
  ∃ f fd, Mk K C f ∧ Binds K fd ps [] ∧ FnOk P w K mg base CX0 k f fd ps sp
/-- the class x stands at C; none of it or above it has the names -/
structure ClsD (K : PySem.W.Frag) (mg : Str → Option Value) (x : Str) (C : Addr) (attrs : List Str) : Prop where
  mgC : mg x = some (.ref C)
  cl : Cls K C
  no : ∀ f ∈ attrs, NoAttr K C f
section
variable {P : Program} {w : World} {K : PySem.W.Frag} {mg : Str → Option Value} {base : Heap} {C : Addr} {m qual : Str} {st : Stmt} {N ps : List Str} {k : Nat} {sp : Sp}
theorem DefM.own (D : DefM K C m qual st) (S : FnScope N ps (defScope st))
    (hb : ∀ (kV doc pm : Value) (an : Option Addr) (cdv ct : Value) (us : List Value), us.length = ps.length → bindArgs (PySem.W.fnOf m qual (defArgs st) (defBody st) (defScope st) .none kV doc pm an cdv ct) ⟨us, []⟩ = pure (ps.zip us))
    (len : ∀ vs H Q E, sp vs H Q E → vs.length = ps.length)
    (hbody : ∀ (f : Addr) (cdv : Value) (A : Around) (outer : List Env) (s : Shared) (H : Hp) (vs : List V) (Q : VK) (E : XK), Room k (A.deeper (envOfC qual (defScope st) s.heap.objs.size f cdv)) → sp vs H Q E →
      ∃ t, PSs (cxOf CX0 P w K mg base N qual (defScope st) f cdv A outer s H E).nox (defBody st) t ∧ t { nx := fun _ H' => Q .non H', rt := Q } (start N vs) H) : OwnM P w K mg base (k + 1) C m ps sp := by
  obtain ⟨f, fd, hm, F⟩ := D
  exact ⟨f, fd, hm, F.binds hb, F.ok S len (hbody f)⟩
theorem DefI.own (D : DefI K C qual st) (S : FnScope N ps (defScope st))
    (hb : ∀ (kV doc pm : Value) (an : Option Addr) (cdv ct : Value) (us : List Value), us.length = ps.length → bindArgs (PySem.W.fnOf "__init__" qual (defArgs st) (defBody st) (defScope st) .none kV doc pm an cdv ct) ⟨us, []⟩ = pure (ps.zip us))
    (len : ∀ vs H Q E, sp vs H Q E → vs.length = ps.length)
    (hbody : ∀ (f : Addr) (cdv : Value) (A : Around) (outer : List Env) (s : Shared) (H : Hp) (vs : List V) (Q : VK) (E : XK), Room k (A.deeper (envOfC qual (defScope st) s.heap.objs.size f cdv)) → sp vs H Q E →
      ∃ t, PSs (cxOf CX0 P w K mg base N qual (defScope st) f cdv A outer s H E).nox (defBody st) t ∧ t { nx := fun _ H' => Q .non H', rt := Q } (start N vs) H) : OwnI P w K mg base (k + 1) C ps sp := by
  obtain ⟨f, fd, hm, F⟩ := D
  exact ⟨f, fd, hm, F.binds hb, F.ok S len (hbody f)⟩
theorem defM_mk {f : Addr} {oc : Value} {od an : Option Addr} {osl : Array (Option Value)} {kV doc pm cdv ct : Value} (a : PySem.W.findIn K (.ref C) m = some (some (.ref f))) (i : PySem.W.isFn K (.ref f) = true)
    (l : K.lookup f = some ⟨oc, od, .func (PySem.W.fnOf m qual (defArgs st) (defBody st) (defScope st) .none kV doc pm an cdv ct), osl⟩) (c : PySem.W.codeIn K cdv qual = true) (k : PySem.W.keepIn K (.ref f) = true) : DefM K C m qual st :=
  ⟨f, _, ⟨a, i, k⟩, fun_mk l c k⟩
theorem defI_mk {f : Addr} {oc : Value} {od an : Option Addr} {osl : Array (Option Value)} {kV doc pm cdv ct : Value} (a : PySem.W.findIn K (.ref C) "__init__" = some (some (.ref f))) (i : PySem.W.isFn K (.ref f) = true)
    (l : K.lookup f = some ⟨oc, od, .func (PySem.W.fnOf "__init__" qual (defArgs st) (defBody st) (defScope st) .none kV doc pm an cdv ct), osl⟩) (c : PySem.W.codeIn K cdv qual = true) (k : PySem.W.keepIn K (.ref f) = true)
    (mk : PySem.W.makesIn K C = true) (kc : PySem.W.keepIn K (.ref C) = true) : DefI K C qual st :=
  ⟨f, _, ⟨mk, a, i, kc⟩, fun_mk l c k⟩
end
section
variable {X : Cx} {j k : Nat} {C : Addr} {x m : Str} {ps : List Str} {sp : Sp} {p pos apos : Pos} {o e : Expr} {es : List Expr} {ta : TE} {t : TA}
theorem pe_mth {pl : Sem Bool} (M : OwnM X.prog X.w X.K X.mg X.base j C m ps sp) (c : Cls X.K C) (hr : Room k X.A) (he : PE X o ta) (ha : PA X (e :: es) t) (hk : j ≤ k := by decide)
    (hst : starEach (e :: es) X.env = (false, eval e X.env) :: starEach es X.env := by rfl) (hpl : (backTo pos (starEach es X.env)).any (·.1) = false := by rfl)
    (ht : eval (.Call (.Attribute o m apos) (e :: es) [] pos) X.env = (do
      let ov ← eval o X.env
      standAt apos.atName
      let (f, first) ← holding [ov] (getMethod ov m pl)
      callWith pos f first (backTo pos (starEach (e :: es) X.env)) (backToKw pos (keywordEach [] X.env))) := by rfl) :
    PE X (.Call (.Attribute o m apos) (e :: es) [] pos) (tMeth C m sp [] E0 ta t) := by
  obtain ⟨f, fd, hm, hb, F⟩ := M
  exact pe_meth (pl := pl) he c hm F (hr.mono hk) hb .nil pass0 ha hst hpl ht
theorem pe_mak (M : OwnI X.prog X.w X.K X.mg X.base j C ps sp) (hr : Room k X.A) (hm : X.mg x = some (.ref C)) (ha : PA X (e :: es) t) (hk : j + 1 ≤ k := by decide) (hg : Gl X x := by rfl)
    (hdb : (x == ("__debug__" : Str)) = false := by decide) (he : starEach (e :: es) X.env = (false, eval e X.env) :: starEach es X.env := by rfl) (hpl : (backTo pos (starEach es X.env)).any (·.1) = false := by rfl) :
    PE X (.Call (.Name x p) (e :: es) [] pos) (tMake C sp [] E0 t) := by
  obtain ⟨f, fd, hk', hb, F⟩ := M
  exact pe_make hk' F (hr.mono hk) hg hm hb .nil pass0 ha hdb he hpl
/-- x is True, x is False, of a truth -/
def rIsB : R2 := fun x y H Q => ∃ a b, x = .bl a ∧ y = .bl b ∧ Q (.bl (decide (a = b))) H
def rIsntB : R2 := fun x y H Q => ∃ a b, x = .bl a ∧ y = .bl b ∧ Q (.bl (!decide (a = b))) H
end
/-! dicts with written text keys -/
theorem DGet.s {H : Hp} {a : Addr} {kvs : List (Key × V)} {x : Str} {v : V} (e : H a = some (.dK kvs)) (h : valV kvs (Sum.inr x : Key) = some v) : DGet H a (.str x) (some v) := by
  have := DGet.k (k := Sum.inr x) e
  rw [h] at this
  exact this
theorem DPut.s {H : Hp} {a : Addr} {kvs : List (Key × V)} {x : Str} {v : V} {kvs' : List (Key × V)} (e : H a = some (.dK kvs)) (hl : kvs.length < sizeLine) (h : putK kvs (Sum.inr x : Key) v = kvs') : DPut H a (.str x) v (upd H a (.dK kvs')) := by
  subst h
  exact DPut.k (k := Sum.inr x) e hl
def tDGs (td : TE) (x : Str) : TE := fun σ H Q => td σ H fun d H1 => ∃ a kvs v, d = .ref a ∧ H1 a = some (.dK kvs) ∧ valV kvs (Sum.inr x : Key) = some v ∧ Q v H1
def sDPs (td tv : TE) (x : Str) : TS := fun D σ H => tv σ H fun v H1 => td σ H1 fun d H2 => ∃ a kvs, d = .ref a ∧ H2 a = some (.dK kvs) ∧ kvs.length < sizeLine ∧ D.nx σ (upd H2 a (.dK (putK kvs (Sum.inr x : Key) v)))
section
variable {X : Cx} {o value : Expr} {td tv : TE} {x : Str} {j : Nat} {pos pos' cpos : Pos}
end
end L2
namespace K04
/-! The mathematics of a list's fairness: over flags, true where a deed has no delay. -/
def Run (c : List Bool) (k : Nat) : Prop := ∃ i, i + k ≤ c.length ∧ ∀ j, j < k → c[i + j]? = some true
def Tail (c : List Bool) (k : Nat) : Prop := k ≤ c.length ∧ ∀ j, j < k → c[c.length - k + j]? = some true

theorem Run.snoc {c : List Bool} {e : Bool} {k : Nat} : Run (c ++ [e]) k ↔ Run c k ∨ Tail (c ++ [e]) k := by
  constructor
  · rintro ⟨i, h1, h2⟩
    simp at h1
    by_cases h : i + k = c.length + 1
    · refine .inr ⟨by simp; omega, fun j hj => ?_⟩
      have e2 : (c ++ [e]).length - k + j = i + j := by simp; omega
      rw [e2]; exact h2 j hj
    · refine .inl ⟨i, by omega, fun j hj => ?_⟩
      have := h2 j hj
      rw [List.getElem?_append_left (by omega)] at this
      exact this
  · rintro (⟨i, h1, h2⟩ | ⟨h1, h2⟩)
    · exact ⟨i, by simp; omega, fun j hj => by rw [List.getElem?_append_left (by omega)]; exact h2 j hj⟩
    · exact ⟨(c ++ [e]).length - k, by omega, h2⟩

/-- of k places one after another, round and round, none has a delay -/
def Ring (b : List Bool) (k : Nat) : Prop := ∃ st, st < b.length ∧ ∀ j, j < k → b[(st + j) % b.length]? = some true

theorem Ring.lt {b : List Bool} {k : Nat} (hf : false ∈ b) (h : Ring b k) : k < b.length := by
  obtain ⟨st, hs, h⟩ := h
  rcases Nat.lt_or_ge k b.length with z | z
  · exact z
  · exfalso
    obtain ⟨i, hi, e⟩ := List.mem_iff_getElem.mp hf
    have q := h ((i + b.length - st) % b.length) (Nat.lt_of_lt_of_le (Nat.mod_lt _ (by omega)) z)
    have e2 : (st + (i + b.length - st) % b.length) % b.length = i := by
      rw [Nat.add_mod_mod]
      have : st + (i + b.length - st) = i + b.length := by omega
      rw [this, Nat.add_mod_right, Nat.mod_eq_of_lt hi]
    rw [e2, List.getElem?_eq_getElem hi, e] at q
    cases q

end K04
/-! Letters, pairs under way, a road, over the abstract heap. -/
namespace L2
open PySem PySem.Spec PyProof.Rows
def optV : Option Int → V
  | some n => .int n
  | none => .non
/-- all but the places of S stays -/
def Keep (S : List Addr) (H H' : Hp) : Prop := ∀ b o, H b = some o → b ∉ S → H' b = some o
section
variable {S T : List Addr} {H H1 H2 : Hp} {a b : Addr} {o : HO}
theorem Keep.refl : Keep S H H := fun _ _ h _ => h
theorem Keep.trans (k : Keep S H H1) (j : Keep S H1 H2) : Keep S H H2 := fun b o h n => j b o (k b o h n) n
theorem Same.keep (s : Same H H1) : Keep S H H1 := fun b o h _ => s b o h
theorem Keep.same (k : Keep S H H1) (s : Same H1 H2) : Keep S H H2 := fun b o h n => s b o (k b o h n)
theorem Keep.mono (k : Keep S H H1) (h : ∀ b ∈ S, b ∈ T) : Keep T H H1 := fun b o e n => k b o e fun z => n (h b z)
theorem Keep.upd (k : Keep S H H1) (h : a ∈ S ∨ H a = none) : Keep S H (upd H1 a o) := fun b u e n => by
  rw [upd_ne]
  · exact k b u e n
  · rintro rfl
    rcases h with z | z
    · exact n z
    · rw [z] at e; cases e
theorem Keep.free (k : Keep S H H1) (h : H1 b = none) (hb : b ∉ S) : H b = none := by
  cases e : H b with
  | none => rfl
  | some o => rw [k b o e hb] at h; cases h
end
/-- a letter and what it says -/
inductive LetV (H : Hp) : V → PyData → Prop
  | str {t : Str} (ok : PyData.strOk t = true) : LetV H (.str t) (.str t)
  | int (n : Int) : LetV H (.int n) (.int n)
  | lst {p : Addr} {n : Int} : H p = some (.lst [.int n]) → LetV H (.ref p) (.list [.int n])
  | tup {p : Addr} {t : Str} {n : Int} (ok : PyData.strOk t = true) : H p = some (.tup [.str t, .int n]) → LetV H (.ref p) (.tuple [.str t, .int n])
/-- no letter lies here -/
def Soft (H : Hp) (b : Addr) : Prop := (∀ xs, H b ≠ some (.tup xs)) ∧ ∀ n, H b ≠ some (.lst [.int n])
section
variable {S : List Addr} {H H' : Hp} {x : V} {d : PyData} {b : Addr}
theorem Soft.of_dK {kvs : List (Key × V)} (h : H b = some (.dK kvs)) : Soft H b := ⟨(fun xs e => by rw [h] at e; cases e), (fun n e => by rw [h] at e; cases e)⟩
theorem LetV.keep (k : Keep S H H') (hs : ∀ b ∈ S, Soft H b) : LetV H x d → LetV H' x d
  | .str ok => .str ok
  | .int n => .int n
  | .lst h => .lst (k _ _ h fun z => (hs _ z).2 _ h)
  | .tup ok h => .tup ok (k _ _ h fun z => (hs _ z).1 _ h)
theorem LetV.same (s : Same H H') (h : LetV H x d) : LetV H' x d := h.keep (S := []) s.keep (fun _ z => nomatch z)
theorem LetV.has {K : PySem.W.Frag} : LetV H x d → Has K H x d
  | .str _ => .str _
  | .int n => .int n
  | .lst h => .lst (SqL.of h) (.cons (.int _) .nil)
  | .tup _ h => .tup (SqT.of h) (.cons (.str _) (.cons (.int _) .nil))
theorem LetV.refl : LetV H x d → PyData.eqv d d = true
  | .str t => by simp [PyData.eqv]
  | .int n => by simp [PyData.eqv]
  | .lst h => by simp [PyData.eqv, PyData.eqvAll]
  | .tup _ h => by simp [PyData.eqv, PyData.eqvAll]
theorem LetV.lay : LetV H x d → PyData.canLay0 d = true
  | .str ok => by simp [PyData.canLay0, ok]
  | .int n => by simp [PyData.canLay0]
  | .lst h => by simp [PyData.canLay0, PyData.canLayAll0]
  | .tup ok h => by simp [PyData.canLay0, PyData.canLayAll0, ok]
theorem LetV.depth : LetV H x d → d.depth ≤ 3
  | .str t => by simp [PyData.depth]
  | .int n => by simp [PyData.depth]
  | .lst h => by simp [PyData.depth, PyData.depthAll]
  | .tup _ h => by simp [PyData.depth, PyData.depthAll]
end
def LetsX (H : Hp) (zs : List V) (qs : List PyData) : Prop := Paired (LetV H) zs qs
section
variable {S : List Addr} {H H' : Hp}
theorem LetsX.keep (k : Keep S H H') (hs : ∀ b ∈ S, Soft H b) {zs : List V} {qs : List PyData} (h : LetsX H zs qs) : LetsX H' zs qs := Paired.mapP h fun _ _ z => z.keep k hs
theorem LetsX.same (s : Same H H') {zs : List V} {qs : List PyData} (h : LetsX H zs qs) : LetsX H' zs qs := Paired.mapP h fun _ _ z => z.same s
theorem LetsX.has {K : PySem.W.Frag} : ∀ {zs : List V} {qs : List PyData}, LetsX H zs qs → HasAll K H zs qs
  | _, _, .nil => .nil
  | _, _, .cons r t => .cons r.has (LetsX.has t)
theorem LetsX.refl : ∀ {zs : List V} {qs : List PyData}, LetsX H zs qs → PyData.eqvAll qs qs = true
  | _, _, .nil => by simp [PyData.eqvAll]
  | _, _, .cons r t => by rw [PyData.eqvAll, r.refl, LetsX.refl t]; rfl
theorem LetsX.lay : ∀ {zs : List V} {qs : List PyData}, LetsX H zs qs → PyData.canLayAll0 qs = true
  | _, _, .nil => by simp [PyData.canLayAll0]
  | _, _, .cons r t => by rw [PyData.canLayAll0, r.lay, LetsX.lay t]; rfl
theorem LetsX.depth : ∀ {zs : List V} {qs : List PyData}, LetsX H zs qs → PyData.depthAll qs ≤ 3
  | _, _, .nil => by simp [PyData.depthAll]
  | _, _, .cons r t => by
    have h1 := r.depth
    have h2 := LetsX.depth t
    rw [PyData.depthAll]
    omega
theorem LetsX.shaped {zs : List V} {qs : List PyData} (h : LetsX H zs qs) : SeqAt.shaped (.list qs) = true := by
  have := h.depth
  unfold SeqAt.shaped
  rw [PyData.canLay0, h.lay, PyData.depth, decide_eq_true (by omega)]; rfl
end
/-- a pair of a turn and a letter -/
def PairV (H : Hp) (x : V) (p : Int × PyData) : Prop := ∃ t y, x = .ref t ∧ H t = some (.tup [.int p.1, y]) ∧ LetV H y p.2
def PairsX (H : Hp) (xs : List V) (us : List (Int × PyData)) : Prop := Paired (PairV H) xs us
section
variable {S : List Addr} {H H' : Hp} {xs : List V} {us : List (Int × PyData)} {b : Addr}
theorem PairV.keep (k : Keep S H H') (hs : ∀ b ∈ S, Soft H b) {x : V} {p : Int × PyData} (h : PairV H x p) : PairV H' x p := by
  obtain ⟨t, y, e, h1, h2⟩ := h
  exact ⟨t, y, e, k _ _ h1 fun z => (hs _ z).1 _ h1, h2.keep k hs⟩
theorem PairsX.keep (k : Keep S H H') (hs : ∀ b ∈ S, Soft H b) (h : PairsX H xs us) : PairsX H' xs us := Paired.mapP h fun _ _ z => z.keep k hs
theorem PairsX.same (s : Same H H') (h : PairsX H xs us) : PairsX H' xs us := h.keep (S := []) s.keep (fun _ z => nomatch z)
theorem PairsX.len (h : PairsX H xs us) : xs.length = us.length := Paired.length h
theorem deeds_keep {a : Addr} {ds : List (List Int)} (k : Keep S H H') (hs : ∀ b ∈ S, Soft H b) (ha : a ∉ S) (h : DeedsAt H a ds) : DeedsAt H' a ds := by
  obtain ⟨xs, e, d⟩ := h
  exact ⟨xs, k _ _ e ha, Paired.mapP d fun _ _ ⟨t, p, q⟩ => ⟨t, p, k _ _ q fun z => (hs _ z).1 _ q⟩⟩
theorem Soft.keep {T : List Addr} (k : Keep T H H') (hb : b ∉ T) (hn : H b ≠ none) (h : Soft H b) : Soft H' b := by
  cases e : H b with
  | none => exact absurd e hn
  | some o =>
    have := k b o e hb
    refine ⟨fun xs q => h.1 xs ?_, fun n q => h.2 n ?_⟩
    · rw [this] at q; rw [e]; exact q
    · rw [this] at q; rw [e]; exact q
end
/-- the delays of what is sent in turn z -/
def del (ds : List (List Int)) (z : Int) : List Int := if ds = [] then [1] else ds.getD (z.toNat % ds.length) []
/-! ### a road -/
def rf (l : Addr) (ls la : Option Int) (u : Addr) : List (Str × V) := [("deeds", .ref l), ("last_sent", optV ls), ("last_asked", optV la), ("underway", .ref u)]
section
variable {l u : Addr} {ls la : Option Int}
end
structure RoadAt (C : Addr) (H : Hp) (x dx l u : Addr) (ds : List (List Int)) (ls la : Option Int) (us : List (Int × PyData)) : Prop where
  ins : H x = some (.ins C dx (rf l ls la u))
  deeds : DeedsAt H l ds
  und : ∃ xs, H u = some (.lst xs) ∧ PairsX H xs us
  ne : l ≠ u
section
variable {S : List Addr} {C : Addr} {H H' : Hp} {x dx l u : Addr} {ds : List (List Int)} {ls la : Option Int} {us : List (Int × PyData)}
theorem RoadAt.keep (k : Keep S H H') (hs : ∀ b ∈ S, Soft H b) (hx : x ∉ S) (hl : l ∉ S) (hu : u ∉ S) (R : RoadAt C H x dx l u ds ls la us) : RoadAt C H' x dx l u ds ls la us := by
  obtain ⟨xs, e, p⟩ := R.und
  exact ⟨k _ _ R.ins hx, deeds_keep k hs hl R.deeds, ⟨xs, k _ _ e hu, p.keep k hs⟩, R.ne⟩
theorem RoadAt.same (s : Same H H') (R : RoadAt C H x dx l u ds ls la us) : RoadAt C H' x dx l u ds ls la us := R.keep (S := []) s.keep (fun _ z => nomatch z) (fun z => nomatch z) (fun z => nomatch z) (fun z => nomatch z)
end
/-! ### what isinstance tells of a letter -/
end L2
namespace L2
open PySem PySem.Spec PyProof.Rows
theorem Same.seqT {K : PySem.W.Frag} {H H' : Hp} {a : Addr} {xs : List V} (e : Same H H') (h : SqT K H a xs) : SqT K H' a xs := by
  rcases h with h | h
  · rcases h with h | ⟨o, h⟩
    · exact .inl (.inl (e _ _ h))
    · exact .inl (.inr ⟨o, e _ _ h⟩)
  · exact .inr h
theorem SqT.keep {K : PySem.W.Frag} {S : List Addr} {H H' : Hp} {a : Addr} {xs : List V} (k : Keep S H H') (hs : ∀ b ∈ S, ∃ ys, H b = some (.lst ys)) (h : SqT K H a xs) : SqT K H' a xs := by
  rcases h with h | h
  · rcases h with h | ⟨o, h⟩
    · exact .inl (.inl (k _ _ h fun z => by obtain ⟨ys, e⟩ := hs _ z; rw [h] at e; cases e))
    · exact .inl (.inr ⟨o, k _ _ h fun z => by obtain ⟨ys, e⟩ := hs _ z; rw [h] at e; cases e⟩)
  · exact .inr h
end L2
/-! Data that cannot change: numbers, texts, tuples of such. -/
namespace L2
open PySem PySem.Spec PyProof.Rows
mutual
inductive Im (H : Hp) : V → PyData → Prop
  | non : Im H .non .none
  | bl (b : Bool) : Im H (.bl b) (.bool b)
  | int (n : Int) : Im H (.int n) (.int n)
  | str {t : Str} (ok : PyData.strOk t = true) : Im H (.str t) (.str t)
  | tup {p : Addr} {xs : List V} {ds : List PyData} : H p = some (.tup xs) → Ims H xs ds → xs.length ≤ 1000 → Im H (.ref p) (.tuple ds)
inductive Ims (H : Hp) : List V → List PyData → Prop
  | nil : Ims H [] []
  | cons {x : V} {xs : List V} {d : PyData} {ds : List PyData} : Im H x d → Ims H xs ds → Ims H (x :: xs) (d :: ds)
end
/-- no tuple lies here -/
def NoT (H : Hp) (b : Addr) : Prop := ∀ xs, H b ≠ some (.tup xs)
section
variable {S : List Addr} {H H' : Hp} {b : Addr}
theorem NoT.of_lst {xs : List V} (h : H b = some (.lst xs)) : NoT H b := fun xs e => by rw [h] at e; cases e
theorem NoT.of_dK {kvs : List (Key × V)} (h : H b = some (.dK kvs)) : NoT H b := fun xs e => by rw [h] at e; cases e
mutual
theorem Im.keep (k : Keep S H H') (hs : ∀ b ∈ S, NoT H b) : ∀ {x : V} {d : PyData}, Im H x d → Im H' x d
  | _, _, .non => .non
  | _, _, .bl b => .bl b
  | _, _, .int n => .int n
  | _, _, .str ok => .str ok
  | _, _, .tup h hx hl => .tup (k _ _ h fun z => hs _ z _ h) (Ims.keep k hs hx) hl
theorem Ims.keep (k : Keep S H H') (hs : ∀ b ∈ S, NoT H b) : ∀ {xs : List V} {ds : List PyData}, Ims H xs ds → Ims H' xs ds
  | _, _, .nil => .nil
  | _, _, .cons r t => .cons (Im.keep k hs r) (Ims.keep k hs t)
end
theorem Im.same (s : Same H H') {x : V} {d : PyData} (h : Im H x d) : Im H' x d := h.keep (S := []) s.keep (fun _ z => nomatch z)
theorem Ims.same (s : Same H H') {xs : List V} {ds : List PyData} (h : Ims H xs ds) : Ims H' xs ds := h.keep (S := []) s.keep (fun _ z => nomatch z)
mutual
theorem Im.has {K : PySem.W.Frag} : ∀ {x : V} {d : PyData}, Im H x d → Has K H x d
  | _, _, .non => .non
  | _, _, .bl b => .bl b
  | _, _, .int n => .int n
  | _, _, .str _ => .str _
  | _, _, .tup h hx _ => .tup (SqT.of h) (Ims.has hx)
theorem Ims.has {K : PySem.W.Frag} : ∀ {xs : List V} {ds : List PyData}, Ims H xs ds → HasAll K H xs ds
  | _, _, .nil => .nil
  | _, _, .cons r t => .cons (Im.has r) (Ims.has t)
end
mutual
theorem Im.refl : ∀ {x : V} {d : PyData}, Im H x d → PyData.eqv d d = true
  | _, _, .non => by simp [PyData.eqv]
  | _, _, .bl b => by simp [PyData.eqv]
  | _, _, .int n => by simp [PyData.eqv]
  | _, _, .str _ => by simp [PyData.eqv]
  | _, _, .tup _ hx _ => by rw [PyData.eqv]; exact Ims.refl hx
theorem Ims.refl : ∀ {xs : List V} {ds : List PyData}, Ims H xs ds → PyData.eqvAll ds ds = true
  | _, _, .nil => by simp [PyData.eqvAll]
  | _, _, .cons r t => by rw [PyData.eqvAll, Im.refl r, Ims.refl t]; rfl
end
mutual
theorem Im.lay : ∀ {x : V} {d : PyData}, Im H x d → PyData.canLay0 d = true
  | _, _, .non => by simp [PyData.canLay0]
  | _, _, .bl b => by simp [PyData.canLay0]
  | _, _, .int n => by simp [PyData.canLay0]
  | _, _, .str ok => by simp [PyData.canLay0, ok]
  | _, _, .tup _ hx _ => by rw [PyData.canLay0]; exact Ims.lay hx
theorem Ims.lay : ∀ {xs : List V} {ds : List PyData}, Ims H xs ds → PyData.canLayAll0 ds = true
  | _, _, .nil => by simp [PyData.canLayAll0]
  | _, _, .cons r t => by rw [PyData.canLayAll0, Im.lay r, Ims.lay t]; rfl
end
theorem Ims.len : ∀ {xs : List V} {ds : List PyData}, Ims H xs ds → xs.length = ds.length
  | _, _, .nil => rfl
  | _, _, .cons _ t => by rw [List.length_cons, List.length_cons, Ims.len t]
theorem Ims.get : ∀ {xs : List V} {ds : List PyData} {i : Nat} {x : V}, Ims H xs ds → xs[i]? = some x → ∃ d, ds[i]? = some d ∧ Im H x d
  | _, _, _, _, .nil, e => by simp at e
  | _, _, 0, _, .cons r _, e => by simp at e; subst e; exact ⟨_, rfl, r⟩
  | _, _, i + 1, x, .cons _ t, e => by
    obtain ⟨u, h1, h2⟩ := Ims.get (i := i) (x := x) t (by simpa using e)
    exact ⟨u, by simpa using h1, h2⟩
theorem Ims.take : ∀ {xs : List V} {ds : List PyData} (n : Nat), Ims H xs ds → Ims H (xs.take n) (ds.take n)
  | _, _, 0, _ => by simp only [List.take_zero]; exact .nil
  | _, _, _ + 1, .nil => .nil
  | _, _, n + 1, .cons r t => .cons r (Ims.take n t)
theorem Ims.drop : ∀ {xs : List V} {ds : List PyData} (n : Nat), Ims H xs ds → Ims H (xs.drop n) (ds.drop n)
  | _, _, 0, r => r
  | _, _, _ + 1, .nil => .nil
  | _, _, n + 1, .cons _ t => Ims.drop n t
theorem Ims.one {x : V} {d : PyData} (h : Im H x d) : Ims H [x] [d] := .cons h .nil
theorem shaped_of {d : PyData} (h : PyData.canLay0 d = true) (hd : d.depth ≤ 64) : SeqAt.shaped d = true := by
  unfold SeqAt.shaped
  rw [h, decide_eq_true hd]; rfl
theorem depthAll_le {n : Nat} : ∀ {ds : List PyData}, (∀ d ∈ ds, d.depth ≤ n) → PyData.depthAll ds ≤ n
  | [], _ => Nat.zero_le _
  | d :: ds, h => by
    rw [PyData.depthAll]
    exact Nat.max_le.mpr ⟨h d (.head _), depthAll_le fun e he => h e (.tail _ he)⟩
end
/-! ### sum of a list of numbers -/
theorem ints_vals : ∀ {ns : List Int} {us : List Value}, Vals (ns.map V.int) us → IntsAre us ns
  | [], _, .nil => .nil
  | _ :: _, _, .cons ⟨_, rfl⟩ r => .cons _ _ (ints_vals r)
section
variable {X : Cx}
theorem call_sum (hc : X.calm = true) : CallR X (.builtin "sum") (fun xs H Q => ∃ (p : Addr) (ns : List Int), xs = [.ref p] ∧ SqL X.K H p (ns.map V.int) ∧ Q (.int ns.sum) H) := by
  intro pins s σ H xs us Q I r h
  obtain ⟨p, ns, rfl, hq, q⟩ := h
  obtain ⟨u, rfl, rx⟩ := vals1 r
  cases rx
  obtain ⟨its, rv, pl, hz⟩ := I.list hq
  have hi := ints_vals rv
  obtain ⟨xs, hx⟩ := hi.allInts.items
  have hl := pl.isList
  rw [hx] at hl
  refine sum_intListG (show X.A.handled = none from I.ok.hd hc) hl fun h' tk t' hk => ⟨.int ns.sum, H, I.kept (t' := tk) hk, ?_, q⟩
  have e1 : ns = xs.toList.map (·.1) := by
    rw [← nums_intItems, ← hx]
    exact (show numsOf its.toArray.toList = ns from hi.numsOf).symm
  rw [preSum_eq, List.take_of_length_le (by simp), ← e1]
  exact ⟨_, rfl⟩
end
theorem bt_sum : bootBuiltins "sum" = some (.builtin "sum") := by decide +kernel
section
variable {X : Cx} {j k : Nat} {C : Addr} {x m : Str} {ps : List Str} {sp : Sp} {p pos apos : Pos} {o : Expr} {ta : TE}
end
/-! ### numbered parcels -/
/-- a pair of a number and a parcel -/
def pd (p : Int × PyData) : PyData := .tuple [.int p.1, p.2]
section
variable {S : List Addr} {H H' : Hp}
theorem Ims.pair {v : V} {p : Int × PyData} (h : Im H v (pd p)) : ∃ t y, v = .ref t ∧ H t = some (.tup [.int p.1, y]) ∧ Im H y p.2 := by
  unfold pd at h
  cases h with
  | @tup t xs ds e hx hl =>
    cases hx with
    | cons r1 hx =>
      cases r1
      cases hx with
      | cons r2 hx =>
        cases hx
        exact ⟨t, _, rfl, e, r2⟩
theorem Im.pair {t : Addr} {y : V} {n : Int} {d : PyData} (e : H t = some (.tup [.int n, y])) (h : Im H y d) : Im H (.ref t) (pd (n, d)) := .tup e (.cons (.int n) (.cons h .nil)) (by simp)
end
/-- what the taker does with a pair -/
def tk (s : Int × List PyData) (p : Int × PyData) : Int × List PyData := if p.1 = s.1 then (s.1 + 1, s.2 ++ [p.2]) else s
end L2
/-! Readings that may be weakened: what while_by asks of a test. -/
namespace L2
open PySem PySem.Spec PyProof.Rows
/-! ### a list and another one, both only read -/
section
variable {X : Cx}
end
end L2
/-! Readings by what stands at an address itself: they run by simp alone. -/
namespace L2
open PySem PySem.Spec PyProof.Rows
section
variable {X : Cx}
theorem OpR.weak {f : Value → Value → Sem Value} {r r' : R2} (h : OpR X f r) (w : ∀ x y H Q, r' x y H Q → r x y H Q) : OpR X f r' :=
  fun pins s σ H x y v u Q I rx ry q => h pins s σ H x y v u Q I rx ry (w _ _ _ _ q)
theorem IxR.weak {r r' : R2} (h : IxR X r) (w : ∀ x y H Q, r' x y H Q → r x y H Q) : IxR X r' :=
  fun value slice pins s σ H x y v u Q I rx ry q hs => h value slice pins s σ H x y v u Q I rx ry (w _ _ _ _ q) hs
theorem CallR.weak {f : Value} {r r' : List V → Hp → VK → Prop} (h : CallR X f r) (w : ∀ xs H Q, r' xs H Q → r xs H Q) : CallR X f r' :=
  fun pins s σ H xs us Q I rs q => h pins s σ H xs us Q I rs (w _ _ _ q)
theorem SlR.weak {r r' : V → Option Int → Option Int → Hp → VK → Prop} (h : SlR X r) (w : ∀ x l u H Q, r' x l u H Q → r x l u H Q) : SlR X r' :=
  fun pins s σ H x v vl vu lo hi sl Q I rx hs pl pu q => h pins s σ H x v vl vu lo hi sl Q I rx hs pl pu (w _ _ _ _ _ q)

/-! ### a subscript -/
def getO : HO → V → Option V
  | .lst xs, .int i => atI xs i
  | .tup xs, .int i => atI xs i
  | .dK kvs, .int i => valV kvs (Sum.inl i)
  | .dK kvs, .str x => valV kvs (Sum.inr x)
  | _, _ => none
theorem getO_l {xs : List V} {i : Int} : getO (.lst xs) (.int i) = atI xs i := rfl
theorem getO_t {xs : List V} {i : Int} : getO (.tup xs) (.int i) = atI xs i := rfl
theorem getO_di {kvs : List (Key × V)} {i : Int} : getO (.dK kvs) (.int i) = valV kvs (Sum.inl i) := rfl
theorem getO_ds {kvs : List (Key × V)} {x : Str} : getO (.dK kvs) (.str x) = valV kvs (Sum.inr x) := rfl
def rGet : R2 := fun x y H Q => ∃ p o v, x = .ref p ∧ H p = some o ∧ getO o y = some v ∧ Q v H
theorem ix_dict (hu : X.A.units + 1 < cLine) : IxR X (fun x y H Q => ∃ a v, x = .ref a ∧ DGet H a y (some v) ∧ Q v H) := by
  intro value slice pins s σ H x y v u Q I rx ry h hs
  obtain ⟨a, z, rfl, g, q⟩ := h
  cases rx
  exact tail_any (dict_typeIs I g) PySem.F.slot_dict_getitem.lookup (d_getItem hu I g ry fun w' s3 I3 rw' => ⟨z, H, I3, rw', q⟩) hs
theorem ix_get (hu : X.A.units + 1 < cLine) : IxR X rGet := by
  intro value slice pins s σ H x y v u Q I rx ry h hs
  obtain ⟨p, o, z, rfl, e, g, q⟩ := h
  cases o with
  | lst xs => cases y <;> first | exact ix_list value slice pins s σ H _ _ v u Q I rx ry ⟨p, xs, _, z, rfl, rfl, SqL.of e, g, q⟩ hs | cases g
  | tup xs => cases y <;> first | exact ix_tup value slice pins s σ H _ _ v u Q I rx ry ⟨p, xs, _, z, rfl, rfl, SqT.of e, g, q⟩ hs | cases g
  | dK kvs =>
    cases y with
    | int i => exact ix_dict hu value slice pins s σ H _ _ v u Q I rx ry ⟨p, z, rfl, .inl ⟨kvs, Sum.inl i, .inl e, rfl, g.symm⟩, q⟩ hs
    | str x => exact ix_dict hu value slice pins s σ H _ _ v u Q I rx ry ⟨p, z, rfl, .inl ⟨kvs, Sum.inr x, .inl e, rfl, g.symm⟩, q⟩ hs
    | _ => cases g
  | _ => cases y <;> cases g

/-! ### len -/
def lenO : HO → Option Nat
  | .lst xs => some xs.length
  | .tup xs => some xs.length
  | .dK kvs => some kvs.length
  | _ => none
def lenX (H : Hp) : V → Option Nat
  | .ref p => (H p).bind lenO
  | .str z => if z.length ≤ sizeLine then some z.length else none
  | _ => none
theorem lenX_r {H : Hp} {p : Addr} : lenX H (.ref p) = (H p).bind lenO := rfl
theorem lenO_l {xs : List V} : lenO (.lst xs) = some xs.length := rfl
theorem lenO_t {xs : List V} : lenO (.tup xs) = some xs.length := rfl
theorem lenO_d {kvs : List (Key × V)} : lenO (.dK kvs) = some kvs.length := rfl
def rLenX : List V → Hp → VK → Prop := fun xs H Q => ∃ x n, xs = [x] ∧ lenX H x = some n ∧ Q (.int n) H
theorem call_lenX : CallR X (.builtin "len") rLenX := by
  intro pins s σ H xs us Q I r h
  obtain ⟨x, n, rfl, g, q⟩ := h
  cases x with
  | ref p =>
    cases e : H p with
    | none => rw [lenX_r, e] at g; cases g
    | some o =>
      rw [lenX_r, e] at g
      cases o with
      | lst xs => cases g; exact call_len_seq pins s σ H _ us Q I r ⟨p, xs, rfl, .inl (SqL.of e), q⟩
      | tup xs => cases g; exact call_len_seq pins s σ H _ us Q I r ⟨p, xs, rfl, .inr (SqT.of e), q⟩
      | dK kvs =>
        cases g
        obtain ⟨u, rfl, rx⟩ := vals1 r
        cases rx
        exact d_len I (.inl e) fun t s' I' => ⟨.int _, H, I', ⟨t, rfl⟩, q⟩
      | _ => cases g
  | str z =>
    have g' : (if z.length ≤ sizeLine then some z.length else none) = some n := g
    split at g'
    · cases g'
      rename_i hz
      exact call_len_str pins s σ H _ us Q I r ⟨z, rfl, hz, q⟩
    · cases g'
  | _ => cases g

/-! ### truth -/
def truO : HO → Option Bool
  | .lst xs => some (!xs.isEmpty)
  | .tup xs => some (!xs.isEmpty)
  | .dK kvs => some (!kvs.isEmpty)
  | _ => none
def truX (H : Hp) : V → Option Bool
  | .non => some false
  | .bl b => some b
  | .int i => some (i != 0)
  | .ref p => (H p).bind truO
  | _ => none
theorem truX_n {H : Hp} : truX H .non = some false := rfl
theorem truX_b {H : Hp} {b : Bool} : truX H (.bl b) = some b := rfl
theorem truX_i {H : Hp} {i : Int} : truX H (.int i) = some (i != 0) := rfl
theorem truX_r {H : Hp} {p : Addr} : truX H (.ref p) = (H p).bind truO := rfl
theorem truO_l {xs : List V} : truO (.lst xs) = some (!xs.isEmpty) := rfl
theorem truO_t {xs : List V} : truO (.tup xs) = some (!xs.isEmpty) := rfl
theorem truO_d {kvs : List (Key × V)} : truO (.dK kvs) = some (!kvs.isEmpty) := rfl
def tTruX (ta : TE) : TT := fun σ H Q => ta σ H fun x H' => ∃ k, truX H' x = some k ∧ Q k H'
theorem tru_x : TruR X (fun x H Q => ∃ k, truX H x = some k ∧ Q k H) := by
  intro pins s σ H x v Q I rx h
  obtain ⟨k, g, q⟩ := h
  refine tru_ok pins s σ H x v Q I rx ⟨k, ?_, q⟩
  cases x with
  | non => cases g; rfl
  | bl b => cases g; rfl
  | int i => cases g; rfl
  | ref p =>
    cases e : H p with
    | none => rw [truX_r, e] at g; cases g
    | some o =>
      rw [truX_r, e] at g
      cases o with
      | lst xs => cases g; exact .inl ⟨xs, SqL.of e, rfl⟩
      | tup xs => cases g; exact .inr (.inl ⟨xs, SqT.of e, rfl⟩)
      | dK kvs => cases g; exact .inr (.inr ⟨kvs, e, rfl⟩)
      | _ => cases g
  | _ => cases g
theorem pt_truX {a : Expr} {ta : TE} (ha : PE X a ta) (he : ∀ whole, isTrue a X.env whole = (do let v ← whole; standAt a.pos; holding [v] (truthy v)) := by intro _; rfl) : PT X a (tTruX ta) := by
  intro pins s σ H Q I h
  exact isTrue_plain (thn (ha pins s σ H _ I h) fun v s1 ⟨x, H1, I1, r1, q1⟩ => tru_x pins s1 σ H1 x v Q I1 r1 q1) (he _)

/-! ### in, not in -/
def inO : HO → V → Option Bool
  | .lst xs, x => if flatV x = true ∧ xs.all flatV = true then some (inV x xs) else none
  | .tup xs, x => if flatV x = true ∧ xs.all flatV = true then some (inV x xs) else none
  | .dK kvs, .int i => some (valV kvs (Sum.inl i)).isSome
  | .dK kvs, .str z => some (valV kvs (Sum.inr z)).isSome
  | _, _ => none
theorem inO_di {kvs : List (Key × V)} {i : Int} : inO (.dK kvs) (.int i) = some (valV kvs (Sum.inl i)).isSome := rfl
theorem inO_ds {kvs : List (Key × V)} {z : Str} : inO (.dK kvs) (.str z) = some (valV kvs (Sum.inr z)).isSome := rfl
def rInX : R2 := fun x y H Q => ∃ p o b, y = .ref p ∧ H p = some o ∧ inO o x = some b ∧ Q (.bl b) H
def rNotInX : R2 := fun x y H Q => ∃ p o b, y = .ref p ∧ H p = some o ∧ inO o x = some b ∧ Q (.bl (!b)) H
theorem op_inX (hu : X.A.units + 1 < cLine) : OpR X (compareOp .In) rInX := by
  intro pins s σ H x y v u Q I rx ry h
  obtain ⟨p, o, b, rfl, e, g, q⟩ := h
  cases o with
  | lst xs =>
    have g' : (if flatV x = true ∧ xs.all flatV = true then some (inV x xs) else none) = some b := g
    split at g'
    · rename_i hz
      cases g'
      exact op_in_seq pins s σ H _ _ v u Q I rx ry ⟨p, xs, rfl, .inl (SqL.of e), hz.1, hz.2, q⟩
    · cases g'
  | tup xs =>
    have g' : (if flatV x = true ∧ xs.all flatV = true then some (inV x xs) else none) = some b := g
    split at g'
    · rename_i hz
      cases g'
      exact op_in_seq pins s σ H _ _ v u Q I rx ry ⟨p, xs, rfl, .inr (SqT.of e), hz.1, hz.2, q⟩
    · cases g'
  | dK kvs =>
    cases ry
    cases x with
    | int i => cases g; exact d_in hu I (.inl ⟨kvs, Sum.inl i, .inl e, rfl, rfl⟩) rx fun s' I' => ⟨.bl _, H, I', rfl, q⟩
    | str z => cases g; exact d_in hu I (.inl ⟨kvs, Sum.inr z, .inl e, rfl, rfl⟩) rx fun s' I' => ⟨.bl _, H, I', rfl, q⟩
    | _ => cases g
  | _ => cases x <;> cases g
theorem op_notinX (hu : X.A.units + 1 < cLine) : OpR X (compareOp .NotIn) rNotInX := by
  intro pins s σ H x y v u Q I rx ry h
  obtain ⟨p, o, b, rfl, e, g, q⟩ := h
  cases o with
  | lst xs =>
    have g' : (if flatV x = true ∧ xs.all flatV = true then some (inV x xs) else none) = some b := g
    split at g'
    · rename_i hz
      cases g'
      exact op_notIn_seq pins s σ H _ _ v u Q I rx ry ⟨p, xs, rfl, .inl (SqL.of e), hz.1, hz.2, q⟩
    · cases g'
  | tup xs =>
    have g' : (if flatV x = true ∧ xs.all flatV = true then some (inV x xs) else none) = some b := g
    split at g'
    · rename_i hz
      cases g'
      exact op_notIn_seq pins s σ H _ _ v u Q I rx ry ⟨p, xs, rfl, .inr (SqT.of e), hz.1, hz.2, q⟩
    · cases g'
  | dK kvs =>
    cases ry
    cases x with
    | int i => cases g; exact d_notIn hu I (.inl ⟨kvs, Sum.inl i, .inl e, rfl, rfl⟩) rx fun s' I' => ⟨.bl _, H, I', rfl, q⟩
    | str z => cases g; exact d_notIn hu I (.inl ⟨kvs, Sum.inr z, .inl e, rfl, rfl⟩) rx fun s' I' => ⟨.bl _, H, I', rfl, q⟩
    | _ => cases g
  | _ => cases x <;> cases g

/-! ### o[i] = v -/
def setO : HO → V → V → Option HO
  | .lst xs, .int k, v => (ixN xs.length k).map fun j => .lst (xs.set j v)
  | .dK kvs, .int i, v => if kvs.length < sizeLine then some (.dK (putK kvs (Sum.inl i) v)) else none
  | .dK kvs, .str z, v => if kvs.length < sizeLine then some (.dK (putK kvs (Sum.inr z) v)) else none
  | _, _, _ => none
theorem setO_l {xs : List V} {k : Int} {v : V} : setO (.lst xs) (.int k) v = (ixN xs.length k).map fun j => .lst (xs.set j v) := rfl
def rSetX : V → V → V → Hp → (Hp → Prop) → Prop := fun o i v H Q => ∃ p ob ob', o = .ref p ∧ H p = some ob ∧ setO ob i v = some ob' ∧ Q (upd H p ob')
theorem set_x (hu : X.A.units + 1 < cLine) : PSet X rSetX := by
  intro pins s σ H o i v ov iv u Q I ro ri rv h
  obtain ⟨p, ob, ob', rfl, e, g, q⟩ := h
  cases ob with
  | lst xs =>
    cases i with
    | int k =>
      cases z : ixN xs.length k with
      | none => rw [setO_l, z] at g; cases g
      | some j =>
        rw [setO_l, z] at g
        cases g
        exact set_list pins s σ H _ _ v ov iv u Q I ro ri rv ⟨p, xs, k, j, rfl, rfl, e, z, q⟩
    | _ => cases g
  | dK kvs =>
    cases ro
    cases i with
    | int k =>
      have g' : (if kvs.length < sizeLine then some (HO.dK (putK kvs (Sum.inl k) v)) else none) = some ob' := g
      split at g'
      · rename_i hz
        cases g'
        exact d_setItem hu I (.inl ⟨kvs, Sum.inl k, e, rfl, hz, rfl⟩) ri rv fun s' I' => ⟨_, I', q⟩
      · cases g'
    | str k =>
      have g' : (if kvs.length < sizeLine then some (HO.dK (putK kvs (Sum.inr k) v)) else none) = some ob' := g
      split at g'
      · rename_i hz
        cases g'
        exact d_setItem hu I (.inl ⟨kvs, Sum.inr k, e, rfl, hz, rfl⟩) ri rv fun s' I' => ⟨_, I', q⟩
      · cases g'
    | _ => cases g
  | _ => cases i <;> cases g

/-! ### slices, list(x), tuple(x) -/
def rSlX : V → Option Int → Option Int → Hp → VK → Prop := fun x lo hi H Q => ∃ a xs, x = .ref a ∧ H a = some (.lst xs) ∧ ∀ p, H p = none → Q (.ref p) (upd H p (.lst (cutV xs lo hi)))
theorem sl_X : SlR X rSlX := sl_list.weak fun _ _ _ _ _ ⟨a, xs, e, h, q⟩ => ⟨a, xs, e, SqL.of h, q⟩
def seqO : HO → Option (List V)
  | .lst xs => some xs
  | .tup xs => some xs
  | _ => none
theorem seqO_l {xs : List V} : seqO (.lst xs) = some xs := rfl
theorem seqO_t {xs : List V} : seqO (.tup xs) = some xs := rfl
def rListX : List V → Hp → VK → Prop := fun xs H Q => ∃ p o ys, xs = [.ref p] ∧ H p = some o ∧ seqO o = some ys ∧ ∀ l, H l = none → Q (.ref l) (upd H l (.lst ys))
def rTupX : List V → Hp → VK → Prop := fun xs H Q => ∃ p ys, xs = [.ref p] ∧ H p = some (.lst ys) ∧ ∀ l, H l = none → Q (.ref l) (upd H l (.tup ys))
/-! ### targets and loops -/
def gTupX (n : Nat) (t : TGs) : TG := fun v σ H Q => ∃ a xs, v = .ref a ∧ H a = some (.tup xs) ∧ xs.length = n ∧ t xs σ H Q
/-! ### equality of scalars, of data -/
/-- data that may be compared -/
def Dt (H : Hp) (v : V) (d : PyData) : Prop := (∀ K : PySem.W.Frag, Has K H v d) ∧ PyData.canLay0 d = true ∧ PyData.eqv d d = true
def Dts (H : Hp) (xs : List V) (ds : List PyData) : Prop := (∀ K : PySem.W.Frag, HasAll K H xs ds) ∧ PyData.canLayAll0 ds = true ∧ PyData.eqvAll ds ds = true
theorem Ims.dts {H : Hp} {v : List V} {d : List PyData} (h : Ims H v d) : Dts H v d := ⟨fun _ => h.has, h.lay, h.refl⟩
theorem Dt.has {K : PySem.W.Frag} {H : Hp} {v : V} {d : PyData} (h : Dt H v d) : Has K H v d := h.1 K
theorem Dt.lay {H : Hp} {v : V} {d : PyData} (h : Dt H v d) : PyData.canLay0 d = true := h.2.1
theorem Dt.ls {H : Hp} {l : Addr} {xs : List V} {ds : List PyData} (e : H l = some (.lst xs)) (m : Dts H xs ds) : Dt H (.ref l) (.list ds) := ⟨fun K => .lst (SqL.of e) (m.1 K), by rw [PyData.canLay0]; exact m.2.1, by rw [PyData.eqv]; exact m.2.2⟩
theorem Dt.l {H : Hp} {l : Addr} {xs : List V} {ds : List PyData} (e : H l = some (.lst xs)) (m : Ims H xs ds) : Dt H (.ref l) (.list ds) := .ls e m.dts
theorem Dts.nil {H : Hp} : Dts H [] [] := ⟨fun _ => .nil, by simp [PyData.canLayAll0], by simp [PyData.eqvAll]⟩
theorem Dts.cons {H : Hp} {x : V} {xs : List V} {d : PyData} {ds : List PyData} (h : Dt H x d) (t : Dts H xs ds) : Dts H (x :: xs) (d :: ds) :=
  ⟨fun K => .cons (h.1 K) (t.1 K), by rw [PyData.canLayAll0, h.2.1, t.2.1]; rfl, by rw [PyData.eqvAll, h.2.2, t.2.2]; rfl⟩
def rNeX : R2 := fun x y H Q => ∃ d e, Dt H x d ∧ Dt H y e ∧ d.depth ≤ 60 ∧ e.depth ≤ 60 ∧ Q (.bl (!PyData.eqv d e)) H
theorem op_neX (hu : X.A.units + 64 < cLine) : OpR X (compareOp .NotEq) rNeX := (op_neD hu).weak fun _ _ _ _ ⟨d, e, h1, h2, d1, d2, q⟩ => ⟨d, e, h1.has, h2.has, shaped_of h1.lay (by omega), shaped_of h2.lay (by omega), q⟩

/-! ### methods of a list -/
def tBL (r : V → List V → Hp → VK → Prop) (to : TE) (t : TA) : TE := fun σ H Q => to σ H fun x H1 => ∃ p xs, x = .ref p ∧ H1 p = some (.lst xs) ∧ t σ H1 fun xs H2 => r x xs H2 Q
def tBL0 (r : V → List V → Hp → VK → Prop) (to : TE) : TE := fun σ H Q => to σ H fun x H1 => ∃ p xs, x = .ref p ∧ H1 p = some (.lst xs) ∧ r x [] H1 Q
theorem PE.weak {e : Expr} {t t' : TE} (h : PE X e t) (w : ∀ σ H Q, t' σ H Q → t σ H Q) : PE X e t' := fun pins s σ H Q I q => h pins s σ H Q I (w _ _ _ q)
theorem pe_lm {o e : Expr} {es : List Expr} {to : TE} {t : TA} {name : Str} {apos cpos : Pos} {id : String} {r : V → List V → Hp → VK → Prop}
    (slot : Slot "list" name id) (hty : typeOf (.builtin id) = pure (.type "method_descriptor")) (hm : MtR X id r) (ho : PE X o to) (ha : PA X (e :: es) t)
    (hbase : attributeBase o name X.env (eval o X.env) = eval o X.env := by rfl)
    (hfew : ((backTo cpos (starEach (e :: es) X.env)).all (fun x => !x.1) && (backToKw cpos (keywordEach [] X.env)).all (fun x => x.1.isSome)
      && decide ((e :: es).length + ([] : List Keyword).length + (if ([] : List Keyword).isEmpty then 0 else 1) < 30)) = true := by rfl)
    (hline : (apos.endLine == cpos.line) = true := by rfl) (hs : starEach (e :: es) X.env = (false, eval e X.env) :: starEach es X.env := by rfl) (hplain : (backTo cpos (starEach es X.env)).any (·.1) = false := by rfl) :
    PE X (.Call (.Attribute o name apos) (e :: es) [] cpos) (tBL r to t) := by
  intro pins s σ H Q I h
  refine wpAny_Call_method_late hbase hfew hline rfl (thn (ho pins s σ H _ I h) fun v s1 ⟨x, H1, I1, r1, p, xs, ex, ep, q1⟩ => ?_)
  subst ex
  obtain ⟨h1, h2⟩ := tyV_is I1 r1 (show tyV X.K "list" (.ref p) H1 from .inl ⟨rfl, xs, SqL.of ep⟩)
  refine ⟨"list", id, PySem.F.plainAttrs_list, slot, hty, h1, h2, ?_⟩
  have hA := ha cpos pins s1 σ H1 _ I1 q1
  rw [hs] at hA ⊢
  refine Calls.callWith_builtin (by show (false || (backTo cpos (starEach es X.env)).any (·.1)) = false; rw [hplain] <;> rfl) (Calls.evalArgs_plain ?_)
  exact thn hA fun us s2 ⟨vs, H2, I2, r2, q2⟩ => hm pins s2 σ H2 _ vs v us Q I2 r1 r2 q2
def rSumX : List V → Hp → VK → Prop := fun xs H Q => ∃ (p : Addr) (ns : List Int), xs = [.ref p] ∧ H p = some (.lst (ns.map V.int)) ∧ Q (.int ns.sum) H
theorem call_sumX (hc : X.calm = true) : CallR X (.builtin "sum") rSumX := (call_sum hc).weak fun _ _ _ ⟨p, ns, e, h, q⟩ => ⟨p, ns, e, SqL.of h, q⟩
theorem make_same {H H' : Hp} {x dx : Addr} {o1 o2 : HO} (hx : H x = none) (hdx : H dx = none) (k : Keep [x] (upd (upd H dx o1) x o2) H') : Same H H' := fun b o e => by
  have n1 : b ≠ x := ne_of_none e hx
  have n2 : b ≠ dx := ne_of_none e hdx
  exact k b o (by rw [upd_ne n1, upd_ne n2]; exact e) (by simp; exact n1)
/-! ### a body in parts -/
theorem use1 {t1 R : TS} {D : Ends} {σ : St} {H : Hp} (Pm : St → Hp → Prop) (key : ∀ σ' H', Pm σ' H' → R D σ' H') (go : ∀ R' : TS, (∀ σ' H', Pm σ' H' → R' D σ' H') → tSeq t1 R' D σ H) : tSeq t1 R D σ H := go R key
theorem use2 {t1 t2 R : TS} {D : Ends} {σ : St} {H : Hp} (Pm : St → Hp → Prop) (key : ∀ σ' H', Pm σ' H' → R D σ' H') (go : ∀ R' : TS, (∀ σ' H', Pm σ' H' → R' D σ' H') → tSeq t1 (tSeq t2 R') D σ H) : tSeq t1 (tSeq t2 R) D σ H := go R key
theorem use4 {t1 t2 t3 t4 R : TS} {D : Ends} {σ : St} {H : Hp} (Pm : St → Hp → Prop) (key : ∀ σ' H', Pm σ' H' → R D σ' H') (go : ∀ R' : TS, (∀ σ' H', Pm σ' H' → R' D σ' H') → tSeq t1 (tSeq t2 (tSeq t3 (tSeq t4 R'))) D σ H) : tSeq t1 (tSeq t2 (tSeq t3 (tSeq t4 R))) D σ H := go R key
theorem use7 {t1 t2 t3 t4 t5 t6 t7 R : TS} {D : Ends} {σ : St} {H : Hp} (Pm : St → Hp → Prop) (key : ∀ σ' H', Pm σ' H' → R D σ' H') (go : ∀ R' : TS, (∀ σ' H', Pm σ' H' → R' D σ' H') → tSeq t1 (tSeq t2 (tSeq t3 (tSeq t4 (tSeq t5 (tSeq t6 (tSeq t7 R')))))) D σ H) : tSeq t1 (tSeq t2 (tSeq t3 (tSeq t4 (tSeq t5 (tSeq t6 (tSeq t7 R)))))) D σ H := go R key
theorem rNe_nn {H : Hp} {Q : VK} : rNe .non .non H Q = Q (.bl false) H := by simp [rNe, scal]
theorem rEq_nn {H : Hp} {Q : VK} : rEq .non .non H Q = Q (.bl true) H := by simp [rEq, scal]
theorem rNe_in {i : Int} {H : Hp} {Q : VK} : rNe (.int i) .non H Q = Q (.bl true) H := by simp [rNe, scal]
theorem rEq_in {i : Int} {H : Hp} {Q : VK} : rEq (.int i) .non H Q = Q (.bl false) H := by simp [rEq, scal]
theorem rNe_ni {i : Int} {H : Hp} {Q : VK} : rNe .non (.int i) H Q = Q (.bl true) H := by simp [rNe, scal]
theorem rEq_ni {i : Int} {H : Hp} {Q : VK} : rEq .non (.int i) H Q = Q (.bl false) H := by simp [rEq, scal]
theorem noT1 {H : Hp} {b : Addr} (h : NoT H b) : ∀ c ∈ [b], NoT H c := fun c hc => by rw [List.mem_singleton] at hc; subst hc; exact h
theorem ixN_10 : ixN 1 0 = some 0 := rfl
theorem ixN_20 : ixN 2 0 = some 0 := rfl
theorem ixN_21 : ixN 2 1 = some 1 := rfl
theorem ixN_30 : ixN 3 0 = some 0 := rfl
theorem ixN_31 : ixN 3 1 = some 1 := rfl
theorem ixN_32 : ixN 3 2 = some 2 := rfl
theorem ixN_40 : ixN 4 0 = some 0 := rfl
theorem ixN_41 : ixN 4 1 = some 1 := rfl
theorem ixN_42 : ixN 4 2 = some 2 := rfl
theorem ixN_43 : ixN 4 3 = some 3 := rfl
theorem ixN_50 : ixN 5 0 = some 0 := rfl
theorem ixN_51 : ixN 5 1 = some 1 := rfl
theorem ixN_52 : ixN 5 2 = some 2 := rfl
theorem ixN_53 : ixN 5 3 = some 3 := rfl
theorem ixN_54 : ixN 5 4 = some 4 := rfl
/-! ### the first branch of an if in parts -/
/-! ### small facts for simp -/
theorem atI_0 {α : Type} {a : α} {l : List α} : atI (a :: l) 0 = some a := by simp [atI, ixN]
theorem atI_1 {α : Type} {a b : α} {l : List α} : atI (a :: b :: l) 1 = some b := by
  simp only [atI, ixN, List.length_cons]
  rw [if_pos (by decide), if_pos (by omega)]
  rfl
theorem atI_2 {α : Type} {a b c : α} {l : List α} : atI (a :: b :: c :: l) 2 = some c := by
  simp only [atI, ixN, List.length_cons]
  rw [if_pos (by decide), if_pos (by omega)]
  rfl
theorem atI_3 {α : Type} {a b c d : α} {l : List α} : atI (a :: b :: c :: d :: l) 3 = some d := by
  simp only [atI, ixN, List.length_cons]
  rw [if_pos (by decide), if_pos (by omega)]
  rfl
theorem atI_nat' {α : Type} {l : List α} {n : Nat} : atI l (n : Int) = l[n]? := by
  unfold atI ixN
  rw [if_pos (by omega)]
  split
  · simp
  · rw [List.getElem?_eq_none (by omega)]; rfl
theorem neX_same {H : Hp} {x y : V} {d : PyData} {Q : VK} (h1 : Dt H x d) (h2 : Dt H y d) (hd : d.depth ≤ 60) (q : Q (.bl false) H) : rNeX x y H Q :=
  ⟨d, d, h1, h2, hd, hd, by rw [h1.2.2]; exact q⟩
/-! ### isinstance with a built-in class -/
def tyO : HO → Option String
  | .lst _ => some "list"
  | .tup _ => some "tuple"
  | .dK _ => some "dict"
  | _ => none
def tyX (H : Hp) : V → Option String
  | .non => some "NoneType"
  | .bl _ => some "bool"
  | .int _ => some "int"
  | .str _ => some "str"
  | .ref p => (H p).bind tyO
  | _ => none
theorem tyX_n {H : Hp} : tyX H .non = some "NoneType" := rfl
theorem tyX_b {H : Hp} {b : Bool} : tyX H (.bl b) = some "bool" := rfl
theorem tyX_i {H : Hp} {i : Int} : tyX H (.int i) = some "int" := rfl
theorem tyX_s {H : Hp} {z : Str} : tyX H (.str z) = some "str" := rfl
theorem tyX_r {H : Hp} {p : Addr} : tyX H (.ref p) = (H p).bind tyO := rfl
theorem tyO_l {xs : List V} : tyO (.lst xs) = some "list" := rfl
theorem tyO_t {xs : List V} : tyO (.tup xs) = some "tuple" := rfl
theorem tyO_d {kvs : List (Key × V)} : tyO (.dK kvs) = some "dict" := rfl
def kT : String → String → Option Bool
  | "NoneType", "int" => some false
  | "NoneType", "bool" => some false
  | "NoneType", "str" => some false
  | "NoneType", "list" => some false
  | "NoneType", "tuple" => some false
  | "NoneType", "dict" => some false
  | "bool", "int" => some true
  | "bool", "bool" => some true
  | "bool", "str" => some false
  | "bool", "list" => some false
  | "bool", "tuple" => some false
  | "bool", "dict" => some false
  | "int", "int" => some true
  | "int", "bool" => some false
  | "int", "str" => some false
  | "int", "list" => some false
  | "int", "tuple" => some false
  | "int", "dict" => some false
  | "str", "int" => some false
  | "str", "bool" => some false
  | "str", "str" => some true
  | "str", "list" => some false
  | "str", "tuple" => some false
  | "str", "dict" => some false
  | "list", "int" => some false
  | "list", "bool" => some false
  | "list", "str" => some false
  | "list", "list" => some true
  | "list", "tuple" => some false
  | "list", "dict" => some false
  | "tuple", "int" => some false
  | "tuple", "bool" => some false
  | "tuple", "str" => some false
  | "tuple", "list" => some false
  | "tuple", "tuple" => some true
  | "tuple", "dict" => some false
  | "dict", "int" => some false
  | "dict", "bool" => some false
  | "dict", "str" => some false
  | "dict", "list" => some false
  | "dict", "tuple" => some false
  | "dict", "dict" => some true
  | _, _ => none
theorem kT_Noin : kT "NoneType" "int" = some false := rfl
theorem kT_Nobo : kT "NoneType" "bool" = some false := rfl
theorem kT_Nost : kT "NoneType" "str" = some false := rfl
theorem kT_Noli : kT "NoneType" "list" = some false := rfl
theorem kT_Notu : kT "NoneType" "tuple" = some false := rfl
theorem kT_Nodi : kT "NoneType" "dict" = some false := rfl
theorem kT_boin : kT "bool" "int" = some true := rfl
theorem kT_bobo : kT "bool" "bool" = some true := rfl
theorem kT_bost : kT "bool" "str" = some false := rfl
theorem kT_boli : kT "bool" "list" = some false := rfl
theorem kT_botu : kT "bool" "tuple" = some false := rfl
theorem kT_bodi : kT "bool" "dict" = some false := rfl
theorem kT_inin : kT "int" "int" = some true := rfl
theorem kT_inbo : kT "int" "bool" = some false := rfl
theorem kT_inst : kT "int" "str" = some false := rfl
theorem kT_inli : kT "int" "list" = some false := rfl
theorem kT_intu : kT "int" "tuple" = some false := rfl
theorem kT_indi : kT "int" "dict" = some false := rfl
theorem kT_stin : kT "str" "int" = some false := rfl
theorem kT_stbo : kT "str" "bool" = some false := rfl
theorem kT_stst : kT "str" "str" = some true := rfl
theorem kT_stli : kT "str" "list" = some false := rfl
theorem kT_sttu : kT "str" "tuple" = some false := rfl
theorem kT_stdi : kT "str" "dict" = some false := rfl
theorem kT_liin : kT "list" "int" = some false := rfl
theorem kT_libo : kT "list" "bool" = some false := rfl
theorem kT_list : kT "list" "str" = some false := rfl
theorem kT_lili : kT "list" "list" = some true := rfl
theorem kT_litu : kT "list" "tuple" = some false := rfl
theorem kT_lidi : kT "list" "dict" = some false := rfl
theorem kT_tuin : kT "tuple" "int" = some false := rfl
theorem kT_tubo : kT "tuple" "bool" = some false := rfl
theorem kT_tust : kT "tuple" "str" = some false := rfl
theorem kT_tuli : kT "tuple" "list" = some false := rfl
theorem kT_tutu : kT "tuple" "tuple" = some true := rfl
theorem kT_tudi : kT "tuple" "dict" = some false := rfl
theorem kT_diin : kT "dict" "int" = some false := rfl
theorem kT_dibo : kT "dict" "bool" = some false := rfl
theorem kT_dist : kT "dict" "str" = some false := rfl
theorem kT_dili : kT "dict" "list" = some false := rfl
theorem kT_ditu : kT "dict" "tuple" = some false := rfl
theorem kT_didi : kT "dict" "dict" = some true := rfl
def rIsIX : List V → Hp → VK → Prop := fun xs H Q => ∃ x n t r, xs = [x, .ty n] ∧ tyX H x = some t ∧ kT t n = some r ∧ Q (.bl r) H
theorem depth_list {n : Nat} {ds : List PyData} (h : ∀ d ∈ ds, d.depth ≤ n) : (PyData.list ds).depth ≤ n + 1 := by
  have := depthAll_le h
  rw [PyData.depth]
  omega
theorem setO_di' {kvs : List (Key × V)} {i : Int} {v : V} : setO (.dK kvs) (.int i) v = if kvs.length < sizeLine then some (.dK (putK kvs (Sum.inl i) v)) else none := rfl
theorem setO_ds' {kvs : List (Key × V)} {z : Str} {v : V} : setO (.dK kvs) (.str z) v = if kvs.length < sizeLine then some (.dK (putK kvs (Sum.inr z) v)) else none := rfl
theorem lenX_s' {H : Hp} {z : Str} : lenX H (.str z) = if z.length ≤ sizeLine then some z.length else none := rfl
theorem inO_l' {xs : List V} {x : V} : inO (.lst xs) x = if flatV x = true ∧ xs.all flatV = true then some (inV x xs) else none := rfl
theorem inO_t' {xs : List V} {x : V} : inO (.tup xs) x = if flatV x = true ∧ xs.all flatV = true then some (inV x xs) else none := rfl
end
end L2
/-! Loops over texts and over a dict's keys; texts compared. -/
namespace L2
open PySem PySem.Spec PyProof.Rows
section
variable {X : Cx}
/-- what is walked stands fast: these values, in this order -/
def Itv (xs : List V) : It := ⟨fun i _ => i < xs.length, fun i H x H' => H' = H ∧ xs[i]? = some x, fun i _ => i = xs.length⟩
/-- the signs of a text -/
def signs (z : Str) : List V := z.cps.toList.map fun c => V.str ⟨#[c]⟩
def iStr (tl : TE) : TI := fun σ H R => tl σ H fun x H1 => ∃ z, x = .str z ∧ R (Itv (signs z)) H1
/-! ### loops and comprehensions over what stands fast -/
/-! ### texts -/
def rLeS : R2 := fun x y H Q => ∃ a b, x = .str a ∧ y = .str b ∧ Q (.bl (!decide (b.cps.toList < a.cps.toList))) H
theorem rEq_ss {a b : Str} {H : Hp} {Q : VK} : rEq (.str a) (.str b) H Q = Q (.bl (decide (a = b))) H := by simp [rEq, scal]
theorem rNe_ss {a b : Str} {H : Hp} {Q : VK} : rNe (.str a) (.str b) H Q = Q (.bl (!decide (a = b))) H := by simp [rNe, scal]
def rStr1 : List V → Hp → VK → Prop := fun xs H Q => (∃ i : Int, xs = [.int i] ∧ i.natAbs.log2 < 1920 ∧ Q (.str (toString i)) H) ∨ ∃ b : Bool, xs = [.bl b] ∧ Q (.str (if b = true then Str.ofString "True" else Str.ofString "False")) H
def rAllX : List V → Hp → VK → Prop := fun xs H Q => ∃ (p : Addr) (bs : List Bool), xs = [.ref p] ∧ H p = some (.lst (bs.map V.bl)) ∧ Q (.bl (bs.all id)) H
def rAnyX : List V → Hp → VK → Prop := fun xs H Q => ∃ (p : Addr) (bs : List Bool), xs = [.ref p] ∧ H p = some (.lst (bs.map V.bl)) ∧ Q (.bl (bs.any id)) H
theorem call_allX (hc : X.calm = true) : CallR X (.builtin "all") rAllX := (call_all hc).weak fun _ _ _ ⟨p, bs, e, h, q⟩ => ⟨p, bs, e, SqL.of h, q⟩
/-! ### list(d) -/
theorem vals_of : ∀ {xs : List V} {us : List Value}, xs.length = us.length → (∀ (j : Nat) (x : V) (u : Value), xs[j]? = some x → us[j]? = some u → RelV x u) → Vals xs us
  | [], [], _, _ => .nil
  | [], _ :: _, h, _ => nomatch h
  | _ :: _, [], h, _ => nomatch h
  | x :: xs, u :: us, h, f => .cons (f 0 x u rfl rfl) (vals_of (by simpa using h) fun j y v e1 e2 => f (j + 1) y v (by simpa using e1) (by simpa using e2))
theorem keyIs_rel {k : Key} {v : Value} (h : keyIs k v = true) : RelV (kV k) v := by
  rcases keyIs_shape h with ⟨i, t, rfl, rfl⟩ | ⟨x, t, rfl, rfl⟩
  · exact ⟨t, rfl⟩
  · exact ⟨t, rfl⟩
theorem keys_vals {kvs : List (Key × V)} {vs : List (Key × Value)} {us : List Value} (rel : KV kvs vs) (hl : us.length = vs.length) (hv : ∀ (j : Nat) (v : Value), us[j]? = some v → ∃ k x, vs[j]? = some (k, x) ∧ keyIs k v = true) : Vals (kvs.map fun q => kV q.1) us := by
  have hk := rel.keys
  refine vals_of (by rw [List.length_map, rel.length, hl]) fun j x u e1 e2 => ?_
  obtain ⟨k, y, e3, e4⟩ := hv j u e2
  rw [List.getElem?_map] at e1
  obtain ⟨q, hq, rfl⟩ := Option.map_eq_some_iff.mp e1
  have : (kvs.map (·.1))[j]? = (vs.map (·.1))[j]? := by rw [hk]
  rw [List.getElem?_map, List.getElem?_map, hq, e3] at this
  have hkq : q.1 = k := by simpa using this
  rw [hkq]
  exact keyIs_rel e4
def rListD : List V → Hp → VK → Prop := fun xs H Q => ∃ p kvs, xs = [.ref p] ∧ H p = some (.dK kvs) ∧ ∀ l, H l = none → Q (.ref l) (upd H l (.lst (kvs.map fun q => kV q.1)))
theorem call_listD (hc : X.calm = true) : CallR X (.type "list") rListD := by
  intro pins s σ H xs us Q I r h
  obtain ⟨p, kvs, rfl, e, q⟩ := h
  obtain ⟨u, rfl, rx⟩ := vals1 r
  cases rx
  obtain ⟨hz, hS, vs, rel, dd⟩ := dk_of I.hok e
  obtain ⟨ep, hat⟩ := dd.dictAt
  refine PySem.W.kdl_call (PySem.W.kdl_dict (knd := mixKind X.prog X.w) (kvs := vs) (ep := ep) hS) (I.ok.hd hc) hat (by rw [← rel.length]; exact hz) fun h' tk acc' c' hk hD hacc => ?_
  have hn := I.hok.fresh (Nat.le_refl s.heap.objs.size)
  refine ⟨.ref s.heap.objs.size, _, I.laid (o := .lst (kvs.map fun q => kV q.1)) hk (Nat.le_refl _) ?_, rfl, q _ hn⟩
  refine ⟨by rw [List.length_map]; exact hz, acc'.toList, c', ?_, by rw [Array.toArray_toList]; exact hD⟩
  exact keys_vals rel (by rw [Array.length_toList]; exact hacc.1) fun j v e => hacc.2 j v (by rw [← Array.getElem?_toList]; exact e)
/-! ### a, b = a list -/
/-- a, b, .. = a tuple or a list of that length -/
def gSeqX (n : Nat) (t : TGs) : TG := fun v σ H Q => ∃ a o xs, v = .ref a ∧ H a = some o ∧ seqO o = some xs ∧ xs.length = n ∧ t xs σ H Q
end
end L2
/-! A dict's keys as a view; sorted. -/
namespace L2
open PySem PySem.Spec PyProof.Rows
section
variable {X : Cx}
/-- the keys of the dict at d, at a -/
def viewK (a d : Addr) : HO := .ext fun h => PySem.W.KdlKeysView h a d
def tDKeys (to : TE) : TE := fun σ H Q => to σ H fun x H1 => ∃ p kvs, x = .ref p ∧ H1 p = some (.dK kvs) ∧ ∀ a, H1 a = none → Q (.ref a) (upd H1 a (viewK a p))
def rSortL : List V → Hp → VK → Prop := fun xs H Q => ∃ (p : Addr) (ns : List Int), xs = [.ref p] ∧ H p = some (.lst (ns.map V.int)) ∧ ns.length < 64 ∧ ∀ ms : List Int, ms.Perm ns → ms.Pairwise (· ≤ ·) → ∀ l, H l = none → Q (.ref l) (upd H l (.lst (ms.map V.int)))
def rSortK : List V → Hp → VK → Prop := fun xs H Q => ∃ (a d : Addr) (kvs : List (Key × V)) (ns : List Int), xs = [.ref a] ∧ H a = some (viewK a d) ∧ H d = some (.dK kvs) ∧ kvs.map (·.1) = ns.map Sum.inl ∧ ns.length < 64 ∧ ∀ ms : List Int, ms.Perm ns → ms.Pairwise (· ≤ ·) → ∀ l, H l = none → Q (.ref l) (upd H l (.lst (ms.map V.int)))
/-! ### range objects, list(range(..)) -/
def rRngs : List V → Hp → VK → Prop := fun xs H Q => (∃ j : Int, xs = [.int j] ∧ ∀ p, H p = none → Q (.ref p) (upd H p (.rng 0 j))) ∨ ∃ i j : Int, xs = [.int i, .int j] ∧ ∀ p, H p = none → Q (.ref p) (upd H p (.rng i j))
def rListR : List V → Hp → VK → Prop := fun xs H Q => ∃ (p : Addr) (lo hi : Int), xs = [.ref p] ∧ H p = some (.rng lo hi) ∧ -(2 ^ 62) ≤ lo ∧ lo < 2 ^ 62 ∧ -(2 ^ 62) ≤ hi ∧ hi < 2 ^ 62 ∧ (hi - lo).toNat ≤ 100000 ∧ ∀ l, H l = none → Q (.ref l) (upd H l (.lst (((List.range (hi - lo).toNat).map fun (i : Nat) => lo + (i : Int)).map V.int)))
end
end L2
/-! Own exceptions: made, raised, passing, caught. -/
namespace L2
open PySem PySem.Spec PyProof.Rows

/-! ### a traceback entry is laid, the flight ends -/
/-- what a noted exception leaves -/
structure NoteK (fs : List Addr) (e : Addr) (Ts : List Addr) (h h' : Heap) : Prop where
  keep : ∀ b o, h.get? b = some o → b ∉ fs → b ≠ e → b ∉ Ts → h'.get? b = some o
  slot : ∀ b o, h.get? b = some o → b ∈ fs → ∃ sl, h'.get? b = some { o with slots := sl }
  exc : ∀ oe vs, h.get? e = some oe → oe.data = .fields vs → ∃ oe' vs' T, h'.get? e = some oe' ∧ oe'.cls = oe.cls ∧ oe'.dict = oe.dict ∧ oe'.data = .fields vs' ∧ vs'.size = vs.size ∧ vs'[1]? = some (.ref T) ∧
    h.objs.size ≤ T ∧ T ≠ e ∧ ∃ oT ts, h'.get? T = some oT ∧ oT.data = .fields ts ∧ ts[3]? = some .none
  tb : ∀ b ∈ Ts, ∃ o, h'.get? b = some o
/-! ### an exception in the abstract heap -/
/-- an exception of the own class at C, its own dict at od -/
def XO (e C : Addr) (od : Option Addr) : HO := .ext fun h => ∃ oe vs, h.get? e = some oe ∧ oe.cls = .ref C ∧ oe.dict = od ∧ oe.data = .fields vs ∧ 6 ≤ vs.size
theorem XO.mk {P : Program} {w : World} {H : Hp} {h : Heap} {e C : Addr} {od : Option Addr} {oe : Obj} {vs : Array Value} (h1 : h.get? e = some oe) (h2 : oe.cls = .ref C) (h3 : oe.dict = od) (h4 : oe.data = .fields vs) (h5 : 6 ≤ vs.size) :
    ObjOk P w H h e (XO e C od) := ⟨⟨oe, vs, h1, h2, h3, h4, h5⟩, ⟨oe, h1⟩, fun _ _ ⟨oe, vs, q, r⟩ k => ⟨oe, vs, k _ q, r⟩⟩
/-- no other part of the state lies here -/
structure Apart (X : Cx) (pins : List (Addr × Obj)) (H : Hp) (b : Addr) : Prop where
  un : H b = none
  up : X.s₀.heap.objs.size ≤ b
  loc : b ≠ X.env.locals
  cel : ∀ x c, X.env.cells.lookup x = some c → c ≠ b
  pin : ∀ p ∈ X.pn ++ pins, p.1 ≠ b
/-- the exception's traceback: none yet, or one whose flight has ended -/
def Tb (X : Cx) (pins : List (Addr × Obj)) (H : Hp) (h : Heap) (e : Addr) : Prop := ∃ oe vs, h.get? e = some oe ∧ oe.data = .fields vs ∧
  (vs[1]? = some .none ∨ ∃ T oT ts, vs[1]? = some (.ref T) ∧ h.get? T = some oT ∧ oT.data = .fields ts ∧ ts[3]? = some .none ∧ T ≠ e ∧ Apart X pins H T)
section
variable {X : Cx} {pins : List (Addr × Obj)} {σ : St} {H : Hp} {s : Shared} {e C : Addr} {od : Option Addr}
theorem Apart.fresh {b : Addr} (I : Inv X pins σ H s) (h : s.heap.objs.size ≤ b) : Apart X pins H b where
  un := I.hok.fresh h
  up := Nat.le_trans I.sz h
  loc := fun z => absurd (Nat.lt_of_lt_of_le I.lt h) (by rw [z]; exact Nat.lt_irrefl _)
  cel := fun x c q z => by
    obtain ⟨v, o, ho, _⟩ := I.cell x c q
    exact absurd (Nat.lt_of_lt_of_le (Heap.lt_size ho) h) (by rw [z]; exact Nat.lt_irrefl _)
  pin := fun p hp z => by
    obtain ⟨ho, _⟩ := I.pin p hp
    exact absurd (Nat.lt_of_lt_of_le (Heap.lt_size ho) h) (by rw [z]; exact Nat.lt_irrefl _)
theorem Inv.xo (I : Inv X pins σ H s) (he : H e = some (XO e C od)) : ∃ oe vs, s.heap.get? e = some oe ∧ oe.cls = .ref C ∧ oe.dict = od ∧ oe.data = .fields vs ∧ 6 ≤ vs.size := by
  obtain ⟨q, _⟩ := I.hok e _ he
  exact q
/-- behind the noting -/
theorem Inv.noted {h' : Heap} {Ts : List Addr} (I : Inv X pins σ H s) (he : H e = some (XO e C od)) (N : NoteK (frs X.stack) e Ts s.heap h') (hT : ∀ b ∈ Ts, Apart X pins H b) :
    Inv X pins σ H { s with heap := h' } ∧ Tb X pins H h' e := by
  obtain ⟨oe, vs, ge, c1, c2, c3, c4⟩ := I.xo he
  obtain ⟨oe', vs', T, ge', e1, e2, e3, e4, e5, e6, e7, oT, ts, t1, t2, t3⟩ := N.exc oe vs ge c3
  have nfr : ∀ b o, H b = some o → b ∉ frs X.stack := fun b o q hb => by rw [I.stkFree b hb] at q; cases q
  have nts : ∀ b o, H b = some o → b ∉ Ts := fun b o q hb => by rw [(hT b hb).un] at q; cases q
  have hok : HOk X.prog X.w H h' := fun a o q => by
    by_cases ha : a = e
    · subst ha
      rw [he] at q
      cases q
      exact XO.mk ge' (e1.trans c1) (e2.trans c2) e3 (by rw [e4]; exact c4)
    · refine (I.hok a o q).stay (fun b u hb r => ?_) (fun _ r => r) fun _ _ r => r
      rcases hb with rfl | hb
      · exact N.keep b u r (nfr b o q) ha (nts b o q)
      · exact N.keep b u r (nfr b _ hb) (fun z => by rw [z, he] at hb; cases hb) (nts b _ hb)
  have J : Inv X pins σ H { s with heap := h', gens := s.gens, drawn := s.drawn, toks := s.toks } := I.call (ch := Ts) (h' := h') (g' := s.gens) (d' := s.drawn) (t' := s.toks)
    ⟨fun b o q n hb hx => N.keep b o q hb (fun z => by rw [z, he] at n; cases n) hx, fun b o q n hb hx => N.slot b o q hb, fun _ _ _ n _ => n, fun b o q hx => by
      by_cases hb : b ∈ frs X.stack
      · obtain ⟨sl, r⟩ := N.slot b o q hb
        exact ⟨_, r⟩
      · by_cases hbe : b = e
        · exact ⟨_, by rw [hbe]; exact ge'⟩
        · exact ⟨o, N.keep b o q hb hbe hx⟩, fun _ _ q => q, fun _ _ _ q => q, fun _ ps q => ⟨#[], by rw [q]; simp⟩⟩ hok I.bare fun b hb => ⟨.inr (hT b hb).up, (hT b hb).loc, (hT b hb).cel, (hT b hb).pin⟩
  exact ⟨J, oe', vs', ge', e3, .inr ⟨T, oT, ts, e5, t1, t2, t3, e7, Apart.fresh I e6⟩⟩
end

/-! ### judgements with a second way out -/
/-- what is wanted of an exception: the names, itself, the abstract heap behind it -/
abbrev XS := St → Addr → Hp → Prop
def XP (X : Cx) (pins : List (Addr × Obj)) (E : XS) (v : Value) (s' : Shared) : Prop := ∃ e σ' H', v = .ref e ∧ Inv X pins σ' H' s' ∧ (∃ C od, H' e = some (XO e C od)) ∧ Tb X pins H' s'.heap e ∧ E σ' e H'
abbrev TSx := Ends → XS → St → Hp → Prop
abbrev TEx := St → Hp → VK → (Addr → Hp → Prop) → Prop
section
variable {X : Cx} {st : Stmt} {sts rest : List Stmt} {t : TS} {tx ux : TSx} {e : Expr} {tex : TEx} {pos : Pos}
end

/-! ### an exception behind a call -/
def TbF (n0 : Nat) (H : Hp) (h : Heap) (e : Addr) : Prop := ∃ oe vs, h.get? e = some oe ∧ oe.data = .fields vs ∧
  (vs[1]? = some .none ∨ ∃ T oT ts, vs[1]? = some (.ref T) ∧ h.get? T = some oT ∧ oT.data = .fields ts ∧ ts[3]? = some .none ∧ T ≠ e ∧ H T = none ∧ n0 ≤ T)
def CXx (P : Program) (w : World) : CXT := fun outer H s E v s' => ∃ e H', v = .ref e ∧ s'.os = s.os ∧ AllBare s'.gens ∧ Un (frs outer) [] H H' s.heap s'.heap ∧ HOk P w H' s'.heap ∧ (∃ C od, H' e = some (XO e C od)) ∧ TbF s.heap.objs.size H' s'.heap e ∧ E (.ref e) none H'
section
variable {X : Cx} {k : Nat} {f C : Addr} {fd : FuncData} {ps : List Str} {sp : Sp} {x m : Str} {p pos apos : Pos} {e o : Expr} {es : List Expr} {ta : TE} {t : TA}
def OwnX (P : Program) (w : World) (K : PySem.W.Frag) (mg : Str → Option Value) (base : Heap) (k : Nat) (x : Str) (ps : List Str) (sp : Sp) : Prop :=
  ∃ f fd, mg x = some (.ref f) ∧ PySem.W.keepIn K (.ref f) = true ∧ Binds K fd ps [] ∧ FnOk P w K mg base (CXx P w) k f fd ps sp
def OwnMX (P : Program) (w : World) (K : PySem.W.Frag) (mg : Str → Option Value) (base : Heap) (k : Nat) (C : Addr) (m : Str) (ps : List Str) (sp : Sp) : Prop :=
  ∃ f fd, Meth K C m f ∧ Binds K fd ps [] ∧ FnOk P w K mg base (CXx P w) k f fd ps sp
def OwnIX (P : Program) (w : World) (K : PySem.W.Frag) (mg : Str → Option Value) (base : Heap) (k : Nat) (C : Addr) (ps : List Str) (sp : Sp) : Prop :=
  ∃ f fd, Mk K C f ∧ Binds K fd ps [] ∧ FnOk P w K mg base (CXx P w) k f fd ps sp
end

/-! ### a def whose body may raise -/
section
variable {P : Program} {w : World} {K : PySem.W.Frag} {mg : Str → Option Value} {base : Heap}
section
variable {x m qual : Str} {C : Addr} {st : Stmt} {N ps : List Str} {k : Nat} {sp : Sp}
end
end
end L2
/-! f-strings; own exceptions made and raised. -/
namespace L2
open PySem PySem.Spec PyProof.Rows
/-! ### f-strings -/
abbrev TJ := St → Hp → (Hp → Prop) → Prop
section
variable {X : Cx} {n : Nat} {e : Expr} {rest : List Expr} {te : TE} {t : TJ} {pos : Pos}
end
/-! ### an object is laid where nothing lay -/
theorem ObjOk.ex {P : Program} {w : World} {H : Hp} {h : Heap} {a : Addr} {o : HO} (x : ObjOk P w H h a o) : ∃ u, h.get? a = some u := by
  cases o with
  | lst xs => obtain ⟨_, _, _, _, e⟩ := x; exact ⟨_, e⟩
  | tup xs => obtain ⟨_, _, _, o, e, _⟩ := x; exact ⟨_, e⟩
  | dK kvs => obtain ⟨_, _, _, _, o, _, _, e, _⟩ := x; exact ⟨_, e⟩
  | dT kvs => obtain ⟨_, _, _, _, o, _, _, e, _⟩ := x; exact ⟨_, e⟩
  | set S n => obtain ⟨o, _, _, _, e, _⟩ := x; exact ⟨_, e⟩
  | ins C dx fs => obtain ⟨_, _, _, e, _⟩ := x; exact ⟨_, e⟩
  | own y => exact x
  | xd fs => obtain ⟨_, ⟨o, _, _, e, _⟩, _⟩ := x; exact ⟨_, e⟩
  | rng lo hi => obtain ⟨_, _, _, e⟩ := x; exact ⟨_, e⟩
  | frz ob u => obtain ⟨e, _⟩ := x; exact ⟨_, e⟩
  | tbl ps => exact ⟨_, x⟩
  | met f y => exact ⟨_, x⟩
  | ext φ => obtain ⟨_, e, _⟩ := x; exact e
section
variable {X : Cx} {pins : List (Addr × Obj)} {σ : St} {H : Hp} {s : Shared}
theorem Inv.none_at {a : Addr} (I : Inv X pins σ H s) (h : s.heap.get? a = none) : H a = none := by
  cases e : H a with
  | none => rfl
  | some o =>
    obtain ⟨u, q⟩ := (I.hok a o e).ex
    rw [h] at q
    cases q
theorem Inv.lay {h' : Heap} {a : Addr} {o : HO} (I : Inv X pins σ H s) (k : ∀ b u, s.heap.get? b = some u → h'.get? b = some u) (hn : s.heap.get? a = none) (new : ObjOk X.prog X.w (upd H a o) h' a o) : Inv X pins σ (upd H a o) { s with heap := h' } := by
  have hH := I.none_at hn
  have ne : ∀ b u, s.heap.get? b = some u → b ≠ a := fun b u q z => by rw [z, hn] at q; cases q
  refine I.un (t' := s.toks) ⟨fun b u q _ _ _ => k b u q, fun b u q _ _ _ => ⟨u.slots, k b u q⟩, fun b u q n _ => by rw [upd_ne (ne b u q)]; exact n, fun b u q _ => ⟨u, k b u q⟩, fun b xs q => by rw [upd_ne (ne_of_none q hH)]; exact q,
    fun b u xs q => by rw [upd_ne (ne_of_none q hH)]; exact q, fun b ps q => ⟨#[], by rw [upd_ne (ne_of_none q hH), q]; simp⟩⟩ fun b u e => ?_
  by_cases hb : b = a
  · subst hb
    rw [upd_same] at e
    cases e
    exact new
  · rw [upd_ne hb] at e
    exact (I.hok b u e).stay (fun c v _ q => k c v q) (fun c q => by rw [upd_ne (ne_of_none q hH)]; exact q) fun c xs q => by rw [upd_ne (ne_of_none q hH)]; exact q
end
/-! ### making -/
abbrev bmV : List Value := [.type "ValueError", .type "Exception", .type "BaseException", .type "object"]
/-- an exception as it was made -/
def Raw (h : Heap) (e C : Addr) (od : Option Addr) : Prop := ∃ t, h.get? e = some { cls := .ref C, dict := od, data := .fields #[.ref t, .none, .none, .none, .bool false, .none] }
/-- an exception that was made and not raised yet -/
def XN (e C : Addr) (od : Option Addr) : HO := .ext fun h => Raw h e C od
theorem Inv.xn {X : Cx} {pins : List (Addr × Obj)} {σ : St} {H : Hp} {s : Shared} {e C : Addr} {od : Option Addr} (I : Inv X pins σ H s) (he : H e = some (XN e C od)) : Raw s.heap e C od := (I.hok e _ he).1
/-- it is raised: from now on its traceback may change -/
theorem Inv.raised {X : Cx} {pins : List (Addr × Obj)} {σ : St} {H : Hp} {s : Shared} {e C : Addr} {od : Option Addr} (I : Inv X pins σ H s) (he : H e = some (XN e C od)) : Inv X pins σ (upd H e (XO e C od)) s := by
  have r := I.xn he
  obtain ⟨t, q⟩ := id r
  exact I.write (t' := s.toks) (x := e) (e := e) (h' := s.heap) (by rw [he]; exact True.intro) (.inl rfl) (fun b u _ z => z) ⟨_, q⟩ (XO.mk q rfl rfl rfl (Nat.le_refl 6))
theorem Raw.ok {P : Program} {w : World} {H : Hp} {h : Heap} {e C : Addr} {od : Option Addr} (r : Raw h e C od) : ObjOk P w H h e (XO e C od) := by
  obtain ⟨t, q⟩ := r
  exact XO.mk q rfl rfl rfl (Nat.le_refl 6)
theorem Raw.tb {X : Cx} {pins : List (Addr × Obj)} {H : Hp} {h : Heap} {e C : Addr} {od : Option Addr} (r : Raw h e C od) : Tb X pins H h e := by
  obtain ⟨t, q⟩ := r
  exact ⟨_, _, q, rfl, .inl rfl⟩
/-- the class at C is an own one over ValueError, the makers' slots as they come -/
def XKin (K : PySem.W.Frag) (C : Addr) : Prop := ∃ nm q N bs bm hdct sn sub ab col dd k0 k1 k2 k3 k5, K.lookup C = some (excClassObj nm q C N bs bm hdct sn sub ab col dd k0 k1 k2 k3 k5 "ValueError.__new__") ∧ PySem.W.tailIn K bmV bm = true
abbrev TN := St → Hp → (Addr → Addr → Option Addr → Hp → Prop) → Prop
section
variable {X : Cx} {C : Addr} {x : Str} {p pos cpos : Pos} {e : Expr} {es : List Expr} {t : TA} {tn : TN}
end
end L2
/-! try and except. -/
namespace L2
open PySem PySem.Spec PyProof.Rows
/-- within the suite of an except -/
abbrev Cx.within (X : Cx) (e : Addr) : Cx := { X with A := X.A.mark (some (.ref e)), calm := false }
section
variable {X : Cx} {pins : List (Addr × Obj)} {σ : St} {H : Hp} {s : Shared} {e C : Addr} {od : Option Addr}
theorem Inv.within (I : Inv X pins σ H s) (e : Addr) : Inv (X.within e) pins σ H s :=
  ⟨⟨I.ok.mod, I.ok.kind, I.ok.glob, I.ok.blt, I.ok.above, I.ok.inj, I.ok.has, I.ok.cab, (fun z => by cases z), I.ok.frames, I.ok.stk, I.ok.exf, I.ok.bs, I.ok.bsz, I.ok.noex, I.ok.exfs, I.ok.funs, I.ok.frf⟩, I.os, I.bare, I.base, I.loc, I.cell, I.free, I.freeC, I.pin, I.hok, I.len⟩
theorem Inv.without (ok : X.Ok) (I : Inv (X.within e) pins σ H s) : Inv X pins σ H s := ⟨ok, I.os, I.bare, I.base, I.loc, I.cell, I.free, I.freeC, I.pin, I.hok, I.len⟩
end
/-- the class at C is an own one below the own one at R -/
def XSub (K : PySem.W.Frag) (C R : Addr) : Prop := ∃ nm q N bs bm hdct sn sub ab col dd k0 k1 k2 k3 k5, K.lookup C = some (excClassObj nm q C N bs bm hdct sn sub ab col dd k0 k1 k2 k3 k5 "ValueError.__new__") ∧ (Value.ref C :: bm).contains (.ref R) = true
section
variable {X : Cx} {R : Addr} {i : Nat} {x n : Str} {body suite : List Stmt} {b0 : Stmt} {tb : TSx} {ts : TS} {np hpos pos : Pos}
end
end L2
/-! attributes of exceptions, isinstance. -/
namespace L2
open PySem PySem.Spec PyProof.Rows PySem.W
/-- what a class of exceptions tells of attributes -/
structure XC (K : PySem.W.Frag) (C : Addr) : Prop where
  ga : findIn K (.ref C) "__getattribute__" = some (some (.builtin "BaseException.__getattribute__"))
  gh : findIn K (.ref C) "__getattr__" = some none
  cl : findIn K (.ref C) "__class__" = some (some (.builtin "object.__class__"))
  gs : specialIn K (.builtin "object.__class__") "__get__" = some (some (.builtin "getset_descriptor.__get__"))
  tk : takesIn K (.builtin "object.__class__") = some true
  ob : mroIn K C (.type "object") = some true
  be : mroIn K C (.type "BaseException") = some true
  hd : hasDictIn K C = true
section
variable {prog : Program} {w : World} {A : Around} {E : Value → Shared → Prop} {s : Shared} {K : PySem.W.Frag} {x C : Addr} {ox : Obj} {od : Option Obj} {name : Str}
end
section
variable {X : Cx} {pins : List (Addr × Obj)} {σ : St} {H : Hp} {s : Shared} {e C : Addr} {od : Option Addr}
/-- the dict of an exception, where it has one, lies tracked -/
def XD (H : Hp) (od : Option Addr) : Prop := ∀ dx, od = some dx → ∃ fs, H dx = some (.xd fs)
end
/-! ### isinstance of exceptions and of None, by own classes -/
/-- the type of x, exceptions too -/
inductive TyX (K : PySem.W.Frag) (H : Hp) : V → Value → Prop where
  | ty {x : V} {t : Value} (h : TyOf K H x t) : TyX K H x t
  | exc {e C : Addr} {od : Option Addr} (he : H e = some (XO e C od)) (hd : XD H od) (T : XC K C) : TyX K H (.ref e) (.ref C)
end L2
/-! exceptions with an __init__ of their own. -/
namespace L2
open PySem PySem.Spec PyProof.Rows PySem.W
section
variable {prog : Program} {w : World} {A : Around} {E : Value → Shared → Prop} {h : Heap} {g : Array GenState} {d : Drawn} {t : Nat} {os : OsState} {K : PySem.W.Frag}
variable {nm q : Str} {C N : Addr} {bs bm : List Value} {hdct : Bool} {sn : List Str} {sub : List Value} {ab : Bool} {col : Option Bool} {dd : Option Addr} {k0 k1 k2 k3 k5 : Option Value}
end
/-- what a class of exceptions with an own __init__ must have to be made -/
structure XMk (K : PySem.W.Frag) (C f : Addr) : Prop where
  kin : XKin K C
  init : findIn K (.ref C) "__init__" = some (some (.ref f))
  fn : isFn K (.ref f) = true
  kp : keepIn K (.ref C) = true
def OwnE (P : Program) (w : World) (K : PySem.W.Frag) (mg : Str → Option Value) (base : Heap) (k : Nat) (C : Addr) (ps : List Str) (sp : Sp) : Prop :=
  ∃ f fd, XMk K C f ∧ Binds K fd ps [] ∧ FnOk P w K mg base CX0 k f fd ps sp
section
variable {X : Cx} {C : Addr} {x : Str} {p pos cpos apos : Pos} {e : Expr} {es : List Expr} {t : TA} {ps : List Str} {sp : Sp} {j k : Nat}
/-- the class at B hands ValueError's __init__ on -/
structure XB (K : PySem.W.Frag) (B : Addr) : Prop where
  sp : specialIn K (.ref B) "__getattribute__" = some (some (.builtin "type.__getattribute__"))
  rd : readsIn K B (.type "type") = true
  fd : findCls K (.ref B) (.type "type") "__init__" = some (.val (.builtin "ValueError.__init__"))
end
end L2
/-! attributes of exceptions: written, read; a promise that raises nothing. -/
namespace L2
open PySem PySem.Spec PyProof.Rows PySem.W
section
variable {prog : Program} {w : World} {A : Around} {s : Shared} {K : PySem.W.Frag} {x C : Addr} {name : Str} {v : Value} {tk : Tok}
variable {nm q : Str} {N : Addr} {bs bm : List Value} {hdct : Bool} {sn : List Str} {sub : List Value} {ab : Bool} {col : Option Bool} {dd : Option Addr} {k0 k1 k2 k3 k5 : Option Value} {newId : String}
end
/-- an attribute may be put on the exceptions of the class at C -/
structure XSt (K : PySem.W.Frag) (C : Addr) (f : Str) : Prop where
  kin : XKin K C
  sa : findIn K (.ref C) "__setattr__" = some (some (.builtin "object.__setattr__"))
  no : findIn K (.ref C) f = some none
  hd : hasDictIn K C = true
section
variable {X : Cx} {pins : List (Addr × Obj)} {σ : St} {H : Hp} {s : Shared} {a C : Addr}
end
/-- an attribute of the exceptions of the class at C may be read -/
structure XGt (K : PySem.W.Frag) (C : Addr) (f : Str) : Prop where
  xc : XC K C
  no : findIn K (.ref C) f = some none
/-- what raises nothing of what may raise -/
theorem FnOk.drop {P : Program} {w : World} {K : PySem.W.Frag} {mg : Str → Option Value} {base : Heap} {k : Nat} {f : Addr} {fd : FuncData} {ps : List Str} {sp : Sp} (F : FnOk P w K mg base (CXx P w) k f fd ps sp) : FnOk P w K mg base CX0 k f fd ps fun vs H Q _ => sp vs H Q E0 :=
  ⟨fun vs H Q _ h => F.len vs H Q E0 h, fun A outer s H args us vs Q E hr he hb hv hs => codeAny_mono (F.run A outer s H args us vs Q E0 hr he hb hv hs) fun r s' h => by
    cases r with
    | error e =>
      obtain ⟨_, _, _, _, _, _, _, _, _, z⟩ := h
      exact False.elim z
    | ok f => cases f <;> exact h⟩
section
variable {P : Program} {w : World} {K : PySem.W.Frag} {mg : Str → Option Value} {base : Heap} {k : Nat} {x m : Str} {C : Addr} {ps : List Str} {sp : Sp}
def sp0 (sp : Sp) : Sp := fun vs H Q _ => sp vs H Q E0
theorem OwnX.drop (h : OwnX P w K mg base k x ps sp) : Own P w K mg base k x ps (sp0 sp) := let ⟨f, fd, a, b, c, F⟩ := h; ⟨f, fd, a, b, c, F.drop⟩
theorem OwnMX.drop (h : OwnMX P w K mg base k C m ps sp) : OwnM P w K mg base k C m ps (sp0 sp) := let ⟨f, fd, a, b, F⟩ := h; ⟨f, fd, a, b, F.drop⟩
theorem OwnIX.drop (h : OwnIX P w K mg base k C ps sp) : OwnI P w K mg base k C ps (sp0 sp) := let ⟨f, fd, a, b, F⟩ := h; ⟨f, fd, a, b, F.drop⟩
end
end L2
/-! what the fragment tells of the own classes of exceptions. -/
namespace L2
open PySem PySem.Spec PyProof.Rows PySem.W
/-- what an own class of exceptions tells -/
structure XCls (K : PySem.W.Frag) (mg : Str → Option Value) (x : Str) (C R : Addr) : Prop where
  mg : mg x = some (.ref C)
  kin : XKin K C
  sub : XSub K C R
  xc : XC K C
  kp : keepIn K (.ref C) = true
/-- one without an __init__ of its own -/
structure XPl (K : PySem.W.Frag) (C : Addr) : Prop where
  ex : excIn K C bmV "ValueError.__new__" = true
  kp : keepIn K (.ref C) = true
section
variable {K : PySem.W.Frag} {H : Hp} {Q : VK} {e C D : Addr} {od : Option Addr} {b : Bool}
theorem XD.none {H : Hp} : XD H none := fun _ z => nomatch z
theorem XD.some {H : Hp} {dx : Addr} {fs : List (Str × V)} (h : H dx = some (.xd fs)) : XD H (some dx) := fun _ z => by cases z; exact ⟨fs, h⟩
theorem XD.same {H H' : Hp} {od : Option Addr} (s : Same H H') (h : XD H od) : XD H' od := fun dx z => by
  obtain ⟨fs, e⟩ := h dx z
  exact ⟨fs, s _ _ e⟩
end
/-- no whole number: a truth, None, a text, a tuple, a list -/
inductive NoWh (H : Hp) : V → Prop
  | bl (b : Bool) : NoWh H (.bl b)
  | non : NoWh H .non
  | str (x : Str) : NoWh H (.str x)
  | tup {a : Addr} {xs : List V} (e : H a = some (.tup xs)) : NoWh H (.ref a)
  | lst {a : Addr} {xs : List V} (e : H a = some (.lst xs)) : NoWh H (.ref a)
theorem NoWh.same {H H' : Hp} {x : V} (s : Same H H') (h : NoWh H x) : NoWh H' x := by
  cases h with
  | bl b => exact .bl b
  | non => exact .non
  | str x => exact .str x
  | tup e => exact .tup (s _ _ e)
  | lst e => exact .lst (s _ _ e)
/-! ### an __init__ of an own class of exceptions -/
def DefE (K : PySem.W.Frag) (C : Addr) (qual : Str) (st : Stmt) : Prop := ∃ f fd, XMk K C f ∧ Fun K "__init__" qual st f fd
section
variable {P : Program} {w : World} {K : PySem.W.Frag} {mg : Str → Option Value} {base : Heap} {C : Addr} {qual : Str} {st : Stmt} {N ps : List Str} {k : Nat} {sp : Sp}
theorem DefE.own (D : DefE K C qual st) (S : FnScope N ps (defScope st))
    (hb : ∀ (kV doc pm : Value) (an : Option Addr) (cdv ct : Value) (us : List Value), us.length = ps.length → bindArgs (PySem.W.fnOf "__init__" qual (defArgs st) (defBody st) (defScope st) .none kV doc pm an cdv ct) ⟨us, []⟩ = pure (ps.zip us))
    (len : ∀ vs H Q E, sp vs H Q E → vs.length = ps.length)
    (hbody : ∀ (f : Addr) (cdv : Value) (A : Around) (outer : List Env) (s : Shared) (H : Hp) (vs : List V) (Q : VK) (E : XK), Room k (A.deeper (envOfC qual (defScope st) s.heap.objs.size f cdv)) → sp vs H Q E →
      ∃ t, PSs (cxOf CX0 P w K mg base N qual (defScope st) f cdv A outer s H E).nox (defBody st) t ∧ t { nx := fun _ H' => Q .non H', rt := Q } (start N vs) H) : OwnE P w K mg base (k + 1) C ps sp := by
  obtain ⟨f, fd, hm, F⟩ := D
  exact ⟨f, fd, hm, F.binds hb, F.ok S len (hbody f)⟩
end
/-! ### lists of truths -/
/-- isinstance's answers to the ten classes, of an exception of the class at C -/
structure K10 (K : PySem.W.Frag) (C : Addr) (c0 c1 c2 c3 c4 c5 c6 c7 c8 c9 : Addr) (b0 b1 b2 b3 b4 b5 b6 b7 b8 b9 : Bool) : Prop where
  k0 : kitOne K (.ref C) (.ref c0) = some b0
  k1 : kitOne K (.ref C) (.ref c1) = some b1
  k2 : kitOne K (.ref C) (.ref c2) = some b2
  k3 : kitOne K (.ref C) (.ref c3) = some b3
  k4 : kitOne K (.ref C) (.ref c4) = some b4
  k5 : kitOne K (.ref C) (.ref c5) = some b5
  k6 : kitOne K (.ref C) (.ref c6) = some b6
  k7 : kitOne K (.ref C) (.ref c7) = some b7
  k8 : kitOne K (.ref C) (.ref c8) = some b8
  k9 : kitOne K (.ref C) (.ref c9) = some b9
  kv : kitOne K (.ref C) (.type "ValueError") = some true
/-- the turn that an exception bears -/
def Past (C : Addr) (n : Int) (e : Addr) (H : Hp) : Prop := ∃ dx, H e = some (XO e C (some dx)) ∧ H dx = some (.xd [("turn", .int n)])
theorem Past.same {C e : Addr} {n : Int} {H H' : Hp} (s : Same H H') (h : Past C n e H) : Past C n e H' := by
  obtain ⟨dx, a, b⟩ := h
  exact ⟨dx, s _ _ a, s _ _ b⟩
theorem Past.xd {C e : Addr} {n : Int} {H : Hp} (h : Past C n e H) : ∃ od, H e = some (XO e C od) ∧ XD H od := by
  obtain ⟨dx, a, b⟩ := h
  exact ⟨_, a, XD.some b⟩
/-! ### the errors of the program -/
/-- where the own classes of errors stand -/
structure Ers (mg : Str → Option Value) (R cM cP cR cF cT cN cA cL cW cO : Addr) : Prop where
  r : mg "RoadError" = some (.ref R)
  m : mg "BadMeasures" = some (.ref cM)
  p : mg "BadPast" = some (.ref cP)
  d : mg "BadRoad" = some (.ref cR)
  f : mg "Full" = some (.ref cF)
  t : mg "BadThing" = some (.ref cT)
  n : mg "NotNow" = some (.ref cN)
  a : mg "BadName" = some (.ref cA)
  l : mg "BadLine" = some (.ref cL)
  w : mg "BadWish" = some (.ref cW)
  o : mg "NoRow" = some (.ref cO)
  v : mg "ValueError" = none
section
variable {K : PySem.W.Frag} {h : Heap} {mg : Str → Option Value}
end
end L2
namespace L2
open PySem
/-- not a starred one -/
def noStar : Expr → Bool
  | .Starred .. => false
  | _ => true
theorem star_cons {e : Expr} {es : List Expr} {env : Env} (h : noStar e = true) : starEach (e :: es) env = (false, eval e env) :: starEach es env := by
  cases e <;> first | rfl | cases h
section
variable {X : Cx} {e : Expr} {es : List Expr} {te : TE} {t : TA}
/-- pa_cons, quick in long lists -/
theorem pa_cX (ha : PE X e te) (hr : PA X es t) (h : noStar e = true := by rfl) : PA X (e :: es) (tCons te t) := pa_cons ha hr (star_cons h)
end
/-! PSs, PS closed to the elaborator: it can't evaluate the program's text inside them -/
structure WSs (X : Cx) (sts : List Stmt) (t : TS) : Prop where
  h : PSs X sts t
structure WS (X : Cx) (st : Stmt) (t : TS) : Prop where
  h : PS X st t
section
variable {X : Cx} {st : Stmt} {rest : List Stmt} {t u : TS}
end
end L2
/-! Slices and multiples of texts. -/
namespace L2
open PySem PySem.Spec PyProof.Rows
section
variable {X : Cx}
def rMulS : R2 := fun x y H Q => ∃ z n, x = .str z ∧ y = .int n ∧ MulOk z n ∧ Q (.str (Txt.mul z n)) H
theorem op_mulS : OpR X (binaryOp .Mult) rMulS := by
  intro pins s σ H x y v u Q I rx ry h
  obtain ⟨z, n, rfl, rfl, ok, q⟩ := h
  obtain ⟨t, rfl⟩ := rx
  obtain ⟨t', rfl⟩ := ry
  exact SB.mul ok fun t' k => ⟨.str _, H, I.tok _, ⟨_, rfl⟩, q⟩
end
mutual
theorem Has.same {K : PySem.W.Frag} {H H' : Hp} (s : Same H H') : ∀ {x : V} {d : PyData}, Has K H x d → Has K H' x d
  | _, _, .non => .non
  | _, _, .bl b => .bl b
  | _, _, .int i => .int i
  | _, _, .str x => .str x
  | _, _, .lst h hs => .lst (s.seq h) (HasAll.same s hs)
  | _, _, .tup h hs => .tup (s.seqT h) (HasAll.same s hs)
theorem HasAll.same {K : PySem.W.Frag} {H H' : Hp} (s : Same H H') : ∀ {xs : List V} {ds : List PyData}, HasAll K H xs ds → HasAll K H' xs ds
  | _, _, .nil => .nil
  | _, _, .cons h hs => .cons (Has.same s h) (HasAll.same s hs)
end
theorem Dt.same {H H' : Hp} {x : V} {d : PyData} (h : Dt H x d) (s : Same H H') : Dt H' x d := ⟨fun K => (h.1 K).same s, h.2⟩
theorem Dts.same {H H' : Hp} {x : List V} {d : List PyData} (h : Dts H x d) (s : Same H H') : Dts H' x d := ⟨fun K => (h.1 K).same s, h.2⟩
end L2
/-! Floor division by a wide divisor. -/
namespace L2
open PySem PySem.Spec PyProof.Rows
section
variable {X : Cx}
def CDivW (_i j : Int) : Prop := 0 < j ∧ j.natAbs.log2 < 9000
theorem op_fdivW : OpR X (binaryOp .FloorDiv) (rI CDivW fun i j => .int (i / j)) := opI fun i j _ _ _ _ _ hc q => by
  have h1 : (0 : Int) < j := hc.1
  exact floordiv_int (by omega) (by rw [Int.fdiv_eq_ediv_of_nonneg i (by omega)]; exact q) (.inl (PyProof.noPylong_of_log2 hc.2))
theorem cdivw_of {i j : Int} (h : 0 < j) (h2 : j < 2 ^ 200) : CDivW i j := by
  refine ⟨h, ?_⟩
  have hz : j.natAbs ≠ 0 := by omega
  rw [Nat.log2_lt hz]
  have h3 : j.natAbs < 2 ^ 200 := by omega
  exact Nat.lt_of_lt_of_le h3 (Nat.pow_le_pow_right (by decide) (by decide))
end
end L2
namespace K57
open PySem L2
def top (i : Nat) : Stmt := PySem.Challenge.pw_roadnet_k57_answers_kept_near.main.body.getD i (.Pass ⟨0, 0, 0, 0⟩)
section
variable {P : Program} {w : World} {K : PySem.W.Frag} {mg : Str → Option Value} {base : Heap}
abbrev at_Near : List Str := ["keep", "answers"]
def fs_Near (a0 a1 : V) : List (Str × V) := [("keep", a0), ("answers", a1)]
section
variable {a0 a1 : V}
theorem fs_Near_keep : (fs_Near a0 a1).lookup ("keep" : Str) = some a0 := rfl
theorem fs_Near_answers : (fs_Near a0 a1).lookup ("answers" : Str) = some a1 := rfl
theorem fn_Near___init__ : (fs_Near a0 a1).lookup ("__init__" : Str) = none := rfl
theorem fn_Near_put : (fs_Near a0 a1).lookup ("put" : Str) = none := rfl
theorem fn_Near_is_fresh : (fs_Near a0 a1).lookup ("is_fresh" : Str) = none := rfl
theorem fn_Near_find : (fs_Near a0 a1).lookup ("find" : Str) = none := rfl
theorem fn_Near_thin : (fs_Near a0 a1).lookup ("thin" : Str) = none := rfl
theorem fl_Near : ((fs_Near a0 a1).length < 1000) = True := by simp [fs_Near]
theorem fp_Near_keep {v : V} : putF "keep" v (fs_Near a0 a1) = fs_Near v a1 := by with_unfolding_all rfl
theorem fp_Near_answers {v : V} : putF "answers" v (fs_Near a0 a1) = fs_Near a0 v := by with_unfolding_all rfl
theorem fq_Near_0 {v : V} : putF "keep" v ([] : List (Str × V)) = ([("keep", v)] : List (Str × V)) := by with_unfolding_all rfl
theorem fq_Near_1 {v : V} : putF "answers" v ([("keep", a0)] : List (Str × V)) = fs_Near a0 v := by with_unfolding_all rfl
end
abbrev s_Near___init__ : Stmt := inClass (top 1) 0
theorem sc_Near___init__ : FnScope ["self", "keep"] ["self", "keep"] (defScope s_Near___init__) := ⟨rfl, rfl, rfl, by decide +kernel, rfl, by decide +kernel, by decide +kernel⟩
abbrev s_Near_put : Stmt := inClass (top 1) 1
theorem sc_Near_put : FnScope ["self", "name", "hand", "asked"] ["self", "name", "hand", "asked"] (defScope s_Near_put) := ⟨rfl, rfl, rfl, by decide +kernel, rfl, by decide +kernel, by decide +kernel⟩
abbrev s_Near_is_fresh : Stmt := inClass (top 1) 2
theorem sc_Near_is_fresh : FnScope ["self", "name", "turn"] ["self", "name", "turn"] (defScope s_Near_is_fresh) := ⟨rfl, rfl, rfl, by decide +kernel, rfl, by decide +kernel, by decide +kernel⟩
abbrev s_Near_find : Stmt := inClass (top 1) 3
theorem sc_Near_find : FnScope ["self", "name", "turn"] ["self", "name", "turn"] (defScope s_Near_find) := ⟨rfl, rfl, rfl, by decide +kernel, rfl, by decide +kernel, by decide +kernel⟩
abbrev s_Near_thin : Stmt := inClass (top 1) 4
theorem sc_Near_thin : FnScope ["self", "turn", "name"] ["self", "turn"] (defScope s_Near_thin) := ⟨rfl, rfl, rfl, by decide +kernel, rfl, by decide +kernel, by decide +kernel⟩
/-! ### answers kept near -/
abbrev Mp := Str → Option (Option Int × Int)
theorem putK_keys {kvs : List (Key × V)} {k : Key} {v u : V} (h : valV kvs k = some u) : (putK kvs k v).map (·.1) = kvs.map (·.1) := by
  unfold putK
  rw [valV_any, h]
  simp only [Option.isSome_some, if_true, List.map_map]
  apply List.map_congr_left
  intro q _
  show (if q.1 = k then (q.1, v) else q).1 = q.1
  split <;> rfl
theorem nd_put {kvs : List (Key × V)} {k : Key} {v : V} (hn : (kvs.map (·.1)).Nodup) : ((putK kvs k v).map (·.1)).Nodup := by
  cases h : valV kvs k with
  | none => exact nd_putK v hn h
  | some u => rw [putK_keys h]; exact hn
theorem putK_key {kvs : List (Key × V)} {k : Key} {v : V} {q : Key × V} (h : q ∈ putK kvs k v) : q.1 = k ∨ q.1 ∈ kvs.map (·.1) := by
  cases e : valV kvs k with
  | none =>
    rw [putK_new v e] at h
    rcases List.mem_append.mp h with h | h
    · exact .inr (List.mem_map_of_mem h)
    · rw [List.mem_singleton] at h
      exact .inl (by rw [h])
  | some u =>
    have : q.1 ∈ (putK kvs k v).map (·.1) := List.mem_map_of_mem h
    rw [putK_keys e] at this
    exact .inr this
theorem valV_drop {kvs : List (Key × V)} {k j : Key} : valV (dropK kvs k) j = if j = k then none else valV kvs j := by
  induction kvs with
  | nil => rw [show dropK ([] : List (Key × V)) k = [] from rfl, valV_nil]; split <;> rfl
  | cons p r ih =>
    by_cases e : p.1 = k
    · rw [dropK_pos e, ih]
      split
      · rfl
      · next h => rw [valV_neg (fun z => h (z.symm.trans e))]
    · rw [dropK_neg e]
      by_cases f : p.1 = j
      · rw [valV_pos f, valV_pos f, if_neg (fun z => e (f.trans z))]
      · rw [valV_neg f, valV_neg f, ih]
def Lk (H : Hp) (kvs : List (Key × V)) (m : Mp) : Prop := ∀ z, match m z with
  | none => valV kvs (Sum.inr z) = none
  | some (h, t) => ∃ p, valV kvs (Sum.inr z) = some (.ref p) ∧ H p = some (.tup [optV h, .int t])
structure NearAt (C : Addr) (H : Hp) (x dx pg : Addr) (kp : Int) (kvs : List (Key × V)) (m : Mp) : Prop where
  ins : H x = some (.ins C dx (fs_Near (.int kp) (.ref pg)))
  dic : H pg = some (.dK kvs)
  lk : Lk H kvs m
  nd : (kvs.map (·.1)).Nodup
  ks : ∀ q ∈ kvs, ∃ z, q.1 = Sum.inr z
theorem Lk.keep {S : List Addr} {H H' : Hp} {kvs : List (Key × V)} {m : Mp} (h : Lk H kvs m) (k : Keep S H H') (hs : ∀ b ∈ S, NoT H b) : Lk H' kvs m := fun z => by
  have := h z
  cases e : m z with
  | none => rw [e] at this; exact this
  | some q =>
    rw [e] at this
    obtain ⟨p, h1, h2⟩ := this
    exact ⟨p, h1, k _ _ h2 fun hp => hs p hp _ h2⟩
section
variable {C : Addr}
theorem NearAt.keep {S : List Addr} {H H' : Hp} {x dx pg : Addr} {kp : Int} {kvs : List (Key × V)} {m : Mp} (h : NearAt C H x dx pg kp kvs m) (k : Keep S H H') (hs : ∀ b ∈ S, NoT H b) (n1 : x ∉ S) (n2 : pg ∉ S) : NearAt C H' x dx pg kp kvs m :=
  ⟨k _ _ h.ins n1, k _ _ h.dic n2, h.lk.keep k hs, h.nd, h.ks⟩
theorem NearAt.same {H H' : Hp} {x dx pg : Addr} {kp : Int} {kvs : List (Key × V)} {m : Mp} (h : NearAt C H x dx pg kp kvs m) (s : Same H H') : NearAt C H' x dx pg kp kvs m :=
  h.keep (S := []) s.keep (fun _ z => nomatch z) (by simp) (by simp)
def sp_ninit (C : Addr) : Sp := fun vs H Q _ => ∃ (x dx : Addr) (kp : Int), vs = [.ref x, .int kp] ∧ H x = some (.ins C dx []) ∧ ∀ pg H', H pg = none → NearAt C H' x dx pg kp [] (fun _ => none) → Keep [x] H H' → Q .non H'
theorem own_ninit (D : DefI K C "Near.__init__" s_Near___init__) (T_Near : ClsD K mg "Near" C at_Near) : OwnI P w K mg base 1 C ["self", "keep"] (sp_ninit C) := by
  refine D.own sc_Near___init__ (fun _ _ _ _ _ _ us hl => match us, hl with | [_, _], _ => rfl) (fun vs H Q E h => ?_) (fun f cdv A outer s H vs Q E hr h => ?_)
  · obtain ⟨x, dx, kp, rfl, _⟩ := h
    rfl
  · obtain ⟨x, dx, kp, rfl, e, q⟩ := h
    refine ⟨_, (@pss_cons _ _ _ _ _ (@ps_fld _ _ _ _ _ _ _ _ (@pv _ 0 _ _ (by rfl) (by first | exact Or.inl rfl | exact Or.inr (Or.inl rfl) | exact Or.inr (Or.inr rfl)) (by decide) (by decide)) (@pv _ 1 _ _ (by rfl) (by first | exact Or.inl rfl | exact Or.inr (Or.inl rfl) | exact Or.inr (Or.inr rfl)) (by decide) (by decide)) rfl) (@pss_one _ _ _ (@ps_fld _ _ _ _ _ _ _ _ (@pv _ 0 _ _ (by rfl) (by first | exact Or.inl rfl | exact Or.inr (Or.inl rfl) | exact Or.inr (Or.inr rfl)) (by decide) (by decide)) (@pe_dnewK _ _) rfl))), ?_⟩
    simp (maxSteps := 1000000) only [tFor_eq, tComp_eq, rRngs, rListR, HO.rng.injEq, tDKeys, rSortL, rSortK, ixN_10, ixN_20, ixN_21, ixN_30, ixN_31, ixN_32, ixN_40, ixN_41, ixN_42, ixN_43, ixN_50, ixN_51, ixN_52, ixN_53, ixN_54, rNe_nn, rEq_nn, rNe_in, rEq_in, rNe_ni, rEq_ni, gSeqX, rLeS, rEq_ss, rNe_ss, rStr1, rAllX, rAnyX, rListD, iStr, rSumX, tBL, tBL0, rExtend, rPopAt, rPop, rReverse, rClear, rIsIX, tyX_n, tyX_b, tyX_i, tyX_s, tyX_r, tyO_l, tyO_t, tyO_d, V.ty.injEq, kT_Noin, kT_Nobo, kT_Nost, kT_Noli, kT_Notu, kT_Nodi, kT_boin, kT_bobo, kT_bost, kT_boli, kT_botu, kT_bodi, kT_inin, kT_inbo, kT_inst, kT_inli, kT_intu, kT_indi, kT_stin, kT_stbo, kT_stst, kT_stli, kT_sttu, kT_stdi, kT_liin, kT_libo, kT_list, kT_lili, kT_litu, kT_lidi, kT_tuin, kT_tubo, kT_tust, kT_tuli, kT_tutu, kT_tudi, kT_diin, kT_dibo, kT_dist, kT_dili, kT_ditu, kT_didi, rGet, getO_l, getO_t, getO_di, getO_ds, rLenX, lenX_r, lenX_s', lenO_l, lenO_t, lenO_d, Option.bind_some, tTruX, truX_n, truX_b, truX_i, truX_r, truO_l, truO_t, truO_d, rInX, rNotInX, inO_l', inO_t', inO_di, inO_ds, rSetX, setO_l, setO_di', setO_ds', rSlX, rListX, seqO_l, seqO_t, rTupX, gTupX, gCons, gNil, gSub, atI_0, atI_1, atI_2, atI_3, tDNewK, Nat.reduceSub, upd_same, upd_upd, Nat.reduceLT, HO.lst.injEq, HO.tup.injEq, HO.dK.injEq, HO.ins.injEq, Option.map_some, Option.isSome_some, Int.reduceEq, Int.reduceLT, Int.reduceLE, Nat.reduceAdd, List.isEmpty_nil, List.isEmpty_cons, ne_eq, not_false_eq_true, tDGs, sDPs, rIsB, rIsntB, tMeth, tMake, tDGet, sDPut, tFld, sFld, tDisp, tPairs, tNever, decide_true, decide_false, truV_bl, clsV_ty, V.ty.injEq, exists_eq', exists_eq, Bool.not_true, Bool.not_false, Bool.not_not, rLen, rListOf, rTupOf, rAny, rAll, rIsI, tTru, iRng1, iRng2, iList, tYes, cSt, List.drop_succ_cons, List.drop_zero, cxOf_K, cxC_K,  tBM, tBM0, rAppend, tSl, rSlL, tNoPart, tPart, rIxL, rIxT, rCat, List.cons.injEq, rEq_ii, rNe_ii, rEq_bb, rNe_bb, tSeq, exists_and_left, if_false, if_true, reduceIte, Bool.false_eq_true, tIfS, tAnd, tOr, tNot, tTest, tOp, tUn, tVar, tC, rI, rI0, rU, tRet, tRetN, tAsg, gName, tNext, tAndV, tOrV, tNotV, tIf, tCall, tCons, tNil, tCB, tDrop, tLst, tTup, tChain, L2.start, List.map_cons, List.map_nil, List.length_cons, List.length_nil, List.replicate, List.cons_append, List.nil_append, List.getElem?_cons_zero, List.getElem?_cons_succ, List.set_cons_zero, List.set_cons_succ, Option.some.injEq, exists_eq_left', exists_eq_left, V.int.injEq, V.bl.injEq, V.ref.injEq, V.str.injEq, exists_const, and_true, true_and, reduceCtorEq, false_and, exists_false, or_false, false_or, and_assoc, List.append_nil, e, T_Near.cl, T_Near.no "keep" (by decide), T_Near.no "answers" (by decide), fs_Near_keep, fs_Near_answers, fn_Near___init__, fn_Near_put, fn_Near_is_fresh, fn_Near_find, fn_Near_thin, fl_Near, fp_Near_keep, fp_Near_answers, fq_Near_0, fq_Near_1]
    generalize z0 : upd H x _ = H0
    have e0 := (congrFun z0.symm x).trans upd_same
    have k0 : Keep [x] H H0 := by rw [← z0]; exact Keep.refl.upd (.inl (.head _))
    intro p1 n1
    generalize z1 : upd H0 p1 _ = H1
    obtain ⟨s1, e1⟩ := new_same z1 n1
    have ex1 := s1 _ _ e0
    simp (maxSteps := 1000000) only [tFor_eq, tComp_eq, rRngs, rListR, HO.rng.injEq, tDKeys, rSortL, rSortK, ixN_10, ixN_20, ixN_21, ixN_30, ixN_31, ixN_32, ixN_40, ixN_41, ixN_42, ixN_43, ixN_50, ixN_51, ixN_52, ixN_53, ixN_54, rNe_nn, rEq_nn, rNe_in, rEq_in, rNe_ni, rEq_ni, gSeqX, rLeS, rEq_ss, rNe_ss, rStr1, rAllX, rAnyX, rListD, iStr, rSumX, tBL, tBL0, rExtend, rPopAt, rPop, rReverse, rClear, rIsIX, tyX_n, tyX_b, tyX_i, tyX_s, tyX_r, tyO_l, tyO_t, tyO_d, V.ty.injEq, kT_Noin, kT_Nobo, kT_Nost, kT_Noli, kT_Notu, kT_Nodi, kT_boin, kT_bobo, kT_bost, kT_boli, kT_botu, kT_bodi, kT_inin, kT_inbo, kT_inst, kT_inli, kT_intu, kT_indi, kT_stin, kT_stbo, kT_stst, kT_stli, kT_sttu, kT_stdi, kT_liin, kT_libo, kT_list, kT_lili, kT_litu, kT_lidi, kT_tuin, kT_tubo, kT_tust, kT_tuli, kT_tutu, kT_tudi, kT_diin, kT_dibo, kT_dist, kT_dili, kT_ditu, kT_didi, rGet, getO_l, getO_t, getO_di, getO_ds, rLenX, lenX_r, lenX_s', lenO_l, lenO_t, lenO_d, Option.bind_some, tTruX, truX_n, truX_b, truX_i, truX_r, truO_l, truO_t, truO_d, rInX, rNotInX, inO_l', inO_t', inO_di, inO_ds, rSetX, setO_l, setO_di', setO_ds', rSlX, rListX, seqO_l, seqO_t, rTupX, gTupX, gCons, gNil, gSub, atI_0, atI_1, atI_2, atI_3, tDNewK, Nat.reduceSub, upd_same, upd_upd, Nat.reduceLT, HO.lst.injEq, HO.tup.injEq, HO.dK.injEq, HO.ins.injEq, Option.map_some, Option.isSome_some, Int.reduceEq, Int.reduceLT, Int.reduceLE, Nat.reduceAdd, List.isEmpty_nil, List.isEmpty_cons, ne_eq, not_false_eq_true, tDGs, sDPs, rIsB, rIsntB, tMeth, tMake, tDGet, sDPut, tFld, sFld, tDisp, tPairs, tNever, decide_true, decide_false, truV_bl, clsV_ty, V.ty.injEq, exists_eq', exists_eq, Bool.not_true, Bool.not_false, Bool.not_not, rLen, rListOf, rTupOf, rAny, rAll, rIsI, tTru, iRng1, iRng2, iList, tYes, cSt, List.drop_succ_cons, List.drop_zero, cxOf_K, cxC_K,  tBM, tBM0, rAppend, tSl, rSlL, tNoPart, tPart, rIxL, rIxT, rCat, List.cons.injEq, rEq_ii, rNe_ii, rEq_bb, rNe_bb, tSeq, exists_and_left, if_false, if_true, reduceIte, Bool.false_eq_true, tIfS, tAnd, tOr, tNot, tTest, tOp, tUn, tVar, tC, rI, rI0, rU, tRet, tRetN, tAsg, gName, tNext, tAndV, tOrV, tNotV, tIf, tCall, tCons, tNil, tCB, tDrop, tLst, tTup, tChain, L2.start, List.map_cons, List.map_nil, List.length_cons, List.length_nil, List.replicate, List.cons_append, List.nil_append, List.getElem?_cons_zero, List.getElem?_cons_succ, List.set_cons_zero, List.set_cons_succ, Option.some.injEq, exists_eq_left', exists_eq_left, V.int.injEq, V.bl.injEq, V.ref.injEq, V.str.injEq, exists_const, and_true, true_and, reduceCtorEq, false_and, exists_false, or_false, false_or, and_assoc, List.append_nil, ex1, T_Near.cl, T_Near.no "keep" (by decide), T_Near.no "answers" (by decide), fs_Near_keep, fs_Near_answers, fn_Near___init__, fn_Near_put, fn_Near_is_fresh, fn_Near_find, fn_Near_thin, fl_Near, fp_Near_keep, fp_Near_answers, fq_Near_0, fq_Near_1]
    have nx1 : p1 ≠ x := fun z => by subst z; rw [e0] at n1; cases n1
    exact q p1 _ (k0.free n1 (by simpa using nx1)) ⟨upd_same, by rw [upd_ne nx1]; exact e1, fun z => valV_nil, List.nodup_nil, fun q hq => nomatch hq⟩ ((k0.same s1).upd (.inl (.head _)))
/-- what is kept behind an answer -/
def newM (m : Mp) (z : Str) (h : Option Int) (t : Int) : Mp := fun y => if y = z ∧ (match m z with | none => true | some (_, t0) => decide (t0 < t)) = true then some (h, t) else m y
def sp_nput (C : Addr) : Sp := fun vs H Q _ => ∃ (x dx pg : Addr) (kp t : Int) (z : Str) (h : Option Int) (kvs : List (Key × V)) (m : Mp), vs = [.ref x, .str z, optV h, .int t] ∧ NearAt C H x dx pg kp kvs m ∧ kvs.length ≤ 1000 ∧
  ∀ kvs' H', NearAt C H' x dx pg kp kvs' (newM m z h t) → kvs'.length ≤ kvs.length + 1 → Keep [pg] H H' → Q .non H'
theorem own_nput (D : DefM K C "put" "Near.put" s_Near_put) (hb : Blt mg) (T_Near : ClsD K mg "Near" C at_Near) : OwnM P w K mg base 1 C "put" ["self", "name", "hand", "asked"] (sp_nput C) := by
  refine D.own sc_Near_put (fun _ _ _ _ _ _ us hl => match us, hl with | [_, _, _, _], _ => rfl) (fun vs H Q E h => ?_) (fun f cdv A outer s H vs Q E hr h => ?_)
  · obtain ⟨x, dx, pg, kp, t, z, h, kvs, m, rfl, _⟩ := h
    rfl
  · obtain ⟨x, dx, pg, kp, t, z, h, kvs, m, rfl, O, hl, q⟩ := h
    have hu := hr.units
    have hu1 : (A.deeper (PyProof.Rows.envOfC "Near.put" (defScope s_Near_put) s.heap.objs.size f cdv)).units + 1 < cLine := by omega
    have ex := O.ins
    have ed := O.dic
    refine ⟨_, (@pss_one _ _ _ (@ps_if _ _ _ _ _ _ _ _ (@PW.pt _ _ _ (@pw_or _ _ _ _ _ _ _ (@pt_cmpR _ _ _ _ _ _ _ _ (op_notinX hu1) (@pv _ 1 _ _ (by rfl) (by first | exact Or.inl rfl | exact Or.inr (Or.inl rfl) | exact Or.inr (Or.inr rfl)) (by decide) (by decide)) (@pe_fldK _ K _ _ _ _ (@pv _ 0 _ _ (by rfl) (by first | exact Or.inl rfl | exact Or.inr (Or.inl rfl) | exact Or.inr (Or.inr rfl)) (by decide) (by decide)) (by rfl) (by rfl)) rfl) (@pw_or1 _ _ _ _ (@pt_cmpR _ _ _ _ _ _ _ _ op_lt (@pe_ix _ _ _ _ _ _ _ (ix_get hu1) (@pe_ix _ _ _ _ _ _ _ (ix_get hu1) (@pe_fldK _ K _ _ _ _ (@pv _ 0 _ _ (by rfl) (by first | exact Or.inl rfl | exact Or.inr (Or.inl rfl) | exact Or.inr (Or.inr rfl)) (by decide) (by decide)) (by rfl) (by rfl)) (@pv _ 1 _ _ (by rfl) (by first | exact Or.inl rfl | exact Or.inr (Or.inl rfl) | exact Or.inr (Or.inr rfl)) (by decide) (by decide)) (fun _ _ => rfl)) (@pe_int _ _ _ _) (fun _ _ => rfl)) (@pv _ 3 _ _ (by rfl) (by first | exact Or.inl rfl | exact Or.inr (Or.inl rfl) | exact Or.inr (Or.inr rfl)) (by decide) (by decide)) (nomark _))))) (@pss_one _ _ _ (@ps_asg _ _ _ _ _ _ (@pe_tup _ _ _ _ _ (@pa_cX _ _ _ _ _ (@pv _ 2 _ _ (by rfl) (by first | exact Or.inl rfl | exact Or.inr (Or.inl rfl) | exact Or.inr (Or.inr rfl)) (by decide) (by decide)) (@pa_cX _ _ _ _ _ (@pv _ 3 _ _ (by rfl) (by first | exact Or.inl rfl | exact Or.inr (Or.inl rfl) | exact Or.inr (Or.inr rfl)) (by decide) (by decide)) (@pa_nil _) (by rfl)) (by rfl))) (@pg_sub _ _ _ _ _ _ _ (@pe_fldK _ K _ _ _ _ (@pv _ 0 _ _ (by rfl) (by first | exact Or.inl rfl | exact Or.inr (Or.inl rfl) | exact Or.inr (Or.inr rfl)) (by decide) (by decide)) (by rfl) (by rfl)) (@pv _ 1 _ _ (by rfl) (by first | exact Or.inl rfl | exact Or.inr (Or.inl rfl) | exact Or.inr (Or.inr rfl)) (by decide) (by decide)) (@set_x _ hu1) (by intro _; rfl)) (by rfl) (by rfl) (by rfl))) (@pss_nil _))), ?_⟩
    have nxg : x ≠ pg := ne_of ex ed (by intro z; cases z)
    have hln : kvs.length < sizeLine := by rw [sizeLine_eq]; omega
    have fin : ∀ p H1, Same H H1 → H1 p = some (.tup [optV h, .int t]) → (match m z with | none => true | some (_, t0) => decide (t0 < t)) = true → Q .non (upd H1 pg (.dK (putK kvs (Sum.inr z) (.ref p)))) := fun p H1 s1 e1 hc => by
      have O1 := O.same s1
      have npg : p ≠ pg := ne_of e1 O1.dic (by intro z; cases z)
      refine q _ _ ⟨by rw [upd_ne nxg]; exact O1.ins, upd_same, fun y => ?_, nd_put O.nd, fun r hr => ?_⟩ (length_putK _ _ _) (s1.keep.upd (.inl (.head _)))
      · by_cases hy : y = z
        · have : newM m z h t y = some (h, t) := if_pos ⟨hy, hc⟩
          rw [this]
          exact ⟨p, by rw [valV_put, hy, if_pos rfl], by rw [upd_ne npg]; exact e1⟩
        · have : newM m z h t y = m y := if_neg (fun w => hy w.1)
          rw [this]
          have l1 := O1.lk y
          cases em : m y with
          | none =>
            rw [em] at l1
            show valV _ _ = none
            rw [valV_put, if_neg (by intro w; cases w; exact hy rfl)]
            exact l1
          | some r =>
            rw [em] at l1
            obtain ⟨p2, h1, h2⟩ := l1
            exact ⟨p2, by rw [valV_put, if_neg (by intro w; cases w; exact hy rfl)]; exact h1, by rw [upd_ne (ne_of h2 O1.dic (by intro z; cases z))]; exact h2⟩
      · rcases putK_key hr with e | e
        · exact ⟨z, e⟩
        · obtain ⟨r2, h1, h2⟩ := List.mem_map.mp e
          obtain ⟨y, hy⟩ := O.ks r2 h1
          exact ⟨y, by rw [← h2]; exact hy⟩
    have l0 := O.lk z
    simp (maxSteps := 1000000) only [tFor_eq, tComp_eq, rRngs, rListR, HO.rng.injEq, tDKeys, rSortL, rSortK, ixN_10, ixN_20, ixN_21, ixN_30, ixN_31, ixN_32, ixN_40, ixN_41, ixN_42, ixN_43, ixN_50, ixN_51, ixN_52, ixN_53, ixN_54, rNe_nn, rEq_nn, rNe_in, rEq_in, rNe_ni, rEq_ni, gSeqX, rLeS, rEq_ss, rNe_ss, rStr1, rAllX, rAnyX, rListD, iStr, rSumX, tBL, tBL0, rExtend, rPopAt, rPop, rReverse, rClear, rIsIX, tyX_n, tyX_b, tyX_i, tyX_s, tyX_r, tyO_l, tyO_t, tyO_d, V.ty.injEq, kT_Noin, kT_Nobo, kT_Nost, kT_Noli, kT_Notu, kT_Nodi, kT_boin, kT_bobo, kT_bost, kT_boli, kT_botu, kT_bodi, kT_inin, kT_inbo, kT_inst, kT_inli, kT_intu, kT_indi, kT_stin, kT_stbo, kT_stst, kT_stli, kT_sttu, kT_stdi, kT_liin, kT_libo, kT_list, kT_lili, kT_litu, kT_lidi, kT_tuin, kT_tubo, kT_tust, kT_tuli, kT_tutu, kT_tudi, kT_diin, kT_dibo, kT_dist, kT_dili, kT_ditu, kT_didi, rGet, getO_l, getO_t, getO_di, getO_ds, rLenX, lenX_r, lenX_s', lenO_l, lenO_t, lenO_d, Option.bind_some, tTruX, truX_n, truX_b, truX_i, truX_r, truO_l, truO_t, truO_d, rInX, rNotInX, inO_l', inO_t', inO_di, inO_ds, rSetX, setO_l, setO_di', setO_ds', rSlX, rListX, seqO_l, seqO_t, rTupX, gTupX, gCons, gNil, gSub, atI_0, atI_1, atI_2, atI_3, tDNewK, Nat.reduceSub, upd_same, upd_upd, Nat.reduceLT, HO.lst.injEq, HO.tup.injEq, HO.dK.injEq, HO.ins.injEq, Option.map_some, Option.isSome_some, Int.reduceEq, Int.reduceLT, Int.reduceLE, Nat.reduceAdd, List.isEmpty_nil, List.isEmpty_cons, ne_eq, not_false_eq_true, tDGs, sDPs, rIsB, rIsntB, tMeth, tMake, tDGet, sDPut, tFld, sFld, tDisp, tPairs, tNever, decide_true, decide_false, truV_bl, clsV_ty, V.ty.injEq, exists_eq', exists_eq, Bool.not_true, Bool.not_false, Bool.not_not, rLen, rListOf, rTupOf, rAny, rAll, rIsI, tTru, iRng1, iRng2, iList, tYes, cSt, List.drop_succ_cons, List.drop_zero, cxOf_K, cxC_K,  tBM, tBM0, rAppend, tSl, rSlL, tNoPart, tPart, rIxL, rIxT, rCat, List.cons.injEq, rEq_ii, rNe_ii, rEq_bb, rNe_bb, tSeq, exists_and_left, if_false, if_true, reduceIte, Bool.false_eq_true, tIfS, tAnd, tOr, tNot, tTest, tOp, tUn, tVar, tC, rI, rI0, rU, tRet, tRetN, tAsg, gName, tNext, tAndV, tOrV, tNotV, tIf, tCall, tCons, tNil, tCB, tDrop, tLst, tTup, tChain, L2.start, List.map_cons, List.map_nil, List.length_cons, List.length_nil, List.replicate, List.cons_append, List.nil_append, List.getElem?_cons_zero, List.getElem?_cons_succ, List.set_cons_zero, List.set_cons_succ, Option.some.injEq, exists_eq_left', exists_eq_left, V.int.injEq, V.bl.injEq, V.ref.injEq, V.str.injEq, exists_const, and_true, true_and, reduceCtorEq, false_and, exists_false, or_false, false_or, and_assoc, List.append_nil, ex, ed, T_Near.cl, T_Near.no "keep" (by decide), T_Near.no "answers" (by decide), fs_Near_keep, fs_Near_answers, fn_Near___init__, fn_Near_put, fn_Near_is_fresh, fn_Near_find, fn_Near_thin, fl_Near, fp_Near_keep, fp_Near_answers, fq_Near_0, fq_Near_1]
    cases em : m z with
    | none =>
      rw [em] at l0 fin
      have l0 : valV kvs (Sum.inr z) = none := l0
      simp (maxSteps := 1000000) only [tFor_eq, tComp_eq, rRngs, rListR, HO.rng.injEq, tDKeys, rSortL, rSortK, ixN_10, ixN_20, ixN_21, ixN_30, ixN_31, ixN_32, ixN_40, ixN_41, ixN_42, ixN_43, ixN_50, ixN_51, ixN_52, ixN_53, ixN_54, rNe_nn, rEq_nn, rNe_in, rEq_in, rNe_ni, rEq_ni, gSeqX, rLeS, rEq_ss, rNe_ss, rStr1, rAllX, rAnyX, rListD, iStr, rSumX, tBL, tBL0, rExtend, rPopAt, rPop, rReverse, rClear, rIsIX, tyX_n, tyX_b, tyX_i, tyX_s, tyX_r, tyO_l, tyO_t, tyO_d, V.ty.injEq, kT_Noin, kT_Nobo, kT_Nost, kT_Noli, kT_Notu, kT_Nodi, kT_boin, kT_bobo, kT_bost, kT_boli, kT_botu, kT_bodi, kT_inin, kT_inbo, kT_inst, kT_inli, kT_intu, kT_indi, kT_stin, kT_stbo, kT_stst, kT_stli, kT_sttu, kT_stdi, kT_liin, kT_libo, kT_list, kT_lili, kT_litu, kT_lidi, kT_tuin, kT_tubo, kT_tust, kT_tuli, kT_tutu, kT_tudi, kT_diin, kT_dibo, kT_dist, kT_dili, kT_ditu, kT_didi, rGet, getO_l, getO_t, getO_di, getO_ds, rLenX, lenX_r, lenX_s', lenO_l, lenO_t, lenO_d, Option.bind_some, tTruX, truX_n, truX_b, truX_i, truX_r, truO_l, truO_t, truO_d, rInX, rNotInX, inO_l', inO_t', inO_di, inO_ds, rSetX, setO_l, setO_di', setO_ds', rSlX, rListX, seqO_l, seqO_t, rTupX, gTupX, gCons, gNil, gSub, atI_0, atI_1, atI_2, atI_3, tDNewK, Nat.reduceSub, upd_same, upd_upd, Nat.reduceLT, HO.lst.injEq, HO.tup.injEq, HO.dK.injEq, HO.ins.injEq, Option.map_some, Option.isSome_some, Int.reduceEq, Int.reduceLT, Int.reduceLE, Nat.reduceAdd, List.isEmpty_nil, List.isEmpty_cons, ne_eq, not_false_eq_true, tDGs, sDPs, rIsB, rIsntB, tMeth, tMake, tDGet, sDPut, tFld, sFld, tDisp, tPairs, tNever, decide_true, decide_false, truV_bl, clsV_ty, V.ty.injEq, exists_eq', exists_eq, Bool.not_true, Bool.not_false, Bool.not_not, rLen, rListOf, rTupOf, rAny, rAll, rIsI, tTru, iRng1, iRng2, iList, tYes, cSt, List.drop_succ_cons, List.drop_zero, cxOf_K, cxC_K,  tBM, tBM0, rAppend, tSl, rSlL, tNoPart, tPart, rIxL, rIxT, rCat, List.cons.injEq, rEq_ii, rNe_ii, rEq_bb, rNe_bb, tSeq, exists_and_left, if_false, if_true, reduceIte, Bool.false_eq_true, tIfS, tAnd, tOr, tNot, tTest, tOp, tUn, tVar, tC, rI, rI0, rU, tRet, tRetN, tAsg, gName, tNext, tAndV, tOrV, tNotV, tIf, tCall, tCons, tNil, tCB, tDrop, tLst, tTup, tChain, L2.start, List.map_cons, List.map_nil, List.length_cons, List.length_nil, List.replicate, List.cons_append, List.nil_append, List.getElem?_cons_zero, List.getElem?_cons_succ, List.set_cons_zero, List.set_cons_succ, Option.some.injEq, exists_eq_left', exists_eq_left, V.int.injEq, V.bl.injEq, V.ref.injEq, V.str.injEq, exists_const, and_true, true_and, reduceCtorEq, false_and, exists_false, or_false, false_or, and_assoc, List.append_nil, l0, Option.isSome_none]
      refine ⟨by decide, ?_⟩
      intro p1 n1
      generalize z1 : upd H p1 _ = H1
      obtain ⟨s1, e1⟩ := new_same z1 n1
      have ex1 := s1 _ _ ex
      have ed1 := s1 _ _ ed
      simp (maxSteps := 1000000) only [tFor_eq, tComp_eq, rRngs, rListR, HO.rng.injEq, tDKeys, rSortL, rSortK, ixN_10, ixN_20, ixN_21, ixN_30, ixN_31, ixN_32, ixN_40, ixN_41, ixN_42, ixN_43, ixN_50, ixN_51, ixN_52, ixN_53, ixN_54, rNe_nn, rEq_nn, rNe_in, rEq_in, rNe_ni, rEq_ni, gSeqX, rLeS, rEq_ss, rNe_ss, rStr1, rAllX, rAnyX, rListD, iStr, rSumX, tBL, tBL0, rExtend, rPopAt, rPop, rReverse, rClear, rIsIX, tyX_n, tyX_b, tyX_i, tyX_s, tyX_r, tyO_l, tyO_t, tyO_d, V.ty.injEq, kT_Noin, kT_Nobo, kT_Nost, kT_Noli, kT_Notu, kT_Nodi, kT_boin, kT_bobo, kT_bost, kT_boli, kT_botu, kT_bodi, kT_inin, kT_inbo, kT_inst, kT_inli, kT_intu, kT_indi, kT_stin, kT_stbo, kT_stst, kT_stli, kT_sttu, kT_stdi, kT_liin, kT_libo, kT_list, kT_lili, kT_litu, kT_lidi, kT_tuin, kT_tubo, kT_tust, kT_tuli, kT_tutu, kT_tudi, kT_diin, kT_dibo, kT_dist, kT_dili, kT_ditu, kT_didi, rGet, getO_l, getO_t, getO_di, getO_ds, rLenX, lenX_r, lenX_s', lenO_l, lenO_t, lenO_d, Option.bind_some, tTruX, truX_n, truX_b, truX_i, truX_r, truO_l, truO_t, truO_d, rInX, rNotInX, inO_l', inO_t', inO_di, inO_ds, rSetX, setO_l, setO_di', setO_ds', rSlX, rListX, seqO_l, seqO_t, rTupX, gTupX, gCons, gNil, gSub, atI_0, atI_1, atI_2, atI_3, tDNewK, Nat.reduceSub, upd_same, upd_upd, Nat.reduceLT, HO.lst.injEq, HO.tup.injEq, HO.dK.injEq, HO.ins.injEq, Option.map_some, Option.isSome_some, Int.reduceEq, Int.reduceLT, Int.reduceLE, Nat.reduceAdd, List.isEmpty_nil, List.isEmpty_cons, ne_eq, not_false_eq_true, tDGs, sDPs, rIsB, rIsntB, tMeth, tMake, tDGet, sDPut, tFld, sFld, tDisp, tPairs, tNever, decide_true, decide_false, truV_bl, clsV_ty, V.ty.injEq, exists_eq', exists_eq, Bool.not_true, Bool.not_false, Bool.not_not, rLen, rListOf, rTupOf, rAny, rAll, rIsI, tTru, iRng1, iRng2, iList, tYes, cSt, List.drop_succ_cons, List.drop_zero, cxOf_K, cxC_K,  tBM, tBM0, rAppend, tSl, rSlL, tNoPart, tPart, rIxL, rIxT, rCat, List.cons.injEq, rEq_ii, rNe_ii, rEq_bb, rNe_bb, tSeq, exists_and_left, if_false, if_true, reduceIte, Bool.false_eq_true, tIfS, tAnd, tOr, tNot, tTest, tOp, tUn, tVar, tC, rI, rI0, rU, tRet, tRetN, tAsg, gName, tNext, tAndV, tOrV, tNotV, tIf, tCall, tCons, tNil, tCB, tDrop, tLst, tTup, tChain, L2.start, List.map_cons, List.map_nil, List.length_cons, List.length_nil, List.replicate, List.cons_append, List.nil_append, List.getElem?_cons_zero, List.getElem?_cons_succ, List.set_cons_zero, List.set_cons_succ, Option.some.injEq, exists_eq_left', exists_eq_left, V.int.injEq, V.bl.injEq, V.ref.injEq, V.str.injEq, exists_const, and_true, true_and, reduceCtorEq, false_and, exists_false, or_false, false_or, and_assoc, List.append_nil, ex1, ed1, T_Near.cl, T_Near.no "keep" (by decide), T_Near.no "answers" (by decide), fs_Near_keep, fs_Near_answers, fn_Near___init__, fn_Near_put, fn_Near_is_fresh, fn_Near_find, fn_Near_thin, fl_Near, fp_Near_keep, fp_Near_answers, fq_Near_0, fq_Near_1, hln]
      exact fin p1 H1 s1 e1 rfl
    | some r =>
      obtain ⟨h0, t0⟩ := r
      rw [em] at l0 fin
      obtain ⟨p, l1, l2⟩ := l0
      simp (maxSteps := 1000000) only [tFor_eq, tComp_eq, rRngs, rListR, HO.rng.injEq, tDKeys, rSortL, rSortK, ixN_10, ixN_20, ixN_21, ixN_30, ixN_31, ixN_32, ixN_40, ixN_41, ixN_42, ixN_43, ixN_50, ixN_51, ixN_52, ixN_53, ixN_54, rNe_nn, rEq_nn, rNe_in, rEq_in, rNe_ni, rEq_ni, gSeqX, rLeS, rEq_ss, rNe_ss, rStr1, rAllX, rAnyX, rListD, iStr, rSumX, tBL, tBL0, rExtend, rPopAt, rPop, rReverse, rClear, rIsIX, tyX_n, tyX_b, tyX_i, tyX_s, tyX_r, tyO_l, tyO_t, tyO_d, V.ty.injEq, kT_Noin, kT_Nobo, kT_Nost, kT_Noli, kT_Notu, kT_Nodi, kT_boin, kT_bobo, kT_bost, kT_boli, kT_botu, kT_bodi, kT_inin, kT_inbo, kT_inst, kT_inli, kT_intu, kT_indi, kT_stin, kT_stbo, kT_stst, kT_stli, kT_sttu, kT_stdi, kT_liin, kT_libo, kT_list, kT_lili, kT_litu, kT_lidi, kT_tuin, kT_tubo, kT_tust, kT_tuli, kT_tutu, kT_tudi, kT_diin, kT_dibo, kT_dist, kT_dili, kT_ditu, kT_didi, rGet, getO_l, getO_t, getO_di, getO_ds, rLenX, lenX_r, lenX_s', lenO_l, lenO_t, lenO_d, Option.bind_some, tTruX, truX_n, truX_b, truX_i, truX_r, truO_l, truO_t, truO_d, rInX, rNotInX, inO_l', inO_t', inO_di, inO_ds, rSetX, setO_l, setO_di', setO_ds', rSlX, rListX, seqO_l, seqO_t, rTupX, gTupX, gCons, gNil, gSub, atI_0, atI_1, atI_2, atI_3, tDNewK, Nat.reduceSub, upd_same, upd_upd, Nat.reduceLT, HO.lst.injEq, HO.tup.injEq, HO.dK.injEq, HO.ins.injEq, Option.map_some, Option.isSome_some, Int.reduceEq, Int.reduceLT, Int.reduceLE, Nat.reduceAdd, List.isEmpty_nil, List.isEmpty_cons, ne_eq, not_false_eq_true, tDGs, sDPs, rIsB, rIsntB, tMeth, tMake, tDGet, sDPut, tFld, sFld, tDisp, tPairs, tNever, decide_true, decide_false, truV_bl, clsV_ty, V.ty.injEq, exists_eq', exists_eq, Bool.not_true, Bool.not_false, Bool.not_not, rLen, rListOf, rTupOf, rAny, rAll, rIsI, tTru, iRng1, iRng2, iList, tYes, cSt, List.drop_succ_cons, List.drop_zero, cxOf_K, cxC_K,  tBM, tBM0, rAppend, tSl, rSlL, tNoPart, tPart, rIxL, rIxT, rCat, List.cons.injEq, rEq_ii, rNe_ii, rEq_bb, rNe_bb, tSeq, exists_and_left, if_false, if_true, reduceIte, Bool.false_eq_true, tIfS, tAnd, tOr, tNot, tTest, tOp, tUn, tVar, tC, rI, rI0, rU, tRet, tRetN, tAsg, gName, tNext, tAndV, tOrV, tNotV, tIf, tCall, tCons, tNil, tCB, tDrop, tLst, tTup, tChain, L2.start, List.map_cons, List.map_nil, List.length_cons, List.length_nil, List.replicate, List.cons_append, List.nil_append, List.getElem?_cons_zero, List.getElem?_cons_succ, List.set_cons_zero, List.set_cons_succ, Option.some.injEq, exists_eq_left', exists_eq_left, V.int.injEq, V.bl.injEq, V.ref.injEq, V.str.injEq, exists_const, and_true, true_and, reduceCtorEq, false_and, exists_false, or_false, false_or, and_assoc, List.append_nil, l1, l2, Option.isSome_some]
      by_cases hc : t0 < t
      · simp (maxSteps := 1000000) only [tFor_eq, tComp_eq, rRngs, rListR, HO.rng.injEq, tDKeys, rSortL, rSortK, ixN_10, ixN_20, ixN_21, ixN_30, ixN_31, ixN_32, ixN_40, ixN_41, ixN_42, ixN_43, ixN_50, ixN_51, ixN_52, ixN_53, ixN_54, rNe_nn, rEq_nn, rNe_in, rEq_in, rNe_ni, rEq_ni, gSeqX, rLeS, rEq_ss, rNe_ss, rStr1, rAllX, rAnyX, rListD, iStr, rSumX, tBL, tBL0, rExtend, rPopAt, rPop, rReverse, rClear, rIsIX, tyX_n, tyX_b, tyX_i, tyX_s, tyX_r, tyO_l, tyO_t, tyO_d, V.ty.injEq, kT_Noin, kT_Nobo, kT_Nost, kT_Noli, kT_Notu, kT_Nodi, kT_boin, kT_bobo, kT_bost, kT_boli, kT_botu, kT_bodi, kT_inin, kT_inbo, kT_inst, kT_inli, kT_intu, kT_indi, kT_stin, kT_stbo, kT_stst, kT_stli, kT_sttu, kT_stdi, kT_liin, kT_libo, kT_list, kT_lili, kT_litu, kT_lidi, kT_tuin, kT_tubo, kT_tust, kT_tuli, kT_tutu, kT_tudi, kT_diin, kT_dibo, kT_dist, kT_dili, kT_ditu, kT_didi, rGet, getO_l, getO_t, getO_di, getO_ds, rLenX, lenX_r, lenX_s', lenO_l, lenO_t, lenO_d, Option.bind_some, tTruX, truX_n, truX_b, truX_i, truX_r, truO_l, truO_t, truO_d, rInX, rNotInX, inO_l', inO_t', inO_di, inO_ds, rSetX, setO_l, setO_di', setO_ds', rSlX, rListX, seqO_l, seqO_t, rTupX, gTupX, gCons, gNil, gSub, atI_0, atI_1, atI_2, atI_3, tDNewK, Nat.reduceSub, upd_same, upd_upd, Nat.reduceLT, HO.lst.injEq, HO.tup.injEq, HO.dK.injEq, HO.ins.injEq, Option.map_some, Option.isSome_some, Int.reduceEq, Int.reduceLT, Int.reduceLE, Nat.reduceAdd, List.isEmpty_nil, List.isEmpty_cons, ne_eq, not_false_eq_true, tDGs, sDPs, rIsB, rIsntB, tMeth, tMake, tDGet, sDPut, tFld, sFld, tDisp, tPairs, tNever, decide_true, decide_false, truV_bl, clsV_ty, V.ty.injEq, exists_eq', exists_eq, Bool.not_true, Bool.not_false, Bool.not_not, rLen, rListOf, rTupOf, rAny, rAll, rIsI, tTru, iRng1, iRng2, iList, tYes, cSt, List.drop_succ_cons, List.drop_zero, cxOf_K, cxC_K,  tBM, tBM0, rAppend, tSl, rSlL, tNoPart, tPart, rIxL, rIxT, rCat, List.cons.injEq, rEq_ii, rNe_ii, rEq_bb, rNe_bb, tSeq, exists_and_left, if_false, if_true, reduceIte, Bool.false_eq_true, tIfS, tAnd, tOr, tNot, tTest, tOp, tUn, tVar, tC, rI, rI0, rU, tRet, tRetN, tAsg, gName, tNext, tAndV, tOrV, tNotV, tIf, tCall, tCons, tNil, tCB, tDrop, tLst, tTup, tChain, L2.start, List.map_cons, List.map_nil, List.length_cons, List.length_nil, List.replicate, List.cons_append, List.nil_append, List.getElem?_cons_zero, List.getElem?_cons_succ, List.set_cons_zero, List.set_cons_succ, Option.some.injEq, exists_eq_left', exists_eq_left, V.int.injEq, V.bl.injEq, V.ref.injEq, V.str.injEq, exists_const, and_true, true_and, reduceCtorEq, false_and, exists_false, or_false, false_or, and_assoc, List.append_nil, hc]
        refine ⟨by decide, ?_⟩
        intro p1 n1
        generalize z1 : upd H p1 _ = H1
        obtain ⟨s1, e1⟩ := new_same z1 n1
        have ex1 := s1 _ _ ex
        have ed1 := s1 _ _ ed
        simp (maxSteps := 1000000) only [tFor_eq, tComp_eq, rRngs, rListR, HO.rng.injEq, tDKeys, rSortL, rSortK, ixN_10, ixN_20, ixN_21, ixN_30, ixN_31, ixN_32, ixN_40, ixN_41, ixN_42, ixN_43, ixN_50, ixN_51, ixN_52, ixN_53, ixN_54, rNe_nn, rEq_nn, rNe_in, rEq_in, rNe_ni, rEq_ni, gSeqX, rLeS, rEq_ss, rNe_ss, rStr1, rAllX, rAnyX, rListD, iStr, rSumX, tBL, tBL0, rExtend, rPopAt, rPop, rReverse, rClear, rIsIX, tyX_n, tyX_b, tyX_i, tyX_s, tyX_r, tyO_l, tyO_t, tyO_d, V.ty.injEq, kT_Noin, kT_Nobo, kT_Nost, kT_Noli, kT_Notu, kT_Nodi, kT_boin, kT_bobo, kT_bost, kT_boli, kT_botu, kT_bodi, kT_inin, kT_inbo, kT_inst, kT_inli, kT_intu, kT_indi, kT_stin, kT_stbo, kT_stst, kT_stli, kT_sttu, kT_stdi, kT_liin, kT_libo, kT_list, kT_lili, kT_litu, kT_lidi, kT_tuin, kT_tubo, kT_tust, kT_tuli, kT_tutu, kT_tudi, kT_diin, kT_dibo, kT_dist, kT_dili, kT_ditu, kT_didi, rGet, getO_l, getO_t, getO_di, getO_ds, rLenX, lenX_r, lenX_s', lenO_l, lenO_t, lenO_d, Option.bind_some, tTruX, truX_n, truX_b, truX_i, truX_r, truO_l, truO_t, truO_d, rInX, rNotInX, inO_l', inO_t', inO_di, inO_ds, rSetX, setO_l, setO_di', setO_ds', rSlX, rListX, seqO_l, seqO_t, rTupX, gTupX, gCons, gNil, gSub, atI_0, atI_1, atI_2, atI_3, tDNewK, Nat.reduceSub, upd_same, upd_upd, Nat.reduceLT, HO.lst.injEq, HO.tup.injEq, HO.dK.injEq, HO.ins.injEq, Option.map_some, Option.isSome_some, Int.reduceEq, Int.reduceLT, Int.reduceLE, Nat.reduceAdd, List.isEmpty_nil, List.isEmpty_cons, ne_eq, not_false_eq_true, tDGs, sDPs, rIsB, rIsntB, tMeth, tMake, tDGet, sDPut, tFld, sFld, tDisp, tPairs, tNever, decide_true, decide_false, truV_bl, clsV_ty, V.ty.injEq, exists_eq', exists_eq, Bool.not_true, Bool.not_false, Bool.not_not, rLen, rListOf, rTupOf, rAny, rAll, rIsI, tTru, iRng1, iRng2, iList, tYes, cSt, List.drop_succ_cons, List.drop_zero, cxOf_K, cxC_K,  tBM, tBM0, rAppend, tSl, rSlL, tNoPart, tPart, rIxL, rIxT, rCat, List.cons.injEq, rEq_ii, rNe_ii, rEq_bb, rNe_bb, tSeq, exists_and_left, if_false, if_true, reduceIte, Bool.false_eq_true, tIfS, tAnd, tOr, tNot, tTest, tOp, tUn, tVar, tC, rI, rI0, rU, tRet, tRetN, tAsg, gName, tNext, tAndV, tOrV, tNotV, tIf, tCall, tCons, tNil, tCB, tDrop, tLst, tTup, tChain, L2.start, List.map_cons, List.map_nil, List.length_cons, List.length_nil, List.replicate, List.cons_append, List.nil_append, List.getElem?_cons_zero, List.getElem?_cons_succ, List.set_cons_zero, List.set_cons_succ, Option.some.injEq, exists_eq_left', exists_eq_left, V.int.injEq, V.bl.injEq, V.ref.injEq, V.str.injEq, exists_const, and_true, true_and, reduceCtorEq, false_and, exists_false, or_false, false_or, and_assoc, List.append_nil, ex1, ed1, T_Near.cl, T_Near.no "keep" (by decide), T_Near.no "answers" (by decide), fs_Near_keep, fs_Near_answers, fn_Near___init__, fn_Near_put, fn_Near_is_fresh, fn_Near_find, fn_Near_thin, fl_Near, fp_Near_keep, fp_Near_answers, fq_Near_0, fq_Near_1, hln]
        exact fin p1 H1 s1 e1 (decide_eq_true hc)
      · simp (maxSteps := 1000000) only [tFor_eq, tComp_eq, rRngs, rListR, HO.rng.injEq, tDKeys, rSortL, rSortK, ixN_10, ixN_20, ixN_21, ixN_30, ixN_31, ixN_32, ixN_40, ixN_41, ixN_42, ixN_43, ixN_50, ixN_51, ixN_52, ixN_53, ixN_54, rNe_nn, rEq_nn, rNe_in, rEq_in, rNe_ni, rEq_ni, gSeqX, rLeS, rEq_ss, rNe_ss, rStr1, rAllX, rAnyX, rListD, iStr, rSumX, tBL, tBL0, rExtend, rPopAt, rPop, rReverse, rClear, rIsIX, tyX_n, tyX_b, tyX_i, tyX_s, tyX_r, tyO_l, tyO_t, tyO_d, V.ty.injEq, kT_Noin, kT_Nobo, kT_Nost, kT_Noli, kT_Notu, kT_Nodi, kT_boin, kT_bobo, kT_bost, kT_boli, kT_botu, kT_bodi, kT_inin, kT_inbo, kT_inst, kT_inli, kT_intu, kT_indi, kT_stin, kT_stbo, kT_stst, kT_stli, kT_sttu, kT_stdi, kT_liin, kT_libo, kT_list, kT_lili, kT_litu, kT_lidi, kT_tuin, kT_tubo, kT_tust, kT_tuli, kT_tutu, kT_tudi, kT_diin, kT_dibo, kT_dist, kT_dili, kT_ditu, kT_didi, rGet, getO_l, getO_t, getO_di, getO_ds, rLenX, lenX_r, lenX_s', lenO_l, lenO_t, lenO_d, Option.bind_some, tTruX, truX_n, truX_b, truX_i, truX_r, truO_l, truO_t, truO_d, rInX, rNotInX, inO_l', inO_t', inO_di, inO_ds, rSetX, setO_l, setO_di', setO_ds', rSlX, rListX, seqO_l, seqO_t, rTupX, gTupX, gCons, gNil, gSub, atI_0, atI_1, atI_2, atI_3, tDNewK, Nat.reduceSub, upd_same, upd_upd, Nat.reduceLT, HO.lst.injEq, HO.tup.injEq, HO.dK.injEq, HO.ins.injEq, Option.map_some, Option.isSome_some, Int.reduceEq, Int.reduceLT, Int.reduceLE, Nat.reduceAdd, List.isEmpty_nil, List.isEmpty_cons, ne_eq, not_false_eq_true, tDGs, sDPs, rIsB, rIsntB, tMeth, tMake, tDGet, sDPut, tFld, sFld, tDisp, tPairs, tNever, decide_true, decide_false, truV_bl, clsV_ty, V.ty.injEq, exists_eq', exists_eq, Bool.not_true, Bool.not_false, Bool.not_not, rLen, rListOf, rTupOf, rAny, rAll, rIsI, tTru, iRng1, iRng2, iList, tYes, cSt, List.drop_succ_cons, List.drop_zero, cxOf_K, cxC_K,  tBM, tBM0, rAppend, tSl, rSlL, tNoPart, tPart, rIxL, rIxT, rCat, List.cons.injEq, rEq_ii, rNe_ii, rEq_bb, rNe_bb, tSeq, exists_and_left, if_false, if_true, reduceIte, Bool.false_eq_true, tIfS, tAnd, tOr, tNot, tTest, tOp, tUn, tVar, tC, rI, rI0, rU, tRet, tRetN, tAsg, gName, tNext, tAndV, tOrV, tNotV, tIf, tCall, tCons, tNil, tCB, tDrop, tLst, tTup, tChain, L2.start, List.map_cons, List.map_nil, List.length_cons, List.length_nil, List.replicate, List.cons_append, List.nil_append, List.getElem?_cons_zero, List.getElem?_cons_succ, List.set_cons_zero, List.set_cons_succ, Option.some.injEq, exists_eq_left', exists_eq_left, V.int.injEq, V.bl.injEq, V.ref.injEq, V.str.injEq, exists_const, and_true, true_and, reduceCtorEq, false_and, exists_false, or_false, false_or, and_assoc, List.append_nil, hc]
        have e : newM m z h t = m := by
          funext y
          exact if_neg (fun w => by have := w.2; rw [em] at this; exact hc (of_decide_eq_true this))
        exact q kvs H (by rw [e]; exact O) (by omega) (Keep.refl)
def sp_fresh (C : Addr) : Sp := fun vs H Q _ => ∃ (x dx pg : Addr) (kp t : Int) (z : Str) (h : Option Int) (t0 : Int) (kvs : List (Key × V)) (m : Mp), vs = [.ref x, .str z, .int t] ∧ NearAt C H x dx pg kp kvs m ∧ m z = some (h, t0) ∧ Q (.bl (decide (t - t0 ≤ kp))) H
theorem own_fresh (D : DefM K C "is_fresh" "Near.is_fresh" s_Near_is_fresh) (hb : Blt mg) (T_Near : ClsD K mg "Near" C at_Near) : OwnM P w K mg base 1 C "is_fresh" ["self", "name", "turn"] (sp_fresh C) := by
  refine D.own sc_Near_is_fresh (fun _ _ _ _ _ _ us hl => match us, hl with | [_, _, _], _ => rfl) (fun vs H Q E h => ?_) (fun f cdv A outer s H vs Q E hr h => ?_)
  · obtain ⟨x, dx, pg, kp, t, z, h, t0, kvs, m, rfl, _⟩ := h
    rfl
  · obtain ⟨x, dx, pg, kp, t, z, h, t0, kvs, m, rfl, O, em, q⟩ := h
    have hu := hr.units
    have hu1 : (A.deeper (PyProof.Rows.envOfC "Near.is_fresh" (defScope s_Near_is_fresh) s.heap.objs.size f cdv)).units + 1 < cLine := by omega
    have ex := O.ins
    have ed := O.dic
    have l0 := O.lk z
    rw [em] at l0
    obtain ⟨p, l1, l2⟩ := l0
    refine ⟨_, (@pss_one _ _ _ (@ps_ret _ _ _ _ (@pe_cmpR _ _ _ _ _ _ _ _ op_le (@pe_op _ _ _ _ _ _ _ _ op_sub (@pv _ 2 _ _ (by rfl) (by first | exact Or.inl rfl | exact Or.inr (Or.inl rfl) | exact Or.inr (Or.inr rfl)) (by decide) (by decide)) (@pe_ix _ _ _ _ _ _ _ (ix_get hu1) (@pe_ix _ _ _ _ _ _ _ (ix_get hu1) (@pe_fldK _ K _ _ _ _ (@pv _ 0 _ _ (by rfl) (by first | exact Or.inl rfl | exact Or.inr (Or.inl rfl) | exact Or.inr (Or.inr rfl)) (by decide) (by decide)) (by rfl) (by rfl)) (@pv _ 1 _ _ (by rfl) (by first | exact Or.inl rfl | exact Or.inr (Or.inl rfl) | exact Or.inr (Or.inr rfl)) (by decide) (by decide)) (fun _ _ => rfl)) (@pe_int _ _ _ _) (fun _ _ => rfl))) (@pe_fldK _ K _ _ _ _ (@pv _ 0 _ _ (by rfl) (by first | exact Or.inl rfl | exact Or.inr (Or.inl rfl) | exact Or.inr (Or.inr rfl)) (by decide) (by decide)) (by rfl) (by rfl)) (nomark _)))), ?_⟩
    simp (maxSteps := 1000000) only [tFor_eq, tComp_eq, rRngs, rListR, HO.rng.injEq, tDKeys, rSortL, rSortK, ixN_10, ixN_20, ixN_21, ixN_30, ixN_31, ixN_32, ixN_40, ixN_41, ixN_42, ixN_43, ixN_50, ixN_51, ixN_52, ixN_53, ixN_54, rNe_nn, rEq_nn, rNe_in, rEq_in, rNe_ni, rEq_ni, gSeqX, rLeS, rEq_ss, rNe_ss, rStr1, rAllX, rAnyX, rListD, iStr, rSumX, tBL, tBL0, rExtend, rPopAt, rPop, rReverse, rClear, rIsIX, tyX_n, tyX_b, tyX_i, tyX_s, tyX_r, tyO_l, tyO_t, tyO_d, V.ty.injEq, kT_Noin, kT_Nobo, kT_Nost, kT_Noli, kT_Notu, kT_Nodi, kT_boin, kT_bobo, kT_bost, kT_boli, kT_botu, kT_bodi, kT_inin, kT_inbo, kT_inst, kT_inli, kT_intu, kT_indi, kT_stin, kT_stbo, kT_stst, kT_stli, kT_sttu, kT_stdi, kT_liin, kT_libo, kT_list, kT_lili, kT_litu, kT_lidi, kT_tuin, kT_tubo, kT_tust, kT_tuli, kT_tutu, kT_tudi, kT_diin, kT_dibo, kT_dist, kT_dili, kT_ditu, kT_didi, rGet, getO_l, getO_t, getO_di, getO_ds, rLenX, lenX_r, lenX_s', lenO_l, lenO_t, lenO_d, Option.bind_some, tTruX, truX_n, truX_b, truX_i, truX_r, truO_l, truO_t, truO_d, rInX, rNotInX, inO_l', inO_t', inO_di, inO_ds, rSetX, setO_l, setO_di', setO_ds', rSlX, rListX, seqO_l, seqO_t, rTupX, gTupX, gCons, gNil, gSub, atI_0, atI_1, atI_2, atI_3, tDNewK, Nat.reduceSub, upd_same, upd_upd, Nat.reduceLT, HO.lst.injEq, HO.tup.injEq, HO.dK.injEq, HO.ins.injEq, Option.map_some, Option.isSome_some, Int.reduceEq, Int.reduceLT, Int.reduceLE, Nat.reduceAdd, List.isEmpty_nil, List.isEmpty_cons, ne_eq, not_false_eq_true, tDGs, sDPs, rIsB, rIsntB, tMeth, tMake, tDGet, sDPut, tFld, sFld, tDisp, tPairs, tNever, decide_true, decide_false, truV_bl, clsV_ty, V.ty.injEq, exists_eq', exists_eq, Bool.not_true, Bool.not_false, Bool.not_not, rLen, rListOf, rTupOf, rAny, rAll, rIsI, tTru, iRng1, iRng2, iList, tYes, cSt, List.drop_succ_cons, List.drop_zero, cxOf_K, cxC_K,  tBM, tBM0, rAppend, tSl, rSlL, tNoPart, tPart, rIxL, rIxT, rCat, List.cons.injEq, rEq_ii, rNe_ii, rEq_bb, rNe_bb, tSeq, exists_and_left, if_false, if_true, reduceIte, Bool.false_eq_true, tIfS, tAnd, tOr, tNot, tTest, tOp, tUn, tVar, tC, rI, rI0, rU, tRet, tRetN, tAsg, gName, tNext, tAndV, tOrV, tNotV, tIf, tCall, tCons, tNil, tCB, tDrop, tLst, tTup, tChain, L2.start, List.map_cons, List.map_nil, List.length_cons, List.length_nil, List.replicate, List.cons_append, List.nil_append, List.getElem?_cons_zero, List.getElem?_cons_succ, List.set_cons_zero, List.set_cons_succ, Option.some.injEq, exists_eq_left', exists_eq_left, V.int.injEq, V.bl.injEq, V.ref.injEq, V.str.injEq, exists_const, and_true, true_and, reduceCtorEq, false_and, exists_false, or_false, false_or, and_assoc, List.append_nil, ex, ed, T_Near.cl, T_Near.no "keep" (by decide), T_Near.no "answers" (by decide), fs_Near_keep, fs_Near_answers, fn_Near___init__, fn_Near_put, fn_Near_is_fresh, fn_Near_find, fn_Near_thin, fl_Near, fp_Near_keep, fp_Near_answers, fq_Near_0, fq_Near_1, l1, l2]
    exact q
/-- what is found -/
def fnd (m : Mp) (kp : Int) (z : Str) (t : Int) : Option Int := match m z with
  | none => none
  | some (h, t0) => if t - t0 ≤ kp then h else none
def sp_find (C : Addr) : Sp := fun vs H Q _ => ∃ (x dx pg : Addr) (kp t : Int) (z : Str) (kvs : List (Key × V)) (m : Mp), vs = [.ref x, .str z, .int t] ∧ NearAt C H x dx pg kp kvs m ∧ Q (optV (fnd m kp z t)) H
theorem own_find (D : DefM K C "find" "Near.find" s_Near_find) (hb : Blt mg) (T_Near : ClsD K mg "Near" C at_Near) (M_Near_is_fresh : OwnM P w K mg base 1 C "is_fresh" ["self", "name", "turn"] (sp_fresh C)) : OwnM P w K mg base 2 C "find" ["self", "name", "turn"] (sp_find C) := by
  refine D.own sc_Near_find (fun _ _ _ _ _ _ us hl => match us, hl with | [_, _, _], _ => rfl) (fun vs H Q E h => ?_) (fun f cdv A outer s H vs Q E hr h => ?_)
  · obtain ⟨x, dx, pg, kp, t, z, kvs, m, rfl, _⟩ := h
    rfl
  · obtain ⟨x, dx, pg, kp, t, z, kvs, m, rfl, O, q⟩ := h
    have hu := hr.units
    have hu1 : (A.deeper (PyProof.Rows.envOfC "Near.find" (defScope s_Near_find) s.heap.objs.size f cdv)).units + 1 < cLine := by omega
    have ex := O.ins
    have ed := O.dic
    have l0 := O.lk z
    refine ⟨_, (@pss_cons _ _ _ _ _ (@ps_if _ _ _ _ _ _ _ _ (@PW.pt _ _ _ (@pw_and _ _ _ _ _ _ _ (@pt_cmpR _ _ _ _ _ _ _ _ (op_inX hu1) (@pv _ 1 _ _ (by rfl) (by first | exact Or.inl rfl | exact Or.inr (Or.inl rfl) | exact Or.inr (Or.inr rfl)) (by decide) (by decide)) (@pe_fldK _ K _ _ _ _ (@pv _ 0 _ _ (by rfl) (by first | exact Or.inl rfl | exact Or.inr (Or.inl rfl) | exact Or.inr (Or.inr rfl)) (by decide) (by decide)) (by rfl) (by rfl)) rfl) (@pw_and1 _ _ _ _ (@pt_truX _ _ _ (@pe_mth _ _ _ _ _ _ _ _ _ _ _ _ _ _ _ M_Near_is_fresh T_Near.cl hr (@pv _ 0 _ _ (by rfl) (by first | exact Or.inl rfl | exact Or.inr (Or.inl rfl) | exact Or.inr (Or.inr rfl)) (by decide) (by decide)) (@pa_cX _ _ _ _ _ (@pv _ 1 _ _ (by rfl) (by first | exact Or.inl rfl | exact Or.inr (Or.inl rfl) | exact Or.inr (Or.inr rfl)) (by decide) (by decide)) (@pa_cX _ _ _ _ _ (@pv _ 2 _ _ (by rfl) (by first | exact Or.inl rfl | exact Or.inr (Or.inl rfl) | exact Or.inr (Or.inr rfl)) (by decide) (by decide)) (@pa_nil _) (by rfl)) (by rfl)) (by decide) (by rfl) (by rfl) (by rfl)) (by intro _; rfl))))) (@pss_one _ _ _ (@ps_ret _ _ _ _ (@pe_ix _ _ _ _ _ _ _ (ix_get hu1) (@pe_ix _ _ _ _ _ _ _ (ix_get hu1) (@pe_fldK _ K _ _ _ _ (@pv _ 0 _ _ (by rfl) (by first | exact Or.inl rfl | exact Or.inr (Or.inl rfl) | exact Or.inr (Or.inr rfl)) (by decide) (by decide)) (by rfl) (by rfl)) (@pv _ 1 _ _ (by rfl) (by first | exact Or.inl rfl | exact Or.inr (Or.inl rfl) | exact Or.inr (Or.inr rfl)) (by decide) (by decide)) (fun _ _ => rfl)) (@pe_int _ _ _ _) (fun _ _ => rfl)))) (@pss_nil _)) (@pss_one _ _ _ (@ps_ret _ _ _ _ (@pe_non _ _ _)))), ?_⟩
    simp (maxSteps := 1000000) only [tFor_eq, tComp_eq, rRngs, rListR, HO.rng.injEq, tDKeys, rSortL, rSortK, ixN_10, ixN_20, ixN_21, ixN_30, ixN_31, ixN_32, ixN_40, ixN_41, ixN_42, ixN_43, ixN_50, ixN_51, ixN_52, ixN_53, ixN_54, rNe_nn, rEq_nn, rNe_in, rEq_in, rNe_ni, rEq_ni, gSeqX, rLeS, rEq_ss, rNe_ss, rStr1, rAllX, rAnyX, rListD, iStr, rSumX, tBL, tBL0, rExtend, rPopAt, rPop, rReverse, rClear, rIsIX, tyX_n, tyX_b, tyX_i, tyX_s, tyX_r, tyO_l, tyO_t, tyO_d, V.ty.injEq, kT_Noin, kT_Nobo, kT_Nost, kT_Noli, kT_Notu, kT_Nodi, kT_boin, kT_bobo, kT_bost, kT_boli, kT_botu, kT_bodi, kT_inin, kT_inbo, kT_inst, kT_inli, kT_intu, kT_indi, kT_stin, kT_stbo, kT_stst, kT_stli, kT_sttu, kT_stdi, kT_liin, kT_libo, kT_list, kT_lili, kT_litu, kT_lidi, kT_tuin, kT_tubo, kT_tust, kT_tuli, kT_tutu, kT_tudi, kT_diin, kT_dibo, kT_dist, kT_dili, kT_ditu, kT_didi, rGet, getO_l, getO_t, getO_di, getO_ds, rLenX, lenX_r, lenX_s', lenO_l, lenO_t, lenO_d, Option.bind_some, tTruX, truX_n, truX_b, truX_i, truX_r, truO_l, truO_t, truO_d, rInX, rNotInX, inO_l', inO_t', inO_di, inO_ds, rSetX, setO_l, setO_di', setO_ds', rSlX, rListX, seqO_l, seqO_t, rTupX, gTupX, gCons, gNil, gSub, atI_0, atI_1, atI_2, atI_3, tDNewK, Nat.reduceSub, upd_same, upd_upd, Nat.reduceLT, HO.lst.injEq, HO.tup.injEq, HO.dK.injEq, HO.ins.injEq, Option.map_some, Option.isSome_some, Int.reduceEq, Int.reduceLT, Int.reduceLE, Nat.reduceAdd, List.isEmpty_nil, List.isEmpty_cons, ne_eq, not_false_eq_true, tDGs, sDPs, rIsB, rIsntB, tMeth, tMake, tDGet, sDPut, tFld, sFld, tDisp, tPairs, tNever, decide_true, decide_false, truV_bl, clsV_ty, V.ty.injEq, exists_eq', exists_eq, Bool.not_true, Bool.not_false, Bool.not_not, rLen, rListOf, rTupOf, rAny, rAll, rIsI, tTru, iRng1, iRng2, iList, tYes, cSt, List.drop_succ_cons, List.drop_zero, cxOf_K, cxC_K,  tBM, tBM0, rAppend, tSl, rSlL, tNoPart, tPart, rIxL, rIxT, rCat, List.cons.injEq, rEq_ii, rNe_ii, rEq_bb, rNe_bb, tSeq, exists_and_left, if_false, if_true, reduceIte, Bool.false_eq_true, tIfS, tAnd, tOr, tNot, tTest, tOp, tUn, tVar, tC, rI, rI0, rU, tRet, tRetN, tAsg, gName, tNext, tAndV, tOrV, tNotV, tIf, tCall, tCons, tNil, tCB, tDrop, tLst, tTup, tChain, L2.start, List.map_cons, List.map_nil, List.length_cons, List.length_nil, List.replicate, List.cons_append, List.nil_append, List.getElem?_cons_zero, List.getElem?_cons_succ, List.set_cons_zero, List.set_cons_succ, Option.some.injEq, exists_eq_left', exists_eq_left, V.int.injEq, V.bl.injEq, V.ref.injEq, V.str.injEq, exists_const, and_true, true_and, reduceCtorEq, false_and, exists_false, or_false, false_or, and_assoc, List.append_nil, ex, ed, T_Near.cl, T_Near.no "keep" (by decide), T_Near.no "answers" (by decide), fs_Near_keep, fs_Near_answers, fn_Near___init__, fn_Near_put, fn_Near_is_fresh, fn_Near_find, fn_Near_thin, fl_Near, fp_Near_keep, fp_Near_answers, fq_Near_0, fq_Near_1]
    unfold fnd at q
    cases em : m z with
    | none =>
      rw [em] at l0 q
      have l0 : valV kvs (Sum.inr z) = none := l0
      simp (maxSteps := 1000000) only [tFor_eq, tComp_eq, rRngs, rListR, HO.rng.injEq, tDKeys, rSortL, rSortK, ixN_10, ixN_20, ixN_21, ixN_30, ixN_31, ixN_32, ixN_40, ixN_41, ixN_42, ixN_43, ixN_50, ixN_51, ixN_52, ixN_53, ixN_54, rNe_nn, rEq_nn, rNe_in, rEq_in, rNe_ni, rEq_ni, gSeqX, rLeS, rEq_ss, rNe_ss, rStr1, rAllX, rAnyX, rListD, iStr, rSumX, tBL, tBL0, rExtend, rPopAt, rPop, rReverse, rClear, rIsIX, tyX_n, tyX_b, tyX_i, tyX_s, tyX_r, tyO_l, tyO_t, tyO_d, V.ty.injEq, kT_Noin, kT_Nobo, kT_Nost, kT_Noli, kT_Notu, kT_Nodi, kT_boin, kT_bobo, kT_bost, kT_boli, kT_botu, kT_bodi, kT_inin, kT_inbo, kT_inst, kT_inli, kT_intu, kT_indi, kT_stin, kT_stbo, kT_stst, kT_stli, kT_sttu, kT_stdi, kT_liin, kT_libo, kT_list, kT_lili, kT_litu, kT_lidi, kT_tuin, kT_tubo, kT_tust, kT_tuli, kT_tutu, kT_tudi, kT_diin, kT_dibo, kT_dist, kT_dili, kT_ditu, kT_didi, rGet, getO_l, getO_t, getO_di, getO_ds, rLenX, lenX_r, lenX_s', lenO_l, lenO_t, lenO_d, Option.bind_some, tTruX, truX_n, truX_b, truX_i, truX_r, truO_l, truO_t, truO_d, rInX, rNotInX, inO_l', inO_t', inO_di, inO_ds, rSetX, setO_l, setO_di', setO_ds', rSlX, rListX, seqO_l, seqO_t, rTupX, gTupX, gCons, gNil, gSub, atI_0, atI_1, atI_2, atI_3, tDNewK, Nat.reduceSub, upd_same, upd_upd, Nat.reduceLT, HO.lst.injEq, HO.tup.injEq, HO.dK.injEq, HO.ins.injEq, Option.map_some, Option.isSome_some, Int.reduceEq, Int.reduceLT, Int.reduceLE, Nat.reduceAdd, List.isEmpty_nil, List.isEmpty_cons, ne_eq, not_false_eq_true, tDGs, sDPs, rIsB, rIsntB, tMeth, tMake, tDGet, sDPut, tFld, sFld, tDisp, tPairs, tNever, decide_true, decide_false, truV_bl, clsV_ty, V.ty.injEq, exists_eq', exists_eq, Bool.not_true, Bool.not_false, Bool.not_not, rLen, rListOf, rTupOf, rAny, rAll, rIsI, tTru, iRng1, iRng2, iList, tYes, cSt, List.drop_succ_cons, List.drop_zero, cxOf_K, cxC_K,  tBM, tBM0, rAppend, tSl, rSlL, tNoPart, tPart, rIxL, rIxT, rCat, List.cons.injEq, rEq_ii, rNe_ii, rEq_bb, rNe_bb, tSeq, exists_and_left, if_false, if_true, reduceIte, Bool.false_eq_true, tIfS, tAnd, tOr, tNot, tTest, tOp, tUn, tVar, tC, rI, rI0, rU, tRet, tRetN, tAsg, gName, tNext, tAndV, tOrV, tNotV, tIf, tCall, tCons, tNil, tCB, tDrop, tLst, tTup, tChain, L2.start, List.map_cons, List.map_nil, List.length_cons, List.length_nil, List.replicate, List.cons_append, List.nil_append, List.getElem?_cons_zero, List.getElem?_cons_succ, List.set_cons_zero, List.set_cons_succ, Option.some.injEq, exists_eq_left', exists_eq_left, V.int.injEq, V.bl.injEq, V.ref.injEq, V.str.injEq, exists_const, and_true, true_and, reduceCtorEq, false_and, exists_false, or_false, false_or, and_assoc, List.append_nil, l0, Option.isSome_none]
      exact q
    | some r =>
      obtain ⟨h0, t0⟩ := r
      rw [em] at l0 q
      obtain ⟨p, l1, l2⟩ := l0
      simp (maxSteps := 1000000) only [tFor_eq, tComp_eq, rRngs, rListR, HO.rng.injEq, tDKeys, rSortL, rSortK, ixN_10, ixN_20, ixN_21, ixN_30, ixN_31, ixN_32, ixN_40, ixN_41, ixN_42, ixN_43, ixN_50, ixN_51, ixN_52, ixN_53, ixN_54, rNe_nn, rEq_nn, rNe_in, rEq_in, rNe_ni, rEq_ni, gSeqX, rLeS, rEq_ss, rNe_ss, rStr1, rAllX, rAnyX, rListD, iStr, rSumX, tBL, tBL0, rExtend, rPopAt, rPop, rReverse, rClear, rIsIX, tyX_n, tyX_b, tyX_i, tyX_s, tyX_r, tyO_l, tyO_t, tyO_d, V.ty.injEq, kT_Noin, kT_Nobo, kT_Nost, kT_Noli, kT_Notu, kT_Nodi, kT_boin, kT_bobo, kT_bost, kT_boli, kT_botu, kT_bodi, kT_inin, kT_inbo, kT_inst, kT_inli, kT_intu, kT_indi, kT_stin, kT_stbo, kT_stst, kT_stli, kT_sttu, kT_stdi, kT_liin, kT_libo, kT_list, kT_lili, kT_litu, kT_lidi, kT_tuin, kT_tubo, kT_tust, kT_tuli, kT_tutu, kT_tudi, kT_diin, kT_dibo, kT_dist, kT_dili, kT_ditu, kT_didi, rGet, getO_l, getO_t, getO_di, getO_ds, rLenX, lenX_r, lenX_s', lenO_l, lenO_t, lenO_d, Option.bind_some, tTruX, truX_n, truX_b, truX_i, truX_r, truO_l, truO_t, truO_d, rInX, rNotInX, inO_l', inO_t', inO_di, inO_ds, rSetX, setO_l, setO_di', setO_ds', rSlX, rListX, seqO_l, seqO_t, rTupX, gTupX, gCons, gNil, gSub, atI_0, atI_1, atI_2, atI_3, tDNewK, Nat.reduceSub, upd_same, upd_upd, Nat.reduceLT, HO.lst.injEq, HO.tup.injEq, HO.dK.injEq, HO.ins.injEq, Option.map_some, Option.isSome_some, Int.reduceEq, Int.reduceLT, Int.reduceLE, Nat.reduceAdd, List.isEmpty_nil, List.isEmpty_cons, ne_eq, not_false_eq_true, tDGs, sDPs, rIsB, rIsntB, tMeth, tMake, tDGet, sDPut, tFld, sFld, tDisp, tPairs, tNever, decide_true, decide_false, truV_bl, clsV_ty, V.ty.injEq, exists_eq', exists_eq, Bool.not_true, Bool.not_false, Bool.not_not, rLen, rListOf, rTupOf, rAny, rAll, rIsI, tTru, iRng1, iRng2, iList, tYes, cSt, List.drop_succ_cons, List.drop_zero, cxOf_K, cxC_K,  tBM, tBM0, rAppend, tSl, rSlL, tNoPart, tPart, rIxL, rIxT, rCat, List.cons.injEq, rEq_ii, rNe_ii, rEq_bb, rNe_bb, tSeq, exists_and_left, if_false, if_true, reduceIte, Bool.false_eq_true, tIfS, tAnd, tOr, tNot, tTest, tOp, tUn, tVar, tC, rI, rI0, rU, tRet, tRetN, tAsg, gName, tNext, tAndV, tOrV, tNotV, tIf, tCall, tCons, tNil, tCB, tDrop, tLst, tTup, tChain, L2.start, List.map_cons, List.map_nil, List.length_cons, List.length_nil, List.replicate, List.cons_append, List.nil_append, List.getElem?_cons_zero, List.getElem?_cons_succ, List.set_cons_zero, List.set_cons_succ, Option.some.injEq, exists_eq_left', exists_eq_left, V.int.injEq, V.bl.injEq, V.ref.injEq, V.str.injEq, exists_const, and_true, true_and, reduceCtorEq, false_and, exists_false, or_false, false_or, and_assoc, List.append_nil, l1, l2, Option.isSome_some]
      refine ⟨x, dx, pg, kp, t, z, h0, t0, kvs, m, rfl, O, em, ?_⟩
      by_cases hc : t - t0 ≤ kp
      · simp only [hc, if_true] at q
        simp (maxSteps := 1000000) only [tFor_eq, tComp_eq, rRngs, rListR, HO.rng.injEq, tDKeys, rSortL, rSortK, ixN_10, ixN_20, ixN_21, ixN_30, ixN_31, ixN_32, ixN_40, ixN_41, ixN_42, ixN_43, ixN_50, ixN_51, ixN_52, ixN_53, ixN_54, rNe_nn, rEq_nn, rNe_in, rEq_in, rNe_ni, rEq_ni, gSeqX, rLeS, rEq_ss, rNe_ss, rStr1, rAllX, rAnyX, rListD, iStr, rSumX, tBL, tBL0, rExtend, rPopAt, rPop, rReverse, rClear, rIsIX, tyX_n, tyX_b, tyX_i, tyX_s, tyX_r, tyO_l, tyO_t, tyO_d, V.ty.injEq, kT_Noin, kT_Nobo, kT_Nost, kT_Noli, kT_Notu, kT_Nodi, kT_boin, kT_bobo, kT_bost, kT_boli, kT_botu, kT_bodi, kT_inin, kT_inbo, kT_inst, kT_inli, kT_intu, kT_indi, kT_stin, kT_stbo, kT_stst, kT_stli, kT_sttu, kT_stdi, kT_liin, kT_libo, kT_list, kT_lili, kT_litu, kT_lidi, kT_tuin, kT_tubo, kT_tust, kT_tuli, kT_tutu, kT_tudi, kT_diin, kT_dibo, kT_dist, kT_dili, kT_ditu, kT_didi, rGet, getO_l, getO_t, getO_di, getO_ds, rLenX, lenX_r, lenX_s', lenO_l, lenO_t, lenO_d, Option.bind_some, tTruX, truX_n, truX_b, truX_i, truX_r, truO_l, truO_t, truO_d, rInX, rNotInX, inO_l', inO_t', inO_di, inO_ds, rSetX, setO_l, setO_di', setO_ds', rSlX, rListX, seqO_l, seqO_t, rTupX, gTupX, gCons, gNil, gSub, atI_0, atI_1, atI_2, atI_3, tDNewK, Nat.reduceSub, upd_same, upd_upd, Nat.reduceLT, HO.lst.injEq, HO.tup.injEq, HO.dK.injEq, HO.ins.injEq, Option.map_some, Option.isSome_some, Int.reduceEq, Int.reduceLT, Int.reduceLE, Nat.reduceAdd, List.isEmpty_nil, List.isEmpty_cons, ne_eq, not_false_eq_true, tDGs, sDPs, rIsB, rIsntB, tMeth, tMake, tDGet, sDPut, tFld, sFld, tDisp, tPairs, tNever, decide_true, decide_false, truV_bl, clsV_ty, V.ty.injEq, exists_eq', exists_eq, Bool.not_true, Bool.not_false, Bool.not_not, rLen, rListOf, rTupOf, rAny, rAll, rIsI, tTru, iRng1, iRng2, iList, tYes, cSt, List.drop_succ_cons, List.drop_zero, cxOf_K, cxC_K,  tBM, tBM0, rAppend, tSl, rSlL, tNoPart, tPart, rIxL, rIxT, rCat, List.cons.injEq, rEq_ii, rNe_ii, rEq_bb, rNe_bb, tSeq, exists_and_left, if_false, if_true, reduceIte, Bool.false_eq_true, tIfS, tAnd, tOr, tNot, tTest, tOp, tUn, tVar, tC, rI, rI0, rU, tRet, tRetN, tAsg, gName, tNext, tAndV, tOrV, tNotV, tIf, tCall, tCons, tNil, tCB, tDrop, tLst, tTup, tChain, L2.start, List.map_cons, List.map_nil, List.length_cons, List.length_nil, List.replicate, List.cons_append, List.nil_append, List.getElem?_cons_zero, List.getElem?_cons_succ, List.set_cons_zero, List.set_cons_succ, Option.some.injEq, exists_eq_left', exists_eq_left, V.int.injEq, V.bl.injEq, V.ref.injEq, V.str.injEq, exists_const, and_true, true_and, reduceCtorEq, false_and, exists_false, or_false, false_or, and_assoc, List.append_nil, hc, ex, ed, T_Near.cl, T_Near.no "keep" (by decide), T_Near.no "answers" (by decide), fs_Near_keep, fs_Near_answers, fn_Near___init__, fn_Near_put, fn_Near_is_fresh, fn_Near_find, fn_Near_thin, fl_Near, fp_Near_keep, fp_Near_answers, fq_Near_0, fq_Near_1, l1, l2]
        exact q
      · simp only [hc, if_false] at q
        simp (maxSteps := 1000000) only [tFor_eq, tComp_eq, rRngs, rListR, HO.rng.injEq, tDKeys, rSortL, rSortK, ixN_10, ixN_20, ixN_21, ixN_30, ixN_31, ixN_32, ixN_40, ixN_41, ixN_42, ixN_43, ixN_50, ixN_51, ixN_52, ixN_53, ixN_54, rNe_nn, rEq_nn, rNe_in, rEq_in, rNe_ni, rEq_ni, gSeqX, rLeS, rEq_ss, rNe_ss, rStr1, rAllX, rAnyX, rListD, iStr, rSumX, tBL, tBL0, rExtend, rPopAt, rPop, rReverse, rClear, rIsIX, tyX_n, tyX_b, tyX_i, tyX_s, tyX_r, tyO_l, tyO_t, tyO_d, V.ty.injEq, kT_Noin, kT_Nobo, kT_Nost, kT_Noli, kT_Notu, kT_Nodi, kT_boin, kT_bobo, kT_bost, kT_boli, kT_botu, kT_bodi, kT_inin, kT_inbo, kT_inst, kT_inli, kT_intu, kT_indi, kT_stin, kT_stbo, kT_stst, kT_stli, kT_sttu, kT_stdi, kT_liin, kT_libo, kT_list, kT_lili, kT_litu, kT_lidi, kT_tuin, kT_tubo, kT_tust, kT_tuli, kT_tutu, kT_tudi, kT_diin, kT_dibo, kT_dist, kT_dili, kT_ditu, kT_didi, rGet, getO_l, getO_t, getO_di, getO_ds, rLenX, lenX_r, lenX_s', lenO_l, lenO_t, lenO_d, Option.bind_some, tTruX, truX_n, truX_b, truX_i, truX_r, truO_l, truO_t, truO_d, rInX, rNotInX, inO_l', inO_t', inO_di, inO_ds, rSetX, setO_l, setO_di', setO_ds', rSlX, rListX, seqO_l, seqO_t, rTupX, gTupX, gCons, gNil, gSub, atI_0, atI_1, atI_2, atI_3, tDNewK, Nat.reduceSub, upd_same, upd_upd, Nat.reduceLT, HO.lst.injEq, HO.tup.injEq, HO.dK.injEq, HO.ins.injEq, Option.map_some, Option.isSome_some, Int.reduceEq, Int.reduceLT, Int.reduceLE, Nat.reduceAdd, List.isEmpty_nil, List.isEmpty_cons, ne_eq, not_false_eq_true, tDGs, sDPs, rIsB, rIsntB, tMeth, tMake, tDGet, sDPut, tFld, sFld, tDisp, tPairs, tNever, decide_true, decide_false, truV_bl, clsV_ty, V.ty.injEq, exists_eq', exists_eq, Bool.not_true, Bool.not_false, Bool.not_not, rLen, rListOf, rTupOf, rAny, rAll, rIsI, tTru, iRng1, iRng2, iList, tYes, cSt, List.drop_succ_cons, List.drop_zero, cxOf_K, cxC_K,  tBM, tBM0, rAppend, tSl, rSlL, tNoPart, tPart, rIxL, rIxT, rCat, List.cons.injEq, rEq_ii, rNe_ii, rEq_bb, rNe_bb, tSeq, exists_and_left, if_false, if_true, reduceIte, Bool.false_eq_true, tIfS, tAnd, tOr, tNot, tTest, tOp, tUn, tVar, tC, rI, rI0, rU, tRet, tRetN, tAsg, gName, tNext, tAndV, tOrV, tNotV, tIf, tCall, tCons, tNil, tCB, tDrop, tLst, tTup, tChain, L2.start, List.map_cons, List.map_nil, List.length_cons, List.length_nil, List.replicate, List.cons_append, List.nil_append, List.getElem?_cons_zero, List.getElem?_cons_succ, List.set_cons_zero, List.set_cons_succ, Option.some.injEq, exists_eq_left', exists_eq_left, V.int.injEq, V.bl.injEq, V.ref.injEq, V.str.injEq, exists_const, and_true, true_and, reduceCtorEq, false_and, exists_false, or_false, false_or, and_assoc, List.append_nil, hc]
        exact q
def thin (m : Mp) (kp t : Int) : Mp := fun z => match m z with
  | none => none
  | some (h, t0) => if t - t0 ≤ kp then some (h, t0) else none
open Classical in
noncomputable def thinI (m : Mp) (kp t : Int) (ks : List Key) : Mp := fun z => match m z with
  | none => none
  | some (h, t0) => if (Sum.inr z : Key) ∈ ks ∧ ¬ (t - t0 ≤ kp) then none else some (h, t0)
theorem thinI_nil {m : Mp} {kp t : Int} : thinI m kp t [] = m := by
  funext z
  unfold thinI
  cases e : m z with
  | none => rfl
  | some r => simp
theorem thinI_all {m : Mp} {kp t : Int} {H : Hp} {kvs : List (Key × V)} (l : Lk H kvs m) : thinI m kp t (kvs.map (·.1)) = thin m kp t := by
  funext z
  unfold thinI thin
  have l0 := l z
  cases e : m z with
  | none => rfl
  | some r =>
    rw [e] at l0
    obtain ⟨p, l1, _⟩ := l0
    have hm : (Sum.inr z : Key) ∈ kvs.map (·.1) := by
      rw [valV, Option.map_eq_some_iff] at l1
      obtain ⟨q, hq, _⟩ := l1
      have h1 := List.mem_of_find?_eq_some hq
      have h2 := List.find?_some hq
      exact List.mem_map.mpr ⟨q, h1, of_decide_eq_true h2⟩
    by_cases hc : t - r.2 ≤ kp
    · simp [hm, hc]
    · simp [hm, hc]
theorem thinI_snoc {m : Mp} {kp t : Int} {ks : List Key} {z : Str} : thinI m kp t (ks ++ [Sum.inr z]) = fun y => if y = z then thin m kp t z else thinI m kp t ks y := by
  funext y
  unfold thinI thin
  by_cases hy : y = z
  · subst hy
    rw [if_pos rfl]
    cases m y with
    | none => rfl
    | some r =>
      by_cases hc : t - r.2 ≤ kp
      · simp [hc]
      · simp [hc]
  · rw [if_neg hy]
    cases m y with
    | none => rfl
    | some r =>
      have : ((Sum.inr y : Key) ∈ ks ++ [Sum.inr z]) = ((Sum.inr y : Key) ∈ ks) := by
        apply propext
        rw [List.mem_append, List.mem_singleton]
        constructor
        · rintro (w | w)
          · exact w
          · cases w; exact absurd rfl hy
        · exact .inl
      dsimp only
      by_cases hm : (Sum.inr y : Key) ∈ ks ∧ ¬ (t - r.2 ≤ kp)
      · rw [if_pos hm, if_pos ⟨this ▸ hm.1, hm.2⟩]
      · rw [if_neg hm, if_neg (fun w => hm ⟨this ▸ w.1, w.2⟩)]
theorem valV_of_mem {kvs : List (Key × V)} {k : Key} (h : k ∈ kvs.map (·.1)) : valV kvs k ≠ none := by
  induction kvs with
  | nil => cases h
  | cons p r ih =>
    by_cases e : p.1 = k
    · rw [valV_pos e]; simp
    · rw [valV_neg e]
      rcases List.mem_cons.mp h with z | z
      · exact absurd z.symm e
      · exact ih z
def sp_thin (C : Addr) : Sp := fun vs H Q _ => ∃ (x dx pg : Addr) (kp t : Int) (kvs : List (Key × V)) (m : Mp), vs = [.ref x, .int t] ∧ NearAt C H x dx pg kp kvs m ∧ kvs.length ≤ 1000 ∧
  ∀ kvs' H', NearAt C H' x dx pg kp kvs' (thin m kp t) → kvs'.length ≤ kvs.length → Keep [pg] H H' → Q (.int kvs'.length) H'
def Ln (C x dx pg pl : Addr) (kp t : Int) (kvs : List (Key × V)) (m : Mp) (H : Hp) (i : Nat) (σ : St) (H' : Hp) : Prop := ∃ kvs' v2, σ = [some (.ref x), some (.int t), v2] ∧ NearAt C H' x dx pg kp kvs' (thinI m kp t ((kvs.map (·.1)).take i)) ∧ kvs'.length ≤ kvs.length ∧ Keep [pg] H H' ∧ H' pl = some (.lst (kvs.map fun q => kV q.1))
set_option maxHeartbeats 2000000 in
theorem own_thin (D : DefM K C "thin" "Near.thin" s_Near_thin) (hb : Blt mg) (T_Near : ClsD K mg "Near" C at_Near) (M_Near_is_fresh : OwnM P w K mg base 1 C "is_fresh" ["self", "name", "turn"] (sp_fresh C)) : OwnM P w K mg base 2 C "thin" ["self", "turn"] (sp_thin C) := by
  refine D.own sc_Near_thin (fun _ _ _ _ _ _ us hl => match us, hl with | [_, _], _ => rfl) (fun vs H Q E h => ?_) (fun f cdv A outer s H vs Q E hr h => ?_)
  · obtain ⟨x, dx, pg, kp, t, kvs, m, rfl, _⟩ := h
    rfl
  · obtain ⟨x, dx, pg, kp, t, kvs, m, rfl, O, hl, q⟩ := h
    have hu := hr.units
    have hu1 : (A.deeper (PyProof.Rows.envOfC "Near.thin" (defScope s_Near_thin) s.heap.objs.size f cdv)).units + 1 < cLine := by omega
    have ex := O.ins
    have ed := O.dic
    refine ⟨_, (@pss_cons _ _ _ _ _ (@ps_for _ _ _ _ _ _ _ _ PassesOwn.never rfl (@pi_listK _ K _ _ _ (@pe_callTy _ _ _ _ _ _ _ _ _ (call_listD rfl) rfl (hb _ (by decide)) bt_list (@pa_cX _ _ _ _ _ (@pe_fldK _ K _ _ _ _ (@pv _ 0 _ _ (by rfl) (by first | exact Or.inl rfl | exact Or.inr (Or.inl rfl) | exact Or.inr (Or.inr rfl)) (by decide) (by decide)) (by rfl) (by rfl)) (@pa_nil _) (by rfl)) (by decide) (by decide) (by rfl) (by rfl)) (by rfl)) (@pg_name _ _ 2 _ sc_Near_thin.nd rfl (by first | exact Or.inl rfl | exact Or.inr rfl) (by first | exact .inl rfl | exact .inr rfl | assumption)) (@pss_one _ _ _ (@ps_if _ _ _ _ _ _ _ _ (@pt_not _ _ _ _ (@pt_truX _ _ _ (@pe_mth _ _ _ _ _ _ _ _ _ _ _ _ _ _ _ M_Near_is_fresh T_Near.cl hr (@pv _ 0 _ _ (by rfl) (by first | exact Or.inl rfl | exact Or.inr (Or.inl rfl) | exact Or.inr (Or.inr rfl)) (by decide) (by decide)) (@pa_cX _ _ _ _ _ (@pv _ 2 _ _ (by rfl) (by first | exact Or.inl rfl | exact Or.inr (Or.inl rfl) | exact Or.inr (Or.inr rfl)) (by decide) (by decide)) (@pa_cX _ _ _ _ _ (@pv _ 1 _ _ (by rfl) (by first | exact Or.inl rfl | exact Or.inr (Or.inl rfl) | exact Or.inr (Or.inr rfl)) (by decide) (by decide)) (@pa_nil _) (by rfl)) (by rfl)) (by decide) (by rfl) (by rfl) (by rfl)) (by intro _; rfl))) (@pss_one _ _ _ (@ps_expr _ _ _ _ (@pe_dpop1 _ _ _ _ _ _ _ (@pe_fldK _ K _ _ _ _ (@pv _ 0 _ _ (by rfl) (by first | exact Or.inl rfl | exact Or.inr (Or.inl rfl) | exact Or.inr (Or.inr rfl)) (by decide) (by decide)) (by rfl) (by rfl)) (@pv _ 2 _ _ (by rfl) (by first | exact Or.inl rfl | exact Or.inr (Or.inl rfl) | exact Or.inr (Or.inr rfl)) (by decide) (by decide)) (by constructor <;> rfl)) (by rfl))) (@pss_nil _))) (by intro _; rfl)) (@pss_one _ _ _ (@ps_ret _ _ _ _ (@pe_callB _ _ _ _ _ _ _ _ _ call_lenX rfl (hb _ (by decide)) bt_len (@pa_cX _ _ _ _ _ (@pe_fldK _ K _ _ _ _ (@pv _ 0 _ _ (by rfl) (by first | exact Or.inl rfl | exact Or.inr (Or.inl rfl) | exact Or.inr (Or.inr rfl)) (by decide) (by decide)) (by rfl) (by rfl)) (@pa_nil _) (by rfl)) (by decide) (by decide) (by rfl) (by rfl))))), ?_⟩
    simp (maxSteps := 1000000) only [tFor_eq, tComp_eq, rRngs, rListR, HO.rng.injEq, tDKeys, rSortL, rSortK, ixN_10, ixN_20, ixN_21, ixN_30, ixN_31, ixN_32, ixN_40, ixN_41, ixN_42, ixN_43, ixN_50, ixN_51, ixN_52, ixN_53, ixN_54, rNe_nn, rEq_nn, rNe_in, rEq_in, rNe_ni, rEq_ni, gSeqX, rLeS, rEq_ss, rNe_ss, rStr1, rAllX, rAnyX, rListD, iStr, rSumX, tBL, tBL0, rExtend, rPopAt, rPop, rReverse, rClear, rIsIX, tyX_n, tyX_b, tyX_i, tyX_s, tyX_r, tyO_l, tyO_t, tyO_d, V.ty.injEq, kT_Noin, kT_Nobo, kT_Nost, kT_Noli, kT_Notu, kT_Nodi, kT_boin, kT_bobo, kT_bost, kT_boli, kT_botu, kT_bodi, kT_inin, kT_inbo, kT_inst, kT_inli, kT_intu, kT_indi, kT_stin, kT_stbo, kT_stst, kT_stli, kT_sttu, kT_stdi, kT_liin, kT_libo, kT_list, kT_lili, kT_litu, kT_lidi, kT_tuin, kT_tubo, kT_tust, kT_tuli, kT_tutu, kT_tudi, kT_diin, kT_dibo, kT_dist, kT_dili, kT_ditu, kT_didi, rGet, getO_l, getO_t, getO_di, getO_ds, rLenX, lenX_r, lenX_s', lenO_l, lenO_t, lenO_d, Option.bind_some, tTruX, truX_n, truX_b, truX_i, truX_r, truO_l, truO_t, truO_d, rInX, rNotInX, inO_l', inO_t', inO_di, inO_ds, rSetX, setO_l, setO_di', setO_ds', rSlX, rListX, seqO_l, seqO_t, rTupX, gTupX, gCons, gNil, gSub, atI_0, atI_1, atI_2, atI_3, tDNewK, Nat.reduceSub, upd_same, upd_upd, Nat.reduceLT, HO.lst.injEq, HO.tup.injEq, HO.dK.injEq, HO.ins.injEq, Option.map_some, Option.isSome_some, Int.reduceEq, Int.reduceLT, Int.reduceLE, Nat.reduceAdd, List.isEmpty_nil, List.isEmpty_cons, ne_eq, not_false_eq_true, tDGs, sDPs, rIsB, rIsntB, tMeth, tMake, tDGet, sDPut, tFld, sFld, tDisp, tPairs, tNever, decide_true, decide_false, truV_bl, clsV_ty, V.ty.injEq, exists_eq', exists_eq, Bool.not_true, Bool.not_false, Bool.not_not, rLen, rListOf, rTupOf, rAny, rAll, rIsI, tTru, iRng1, iRng2, iList, tYes, cSt, List.drop_succ_cons, List.drop_zero, cxOf_K, cxC_K,  tBM, tBM0, rAppend, tSl, rSlL, tNoPart, tPart, rIxL, rIxT, rCat, List.cons.injEq, rEq_ii, rNe_ii, rEq_bb, rNe_bb, tSeq, exists_and_left, if_false, if_true, reduceIte, Bool.false_eq_true, tIfS, tAnd, tOr, tNot, tTest, tOp, tUn, tVar, tC, rI, rI0, rU, tRet, tRetN, tAsg, gName, tNext, tAndV, tOrV, tNotV, tIf, tCall, tCons, tNil, tCB, tDrop, tLst, tTup, tChain, L2.start, List.map_cons, List.map_nil, List.length_cons, List.length_nil, List.replicate, List.cons_append, List.nil_append, List.getElem?_cons_zero, List.getElem?_cons_succ, List.set_cons_zero, List.set_cons_succ, Option.some.injEq, exists_eq_left', exists_eq_left, V.int.injEq, V.bl.injEq, V.ref.injEq, V.str.injEq, exists_const, and_true, true_and, reduceCtorEq, false_and, exists_false, or_false, false_or, and_assoc, List.append_nil, ex, ed, T_Near.cl, T_Near.no "keep" (by decide), T_Near.no "answers" (by decide), fs_Near_keep, fs_Near_answers, fn_Near___init__, fn_Near_put, fn_Near_is_fresh, fn_Near_find, fn_Near_thin, fl_Near, fp_Near_keep, fp_Near_answers, fq_Near_0, fq_Near_1, tDPop1]
    intro p1 n1
    generalize z1 : upd H p1 _ = H1
    obtain ⟨s1, e1⟩ := new_same z1 n1
    refine ⟨⟨_, SqL.of e1⟩, for_list (xs := kvs.map fun q => kV q.1) (Ln C x dx pg p1 kp t kvs m H) ?_ ?_ ?_ ?_⟩
    · exact ⟨kvs, none, rfl, by rw [List.take_zero, thinI_nil]; exact O.same s1, Nat.le_refl _, s1.keep, e1⟩
    · rintro i σ H' hi ⟨kvs', v2, rfl, O', hl', k', e'⟩
      exact SqL.of e'
    · rintro i v σ H' hv ⟨kvs', v2, rfl, O', hl', k', e'⟩
      rw [List.getElem?_map] at hv
      obtain ⟨r, hr2, rfl⟩ := Option.map_eq_some_iff.mp hv
      obtain ⟨z, hz⟩ := O.ks r (List.mem_of_getElem? hr2)
      have hi : i < kvs.length := (List.getElem?_eq_some_iff.mp hr2).1
      have hki : (kvs.map (·.1))[i]? = some (Sum.inr z) := by rw [List.getElem?_map, hr2]; exact congrArg some hz
      have hno : (Sum.inr z : Key) ∉ (kvs.map (·.1)).take i := fun hm => by
        obtain ⟨j, hj⟩ := List.getElem?_of_mem hm
        rw [List.getElem?_take] at hj
        split at hj
        · next hji =>
          have hil : i < (kvs.map (·.1)).length := by rw [List.length_map]; exact hi
          have := (List.getElem?_inj hil O.nd).mp (hki.trans hj.symm)
          omega
        · cases hj
      have hmem : (Sum.inr z : Key) ∈ kvs.map (·.1) := List.mem_of_getElem? hki
      obtain ⟨h0, t0, em⟩ : ∃ h0 t0, m z = some (h0, t0) := by
        have l0 := O.lk z
        cases em : m z with
        | none => rw [em] at l0; exact absurd l0 (valV_of_mem hmem)
        | some r => exact ⟨r.1, r.2, rfl⟩
      have em' : thinI m kp t ((kvs.map (·.1)).take i) z = some (h0, t0) := by
        unfold thinI
        rw [em]
        exact if_neg fun w => hno w.1
      have etk : (kvs.map (·.1)).take (i + 1) = (kvs.map (·.1)).take i ++ [Sum.inr z] := by rw [List.take_succ, hki]; rfl
      have ekV : kV r.1 = V.str z := by rw [hz]; rfl
      have ex' := O'.ins
      have ed' := O'.dic
      rw [ekV]
      simp (maxSteps := 1000000) only [tFor_eq, tComp_eq, rRngs, rListR, HO.rng.injEq, tDKeys, rSortL, rSortK, ixN_10, ixN_20, ixN_21, ixN_30, ixN_31, ixN_32, ixN_40, ixN_41, ixN_42, ixN_43, ixN_50, ixN_51, ixN_52, ixN_53, ixN_54, rNe_nn, rEq_nn, rNe_in, rEq_in, rNe_ni, rEq_ni, gSeqX, rLeS, rEq_ss, rNe_ss, rStr1, rAllX, rAnyX, rListD, iStr, rSumX, tBL, tBL0, rExtend, rPopAt, rPop, rReverse, rClear, rIsIX, tyX_n, tyX_b, tyX_i, tyX_s, tyX_r, tyO_l, tyO_t, tyO_d, V.ty.injEq, kT_Noin, kT_Nobo, kT_Nost, kT_Noli, kT_Notu, kT_Nodi, kT_boin, kT_bobo, kT_bost, kT_boli, kT_botu, kT_bodi, kT_inin, kT_inbo, kT_inst, kT_inli, kT_intu, kT_indi, kT_stin, kT_stbo, kT_stst, kT_stli, kT_sttu, kT_stdi, kT_liin, kT_libo, kT_list, kT_lili, kT_litu, kT_lidi, kT_tuin, kT_tubo, kT_tust, kT_tuli, kT_tutu, kT_tudi, kT_diin, kT_dibo, kT_dist, kT_dili, kT_ditu, kT_didi, rGet, getO_l, getO_t, getO_di, getO_ds, rLenX, lenX_r, lenX_s', lenO_l, lenO_t, lenO_d, Option.bind_some, tTruX, truX_n, truX_b, truX_i, truX_r, truO_l, truO_t, truO_d, rInX, rNotInX, inO_l', inO_t', inO_di, inO_ds, rSetX, setO_l, setO_di', setO_ds', rSlX, rListX, seqO_l, seqO_t, rTupX, gTupX, gCons, gNil, gSub, atI_0, atI_1, atI_2, atI_3, tDNewK, Nat.reduceSub, upd_same, upd_upd, Nat.reduceLT, HO.lst.injEq, HO.tup.injEq, HO.dK.injEq, HO.ins.injEq, Option.map_some, Option.isSome_some, Int.reduceEq, Int.reduceLT, Int.reduceLE, Nat.reduceAdd, List.isEmpty_nil, List.isEmpty_cons, ne_eq, not_false_eq_true, tDGs, sDPs, rIsB, rIsntB, tMeth, tMake, tDGet, sDPut, tFld, sFld, tDisp, tPairs, tNever, decide_true, decide_false, truV_bl, clsV_ty, V.ty.injEq, exists_eq', exists_eq, Bool.not_true, Bool.not_false, Bool.not_not, rLen, rListOf, rTupOf, rAny, rAll, rIsI, tTru, iRng1, iRng2, iList, tYes, cSt, List.drop_succ_cons, List.drop_zero, cxOf_K, cxC_K,  tBM, tBM0, rAppend, tSl, rSlL, tNoPart, tPart, rIxL, rIxT, rCat, List.cons.injEq, rEq_ii, rNe_ii, rEq_bb, rNe_bb, tSeq, exists_and_left, if_false, if_true, reduceIte, Bool.false_eq_true, tIfS, tAnd, tOr, tNot, tTest, tOp, tUn, tVar, tC, rI, rI0, rU, tRet, tRetN, tAsg, gName, tNext, tAndV, tOrV, tNotV, tIf, tCall, tCons, tNil, tCB, tDrop, tLst, tTup, tChain, L2.start, List.map_cons, List.map_nil, List.length_cons, List.length_nil, List.replicate, List.cons_append, List.nil_append, List.getElem?_cons_zero, List.getElem?_cons_succ, List.set_cons_zero, List.set_cons_succ, Option.some.injEq, exists_eq_left', exists_eq_left, V.int.injEq, V.bl.injEq, V.ref.injEq, V.str.injEq, exists_const, and_true, true_and, reduceCtorEq, false_and, exists_false, or_false, false_or, and_assoc, List.append_nil, ex', T_Near.cl, T_Near.no "keep" (by decide), T_Near.no "answers" (by decide), fs_Near_keep, fs_Near_answers, fn_Near___init__, fn_Near_put, fn_Near_is_fresh, fn_Near_find, fn_Near_thin, fl_Near, fp_Near_keep, fp_Near_answers, fq_Near_0, fq_Near_1, tDPop1]
      refine ⟨x, dx, pg, kp, t, z, h0, t0, kvs', _, rfl, O', em', ?_⟩
      by_cases hc : t - t0 ≤ kp
      · simp (maxSteps := 1000000) only [tFor_eq, tComp_eq, rRngs, rListR, HO.rng.injEq, tDKeys, rSortL, rSortK, ixN_10, ixN_20, ixN_21, ixN_30, ixN_31, ixN_32, ixN_40, ixN_41, ixN_42, ixN_43, ixN_50, ixN_51, ixN_52, ixN_53, ixN_54, rNe_nn, rEq_nn, rNe_in, rEq_in, rNe_ni, rEq_ni, gSeqX, rLeS, rEq_ss, rNe_ss, rStr1, rAllX, rAnyX, rListD, iStr, rSumX, tBL, tBL0, rExtend, rPopAt, rPop, rReverse, rClear, rIsIX, tyX_n, tyX_b, tyX_i, tyX_s, tyX_r, tyO_l, tyO_t, tyO_d, V.ty.injEq, kT_Noin, kT_Nobo, kT_Nost, kT_Noli, kT_Notu, kT_Nodi, kT_boin, kT_bobo, kT_bost, kT_boli, kT_botu, kT_bodi, kT_inin, kT_inbo, kT_inst, kT_inli, kT_intu, kT_indi, kT_stin, kT_stbo, kT_stst, kT_stli, kT_sttu, kT_stdi, kT_liin, kT_libo, kT_list, kT_lili, kT_litu, kT_lidi, kT_tuin, kT_tubo, kT_tust, kT_tuli, kT_tutu, kT_tudi, kT_diin, kT_dibo, kT_dist, kT_dili, kT_ditu, kT_didi, rGet, getO_l, getO_t, getO_di, getO_ds, rLenX, lenX_r, lenX_s', lenO_l, lenO_t, lenO_d, Option.bind_some, tTruX, truX_n, truX_b, truX_i, truX_r, truO_l, truO_t, truO_d, rInX, rNotInX, inO_l', inO_t', inO_di, inO_ds, rSetX, setO_l, setO_di', setO_ds', rSlX, rListX, seqO_l, seqO_t, rTupX, gTupX, gCons, gNil, gSub, atI_0, atI_1, atI_2, atI_3, tDNewK, Nat.reduceSub, upd_same, upd_upd, Nat.reduceLT, HO.lst.injEq, HO.tup.injEq, HO.dK.injEq, HO.ins.injEq, Option.map_some, Option.isSome_some, Int.reduceEq, Int.reduceLT, Int.reduceLE, Nat.reduceAdd, List.isEmpty_nil, List.isEmpty_cons, ne_eq, not_false_eq_true, tDGs, sDPs, rIsB, rIsntB, tMeth, tMake, tDGet, sDPut, tFld, sFld, tDisp, tPairs, tNever, decide_true, decide_false, truV_bl, clsV_ty, V.ty.injEq, exists_eq', exists_eq, Bool.not_true, Bool.not_false, Bool.not_not, rLen, rListOf, rTupOf, rAny, rAll, rIsI, tTru, iRng1, iRng2, iList, tYes, cSt, List.drop_succ_cons, List.drop_zero, cxOf_K, cxC_K,  tBM, tBM0, rAppend, tSl, rSlL, tNoPart, tPart, rIxL, rIxT, rCat, List.cons.injEq, rEq_ii, rNe_ii, rEq_bb, rNe_bb, tSeq, exists_and_left, if_false, if_true, reduceIte, Bool.false_eq_true, tIfS, tAnd, tOr, tNot, tTest, tOp, tUn, tVar, tC, rI, rI0, rU, tRet, tRetN, tAsg, gName, tNext, tAndV, tOrV, tNotV, tIf, tCall, tCons, tNil, tCB, tDrop, tLst, tTup, tChain, L2.start, List.map_cons, List.map_nil, List.length_cons, List.length_nil, List.replicate, List.cons_append, List.nil_append, List.getElem?_cons_zero, List.getElem?_cons_succ, List.set_cons_zero, List.set_cons_succ, Option.some.injEq, exists_eq_left', exists_eq_left, V.int.injEq, V.bl.injEq, V.ref.injEq, V.str.injEq, exists_const, and_true, true_and, reduceCtorEq, false_and, exists_false, or_false, false_or, and_assoc, List.append_nil, hc]
        refine ⟨kvs', _, rfl, ?_, hl', k', e'⟩
        have : thinI m kp t ((kvs.map (·.1)).take (i + 1)) = thinI m kp t ((kvs.map (·.1)).take i) := by
          rw [etk, thinI_snoc]
          funext y
          by_cases hy : y = z
          · subst hy
            rw [if_pos rfl, em']
            unfold thin
            rw [em]
            exact if_pos hc
          · rw [if_neg hy]
        rw [this]
        exact O'
      · simp (maxSteps := 1000000) only [tFor_eq, tComp_eq, rRngs, rListR, HO.rng.injEq, tDKeys, rSortL, rSortK, ixN_10, ixN_20, ixN_21, ixN_30, ixN_31, ixN_32, ixN_40, ixN_41, ixN_42, ixN_43, ixN_50, ixN_51, ixN_52, ixN_53, ixN_54, rNe_nn, rEq_nn, rNe_in, rEq_in, rNe_ni, rEq_ni, gSeqX, rLeS, rEq_ss, rNe_ss, rStr1, rAllX, rAnyX, rListD, iStr, rSumX, tBL, tBL0, rExtend, rPopAt, rPop, rReverse, rClear, rIsIX, tyX_n, tyX_b, tyX_i, tyX_s, tyX_r, tyO_l, tyO_t, tyO_d, V.ty.injEq, kT_Noin, kT_Nobo, kT_Nost, kT_Noli, kT_Notu, kT_Nodi, kT_boin, kT_bobo, kT_bost, kT_boli, kT_botu, kT_bodi, kT_inin, kT_inbo, kT_inst, kT_inli, kT_intu, kT_indi, kT_stin, kT_stbo, kT_stst, kT_stli, kT_sttu, kT_stdi, kT_liin, kT_libo, kT_list, kT_lili, kT_litu, kT_lidi, kT_tuin, kT_tubo, kT_tust, kT_tuli, kT_tutu, kT_tudi, kT_diin, kT_dibo, kT_dist, kT_dili, kT_ditu, kT_didi, rGet, getO_l, getO_t, getO_di, getO_ds, rLenX, lenX_r, lenX_s', lenO_l, lenO_t, lenO_d, Option.bind_some, tTruX, truX_n, truX_b, truX_i, truX_r, truO_l, truO_t, truO_d, rInX, rNotInX, inO_l', inO_t', inO_di, inO_ds, rSetX, setO_l, setO_di', setO_ds', rSlX, rListX, seqO_l, seqO_t, rTupX, gTupX, gCons, gNil, gSub, atI_0, atI_1, atI_2, atI_3, tDNewK, Nat.reduceSub, upd_same, upd_upd, Nat.reduceLT, HO.lst.injEq, HO.tup.injEq, HO.dK.injEq, HO.ins.injEq, Option.map_some, Option.isSome_some, Int.reduceEq, Int.reduceLT, Int.reduceLE, Nat.reduceAdd, List.isEmpty_nil, List.isEmpty_cons, ne_eq, not_false_eq_true, tDGs, sDPs, rIsB, rIsntB, tMeth, tMake, tDGet, sDPut, tFld, sFld, tDisp, tPairs, tNever, decide_true, decide_false, truV_bl, clsV_ty, V.ty.injEq, exists_eq', exists_eq, Bool.not_true, Bool.not_false, Bool.not_not, rLen, rListOf, rTupOf, rAny, rAll, rIsI, tTru, iRng1, iRng2, iList, tYes, cSt, List.drop_succ_cons, List.drop_zero, cxOf_K, cxC_K,  tBM, tBM0, rAppend, tSl, rSlL, tNoPart, tPart, rIxL, rIxT, rCat, List.cons.injEq, rEq_ii, rNe_ii, rEq_bb, rNe_bb, tSeq, exists_and_left, if_false, if_true, reduceIte, Bool.false_eq_true, tIfS, tAnd, tOr, tNot, tTest, tOp, tUn, tVar, tC, rI, rI0, rU, tRet, tRetN, tAsg, gName, tNext, tAndV, tOrV, tNotV, tIf, tCall, tCons, tNil, tCB, tDrop, tLst, tTup, tChain, L2.start, List.map_cons, List.map_nil, List.length_cons, List.length_nil, List.replicate, List.cons_append, List.nil_append, List.getElem?_cons_zero, List.getElem?_cons_succ, List.set_cons_zero, List.set_cons_succ, Option.some.injEq, exists_eq_left', exists_eq_left, V.int.injEq, V.bl.injEq, V.ref.injEq, V.str.injEq, exists_const, and_true, true_and, reduceCtorEq, false_and, exists_false, or_false, false_or, and_assoc, List.append_nil, hc, ex', ed', T_Near.cl, T_Near.no "keep" (by decide), T_Near.no "answers" (by decide), fs_Near_keep, fs_Near_answers, fn_Near___init__, fn_Near_put, fn_Near_is_fresh, fn_Near_find, fn_Near_thin, fl_Near, fp_Near_keep, fp_Near_answers, fq_Near_0, fq_Near_1]
        have l1 := O'.lk z
        rw [em'] at l1
        obtain ⟨p, l2, l3⟩ := l1
        refine ⟨.inl ⟨_, .inl ed'⟩, Sum.inr z, rfl, _, l2, dropK kvs' (Sum.inr z), _, rfl, ?_, Nat.le_trans (dropK_le _ _) hl', k'.upd (.inl (.head _)), ?_⟩
        · have nxg : x ≠ pg := ne_of ex' ed' (by intro z; cases z)
          refine ⟨by rw [upd_ne nxg]; exact ex', upd_same, fun y => ?_, nd_dropK O'.nd, fun r hr => O'.ks r (dropK_mem hr)⟩
          rw [etk, thinI_snoc]
          by_cases hy : y = z
          · subst hy
            have : thin m kp t y = none := by
              unfold thin
              rw [em]
              exact if_neg hc
            simp only [if_true, this]
            rw [valV_drop, if_pos rfl]
          · simp only [hy, if_false]
            have l4 := O'.lk y
            cases ey : thinI m kp t ((kvs.map (·.1)).take i) y with
            | none =>
              rw [ey] at l4
              show valV _ _ = none
              rw [valV_drop]
              split
              · rfl
              · exact l4
            | some r2 =>
              rw [ey] at l4
              obtain ⟨p2, h1, h2⟩ := l4
              exact ⟨p2, by rw [valV_drop, if_neg (by intro w; cases w; exact hy rfl)]; exact h1, by rw [upd_ne (ne_of h2 ed' (by intro z; cases z))]; exact h2⟩
        · rw [upd_ne (ne_of e' ed' (by intro z; cases z))]
          exact e'
    · rintro σ H' ⟨kvs', v2, rfl, O', hl', k', e'⟩
      have ex' := O'.ins
      have ed' := O'.dic
      rw [List.take_of_length_le (by simp), thinI_all O.lk] at O'
      simp (maxSteps := 1000000) only [tFor_eq, tComp_eq, rRngs, rListR, HO.rng.injEq, tDKeys, rSortL, rSortK, ixN_10, ixN_20, ixN_21, ixN_30, ixN_31, ixN_32, ixN_40, ixN_41, ixN_42, ixN_43, ixN_50, ixN_51, ixN_52, ixN_53, ixN_54, rNe_nn, rEq_nn, rNe_in, rEq_in, rNe_ni, rEq_ni, gSeqX, rLeS, rEq_ss, rNe_ss, rStr1, rAllX, rAnyX, rListD, iStr, rSumX, tBL, tBL0, rExtend, rPopAt, rPop, rReverse, rClear, rIsIX, tyX_n, tyX_b, tyX_i, tyX_s, tyX_r, tyO_l, tyO_t, tyO_d, V.ty.injEq, kT_Noin, kT_Nobo, kT_Nost, kT_Noli, kT_Notu, kT_Nodi, kT_boin, kT_bobo, kT_bost, kT_boli, kT_botu, kT_bodi, kT_inin, kT_inbo, kT_inst, kT_inli, kT_intu, kT_indi, kT_stin, kT_stbo, kT_stst, kT_stli, kT_sttu, kT_stdi, kT_liin, kT_libo, kT_list, kT_lili, kT_litu, kT_lidi, kT_tuin, kT_tubo, kT_tust, kT_tuli, kT_tutu, kT_tudi, kT_diin, kT_dibo, kT_dist, kT_dili, kT_ditu, kT_didi, rGet, getO_l, getO_t, getO_di, getO_ds, rLenX, lenX_r, lenX_s', lenO_l, lenO_t, lenO_d, Option.bind_some, tTruX, truX_n, truX_b, truX_i, truX_r, truO_l, truO_t, truO_d, rInX, rNotInX, inO_l', inO_t', inO_di, inO_ds, rSetX, setO_l, setO_di', setO_ds', rSlX, rListX, seqO_l, seqO_t, rTupX, gTupX, gCons, gNil, gSub, atI_0, atI_1, atI_2, atI_3, tDNewK, Nat.reduceSub, upd_same, upd_upd, Nat.reduceLT, HO.lst.injEq, HO.tup.injEq, HO.dK.injEq, HO.ins.injEq, Option.map_some, Option.isSome_some, Int.reduceEq, Int.reduceLT, Int.reduceLE, Nat.reduceAdd, List.isEmpty_nil, List.isEmpty_cons, ne_eq, not_false_eq_true, tDGs, sDPs, rIsB, rIsntB, tMeth, tMake, tDGet, sDPut, tFld, sFld, tDisp, tPairs, tNever, decide_true, decide_false, truV_bl, clsV_ty, V.ty.injEq, exists_eq', exists_eq, Bool.not_true, Bool.not_false, Bool.not_not, rLen, rListOf, rTupOf, rAny, rAll, rIsI, tTru, iRng1, iRng2, iList, tYes, cSt, List.drop_succ_cons, List.drop_zero, cxOf_K, cxC_K,  tBM, tBM0, rAppend, tSl, rSlL, tNoPart, tPart, rIxL, rIxT, rCat, List.cons.injEq, rEq_ii, rNe_ii, rEq_bb, rNe_bb, tSeq, exists_and_left, if_false, if_true, reduceIte, Bool.false_eq_true, tIfS, tAnd, tOr, tNot, tTest, tOp, tUn, tVar, tC, rI, rI0, rU, tRet, tRetN, tAsg, gName, tNext, tAndV, tOrV, tNotV, tIf, tCall, tCons, tNil, tCB, tDrop, tLst, tTup, tChain, L2.start, List.map_cons, List.map_nil, List.length_cons, List.length_nil, List.replicate, List.cons_append, List.nil_append, List.getElem?_cons_zero, List.getElem?_cons_succ, List.set_cons_zero, List.set_cons_succ, Option.some.injEq, exists_eq_left', exists_eq_left, V.int.injEq, V.bl.injEq, V.ref.injEq, V.str.injEq, exists_const, and_true, true_and, reduceCtorEq, false_and, exists_false, or_false, false_or, and_assoc, List.append_nil, ex', ed', T_Near.cl, T_Near.no "keep" (by decide), T_Near.no "answers" (by decide), fs_Near_keep, fs_Near_answers, fn_Near___init__, fn_Near_put, fn_Near_is_fresh, fn_Near_find, fn_Near_thin, fl_Near, fp_Near_keep, fp_Near_answers, fq_Near_0, fq_Near_1]
      exact q kvs' H' O' hl' k'
end
end
end K57
namespace K57
open PySem L2
section
variable {P : Program} {w : World} {K : PySem.W.Frag} {mg : Str → Option Value} {base : Heap}
abbrev s__law_draw : Stmt := top 3
theorem sc__law_draw : FnScope ["_law_cell"] ["_law_cell"] (defScope s__law_draw) := ⟨rfl, rfl, rfl, by decide +kernel, rfl, by decide +kernel, by decide +kernel⟩
abbrev s__law_next : Stmt := top 4
theorem sc__law_next : FnScope ["_law_draw_here", "_law_size", "_law_digit", "_law_number"] ["_law_draw_here", "_law_size"] (defScope s__law_next) := ⟨rfl, rfl, rfl, by decide +kernel, rfl, by decide +kernel, by decide +kernel⟩
abbrev s__law_best : Stmt := top 5
theorem sc__law_best : FnScope ["_law_answers", "_law_name", "_law_found_here", "_law_row"] ["_law_answers", "_law_name"] (defScope s__law_best) := ⟨rfl, rfl, rfl, by decide +kernel, rfl, by decide +kernel, by decide +kernel⟩
abbrev s__law_due : Stmt := top 6
theorem sc__law_due : FnScope ["_law_answers", "_law_name", "_law_turn", "_law_keep", "_law_best_here"] ["_law_answers", "_law_name", "_law_turn", "_law_keep"] (defScope s__law_due) := ⟨rfl, rfl, rfl, by decide +kernel, rfl, by decide +kernel, by decide +kernel⟩
abbrev s__law_found : Stmt := top 8
theorem sc__law_found : FnScope ["_law_near", "_law_answers", "_law_names", "_law_turn", "_law_keep"] ["_law_near", "_law_answers", "_law_names", "_law_turn", "_law_keep"] (defScope s__law_found) := ⟨rfl, rfl, rfl, by decide +kernel, rfl, by decide +kernel, by decide +kernel⟩
theorem cs__law_found_0 : CScope ["_law_one"] ["_law_answers", "_law_keep", "_law_near", "_law_turn"] { kind := .function, names := [(".0", .local), ("_law_one", .local), ("_law_due", .globalImplicit), ("_law_answers", .free), ("_law_keep", .free), ("_law_near", .free), ("_law_turn", .free)], isGenerator := false, isCoroutine := false, more := [] } (defScope s__law_found) := ⟨rfl, by decide +kernel, by decide +kernel, by decide +kernel, by decide +kernel, by decide +kernel⟩
abbrev s__law_answer : Stmt := top 9
theorem sc__law_answer : FnScope ["_law_draw_here", "_law_name", "_law_now", "_law_keep", "_law_back"] ["_law_draw_here", "_law_name", "_law_now", "_law_keep"] (defScope s__law_answer) := ⟨rfl, rfl, rfl, by decide +kernel, rfl, by decide +kernel, by decide +kernel⟩
def sp_draw : Sp := fun vs H Q _ => ∃ c : Int, vs = [.int c] ∧ ∀ (p : Addr) (a b : Int) H', H p = none → H' p = some (.lst [.int a, .int b]) → Same H H' → Q (.ref p) H'
theorem own_draw (D : Def K mg "_law_draw" s__law_draw) : Own P w K mg base 1 "_law_draw" ["_law_cell"] sp_draw := by
  refine D.own sc__law_draw (fun _ _ _ _ _ _ us hl => match us, hl with | [_], _ => rfl) (fun vs H Q E h => ?_) (fun f cdv A outer s H vs Q E hr h => ?_)
  · obtain ⟨c, rfl, _⟩ := h
    rfl
  · obtain ⟨c, rfl, q⟩ := h
    refine ⟨_, (@pss_one _ _ _ (@ps_ret _ _ _ _ (@pe_lst _ _ _ _ (@pa_cX _ _ _ _ _ (@pe_op _ _ _ _ _ _ _ _ op_mul (@pe_op _ _ _ _ _ _ _ _ op_fdiv (@pv _ 0 _ _ (by rfl) (by first | exact Or.inl rfl | exact Or.inr (Or.inl rfl) | exact Or.inr (Or.inr rfl)) (by decide) (by decide)) (@pe_int _ _ _ _)) (@pe_op _ _ _ _ _ _ _ _ op_sub (@pe_int _ _ _ _) (@pe_op _ _ _ _ _ _ _ _ op_mod (@pv _ 0 _ _ (by rfl) (by first | exact Or.inl rfl | exact Or.inr (Or.inl rfl) | exact Or.inr (Or.inr rfl)) (by decide) (by decide)) (@pe_int _ _ _ _)))) (@pa_cX _ _ _ _ _ (@pv _ 0 _ _ (by rfl) (by first | exact Or.inl rfl | exact Or.inr (Or.inl rfl) | exact Or.inr (Or.inr rfl)) (by decide) (by decide)) (@pa_nil _) (by rfl)) (by rfl))))), ?_⟩
    simp (maxSteps := 1000000) only [tFor_eq, tComp_eq, rRngs, rListR, HO.rng.injEq, tDKeys, rSortL, rSortK, ixN_10, ixN_20, ixN_21, ixN_30, ixN_31, ixN_32, ixN_40, ixN_41, ixN_42, ixN_43, ixN_50, ixN_51, ixN_52, ixN_53, ixN_54, rNe_nn, rEq_nn, rNe_in, rEq_in, rNe_ni, rEq_ni, gSeqX, rLeS, rEq_ss, rNe_ss, rStr1, rAllX, rAnyX, rListD, iStr, rSumX, tBL, tBL0, rExtend, rPopAt, rPop, rReverse, rClear, rIsIX, tyX_n, tyX_b, tyX_i, tyX_s, tyX_r, tyO_l, tyO_t, tyO_d, V.ty.injEq, kT_Noin, kT_Nobo, kT_Nost, kT_Noli, kT_Notu, kT_Nodi, kT_boin, kT_bobo, kT_bost, kT_boli, kT_botu, kT_bodi, kT_inin, kT_inbo, kT_inst, kT_inli, kT_intu, kT_indi, kT_stin, kT_stbo, kT_stst, kT_stli, kT_sttu, kT_stdi, kT_liin, kT_libo, kT_list, kT_lili, kT_litu, kT_lidi, kT_tuin, kT_tubo, kT_tust, kT_tuli, kT_tutu, kT_tudi, kT_diin, kT_dibo, kT_dist, kT_dili, kT_ditu, kT_didi, rGet, getO_l, getO_t, getO_di, getO_ds, rLenX, lenX_r, lenX_s', lenO_l, lenO_t, lenO_d, Option.bind_some, tTruX, truX_n, truX_b, truX_i, truX_r, truO_l, truO_t, truO_d, rInX, rNotInX, inO_l', inO_t', inO_di, inO_ds, rSetX, setO_l, setO_di', setO_ds', rSlX, rListX, seqO_l, seqO_t, rTupX, gTupX, gCons, gNil, gSub, atI_0, atI_1, atI_2, atI_3, tDNewK, Nat.reduceSub, upd_same, upd_upd, Nat.reduceLT, HO.lst.injEq, HO.tup.injEq, HO.dK.injEq, HO.ins.injEq, Option.map_some, Option.isSome_some, Int.reduceEq, Int.reduceLT, Int.reduceLE, Nat.reduceAdd, List.isEmpty_nil, List.isEmpty_cons, ne_eq, not_false_eq_true, tDGs, sDPs, rIsB, rIsntB, tMeth, tMake, tDGet, sDPut, tFld, sFld, tDisp, tPairs, tNever, decide_true, decide_false, truV_bl, clsV_ty, V.ty.injEq, exists_eq', exists_eq, Bool.not_true, Bool.not_false, Bool.not_not, rLen, rListOf, rTupOf, rAny, rAll, rIsI, tTru, iRng1, iRng2, iList, tYes, cSt, List.drop_succ_cons, List.drop_zero, cxOf_K, cxC_K,  tBM, tBM0, rAppend, tSl, rSlL, tNoPart, tPart, rIxL, rIxT, rCat, List.cons.injEq, rEq_ii, rNe_ii, rEq_bb, rNe_bb, tSeq, exists_and_left, if_false, if_true, reduceIte, Bool.false_eq_true, tIfS, tAnd, tOr, tNot, tTest, tOp, tUn, tVar, tC, rI, rI0, rU, tRet, tRetN, tAsg, gName, tNext, tAndV, tOrV, tNotV, tIf, tCall, tCons, tNil, tCB, tDrop, tLst, tTup, tChain, L2.start, List.map_cons, List.map_nil, List.length_cons, List.length_nil, List.replicate, List.cons_append, List.nil_append, List.getElem?_cons_zero, List.getElem?_cons_succ, List.set_cons_zero, List.set_cons_succ, Option.some.injEq, exists_eq_left', exists_eq_left, V.int.injEq, V.bl.injEq, V.ref.injEq, V.str.injEq, exists_const, and_true, true_and, reduceCtorEq, false_and, exists_false, or_false, false_or, and_assoc, List.append_nil]
    refine ⟨⟨by decide, by decide⟩, .inr ⟨by omega, by omega⟩, by decide, fun p hp => q p _ _ _ hp upd_same (Same.upd_new hp)⟩
def sp_next : Sp := fun vs H Q _ => ∃ (p : Addr) (a b n : Int), vs = [.ref p, .int n] ∧ H p = some (.lst [.int a, .int b]) ∧ 1 ≤ n ∧ n < 2 ^ 200 ∧ ∀ (r a' b' : Int), 0 ≤ r → r < n → Q (.int r) (upd H p (.lst [.int a', .int b']))
theorem own_next (D : Def K mg "_law_next" s__law_next) : Own P w K mg base 1 "_law_next" ["_law_draw_here", "_law_size"] sp_next := by
  refine D.own sc__law_next (fun _ _ _ _ _ _ us hl => match us, hl with | [_, _], _ => rfl) (fun vs H Q E h => ?_) (fun f cdv A outer s H vs Q E hr h => ?_)
  · obtain ⟨p, a, b, n, rfl, _⟩ := h
    rfl
  · obtain ⟨p, a, b, n, rfl, ep, h1, h2, q⟩ := h
    have hu := hr.units
    have hu1 : (A.deeper (PyProof.Rows.envOfC "_law_next" (defScope s__law_next) s.heap.objs.size f cdv)).units + 1 < cLine := by omega
    refine ⟨_, (@pss_cons _ _ _ _ _ (@ps_asg _ _ _ _ _ _ (@pe_op _ _ _ _ _ _ _ _ op_mod (@pe_op _ _ _ _ _ _ _ _ op_add (@pe_op _ _ _ _ _ _ _ _ op_mul (@pe_ix _ _ _ _ _ _ _ (ix_get hu1) (@pv _ 0 _ _ (by rfl) (by first | exact Or.inl rfl | exact Or.inr (Or.inl rfl) | exact Or.inr (Or.inr rfl)) (by decide) (by decide)) (@pe_int _ _ _ _) (fun _ _ => rfl)) (@pe_int _ _ _ _)) (@pe_int _ _ _ _)) (@pe_int _ _ _ _)) (@pg_sub _ _ _ _ _ _ _ (@pv _ 0 _ _ (by rfl) (by first | exact Or.inl rfl | exact Or.inr (Or.inl rfl) | exact Or.inr (Or.inr rfl)) (by decide) (by decide)) (@pe_int _ _ _ _) (@set_x _ hu1) (by intro _; rfl)) (by rfl) (by rfl) (by rfl)) (@pss_cons _ _ _ _ _ (@ps_if _ _ _ _ _ _ _ _ (@pt_cmpR _ _ _ _ _ _ _ _ op_gt (@pe_ix _ _ _ _ _ _ _ (ix_get hu1) (@pv _ 0 _ _ (by rfl) (by first | exact Or.inl rfl | exact Or.inr (Or.inl rfl) | exact Or.inr (Or.inr rfl)) (by decide) (by decide)) (@pe_int _ _ _ _) (fun _ _ => rfl)) (@pe_int _ _ _ _) (nomark _)) (@pss_cons _ _ _ _ _ (@ps_set _ _ 2 _ _ _ _ sc__law_next.nd rfl (by first | exact Or.inl rfl | exact Or.inr rfl) (@pe_op _ _ _ _ _ _ _ _ op_mod (@pe_ix _ _ _ _ _ _ _ (ix_get hu1) (@pv _ 0 _ _ (by rfl) (by first | exact Or.inl rfl | exact Or.inr (Or.inl rfl) | exact Or.inr (Or.inr rfl)) (by decide) (by decide)) (@pe_int _ _ _ _) (fun _ _ => rfl)) (@pv _ 1 _ _ (by rfl) (by first | exact Or.inl rfl | exact Or.inr (Or.inl rfl) | exact Or.inr (Or.inr rfl)) (by decide) (by decide))) (by rfl) (by first | exact .inl rfl | exact .inr rfl | assumption)) (@pss_cons _ _ _ _ _ (@ps_asg _ _ _ _ _ _ (@pe_op _ _ _ _ _ _ _ _ op_fdivW (@pe_ix _ _ _ _ _ _ _ (ix_get hu1) (@pv _ 0 _ _ (by rfl) (by first | exact Or.inl rfl | exact Or.inr (Or.inl rfl) | exact Or.inr (Or.inr rfl)) (by decide) (by decide)) (@pe_int _ _ _ _) (fun _ _ => rfl)) (@pv _ 1 _ _ (by rfl) (by first | exact Or.inl rfl | exact Or.inr (Or.inl rfl) | exact Or.inr (Or.inr rfl)) (by decide) (by decide))) (@pg_sub _ _ _ _ _ _ _ (@pv _ 0 _ _ (by rfl) (by first | exact Or.inl rfl | exact Or.inr (Or.inl rfl) | exact Or.inr (Or.inr rfl)) (by decide) (by decide)) (@pe_int _ _ _ _) (@set_x _ hu1) (by intro _; rfl)) (by rfl) (by rfl) (by rfl)) (@pss_one _ _ _ (@ps_ret _ _ _ _ (@pv _ 2 _ _ (by rfl) (by first | exact Or.inl rfl | exact Or.inr (Or.inl rfl) | exact Or.inr (Or.inr rfl)) (by decide) (by decide)))))) (@pss_nil _)) (@pss_cons _ _ _ _ _ (@ps_set _ _ 3 _ _ _ _ sc__law_next.nd rfl (by first | exact Or.inl rfl | exact Or.inr rfl) (@pe_op _ _ _ _ _ _ _ _ op_mod (@pe_op _ _ _ _ _ _ _ _ op_mul (@pe_ix _ _ _ _ _ _ _ (ix_get hu1) (@pv _ 0 _ _ (by rfl) (by first | exact Or.inl rfl | exact Or.inr (Or.inl rfl) | exact Or.inr (Or.inr rfl)) (by decide) (by decide)) (@pe_int _ _ _ _) (fun _ _ => rfl)) (@pe_op _ _ _ _ _ _ _ _ op_add (@pe_op _ _ _ _ _ _ _ _ op_fdiv (@pe_ix _ _ _ _ _ _ _ (ix_get hu1) (@pv _ 0 _ _ (by rfl) (by first | exact Or.inl rfl | exact Or.inr (Or.inl rfl) | exact Or.inr (Or.inr rfl)) (by decide) (by decide)) (@pe_int _ _ _ _) (fun _ _ => rfl)) (@pe_int _ _ _ _)) (@pe_int _ _ _ _))) (@pe_int _ _ _ _)) (by rfl) (by first | exact .inl rfl | exact .inr rfl | assumption)) (@pss_one _ _ _ (@ps_ret _ _ _ _ (@pe_op _ _ _ _ _ _ _ _ op_mod (@pe_op _ _ _ _ _ _ _ _ op_mod (@pe_op _ _ _ _ _ _ _ _ op_mul (@pv _ 3 _ _ (by rfl) (by first | exact Or.inl rfl | exact Or.inr (Or.inl rfl) | exact Or.inr (Or.inr rfl)) (by decide) (by decide)) (@pe_op _ _ _ _ _ _ _ _ op_add (@pe_op _ _ _ _ _ _ _ _ op_fdiv (@pv _ 3 _ _ (by rfl) (by first | exact Or.inl rfl | exact Or.inr (Or.inl rfl) | exact Or.inr (Or.inr rfl)) (by decide) (by decide)) (@pe_int _ _ _ _)) (@pe_int _ _ _ _))) (@pe_int _ _ _ _)) (@pv _ 1 _ _ (by rfl) (by first | exact Or.inl rfl | exact Or.inr (Or.inl rfl) | exact Or.inr (Or.inr rfl)) (by decide) (by decide)))))))), ?_⟩
    simp (maxSteps := 1000000) only [tFor_eq, tComp_eq, rRngs, rListR, HO.rng.injEq, tDKeys, rSortL, rSortK, ixN_10, ixN_20, ixN_21, ixN_30, ixN_31, ixN_32, ixN_40, ixN_41, ixN_42, ixN_43, ixN_50, ixN_51, ixN_52, ixN_53, ixN_54, rNe_nn, rEq_nn, rNe_in, rEq_in, rNe_ni, rEq_ni, gSeqX, rLeS, rEq_ss, rNe_ss, rStr1, rAllX, rAnyX, rListD, iStr, rSumX, tBL, tBL0, rExtend, rPopAt, rPop, rReverse, rClear, rIsIX, tyX_n, tyX_b, tyX_i, tyX_s, tyX_r, tyO_l, tyO_t, tyO_d, V.ty.injEq, kT_Noin, kT_Nobo, kT_Nost, kT_Noli, kT_Notu, kT_Nodi, kT_boin, kT_bobo, kT_bost, kT_boli, kT_botu, kT_bodi, kT_inin, kT_inbo, kT_inst, kT_inli, kT_intu, kT_indi, kT_stin, kT_stbo, kT_stst, kT_stli, kT_sttu, kT_stdi, kT_liin, kT_libo, kT_list, kT_lili, kT_litu, kT_lidi, kT_tuin, kT_tubo, kT_tust, kT_tuli, kT_tutu, kT_tudi, kT_diin, kT_dibo, kT_dist, kT_dili, kT_ditu, kT_didi, rGet, getO_l, getO_t, getO_di, getO_ds, rLenX, lenX_r, lenX_s', lenO_l, lenO_t, lenO_d, Option.bind_some, tTruX, truX_n, truX_b, truX_i, truX_r, truO_l, truO_t, truO_d, rInX, rNotInX, inO_l', inO_t', inO_di, inO_ds, rSetX, setO_l, setO_di', setO_ds', rSlX, rListX, seqO_l, seqO_t, rTupX, gTupX, gCons, gNil, gSub, atI_0, atI_1, atI_2, atI_3, tDNewK, Nat.reduceSub, upd_same, upd_upd, Nat.reduceLT, HO.lst.injEq, HO.tup.injEq, HO.dK.injEq, HO.ins.injEq, Option.map_some, Option.isSome_some, Int.reduceEq, Int.reduceLT, Int.reduceLE, Nat.reduceAdd, List.isEmpty_nil, List.isEmpty_cons, ne_eq, not_false_eq_true, tDGs, sDPs, rIsB, rIsntB, tMeth, tMake, tDGet, sDPut, tFld, sFld, tDisp, tPairs, tNever, decide_true, decide_false, truV_bl, clsV_ty, V.ty.injEq, exists_eq', exists_eq, Bool.not_true, Bool.not_false, Bool.not_not, rLen, rListOf, rTupOf, rAny, rAll, rIsI, tTru, iRng1, iRng2, iList, tYes, cSt, List.drop_succ_cons, List.drop_zero, cxOf_K, cxC_K,  tBM, tBM0, rAppend, tSl, rSlL, tNoPart, tPart, rIxL, rIxT, rCat, List.cons.injEq, rEq_ii, rNe_ii, rEq_bb, rNe_bb, tSeq, exists_and_left, if_false, if_true, reduceIte, Bool.false_eq_true, tIfS, tAnd, tOr, tNot, tTest, tOp, tUn, tVar, tC, rI, rI0, rU, tRet, tRetN, tAsg, gName, tNext, tAndV, tOrV, tNotV, tIf, tCall, tCons, tNil, tCB, tDrop, tLst, tTup, tChain, L2.start, List.map_cons, List.map_nil, List.length_cons, List.length_nil, List.replicate, List.cons_append, List.nil_append, List.getElem?_cons_zero, List.getElem?_cons_succ, List.set_cons_zero, List.set_cons_succ, Option.some.injEq, exists_eq_left', exists_eq_left, V.int.injEq, V.bl.injEq, V.ref.injEq, V.str.injEq, exists_const, and_true, true_and, reduceCtorEq, false_and, exists_false, or_false, false_or, and_assoc, List.append_nil, ep]
    have hb1 : 0 ≤ (b * 48271 + 11) % 2147483647 ∧ (b * 48271 + 11) % 2147483647 < 2147483647 := ⟨Int.emod_nonneg _ (by decide), Int.emod_lt_of_pos _ (by decide)⟩
    generalize (b * 48271 + 11) % 2147483647 = b1 at hb1 ⊢
    refine ⟨.inr ⟨by decide, by decide⟩, ?_⟩
    refine ite2 (fun ha => ⟨by omega, cdivw_of (by omega) h2, q (a % n) (a / n) b1 (Int.emod_nonneg _ (by omega)) (Int.emod_lt_of_pos _ (by omega))⟩) (fun ha => ⟨⟨by decide, by decide⟩, .inl ⟨by omega, by omega⟩, ⟨by decide, by decide⟩, cmul_mod (by decide) (by decide), by omega, q _ a b1 (Int.emod_nonneg _ (by omega)) (Int.emod_lt_of_pos _ (by omega))⟩)
/-! ### what the law keeps -/
abbrev Rw := Str × Option Int × Int
def RwV (H : Hp) (v : V) (r : Rw) : Prop := ∃ p, v = .ref p ∧ H p = some (.tup [.str r.1, optV r.2.1, .int r.2.2])
def stp (z : Str) (acc : Option Rw) (r : Rw) : Option Rw := if r.1 = z ∧ (match acc with | none => true | some a => decide (a.2.2 < r.2.2)) = true then some r else acc
def best (rs : List Rw) (z : Str) : Option Rw := rs.foldl (stp z) none
def RwO (H : Hp) (v : V) : Option Rw → Prop
  | none => v = .non
  | some r => RwV H v r
def sp_best : Sp := fun vs H Q _ => ∃ (pa : Addr) (xs : List V) (rs : List Rw) (z : Str), vs = [.ref pa, .str z] ∧ H pa = some (.lst xs) ∧ Paired (RwV H) xs rs ∧ xs.length ≤ 1000 ∧ ∀ v, RwO H v (best rs z) → Q v H
def Lb (H : Hp) (pa : Addr) (z : Str) (rs : List Rw) (i : Nat) (σ : St) (H' : Hp) : Prop := ∃ v v3, σ = [some (.ref pa), some (.str z), some v, v3] ∧ RwO H v (best (rs.take i) z) ∧ H' = H
theorem own_best (D : Def K mg "_law_best" s__law_best) : Own P w K mg base 1 "_law_best" ["_law_answers", "_law_name"] sp_best := by
  refine D.own sc__law_best (fun _ _ _ _ _ _ us hl => match us, hl with | [_, _], _ => rfl) (fun vs H Q E h => ?_) (fun f cdv A outer s H vs Q E hr h => ?_)
  · obtain ⟨pa, xs, rs, z, rfl, _⟩ := h
    rfl
  · obtain ⟨pa, xs, rs, z, rfl, ea, m, hl, q⟩ := h
    have hu := hr.units
    have hu1 : (A.deeper (PyProof.Rows.envOfC "_law_best" (defScope s__law_best) s.heap.objs.size f cdv)).units + 1 < cLine := by omega
    refine ⟨_, (@pss_cons _ _ _ _ _ (@ps_set _ _ 2 _ _ _ _ sc__law_best.nd rfl (by first | exact Or.inl rfl | exact Or.inr rfl) (@pe_non _ _ _) (by rfl) (by first | exact .inl rfl | exact .inr rfl | assumption)) (@pss_cons _ _ _ _ _ (@ps_for _ _ _ _ _ _ _ _ PassesOwn.never rfl (@pi_listK _ K _ _ _ (@pv _ 0 _ _ (by rfl) (by first | exact Or.inl rfl | exact Or.inr (Or.inl rfl) | exact Or.inr (Or.inr rfl)) (by decide) (by decide)) (by rfl)) (@pg_name _ _ 3 _ sc__law_best.nd rfl (by first | exact Or.inl rfl | exact Or.inr rfl) (by first | exact .inl rfl | exact .inr rfl | assumption)) (@pss_one _ _ _ (@ps_if _ _ _ _ _ _ _ _ (@PW.pt _ _ _ (@pw_and _ _ _ _ _ _ _ (@pt_cmpR _ _ _ _ _ _ _ _ op_eq (@pe_ix _ _ _ _ _ _ _ (ix_get hu1) (@pv _ 3 _ _ (by rfl) (by first | exact Or.inl rfl | exact Or.inr (Or.inl rfl) | exact Or.inr (Or.inr rfl)) (by decide) (by decide)) (@pe_int _ _ _ _) (fun _ _ => rfl)) (@pv _ 1 _ _ (by rfl) (by first | exact Or.inl rfl | exact Or.inr (Or.inl rfl) | exact Or.inr (Or.inr rfl)) (by decide) (by decide)) (nomark _)) (@pw_and1 _ _ _ _ (@PW.pt _ _ _ (@pw_or _ _ _ _ _ _ _ (@pt_cmpR _ _ _ _ _ _ _ _ op_isN (@pv _ 2 _ _ (by rfl) (by first | exact Or.inl rfl | exact Or.inr (Or.inl rfl) | exact Or.inr (Or.inr rfl)) (by decide) (by decide)) (@pe_non _ _ _) (nomark _)) (@pw_or1 _ _ _ _ (@pt_cmpR _ _ _ _ _ _ _ _ op_gt (@pe_ix _ _ _ _ _ _ _ (ix_get hu1) (@pv _ 3 _ _ (by rfl) (by first | exact Or.inl rfl | exact Or.inr (Or.inl rfl) | exact Or.inr (Or.inr rfl)) (by decide) (by decide)) (@pe_int _ _ _ _) (fun _ _ => rfl)) (@pe_ix _ _ _ _ _ _ _ (ix_get hu1) (@pv _ 2 _ _ (by rfl) (by first | exact Or.inl rfl | exact Or.inr (Or.inl rfl) | exact Or.inr (Or.inr rfl)) (by decide) (by decide)) (@pe_int _ _ _ _) (fun _ _ => rfl)) (nomark _)))))))) (@pss_one _ _ _ (@ps_set _ _ 2 _ _ _ _ sc__law_best.nd rfl (by first | exact Or.inl rfl | exact Or.inr rfl) (@pv _ 3 _ _ (by rfl) (by first | exact Or.inl rfl | exact Or.inr (Or.inl rfl) | exact Or.inr (Or.inr rfl)) (by decide) (by decide)) (by rfl) (by first | exact .inl rfl | exact .inr rfl | assumption))) (@pss_nil _))) (by intro _; rfl)) (@pss_one _ _ _ (@ps_ret _ _ _ _ (@pv _ 2 _ _ (by rfl) (by first | exact Or.inl rfl | exact Or.inr (Or.inl rfl) | exact Or.inr (Or.inr rfl)) (by decide) (by decide)))))), ?_⟩
    simp (maxSteps := 1000000) only [tFor_eq, tComp_eq, rRngs, rListR, HO.rng.injEq, tDKeys, rSortL, rSortK, ixN_10, ixN_20, ixN_21, ixN_30, ixN_31, ixN_32, ixN_40, ixN_41, ixN_42, ixN_43, ixN_50, ixN_51, ixN_52, ixN_53, ixN_54, rNe_nn, rEq_nn, rNe_in, rEq_in, rNe_ni, rEq_ni, gSeqX, rLeS, rEq_ss, rNe_ss, rStr1, rAllX, rAnyX, rListD, iStr, rSumX, tBL, tBL0, rExtend, rPopAt, rPop, rReverse, rClear, rIsIX, tyX_n, tyX_b, tyX_i, tyX_s, tyX_r, tyO_l, tyO_t, tyO_d, V.ty.injEq, kT_Noin, kT_Nobo, kT_Nost, kT_Noli, kT_Notu, kT_Nodi, kT_boin, kT_bobo, kT_bost, kT_boli, kT_botu, kT_bodi, kT_inin, kT_inbo, kT_inst, kT_inli, kT_intu, kT_indi, kT_stin, kT_stbo, kT_stst, kT_stli, kT_sttu, kT_stdi, kT_liin, kT_libo, kT_list, kT_lili, kT_litu, kT_lidi, kT_tuin, kT_tubo, kT_tust, kT_tuli, kT_tutu, kT_tudi, kT_diin, kT_dibo, kT_dist, kT_dili, kT_ditu, kT_didi, rGet, getO_l, getO_t, getO_di, getO_ds, rLenX, lenX_r, lenX_s', lenO_l, lenO_t, lenO_d, Option.bind_some, tTruX, truX_n, truX_b, truX_i, truX_r, truO_l, truO_t, truO_d, rInX, rNotInX, inO_l', inO_t', inO_di, inO_ds, rSetX, setO_l, setO_di', setO_ds', rSlX, rListX, seqO_l, seqO_t, rTupX, gTupX, gCons, gNil, gSub, atI_0, atI_1, atI_2, atI_3, tDNewK, Nat.reduceSub, upd_same, upd_upd, Nat.reduceLT, HO.lst.injEq, HO.tup.injEq, HO.dK.injEq, HO.ins.injEq, Option.map_some, Option.isSome_some, Int.reduceEq, Int.reduceLT, Int.reduceLE, Nat.reduceAdd, List.isEmpty_nil, List.isEmpty_cons, ne_eq, not_false_eq_true, tDGs, sDPs, rIsB, rIsntB, tMeth, tMake, tDGet, sDPut, tFld, sFld, tDisp, tPairs, tNever, decide_true, decide_false, truV_bl, clsV_ty, V.ty.injEq, exists_eq', exists_eq, Bool.not_true, Bool.not_false, Bool.not_not, rLen, rListOf, rTupOf, rAny, rAll, rIsI, tTru, iRng1, iRng2, iList, tYes, cSt, List.drop_succ_cons, List.drop_zero, cxOf_K, cxC_K,  tBM, tBM0, rAppend, tSl, rSlL, tNoPart, tPart, rIxL, rIxT, rCat, List.cons.injEq, rEq_ii, rNe_ii, rEq_bb, rNe_bb, tSeq, exists_and_left, if_false, if_true, reduceIte, Bool.false_eq_true, tIfS, tAnd, tOr, tNot, tTest, tOp, tUn, tVar, tC, rI, rI0, rU, tRet, tRetN, tAsg, gName, tNext, tAndV, tOrV, tNotV, tIf, tCall, tCons, tNil, tCB, tDrop, tLst, tTup, tChain, L2.start, List.map_cons, List.map_nil, List.length_cons, List.length_nil, List.replicate, List.cons_append, List.nil_append, List.getElem?_cons_zero, List.getElem?_cons_succ, List.set_cons_zero, List.set_cons_succ, Option.some.injEq, exists_eq_left', exists_eq_left, V.int.injEq, V.bl.injEq, V.ref.injEq, V.str.injEq, exists_const, and_true, true_and, reduceCtorEq, false_and, exists_false, or_false, false_or, and_assoc, List.append_nil, ea]
    refine ⟨⟨_, SqL.of ea⟩, for_list (xs := xs) (Lb H pa z rs) ⟨_, _, rfl, rfl, rfl⟩ ?_ ?_ ?_⟩
    · rintro i σ H' hi ⟨v, v3, rfl, hv, rfl⟩
      exact SqL.of ea
    · rintro i rv σ H' hrv ⟨v, v3, rfl, hv, rfl⟩
      obtain ⟨r, hr2, p, rfl, ep⟩ := paired_get m hrv
      have etk : rs.take (i + 1) = rs.take i ++ [r] := by rw [List.take_succ, hr2]; rfl
      have eb : best (rs.take (i + 1)) z = stp z (best (rs.take i) z) r := by
        unfold best
        rw [etk, List.foldl_append]
        rfl
      have hrv' : RwV H' (.ref p) r := ⟨p, rfl, ep⟩
      simp (maxSteps := 1000000) only [tFor_eq, tComp_eq, rRngs, rListR, HO.rng.injEq, tDKeys, rSortL, rSortK, ixN_10, ixN_20, ixN_21, ixN_30, ixN_31, ixN_32, ixN_40, ixN_41, ixN_42, ixN_43, ixN_50, ixN_51, ixN_52, ixN_53, ixN_54, rNe_nn, rEq_nn, rNe_in, rEq_in, rNe_ni, rEq_ni, gSeqX, rLeS, rEq_ss, rNe_ss, rStr1, rAllX, rAnyX, rListD, iStr, rSumX, tBL, tBL0, rExtend, rPopAt, rPop, rReverse, rClear, rIsIX, tyX_n, tyX_b, tyX_i, tyX_s, tyX_r, tyO_l, tyO_t, tyO_d, V.ty.injEq, kT_Noin, kT_Nobo, kT_Nost, kT_Noli, kT_Notu, kT_Nodi, kT_boin, kT_bobo, kT_bost, kT_boli, kT_botu, kT_bodi, kT_inin, kT_inbo, kT_inst, kT_inli, kT_intu, kT_indi, kT_stin, kT_stbo, kT_stst, kT_stli, kT_sttu, kT_stdi, kT_liin, kT_libo, kT_list, kT_lili, kT_litu, kT_lidi, kT_tuin, kT_tubo, kT_tust, kT_tuli, kT_tutu, kT_tudi, kT_diin, kT_dibo, kT_dist, kT_dili, kT_ditu, kT_didi, rGet, getO_l, getO_t, getO_di, getO_ds, rLenX, lenX_r, lenX_s', lenO_l, lenO_t, lenO_d, Option.bind_some, tTruX, truX_n, truX_b, truX_i, truX_r, truO_l, truO_t, truO_d, rInX, rNotInX, inO_l', inO_t', inO_di, inO_ds, rSetX, setO_l, setO_di', setO_ds', rSlX, rListX, seqO_l, seqO_t, rTupX, gTupX, gCons, gNil, gSub, atI_0, atI_1, atI_2, atI_3, tDNewK, Nat.reduceSub, upd_same, upd_upd, Nat.reduceLT, HO.lst.injEq, HO.tup.injEq, HO.dK.injEq, HO.ins.injEq, Option.map_some, Option.isSome_some, Int.reduceEq, Int.reduceLT, Int.reduceLE, Nat.reduceAdd, List.isEmpty_nil, List.isEmpty_cons, ne_eq, not_false_eq_true, tDGs, sDPs, rIsB, rIsntB, tMeth, tMake, tDGet, sDPut, tFld, sFld, tDisp, tPairs, tNever, decide_true, decide_false, truV_bl, clsV_ty, V.ty.injEq, exists_eq', exists_eq, Bool.not_true, Bool.not_false, Bool.not_not, rLen, rListOf, rTupOf, rAny, rAll, rIsI, tTru, iRng1, iRng2, iList, tYes, cSt, List.drop_succ_cons, List.drop_zero, cxOf_K, cxC_K,  tBM, tBM0, rAppend, tSl, rSlL, tNoPart, tPart, rIxL, rIxT, rCat, List.cons.injEq, rEq_ii, rNe_ii, rEq_bb, rNe_bb, tSeq, exists_and_left, if_false, if_true, reduceIte, Bool.false_eq_true, tIfS, tAnd, tOr, tNot, tTest, tOp, tUn, tVar, tC, rI, rI0, rU, tRet, tRetN, tAsg, gName, tNext, tAndV, tOrV, tNotV, tIf, tCall, tCons, tNil, tCB, tDrop, tLst, tTup, tChain, L2.start, List.map_cons, List.map_nil, List.length_cons, List.length_nil, List.replicate, List.cons_append, List.nil_append, List.getElem?_cons_zero, List.getElem?_cons_succ, List.set_cons_zero, List.set_cons_succ, Option.some.injEq, exists_eq_left', exists_eq_left, V.int.injEq, V.bl.injEq, V.ref.injEq, V.str.injEq, exists_const, and_true, true_and, reduceCtorEq, false_and, exists_false, or_false, false_or, and_assoc, List.append_nil, ep]
      refine ite2 (fun hz => ?_) (fun hz => ?_)
      · have hz' := of_decide_eq_true hz
        cases em : best (rs.take i) z with
        | none =>
          rw [em] at hv
          have hv : v = .non := hv
          subst hv
          refine iteT ⟨_, _, rfl, ?_, rfl⟩
          rw [eb, em]
          unfold stp
          rw [if_pos ⟨hz', rfl⟩]
          exact hrv'
        | some a =>
          rw [em] at hv
          obtain ⟨p2, rfl, e2⟩ := hv
          simp (maxSteps := 1000000) only [tFor_eq, tComp_eq, rRngs, rListR, HO.rng.injEq, tDKeys, rSortL, rSortK, ixN_10, ixN_20, ixN_21, ixN_30, ixN_31, ixN_32, ixN_40, ixN_41, ixN_42, ixN_43, ixN_50, ixN_51, ixN_52, ixN_53, ixN_54, rNe_nn, rEq_nn, rNe_in, rEq_in, rNe_ni, rEq_ni, gSeqX, rLeS, rEq_ss, rNe_ss, rStr1, rAllX, rAnyX, rListD, iStr, rSumX, tBL, tBL0, rExtend, rPopAt, rPop, rReverse, rClear, rIsIX, tyX_n, tyX_b, tyX_i, tyX_s, tyX_r, tyO_l, tyO_t, tyO_d, V.ty.injEq, kT_Noin, kT_Nobo, kT_Nost, kT_Noli, kT_Notu, kT_Nodi, kT_boin, kT_bobo, kT_bost, kT_boli, kT_botu, kT_bodi, kT_inin, kT_inbo, kT_inst, kT_inli, kT_intu, kT_indi, kT_stin, kT_stbo, kT_stst, kT_stli, kT_sttu, kT_stdi, kT_liin, kT_libo, kT_list, kT_lili, kT_litu, kT_lidi, kT_tuin, kT_tubo, kT_tust, kT_tuli, kT_tutu, kT_tudi, kT_diin, kT_dibo, kT_dist, kT_dili, kT_ditu, kT_didi, rGet, getO_l, getO_t, getO_di, getO_ds, rLenX, lenX_r, lenX_s', lenO_l, lenO_t, lenO_d, Option.bind_some, tTruX, truX_n, truX_b, truX_i, truX_r, truO_l, truO_t, truO_d, rInX, rNotInX, inO_l', inO_t', inO_di, inO_ds, rSetX, setO_l, setO_di', setO_ds', rSlX, rListX, seqO_l, seqO_t, rTupX, gTupX, gCons, gNil, gSub, atI_0, atI_1, atI_2, atI_3, tDNewK, Nat.reduceSub, upd_same, upd_upd, Nat.reduceLT, HO.lst.injEq, HO.tup.injEq, HO.dK.injEq, HO.ins.injEq, Option.map_some, Option.isSome_some, Int.reduceEq, Int.reduceLT, Int.reduceLE, Nat.reduceAdd, List.isEmpty_nil, List.isEmpty_cons, ne_eq, not_false_eq_true, tDGs, sDPs, rIsB, rIsntB, tMeth, tMake, tDGet, sDPut, tFld, sFld, tDisp, tPairs, tNever, decide_true, decide_false, truV_bl, clsV_ty, V.ty.injEq, exists_eq', exists_eq, Bool.not_true, Bool.not_false, Bool.not_not, rLen, rListOf, rTupOf, rAny, rAll, rIsI, tTru, iRng1, iRng2, iList, tYes, cSt, List.drop_succ_cons, List.drop_zero, cxOf_K, cxC_K,  tBM, tBM0, rAppend, tSl, rSlL, tNoPart, tPart, rIxL, rIxT, rCat, List.cons.injEq, rEq_ii, rNe_ii, rEq_bb, rNe_bb, tSeq, exists_and_left, if_false, if_true, reduceIte, Bool.false_eq_true, tIfS, tAnd, tOr, tNot, tTest, tOp, tUn, tVar, tC, rI, rI0, rU, tRet, tRetN, tAsg, gName, tNext, tAndV, tOrV, tNotV, tIf, tCall, tCons, tNil, tCB, tDrop, tLst, tTup, tChain, L2.start, List.map_cons, List.map_nil, List.length_cons, List.length_nil, List.replicate, List.cons_append, List.nil_append, List.getElem?_cons_zero, List.getElem?_cons_succ, List.set_cons_zero, List.set_cons_succ, Option.some.injEq, exists_eq_left', exists_eq_left, V.int.injEq, V.bl.injEq, V.ref.injEq, V.str.injEq, exists_const, and_true, true_and, reduceCtorEq, false_and, exists_false, or_false, false_or, and_assoc, List.append_nil, e2]
          refine ite2 (fun hc => ⟨_, _, rfl, ?_, rfl⟩) (fun hc => ⟨_, _, rfl, ?_, rfl⟩)
          · rw [eb, em]
            unfold stp
            rw [if_pos ⟨hz', hc⟩]
            exact hrv'
          · rw [eb, em]
            unfold stp
            rw [if_neg (fun w => hc w.2)]
            exact ⟨p2, rfl, e2⟩
      · refine ⟨_, _, rfl, ?_, rfl⟩
        rw [eb]
        unfold stp
        rw [if_neg (fun w => hz (decide_eq_true w.1))]
        exact hv
    · rintro σ H' ⟨v, v3, rfl, hv, rfl⟩
      have hlr := m.length
      rw [List.take_of_length_le (by omega)] at hv
      simp (maxSteps := 1000000) only [tFor_eq, tComp_eq, rRngs, rListR, HO.rng.injEq, tDKeys, rSortL, rSortK, ixN_10, ixN_20, ixN_21, ixN_30, ixN_31, ixN_32, ixN_40, ixN_41, ixN_42, ixN_43, ixN_50, ixN_51, ixN_52, ixN_53, ixN_54, rNe_nn, rEq_nn, rNe_in, rEq_in, rNe_ni, rEq_ni, gSeqX, rLeS, rEq_ss, rNe_ss, rStr1, rAllX, rAnyX, rListD, iStr, rSumX, tBL, tBL0, rExtend, rPopAt, rPop, rReverse, rClear, rIsIX, tyX_n, tyX_b, tyX_i, tyX_s, tyX_r, tyO_l, tyO_t, tyO_d, V.ty.injEq, kT_Noin, kT_Nobo, kT_Nost, kT_Noli, kT_Notu, kT_Nodi, kT_boin, kT_bobo, kT_bost, kT_boli, kT_botu, kT_bodi, kT_inin, kT_inbo, kT_inst, kT_inli, kT_intu, kT_indi, kT_stin, kT_stbo, kT_stst, kT_stli, kT_sttu, kT_stdi, kT_liin, kT_libo, kT_list, kT_lili, kT_litu, kT_lidi, kT_tuin, kT_tubo, kT_tust, kT_tuli, kT_tutu, kT_tudi, kT_diin, kT_dibo, kT_dist, kT_dili, kT_ditu, kT_didi, rGet, getO_l, getO_t, getO_di, getO_ds, rLenX, lenX_r, lenX_s', lenO_l, lenO_t, lenO_d, Option.bind_some, tTruX, truX_n, truX_b, truX_i, truX_r, truO_l, truO_t, truO_d, rInX, rNotInX, inO_l', inO_t', inO_di, inO_ds, rSetX, setO_l, setO_di', setO_ds', rSlX, rListX, seqO_l, seqO_t, rTupX, gTupX, gCons, gNil, gSub, atI_0, atI_1, atI_2, atI_3, tDNewK, Nat.reduceSub, upd_same, upd_upd, Nat.reduceLT, HO.lst.injEq, HO.tup.injEq, HO.dK.injEq, HO.ins.injEq, Option.map_some, Option.isSome_some, Int.reduceEq, Int.reduceLT, Int.reduceLE, Nat.reduceAdd, List.isEmpty_nil, List.isEmpty_cons, ne_eq, not_false_eq_true, tDGs, sDPs, rIsB, rIsntB, tMeth, tMake, tDGet, sDPut, tFld, sFld, tDisp, tPairs, tNever, decide_true, decide_false, truV_bl, clsV_ty, V.ty.injEq, exists_eq', exists_eq, Bool.not_true, Bool.not_false, Bool.not_not, rLen, rListOf, rTupOf, rAny, rAll, rIsI, tTru, iRng1, iRng2, iList, tYes, cSt, List.drop_succ_cons, List.drop_zero, cxOf_K, cxC_K,  tBM, tBM0, rAppend, tSl, rSlL, tNoPart, tPart, rIxL, rIxT, rCat, List.cons.injEq, rEq_ii, rNe_ii, rEq_bb, rNe_bb, tSeq, exists_and_left, if_false, if_true, reduceIte, Bool.false_eq_true, tIfS, tAnd, tOr, tNot, tTest, tOp, tUn, tVar, tC, rI, rI0, rU, tRet, tRetN, tAsg, gName, tNext, tAndV, tOrV, tNotV, tIf, tCall, tCons, tNil, tCB, tDrop, tLst, tTup, tChain, L2.start, List.map_cons, List.map_nil, List.length_cons, List.length_nil, List.replicate, List.cons_append, List.nil_append, List.getElem?_cons_zero, List.getElem?_cons_succ, List.set_cons_zero, List.set_cons_succ, Option.some.injEq, exists_eq_left', exists_eq_left, V.int.injEq, V.bl.injEq, V.ref.injEq, V.str.injEq, exists_const, and_true, true_and, reduceCtorEq, false_and, exists_false, or_false, false_or, and_assoc, List.append_nil]
      exact q v hv
/-- what is due -/
def due (rs : List Rw) (z : Str) (t kp : Int) : Option Int := match best rs z with
  | none => none
  | some r => if t - r.2.2 ≤ kp then r.2.1 else none
def sp_due : Sp := fun vs H Q _ => ∃ (pa : Addr) (xs : List V) (rs : List Rw) (z : Str) (t kp : Int), vs = [.ref pa, .str z, .int t, .int kp] ∧ H pa = some (.lst xs) ∧ Paired (RwV H) xs rs ∧ xs.length ≤ 1000 ∧ Q (optV (due rs z t kp)) H
theorem own_due (D : Def K mg "_law_due" s__law_due) (F__law_best : Own P w K mg base 1 "_law_best" ["_law_answers", "_law_name"] sp_best) : Own P w K mg base 2 "_law_due" ["_law_answers", "_law_name", "_law_turn", "_law_keep"] sp_due := by
  refine D.own sc__law_due (fun _ _ _ _ _ _ us hl => match us, hl with | [_, _, _, _], _ => rfl) (fun vs H Q E h => ?_) (fun f cdv A outer s H vs Q E hr h => ?_)
  · obtain ⟨pa, xs, rs, z, t, kp, rfl, _⟩ := h
    rfl
  · obtain ⟨pa, xs, rs, z, t, kp, rfl, ea, m, hl, q⟩ := h
    have hu := hr.units
    have hu1 : (A.deeper (PyProof.Rows.envOfC "_law_due" (defScope s__law_due) s.heap.objs.size f cdv)).units + 1 < cLine := by omega
    refine ⟨_, (@pss_cons _ _ _ _ _ (@ps_set _ _ 4 _ _ _ _ sc__law_due.nd rfl (by first | exact Or.inl rfl | exact Or.inr rfl) (@pe_fn _ _ _ _ _ _ _ _ _ _ _ F__law_best hr (@pa_cX _ _ _ _ _ (@pv _ 0 _ _ (by rfl) (by first | exact Or.inl rfl | exact Or.inr (Or.inl rfl) | exact Or.inr (Or.inr rfl)) (by decide) (by decide)) (@pa_cX _ _ _ _ _ (@pv _ 1 _ _ (by rfl) (by first | exact Or.inl rfl | exact Or.inr (Or.inl rfl) | exact Or.inr (Or.inr rfl)) (by decide) (by decide)) (@pa_nil _) (by rfl)) (by rfl)) (by decide) (by rfl) (by decide) (by rfl) (by rfl)) (by rfl) (by first | exact .inl rfl | exact .inr rfl | assumption)) (@pss_cons _ _ _ _ _ (@ps_if _ _ _ _ _ _ _ _ (@PW.pt _ _ _ (@pw_or _ _ _ _ _ _ _ (@pt_cmpR _ _ _ _ _ _ _ _ op_isN (@pv _ 4 _ _ (by rfl) (by first | exact Or.inl rfl | exact Or.inr (Or.inl rfl) | exact Or.inr (Or.inr rfl)) (by decide) (by decide)) (@pe_non _ _ _) (nomark _)) (@pw_or1 _ _ _ _ (@pt_cmpR _ _ _ _ _ _ _ _ op_gt (@pe_op _ _ _ _ _ _ _ _ op_sub (@pv _ 2 _ _ (by rfl) (by first | exact Or.inl rfl | exact Or.inr (Or.inl rfl) | exact Or.inr (Or.inr rfl)) (by decide) (by decide)) (@pe_ix _ _ _ _ _ _ _ (ix_get hu1) (@pv _ 4 _ _ (by rfl) (by first | exact Or.inl rfl | exact Or.inr (Or.inl rfl) | exact Or.inr (Or.inr rfl)) (by decide) (by decide)) (@pe_int _ _ _ _) (fun _ _ => rfl))) (@pv _ 3 _ _ (by rfl) (by first | exact Or.inl rfl | exact Or.inr (Or.inl rfl) | exact Or.inr (Or.inr rfl)) (by decide) (by decide)) (nomark _))))) (@pss_one _ _ _ (@ps_ret _ _ _ _ (@pe_non _ _ _))) (@pss_nil _)) (@pss_one _ _ _ (@ps_ret _ _ _ _ (@pe_ix _ _ _ _ _ _ _ (ix_get hu1) (@pv _ 4 _ _ (by rfl) (by first | exact Or.inl rfl | exact Or.inr (Or.inl rfl) | exact Or.inr (Or.inr rfl)) (by decide) (by decide)) (@pe_int _ _ _ _) (fun _ _ => rfl)))))), ?_⟩
    simp (maxSteps := 1000000) only [tFor_eq, tComp_eq, rRngs, rListR, HO.rng.injEq, tDKeys, rSortL, rSortK, ixN_10, ixN_20, ixN_21, ixN_30, ixN_31, ixN_32, ixN_40, ixN_41, ixN_42, ixN_43, ixN_50, ixN_51, ixN_52, ixN_53, ixN_54, rNe_nn, rEq_nn, rNe_in, rEq_in, rNe_ni, rEq_ni, gSeqX, rLeS, rEq_ss, rNe_ss, rStr1, rAllX, rAnyX, rListD, iStr, rSumX, tBL, tBL0, rExtend, rPopAt, rPop, rReverse, rClear, rIsIX, tyX_n, tyX_b, tyX_i, tyX_s, tyX_r, tyO_l, tyO_t, tyO_d, V.ty.injEq, kT_Noin, kT_Nobo, kT_Nost, kT_Noli, kT_Notu, kT_Nodi, kT_boin, kT_bobo, kT_bost, kT_boli, kT_botu, kT_bodi, kT_inin, kT_inbo, kT_inst, kT_inli, kT_intu, kT_indi, kT_stin, kT_stbo, kT_stst, kT_stli, kT_sttu, kT_stdi, kT_liin, kT_libo, kT_list, kT_lili, kT_litu, kT_lidi, kT_tuin, kT_tubo, kT_tust, kT_tuli, kT_tutu, kT_tudi, kT_diin, kT_dibo, kT_dist, kT_dili, kT_ditu, kT_didi, rGet, getO_l, getO_t, getO_di, getO_ds, rLenX, lenX_r, lenX_s', lenO_l, lenO_t, lenO_d, Option.bind_some, tTruX, truX_n, truX_b, truX_i, truX_r, truO_l, truO_t, truO_d, rInX, rNotInX, inO_l', inO_t', inO_di, inO_ds, rSetX, setO_l, setO_di', setO_ds', rSlX, rListX, seqO_l, seqO_t, rTupX, gTupX, gCons, gNil, gSub, atI_0, atI_1, atI_2, atI_3, tDNewK, Nat.reduceSub, upd_same, upd_upd, Nat.reduceLT, HO.lst.injEq, HO.tup.injEq, HO.dK.injEq, HO.ins.injEq, Option.map_some, Option.isSome_some, Int.reduceEq, Int.reduceLT, Int.reduceLE, Nat.reduceAdd, List.isEmpty_nil, List.isEmpty_cons, ne_eq, not_false_eq_true, tDGs, sDPs, rIsB, rIsntB, tMeth, tMake, tDGet, sDPut, tFld, sFld, tDisp, tPairs, tNever, decide_true, decide_false, truV_bl, clsV_ty, V.ty.injEq, exists_eq', exists_eq, Bool.not_true, Bool.not_false, Bool.not_not, rLen, rListOf, rTupOf, rAny, rAll, rIsI, tTru, iRng1, iRng2, iList, tYes, cSt, List.drop_succ_cons, List.drop_zero, cxOf_K, cxC_K,  tBM, tBM0, rAppend, tSl, rSlL, tNoPart, tPart, rIxL, rIxT, rCat, List.cons.injEq, rEq_ii, rNe_ii, rEq_bb, rNe_bb, tSeq, exists_and_left, if_false, if_true, reduceIte, Bool.false_eq_true, tIfS, tAnd, tOr, tNot, tTest, tOp, tUn, tVar, tC, rI, rI0, rU, tRet, tRetN, tAsg, gName, tNext, tAndV, tOrV, tNotV, tIf, tCall, tCons, tNil, tCB, tDrop, tLst, tTup, tChain, L2.start, List.map_cons, List.map_nil, List.length_cons, List.length_nil, List.replicate, List.cons_append, List.nil_append, List.getElem?_cons_zero, List.getElem?_cons_succ, List.set_cons_zero, List.set_cons_succ, Option.some.injEq, exists_eq_left', exists_eq_left, V.int.injEq, V.bl.injEq, V.ref.injEq, V.str.injEq, exists_const, and_true, true_and, reduceCtorEq, false_and, exists_false, or_false, false_or, and_assoc, List.append_nil]
    refine ⟨pa, xs, rs, z, rfl, ea, m, hl, fun v hv => ?_⟩
    unfold due at q
    cases em : best rs z with
    | none =>
      rw [em] at hv q
      have hv : v = .non := hv
      subst hv
      simp (maxSteps := 1000000) only [tFor_eq, tComp_eq, rRngs, rListR, HO.rng.injEq, tDKeys, rSortL, rSortK, ixN_10, ixN_20, ixN_21, ixN_30, ixN_31, ixN_32, ixN_40, ixN_41, ixN_42, ixN_43, ixN_50, ixN_51, ixN_52, ixN_53, ixN_54, rNe_nn, rEq_nn, rNe_in, rEq_in, rNe_ni, rEq_ni, gSeqX, rLeS, rEq_ss, rNe_ss, rStr1, rAllX, rAnyX, rListD, iStr, rSumX, tBL, tBL0, rExtend, rPopAt, rPop, rReverse, rClear, rIsIX, tyX_n, tyX_b, tyX_i, tyX_s, tyX_r, tyO_l, tyO_t, tyO_d, V.ty.injEq, kT_Noin, kT_Nobo, kT_Nost, kT_Noli, kT_Notu, kT_Nodi, kT_boin, kT_bobo, kT_bost, kT_boli, kT_botu, kT_bodi, kT_inin, kT_inbo, kT_inst, kT_inli, kT_intu, kT_indi, kT_stin, kT_stbo, kT_stst, kT_stli, kT_sttu, kT_stdi, kT_liin, kT_libo, kT_list, kT_lili, kT_litu, kT_lidi, kT_tuin, kT_tubo, kT_tust, kT_tuli, kT_tutu, kT_tudi, kT_diin, kT_dibo, kT_dist, kT_dili, kT_ditu, kT_didi, rGet, getO_l, getO_t, getO_di, getO_ds, rLenX, lenX_r, lenX_s', lenO_l, lenO_t, lenO_d, Option.bind_some, tTruX, truX_n, truX_b, truX_i, truX_r, truO_l, truO_t, truO_d, rInX, rNotInX, inO_l', inO_t', inO_di, inO_ds, rSetX, setO_l, setO_di', setO_ds', rSlX, rListX, seqO_l, seqO_t, rTupX, gTupX, gCons, gNil, gSub, atI_0, atI_1, atI_2, atI_3, tDNewK, Nat.reduceSub, upd_same, upd_upd, Nat.reduceLT, HO.lst.injEq, HO.tup.injEq, HO.dK.injEq, HO.ins.injEq, Option.map_some, Option.isSome_some, Int.reduceEq, Int.reduceLT, Int.reduceLE, Nat.reduceAdd, List.isEmpty_nil, List.isEmpty_cons, ne_eq, not_false_eq_true, tDGs, sDPs, rIsB, rIsntB, tMeth, tMake, tDGet, sDPut, tFld, sFld, tDisp, tPairs, tNever, decide_true, decide_false, truV_bl, clsV_ty, V.ty.injEq, exists_eq', exists_eq, Bool.not_true, Bool.not_false, Bool.not_not, rLen, rListOf, rTupOf, rAny, rAll, rIsI, tTru, iRng1, iRng2, iList, tYes, cSt, List.drop_succ_cons, List.drop_zero, cxOf_K, cxC_K,  tBM, tBM0, rAppend, tSl, rSlL, tNoPart, tPart, rIxL, rIxT, rCat, List.cons.injEq, rEq_ii, rNe_ii, rEq_bb, rNe_bb, tSeq, exists_and_left, if_false, if_true, reduceIte, Bool.false_eq_true, tIfS, tAnd, tOr, tNot, tTest, tOp, tUn, tVar, tC, rI, rI0, rU, tRet, tRetN, tAsg, gName, tNext, tAndV, tOrV, tNotV, tIf, tCall, tCons, tNil, tCB, tDrop, tLst, tTup, tChain, L2.start, List.map_cons, List.map_nil, List.length_cons, List.length_nil, List.replicate, List.cons_append, List.nil_append, List.getElem?_cons_zero, List.getElem?_cons_succ, List.set_cons_zero, List.set_cons_succ, Option.some.injEq, exists_eq_left', exists_eq_left, V.int.injEq, V.bl.injEq, V.ref.injEq, V.str.injEq, exists_const, and_true, true_and, reduceCtorEq, false_and, exists_false, or_false, false_or, and_assoc, List.append_nil]
      exact q
    | some r =>
      rw [em] at hv q
      obtain ⟨p2, rfl, e2⟩ := hv
      by_cases hc : t - r.2.2 ≤ kp
      · simp only [hc, if_true] at q
        have hc' : ¬ (kp < t - r.2.2) := by omega
        simp (maxSteps := 1000000) only [tFor_eq, tComp_eq, rRngs, rListR, HO.rng.injEq, tDKeys, rSortL, rSortK, ixN_10, ixN_20, ixN_21, ixN_30, ixN_31, ixN_32, ixN_40, ixN_41, ixN_42, ixN_43, ixN_50, ixN_51, ixN_52, ixN_53, ixN_54, rNe_nn, rEq_nn, rNe_in, rEq_in, rNe_ni, rEq_ni, gSeqX, rLeS, rEq_ss, rNe_ss, rStr1, rAllX, rAnyX, rListD, iStr, rSumX, tBL, tBL0, rExtend, rPopAt, rPop, rReverse, rClear, rIsIX, tyX_n, tyX_b, tyX_i, tyX_s, tyX_r, tyO_l, tyO_t, tyO_d, V.ty.injEq, kT_Noin, kT_Nobo, kT_Nost, kT_Noli, kT_Notu, kT_Nodi, kT_boin, kT_bobo, kT_bost, kT_boli, kT_botu, kT_bodi, kT_inin, kT_inbo, kT_inst, kT_inli, kT_intu, kT_indi, kT_stin, kT_stbo, kT_stst, kT_stli, kT_sttu, kT_stdi, kT_liin, kT_libo, kT_list, kT_lili, kT_litu, kT_lidi, kT_tuin, kT_tubo, kT_tust, kT_tuli, kT_tutu, kT_tudi, kT_diin, kT_dibo, kT_dist, kT_dili, kT_ditu, kT_didi, rGet, getO_l, getO_t, getO_di, getO_ds, rLenX, lenX_r, lenX_s', lenO_l, lenO_t, lenO_d, Option.bind_some, tTruX, truX_n, truX_b, truX_i, truX_r, truO_l, truO_t, truO_d, rInX, rNotInX, inO_l', inO_t', inO_di, inO_ds, rSetX, setO_l, setO_di', setO_ds', rSlX, rListX, seqO_l, seqO_t, rTupX, gTupX, gCons, gNil, gSub, atI_0, atI_1, atI_2, atI_3, tDNewK, Nat.reduceSub, upd_same, upd_upd, Nat.reduceLT, HO.lst.injEq, HO.tup.injEq, HO.dK.injEq, HO.ins.injEq, Option.map_some, Option.isSome_some, Int.reduceEq, Int.reduceLT, Int.reduceLE, Nat.reduceAdd, List.isEmpty_nil, List.isEmpty_cons, ne_eq, not_false_eq_true, tDGs, sDPs, rIsB, rIsntB, tMeth, tMake, tDGet, sDPut, tFld, sFld, tDisp, tPairs, tNever, decide_true, decide_false, truV_bl, clsV_ty, V.ty.injEq, exists_eq', exists_eq, Bool.not_true, Bool.not_false, Bool.not_not, rLen, rListOf, rTupOf, rAny, rAll, rIsI, tTru, iRng1, iRng2, iList, tYes, cSt, List.drop_succ_cons, List.drop_zero, cxOf_K, cxC_K,  tBM, tBM0, rAppend, tSl, rSlL, tNoPart, tPart, rIxL, rIxT, rCat, List.cons.injEq, rEq_ii, rNe_ii, rEq_bb, rNe_bb, tSeq, exists_and_left, if_false, if_true, reduceIte, Bool.false_eq_true, tIfS, tAnd, tOr, tNot, tTest, tOp, tUn, tVar, tC, rI, rI0, rU, tRet, tRetN, tAsg, gName, tNext, tAndV, tOrV, tNotV, tIf, tCall, tCons, tNil, tCB, tDrop, tLst, tTup, tChain, L2.start, List.map_cons, List.map_nil, List.length_cons, List.length_nil, List.replicate, List.cons_append, List.nil_append, List.getElem?_cons_zero, List.getElem?_cons_succ, List.set_cons_zero, List.set_cons_succ, Option.some.injEq, exists_eq_left', exists_eq_left, V.int.injEq, V.bl.injEq, V.ref.injEq, V.str.injEq, exists_const, and_true, true_and, reduceCtorEq, false_and, exists_false, or_false, false_or, and_assoc, List.append_nil, e2, hc']
        exact q
      · simp only [hc, if_false] at q
        have hc' : kp < t - r.2.2 := by omega
        simp (maxSteps := 1000000) only [tFor_eq, tComp_eq, rRngs, rListR, HO.rng.injEq, tDKeys, rSortL, rSortK, ixN_10, ixN_20, ixN_21, ixN_30, ixN_31, ixN_32, ixN_40, ixN_41, ixN_42, ixN_43, ixN_50, ixN_51, ixN_52, ixN_53, ixN_54, rNe_nn, rEq_nn, rNe_in, rEq_in, rNe_ni, rEq_ni, gSeqX, rLeS, rEq_ss, rNe_ss, rStr1, rAllX, rAnyX, rListD, iStr, rSumX, tBL, tBL0, rExtend, rPopAt, rPop, rReverse, rClear, rIsIX, tyX_n, tyX_b, tyX_i, tyX_s, tyX_r, tyO_l, tyO_t, tyO_d, V.ty.injEq, kT_Noin, kT_Nobo, kT_Nost, kT_Noli, kT_Notu, kT_Nodi, kT_boin, kT_bobo, kT_bost, kT_boli, kT_botu, kT_bodi, kT_inin, kT_inbo, kT_inst, kT_inli, kT_intu, kT_indi, kT_stin, kT_stbo, kT_stst, kT_stli, kT_sttu, kT_stdi, kT_liin, kT_libo, kT_list, kT_lili, kT_litu, kT_lidi, kT_tuin, kT_tubo, kT_tust, kT_tuli, kT_tutu, kT_tudi, kT_diin, kT_dibo, kT_dist, kT_dili, kT_ditu, kT_didi, rGet, getO_l, getO_t, getO_di, getO_ds, rLenX, lenX_r, lenX_s', lenO_l, lenO_t, lenO_d, Option.bind_some, tTruX, truX_n, truX_b, truX_i, truX_r, truO_l, truO_t, truO_d, rInX, rNotInX, inO_l', inO_t', inO_di, inO_ds, rSetX, setO_l, setO_di', setO_ds', rSlX, rListX, seqO_l, seqO_t, rTupX, gTupX, gCons, gNil, gSub, atI_0, atI_1, atI_2, atI_3, tDNewK, Nat.reduceSub, upd_same, upd_upd, Nat.reduceLT, HO.lst.injEq, HO.tup.injEq, HO.dK.injEq, HO.ins.injEq, Option.map_some, Option.isSome_some, Int.reduceEq, Int.reduceLT, Int.reduceLE, Nat.reduceAdd, List.isEmpty_nil, List.isEmpty_cons, ne_eq, not_false_eq_true, tDGs, sDPs, rIsB, rIsntB, tMeth, tMake, tDGet, sDPut, tFld, sFld, tDisp, tPairs, tNever, decide_true, decide_false, truV_bl, clsV_ty, V.ty.injEq, exists_eq', exists_eq, Bool.not_true, Bool.not_false, Bool.not_not, rLen, rListOf, rTupOf, rAny, rAll, rIsI, tTru, iRng1, iRng2, iList, tYes, cSt, List.drop_succ_cons, List.drop_zero, cxOf_K, cxC_K,  tBM, tBM0, rAppend, tSl, rSlL, tNoPart, tPart, rIxL, rIxT, rCat, List.cons.injEq, rEq_ii, rNe_ii, rEq_bb, rNe_bb, tSeq, exists_and_left, if_false, if_true, reduceIte, Bool.false_eq_true, tIfS, tAnd, tOr, tNot, tTest, tOp, tUn, tVar, tC, rI, rI0, rU, tRet, tRetN, tAsg, gName, tNext, tAndV, tOrV, tNotV, tIf, tCall, tCons, tNil, tCB, tDrop, tLst, tTup, tChain, L2.start, List.map_cons, List.map_nil, List.length_cons, List.length_nil, List.replicate, List.cons_append, List.nil_append, List.getElem?_cons_zero, List.getElem?_cons_succ, List.set_cons_zero, List.set_cons_succ, Option.some.injEq, exists_eq_left', exists_eq_left, V.int.injEq, V.bl.injEq, V.ref.injEq, V.str.injEq, exists_const, and_true, true_and, reduceCtorEq, false_and, exists_false, or_false, false_or, and_assoc, List.append_nil, e2, hc']
        exact q
end
end K57
namespace K57
open PySem L2
section
variable {P : Program} {w : World} {K : PySem.W.Frag} {mg : Str → Option Value} {base : Heap} {C : Addr}
theorem eq_opt {o : Option Int} {H : Hp} {Q : VK} (q : Q (.bl true) H) : rEq (optV o) (optV o) H Q := by
  cases o with
  | none => show rEq .non .non H Q; rw [rEq_nn]; exact q
  | some i => show rEq (.int i) (.int i) H Q; rw [rEq_ii, decide_eq_true rfl]; exact q
theorem fnd_due {m : Mp} {rs : List Rw} {kp t : Int} {z : Str} (h : m z = (best rs z).map (·.2)) : fnd m kp z t = due rs z t kp := by
  unfold fnd due
  rw [h]
  cases best rs z <;> rfl
def sp_found (C : Addr) : Sp := fun vs H Q _ => ∃ (x dx pg pa pn : Addr) (kp t : Int) (kvs : List (Key × V)) (m : Mp) (xs : List V) (rs : List Rw) (zs : List Str), vs = [.ref x, .ref pa, .ref pn, .int t, .int kp] ∧ NearAt C H x dx pg kp kvs m ∧ H pa = some (.lst xs) ∧ Paired (RwV H) xs rs ∧ xs.length ≤ 1000 ∧ H pn = some (.lst (zs.map V.str)) ∧ zs.length ≤ 1000 ∧ (∀ z, m z = (best rs z).map (·.2)) ∧ ∀ H', Same H H' → Q (.bl true) H'
theorem RwV.same {H H' : Hp} {v : V} {r : Rw} (s : Same H H') (h : RwV H v r) : RwV H' v r := by
  obtain ⟨p, e, h⟩ := h
  exact ⟨p, e, s _ _ h⟩
theorem rows_same {H H' : Hp} {xs : List V} {rs : List Rw} (s : Same H H') (h : Paired (RwV H) xs rs) : Paired (RwV H') xs rs := Paired.mapP h fun _ _ z => z.same s
theorem own_found (D : Def K mg "_law_found" s__law_found) (hb : Blt mg) (T_Near : ClsD K mg "Near" C at_Near) (M_Near_find : OwnM P w K mg base 2 C "find" ["self", "name", "turn"] (sp_find C)) (F__law_due : Own P w K mg base 2 "_law_due" ["_law_answers", "_law_name", "_law_turn", "_law_keep"] sp_due) : Own P w K mg base 3 "_law_found" ["_law_near", "_law_answers", "_law_names", "_law_turn", "_law_keep"] (sp_found C) := by
  refine D.own sc__law_found (fun _ _ _ _ _ _ us hl => match us, hl with | [_, _, _, _, _], _ => rfl) (fun vs H Q E h => ?_) (fun f cdv A outer s H vs Q E hr h => ?_)
  · obtain ⟨x, dx, pg, pa, pn, kp, t, kvs, m, xs, rs, zs, rfl, _⟩ := h
    rfl
  · obtain ⟨x, dx, pg, pa, pn, kp, t, kvs, m, xs, rs, zs, rfl, O, ea, mr, hl, en, hzl, hm, q⟩ := h
    have hu := hr.units
    have ex := O.ins
    refine ⟨_, (@pss_one _ _ _ (@ps_ret _ _ _ _ (@pe_callB _ _ _ _ _ _ _ _ _ (call_allX rfl) rfl (hb _ (by decide)) bt_all (@pa_cX _ _ _ _ _ (@pe_comp _ _ _ _ _ _ _ _ _ _ _ ["_law_one"] ["_law_answers", "_law_keep", "_law_near", "_law_turn"] [1, 4, 0, 3] rfl _ cs__law_found_0 (@pi_listK _ K _ _ _ (@pv _ 2 _ _ (by rfl) (by first | exact Or.inl rfl | exact Or.inr (Or.inl rfl) | exact Or.inr (Or.inr rfl)) (by decide) (by decide)) (by rfl)) (fun _ _ _ _ => (@pg_name _ _ 0 _ cs__law_found_0.nd rfl (by first | exact Or.inl rfl | exact Or.inr rfl) (by first | exact .inl rfl | exact .inr rfl | assumption))) (fun _ _ _ _ => (@pf_nil _)) (fun _ _ _ _ => (@pe_cmpR _ _ _ _ _ _ _ _ op_eq (@pe_mth _ _ _ _ _ _ _ _ _ _ _ _ _ _ _ M_Near_find T_Near.cl hr (@pv _ 3 _ _ (by rfl) (by first | exact Or.inl rfl | exact Or.inr (Or.inl rfl) | exact Or.inr (Or.inr rfl)) (by decide) (by decide)) (@pa_cX _ _ _ _ _ (@pv _ 0 _ _ (by rfl) (by first | exact Or.inl rfl | exact Or.inr (Or.inl rfl) | exact Or.inr (Or.inr rfl)) (by decide) (by decide)) (@pa_cX _ _ _ _ _ (@pv _ 4 _ _ (by rfl) (by first | exact Or.inl rfl | exact Or.inr (Or.inl rfl) | exact Or.inr (Or.inr rfl)) (by decide) (by decide)) (@pa_nil _) (by rfl)) (by rfl)) (by decide) (by rfl) (by rfl) (by rfl)) (@pe_fn _ _ _ _ _ _ _ _ _ _ _ F__law_due hr (@pa_cX _ _ _ _ _ (@pv _ 1 _ _ (by rfl) (by first | exact Or.inl rfl | exact Or.inr (Or.inl rfl) | exact Or.inr (Or.inr rfl)) (by decide) (by decide)) (@pa_cX _ _ _ _ _ (@pv _ 0 _ _ (by rfl) (by first | exact Or.inl rfl | exact Or.inr (Or.inl rfl) | exact Or.inr (Or.inr rfl)) (by decide) (by decide)) (@pa_cX _ _ _ _ _ (@pv _ 4 _ _ (by rfl) (by first | exact Or.inl rfl | exact Or.inr (Or.inl rfl) | exact Or.inr (Or.inr rfl)) (by decide) (by decide)) (@pa_cX _ _ _ _ _ (@pv _ 2 _ _ (by rfl) (by first | exact Or.inl rfl | exact Or.inr (Or.inl rfl) | exact Or.inr (Or.inr rfl)) (by decide) (by decide)) (@pa_nil _) (by rfl)) (by rfl)) (by rfl)) (by rfl)) (by decide) (by rfl) (by decide) (by rfl) (by rfl)) (nomark _))) (by rfl) (by rfl) (by rfl) (by intro _; rfl)) (@pa_nil _) (by rfl)) (by decide) (by decide) (by rfl) (by rfl)))), ?_⟩
    simp (maxSteps := 1000000) only [tFor_eq, tComp_eq, rRngs, rListR, HO.rng.injEq, tDKeys, rSortL, rSortK, ixN_10, ixN_20, ixN_21, ixN_30, ixN_31, ixN_32, ixN_40, ixN_41, ixN_42, ixN_43, ixN_50, ixN_51, ixN_52, ixN_53, ixN_54, rNe_nn, rEq_nn, rNe_in, rEq_in, rNe_ni, rEq_ni, gSeqX, rLeS, rEq_ss, rNe_ss, rStr1, rAllX, rAnyX, rListD, iStr, rSumX, tBL, tBL0, rExtend, rPopAt, rPop, rReverse, rClear, rIsIX, tyX_n, tyX_b, tyX_i, tyX_s, tyX_r, tyO_l, tyO_t, tyO_d, V.ty.injEq, kT_Noin, kT_Nobo, kT_Nost, kT_Noli, kT_Notu, kT_Nodi, kT_boin, kT_bobo, kT_bost, kT_boli, kT_botu, kT_bodi, kT_inin, kT_inbo, kT_inst, kT_inli, kT_intu, kT_indi, kT_stin, kT_stbo, kT_stst, kT_stli, kT_sttu, kT_stdi, kT_liin, kT_libo, kT_list, kT_lili, kT_litu, kT_lidi, kT_tuin, kT_tubo, kT_tust, kT_tuli, kT_tutu, kT_tudi, kT_diin, kT_dibo, kT_dist, kT_dili, kT_ditu, kT_didi, rGet, getO_l, getO_t, getO_di, getO_ds, rLenX, lenX_r, lenX_s', lenO_l, lenO_t, lenO_d, Option.bind_some, tTruX, truX_n, truX_b, truX_i, truX_r, truO_l, truO_t, truO_d, rInX, rNotInX, inO_l', inO_t', inO_di, inO_ds, rSetX, setO_l, setO_di', setO_ds', rSlX, rListX, seqO_l, seqO_t, rTupX, gTupX, gCons, gNil, gSub, atI_0, atI_1, atI_2, atI_3, tDNewK, Nat.reduceSub, upd_same, upd_upd, Nat.reduceLT, HO.lst.injEq, HO.tup.injEq, HO.dK.injEq, HO.ins.injEq, Option.map_some, Option.isSome_some, Int.reduceEq, Int.reduceLT, Int.reduceLE, Nat.reduceAdd, List.isEmpty_nil, List.isEmpty_cons, ne_eq, not_false_eq_true, tDGs, sDPs, rIsB, rIsntB, tMeth, tMake, tDGet, sDPut, tFld, sFld, tDisp, tPairs, tNever, decide_true, decide_false, truV_bl, clsV_ty, V.ty.injEq, exists_eq', exists_eq, Bool.not_true, Bool.not_false, Bool.not_not, rLen, rListOf, rTupOf, rAny, rAll, rIsI, tTru, iRng1, iRng2, iList, tYes, cSt, List.drop_succ_cons, List.drop_zero, cxOf_K, cxC_K,  tBM, tBM0, rAppend, tSl, rSlL, tNoPart, tPart, rIxL, rIxT, rCat, List.cons.injEq, rEq_ii, rNe_ii, rEq_bb, rNe_bb, tSeq, exists_and_left, if_false, if_true, reduceIte, Bool.false_eq_true, tIfS, tAnd, tOr, tNot, tTest, tOp, tUn, tVar, tC, rI, rI0, rU, tRet, tRetN, tAsg, gName, tNext, tAndV, tOrV, tNotV, tIf, tCall, tCons, tNil, tCB, tDrop, tLst, tTup, tChain, L2.start, List.map_cons, List.map_nil, List.length_cons, List.length_nil, List.replicate, List.cons_append, List.nil_append, List.getElem?_cons_zero, List.getElem?_cons_succ, List.set_cons_zero, List.set_cons_succ, Option.some.injEq, exists_eq_left', exists_eq_left, V.int.injEq, V.bl.injEq, V.ref.injEq, V.str.injEq, exists_const, and_true, true_and, reduceCtorEq, false_and, exists_false, or_false, false_or, and_assoc, List.append_nil, en]
    refine ⟨⟨_, SqL.of en⟩, comp_pure (SqL.of en) (by rw [sizeLine_eq, List.length_map]; omega) (fun _ => .bl true) ?_ ?_ (gName_mono 0)⟩
    · intro H1 v Q' hv s1 hq
      obtain ⟨z, _, rfl⟩ := List.mem_map.mp hv
      have ex1 := s1 _ _ ex
      simp (maxSteps := 1000000) only [tFor_eq, tComp_eq, rRngs, rListR, HO.rng.injEq, tDKeys, rSortL, rSortK, ixN_10, ixN_20, ixN_21, ixN_30, ixN_31, ixN_32, ixN_40, ixN_41, ixN_42, ixN_43, ixN_50, ixN_51, ixN_52, ixN_53, ixN_54, rNe_nn, rEq_nn, rNe_in, rEq_in, rNe_ni, rEq_ni, gSeqX, rLeS, rEq_ss, rNe_ss, rStr1, rAllX, rAnyX, rListD, iStr, rSumX, tBL, tBL0, rExtend, rPopAt, rPop, rReverse, rClear, rIsIX, tyX_n, tyX_b, tyX_i, tyX_s, tyX_r, tyO_l, tyO_t, tyO_d, V.ty.injEq, kT_Noin, kT_Nobo, kT_Nost, kT_Noli, kT_Notu, kT_Nodi, kT_boin, kT_bobo, kT_bost, kT_boli, kT_botu, kT_bodi, kT_inin, kT_inbo, kT_inst, kT_inli, kT_intu, kT_indi, kT_stin, kT_stbo, kT_stst, kT_stli, kT_sttu, kT_stdi, kT_liin, kT_libo, kT_list, kT_lili, kT_litu, kT_lidi, kT_tuin, kT_tubo, kT_tust, kT_tuli, kT_tutu, kT_tudi, kT_diin, kT_dibo, kT_dist, kT_dili, kT_ditu, kT_didi, rGet, getO_l, getO_t, getO_di, getO_ds, rLenX, lenX_r, lenX_s', lenO_l, lenO_t, lenO_d, Option.bind_some, tTruX, truX_n, truX_b, truX_i, truX_r, truO_l, truO_t, truO_d, rInX, rNotInX, inO_l', inO_t', inO_di, inO_ds, rSetX, setO_l, setO_di', setO_ds', rSlX, rListX, seqO_l, seqO_t, rTupX, gTupX, gCons, gNil, gSub, atI_0, atI_1, atI_2, atI_3, tDNewK, Nat.reduceSub, upd_same, upd_upd, Nat.reduceLT, HO.lst.injEq, HO.tup.injEq, HO.dK.injEq, HO.ins.injEq, Option.map_some, Option.isSome_some, Int.reduceEq, Int.reduceLT, Int.reduceLE, Nat.reduceAdd, List.isEmpty_nil, List.isEmpty_cons, ne_eq, not_false_eq_true, tDGs, sDPs, rIsB, rIsntB, tMeth, tMake, tDGet, sDPut, tFld, sFld, tDisp, tPairs, tNever, decide_true, decide_false, truV_bl, clsV_ty, V.ty.injEq, exists_eq', exists_eq, Bool.not_true, Bool.not_false, Bool.not_not, rLen, rListOf, rTupOf, rAny, rAll, rIsI, tTru, iRng1, iRng2, iList, tYes, cSt, List.drop_succ_cons, List.drop_zero, cxOf_K, cxC_K,  tBM, tBM0, rAppend, tSl, rSlL, tNoPart, tPart, rIxL, rIxT, rCat, List.cons.injEq, rEq_ii, rNe_ii, rEq_bb, rNe_bb, tSeq, exists_and_left, if_false, if_true, reduceIte, Bool.false_eq_true, tIfS, tAnd, tOr, tNot, tTest, tOp, tUn, tVar, tC, rI, rI0, rU, tRet, tRetN, tAsg, gName, tNext, tAndV, tOrV, tNotV, tIf, tCall, tCons, tNil, tCB, tDrop, tLst, tTup, tChain, L2.start, List.map_cons, List.map_nil, List.length_cons, List.length_nil, List.replicate, List.cons_append, List.nil_append, List.getElem?_cons_zero, List.getElem?_cons_succ, List.set_cons_zero, List.set_cons_succ, Option.some.injEq, exists_eq_left', exists_eq_left, V.int.injEq, V.bl.injEq, V.ref.injEq, V.str.injEq, exists_const, and_true, true_and, reduceCtorEq, false_and, exists_false, or_false, false_or, and_assoc, List.append_nil, ex1, T_Near.cl, T_Near.no "keep" (by decide), T_Near.no "answers" (by decide), fs_Near_keep, fs_Near_answers, fn_Near___init__, fn_Near_put, fn_Near_is_fresh, fn_Near_find, fn_Near_thin, fl_Near, fp_Near_keep, fp_Near_answers, fq_Near_0, fq_Near_1, List.map_cons, List.map_nil, Option.join_some]
      refine ⟨x, dx, pg, kp, t, z, kvs, m, rfl, O.same s1, ?_⟩
      refine ⟨pa, xs, rs, z, t, kp, rfl, s1 _ _ ea, rows_same s1 mr, hl, ?_⟩
      rw [fnd_due (hm z)]
      exact eq_opt hq
    · intro D1 hD
      refine ⟨D1, rfl, zs.map fun _ => true, ?_, ?_⟩
      · rw [upd_same]
        simp
      · have e3 : (zs.map fun _ => true).all id = true := by simp
        rw [e3]
        exact q _ (Same.upd_new hD)
def sp_answer : Sp := fun vs H Q _ => ∃ (p : Addr) (a b now kp : Int) (z : Str), vs = [.ref p, .str z, .int now, .int kp] ∧ H p = some (.lst [.int a, .int b]) ∧ 0 ≤ kp ∧ kp < 2 ^ 190 ∧ ∀ v h t a' b' H', H' p = some (.lst [.int a', .int b']) → RwV H' v (z, h, t) → Keep [p] H H' → Q v H'
set_option maxHeartbeats 2000000 in
theorem own_answer (D : Def K mg "_law_answer" s__law_answer) (hb : Blt mg) (F__law_next : Own P w K mg base 1 "_law_next" ["_law_draw_here", "_law_size"] sp_next) : Own P w K mg base 2 "_law_answer" ["_law_draw_here", "_law_name", "_law_now", "_law_keep"] sp_answer := by
  refine D.own sc__law_answer (fun _ _ _ _ _ _ us hl => match us, hl with | [_, _, _, _], _ => rfl) (fun vs H Q E h => ?_) (fun f cdv A outer s H vs Q E hr h => ?_)
  · obtain ⟨p, a, b, now, kp, z, rfl, _⟩ := h
    rfl
  · obtain ⟨p, a, b, now, kp, z, rfl, ep, k0, k1, q⟩ := h
    have hu := hr.units
    have hu1 : (A.deeper (PyProof.Rows.envOfC "_law_answer" (defScope s__law_answer) s.heap.objs.size f cdv)).units + 1 < cLine := by omega
    refine ⟨_, (@pss_cons _ _ _ _ _ (@ps_set _ _ 4 _ _ _ _ sc__law_answer.nd rfl (by first | exact Or.inl rfl | exact Or.inr rfl) (@pe_ix _ _ _ _ _ _ _ (ix_get hu1) (@pe_lst _ _ _ _ (@pa_cX _ _ _ _ _ (@pe_fn _ _ _ _ _ _ _ _ _ _ _ F__law_next hr (@pa_cX _ _ _ _ _ (@pv _ 0 _ _ (by rfl) (by first | exact Or.inl rfl | exact Or.inr (Or.inl rfl) | exact Or.inr (Or.inr rfl)) (by decide) (by decide)) (@pa_cX _ _ _ _ _ (@pe_int _ _ _ _) (@pa_nil _) (by rfl)) (by rfl)) (by decide) (by rfl) (by decide) (by rfl) (by rfl)) (@pa_cX _ _ _ _ _ (@pe_fn _ _ _ _ _ _ _ _ _ _ _ F__law_next hr (@pa_cX _ _ _ _ _ (@pv _ 0 _ _ (by rfl) (by first | exact Or.inl rfl | exact Or.inr (Or.inl rfl) | exact Or.inr (Or.inr rfl)) (by decide) (by decide)) (@pa_cX _ _ _ _ _ (@pe_op _ _ _ _ _ _ _ _ op_add (@pv _ 3 _ _ (by rfl) (by first | exact Or.inl rfl | exact Or.inr (Or.inl rfl) | exact Or.inr (Or.inr rfl)) (by decide) (by decide)) (@pe_int _ _ _ _)) (@pa_nil _) (by rfl)) (by rfl)) (by decide) (by rfl) (by decide) (by rfl) (by rfl)) (@pa_nil _) (by rfl)) (by rfl))) (@pe_fn _ _ _ _ _ _ _ _ _ _ _ F__law_next hr (@pa_cX _ _ _ _ _ (@pv _ 0 _ _ (by rfl) (by first | exact Or.inl rfl | exact Or.inr (Or.inl rfl) | exact Or.inr (Or.inr rfl)) (by decide) (by decide)) (@pa_cX _ _ _ _ _ (@pe_int _ _ _ _) (@pa_nil _) (by rfl)) (by rfl)) (by decide) (by rfl) (by decide) (by rfl) (by rfl)) (fun _ _ => rfl)) (by rfl) (by first | exact .inl rfl | exact .inr rfl | assumption)) (@pss_one _ _ _ (@ps_ret _ _ _ _ (@pe_tup _ _ _ _ _ (@pa_cX _ _ _ _ _ (@pv _ 1 _ _ (by rfl) (by first | exact Or.inl rfl | exact Or.inr (Or.inl rfl) | exact Or.inr (Or.inr rfl)) (by decide) (by decide)) (@pa_cX _ _ _ _ _ (@pe_ix _ _ _ _ _ _ _ (ix_get hu1) (@pe_lst _ _ _ _ (@pa_cX _ _ _ _ _ (@pe_non _ _ _) (@pa_cX _ _ _ _ _ (@pe_int _ _ _ _) (@pa_cX _ _ _ _ _ (@pe_int _ _ _ _) (@pa_cX _ _ _ _ _ (@pe_int _ _ _ _) (@pa_cX _ _ _ _ _ (@pe_int _ _ _ _) (@pa_nil _) (by rfl)) (by rfl)) (by rfl)) (by rfl)) (by rfl))) (@pe_fn _ _ _ _ _ _ _ _ _ _ _ F__law_next hr (@pa_cX _ _ _ _ _ (@pv _ 0 _ _ (by rfl) (by first | exact Or.inl rfl | exact Or.inr (Or.inl rfl) | exact Or.inr (Or.inr rfl)) (by decide) (by decide)) (@pa_cX _ _ _ _ _ (@pe_int _ _ _ _) (@pa_nil _) (by rfl)) (by rfl)) (by decide) (by rfl) (by decide) (by rfl) (by rfl)) (fun _ _ => rfl)) (@pa_cX _ _ _ _ _ (@pe_callB _ _ _ _ _ _ _ _ _ (call_max2 rfl) rfl (hb _ (by decide)) bt_max (@pa_cX _ _ _ _ _ (@pe_int _ _ _ _) (@pa_cX _ _ _ _ _ (@pe_op _ _ _ _ _ _ _ _ op_sub (@pv _ 2 _ _ (by rfl) (by first | exact Or.inl rfl | exact Or.inr (Or.inl rfl) | exact Or.inr (Or.inr rfl)) (by decide) (by decide)) (@pv _ 4 _ _ (by rfl) (by first | exact Or.inl rfl | exact Or.inr (Or.inl rfl) | exact Or.inr (Or.inr rfl)) (by decide) (by decide))) (@pa_nil _) (by rfl)) (by rfl)) (by decide) (by decide) (by rfl) (by rfl)) (@pa_nil _) (by rfl)) (by rfl)) (by rfl)))))), ?_⟩
    simp (maxSteps := 1000000) only [tFor_eq, tComp_eq, rRngs, rListR, HO.rng.injEq, tDKeys, rSortL, rSortK, ixN_10, ixN_20, ixN_21, ixN_30, ixN_31, ixN_32, ixN_40, ixN_41, ixN_42, ixN_43, ixN_50, ixN_51, ixN_52, ixN_53, ixN_54, rNe_nn, rEq_nn, rNe_in, rEq_in, rNe_ni, rEq_ni, gSeqX, rLeS, rEq_ss, rNe_ss, rStr1, rAllX, rAnyX, rListD, iStr, rSumX, tBL, tBL0, rExtend, rPopAt, rPop, rReverse, rClear, rIsIX, tyX_n, tyX_b, tyX_i, tyX_s, tyX_r, tyO_l, tyO_t, tyO_d, V.ty.injEq, kT_Noin, kT_Nobo, kT_Nost, kT_Noli, kT_Notu, kT_Nodi, kT_boin, kT_bobo, kT_bost, kT_boli, kT_botu, kT_bodi, kT_inin, kT_inbo, kT_inst, kT_inli, kT_intu, kT_indi, kT_stin, kT_stbo, kT_stst, kT_stli, kT_sttu, kT_stdi, kT_liin, kT_libo, kT_list, kT_lili, kT_litu, kT_lidi, kT_tuin, kT_tubo, kT_tust, kT_tuli, kT_tutu, kT_tudi, kT_diin, kT_dibo, kT_dist, kT_dili, kT_ditu, kT_didi, rGet, getO_l, getO_t, getO_di, getO_ds, rLenX, lenX_r, lenX_s', lenO_l, lenO_t, lenO_d, Option.bind_some, tTruX, truX_n, truX_b, truX_i, truX_r, truO_l, truO_t, truO_d, rInX, rNotInX, inO_l', inO_t', inO_di, inO_ds, rSetX, setO_l, setO_di', setO_ds', rSlX, rListX, seqO_l, seqO_t, rTupX, gTupX, gCons, gNil, gSub, atI_0, atI_1, atI_2, atI_3, tDNewK, Nat.reduceSub, upd_same, upd_upd, Nat.reduceLT, HO.lst.injEq, HO.tup.injEq, HO.dK.injEq, HO.ins.injEq, Option.map_some, Option.isSome_some, Int.reduceEq, Int.reduceLT, Int.reduceLE, Nat.reduceAdd, List.isEmpty_nil, List.isEmpty_cons, ne_eq, not_false_eq_true, tDGs, sDPs, rIsB, rIsntB, tMeth, tMake, tDGet, sDPut, tFld, sFld, tDisp, tPairs, tNever, decide_true, decide_false, truV_bl, clsV_ty, V.ty.injEq, exists_eq', exists_eq, Bool.not_true, Bool.not_false, Bool.not_not, rLen, rListOf, rTupOf, rAny, rAll, rIsI, tTru, iRng1, iRng2, iList, tYes, cSt, List.drop_succ_cons, List.drop_zero, cxOf_K, cxC_K,  tBM, tBM0, rAppend, tSl, rSlL, tNoPart, tPart, rIxL, rIxT, rCat, List.cons.injEq, rEq_ii, rNe_ii, rEq_bb, rNe_bb, tSeq, exists_and_left, if_false, if_true, reduceIte, Bool.false_eq_true, tIfS, tAnd, tOr, tNot, tTest, tOp, tUn, tVar, tC, rI, rI0, rU, tRet, tRetN, tAsg, gName, tNext, tAndV, tOrV, tNotV, tIf, tCall, tCons, tNil, tCB, tDrop, tLst, tTup, tChain, L2.start, List.map_cons, List.map_nil, List.length_cons, List.length_nil, List.replicate, List.cons_append, List.nil_append, List.getElem?_cons_zero, List.getElem?_cons_succ, List.set_cons_zero, List.set_cons_succ, Option.some.injEq, exists_eq_left', exists_eq_left, V.int.injEq, V.bl.injEq, V.ref.injEq, V.str.injEq, exists_const, and_true, true_and, reduceCtorEq, false_and, exists_false, or_false, false_or, and_assoc, List.append_nil]
    have hk3 : kp + 3 < 2 ^ 200 := by
      have : (2 : Int) ^ 190 + 3 < 2 ^ 200 := by decide
      omega
    refine ⟨p, a, b, 30, rfl, ep, by decide, by decide, fun r1 a1 b1 h1 h1' => ?_⟩
    generalize z1 : upd H p _ = H1
    have e1 := (congrFun z1.symm p).trans upd_same
    have k1' : Keep [p] H H1 := by rw [← z1]; exact Keep.refl.upd (.inl (.head _))
    refine ⟨p, a1, b1, kp + 3, rfl, e1, by omega, hk3, fun r2 a2 b2 h2 h2' => ⟨by decide, ?_⟩⟩
    generalize z2 : upd H1 p _ = H2
    have e2 := (congrFun z2.symm p).trans upd_same
    have k2' : Keep [p] H1 H2 := by rw [← z2]; exact Keep.refl.upd (.inl (.head _))
    intro p3 n3
    generalize z3 : upd H2 p3 _ = H3
    obtain ⟨s3, e3⟩ := new_same z3 n3
    have np3 : p3 ≠ p := fun w => by rw [w, e2] at n3; cases n3
    refine ⟨p, a2, b2, 2, rfl, s3 _ _ e2, by decide, by decide, fun r3 a3 b3 h3 h3' => ?_⟩
    generalize z4 : upd H3 p _ = H4
    have e4 := (congrFun z4.symm p).trans upd_same
    have k4' : Keep [p] H3 H4 := by rw [← z4]; exact Keep.refl.upd (.inl (.head _))
    have e34 : H4 p3 = some (.lst [.int r1, .int r2]) := k4' _ _ e3 (by simp; exact np3)
    obtain ⟨wv, hwv, ewv⟩ := atI_in (xs := [V.int r1, V.int r2]) (k := r3) h3 (by simp only [List.length_cons, List.length_nil]; omega)
    obtain ⟨bk, rfl⟩ : ∃ bk : Int, wv = .int bk := by
      simp only [List.mem_cons, List.not_mem_nil, or_false] at hwv
      rcases hwv with rfl | rfl <;> exact ⟨_, rfl⟩
    refine ⟨_, e34, _, ewv, by decide, ?_⟩
    intro p5 n5
    generalize z5 : upd H4 p5 _ = H5
    obtain ⟨s5, e5⟩ := new_same z5 n5
    have np5 : p5 ≠ p := fun w => by rw [w, e4] at n5; cases n5
    refine ⟨p, a3, b3, 5, rfl, s5 _ _ e4, by decide, by decide, fun r5 a5 b5 h5 h5' => ?_⟩
    generalize z6 : upd H5 p _ = H6
    have e6 := (congrFun z6.symm p).trans upd_same
    have k6' : Keep [p] H5 H6 := by rw [← z6]; exact Keep.refl.upd (.inl (.head _))
    have e56 : H6 p5 = some (.lst [.non, .int 0, .int 1, .int 2, .int 11]) := k6' _ _ e5 (by simp; exact np5)
    obtain ⟨hv, hhv, ehv⟩ := atI_in (xs := [V.non, V.int 0, V.int 1, V.int 2, V.int 11]) (k := r5) h5 (by simp only [List.length_cons, List.length_nil]; omega)
    obtain ⟨o, rfl⟩ : ∃ o : Option Int, hv = optV o := by
      simp only [List.mem_cons, List.not_mem_nil, or_false] at hhv
      rcases hhv with rfl | rfl | rfl | rfl | rfl
      · exact ⟨none, rfl⟩
      · exact ⟨some 0, rfl⟩
      · exact ⟨some 1, rfl⟩
      · exact ⟨some 2, rfl⟩
      · exact ⟨some 11, rfl⟩
    refine ⟨_, e56, _, ehv, _, rfl, by decide, ?_⟩
    intro p7 n7
    generalize z7 : upd H6 p7 _ = H7
    obtain ⟨s7, e7⟩ := new_same z7 n7
    exact q _ o _ a5 b5 H7 (s7 _ _ e6) ⟨p7, rfl, e7⟩ ((((((k1'.trans k2').same s3).trans k4').same s5).trans k6').same s7)
end
end K57
namespace K57
open PySem L2
section
variable {P : Program} {w : World} {K : PySem.W.Frag} {mg : Str → Option Value} {base : Heap} {C : Addr}
abbrev s__law_forty : Stmt := top 7
theorem sc__law_forty : FnScope ["_law_keep", "_law_turn", "_law_near", "_law_letters", "_law_names", "_law_k"] ["_law_keep", "_law_turn"] (defScope s__law_forty) := ⟨rfl, rfl, rfl, by decide +kernel, rfl, by decide +kernel, by decide +kernel⟩
theorem cs__law_forty_0 : CScope ["_law_k"] ["_law_letters"] { kind := .function, names := [(".0", .local), ("_law_k", .local), ("_law_letters", .free)], isGenerator := false, isCoroutine := false, more := [] } (defScope s__law_forty) := ⟨rfl, by decide +kernel, by decide +kernel, by decide +kernel, by decide +kernel, by decide +kernel⟩
theorem cs__law_forty_1 : CScope ["_law_name"] ["_law_near", "_law_turn"] { kind := .function, names := [(".0", .local), ("_law_name", .local), ("_law_near", .free), ("_law_turn", .free)], isGenerator := false, isCoroutine := false, more := [] } (defScope s__law_forty) := ⟨rfl, by decide +kernel, by decide +kernel, by decide +kernel, by decide +kernel, by decide +kernel⟩
theorem cs__law_forty_2 : CScope ["_law_k"] ["_law_keep"] { kind := .function, names := [(".0", .local), ("_law_k", .local), ("int", .globalImplicit), ("_law_keep", .free)], isGenerator := false, isCoroutine := false, more := [] } (defScope s__law_forty) := ⟨rfl, by decide +kernel, by decide +kernel, by decide +kernel, by decide +kernel, by decide +kernel⟩
/-! ### how many are kept -/
theorem nd_le {α : Type} [DecidableEq α] : ∀ {l1 l2 : List α}, l1.Nodup → (∀ x ∈ l1, x ∈ l2) → l1.length ≤ l2.length
  | [], _, _, _ => Nat.zero_le _
  | a :: r, l2, hn, h => by
    rw [List.nodup_cons] at hn
    have ha := h a (.head _)
    have := nd_le (l2 := l2.erase a) hn.2 fun x hx => (List.mem_erase_of_ne (fun e => by subst e; exact hn.1 hx)).mpr (h x (.tail _ hx))
    rw [List.length_erase_of_mem ha] at this
    have : 0 < l2.length := List.length_pos_of_mem ha
    simp only [List.length_cons]
    omega
theorem NearAt.key {H : Hp} {x dx pg : Addr} {kp : Int} {kvs : List (Key × V)} {m : Mp} (O : NearAt C H x dx pg kp kvs m) (z : Str) : (Sum.inr z : Key) ∈ kvs.map (·.1) ↔ m z ≠ none := by
  have l := O.lk z
  constructor
  · intro h e
    rw [e] at l
    exact valV_of_mem h l
  · intro h
    cases e : m z with
    | none => exact absurd e h
    | some r =>
      rw [e] at l
      obtain ⟨p, l1, _⟩ := l
      rw [valV, Option.map_eq_some_iff] at l1
      obtain ⟨q, hq, _⟩ := l1
      have h2 := List.find?_some hq
      exact List.mem_map.mpr ⟨q, List.mem_of_find?_eq_some hq, of_decide_eq_true h2⟩
theorem inr_nd : ∀ {L : List Str}, L.Nodup → (L.map (Sum.inr : Str → Key)).Nodup
  | [], _ => List.nodup_nil
  | a :: r, h => by
    rw [List.nodup_cons] at h
    rw [List.map_cons, List.nodup_cons]
    refine ⟨fun hm => ?_, inr_nd h.2⟩
    obtain ⟨b, hb, e⟩ := List.mem_map.mp hm
    cases e
    exact h.1 hb
theorem NearAt.count {H : Hp} {x dx pg : Addr} {kp : Int} {kvs : List (Key × V)} {m : Mp} (O : NearAt C H x dx pg kp kvs m) {L : List Str} (hL : L.Nodup) (h : ∀ z, m z ≠ none ↔ z ∈ L) : kvs.length = L.length := by
  have h1 : (kvs.map (·.1)).length ≤ (L.map (Sum.inr : Str → Key)).length := nd_le O.nd fun k hk => by
    obtain ⟨q, hq, rfl⟩ := List.mem_map.mp hk
    obtain ⟨z, hz⟩ := O.ks q hq
    rw [hz] at hk ⊢
    exact List.mem_map_of_mem ((h z).mp ((O.key z).mp hk))
  have h2 : (L.map (Sum.inr : Str → Key)).length ≤ (kvs.map (·.1)).length := nd_le (inr_nd hL) fun k hk => by
    obtain ⟨z, hz, rfl⟩ := List.mem_map.mp hk
    exact (O.key z).mpr ((h z).mpr hz)
  rw [List.length_map, List.length_map] at h1 h2
  omega
/-! ### forty names -/
abbrev L26 : Str := Str.ofString "abcdefghijklmnopqrstuvwxyz"
abbrev L3 : Str := Str.ofString "xyz"
def nm (k : Nat) : Str := ⟨#[97 + k % 26]⟩ ++ Txt.mul ⟨#[120 + k / 26]⟩ ((k % 3 + 1 : Nat) : Int)
theorem nm_a : ∀ k : Fin 40, atI L26.cps.toList (((k.val : Nat) : Int) % 26) = some (97 + k.val % 26) := by decide +kernel
theorem nm_b : ∀ k : Fin 40, atI L3.cps.toList (((k.val : Nat) : Int) / 26) = some (120 + k.val / 26) := by decide +kernel
theorem nm_l : ∀ k : Fin 40, (nm k.val).length ≤ 10 ∧ PyData.strOk (nm k.val) = true := by decide +kernel
theorem nm_inj : ∀ i j : Fin 40, nm i.val = nm j.val → i.val = j.val := by decide +kernel
def even20 : List Str := (List.range 20).map fun i => nm (2 * i)
theorem even_nd : even20.Nodup := by decide +kernel
def mF (t : Int) : Nat → Mp
  | 0 => fun _ => none
  | k + 1 => newM (mF t k) (nm k) (some ((k % 12 : Nat) : Int)) (t - ((k % 2 : Nat) : Int))
theorem mF_at {t : Int} : ∀ {k : Nat}, k ≤ 40 → (∀ j, j < k → mF t k (nm j) = some (some ((j % 12 : Nat) : Int), t - ((j % 2 : Nat) : Int))) ∧ ∀ z, (∀ j, j < k → z ≠ nm j) → mF t k z = none
  | 0, _ => ⟨fun j h => absurd h (by omega), fun _ _ => rfl⟩
  | k + 1, hk => by
    obtain ⟨h1, h2⟩ := mF_at (t := t) (k := k) (by omega)
    have hno : mF t k (nm k) = none := h2 _ fun j hj e => by
      have := nm_inj ⟨k, by omega⟩ ⟨j, by omega⟩ e
      dsimp only at this
      omega
    refine ⟨fun j hj => ?_, fun z hz => ?_⟩
    · show newM (mF t k) (nm k) _ _ (nm j) = _
      unfold newM
      rw [hno]
      by_cases e : j = k
      · subst e
        rw [if_pos ⟨rfl, rfl⟩]
      · rw [if_neg (fun w => e (nm_inj ⟨j, by omega⟩ ⟨k, by omega⟩ w.1))]
        exact h1 j (by omega)
    · show newM (mF t k) (nm k) _ _ z = none
      unfold newM
      rw [if_neg (fun w => hz k (by omega) w.1)]
      exact h2 z fun j hj => hz j (by omega)
def nmsV : List V := (List.range 40).map fun (i : Nat) => V.str (nm ((0 : Int) + (i : Int)).toNat)
theorem nv_at {k : Nat} (h : k < 40) : nmsV[k]? = some (.str (nm k)) := by
  unfold nmsV
  rw [List.getElem?_map, List.getElem?_range h]
  simp
def ans (kp : Int) (i : Nat) : Option Int := if ((i % 2 : Nat) : Int) ≤ kp then some ((i % 12 : Nat) : Int) else none
def optD : Option Int → PyData
  | none => .none
  | some i => .int i
theorem im_opt {H : Hp} (o : Option Int) : Im H (optV o) (optD o) := by
  cases o with
  | none => exact .non
  | some i => exact .int i
theorem ims_opt {H : Hp} (g : Nat → Option Int) : ∀ l : List Nat, Ims H (l.map fun i => optV (g i)) (l.map fun i => optD (g i))
  | [] => .nil
  | i :: l => .cons (im_opt _) (ims_opt g l)
theorem fnd40 {t kp : Int} {i : Nat} (h : i < 40) : fnd (mF t 40) kp (nm i) t = ans kp i := by
  unfold fnd ans
  rw [(mF_at (t := t) (k := 40) (Nat.le_refl _)).1 i h]
  show (if t - (t - ((i % 2 : Nat) : Int)) ≤ kp then _ else _) = _
  rw [show t - (t - ((i % 2 : Nat) : Int)) = ((i % 2 : Nat) : Int) by omega]
def fF (t kp : Int) : V → V
  | .str z => optV (fnd (mF t 40) kp z t)
  | _ => .non
theorem fF_map {t kp : Int} : nmsV.map (fF t kp) = (List.range 40).map fun i => optV (ans kp i) := by
  unfold nmsV
  rw [List.map_map]
  apply List.map_congr_left
  intro i hi
  have hi' : i < 40 := List.mem_range.mp hi
  show optV (fnd (mF t 40) kp (nm ((0 : Int) + (i : Int)).toNat) t) = _
  rw [show ((0 : Int) + (i : Int)).toNat = i by omega, fnd40 hi']
theorem thin40 {t kp : Int} (k0 : 0 ≤ kp) : ∀ z, thin (mF t 40) kp (t + kp) z ≠ none ↔ z ∈ even20 := by
  intro z
  obtain ⟨h1, h2⟩ := mF_at (t := t) (k := 40) (Nat.le_refl _)
  by_cases hz : ∃ j, j < 40 ∧ z = nm j
  · obtain ⟨j, hj, rfl⟩ := hz
    unfold thin
    rw [h1 j hj]
    show (if t + kp - (t - ((j % 2 : Nat) : Int)) ≤ kp then _ else _) ≠ none ↔ _
    by_cases he : j % 2 = 0
    · rw [if_pos (by omega)]
      refine ⟨fun _ => ?_, fun _ => by simp⟩
      exact List.mem_map.mpr ⟨j / 2, List.mem_range.mpr (by omega), by rw [show 2 * (j / 2) = j by omega]⟩
    · rw [if_neg (by omega)]
      refine ⟨fun h => absurd rfl h, fun h => ?_⟩
      obtain ⟨i, hi, e⟩ := List.mem_map.mp h
      have hi' := List.mem_range.mp hi
      have := nm_inj ⟨2 * i, by omega⟩ ⟨j, hj⟩ e
      dsimp only at this
      omega
  · have : mF t 40 z = none := h2 z fun j hj e => hz ⟨j, hj, e⟩
    unfold thin
    rw [this]
    refine ⟨fun h => absurd rfl h, fun h => ?_⟩
    obtain ⟨i, hi, e⟩ := List.mem_map.mp h
    exact absurd ⟨2 * i, by have := List.mem_range.mp hi; omega, e.symm⟩ hz
def Lf (C : Addr) (H : Hp) (x dx pg pn : Addr) (kp t : Int) (i : Nat) (σ : St) (H' : Hp) : Prop := ∃ kvs v5, σ = [some (.int kp), some (.int t), some (.ref x), some (.str L26), some (.ref pn), v5] ∧ NearAt C H' x dx pg kp kvs (mF t i) ∧ kvs.length ≤ i ∧ H' pn = some (.lst nmsV) ∧ Same H H' ∧ H pg = none
def sp_forty : Sp := fun vs H Q _ => ∃ kp t : Int, vs = [.int kp, .int t] ∧ 0 ≤ kp ∧ kp < 5 ∧ 0 ≤ t ∧ ∀ H', Same H H' → Q (.bl true) H'
set_option maxHeartbeats 4000000 in
theorem own_forty (D : Def K mg "_law_forty" s__law_forty) (hb : Blt mg) (T_Near : ClsD K mg "Near" C at_Near) (I_Near : OwnI P w K mg base 1 C ["self", "keep"] (sp_ninit C)) (M_Near_put : OwnM P w K mg base 1 C "put" ["self", "name", "hand", "asked"] (sp_nput C)) (M_Near_find : OwnM P w K mg base 2 C "find" ["self", "name", "turn"] (sp_find C)) (M_Near_thin : OwnM P w K mg base 2 C "thin" ["self", "turn"] (sp_thin C)) : Own P w K mg base 3 "_law_forty" ["_law_keep", "_law_turn"] sp_forty := by
  refine D.own sc__law_forty (fun _ _ _ _ _ _ us hl => match us, hl with | [_, _], _ => rfl) (fun vs H Q E h => ?_) (fun f cdv A outer s H vs Q E hr h => ?_)
  · obtain ⟨kp, t, rfl, _⟩ := h
    rfl
  · obtain ⟨kp, t, rfl, k0, k5, t0, q⟩ := h
    have hu := hr.units
    have hu1 : (A.deeper (PyProof.Rows.envOfC "_law_forty" (defScope s__law_forty) s.heap.objs.size f cdv)).units + 1 < cLine := by omega
    refine ⟨_, (@pss_cons _ _ _ _ _ (@ps_set _ _ 2 _ _ _ _ sc__law_forty.nd rfl (by first | exact Or.inl rfl | exact Or.inr rfl) (@pe_mak _ _ _ _ _ _ _ _ _ _ _ _ I_Near hr T_Near.mgC (@pa_cX _ _ _ _ _ (@pv _ 0 _ _ (by rfl) (by first | exact Or.inl rfl | exact Or.inr (Or.inl rfl) | exact Or.inr (Or.inr rfl)) (by decide) (by decide)) (@pa_nil _) (by rfl)) (by decide) (by rfl) (by decide) (by rfl) (by rfl)) (by rfl) (by first | exact .inl rfl | exact .inr rfl | assumption)) (@pss_cons _ _ _ _ _ (@ps_set _ _ 3 _ _ _ _ sc__law_forty.nd rfl (by first | exact Or.inl rfl | exact Or.inr rfl) (@pe_str _ _ _ _) (by rfl) (by first | exact .inl rfl | exact .inr rfl | assumption)) (@pss_cons _ _ _ _ _ (@ps_setC _ _ _ _ _ _ _ _ _ _ _ 4 _ _ _ ["_law_k"] ["_law_letters"] [3] rfl sc__law_forty.nd rfl (by first | exact Or.inl rfl | exact Or.inr rfl) _ cs__law_forty_0 (@pi_range1 _ _ _ _ _ _ rfl (hb _ (by decide)) (@pa_cX _ _ _ _ _ (@pe_int _ _ _ _) (@pa_nil _) (by rfl)) (by rfl)) (fun _ _ _ _ => (@pg_name _ _ 0 _ cs__law_forty_0.nd rfl (by first | exact Or.inl rfl | exact Or.inr rfl) (by first | exact .inl rfl | exact .inr rfl | assumption))) (fun _ _ _ _ => (@pf_nil _)) (fun _ _ _ _ => (@pe_op _ _ _ _ _ _ _ _ op_add_str (@pe_ix _ _ _ _ _ _ _ ix_str (@pv _ 1 _ _ (by rfl) (by first | exact Or.inl rfl | exact Or.inr (Or.inl rfl) | exact Or.inr (Or.inr rfl)) (by decide) (by decide)) (@pe_op _ _ _ _ _ _ _ _ op_mod (@pv _ 0 _ _ (by rfl) (by first | exact Or.inl rfl | exact Or.inr (Or.inl rfl) | exact Or.inr (Or.inr rfl)) (by decide) (by decide)) (@pe_int _ _ _ _)) (fun _ _ => rfl)) (@pe_op _ _ _ _ _ _ _ _ op_mulS (@pe_ix _ _ _ _ _ _ _ ix_str (@pe_str _ _ _ _) (@pe_op _ _ _ _ _ _ _ _ op_fdiv (@pv _ 0 _ _ (by rfl) (by first | exact Or.inl rfl | exact Or.inr (Or.inl rfl) | exact Or.inr (Or.inr rfl)) (by decide) (by decide)) (@pe_int _ _ _ _)) (fun _ _ => rfl)) (@pe_op _ _ _ _ _ _ _ _ op_add (@pe_op _ _ _ _ _ _ _ _ op_mod (@pv _ 0 _ _ (by rfl) (by first | exact Or.inl rfl | exact Or.inr (Or.inl rfl) | exact Or.inr (Or.inr rfl)) (by decide) (by decide)) (@pe_int _ _ _ _)) (@pe_int _ _ _ _))))) rfl (by rfl) (by rfl) (by rfl) (by first | exact .inl rfl | exact .inr rfl | assumption) (by intro _; rfl)) (@pss_cons _ _ _ _ _ (@ps_for _ _ _ _ _ _ _ _ PassesOwn.never rfl (@pi_range1 _ _ _ _ _ _ rfl (hb _ (by decide)) (@pa_cX _ _ _ _ _ (@pe_int _ _ _ _) (@pa_nil _) (by rfl)) (by rfl)) (@pg_name _ _ 5 _ sc__law_forty.nd rfl (by first | exact Or.inl rfl | exact Or.inr rfl) (by first | exact .inl rfl | exact .inr rfl | assumption)) (@pss_one _ _ _ (@ps_expr _ _ _ _ (@pe_mth _ _ _ _ _ _ _ _ _ _ _ _ _ _ _ M_Near_put T_Near.cl hr (@pv _ 2 _ _ (by rfl) (by first | exact Or.inl rfl | exact Or.inr (Or.inl rfl) | exact Or.inr (Or.inr rfl)) (by decide) (by decide)) (@pa_cX _ _ _ _ _ (@pe_ix _ _ _ _ _ _ _ (ix_get hu1) (@pv _ 4 _ _ (by rfl) (by first | exact Or.inl rfl | exact Or.inr (Or.inl rfl) | exact Or.inr (Or.inr rfl)) (by decide) (by decide)) (@pv _ 5 _ _ (by rfl) (by first | exact Or.inl rfl | exact Or.inr (Or.inl rfl) | exact Or.inr (Or.inr rfl)) (by decide) (by decide)) (fun _ _ => rfl)) (@pa_cX _ _ _ _ _ (@pe_op _ _ _ _ _ _ _ _ op_mod (@pv _ 5 _ _ (by rfl) (by first | exact Or.inl rfl | exact Or.inr (Or.inl rfl) | exact Or.inr (Or.inr rfl)) (by decide) (by decide)) (@pe_int _ _ _ _)) (@pa_cX _ _ _ _ _ (@pe_op _ _ _ _ _ _ _ _ op_sub (@pv _ 1 _ _ (by rfl) (by first | exact Or.inl rfl | exact Or.inr (Or.inl rfl) | exact Or.inr (Or.inr rfl)) (by decide) (by decide)) (@pe_op _ _ _ _ _ _ _ _ op_mod (@pv _ 5 _ _ (by rfl) (by first | exact Or.inl rfl | exact Or.inr (Or.inl rfl) | exact Or.inr (Or.inr rfl)) (by decide) (by decide)) (@pe_int _ _ _ _))) (@pa_nil _) (by rfl)) (by rfl)) (by rfl)) (by decide) (by rfl) (by rfl) (by rfl)) (by rfl))) (by intro _; rfl)) (@pss_cons _ _ _ _ _ (@ps_if _ _ _ _ _ _ _ _ (@pt_cmpR _ _ _ _ _ _ _ _ (op_neX hu) (@pe_comp _ _ _ _ _ _ _ _ _ _ _ ["_law_name"] ["_law_near", "_law_turn"] [2, 1] rfl _ cs__law_forty_1 (@pi_listK _ K _ _ _ (@pv _ 4 _ _ (by rfl) (by first | exact Or.inl rfl | exact Or.inr (Or.inl rfl) | exact Or.inr (Or.inr rfl)) (by decide) (by decide)) (by rfl)) (fun _ _ _ _ => (@pg_name _ _ 0 _ cs__law_forty_1.nd rfl (by first | exact Or.inl rfl | exact Or.inr rfl) (by first | exact .inl rfl | exact .inr rfl | assumption))) (fun _ _ _ _ => (@pf_nil _)) (fun _ _ _ _ => (@pe_mth _ _ _ _ _ _ _ _ _ _ _ _ _ _ _ M_Near_find T_Near.cl hr (@pv _ 1 _ _ (by rfl) (by first | exact Or.inl rfl | exact Or.inr (Or.inl rfl) | exact Or.inr (Or.inr rfl)) (by decide) (by decide)) (@pa_cX _ _ _ _ _ (@pv _ 0 _ _ (by rfl) (by first | exact Or.inl rfl | exact Or.inr (Or.inl rfl) | exact Or.inr (Or.inr rfl)) (by decide) (by decide)) (@pa_cX _ _ _ _ _ (@pv _ 2 _ _ (by rfl) (by first | exact Or.inl rfl | exact Or.inr (Or.inl rfl) | exact Or.inr (Or.inr rfl)) (by decide) (by decide)) (@pa_nil _) (by rfl)) (by rfl)) (by decide) (by rfl) (by rfl) (by rfl))) (by rfl) (by rfl) (by rfl) (by intro _; rfl)) (@pe_comp _ _ _ _ _ _ _ _ _ _ _ ["_law_k"] ["_law_keep"] [0] rfl _ cs__law_forty_2 (@pi_range1 _ _ _ _ _ _ rfl (hb _ (by decide)) (@pa_cX _ _ _ _ _ (@pe_int _ _ _ _) (@pa_nil _) (by rfl)) (by rfl)) (fun _ _ _ _ => (@pg_name _ _ 0 _ cs__law_forty_2.nd rfl (by first | exact Or.inl rfl | exact Or.inr rfl) (by first | exact .inl rfl | exact .inr rfl | assumption))) (fun _ _ _ _ => (@pf_nil _)) (fun _ _ _ _ => (@pe_ix _ _ _ _ _ _ _ (ix_get hu1) (@pe_lst _ _ _ _ (@pa_cX _ _ _ _ _ (@pe_op _ _ _ _ _ _ _ _ op_mod (@pv _ 0 _ _ (by rfl) (by first | exact Or.inl rfl | exact Or.inr (Or.inl rfl) | exact Or.inr (Or.inr rfl)) (by decide) (by decide)) (@pe_int _ _ _ _)) (@pa_cX _ _ _ _ _ (@pe_non _ _ _) (@pa_nil _) (by rfl)) (by rfl))) (@pe_callTy _ _ _ _ _ _ _ _ _ call_int1 rfl (hb _ (by decide)) bt_int (@pa_cX _ _ _ _ _ (@pe_cmpR _ _ _ _ _ _ _ _ op_gt (@pe_op _ _ _ _ _ _ _ _ op_mod (@pv _ 0 _ _ (by rfl) (by first | exact Or.inl rfl | exact Or.inr (Or.inl rfl) | exact Or.inr (Or.inr rfl)) (by decide) (by decide)) (@pe_int _ _ _ _)) (@pv _ 1 _ _ (by rfl) (by first | exact Or.inl rfl | exact Or.inr (Or.inl rfl) | exact Or.inr (Or.inr rfl)) (by decide) (by decide)) (nomark _)) (@pa_nil _) (by rfl)) (by decide) (by decide) (by rfl) (by rfl)) (fun _ _ => rfl))) (by rfl) (by rfl) (by rfl) (by intro _; rfl)) (nomark _)) (@pss_one _ _ _ (@ps_ret _ _ _ _ (@pe_bl _ _ _ _))) (@pss_nil _)) (@pss_one _ _ _ (@ps_ret _ _ _ _ (@pe_and _ _ _ _ _ _ _ (@pe_cmpR _ _ _ _ _ _ _ _ op_eq (@pe_mth _ _ _ _ _ _ _ _ _ _ _ _ _ _ _ M_Near_thin T_Near.cl hr (@pv _ 2 _ _ (by rfl) (by first | exact Or.inl rfl | exact Or.inr (Or.inl rfl) | exact Or.inr (Or.inr rfl)) (by decide) (by decide)) (@pa_cX _ _ _ _ _ (@pe_op _ _ _ _ _ _ _ _ op_add (@pv _ 1 _ _ (by rfl) (by first | exact Or.inl rfl | exact Or.inr (Or.inl rfl) | exact Or.inr (Or.inr rfl)) (by decide) (by decide)) (@pv _ 0 _ _ (by rfl) (by first | exact Or.inl rfl | exact Or.inr (Or.inl rfl) | exact Or.inr (Or.inr rfl)) (by decide) (by decide))) (@pa_nil _) (by rfl)) (by decide) (by rfl) (by rfl) (by rfl)) (@pe_int _ _ _ _) (nomark _)) (@pe_one _ _ _ _ _ (@pe_cmpR _ _ _ _ _ _ _ _ op_eq (@pe_mth _ _ _ _ _ _ _ _ _ _ _ _ _ _ _ M_Near_find T_Near.cl hr (@pv _ 2 _ _ (by rfl) (by first | exact Or.inl rfl | exact Or.inr (Or.inl rfl) | exact Or.inr (Or.inr rfl)) (by decide) (by decide)) (@pa_cX _ _ _ _ _ (@pe_ix _ _ _ _ _ _ _ (ix_get hu1) (@pv _ 4 _ _ (by rfl) (by first | exact Or.inl rfl | exact Or.inr (Or.inl rfl) | exact Or.inr (Or.inr rfl)) (by decide) (by decide)) (@pe_int _ _ _ _) (fun _ _ => rfl)) (@pa_cX _ _ _ _ _ (@pe_op _ _ _ _ _ _ _ _ op_add (@pv _ 1 _ _ (by rfl) (by first | exact Or.inl rfl | exact Or.inr (Or.inl rfl) | exact Or.inr (Or.inr rfl)) (by decide) (by decide)) (@pv _ 0 _ _ (by rfl) (by first | exact Or.inl rfl | exact Or.inr (Or.inl rfl) | exact Or.inr (Or.inr rfl)) (by decide) (by decide))) (@pa_nil _) (by rfl)) (by rfl)) (by decide) (by rfl) (by rfl) (by rfl)) (@pe_int _ _ _ _) (nomark _))))))))))), ?_⟩
    simp (maxSteps := 1000000) only [tFor_eq, tComp_eq, rRngs, rListR, HO.rng.injEq, tDKeys, rSortL, rSortK, ixN_10, ixN_20, ixN_21, ixN_30, ixN_31, ixN_32, ixN_40, ixN_41, ixN_42, ixN_43, ixN_50, ixN_51, ixN_52, ixN_53, ixN_54, rNe_nn, rEq_nn, rNe_in, rEq_in, rNe_ni, rEq_ni, gSeqX, rLeS, rEq_ss, rNe_ss, rStr1, rAllX, rAnyX, rListD, iStr, rSumX, tBL, tBL0, rExtend, rPopAt, rPop, rReverse, rClear, rIsIX, tyX_n, tyX_b, tyX_i, tyX_s, tyX_r, tyO_l, tyO_t, tyO_d, V.ty.injEq, kT_Noin, kT_Nobo, kT_Nost, kT_Noli, kT_Notu, kT_Nodi, kT_boin, kT_bobo, kT_bost, kT_boli, kT_botu, kT_bodi, kT_inin, kT_inbo, kT_inst, kT_inli, kT_intu, kT_indi, kT_stin, kT_stbo, kT_stst, kT_stli, kT_sttu, kT_stdi, kT_liin, kT_libo, kT_list, kT_lili, kT_litu, kT_lidi, kT_tuin, kT_tubo, kT_tust, kT_tuli, kT_tutu, kT_tudi, kT_diin, kT_dibo, kT_dist, kT_dili, kT_ditu, kT_didi, rGet, getO_l, getO_t, getO_di, getO_ds, rLenX, lenX_r, lenX_s', lenO_l, lenO_t, lenO_d, Option.bind_some, tTruX, truX_n, truX_b, truX_i, truX_r, truO_l, truO_t, truO_d, rInX, rNotInX, inO_l', inO_t', inO_di, inO_ds, rSetX, setO_l, setO_di', setO_ds', rSlX, rListX, seqO_l, seqO_t, rTupX, gTupX, gCons, gNil, gSub, atI_0, atI_1, atI_2, atI_3, tDNewK, Nat.reduceSub, upd_same, upd_upd, Nat.reduceLT, HO.lst.injEq, HO.tup.injEq, HO.dK.injEq, HO.ins.injEq, Option.map_some, Option.isSome_some, Int.reduceEq, Int.reduceLT, Int.reduceLE, Nat.reduceAdd, List.isEmpty_nil, List.isEmpty_cons, ne_eq, not_false_eq_true, tDGs, sDPs, rIsB, rIsntB, tMeth, tMake, tDGet, sDPut, tFld, sFld, tDisp, tPairs, tNever, decide_true, decide_false, truV_bl, clsV_ty, V.ty.injEq, exists_eq', exists_eq, Bool.not_true, Bool.not_false, Bool.not_not, rLen, rListOf, rTupOf, rAny, rAll, rIsI, tTru, iRng1, iRng2, iList, tYes, cSt, List.drop_succ_cons, List.drop_zero, cxOf_K, cxC_K,  tBM, tBM0, rAppend, tSl, rSlL, tNoPart, tPart, rIxL, rIxT, rCat, List.cons.injEq, rEq_ii, rNe_ii, rEq_bb, rNe_bb, tSeq, exists_and_left, if_false, if_true, reduceIte, Bool.false_eq_true, tIfS, tAnd, tOr, tNot, tTest, tOp, tUn, tVar, tC, rI, rI0, rU, tRet, tRetN, tAsg, gName, tNext, tAndV, tOrV, tNotV, tIf, tCall, tCons, tNil, tCB, tDrop, tLst, tTup, tChain, L2.start, List.map_cons, List.map_nil, List.length_cons, List.length_nil, List.replicate, List.cons_append, List.nil_append, List.getElem?_cons_zero, List.getElem?_cons_succ, List.set_cons_zero, List.set_cons_succ, Option.some.injEq, exists_eq_left', exists_eq_left, V.int.injEq, V.bl.injEq, V.ref.injEq, V.str.injEq, exists_const, and_true, true_and, reduceCtorEq, false_and, exists_false, or_false, false_or, and_assoc, List.append_nil, sp_ninit]
    intro x dx hx hdx _ pg H1 hpg O1 k1
    have s1 : Same H H1 := make_same hx hdx k1
    refine ⟨by decide, by decide, comp_pureR (m := 40) (by rw [sizeLine_eq]; decide) (fun i => .str (nm i.toNat)) ?_ ?_ (gName_mono 0)⟩
    · intro H2 i Q' hi s2 hq
      have ei : (0 : Int) + (i : Int) = (i : Int) := by omega
      rw [ei] at hq ⊢
      rw [Int.toNat_natCast] at hq
      simp (maxSteps := 1000000) only [tFor_eq, tComp_eq, rRngs, rListR, HO.rng.injEq, tDKeys, rSortL, rSortK, ixN_10, ixN_20, ixN_21, ixN_30, ixN_31, ixN_32, ixN_40, ixN_41, ixN_42, ixN_43, ixN_50, ixN_51, ixN_52, ixN_53, ixN_54, rNe_nn, rEq_nn, rNe_in, rEq_in, rNe_ni, rEq_ni, gSeqX, rLeS, rEq_ss, rNe_ss, rStr1, rAllX, rAnyX, rListD, iStr, rSumX, tBL, tBL0, rExtend, rPopAt, rPop, rReverse, rClear, rIsIX, tyX_n, tyX_b, tyX_i, tyX_s, tyX_r, tyO_l, tyO_t, tyO_d, V.ty.injEq, kT_Noin, kT_Nobo, kT_Nost, kT_Noli, kT_Notu, kT_Nodi, kT_boin, kT_bobo, kT_bost, kT_boli, kT_botu, kT_bodi, kT_inin, kT_inbo, kT_inst, kT_inli, kT_intu, kT_indi, kT_stin, kT_stbo, kT_stst, kT_stli, kT_sttu, kT_stdi, kT_liin, kT_libo, kT_list, kT_lili, kT_litu, kT_lidi, kT_tuin, kT_tubo, kT_tust, kT_tuli, kT_tutu, kT_tudi, kT_diin, kT_dibo, kT_dist, kT_dili, kT_ditu, kT_didi, rGet, getO_l, getO_t, getO_di, getO_ds, rLenX, lenX_r, lenX_s', lenO_l, lenO_t, lenO_d, Option.bind_some, tTruX, truX_n, truX_b, truX_i, truX_r, truO_l, truO_t, truO_d, rInX, rNotInX, inO_l', inO_t', inO_di, inO_ds, rSetX, setO_l, setO_di', setO_ds', rSlX, rListX, seqO_l, seqO_t, rTupX, gTupX, gCons, gNil, gSub, atI_0, atI_1, atI_2, atI_3, tDNewK, Nat.reduceSub, upd_same, upd_upd, Nat.reduceLT, HO.lst.injEq, HO.tup.injEq, HO.dK.injEq, HO.ins.injEq, Option.map_some, Option.isSome_some, Int.reduceEq, Int.reduceLT, Int.reduceLE, Nat.reduceAdd, List.isEmpty_nil, List.isEmpty_cons, ne_eq, not_false_eq_true, tDGs, sDPs, rIsB, rIsntB, tMeth, tMake, tDGet, sDPut, tFld, sFld, tDisp, tPairs, tNever, decide_true, decide_false, truV_bl, clsV_ty, V.ty.injEq, exists_eq', exists_eq, Bool.not_true, Bool.not_false, Bool.not_not, rLen, rListOf, rTupOf, rAny, rAll, rIsI, tTru, iRng1, iRng2, iList, tYes, cSt, List.drop_succ_cons, List.drop_zero, cxOf_K, cxC_K,  tBM, tBM0, rAppend, tSl, rSlL, tNoPart, tPart, rIxL, rIxT, rCat, List.cons.injEq, rEq_ii, rNe_ii, rEq_bb, rNe_bb, tSeq, exists_and_left, if_false, if_true, reduceIte, Bool.false_eq_true, tIfS, tAnd, tOr, tNot, tTest, tOp, tUn, tVar, tC, rI, rI0, rU, tRet, tRetN, tAsg, gName, tNext, tAndV, tOrV, tNotV, tIf, tCall, tCons, tNil, tCB, tDrop, tLst, tTup, tChain, L2.start, List.map_cons, List.map_nil, List.length_cons, List.length_nil, List.replicate, List.cons_append, List.nil_append, List.getElem?_cons_zero, List.getElem?_cons_succ, List.set_cons_zero, List.set_cons_succ, Option.some.injEq, exists_eq_left', exists_eq_left, V.int.injEq, V.bl.injEq, V.ref.injEq, V.str.injEq, exists_const, and_true, true_and, reduceCtorEq, false_and, exists_false, or_false, false_or, and_assoc, List.append_nil, List.map_cons, List.map_nil, Option.join_some]
      have c1 := nm_a ⟨i, hi⟩
      have c2 := nm_b ⟨i, hi⟩
      have c3 := nm_l ⟨i, hi⟩
      dsimp only at c1 c2 c3
      have e3 : ((i : Int) % 3 + 1) = ((i % 3 + 1 : Nat) : Int) := by omega
      have hm : (Txt.mul ⟨#[120 + i / 26]⟩ ((i % 3 + 1 : Nat) : Int)).length ≤ 10 := by
        have : (nm i).length = 1 + (Txt.mul ⟨#[120 + i / 26]⟩ ((i % 3 + 1 : Nat) : Int)).length := strLen_append _ _
        omega
      rw [e3]
      refine ⟨L26, _, _, rfl, rfl, by decide, c1, ⟨by decide, by decide⟩, L3, _, _, rfl, rfl, by decide, c2, _, _, rfl, rfl, PyProof.Rows.mulOk_of 1 3 (Nat.le_refl 1) (by omega) (by omega) (by decide) (by decide), _, rfl, _, rfl, ?_, hq⟩
      show 1 + _ ≤ sizeLine
      rw [sizeLine_eq]
      omega
    · intro D1 hD
      generalize zD : upd H1 D1 _ = HD
      obtain ⟨sD, eD⟩ := new_same zD hD
      have eD : HD D1 = some (.lst nmsV) := eD
      have hpg0 : H pg = none := (upd_none (upd_none hpg).2).2
      refine ⟨by decide, by decide, for_range (n := (40 : Int).toNat) (Lf C H x dx pg D1 kp t) ⟨[], none, rfl, O1.same sD, by simp, eD, s1.trans sD, hpg0⟩ ?_ ?_⟩
      · rintro k σ H3 hk ⟨kvs, v5, rfl, O3, hl3, eD3, s3, hp3⟩
        have hk40 : k < 40 := hk
        have ek : (0 : Int) + (k : Int) = (k : Int) := by omega
        have ex3 := O3.ins
        have c1 := nv_at hk40
        have e12 : (k : Int) % 12 = ((k % 12 : Nat) : Int) := by omega
        have e2 : (k : Int) % 2 = ((k % 2 : Nat) : Int) := by omega
        simp (maxSteps := 1000000) only [tFor_eq, tComp_eq, rRngs, rListR, HO.rng.injEq, tDKeys, rSortL, rSortK, ixN_10, ixN_20, ixN_21, ixN_30, ixN_31, ixN_32, ixN_40, ixN_41, ixN_42, ixN_43, ixN_50, ixN_51, ixN_52, ixN_53, ixN_54, rNe_nn, rEq_nn, rNe_in, rEq_in, rNe_ni, rEq_ni, gSeqX, rLeS, rEq_ss, rNe_ss, rStr1, rAllX, rAnyX, rListD, iStr, rSumX, tBL, tBL0, rExtend, rPopAt, rPop, rReverse, rClear, rIsIX, tyX_n, tyX_b, tyX_i, tyX_s, tyX_r, tyO_l, tyO_t, tyO_d, V.ty.injEq, kT_Noin, kT_Nobo, kT_Nost, kT_Noli, kT_Notu, kT_Nodi, kT_boin, kT_bobo, kT_bost, kT_boli, kT_botu, kT_bodi, kT_inin, kT_inbo, kT_inst, kT_inli, kT_intu, kT_indi, kT_stin, kT_stbo, kT_stst, kT_stli, kT_sttu, kT_stdi, kT_liin, kT_libo, kT_list, kT_lili, kT_litu, kT_lidi, kT_tuin, kT_tubo, kT_tust, kT_tuli, kT_tutu, kT_tudi, kT_diin, kT_dibo, kT_dist, kT_dili, kT_ditu, kT_didi, rGet, getO_l, getO_t, getO_di, getO_ds, rLenX, lenX_r, lenX_s', lenO_l, lenO_t, lenO_d, Option.bind_some, tTruX, truX_n, truX_b, truX_i, truX_r, truO_l, truO_t, truO_d, rInX, rNotInX, inO_l', inO_t', inO_di, inO_ds, rSetX, setO_l, setO_di', setO_ds', rSlX, rListX, seqO_l, seqO_t, rTupX, gTupX, gCons, gNil, gSub, atI_0, atI_1, atI_2, atI_3, tDNewK, Nat.reduceSub, upd_same, upd_upd, Nat.reduceLT, HO.lst.injEq, HO.tup.injEq, HO.dK.injEq, HO.ins.injEq, Option.map_some, Option.isSome_some, Int.reduceEq, Int.reduceLT, Int.reduceLE, Nat.reduceAdd, List.isEmpty_nil, List.isEmpty_cons, ne_eq, not_false_eq_true, tDGs, sDPs, rIsB, rIsntB, tMeth, tMake, tDGet, sDPut, tFld, sFld, tDisp, tPairs, tNever, decide_true, decide_false, truV_bl, clsV_ty, V.ty.injEq, exists_eq', exists_eq, Bool.not_true, Bool.not_false, Bool.not_not, rLen, rListOf, rTupOf, rAny, rAll, rIsI, tTru, iRng1, iRng2, iList, tYes, cSt, List.drop_succ_cons, List.drop_zero, cxOf_K, cxC_K,  tBM, tBM0, rAppend, tSl, rSlL, tNoPart, tPart, rIxL, rIxT, rCat, List.cons.injEq, rEq_ii, rNe_ii, rEq_bb, rNe_bb, tSeq, exists_and_left, if_false, if_true, reduceIte, Bool.false_eq_true, tIfS, tAnd, tOr, tNot, tTest, tOp, tUn, tVar, tC, rI, rI0, rU, tRet, tRetN, tAsg, gName, tNext, tAndV, tOrV, tNotV, tIf, tCall, tCons, tNil, tCB, tDrop, tLst, tTup, tChain, L2.start, List.map_cons, List.map_nil, List.length_cons, List.length_nil, List.replicate, List.cons_append, List.nil_append, List.getElem?_cons_zero, List.getElem?_cons_succ, List.set_cons_zero, List.set_cons_succ, Option.some.injEq, exists_eq_left', exists_eq_left, V.int.injEq, V.bl.injEq, V.ref.injEq, V.str.injEq, exists_const, and_true, true_and, reduceCtorEq, false_and, exists_false, or_false, false_or, and_assoc, List.append_nil, ek, ex3, T_Near.cl, T_Near.no "keep" (by decide), T_Near.no "answers" (by decide), fs_Near_keep, fs_Near_answers, fn_Near___init__, fn_Near_put, fn_Near_is_fresh, fn_Near_find, fn_Near_thin, fl_Near, fp_Near_keep, fp_Near_answers, fq_Near_0, fq_Near_1, eD3, atI_nat', c1, e12, e2]
        refine ⟨x, dx, pg, kp, _, _, some ((k % 12 : Nat) : Int), kvs, mF t k, rfl, O3, by omega, fun kvs' H4 O4 hl4 k4 => ?_⟩
        exact ⟨kvs', _, rfl, O4, by omega, k4 _ _ eD3 (by simp; exact ne_of eD3 O3.dic (by intro z; cases z)), fun b o e => k4 _ _ (s3 _ _ e) (by simp; exact ne_of_none e hp3), hp3⟩
      · rintro σ H3 ⟨kvs, v5, rfl, O3, hl3, eD3, s3, hp3⟩
        have O3 : NearAt C H3 x dx pg kp kvs (mF t 40) := O3
        have hl3 : kvs.length ≤ 40 := hl3
        have ex3 := O3.ins
        have hnl : nmsV.length = 40 := by simp [nmsV]
        simp (maxSteps := 1000000) only [tFor_eq, tComp_eq, rRngs, rListR, HO.rng.injEq, tDKeys, rSortL, rSortK, ixN_10, ixN_20, ixN_21, ixN_30, ixN_31, ixN_32, ixN_40, ixN_41, ixN_42, ixN_43, ixN_50, ixN_51, ixN_52, ixN_53, ixN_54, rNe_nn, rEq_nn, rNe_in, rEq_in, rNe_ni, rEq_ni, gSeqX, rLeS, rEq_ss, rNe_ss, rStr1, rAllX, rAnyX, rListD, iStr, rSumX, tBL, tBL0, rExtend, rPopAt, rPop, rReverse, rClear, rIsIX, tyX_n, tyX_b, tyX_i, tyX_s, tyX_r, tyO_l, tyO_t, tyO_d, V.ty.injEq, kT_Noin, kT_Nobo, kT_Nost, kT_Noli, kT_Notu, kT_Nodi, kT_boin, kT_bobo, kT_bost, kT_boli, kT_botu, kT_bodi, kT_inin, kT_inbo, kT_inst, kT_inli, kT_intu, kT_indi, kT_stin, kT_stbo, kT_stst, kT_stli, kT_sttu, kT_stdi, kT_liin, kT_libo, kT_list, kT_lili, kT_litu, kT_lidi, kT_tuin, kT_tubo, kT_tust, kT_tuli, kT_tutu, kT_tudi, kT_diin, kT_dibo, kT_dist, kT_dili, kT_ditu, kT_didi, rGet, getO_l, getO_t, getO_di, getO_ds, rLenX, lenX_r, lenX_s', lenO_l, lenO_t, lenO_d, Option.bind_some, tTruX, truX_n, truX_b, truX_i, truX_r, truO_l, truO_t, truO_d, rInX, rNotInX, inO_l', inO_t', inO_di, inO_ds, rSetX, setO_l, setO_di', setO_ds', rSlX, rListX, seqO_l, seqO_t, rTupX, gTupX, gCons, gNil, gSub, atI_0, atI_1, atI_2, atI_3, tDNewK, Nat.reduceSub, upd_same, upd_upd, Nat.reduceLT, HO.lst.injEq, HO.tup.injEq, HO.dK.injEq, HO.ins.injEq, Option.map_some, Option.isSome_some, Int.reduceEq, Int.reduceLT, Int.reduceLE, Nat.reduceAdd, List.isEmpty_nil, List.isEmpty_cons, ne_eq, not_false_eq_true, tDGs, sDPs, rIsB, rIsntB, tMeth, tMake, tDGet, sDPut, tFld, sFld, tDisp, tPairs, tNever, decide_true, decide_false, truV_bl, clsV_ty, V.ty.injEq, exists_eq', exists_eq, Bool.not_true, Bool.not_false, Bool.not_not, rLen, rListOf, rTupOf, rAny, rAll, rIsI, tTru, iRng1, iRng2, iList, tYes, cSt, List.drop_succ_cons, List.drop_zero, cxOf_K, cxC_K,  tBM, tBM0, rAppend, tSl, rSlL, tNoPart, tPart, rIxL, rIxT, rCat, List.cons.injEq, rEq_ii, rNe_ii, rEq_bb, rNe_bb, tSeq, exists_and_left, if_false, if_true, reduceIte, Bool.false_eq_true, tIfS, tAnd, tOr, tNot, tTest, tOp, tUn, tVar, tC, rI, rI0, rU, tRet, tRetN, tAsg, gName, tNext, tAndV, tOrV, tNotV, tIf, tCall, tCons, tNil, tCB, tDrop, tLst, tTup, tChain, L2.start, List.map_cons, List.map_nil, List.length_cons, List.length_nil, List.replicate, List.cons_append, List.nil_append, List.getElem?_cons_zero, List.getElem?_cons_succ, List.set_cons_zero, List.set_cons_succ, Option.some.injEq, exists_eq_left', exists_eq_left, V.int.injEq, V.bl.injEq, V.ref.injEq, V.str.injEq, exists_const, and_true, true_and, reduceCtorEq, false_and, exists_false, or_false, false_or, and_assoc, List.append_nil, eD3]
        refine ⟨⟨_, SqL.of eD3⟩, comp_pure (SqL.of eD3) (by rw [sizeLine_eq, hnl]; omega) (fF t kp) ?_ ?_ (gName_mono 0)⟩
        · intro H4 v Q' hv s4 hq
          obtain ⟨i, _, rfl⟩ := List.mem_map.mp hv
          have ex4 := s4 _ _ ex3
          simp (maxSteps := 1000000) only [tFor_eq, tComp_eq, rRngs, rListR, HO.rng.injEq, tDKeys, rSortL, rSortK, ixN_10, ixN_20, ixN_21, ixN_30, ixN_31, ixN_32, ixN_40, ixN_41, ixN_42, ixN_43, ixN_50, ixN_51, ixN_52, ixN_53, ixN_54, rNe_nn, rEq_nn, rNe_in, rEq_in, rNe_ni, rEq_ni, gSeqX, rLeS, rEq_ss, rNe_ss, rStr1, rAllX, rAnyX, rListD, iStr, rSumX, tBL, tBL0, rExtend, rPopAt, rPop, rReverse, rClear, rIsIX, tyX_n, tyX_b, tyX_i, tyX_s, tyX_r, tyO_l, tyO_t, tyO_d, V.ty.injEq, kT_Noin, kT_Nobo, kT_Nost, kT_Noli, kT_Notu, kT_Nodi, kT_boin, kT_bobo, kT_bost, kT_boli, kT_botu, kT_bodi, kT_inin, kT_inbo, kT_inst, kT_inli, kT_intu, kT_indi, kT_stin, kT_stbo, kT_stst, kT_stli, kT_sttu, kT_stdi, kT_liin, kT_libo, kT_list, kT_lili, kT_litu, kT_lidi, kT_tuin, kT_tubo, kT_tust, kT_tuli, kT_tutu, kT_tudi, kT_diin, kT_dibo, kT_dist, kT_dili, kT_ditu, kT_didi, rGet, getO_l, getO_t, getO_di, getO_ds, rLenX, lenX_r, lenX_s', lenO_l, lenO_t, lenO_d, Option.bind_some, tTruX, truX_n, truX_b, truX_i, truX_r, truO_l, truO_t, truO_d, rInX, rNotInX, inO_l', inO_t', inO_di, inO_ds, rSetX, setO_l, setO_di', setO_ds', rSlX, rListX, seqO_l, seqO_t, rTupX, gTupX, gCons, gNil, gSub, atI_0, atI_1, atI_2, atI_3, tDNewK, Nat.reduceSub, upd_same, upd_upd, Nat.reduceLT, HO.lst.injEq, HO.tup.injEq, HO.dK.injEq, HO.ins.injEq, Option.map_some, Option.isSome_some, Int.reduceEq, Int.reduceLT, Int.reduceLE, Nat.reduceAdd, List.isEmpty_nil, List.isEmpty_cons, ne_eq, not_false_eq_true, tDGs, sDPs, rIsB, rIsntB, tMeth, tMake, tDGet, sDPut, tFld, sFld, tDisp, tPairs, tNever, decide_true, decide_false, truV_bl, clsV_ty, V.ty.injEq, exists_eq', exists_eq, Bool.not_true, Bool.not_false, Bool.not_not, rLen, rListOf, rTupOf, rAny, rAll, rIsI, tTru, iRng1, iRng2, iList, tYes, cSt, List.drop_succ_cons, List.drop_zero, cxOf_K, cxC_K,  tBM, tBM0, rAppend, tSl, rSlL, tNoPart, tPart, rIxL, rIxT, rCat, List.cons.injEq, rEq_ii, rNe_ii, rEq_bb, rNe_bb, tSeq, exists_and_left, if_false, if_true, reduceIte, Bool.false_eq_true, tIfS, tAnd, tOr, tNot, tTest, tOp, tUn, tVar, tC, rI, rI0, rU, tRet, tRetN, tAsg, gName, tNext, tAndV, tOrV, tNotV, tIf, tCall, tCons, tNil, tCB, tDrop, tLst, tTup, tChain, L2.start, List.map_cons, List.map_nil, List.length_cons, List.length_nil, List.replicate, List.cons_append, List.nil_append, List.getElem?_cons_zero, List.getElem?_cons_succ, List.set_cons_zero, List.set_cons_succ, Option.some.injEq, exists_eq_left', exists_eq_left, V.int.injEq, V.bl.injEq, V.ref.injEq, V.str.injEq, exists_const, and_true, true_and, reduceCtorEq, false_and, exists_false, or_false, false_or, and_assoc, List.append_nil, ex4, T_Near.cl, T_Near.no "keep" (by decide), T_Near.no "answers" (by decide), fs_Near_keep, fs_Near_answers, fn_Near___init__, fn_Near_put, fn_Near_is_fresh, fn_Near_find, fn_Near_thin, fl_Near, fp_Near_keep, fp_Near_answers, fq_Near_0, fq_Near_1, List.map_cons, List.map_nil, Option.join_some]
          exact ⟨x, dx, pg, kp, t, _, kvs, _, rfl, O3.same s4, hq⟩
        · intro D4 hD4
          rw [fF_map]
          generalize z4 : upd H3 D4 _ = H4
          obtain ⟨s4, e4⟩ := new_same z4 hD4
          refine ⟨by decide, by decide, comp_range (m := 40) (by rw [sizeLine_eq]; decide) (fun D i acc H' => acc = ((List.range i).map fun i => optV (ans kp i)) ∧ Same H4 H' ∧ H' D = some (.lst acc)) (fun D hD => ⟨rfl, Same.upd_new hD, upd_same⟩) ?_ ?_ ?_⟩
          · rintro D i acc H' hD hi ⟨rfl, s5, e5⟩
            exact ⟨e5, by simp⟩
          · rintro D i acc H' hD hi ⟨rfl, s5, e5⟩
            have hi40 : i < 40 := hi
            have ei : (0 : Int) + (i : Int) = (i : Int) := by omega
            simp (maxSteps := 1000000) only [tFor_eq, tComp_eq, rRngs, rListR, HO.rng.injEq, tDKeys, rSortL, rSortK, ixN_10, ixN_20, ixN_21, ixN_30, ixN_31, ixN_32, ixN_40, ixN_41, ixN_42, ixN_43, ixN_50, ixN_51, ixN_52, ixN_53, ixN_54, rNe_nn, rEq_nn, rNe_in, rEq_in, rNe_ni, rEq_ni, gSeqX, rLeS, rEq_ss, rNe_ss, rStr1, rAllX, rAnyX, rListD, iStr, rSumX, tBL, tBL0, rExtend, rPopAt, rPop, rReverse, rClear, rIsIX, tyX_n, tyX_b, tyX_i, tyX_s, tyX_r, tyO_l, tyO_t, tyO_d, V.ty.injEq, kT_Noin, kT_Nobo, kT_Nost, kT_Noli, kT_Notu, kT_Nodi, kT_boin, kT_bobo, kT_bost, kT_boli, kT_botu, kT_bodi, kT_inin, kT_inbo, kT_inst, kT_inli, kT_intu, kT_indi, kT_stin, kT_stbo, kT_stst, kT_stli, kT_sttu, kT_stdi, kT_liin, kT_libo, kT_list, kT_lili, kT_litu, kT_lidi, kT_tuin, kT_tubo, kT_tust, kT_tuli, kT_tutu, kT_tudi, kT_diin, kT_dibo, kT_dist, kT_dili, kT_ditu, kT_didi, rGet, getO_l, getO_t, getO_di, getO_ds, rLenX, lenX_r, lenX_s', lenO_l, lenO_t, lenO_d, Option.bind_some, tTruX, truX_n, truX_b, truX_i, truX_r, truO_l, truO_t, truO_d, rInX, rNotInX, inO_l', inO_t', inO_di, inO_ds, rSetX, setO_l, setO_di', setO_ds', rSlX, rListX, seqO_l, seqO_t, rTupX, gTupX, gCons, gNil, gSub, atI_0, atI_1, atI_2, atI_3, tDNewK, Nat.reduceSub, upd_same, upd_upd, Nat.reduceLT, HO.lst.injEq, HO.tup.injEq, HO.dK.injEq, HO.ins.injEq, Option.map_some, Option.isSome_some, Int.reduceEq, Int.reduceLT, Int.reduceLE, Nat.reduceAdd, List.isEmpty_nil, List.isEmpty_cons, ne_eq, not_false_eq_true, tDGs, sDPs, rIsB, rIsntB, tMeth, tMake, tDGet, sDPut, tFld, sFld, tDisp, tPairs, tNever, decide_true, decide_false, truV_bl, clsV_ty, V.ty.injEq, exists_eq', exists_eq, Bool.not_true, Bool.not_false, Bool.not_not, rLen, rListOf, rTupOf, rAny, rAll, rIsI, tTru, iRng1, iRng2, iList, tYes, cSt, List.drop_succ_cons, List.drop_zero, cxOf_K, cxC_K,  tBM, tBM0, rAppend, tSl, rSlL, tNoPart, tPart, rIxL, rIxT, rCat, List.cons.injEq, rEq_ii, rNe_ii, rEq_bb, rNe_bb, tSeq, exists_and_left, if_false, if_true, reduceIte, Bool.false_eq_true, tIfS, tAnd, tOr, tNot, tTest, tOp, tUn, tVar, tC, rI, rI0, rU, tRet, tRetN, tAsg, gName, tNext, tAndV, tOrV, tNotV, tIf, tCall, tCons, tNil, tCB, tDrop, tLst, tTup, tChain, L2.start, List.map_cons, List.map_nil, List.length_cons, List.length_nil, List.replicate, List.cons_append, List.nil_append, List.getElem?_cons_zero, List.getElem?_cons_succ, List.set_cons_zero, List.set_cons_succ, Option.some.injEq, exists_eq_left', exists_eq_left, V.int.injEq, V.bl.injEq, V.ref.injEq, V.str.injEq, exists_const, and_true, true_and, reduceCtorEq, false_and, exists_false, or_false, false_or, and_assoc, List.append_nil, ei, List.map_cons, List.map_nil, Option.join_some]
            have hs : ∀ {b : Addr}, H' b = none → H4 b = none := fun {b} h => by
              cases z : H4 b with
              | none => rfl
              | some o => rw [s5 _ _ z] at h; cases h
            refine ⟨by decide, fun p hp => ⟨optV (ans kp i), ?_, ?_, ?_, ?_⟩⟩
            · have e12 : (i : Int) % 12 = ((i % 12 : Nat) : Int) := by omega
              have e2 : (i : Int) % 2 = ((i % 2 : Nat) : Int) := by omega
              rw [e12, e2]
              unfold ans
              by_cases hc : ((i % 2 : Nat) : Int) ≤ kp
              · rw [if_pos hc, decide_eq_false (by omega)]
                rfl
              · rw [if_neg hc, decide_eq_true (by omega)]
                rfl
            · rw [upd_ne (ne_of_none e5 hp)]
              exact e5
            · rw [List.range_succ, List.map_append]
              rfl
            · exact (s5.upd (hs hp)).upd hD
          · rintro D acc H' hD ⟨rfl, s5, e5⟩
            have s35 := s4.trans s5
            have O5 := O3.same s35
            have ex5 := O5.ins
            have eD5 := s35 _ _ eD3
            refine neX_same (d := .list ((List.range 40).map fun i => optD (ans kp i))) (.l (s5 _ _ e4) (ims_opt _ _)) (.l e5 (ims_opt _ _)) (Nat.le_trans (depth_list (n := 1) fun d hd => ?_) (by decide)) ?_
            · obtain ⟨i, _, rfl⟩ := List.mem_map.mp hd
              cases ans kp i <;> simp [optD, PyData.depth]
            simp (maxSteps := 1000000) only [tFor_eq, tComp_eq, rRngs, rListR, HO.rng.injEq, tDKeys, rSortL, rSortK, ixN_10, ixN_20, ixN_21, ixN_30, ixN_31, ixN_32, ixN_40, ixN_41, ixN_42, ixN_43, ixN_50, ixN_51, ixN_52, ixN_53, ixN_54, rNe_nn, rEq_nn, rNe_in, rEq_in, rNe_ni, rEq_ni, gSeqX, rLeS, rEq_ss, rNe_ss, rStr1, rAllX, rAnyX, rListD, iStr, rSumX, tBL, tBL0, rExtend, rPopAt, rPop, rReverse, rClear, rIsIX, tyX_n, tyX_b, tyX_i, tyX_s, tyX_r, tyO_l, tyO_t, tyO_d, V.ty.injEq, kT_Noin, kT_Nobo, kT_Nost, kT_Noli, kT_Notu, kT_Nodi, kT_boin, kT_bobo, kT_bost, kT_boli, kT_botu, kT_bodi, kT_inin, kT_inbo, kT_inst, kT_inli, kT_intu, kT_indi, kT_stin, kT_stbo, kT_stst, kT_stli, kT_sttu, kT_stdi, kT_liin, kT_libo, kT_list, kT_lili, kT_litu, kT_lidi, kT_tuin, kT_tubo, kT_tust, kT_tuli, kT_tutu, kT_tudi, kT_diin, kT_dibo, kT_dist, kT_dili, kT_ditu, kT_didi, rGet, getO_l, getO_t, getO_di, getO_ds, rLenX, lenX_r, lenX_s', lenO_l, lenO_t, lenO_d, Option.bind_some, tTruX, truX_n, truX_b, truX_i, truX_r, truO_l, truO_t, truO_d, rInX, rNotInX, inO_l', inO_t', inO_di, inO_ds, rSetX, setO_l, setO_di', setO_ds', rSlX, rListX, seqO_l, seqO_t, rTupX, gTupX, gCons, gNil, gSub, atI_0, atI_1, atI_2, atI_3, tDNewK, Nat.reduceSub, upd_same, upd_upd, Nat.reduceLT, HO.lst.injEq, HO.tup.injEq, HO.dK.injEq, HO.ins.injEq, Option.map_some, Option.isSome_some, Int.reduceEq, Int.reduceLT, Int.reduceLE, Nat.reduceAdd, List.isEmpty_nil, List.isEmpty_cons, ne_eq, not_false_eq_true, tDGs, sDPs, rIsB, rIsntB, tMeth, tMake, tDGet, sDPut, tFld, sFld, tDisp, tPairs, tNever, decide_true, decide_false, truV_bl, clsV_ty, V.ty.injEq, exists_eq', exists_eq, Bool.not_true, Bool.not_false, Bool.not_not, rLen, rListOf, rTupOf, rAny, rAll, rIsI, tTru, iRng1, iRng2, iList, tYes, cSt, List.drop_succ_cons, List.drop_zero, cxOf_K, cxC_K,  tBM, tBM0, rAppend, tSl, rSlL, tNoPart, tPart, rIxL, rIxT, rCat, List.cons.injEq, rEq_ii, rNe_ii, rEq_bb, rNe_bb, tSeq, exists_and_left, if_false, if_true, reduceIte, Bool.false_eq_true, tIfS, tAnd, tOr, tNot, tTest, tOp, tUn, tVar, tC, rI, rI0, rU, tRet, tRetN, tAsg, gName, tNext, tAndV, tOrV, tNotV, tIf, tCall, tCons, tNil, tCB, tDrop, tLst, tTup, tChain, L2.start, List.map_cons, List.map_nil, List.length_cons, List.length_nil, List.replicate, List.cons_append, List.nil_append, List.getElem?_cons_zero, List.getElem?_cons_succ, List.set_cons_zero, List.set_cons_succ, Option.some.injEq, exists_eq_left', exists_eq_left, V.int.injEq, V.bl.injEq, V.ref.injEq, V.str.injEq, exists_const, and_true, true_and, reduceCtorEq, false_and, exists_false, or_false, false_or, and_assoc, List.append_nil, ex5, T_Near.cl, T_Near.no "keep" (by decide), T_Near.no "answers" (by decide), fs_Near_keep, fs_Near_answers, fn_Near___init__, fn_Near_put, fn_Near_is_fresh, fn_Near_find, fn_Near_thin, fl_Near, fp_Near_keep, fp_Near_answers, fq_Near_0, fq_Near_1]
            refine ⟨x, dx, pg, kp, t + kp, kvs, _, rfl, O5, by omega, fun kvs' H6 O6 hl6 k6 => ?_⟩
            have h20 : (kvs'.length : Int) = 20 := by
              have := O6.count even_nd (thin40 k0)
              rw [this]
              rfl
            have ex6 := O6.ins
            have eD6 := k6 _ _ eD5 (by simp; exact ne_of eD5 O5.dic (by intro z; cases z))
            have c38 : atI nmsV 38 = some (.str (nm 38)) := (atI_nat' (n := 38)).trans (nv_at (by decide))
            simp (maxSteps := 1000000) only [tFor_eq, tComp_eq, rRngs, rListR, HO.rng.injEq, tDKeys, rSortL, rSortK, ixN_10, ixN_20, ixN_21, ixN_30, ixN_31, ixN_32, ixN_40, ixN_41, ixN_42, ixN_43, ixN_50, ixN_51, ixN_52, ixN_53, ixN_54, rNe_nn, rEq_nn, rNe_in, rEq_in, rNe_ni, rEq_ni, gSeqX, rLeS, rEq_ss, rNe_ss, rStr1, rAllX, rAnyX, rListD, iStr, rSumX, tBL, tBL0, rExtend, rPopAt, rPop, rReverse, rClear, rIsIX, tyX_n, tyX_b, tyX_i, tyX_s, tyX_r, tyO_l, tyO_t, tyO_d, V.ty.injEq, kT_Noin, kT_Nobo, kT_Nost, kT_Noli, kT_Notu, kT_Nodi, kT_boin, kT_bobo, kT_bost, kT_boli, kT_botu, kT_bodi, kT_inin, kT_inbo, kT_inst, kT_inli, kT_intu, kT_indi, kT_stin, kT_stbo, kT_stst, kT_stli, kT_sttu, kT_stdi, kT_liin, kT_libo, kT_list, kT_lili, kT_litu, kT_lidi, kT_tuin, kT_tubo, kT_tust, kT_tuli, kT_tutu, kT_tudi, kT_diin, kT_dibo, kT_dist, kT_dili, kT_ditu, kT_didi, rGet, getO_l, getO_t, getO_di, getO_ds, rLenX, lenX_r, lenX_s', lenO_l, lenO_t, lenO_d, Option.bind_some, tTruX, truX_n, truX_b, truX_i, truX_r, truO_l, truO_t, truO_d, rInX, rNotInX, inO_l', inO_t', inO_di, inO_ds, rSetX, setO_l, setO_di', setO_ds', rSlX, rListX, seqO_l, seqO_t, rTupX, gTupX, gCons, gNil, gSub, atI_0, atI_1, atI_2, atI_3, tDNewK, Nat.reduceSub, upd_same, upd_upd, Nat.reduceLT, HO.lst.injEq, HO.tup.injEq, HO.dK.injEq, HO.ins.injEq, Option.map_some, Option.isSome_some, Int.reduceEq, Int.reduceLT, Int.reduceLE, Nat.reduceAdd, List.isEmpty_nil, List.isEmpty_cons, ne_eq, not_false_eq_true, tDGs, sDPs, rIsB, rIsntB, tMeth, tMake, tDGet, sDPut, tFld, sFld, tDisp, tPairs, tNever, decide_true, decide_false, truV_bl, clsV_ty, V.ty.injEq, exists_eq', exists_eq, Bool.not_true, Bool.not_false, Bool.not_not, rLen, rListOf, rTupOf, rAny, rAll, rIsI, tTru, iRng1, iRng2, iList, tYes, cSt, List.drop_succ_cons, List.drop_zero, cxOf_K, cxC_K,  tBM, tBM0, rAppend, tSl, rSlL, tNoPart, tPart, rIxL, rIxT, rCat, List.cons.injEq, rEq_ii, rNe_ii, rEq_bb, rNe_bb, tSeq, exists_and_left, if_false, if_true, reduceIte, Bool.false_eq_true, tIfS, tAnd, tOr, tNot, tTest, tOp, tUn, tVar, tC, rI, rI0, rU, tRet, tRetN, tAsg, gName, tNext, tAndV, tOrV, tNotV, tIf, tCall, tCons, tNil, tCB, tDrop, tLst, tTup, tChain, L2.start, List.map_cons, List.map_nil, List.length_cons, List.length_nil, List.replicate, List.cons_append, List.nil_append, List.getElem?_cons_zero, List.getElem?_cons_succ, List.set_cons_zero, List.set_cons_succ, Option.some.injEq, exists_eq_left', exists_eq_left, V.int.injEq, V.bl.injEq, V.ref.injEq, V.str.injEq, exists_const, and_true, true_and, reduceCtorEq, false_and, exists_false, or_false, false_or, and_assoc, List.append_nil, h20, ex6, T_Near.cl, T_Near.no "keep" (by decide), T_Near.no "answers" (by decide), fs_Near_keep, fs_Near_answers, fn_Near___init__, fn_Near_put, fn_Near_is_fresh, fn_Near_find, fn_Near_thin, fl_Near, fp_Near_keep, fp_Near_answers, fq_Near_0, fq_Near_1, eD6, c38]
            refine ⟨x, dx, pg, kp, t + kp, nm 38, kvs', _, rfl, O6, ?_⟩
            have : fnd (thin (mF t 40) kp (t + kp)) kp (nm 38) (t + kp) = some 2 := by
              have h1 := (mF_at (t := t) (k := 40) (Nat.le_refl _)).1 38 (by decide)
              have h2 : thin (mF t 40) kp (t + kp) (nm 38) = some (some 2, t) := by
                unfold thin
                rw [h1]
                show (if t + kp - (t - 0) ≤ kp then some (some 2, t - 0) else none) = _
                rw [if_pos (by omega), Int.sub_zero]
              unfold fnd
              rw [h2]
              show (if t + kp - t ≤ kp then some 2 else none) = _
              rw [if_pos (by omega)]
            rw [this]
            show rEq (.int 2) (.int 2) H6 Q
            rw [rEq_ii, decide_eq_true rfl]
            exact q _ fun b o e => k6 _ _ (s35 _ _ (s3 _ _ e)) (by simp; exact ne_of_none e hp3)
end
end K57
namespace K57
open PySem L2
section
variable {P : Program} {w : World} {K : PySem.W.Frag} {mg : Str → Option Value} {base : Heap} {C : Addr}
abbrev s_law : Stmt := top 10
theorem sc_law : FnScope ["_law_script", "_law_first", "_law_keep", "_law_near", "_law_beside", "_law_names", "_law_answers", "_law_now", "_law_cell", "_law_draw_here", "_law_name", "_law_way", "_law_good", "_law_turn", "_law_some"] ["_law_script"] (defScope s_law) := ⟨rfl, rfl, rfl, by decide +kernel, rfl, by decide +kernel, by decide +kernel⟩
theorem cs_law_0 : CScope ["_law_one"] ["_law_answers"] { kind := .function, names := [(".0", .local), ("_law_one", .local), ("_law_best", .globalImplicit), ("_law_answers", .free)], isGenerator := false, isCoroutine := false, more := [] } (defScope s_law) := ⟨rfl, by decide +kernel, by decide +kernel, by decide +kernel, by decide +kernel, by decide +kernel⟩
theorem cs_law_1 : CScope ["_law_one"] ["_law_answers", "_law_keep", "_law_now"] { kind := .function, names := [(".0", .local), ("_law_one", .local), ("_law_best", .globalImplicit), ("_law_answers", .free), ("_law_keep", .free), ("_law_now", .free)], isGenerator := false, isCoroutine := false, more := [] } (defScope s_law) := ⟨rfl, by decide +kernel, by decide +kernel, by decide +kernel, by decide +kernel, by decide +kernel⟩
theorem cs_law_2 : CScope ["_law_row"] ["_law_good"] { kind := .function, names := [(".0", .local), ("_law_row", .local), ("_law_good", .free)], isGenerator := false, isCoroutine := false, more := [] } (defScope s_law) := ⟨rfl, by decide +kernel, by decide +kernel, by decide +kernel, by decide +kernel, by decide +kernel⟩
def sp_law (K : PySem.W.Frag) : Sp := fun vs H Q _ => ∃ (a : Addr) (ns : List Int), vs = [.ref a] ∧ SqL K H a (ns.map V.int) ∧ ns.length ≤ 63 ∧ ∀ H', Q (.bl true) H'
theorem best_no {rs : List Rw} {z : Str} (h : ∀ r ∈ rs, r.1 ≠ z) : best rs z = none := by
  unfold best
  suffices ∀ acc, rs.foldl (stp z) acc = acc from this none
  induction rs with
  | nil => intro acc; rfl
  | cons r rs ih =>
    intro acc
    have : stp z acc r = acc := if_neg fun w => h r (.head _) w.1
    rw [List.foldl_cons, this]
    exact ih (fun r' hr' => h r' (.tail _ hr')) acc
theorem best_filter (gd : Str → Bool) (z : Str) : ∀ (rs : List Rw) (acc : Option Rw), (rs.filter fun r => gd r.1).foldl (stp z) acc = if gd z = true then rs.foldl (stp z) acc else acc
  | [], acc => by simp
  | r :: rs, acc => by
    by_cases h : gd r.1 = true
    · rw [List.filter_cons_of_pos (p := fun r : Rw => gd r.1) h, List.foldl_cons, List.foldl_cons, best_filter gd z rs]
      by_cases hz : gd z = true
      · rw [if_pos hz, if_pos hz]
      · rw [if_neg hz, if_neg hz]
        have : stp z acc r = acc := if_neg fun w => hz (by rw [← w.1]; exact h)
        exact this
    · rw [List.filter_cons_of_neg (p := fun r : Rw => gd r.1) h, List.foldl_cons, best_filter gd z rs]
      by_cases hz : gd z = true
      · rw [if_pos hz, if_pos hz]
        have : stp z acc r = acc := if_neg fun w => h (by rw [w.1]; exact hz)
        rw [this]
      · rw [if_neg hz, if_neg hz]
theorem best_snoc {rs : List Rw} {z : Str} {r : Rw} : best (rs ++ [r]) z = stp z (best rs z) r := by
  unfold best
  rw [List.foldl_append]
  rfl
def N4 : List Str := ["a", "b", "ab", "eightlet"]
theorem n4_nd : N4.Nodup := by decide +kernel
def mB : Mp := newM (fun _ => none) "ab" (some 11) (10 ^ 32)
structure Gh where
  x : Addr
  dx : Addr
  pg : Addr
  y : Addr
  dy : Addr
  qg : Addr
  pn : Addr
  pc : Addr
  kp : Int
  cells : List V
structure Iw (C : Addr) (g : Gh) (pa : Addr) (kvs kvs2 : List (Key × V)) (m : Mp) (xs : List V) (rs : List Rw) (n : Nat) (H : Hp) : Prop where
  near : NearAt C H g.x g.dx g.pg g.kp kvs m
  besd : NearAt C H g.y g.dy g.qg (g.kp + 1) kvs2 mB
  en : H g.pn = some (.lst (N4.map V.str))
  ea : H pa = some (.lst xs)
  ec : H g.pc = some (.lst g.cells)
  rows : Paired (RwV H) xs rs
  len : xs.length ≤ n
  kl : kvs.length ≤ n
  mm : ∀ z, m z = (best rs z).map (·.2)
  nam : ∀ r ∈ rs, r.1 ∈ N4
  nxy : g.x ≠ g.y
  npq : g.pg ≠ g.qg
  nan : pa ≠ g.pn
  nac : pa ≠ g.pc
  k0 : 0 ≤ g.kp
  k1 : g.kp < 2 ^ 190
theorem RwV.keep {S : List Addr} {H H' : Hp} {v : V} {r : Rw} (k : Keep S H H') (hs : ∀ b ∈ S, NoT H b) (h : RwV H v r) : RwV H' v r := by
  obtain ⟨p, e, h⟩ := h
  exact ⟨p, e, k _ _ h fun z => hs p z _ h⟩
section
variable {g : Gh} {pa pd : Addr} {kvs kvs2 : List (Key × V)} {m : Mp} {xs : List V} {rs : List Rw} {n : Nat} {H H' : Hp}
theorem Iw.same (I : Iw C g pa kvs kvs2 m xs rs n H) (s : Same H H') : Iw C g pa kvs kvs2 m xs rs n H' :=
  ⟨I.near.same s, I.besd.same s, s _ _ I.en, s _ _ I.ea, s _ _ I.ec, rows_same s I.rows, I.len, I.kl, I.mm, I.nam, I.nxy, I.npq, I.nan, I.nac, I.k0, I.k1⟩
/-- a list of its own is changed -/
theorem Iw.keepD {ds : List V} (I : Iw C g pa kvs kvs2 m xs rs n H) (ed : H pd = some (.lst ds)) (f1 : pd ≠ g.pn) (f2 : pd ≠ pa) (f3 : pd ≠ g.pc) (k : Keep [pd] H H') : Iw C g pa kvs kvs2 m xs rs n H' := by
  have hs : ∀ b ∈ [pd], NoT H b := noT1 (.of_lst ed)
  have a1 : ∀ {b o}, H b = some o → (∀ l, o ≠ .lst l) → b ∉ [pd] := fun {b o} e h => by
    rw [List.mem_singleton]
    intro z
    rw [z, ed] at e
    cases e
    exact h _ rfl
  exact ⟨I.near.keep k hs (a1 I.near.ins (by intro l z; cases z)) (a1 I.near.dic (by intro l z; cases z)), I.besd.keep k hs (a1 I.besd.ins (by intro l z; cases z)) (a1 I.besd.dic (by intro l z; cases z)), k _ _ I.en (by simp; exact Ne.symm f1), k _ _ I.ea (by simp; exact Ne.symm f2), k _ _ I.ec (by simp; exact Ne.symm f3),
    Paired.mapP I.rows fun _ _ z => z.keep k hs, I.len, I.kl, I.mm, I.nam, I.nxy, I.npq, I.nan, I.nac, I.k0, I.k1⟩
end
def Ie (C : Addr) (g : Gh) (pa : Addr) (n : Nat) (H : Hp) : Prop := ∃ kvs kvs2 m xs rs, Iw C g pa kvs kvs2 m xs rs n H
theorem Ie.same {g : Gh} {pa : Addr} {n : Nat} {H H' : Hp} (h : Ie C g pa n H) (s : Same H H') : Ie C g pa n H' := by
  obtain ⟨a, b, c, d, e, I⟩ := h
  exact ⟨a, b, c, d, e, I.same s⟩
def Jw (C : Addr) (g : Gh) (pa pd : Addr) (n : Nat) (H : Hp) : Prop := Ie C g pa n H ∧ (∃ a b : Int, H pd = some (.lst [.int a, .int b])) ∧ pd ≠ g.pn ∧ pd ≠ pa ∧ pd ≠ g.pc
theorem Jw.same {g : Gh} {pa pd : Addr} {n : Nat} {H H' : Hp} (h : Jw C g pa pd n H) (s : Same H H') : Jw C g pa pd n H' := by
  obtain ⟨h1, ⟨a, b, h2⟩, h3⟩ := h
  exact ⟨h1.same s, ⟨a, b, s _ _ h2⟩, h3⟩
theorem nx_ok {g : Gh} {pa pd : Addr} {n : Nat} {H : Hp} {k : Int} {Q : VK} {E : XK} (J : Jw C g pa pd n H) (hn : 1 ≤ k) (hn2 : k < 2 ^ 200) (h : ∀ r H', 0 ≤ r → r < k → Jw C g pa pd n H' → Keep [pd] H H' → Q (.int r) H') : sp_next [.ref pd, .int k] H Q E := by
  obtain ⟨⟨kvs, kvs2, m, xs, rs, I⟩, ⟨a, b, ed⟩, f1, f2, f3⟩ := J
  refine ⟨pd, a, b, k, rfl, ed, hn, hn2, fun r a' b' h1 h2 => ?_⟩
  have k' : Keep [pd] H (upd H pd (.lst [.int a', .int b'])) := Keep.refl.upd (.inl (.head _))
  exact h r _ h1 h2 ⟨⟨kvs, kvs2, m, xs, rs, I.keepD ed f1 f2 f3 k'⟩, ⟨a', b', upd_same⟩, f1, f2, f3⟩ k'
def sg (sc : Addr) (r : Int) (g : Gh) (pa : Addr) (now : Int) (v8 v9 v10 v11 v12 v13 v14 : Option V) : St := [some (.ref sc), some (.int r), some (.int g.kp), some (.ref g.x), some (.ref g.y), some (.ref g.pn), some (.ref pa), some (.int now), v8, v9, v10, v11, v12, v13, v14]
def Lw (C sc : Addr) (r : Int) (g : Gh) (i : Nat) (σ : St) (H' : Hp) : Prop := ∃ pa now v8 v9 v10 v11 v12 v13 v14, σ = sg sc r g pa now v8 v9 v10 v11 v12 v13 v14 ∧ Ie C g pa i H'
theorem mm_put {rs : List Rw} {m : Mp} (mm : ∀ z, m z = (best rs z).map (·.2)) (z : Str) (h : Option Int) (t : Int) : ∀ y, newM m z h t y = (best (rs ++ [(z, h, t)]) y).map (·.2) := fun y => by
  rw [best_snoc]
  unfold newM stp
  by_cases hy : y = z
  · subst hy
    rw [mm y]
    cases e : best rs y with
    | none =>
      rw [if_pos ⟨rfl, rfl⟩, if_pos ⟨rfl, rfl⟩]
      rfl
    | some r =>
      by_cases hc : r.2.2 < t
      · rw [if_pos ⟨rfl, decide_eq_true hc⟩, if_pos ⟨rfl, decide_eq_true hc⟩]
        rfl
      · rw [if_neg (fun w => hc (of_decide_eq_true w.2)), if_neg (fun w => hc (of_decide_eq_true w.2))]
  · rw [if_neg (fun w => hy w.1), if_neg (fun w => hy w.1.symm)]
    exact mm y
def isB (rs : List Rw) (z : Str) : Bool := (best rs z).isSome
def frB (rs : List Rw) (now kp : Int) (z : Str) : Bool := match best rs z with
  | none => false
  | some r => decide (now - r.2.2 ≤ kp)
def good (rs : List Rw) (now kp : Int) : List Str := (N4.filter (isB rs)).filter (frB rs now kp)
theorem good_nd {rs : List Rw} {now kp : Int} : (good rs now kp).Nodup := (n4_nd.filter _).filter _
theorem good_mem {rs : List Rw} {now kp : Int} {z : Str} (nam : ∀ r ∈ rs, r.1 ∈ N4) : z ∈ good rs now kp ↔ frB rs now kp z = true := by
  unfold good
  rw [List.mem_filter, List.mem_filter]
  constructor
  · exact fun h => h.2
  · intro h
    refine ⟨⟨?_, ?_⟩, h⟩
    · by_cases hn : z ∈ N4
      · exact hn
      · have : best rs z = none := best_no fun r hr e => hn (e ▸ nam r hr)
        unfold frB at h
        rw [this] at h
        cases h
    · unfold frB at h
      unfold isB
      cases e : best rs z with
      | none => rw [e] at h; cases h
      | some r => rfl
theorem thin_good {rs : List Rw} {m : Mp} {now kp : Int} (mm : ∀ z, m z = (best rs z).map (·.2)) (nam : ∀ r ∈ rs, r.1 ∈ N4) (z : Str) : thin m kp now z ≠ none ↔ z ∈ good rs now kp := by
  rw [good_mem nam]
  unfold thin frB
  rw [mm z]
  cases best rs z with
  | none => simp
  | some r =>
    show (if now - r.2.2 ≤ kp then _ else _) ≠ none ↔ decide (now - r.2.2 ≤ kp) = true
    by_cases h : now - r.2.2 ≤ kp
    · simp [h]
    · simp [h]
theorem mm_thin {rs : List Rw} {m : Mp} {now kp : Int} (mm : ∀ z, m z = (best rs z).map (·.2)) (nam : ∀ r ∈ rs, r.1 ∈ N4) : ∀ z, thin m kp now z = (best (rs.filter fun r => decide (r.1 ∈ good rs now kp)) z).map (·.2) := fun z => by
  have e := best_filter (fun y => decide (y ∈ good rs now kp)) z rs none
  have e2 : best (rs.filter fun r => decide (r.1 ∈ good rs now kp)) z = if decide (z ∈ good rs now kp) = true then best rs z else none := e
  rw [e2]
  by_cases h : z ∈ good rs now kp
  · rw [if_pos (decide_eq_true h)]
    have hf := (good_mem nam).mp h
    unfold thin
    rw [mm z]
    unfold frB at hf
    cases eb : best rs z with
    | none => rfl
    | some r =>
      rw [eb] at hf
      exact if_pos (of_decide_eq_true hf)
  · rw [if_neg (fun w => h (of_decide_eq_true w))]
    have : ¬ (thin m kp now z ≠ none) := fun w => h ((thin_good mm nam z).mp w)
    exact Classical.byContradiction this
theorem in_strs {z : Str} : ∀ {L : List Str}, inO (.lst (L.map V.str)) (.str z) = some (decide (z ∈ L)) := by
  intro L
  have h1 : (L.map V.str).all flatV = true := by simp [flatV]
  rw [inO_l', if_pos ⟨rfl, h1⟩]
  congr 1
  induction L with
  | nil => rfl
  | cons a r ih =>
    have ih' := ih (by simp [flatV])
    unfold inV at ih' ⊢
    rw [List.map_cons, List.any_cons, ih']
    by_cases h : z = a
    · subst h; simp [eqV]
    · simp [eqV, h, Ne.symm h]
      try grind
def Pm0 (C sc : Addr) (r : Int) (H0 : Hp) (σ : St) (H' : Hp) : Prop := ∃ (x dx pg y dy qg pn pa : Addr) (kp : Int) (kvs2 : List (Key × V)), σ = [some (.ref sc), some (.int r), some (.int kp), some (.ref x), some (.ref y), some (.ref pn), some (.ref pa), some (.int 0), none, none, none, none, none, none, none] ∧
  NearAt C H' x dx pg kp [] (fun _ => none) ∧ NearAt C H' y dy qg (kp + 1) kvs2 mB ∧ H' pn = some (.lst (N4.map V.str)) ∧ H' pa = some (.lst []) ∧ x ≠ y ∧ pg ≠ qg ∧ pa ≠ pn ∧ 0 ≤ kp ∧ kp < 2 ^ 190 ∧ Same H0 H'
def PmA (C sc : Addr) (r : Int) (g : Gh) (i : Nat) (σ : St) (H' : Hp) : Prop := ∃ pa pd now v8 z way v12 v13 v14, σ = sg sc r g pa now v8 (some (.ref pd)) (some (.str z)) (some (.int way)) v12 v13 v14 ∧ z ∈ N4 ∧ Jw C g pa pd i H'
def PmB (C sc : Addr) (r : Int) (g : Gh) (i : Nat) (σ : St) (H' : Hp) : Prop := ∃ pa pd now v8 v10 v11 v12 v13 v14, σ = sg sc r g pa now v8 (some (.ref pd)) v10 v11 v12 v13 v14 ∧ Jw C g pa pd (i + 1) H'
set_option maxHeartbeats 8000000 in
theorem law_fn {f : Addr} {fd : FuncData} (F : Fun K "law" "law" s_law f fd) (hb : Blt mg) (hsum : mg "sum" = none) (T_Near : ClsD K mg "Near" C at_Near) (I_Near : OwnI P w K mg base 1 C ["self", "keep"] (sp_ninit C)) (M_Near_put : OwnM P w K mg base 1 C "put" ["self", "name", "hand", "asked"] (sp_nput C)) (M_Near_find : OwnM P w K mg base 2 C "find" ["self", "name", "turn"] (sp_find C)) (M_Near_thin : OwnM P w K mg base 2 C "thin" ["self", "turn"] (sp_thin C))
    (F__law_draw : Own P w K mg base 1 "_law_draw" ["_law_cell"] sp_draw) (F__law_next : Own P w K mg base 1 "_law_next" ["_law_draw_here", "_law_size"] sp_next) (F__law_best : Own P w K mg base 1 "_law_best" ["_law_answers", "_law_name"] sp_best) (F__law_found : Own P w K mg base 3 "_law_found" ["_law_near", "_law_answers", "_law_names", "_law_turn", "_law_keep"] (sp_found C)) (F__law_answer : Own P w K mg base 2 "_law_answer" ["_law_draw_here", "_law_name", "_law_now", "_law_keep"] sp_answer) (F__law_forty : Own P w K mg base 3 "_law_forty" ["_law_keep", "_law_turn"] sp_forty) : FnOk P w K mg base CX0 4 f fd ["_law_script"] (sp_law K) := by
  refine F.ok sc_law (fun vs H Q E h => ?_) (fun cdv A outer s H vs Q E hr h => ?_)
  · obtain ⟨a, ns, rfl, _⟩ := h
    rfl
  · obtain ⟨sc, ns, rfl, hS, h63, q⟩ := h
    have hu := hr.units
    have hu1 : (A.deeper (PyProof.Rows.envOfC "law" (defScope s_law) s.heap.objs.size f cdv)).units + 1 < cLine := by omega
    refine ⟨_, (@pss_cons _ _ _ _ _ (@ps_set _ _ 1 _ _ _ _ sc_law.nd rfl (by first | exact Or.inl rfl | exact Or.inr rfl) (@pe_callB _ _ _ _ _ _ _ _ _ (call_sumX rfl) rfl hsum bt_sum (@pa_cX _ _ _ _ _ (@pe_slice _ _ _ _ _ _ _ _ _ _ (sl_listK K) (@pv _ 0 _ _ (by rfl) (by first | exact Or.inl rfl | exact Or.inr (Or.inl rfl) | exact Or.inr (Or.inr rfl)) (by decide) (by decide)) (@po_none _) (@po_some _ _ _ (@pe_int _ _ _ _))) (@pa_nil _) (by rfl)) (by decide) (by decide) (by rfl) (by rfl)) (by rfl) (by first | exact .inl rfl | exact .inr rfl | assumption)) (@pss_cons _ _ _ _ _ (@ps_if _ _ _ _ _ _ _ _ (@PW.pt _ _ _ (@pw_and _ _ _ _ _ _ _ (@pt_cmpR _ _ _ _ _ _ _ _ op_eq (@pe_op _ _ _ _ _ _ _ _ op_mod (@pv _ 1 _ _ (by rfl) (by first | exact Or.inl rfl | exact Or.inr (Or.inl rfl) | exact Or.inr (Or.inr rfl)) (by decide) (by decide)) (@pe_int _ _ _ _)) (@pe_int _ _ _ _) (nomark _)) (@pw_and1 _ _ _ _ (@pt_not _ _ _ _ (@pt_truX _ _ _ (@pe_fn _ _ _ _ _ _ _ _ _ _ _ F__law_forty hr (@pa_cX _ _ _ _ _ (@pe_op _ _ _ _ _ _ _ _ op_mod (@pe_op _ _ _ _ _ _ _ _ op_fdiv (@pv _ 1 _ _ (by rfl) (by first | exact Or.inl rfl | exact Or.inr (Or.inl rfl) | exact Or.inr (Or.inr rfl)) (by decide) (by decide)) (@pe_int _ _ _ _)) (@pe_int _ _ _ _)) (@pa_cX _ _ _ _ _ (@pe_op _ _ _ _ _ _ _ _ op_add (@pe_int _ _ _ _) (@pe_op _ _ _ _ _ _ _ _ op_mod (@pe_op _ _ _ _ _ _ _ _ op_fdiv (@pv _ 1 _ _ (by rfl) (by first | exact Or.inl rfl | exact Or.inr (Or.inl rfl) | exact Or.inr (Or.inr rfl)) (by decide) (by decide)) (@pe_int _ _ _ _)) (@pe_int _ _ _ _))) (@pa_nil _) (by rfl)) (by rfl)) (by decide) (by rfl) (by decide) (by rfl) (by rfl)) (by intro _; rfl)))))) (@pss_one _ _ _ (@ps_ret _ _ _ _ (@pe_bl _ _ _ _))) (@pss_nil _)) (@pss_cons _ _ _ _ _ (@ps_set _ _ 2 _ _ _ _ sc_law.nd rfl (by first | exact Or.inl rfl | exact Or.inr rfl) (@pe_ix _ _ _ _ _ _ _ (ix_get hu1) (@pe_lst _ _ _ _ (@pa_cX _ _ _ _ _ (@pe_op _ _ _ _ _ _ _ _ op_mod (@pe_op _ _ _ _ _ _ _ _ op_fdiv (@pv _ 1 _ _ (by rfl) (by first | exact Or.inl rfl | exact Or.inr (Or.inl rfl) | exact Or.inr (Or.inr rfl)) (by decide) (by decide)) (@pe_int _ _ _ _)) (@pe_int _ _ _ _)) (@pa_cX _ _ _ _ _ (@pe_op _ _ _ _ _ _ _ _ op_mod (@pe_op _ _ _ _ _ _ _ _ op_fdiv (@pv _ 1 _ _ (by rfl) (by first | exact Or.inl rfl | exact Or.inr (Or.inl rfl) | exact Or.inr (Or.inr rfl)) (by decide) (by decide)) (@pe_int _ _ _ _)) (@pe_op _ _ _ _ _ _ _ _ op_pow (@pe_int _ _ _ _) (@pe_int _ _ _ _))) (@pa_nil _) (by rfl)) (by rfl))) (@pe_op _ _ _ _ _ _ _ _ op_mod (@pe_op _ _ _ _ _ _ _ _ op_fdiv (@pv _ 1 _ _ (by rfl) (by first | exact Or.inl rfl | exact Or.inr (Or.inl rfl) | exact Or.inr (Or.inr rfl)) (by decide) (by decide)) (@pe_int _ _ _ _)) (@pe_int _ _ _ _)) (fun _ _ => rfl)) (by rfl) (by first | exact .inl rfl | exact .inr rfl | assumption)) (@pss_cons _ _ _ _ _ (@ps_set _ _ 3 _ _ _ _ sc_law.nd rfl (by first | exact Or.inl rfl | exact Or.inr rfl) (@pe_mak _ _ _ _ _ _ _ _ _ _ _ _ I_Near hr T_Near.mgC (@pa_cX _ _ _ _ _ (@pv _ 2 _ _ (by rfl) (by first | exact Or.inl rfl | exact Or.inr (Or.inl rfl) | exact Or.inr (Or.inr rfl)) (by decide) (by decide)) (@pa_nil _) (by rfl)) (by decide) (by rfl) (by decide) (by rfl) (by rfl)) (by rfl) (by first | exact .inl rfl | exact .inr rfl | assumption)) (@pss_cons _ _ _ _ _ (@ps_set _ _ 4 _ _ _ _ sc_law.nd rfl (by first | exact Or.inl rfl | exact Or.inr rfl) (@pe_mak _ _ _ _ _ _ _ _ _ _ _ _ I_Near hr T_Near.mgC (@pa_cX _ _ _ _ _ (@pe_op _ _ _ _ _ _ _ _ op_add (@pv _ 2 _ _ (by rfl) (by first | exact Or.inl rfl | exact Or.inr (Or.inl rfl) | exact Or.inr (Or.inr rfl)) (by decide) (by decide)) (@pe_int _ _ _ _)) (@pa_nil _) (by rfl)) (by decide) (by rfl) (by decide) (by rfl) (by rfl)) (by rfl) (by first | exact .inl rfl | exact .inr rfl | assumption)) (@pss_cons _ _ _ _ _ (@ps_expr _ _ _ _ (@pe_mth _ _ _ _ _ _ _ _ _ _ _ _ _ _ _ M_Near_put T_Near.cl hr (@pv _ 4 _ _ (by rfl) (by first | exact Or.inl rfl | exact Or.inr (Or.inl rfl) | exact Or.inr (Or.inr rfl)) (by decide) (by decide)) (@pa_cX _ _ _ _ _ (@pe_str _ _ _ _) (@pa_cX _ _ _ _ _ (@pe_int _ _ _ _) (@pa_cX _ _ _ _ _ (@pe_op _ _ _ _ _ _ _ _ op_pow (@pe_int _ _ _ _) (@pe_int _ _ _ _)) (@pa_nil _) (by rfl)) (by rfl)) (by rfl)) (by decide) (by rfl) (by rfl) (by rfl)) (by rfl)) (@pss_cons _ _ _ _ _ (@ps_set _ _ 5 _ _ _ _ sc_law.nd rfl (by first | exact Or.inl rfl | exact Or.inr rfl) (@pe_lst _ _ _ _ (@pa_cX _ _ _ _ _ (@pe_str _ _ _ _) (@pa_cX _ _ _ _ _ (@pe_str _ _ _ _) (@pa_cX _ _ _ _ _ (@pe_str _ _ _ _) (@pa_cX _ _ _ _ _ (@pe_str _ _ _ _) (@pa_nil _) (by rfl)) (by rfl)) (by rfl)) (by rfl))) (by rfl) (by first | exact .inl rfl | exact .inr rfl | assumption)) (@pss_cons _ _ _ _ _ (@ps_set _ _ 6 _ _ _ _ sc_law.nd rfl (by first | exact Or.inl rfl | exact Or.inr rfl) (@pe_lst _ _ _ _ (@pa_nil _)) (by rfl) (by first | exact .inl rfl | exact .inr rfl | assumption)) (@pss_cons _ _ _ _ _ (@ps_set _ _ 7 _ _ _ _ sc_law.nd rfl (by first | exact Or.inl rfl | exact Or.inr rfl) (@pe_int _ _ _ _) (by rfl) (by first | exact .inl rfl | exact .inr rfl | assumption)) (@pss_cons _ _ _ _ _ (@ps_for _ _ _ _ _ _ _ _ PassesOwn.never rfl (@pi_listK _ K _ _ _ (@pe_slice _ _ _ _ _ _ _ _ _ _ (sl_listK K) (@pv _ 0 _ _ (by rfl) (by first | exact Or.inl rfl | exact Or.inr (Or.inl rfl) | exact Or.inr (Or.inr rfl)) (by decide) (by decide)) (@po_none _) (@po_some _ _ _ (@pe_int _ _ _ _))) (by rfl)) (@pg_name _ _ 8 _ sc_law.nd rfl (by first | exact Or.inl rfl | exact Or.inr rfl) (by first | exact .inl rfl | exact .inr rfl | assumption)) (@pss_cons _ _ _ _ _ (@ps_set _ _ 9 _ _ _ _ sc_law.nd rfl (by first | exact Or.inl rfl | exact Or.inr rfl) (@pe_fn _ _ _ _ _ _ _ _ _ _ _ F__law_draw hr (@pa_cX _ _ _ _ _ (@pv _ 8 _ _ (by rfl) (by first | exact Or.inl rfl | exact Or.inr (Or.inl rfl) | exact Or.inr (Or.inr rfl)) (by decide) (by decide)) (@pa_nil _) (by rfl)) (by decide) (by rfl) (by decide) (by rfl) (by rfl)) (by rfl) (by first | exact .inl rfl | exact .inr rfl | assumption)) (@pss_cons _ _ _ _ _ (@ps_set _ _ 7 _ _ _ _ sc_law.nd rfl (by first | exact Or.inl rfl | exact Or.inr rfl) (@pe_op _ _ _ _ _ _ _ _ op_add (@pv _ 7 _ _ (by rfl) (by first | exact Or.inl rfl | exact Or.inr (Or.inl rfl) | exact Or.inr (Or.inr rfl)) (by decide) (by decide)) (@pe_ix _ _ _ _ _ _ _ (ix_get hu1) (@pe_lst _ _ _ _ (@pa_cX _ _ _ _ _ (@pe_fn _ _ _ _ _ _ _ _ _ _ _ F__law_next hr (@pa_cX _ _ _ _ _ (@pv _ 9 _ _ (by rfl) (by first | exact Or.inl rfl | exact Or.inr (Or.inl rfl) | exact Or.inr (Or.inr rfl)) (by decide) (by decide)) (@pa_cX _ _ _ _ _ (@pe_int _ _ _ _) (@pa_nil _) (by rfl)) (by rfl)) (by decide) (by rfl) (by decide) (by rfl) (by rfl)) (@pa_cX _ _ _ _ _ (@pe_fn _ _ _ _ _ _ _ _ _ _ _ F__law_next hr (@pa_cX _ _ _ _ _ (@pv _ 9 _ _ (by rfl) (by first | exact Or.inl rfl | exact Or.inr (Or.inl rfl) | exact Or.inr (Or.inr rfl)) (by decide) (by decide)) (@pa_cX _ _ _ _ _ (@pe_op _ _ _ _ _ _ _ _ op_add (@pv _ 2 _ _ (by rfl) (by first | exact Or.inl rfl | exact Or.inr (Or.inl rfl) | exact Or.inr (Or.inr rfl)) (by decide) (by decide)) (@pe_int _ _ _ _)) (@pa_nil _) (by rfl)) (by rfl)) (by decide) (by rfl) (by decide) (by rfl) (by rfl)) (@pa_nil _) (by rfl)) (by rfl))) (@pe_op _ _ _ _ _ _ _ _ op_fdiv (@pe_fn _ _ _ _ _ _ _ _ _ _ _ F__law_next hr (@pa_cX _ _ _ _ _ (@pv _ 9 _ _ (by rfl) (by first | exact Or.inl rfl | exact Or.inr (Or.inl rfl) | exact Or.inr (Or.inr rfl)) (by decide) (by decide)) (@pa_cX _ _ _ _ _ (@pe_int _ _ _ _) (@pa_nil _) (by rfl)) (by rfl)) (by decide) (by rfl) (by decide) (by rfl) (by rfl)) (@pe_int _ _ _ _)) (fun _ _ => rfl))) (by rfl) (by first | exact .inl rfl | exact .inr rfl | assumption)) (@pss_cons _ _ _ _ _ (@ps_set _ _ 10 _ _ _ _ sc_law.nd rfl (by first | exact Or.inl rfl | exact Or.inr rfl) (@pe_ix _ _ _ _ _ _ _ (ix_get hu1) (@pv _ 5 _ _ (by rfl) (by first | exact Or.inl rfl | exact Or.inr (Or.inl rfl) | exact Or.inr (Or.inr rfl)) (by decide) (by decide)) (@pe_fn _ _ _ _ _ _ _ _ _ _ _ F__law_next hr (@pa_cX _ _ _ _ _ (@pv _ 9 _ _ (by rfl) (by first | exact Or.inl rfl | exact Or.inr (Or.inl rfl) | exact Or.inr (Or.inr rfl)) (by decide) (by decide)) (@pa_cX _ _ _ _ _ (@pe_int _ _ _ _) (@pa_nil _) (by rfl)) (by rfl)) (by decide) (by rfl) (by decide) (by rfl) (by rfl)) (fun _ _ => rfl)) (by rfl) (by first | exact .inl rfl | exact .inr rfl | assumption)) (@pss_cons _ _ _ _ _ (@ps_set _ _ 11 _ _ _ _ sc_law.nd rfl (by first | exact Or.inl rfl | exact Or.inr rfl) (@pe_fn _ _ _ _ _ _ _ _ _ _ _ F__law_next hr (@pa_cX _ _ _ _ _ (@pv _ 9 _ _ (by rfl) (by first | exact Or.inl rfl | exact Or.inr (Or.inl rfl) | exact Or.inr (Or.inr rfl)) (by decide) (by decide)) (@pa_cX _ _ _ _ _ (@pe_int _ _ _ _) (@pa_nil _) (by rfl)) (by rfl)) (by decide) (by rfl) (by decide) (by rfl) (by rfl)) (by rfl) (by first | exact .inl rfl | exact .inr rfl | assumption)) (@pss_cons _ _ _ _ _ (@ps_if _ _ _ _ _ _ _ _ (@pt_cmpR _ _ _ _ _ _ _ _ op_lt (@pv _ 11 _ _ (by rfl) (by first | exact Or.inl rfl | exact Or.inr (Or.inl rfl) | exact Or.inr (Or.inr rfl)) (by decide) (by decide)) (@pe_int _ _ _ _) (nomark _)) (@pss_cons _ _ _ _ _ (@ps_expr _ _ _ _ (@pe_lm _ _ _ _ _ _ _ _ _ _ _ PySem.F.slot_list_append PySem.F.type_list_append mt_append (@pv _ 6 _ _ (by rfl) (by first | exact Or.inl rfl | exact Or.inr (Or.inl rfl) | exact Or.inr (Or.inr rfl)) (by decide) (by decide)) (@pa_cX _ _ _ _ _ (@pe_fn _ _ _ _ _ _ _ _ _ _ _ F__law_answer hr (@pa_cX _ _ _ _ _ (@pv _ 9 _ _ (by rfl) (by first | exact Or.inl rfl | exact Or.inr (Or.inl rfl) | exact Or.inr (Or.inr rfl)) (by decide) (by decide)) (@pa_cX _ _ _ _ _ (@pv _ 10 _ _ (by rfl) (by first | exact Or.inl rfl | exact Or.inr (Or.inl rfl) | exact Or.inr (Or.inr rfl)) (by decide) (by decide)) (@pa_cX _ _ _ _ _ (@pv _ 7 _ _ (by rfl) (by first | exact Or.inl rfl | exact Or.inr (Or.inl rfl) | exact Or.inr (Or.inr rfl)) (by decide) (by decide)) (@pa_cX _ _ _ _ _ (@pv _ 2 _ _ (by rfl) (by first | exact Or.inl rfl | exact Or.inr (Or.inl rfl) | exact Or.inr (Or.inr rfl)) (by decide) (by decide)) (@pa_nil _) (by rfl)) (by rfl)) (by rfl)) (by rfl)) (by decide) (by rfl) (by decide) (by rfl) (by rfl)) (@pa_nil _) (by rfl)) (by rfl) (by rfl) (by rfl) (by rfl) (by rfl)) (by rfl)) (@pss_one _ _ _ (@ps_if _ _ _ _ _ _ _ _ (@pt_cmpR _ _ _ _ _ _ _ _ op_notN (@pe_mth _ _ _ _ _ _ _ _ _ _ _ _ _ _ _ M_Near_put T_Near.cl hr (@pv _ 3 _ _ (by rfl) (by first | exact Or.inl rfl | exact Or.inr (Or.inl rfl) | exact Or.inr (Or.inr rfl)) (by decide) (by decide)) (@pa_cX _ _ _ _ _ (@pe_ix _ _ _ _ _ _ _ (ix_get hu1) (@pe_ix _ _ _ _ _ _ _ (ix_get hu1) (@pv _ 6 _ _ (by rfl) (by first | exact Or.inl rfl | exact Or.inr (Or.inl rfl) | exact Or.inr (Or.inr rfl)) (by decide) (by decide)) (@pe_un _ _ _ _ _ _ un_neg (@pe_int _ _ _ _)) (fun _ _ => rfl)) (@pe_int _ _ _ _) (fun _ _ => rfl)) (@pa_cX _ _ _ _ _ (@pe_ix _ _ _ _ _ _ _ (ix_get hu1) (@pe_ix _ _ _ _ _ _ _ (ix_get hu1) (@pv _ 6 _ _ (by rfl) (by first | exact Or.inl rfl | exact Or.inr (Or.inl rfl) | exact Or.inr (Or.inr rfl)) (by decide) (by decide)) (@pe_un _ _ _ _ _ _ un_neg (@pe_int _ _ _ _)) (fun _ _ => rfl)) (@pe_int _ _ _ _) (fun _ _ => rfl)) (@pa_cX _ _ _ _ _ (@pe_ix _ _ _ _ _ _ _ (ix_get hu1) (@pe_ix _ _ _ _ _ _ _ (ix_get hu1) (@pv _ 6 _ _ (by rfl) (by first | exact Or.inl rfl | exact Or.inr (Or.inl rfl) | exact Or.inr (Or.inr rfl)) (by decide) (by decide)) (@pe_un _ _ _ _ _ _ un_neg (@pe_int _ _ _ _)) (fun _ _ => rfl)) (@pe_int _ _ _ _) (fun _ _ => rfl)) (@pa_nil _) (by rfl)) (by rfl)) (by rfl)) (by decide) (by rfl) (by rfl) (by rfl)) (@pe_non _ _ _) (nomark _)) (@pss_one _ _ _ (@ps_ret _ _ _ _ (@pe_bl _ _ _ _))) (@pss_nil _)))) (@pss_one _ _ _ (@ps_if _ _ _ _ _ _ _ _ (@pt_cmpR _ _ _ _ _ _ _ _ op_eq (@pv _ 11 _ _ (by rfl) (by first | exact Or.inl rfl | exact Or.inr (Or.inl rfl) | exact Or.inr (Or.inr rfl)) (by decide) (by decide)) (@pe_int _ _ _ _) (nomark _)) (@pss_cons _ _ _ _ _ (@ps_set _ _ 12 _ _ _ _ sc_law.nd rfl (by first | exact Or.inl rfl | exact Or.inr rfl) (@pe_comp _ _ _ _ _ _ _ _ _ _ _ ["_law_one"] ["_law_answers"] [6] rfl _ cs_law_0 (@pi_listK _ K _ _ _ (@pv _ 5 _ _ (by rfl) (by first | exact Or.inl rfl | exact Or.inr (Or.inl rfl) | exact Or.inr (Or.inr rfl)) (by decide) (by decide)) (by rfl)) (fun _ _ _ _ => (@pg_name _ _ 0 _ cs_law_0.nd rfl (by first | exact Or.inl rfl | exact Or.inr rfl) (by first | exact .inl rfl | exact .inr rfl | assumption))) (fun _ _ _ _ => (@pf_one _ _ _ (@pt_cmpR _ _ _ _ _ _ _ _ op_notN (@pe_fn _ _ _ _ _ _ _ _ _ _ _ F__law_best hr (@pa_cX _ _ _ _ _ (@pv _ 1 _ _ (by rfl) (by first | exact Or.inl rfl | exact Or.inr (Or.inl rfl) | exact Or.inr (Or.inr rfl)) (by decide) (by decide)) (@pa_cX _ _ _ _ _ (@pv _ 0 _ _ (by rfl) (by first | exact Or.inl rfl | exact Or.inr (Or.inl rfl) | exact Or.inr (Or.inr rfl)) (by decide) (by decide)) (@pa_nil _) (by rfl)) (by rfl)) (by decide) (by rfl) (by decide) (by rfl) (by rfl)) (@pe_non _ _ _) (nomark _)))) (fun _ _ _ _ => (@pv _ 0 _ _ (by rfl) (by first | exact Or.inl rfl | exact Or.inr (Or.inl rfl) | exact Or.inr (Or.inr rfl)) (by decide) (by decide))) (by rfl) (by rfl) (by rfl) (by intro _; rfl)) (by rfl) (by first | exact .inl rfl | exact .inr rfl | assumption)) (@pss_cons _ _ _ _ _ (@ps_set _ _ 12 _ _ _ _ sc_law.nd rfl (by first | exact Or.inl rfl | exact Or.inr rfl) (@pe_comp _ _ _ _ _ _ _ _ _ _ _ ["_law_one"] ["_law_answers", "_law_keep", "_law_now"] [6, 2, 7] rfl _ cs_law_1 (@pi_listK _ K _ _ _ (@pv _ 12 _ _ (by rfl) (by first | exact Or.inl rfl | exact Or.inr (Or.inl rfl) | exact Or.inr (Or.inr rfl)) (by decide) (by decide)) (by rfl)) (fun _ _ _ _ => (@pg_name _ _ 0 _ cs_law_1.nd rfl (by first | exact Or.inl rfl | exact Or.inr rfl) (by first | exact .inl rfl | exact .inr rfl | assumption))) (fun _ _ _ _ => (@pf_one _ _ _ (@pt_cmpR _ _ _ _ _ _ _ _ op_le (@pe_op _ _ _ _ _ _ _ _ op_sub (@pv _ 3 _ _ (by rfl) (by first | exact Or.inl rfl | exact Or.inr (Or.inl rfl) | exact Or.inr (Or.inr rfl)) (by decide) (by decide)) (@pe_ix _ _ _ _ _ _ _ (ix_get hu1) (@pe_fn _ _ _ _ _ _ _ _ _ _ _ F__law_best hr (@pa_cX _ _ _ _ _ (@pv _ 1 _ _ (by rfl) (by first | exact Or.inl rfl | exact Or.inr (Or.inl rfl) | exact Or.inr (Or.inr rfl)) (by decide) (by decide)) (@pa_cX _ _ _ _ _ (@pv _ 0 _ _ (by rfl) (by first | exact Or.inl rfl | exact Or.inr (Or.inl rfl) | exact Or.inr (Or.inr rfl)) (by decide) (by decide)) (@pa_nil _) (by rfl)) (by rfl)) (by decide) (by rfl) (by decide) (by rfl) (by rfl)) (@pe_int _ _ _ _) (fun _ _ => rfl))) (@pv _ 2 _ _ (by rfl) (by first | exact Or.inl rfl | exact Or.inr (Or.inl rfl) | exact Or.inr (Or.inr rfl)) (by decide) (by decide)) (nomark _)))) (fun _ _ _ _ => (@pv _ 0 _ _ (by rfl) (by first | exact Or.inl rfl | exact Or.inr (Or.inl rfl) | exact Or.inr (Or.inr rfl)) (by decide) (by decide))) (by rfl) (by rfl) (by rfl) (by intro _; rfl)) (by rfl) (by first | exact .inl rfl | exact .inr rfl | assumption)) (@pss_cons _ _ _ _ _ (@ps_if _ _ _ _ _ _ _ _ (@pt_cmpR _ _ _ _ _ _ _ _ op_ne (@pe_mth _ _ _ _ _ _ _ _ _ _ _ _ _ _ _ M_Near_thin T_Near.cl hr (@pv _ 3 _ _ (by rfl) (by first | exact Or.inl rfl | exact Or.inr (Or.inl rfl) | exact Or.inr (Or.inr rfl)) (by decide) (by decide)) (@pa_cX _ _ _ _ _ (@pv _ 7 _ _ (by rfl) (by first | exact Or.inl rfl | exact Or.inr (Or.inl rfl) | exact Or.inr (Or.inr rfl)) (by decide) (by decide)) (@pa_nil _) (by rfl)) (by decide) (by rfl) (by rfl) (by rfl)) (@pe_callB _ _ _ _ _ _ _ _ _ call_lenX rfl (hb _ (by decide)) bt_len (@pa_cX _ _ _ _ _ (@pv _ 12 _ _ (by rfl) (by first | exact Or.inl rfl | exact Or.inr (Or.inl rfl) | exact Or.inr (Or.inr rfl)) (by decide) (by decide)) (@pa_nil _) (by rfl)) (by decide) (by decide) (by rfl) (by rfl)) (nomark _)) (@pss_one _ _ _ (@ps_ret _ _ _ _ (@pe_bl _ _ _ _))) (@pss_nil _)) (@pss_one _ _ _ (@ps_set _ _ 6 _ _ _ _ sc_law.nd rfl (by first | exact Or.inl rfl | exact Or.inr rfl) (@pe_comp _ _ _ _ _ _ _ _ _ _ _ ["_law_row"] ["_law_good"] [12] rfl _ cs_law_2 (@pi_listK _ K _ _ _ (@pv _ 6 _ _ (by rfl) (by first | exact Or.inl rfl | exact Or.inr (Or.inl rfl) | exact Or.inr (Or.inr rfl)) (by decide) (by decide)) (by rfl)) (fun _ _ _ _ => (@pg_name _ _ 0 _ cs_law_2.nd rfl (by first | exact Or.inl rfl | exact Or.inr rfl) (by first | exact .inl rfl | exact .inr rfl | assumption))) (fun _ _ _ _ => (@pf_one _ _ _ (@pt_cmpR _ _ _ _ _ _ _ _ (op_inX hu1) (@pe_ix _ _ _ _ _ _ _ (ix_get hu1) (@pv _ 0 _ _ (by rfl) (by first | exact Or.inl rfl | exact Or.inr (Or.inl rfl) | exact Or.inr (Or.inr rfl)) (by decide) (by decide)) (@pe_int _ _ _ _) (fun _ _ => rfl)) (@pv _ 1 _ _ (by rfl) (by first | exact Or.inl rfl | exact Or.inr (Or.inl rfl) | exact Or.inr (Or.inr rfl)) (by decide) (by decide)) rfl))) (fun _ _ _ _ => (@pv _ 0 _ _ (by rfl) (by first | exact Or.inl rfl | exact Or.inr (Or.inl rfl) | exact Or.inr (Or.inr rfl)) (by decide) (by decide))) (by rfl) (by rfl) (by rfl) (by intro _; rfl)) (by rfl) (by first | exact .inl rfl | exact .inr rfl | assumption)))))) (@pss_nil _)))) (@pss_cons _ _ _ _ _ (@ps_set _ _ 13 _ _ _ _ sc_law.nd rfl (by first | exact Or.inl rfl | exact Or.inr rfl) (@pe_callB _ _ _ _ _ _ _ _ _ (call_max2 rfl) rfl (hb _ (by decide)) bt_max (@pa_cX _ _ _ _ _ (@pe_int _ _ _ _) (@pa_cX _ _ _ _ _ (@pe_op _ _ _ _ _ _ _ _ op_add (@pv _ 7 _ _ (by rfl) (by first | exact Or.inl rfl | exact Or.inr (Or.inl rfl) | exact Or.inr (Or.inr rfl)) (by decide) (by decide)) (@pe_ix _ _ _ _ _ _ _ (ix_get hu1) (@pe_lst _ _ _ _ (@pa_cX _ _ _ _ _ (@pe_int _ _ _ _) (@pa_cX _ _ _ _ _ (@pe_fn _ _ _ _ _ _ _ _ _ _ _ F__law_next hr (@pa_cX _ _ _ _ _ (@pv _ 9 _ _ (by rfl) (by first | exact Or.inl rfl | exact Or.inr (Or.inl rfl) | exact Or.inr (Or.inr rfl)) (by decide) (by decide)) (@pa_cX _ _ _ _ _ (@pe_int _ _ _ _) (@pa_nil _) (by rfl)) (by rfl)) (by decide) (by rfl) (by decide) (by rfl) (by rfl)) (@pa_cX _ _ _ _ _ (@pe_op _ _ _ _ _ _ _ _ op_sub (@pe_int _ _ _ _) (@pe_fn _ _ _ _ _ _ _ _ _ _ _ F__law_next hr (@pa_cX _ _ _ _ _ (@pv _ 9 _ _ (by rfl) (by first | exact Or.inl rfl | exact Or.inr (Or.inl rfl) | exact Or.inr (Or.inr rfl)) (by decide) (by decide)) (@pa_cX _ _ _ _ _ (@pe_int _ _ _ _) (@pa_nil _) (by rfl)) (by rfl)) (by decide) (by rfl) (by decide) (by rfl) (by rfl))) (@pa_nil _) (by rfl)) (by rfl)) (by rfl))) (@pe_fn _ _ _ _ _ _ _ _ _ _ _ F__law_next hr (@pa_cX _ _ _ _ _ (@pv _ 9 _ _ (by rfl) (by first | exact Or.inl rfl | exact Or.inr (Or.inl rfl) | exact Or.inr (Or.inr rfl)) (by decide) (by decide)) (@pa_cX _ _ _ _ _ (@pe_int _ _ _ _) (@pa_nil _) (by rfl)) (by rfl)) (by decide) (by rfl) (by decide) (by rfl) (by rfl)) (fun _ _ => rfl))) (@pa_nil _) (by rfl)) (by rfl)) (by decide) (by decide) (by rfl) (by rfl)) (by rfl) (by first | exact .inl rfl | exact .inr rfl | assumption)) (@pss_cons _ _ _ _ _ (@ps_set _ _ 14 _ _ _ _ sc_law.nd rfl (by first | exact Or.inl rfl | exact Or.inr rfl) (@pe_ix _ _ _ _ _ _ _ (ix_get hu1) (@pe_lst _ _ _ _ (@pa_cX _ _ _ _ _ (@pv _ 5 _ _ (by rfl) (by first | exact Or.inl rfl | exact Or.inr (Or.inl rfl) | exact Or.inr (Or.inr rfl)) (by decide) (by decide)) (@pa_cX _ _ _ _ _ (@pe_slice _ _ _ _ _ _ _ _ _ _ sl_X (@pv _ 5 _ _ (by rfl) (by first | exact Or.inl rfl | exact Or.inr (Or.inl rfl) | exact Or.inr (Or.inr rfl)) (by decide) (by decide)) (@po_none _) (@po_some _ _ _ (@pe_op _ _ _ _ _ _ _ _ op_fdiv (@pe_fn _ _ _ _ _ _ _ _ _ _ _ F__law_next hr (@pa_cX _ _ _ _ _ (@pv _ 9 _ _ (by rfl) (by first | exact Or.inl rfl | exact Or.inr (Or.inl rfl) | exact Or.inr (Or.inr rfl)) (by decide) (by decide)) (@pa_cX _ _ _ _ _ (@pe_int _ _ _ _) (@pa_nil _) (by rfl)) (by rfl)) (by decide) (by rfl) (by decide) (by rfl) (by rfl)) (@pe_int _ _ _ _)))) (@pa_nil _) (by rfl)) (by rfl))) (@pe_op _ _ _ _ _ _ _ _ op_mod (@pe_op _ _ _ _ _ _ _ _ op_fdiv (@pv _ 1 _ _ (by rfl) (by first | exact Or.inl rfl | exact Or.inr (Or.inl rfl) | exact Or.inr (Or.inr rfl)) (by decide) (by decide)) (@pe_int _ _ _ _)) (@pe_int _ _ _ _)) (fun _ _ => rfl)) (by rfl) (by first | exact .inl rfl | exact .inr rfl | assumption)) (@pss_one _ _ _ (@ps_if _ _ _ _ _ _ _ _ (@pt_not _ _ _ _ (@pt_truX _ _ _ (@pe_fn _ _ _ _ _ _ _ _ _ _ _ F__law_found hr (@pa_cX _ _ _ _ _ (@pv _ 3 _ _ (by rfl) (by first | exact Or.inl rfl | exact Or.inr (Or.inl rfl) | exact Or.inr (Or.inr rfl)) (by decide) (by decide)) (@pa_cX _ _ _ _ _ (@pv _ 6 _ _ (by rfl) (by first | exact Or.inl rfl | exact Or.inr (Or.inl rfl) | exact Or.inr (Or.inr rfl)) (by decide) (by decide)) (@pa_cX _ _ _ _ _ (@pv _ 14 _ _ (by rfl) (by first | exact Or.inl rfl | exact Or.inr (Or.inl rfl) | exact Or.inr (Or.inr rfl)) (by decide) (by decide)) (@pa_cX _ _ _ _ _ (@pv _ 13 _ _ (by rfl) (by first | exact Or.inl rfl | exact Or.inr (Or.inl rfl) | exact Or.inr (Or.inr rfl)) (by decide) (by decide)) (@pa_cX _ _ _ _ _ (@pv _ 2 _ _ (by rfl) (by first | exact Or.inl rfl | exact Or.inr (Or.inl rfl) | exact Or.inr (Or.inr rfl)) (by decide) (by decide)) (@pa_nil _) (by rfl)) (by rfl)) (by rfl)) (by rfl)) (by rfl)) (by decide) (by rfl) (by decide) (by rfl) (by rfl)) (by intro _; rfl))) (@pss_one _ _ _ (@ps_ret _ _ _ _ (@pe_bl _ _ _ _))) (@pss_nil _)))))))))) (by intro _; rfl)) (@pss_cons _ _ _ _ _ (@ps_if _ _ _ _ _ _ _ _ (@pt_not _ _ _ _ (@pt_truX _ _ _ (@pe_fn _ _ _ _ _ _ _ _ _ _ _ F__law_found hr (@pa_cX _ _ _ _ _ (@pv _ 3 _ _ (by rfl) (by first | exact Or.inl rfl | exact Or.inr (Or.inl rfl) | exact Or.inr (Or.inr rfl)) (by decide) (by decide)) (@pa_cX _ _ _ _ _ (@pv _ 6 _ _ (by rfl) (by first | exact Or.inl rfl | exact Or.inr (Or.inl rfl) | exact Or.inr (Or.inr rfl)) (by decide) (by decide)) (@pa_cX _ _ _ _ _ (@pv _ 5 _ _ (by rfl) (by first | exact Or.inl rfl | exact Or.inr (Or.inl rfl) | exact Or.inr (Or.inr rfl)) (by decide) (by decide)) (@pa_cX _ _ _ _ _ (@pv _ 7 _ _ (by rfl) (by first | exact Or.inl rfl | exact Or.inr (Or.inl rfl) | exact Or.inr (Or.inr rfl)) (by decide) (by decide)) (@pa_cX _ _ _ _ _ (@pv _ 2 _ _ (by rfl) (by first | exact Or.inl rfl | exact Or.inr (Or.inl rfl) | exact Or.inr (Or.inr rfl)) (by decide) (by decide)) (@pa_nil _) (by rfl)) (by rfl)) (by rfl)) (by rfl)) (by rfl)) (by decide) (by rfl) (by decide) (by rfl) (by rfl)) (by intro _; rfl))) (@pss_one _ _ _ (@ps_ret _ _ _ _ (@pe_bl _ _ _ _))) (@pss_nil _)) (@pss_cons _ _ _ _ _ (@ps_if _ _ _ _ _ _ _ _ (@PW.pt _ _ _ (@pw_or _ _ _ _ _ _ _ (@pt_cmpR _ _ _ _ _ _ _ _ op_ne (@pe_mth _ _ _ _ _ _ _ _ _ _ _ _ _ _ _ M_Near_find T_Near.cl hr (@pv _ 4 _ _ (by rfl) (by first | exact Or.inl rfl | exact Or.inr (Or.inl rfl) | exact Or.inr (Or.inr rfl)) (by decide) (by decide)) (@pa_cX _ _ _ _ _ (@pe_str _ _ _ _) (@pa_cX _ _ _ _ _ (@pe_op _ _ _ _ _ _ _ _ op_add (@pe_op _ _ _ _ _ _ _ _ op_add (@pe_op _ _ _ _ _ _ _ _ op_pow (@pe_int _ _ _ _) (@pe_int _ _ _ _)) (@pv _ 2 _ _ (by rfl) (by first | exact Or.inl rfl | exact Or.inr (Or.inl rfl) | exact Or.inr (Or.inr rfl)) (by decide) (by decide))) (@pe_int _ _ _ _)) (@pa_nil _) (by rfl)) (by rfl)) (by decide) (by rfl) (by rfl) (by rfl)) (@pe_int _ _ _ _) (nomark _)) (@pw_or1 _ _ _ _ (@pt_cmpR _ _ _ _ _ _ _ _ op_notN (@pe_mth _ _ _ _ _ _ _ _ _ _ _ _ _ _ _ M_Near_find T_Near.cl hr (@pv _ 4 _ _ (by rfl) (by first | exact Or.inl rfl | exact Or.inr (Or.inl rfl) | exact Or.inr (Or.inr rfl)) (by decide) (by decide)) (@pa_cX _ _ _ _ _ (@pe_str _ _ _ _) (@pa_cX _ _ _ _ _ (@pe_int _ _ _ _) (@pa_nil _) (by rfl)) (by rfl)) (by decide) (by rfl) (by rfl) (by rfl)) (@pe_non _ _ _) (nomark _))))) (@pss_one _ _ _ (@ps_ret _ _ _ _ (@pe_bl _ _ _ _))) (@pss_nil _)) (@pss_one _ _ _ (@ps_ret _ _ _ _ (@pe_cmpR _ _ _ _ _ _ _ _ op_isN (@pe_mth _ _ _ _ _ _ _ _ _ _ _ _ _ _ _ M_Near_find T_Near.cl hr (@pv _ 3 _ _ (by rfl) (by first | exact Or.inl rfl | exact Or.inr (Or.inl rfl) | exact Or.inr (Or.inr rfl)) (by decide) (by decide)) (@pa_cX _ _ _ _ _ (@pe_str _ _ _ _) (@pa_cX _ _ _ _ _ (@pv _ 7 _ _ (by rfl) (by first | exact Or.inl rfl | exact Or.inr (Or.inl rfl) | exact Or.inr (Or.inr rfl)) (by decide) (by decide)) (@pa_nil _) (by rfl)) (by rfl)) (by decide) (by rfl) (by rfl) (by rfl)) (@pe_non _ _ _) (nomark _)))))))))))))))), ?_⟩
    refine use2 (fun σ' H' => ∃ r : Int, σ' = [some (.ref sc), some (.int r), none, none, none, none, none, none, none, none, none, none, none, none, none] ∧ Same H H') ?key ?go
    case go =>
      intro R' hR
      simp (maxSteps := 1000000) only [tFor_eq, tComp_eq, rRngs, rListR, HO.rng.injEq, tDKeys, rSortL, rSortK, ixN_10, ixN_20, ixN_21, ixN_30, ixN_31, ixN_32, ixN_40, ixN_41, ixN_42, ixN_43, ixN_50, ixN_51, ixN_52, ixN_53, ixN_54, rNe_nn, rEq_nn, rNe_in, rEq_in, rNe_ni, rEq_ni, gSeqX, rLeS, rEq_ss, rNe_ss, rStr1, rAllX, rAnyX, rListD, iStr, rSumX, tBL, tBL0, rExtend, rPopAt, rPop, rReverse, rClear, rIsIX, tyX_n, tyX_b, tyX_i, tyX_s, tyX_r, tyO_l, tyO_t, tyO_d, V.ty.injEq, kT_Noin, kT_Nobo, kT_Nost, kT_Noli, kT_Notu, kT_Nodi, kT_boin, kT_bobo, kT_bost, kT_boli, kT_botu, kT_bodi, kT_inin, kT_inbo, kT_inst, kT_inli, kT_intu, kT_indi, kT_stin, kT_stbo, kT_stst, kT_stli, kT_sttu, kT_stdi, kT_liin, kT_libo, kT_list, kT_lili, kT_litu, kT_lidi, kT_tuin, kT_tubo, kT_tust, kT_tuli, kT_tutu, kT_tudi, kT_diin, kT_dibo, kT_dist, kT_dili, kT_ditu, kT_didi, rGet, getO_l, getO_t, getO_di, getO_ds, rLenX, lenX_r, lenX_s', lenO_l, lenO_t, lenO_d, Option.bind_some, tTruX, truX_n, truX_b, truX_i, truX_r, truO_l, truO_t, truO_d, rInX, rNotInX, inO_l', inO_t', inO_di, inO_ds, rSetX, setO_l, setO_di', setO_ds', rSlX, rListX, seqO_l, seqO_t, rTupX, gTupX, gCons, gNil, gSub, atI_0, atI_1, atI_2, atI_3, tDNewK, Nat.reduceSub, upd_same, upd_upd, Nat.reduceLT, HO.lst.injEq, HO.tup.injEq, HO.dK.injEq, HO.ins.injEq, Option.map_some, Option.isSome_some, Int.reduceEq, Int.reduceLT, Int.reduceLE, Nat.reduceAdd, List.isEmpty_nil, List.isEmpty_cons, ne_eq, not_false_eq_true, tDGs, sDPs, rIsB, rIsntB, tMeth, tMake, tDGet, sDPut, tFld, sFld, tDisp, tPairs, tNever, decide_true, decide_false, truV_bl, clsV_ty, V.ty.injEq, exists_eq', exists_eq, Bool.not_true, Bool.not_false, Bool.not_not, rLen, rListOf, rTupOf, rAny, rAll, rIsI, tTru, iRng1, iRng2, iList, tYes, cSt, List.drop_succ_cons, List.drop_zero, cxOf_K, cxC_K,  tBM, tBM0, rAppend, tSl, rSlL, tNoPart, tPart, rIxL, rIxT, rCat, List.cons.injEq, rEq_ii, rNe_ii, rEq_bb, rNe_bb, tSeq, exists_and_left, if_false, if_true, reduceIte, Bool.false_eq_true, tIfS, tAnd, tOr, tNot, tTest, tOp, tUn, tVar, tC, rI, rI0, rU, tRet, tRetN, tAsg, gName, tNext, tAndV, tOrV, tNotV, tIf, tCall, tCons, tNil, tCB, tDrop, tLst, tTup, tChain, L2.start, List.map_cons, List.map_nil, List.length_cons, List.length_nil, List.replicate, List.cons_append, List.nil_append, List.getElem?_cons_zero, List.getElem?_cons_succ, List.set_cons_zero, List.set_cons_succ, Option.some.injEq, exists_eq_left', exists_eq_left, V.int.injEq, V.bl.injEq, V.ref.injEq, V.str.injEq, exists_const, and_true, true_and, reduceCtorEq, false_and, exists_false, or_false, false_or, and_assoc, List.append_nil, sp_forty]
      obtain ⟨c1, hc1⟩ := cutV_map ns none (some 1)
      refine ⟨_, hS, ?_⟩
      intro p1 n1
      generalize z1 : upd H p1 _ = H1
      obtain ⟨s1, e1⟩ := new_same z1 n1
      refine ⟨c1, hc1, ite2 (fun _ => ⟨⟨by decide, by decide⟩, ⟨by decide, by decide⟩, by omega, by omega, by omega, fun H' s' => hR _ _ ⟨_, rfl, s1.trans s'⟩⟩) (fun _ => hR _ _ ⟨_, rfl, s1⟩)⟩
    case key =>
      rintro σ H0 ⟨r, rfl, s0⟩
      have hS0 := s0.seq hS
      refine use7 (Pm0 C sc r H0) ?key2 ?go2
      case go2 =>
        intro R2 hR2
        simp (maxSteps := 1000000) only [tFor_eq, tComp_eq, rRngs, rListR, HO.rng.injEq, tDKeys, rSortL, rSortK, ixN_10, ixN_20, ixN_21, ixN_30, ixN_31, ixN_32, ixN_40, ixN_41, ixN_42, ixN_43, ixN_50, ixN_51, ixN_52, ixN_53, ixN_54, rNe_nn, rEq_nn, rNe_in, rEq_in, rNe_ni, rEq_ni, gSeqX, rLeS, rEq_ss, rNe_ss, rStr1, rAllX, rAnyX, rListD, iStr, rSumX, tBL, tBL0, rExtend, rPopAt, rPop, rReverse, rClear, rIsIX, tyX_n, tyX_b, tyX_i, tyX_s, tyX_r, tyO_l, tyO_t, tyO_d, V.ty.injEq, kT_Noin, kT_Nobo, kT_Nost, kT_Noli, kT_Notu, kT_Nodi, kT_boin, kT_bobo, kT_bost, kT_boli, kT_botu, kT_bodi, kT_inin, kT_inbo, kT_inst, kT_inli, kT_intu, kT_indi, kT_stin, kT_stbo, kT_stst, kT_stli, kT_sttu, kT_stdi, kT_liin, kT_libo, kT_list, kT_lili, kT_litu, kT_lidi, kT_tuin, kT_tubo, kT_tust, kT_tuli, kT_tutu, kT_tudi, kT_diin, kT_dibo, kT_dist, kT_dili, kT_ditu, kT_didi, rGet, getO_l, getO_t, getO_di, getO_ds, rLenX, lenX_r, lenX_s', lenO_l, lenO_t, lenO_d, Option.bind_some, tTruX, truX_n, truX_b, truX_i, truX_r, truO_l, truO_t, truO_d, rInX, rNotInX, inO_l', inO_t', inO_di, inO_ds, rSetX, setO_l, setO_di', setO_ds', rSlX, rListX, seqO_l, seqO_t, rTupX, gTupX, gCons, gNil, gSub, atI_0, atI_1, atI_2, atI_3, tDNewK, Nat.reduceSub, upd_same, upd_upd, Nat.reduceLT, HO.lst.injEq, HO.tup.injEq, HO.dK.injEq, HO.ins.injEq, Option.map_some, Option.isSome_some, Int.reduceEq, Int.reduceLT, Int.reduceLE, Nat.reduceAdd, List.isEmpty_nil, List.isEmpty_cons, ne_eq, not_false_eq_true, tDGs, sDPs, rIsB, rIsntB, tMeth, tMake, tDGet, sDPut, tFld, sFld, tDisp, tPairs, tNever, decide_true, decide_false, truV_bl, clsV_ty, V.ty.injEq, exists_eq', exists_eq, Bool.not_true, Bool.not_false, Bool.not_not, rLen, rListOf, rTupOf, rAny, rAll, rIsI, tTru, iRng1, iRng2, iList, tYes, cSt, List.drop_succ_cons, List.drop_zero, cxOf_K, cxC_K,  tBM, tBM0, rAppend, tSl, rSlL, tNoPart, tPart, rIxL, rIxT, rCat, List.cons.injEq, rEq_ii, rNe_ii, rEq_bb, rNe_bb, tSeq, exists_and_left, if_false, if_true, reduceIte, Bool.false_eq_true, tIfS, tAnd, tOr, tNot, tTest, tOp, tUn, tVar, tC, rI, rI0, rU, tRet, tRetN, tAsg, gName, tNext, tAndV, tOrV, tNotV, tIf, tCall, tCons, tNil, tCB, tDrop, tLst, tTup, tChain, L2.start, List.map_cons, List.map_nil, List.length_cons, List.length_nil, List.replicate, List.cons_append, List.nil_append, List.getElem?_cons_zero, List.getElem?_cons_succ, List.set_cons_zero, List.set_cons_succ, Option.some.injEq, exists_eq_left', exists_eq_left, V.int.injEq, V.bl.injEq, V.ref.injEq, V.str.injEq, exists_const, and_true, true_and, reduceCtorEq, false_and, exists_false, or_false, false_or, and_assoc, List.append_nil, sp_ninit]
        refine ⟨⟨by decide, by decide⟩, ⟨by decide, by decide⟩, ⟨by decide, by decide, by decide⟩, by decide, by decide, ?_⟩
        have b1 := Int.emod_nonneg (r / 4) (show (10 ^ Int.toNat 30 : Int) ≠ 0 by decide)
        have b2 := Int.emod_lt_of_pos (r / 4) (show (0 : Int) < 10 ^ Int.toNat 30 by decide)
        have b3 : (10 ^ Int.toNat 30 : Int) < 2 ^ 190 := by decide
        generalize r / 4 % 10 ^ Int.toNat 30 = w1 at b1 b2 ⊢
        intro p1 n1
        generalize z1 : upd H0 p1 _ = H1
        obtain ⟨s1, e1⟩ := new_same z1 n1
        obtain ⟨wv, hwv, ewv⟩ := atI_in (xs := [V.int (r / 4 % 21), V.int w1]) (k := r / 2 % 2) (by omega) (by simp only [List.length_cons, List.length_nil]; omega)
        obtain ⟨kp, rfl, k0, k1⟩ : ∃ kp : Int, wv = .int kp ∧ 0 ≤ kp ∧ kp < 2 ^ 190 := by
          simp only [List.mem_cons, List.not_mem_nil, or_false] at hwv
          rcases hwv with rfl | rfl
          · exact ⟨_, rfl, by omega, by have : (21 : Int) < 2 ^ 190 := (by decide); omega⟩
          · exact ⟨_, rfl, b1, by omega⟩
        refine ⟨⟨by decide, by decide⟩, _, ewv, fun x dx hx hdx _ => ⟨dx, kp, rfl, rfl, fun pg H2 hpg O2 k2 => ⟨kp, rfl, fun y dy hy hdy _ qg H3 hqg O3 k3 => ?_⟩⟩⟩
        have s2 : Same H1 H2 := make_same hx hdx k2
        have s3 : Same H2 H3 := make_same hy hdy k3
        have ey3 := O3.ins
        simp (maxSteps := 1000000) only [tFor_eq, tComp_eq, rRngs, rListR, HO.rng.injEq, tDKeys, rSortL, rSortK, ixN_10, ixN_20, ixN_21, ixN_30, ixN_31, ixN_32, ixN_40, ixN_41, ixN_42, ixN_43, ixN_50, ixN_51, ixN_52, ixN_53, ixN_54, rNe_nn, rEq_nn, rNe_in, rEq_in, rNe_ni, rEq_ni, gSeqX, rLeS, rEq_ss, rNe_ss, rStr1, rAllX, rAnyX, rListD, iStr, rSumX, tBL, tBL0, rExtend, rPopAt, rPop, rReverse, rClear, rIsIX, tyX_n, tyX_b, tyX_i, tyX_s, tyX_r, tyO_l, tyO_t, tyO_d, V.ty.injEq, kT_Noin, kT_Nobo, kT_Nost, kT_Noli, kT_Notu, kT_Nodi, kT_boin, kT_bobo, kT_bost, kT_boli, kT_botu, kT_bodi, kT_inin, kT_inbo, kT_inst, kT_inli, kT_intu, kT_indi, kT_stin, kT_stbo, kT_stst, kT_stli, kT_sttu, kT_stdi, kT_liin, kT_libo, kT_list, kT_lili, kT_litu, kT_lidi, kT_tuin, kT_tubo, kT_tust, kT_tuli, kT_tutu, kT_tudi, kT_diin, kT_dibo, kT_dist, kT_dili, kT_ditu, kT_didi, rGet, getO_l, getO_t, getO_di, getO_ds, rLenX, lenX_r, lenX_s', lenO_l, lenO_t, lenO_d, Option.bind_some, tTruX, truX_n, truX_b, truX_i, truX_r, truO_l, truO_t, truO_d, rInX, rNotInX, inO_l', inO_t', inO_di, inO_ds, rSetX, setO_l, setO_di', setO_ds', rSlX, rListX, seqO_l, seqO_t, rTupX, gTupX, gCons, gNil, gSub, atI_0, atI_1, atI_2, atI_3, tDNewK, Nat.reduceSub, upd_same, upd_upd, Nat.reduceLT, HO.lst.injEq, HO.tup.injEq, HO.dK.injEq, HO.ins.injEq, Option.map_some, Option.isSome_some, Int.reduceEq, Int.reduceLT, Int.reduceLE, Nat.reduceAdd, List.isEmpty_nil, List.isEmpty_cons, ne_eq, not_false_eq_true, tDGs, sDPs, rIsB, rIsntB, tMeth, tMake, tDGet, sDPut, tFld, sFld, tDisp, tPairs, tNever, decide_true, decide_false, truV_bl, clsV_ty, V.ty.injEq, exists_eq', exists_eq, Bool.not_true, Bool.not_false, Bool.not_not, rLen, rListOf, rTupOf, rAny, rAll, rIsI, tTru, iRng1, iRng2, iList, tYes, cSt, List.drop_succ_cons, List.drop_zero, cxOf_K, cxC_K,  tBM, tBM0, rAppend, tSl, rSlL, tNoPart, tPart, rIxL, rIxT, rCat, List.cons.injEq, rEq_ii, rNe_ii, rEq_bb, rNe_bb, tSeq, exists_and_left, if_false, if_true, reduceIte, Bool.false_eq_true, tIfS, tAnd, tOr, tNot, tTest, tOp, tUn, tVar, tC, rI, rI0, rU, tRet, tRetN, tAsg, gName, tNext, tAndV, tOrV, tNotV, tIf, tCall, tCons, tNil, tCB, tDrop, tLst, tTup, tChain, L2.start, List.map_cons, List.map_nil, List.length_cons, List.length_nil, List.replicate, List.cons_append, List.nil_append, List.getElem?_cons_zero, List.getElem?_cons_succ, List.set_cons_zero, List.set_cons_succ, Option.some.injEq, exists_eq_left', exists_eq_left, V.int.injEq, V.bl.injEq, V.ref.injEq, V.str.injEq, exists_const, and_true, true_and, reduceCtorEq, false_and, exists_false, or_false, false_or, and_assoc, List.append_nil, ey3, T_Near.cl, T_Near.no "keep" (by decide), T_Near.no "answers" (by decide), fs_Near_keep, fs_Near_answers, fn_Near___init__, fn_Near_put, fn_Near_is_fresh, fn_Near_find, fn_Near_thin, fl_Near, fp_Near_keep, fp_Near_answers, fq_Near_0, fq_Near_1]
        refine ⟨⟨by decide, by decide, by decide⟩, y, dy, qg, kp + 1, _, _, some 11, [], _, rfl, O3, by simp, fun kvs2 H4 O4 hl4 k4 => ?_⟩
        have hqg2 : H2 qg = none := (upd_none (upd_none hqg).2).2
        have nxy : x ≠ y := ne_of_none O2.ins hy
        have npq : pg ≠ qg := ne_of_none O2.dic hqg2
        have O24 := (O2.same s3).keep k4 (noT1 (.of_dK O3.dic)) (by simp; exact ne_of (s3 _ _ O2.ins) O3.dic (by intro z; cases z)) (by simp; exact npq)
        have s04 : Same H0 H4 := (s1.trans s2).trans fun b o e => k4 _ _ (s3 _ _ e) (by simp; exact ne_of_none e hqg2)
        refine ⟨by decide, ?_⟩
        intro p5 n5
        generalize z5 : upd H4 p5 _ = H5
        obtain ⟨s5, e5⟩ := new_same z5 n5
        refine ⟨by decide, ?_⟩
        intro p6 n6
        generalize z6 : upd H5 p6 _ = H6
        obtain ⟨s6, e6⟩ := new_same z6 n6
        exact hR2 _ _ ⟨x, dx, pg, y, dy, qg, p5, p6, kp, kvs2, rfl, (O24.same s5).same s6, (O4.same s5).same s6, s6 _ _ e5, e6, nxy, npq, Ne.symm (ne_of_none e5 n6), k0, k1, s04.trans (s5.trans s6)⟩
      case key2 =>
        rintro σ H1 ⟨x, dx, pg, y, dy, qg, pn, pa, kp, kvs2, rfl, N1, B1, en, ea, nxy, npq, nan, k0, k1, s1⟩
        have hS1 := s1.seq hS0
        simp (maxSteps := 1000000) only [tFor_eq, tComp_eq, rRngs, rListR, HO.rng.injEq, tDKeys, rSortL, rSortK, ixN_10, ixN_20, ixN_21, ixN_30, ixN_31, ixN_32, ixN_40, ixN_41, ixN_42, ixN_43, ixN_50, ixN_51, ixN_52, ixN_53, ixN_54, rNe_nn, rEq_nn, rNe_in, rEq_in, rNe_ni, rEq_ni, gSeqX, rLeS, rEq_ss, rNe_ss, rStr1, rAllX, rAnyX, rListD, iStr, rSumX, tBL, tBL0, rExtend, rPopAt, rPop, rReverse, rClear, rIsIX, tyX_n, tyX_b, tyX_i, tyX_s, tyX_r, tyO_l, tyO_t, tyO_d, V.ty.injEq, kT_Noin, kT_Nobo, kT_Nost, kT_Noli, kT_Notu, kT_Nodi, kT_boin, kT_bobo, kT_bost, kT_boli, kT_botu, kT_bodi, kT_inin, kT_inbo, kT_inst, kT_inli, kT_intu, kT_indi, kT_stin, kT_stbo, kT_stst, kT_stli, kT_sttu, kT_stdi, kT_liin, kT_libo, kT_list, kT_lili, kT_litu, kT_lidi, kT_tuin, kT_tubo, kT_tust, kT_tuli, kT_tutu, kT_tudi, kT_diin, kT_dibo, kT_dist, kT_dili, kT_ditu, kT_didi, rGet, getO_l, getO_t, getO_di, getO_ds, rLenX, lenX_r, lenX_s', lenO_l, lenO_t, lenO_d, Option.bind_some, tTruX, truX_n, truX_b, truX_i, truX_r, truO_l, truO_t, truO_d, rInX, rNotInX, inO_l', inO_t', inO_di, inO_ds, rSetX, setO_l, setO_di', setO_ds', rSlX, rListX, seqO_l, seqO_t, rTupX, gTupX, gCons, gNil, gSub, atI_0, atI_1, atI_2, atI_3, tDNewK, Nat.reduceSub, upd_same, upd_upd, Nat.reduceLT, HO.lst.injEq, HO.tup.injEq, HO.dK.injEq, HO.ins.injEq, Option.map_some, Option.isSome_some, Int.reduceEq, Int.reduceLT, Int.reduceLE, Nat.reduceAdd, List.isEmpty_nil, List.isEmpty_cons, ne_eq, not_false_eq_true, tDGs, sDPs, rIsB, rIsntB, tMeth, tMake, tDGet, sDPut, tFld, sFld, tDisp, tPairs, tNever, decide_true, decide_false, truV_bl, clsV_ty, V.ty.injEq, exists_eq', exists_eq, Bool.not_true, Bool.not_false, Bool.not_not, rLen, rListOf, rTupOf, rAny, rAll, rIsI, tTru, iRng1, iRng2, iList, tYes, cSt, List.drop_succ_cons, List.drop_zero, cxOf_K, cxC_K,  tBM, tBM0, rAppend, tSl, rSlL, tNoPart, tPart, rIxL, rIxT, rCat, List.cons.injEq, rEq_ii, rNe_ii, rEq_bb, rNe_bb, tSeq, exists_and_left, if_false, if_true, reduceIte, Bool.false_eq_true, tIfS, tAnd, tOr, tNot, tTest, tOp, tUn, tVar, tC, rI, rI0, rU, tRet, tRetN, tAsg, gName, tNext, tAndV, tOrV, tNotV, tIf, tCall, tCons, tNil, tCB, tDrop, tLst, tTup, tChain, L2.start, List.map_cons, List.map_nil, List.length_cons, List.length_nil, List.replicate, List.cons_append, List.nil_append, List.getElem?_cons_zero, List.getElem?_cons_succ, List.set_cons_zero, List.set_cons_succ, Option.some.injEq, exists_eq_left', exists_eq_left, V.int.injEq, V.bl.injEq, V.ref.injEq, V.str.injEq, exists_const, and_true, true_and, reduceCtorEq, false_and, exists_false, or_false, false_or, and_assoc, List.append_nil]
        refine ⟨_, hS1, ?_⟩
        obtain ⟨cs, hcs⟩ := cutV_map ns none (some 60)
        have lcs : cs.length ≤ 63 := by
          have := cutV_length (ns.map V.int) none (some 60)
          rw [hcs, List.length_map, List.length_map] at this
          omega
        rw [hcs]
        intro p2 n2
        generalize z2 : upd H1 p2 _ = H2
        obtain ⟨s2, e2⟩ := new_same z2 n2
        obtain ⟨g, hgx, hgd, hgp, hgy, hge, hgq, hgn, hgc, hgk, hgl⟩ : ∃ g : Gh, g.x = x ∧ g.dx = dx ∧ g.pg = pg ∧ g.y = y ∧ g.dy = dy ∧ g.qg = qg ∧ g.pn = pn ∧ g.pc = p2 ∧ g.kp = kp ∧ g.cells = cs.map V.int := ⟨⟨x, dx, pg, y, dy, qg, pn, p2, kp, cs.map V.int⟩, rfl, rfl, rfl, rfl, rfl, rfl, rfl, rfl, rfl, rfl⟩
        have nac : pa ≠ p2 := ne_of_none ea n2
        subst hgx hgd hgp hgy hge hgq hgn hgc hgk
        refine ⟨⟨_, SqL.of e2⟩, for_list (xs := cs.map V.int) (Lw C sc r g) ⟨pa, 0, none, none, none, none, none, none, none, rfl, [], kvs2, _, [], [], N1.same s2, B1.same s2, s2 _ _ en, s2 _ _ ea, by rw [hgl]; exact e2, .nil, by simp, by simp, fun z => rfl, by simp, nxy, npq, nan, nac, k0, k1⟩ ?_ ?_ ?_⟩
        · rintro i σ H' hi ⟨pa, now, v8, v9, v10, v11, v12, v13, v14, rfl, kvs, kvs2, m, xs, rs, I⟩
          rw [← hgl]
          exact SqL.of I.ec
        · rintro i cv σ H' hcv ⟨pa, now, v8, v9, v10, v11, v12, v13, v14, rfl, Z⟩
          rw [List.getElem?_map] at hcv
          obtain ⟨c, hc, rfl⟩ := Option.map_eq_some_iff.mp hcv
          have hi63 : i < 63 := by
            have := (List.getElem?_eq_some_iff.mp hc).1
            omega
          refine use4 (PmA C sc r g i) ?key3 ?go3
          case go3 =>
            intro R3 hR3
            obtain ⟨kvs, kvs2, m, xs, rs, I⟩ := id Z
            have k0' := I.k0
            have k1' := I.k1
            have hk3 : g.kp + 3 < 2 ^ 200 := by
              have : (2 : Int) ^ 190 + 3 < 2 ^ 200 := by decide
              omega
            simp (maxSteps := 1000000) only [tFor_eq, tComp_eq, rRngs, rListR, HO.rng.injEq, tDKeys, rSortL, rSortK, ixN_10, ixN_20, ixN_21, ixN_30, ixN_31, ixN_32, ixN_40, ixN_41, ixN_42, ixN_43, ixN_50, ixN_51, ixN_52, ixN_53, ixN_54, rNe_nn, rEq_nn, rNe_in, rEq_in, rNe_ni, rEq_ni, gSeqX, rLeS, rEq_ss, rNe_ss, rStr1, rAllX, rAnyX, rListD, iStr, rSumX, tBL, tBL0, rExtend, rPopAt, rPop, rReverse, rClear, rIsIX, tyX_n, tyX_b, tyX_i, tyX_s, tyX_r, tyO_l, tyO_t, tyO_d, V.ty.injEq, kT_Noin, kT_Nobo, kT_Nost, kT_Noli, kT_Notu, kT_Nodi, kT_boin, kT_bobo, kT_bost, kT_boli, kT_botu, kT_bodi, kT_inin, kT_inbo, kT_inst, kT_inli, kT_intu, kT_indi, kT_stin, kT_stbo, kT_stst, kT_stli, kT_sttu, kT_stdi, kT_liin, kT_libo, kT_list, kT_lili, kT_litu, kT_lidi, kT_tuin, kT_tubo, kT_tust, kT_tuli, kT_tutu, kT_tudi, kT_diin, kT_dibo, kT_dist, kT_dili, kT_ditu, kT_didi, rGet, getO_l, getO_t, getO_di, getO_ds, rLenX, lenX_r, lenX_s', lenO_l, lenO_t, lenO_d, Option.bind_some, tTruX, truX_n, truX_b, truX_i, truX_r, truO_l, truO_t, truO_d, rInX, rNotInX, inO_l', inO_t', inO_di, inO_ds, rSetX, setO_l, setO_di', setO_ds', rSlX, rListX, seqO_l, seqO_t, rTupX, gTupX, gCons, gNil, gSub, atI_0, atI_1, atI_2, atI_3, tDNewK, Nat.reduceSub, upd_same, upd_upd, Nat.reduceLT, HO.lst.injEq, HO.tup.injEq, HO.dK.injEq, HO.ins.injEq, Option.map_some, Option.isSome_some, Int.reduceEq, Int.reduceLT, Int.reduceLE, Nat.reduceAdd, List.isEmpty_nil, List.isEmpty_cons, ne_eq, not_false_eq_true, tDGs, sDPs, rIsB, rIsntB, tMeth, tMake, tDGet, sDPut, tFld, sFld, tDisp, tPairs, tNever, decide_true, decide_false, truV_bl, clsV_ty, V.ty.injEq, exists_eq', exists_eq, Bool.not_true, Bool.not_false, Bool.not_not, rLen, rListOf, rTupOf, rAny, rAll, rIsI, tTru, iRng1, iRng2, iList, tYes, cSt, List.drop_succ_cons, List.drop_zero, cxOf_K, cxC_K,  tBM, tBM0, rAppend, tSl, rSlL, tNoPart, tPart, rIxL, rIxT, rCat, List.cons.injEq, rEq_ii, rNe_ii, rEq_bb, rNe_bb, tSeq, exists_and_left, if_false, if_true, reduceIte, Bool.false_eq_true, tIfS, tAnd, tOr, tNot, tTest, tOp, tUn, tVar, tC, rI, rI0, rU, tRet, tRetN, tAsg, gName, tNext, tAndV, tOrV, tNotV, tIf, tCall, tCons, tNil, tCB, tDrop, tLst, tTup, tChain, L2.start, List.map_cons, List.map_nil, List.length_cons, List.length_nil, List.replicate, List.cons_append, List.nil_append, List.getElem?_cons_zero, List.getElem?_cons_succ, List.set_cons_zero, List.set_cons_succ, Option.some.injEq, exists_eq_left', exists_eq_left, V.int.injEq, V.bl.injEq, V.ref.injEq, V.str.injEq, exists_const, and_true, true_and, reduceCtorEq, false_and, exists_false, or_false, false_or, and_assoc, List.append_nil, sg]
            refine ⟨c, rfl, fun pd a b H2 hpd epd s2 => ?_⟩
            have J : Jw C g pa pd i H2 := ⟨Z.same s2, ⟨a, b, epd⟩, Ne.symm (ne_of_none I.en hpd), Ne.symm (ne_of_none I.ea hpd), Ne.symm (ne_of_none I.ec hpd)⟩
            refine nx_ok J (by decide) (by decide) fun r1 H3 _ _ J3 k3 => nx_ok J3 (by omega) hk3 fun r2 H4 _ _ J4 k4 => ⟨by decide, ?_⟩
            intro p5 n5
            generalize z5 : upd H4 p5 _ = H5
            obtain ⟨s5, e5⟩ := new_same z5 n5
            have np5 : p5 ≠ pd := fun w => by
              obtain ⟨_, ⟨a', b', e'⟩, _⟩ := J4
              rw [w, e'] at n5; cases n5
            refine nx_ok (J4.same s5) (by decide) (by decide) fun r3 H6 h3 h3' J6 k6 => ?_
            obtain ⟨wv, hwv, ewv⟩ := atI_in (xs := [V.int r1, V.int r2]) (k := r3 / 7) (by omega) (by simp only [List.length_cons, List.length_nil]; omega)
            obtain ⟨bk, rfl⟩ : ∃ bk : Int, wv = .int bk := by
              simp only [List.mem_cons, List.not_mem_nil, or_false] at hwv
              rcases hwv with rfl | rfl <;> exact ⟨_, rfl⟩
            refine ⟨r3, rfl, ⟨by decide, by decide⟩, _, k6 _ _ e5 (by simp; exact np5), _, ewv, _, rfl, ?_⟩
            refine nx_ok J6 (by decide) (by decide) fun r4 H7 h4 h4' J7 k7 => ?_
            obtain ⟨zv, hzv, ezv⟩ := atI_in (xs := N4.map V.str) (k := r4) h4 (by rw [List.length_map]; exact h4')
            obtain ⟨z, hz, rfl⟩ := List.mem_map.mp hzv
            have en7 : H7 g.pn = some (.lst (N4.map V.str)) := by
              obtain ⟨⟨_, _, _, _, _, I7⟩, _⟩ := J7
              exact I7.en
            refine ⟨_, en7, _, ezv, nx_ok J7 (by decide) (by decide) fun r5 H8 _ _ J8 k8 => hR3 _ _ ⟨pa, pd, _, _, z, r5, _, _, _, rfl, hz, J8⟩⟩
          case key3 =>
            rintro σ H2 ⟨pa, pd, now, v8, z, way, v12, v13, v14, rfl, hz, J⟩
            refine use1 (PmB C sc r g i) ?key4 ?go4
            case go4 =>
              intro R4 hR4
              obtain ⟨⟨kvs, kvs2, m, xs, rs, I⟩, ⟨a, b, ed⟩, f1, f2, f3⟩ := J
              have hlen := I.len
              have hkl := I.kl
              simp (maxSteps := 1000000) only [tFor_eq, tComp_eq, rRngs, rListR, HO.rng.injEq, tDKeys, rSortL, rSortK, ixN_10, ixN_20, ixN_21, ixN_30, ixN_31, ixN_32, ixN_40, ixN_41, ixN_42, ixN_43, ixN_50, ixN_51, ixN_52, ixN_53, ixN_54, rNe_nn, rEq_nn, rNe_in, rEq_in, rNe_ni, rEq_ni, gSeqX, rLeS, rEq_ss, rNe_ss, rStr1, rAllX, rAnyX, rListD, iStr, rSumX, tBL, tBL0, rExtend, rPopAt, rPop, rReverse, rClear, rIsIX, tyX_n, tyX_b, tyX_i, tyX_s, tyX_r, tyO_l, tyO_t, tyO_d, V.ty.injEq, kT_Noin, kT_Nobo, kT_Nost, kT_Noli, kT_Notu, kT_Nodi, kT_boin, kT_bobo, kT_bost, kT_boli, kT_botu, kT_bodi, kT_inin, kT_inbo, kT_inst, kT_inli, kT_intu, kT_indi, kT_stin, kT_stbo, kT_stst, kT_stli, kT_sttu, kT_stdi, kT_liin, kT_libo, kT_list, kT_lili, kT_litu, kT_lidi, kT_tuin, kT_tubo, kT_tust, kT_tuli, kT_tutu, kT_tudi, kT_diin, kT_dibo, kT_dist, kT_dili, kT_ditu, kT_didi, rGet, getO_l, getO_t, getO_di, getO_ds, rLenX, lenX_r, lenX_s', lenO_l, lenO_t, lenO_d, Option.bind_some, tTruX, truX_n, truX_b, truX_i, truX_r, truO_l, truO_t, truO_d, rInX, rNotInX, inO_l', inO_t', inO_di, inO_ds, rSetX, setO_l, setO_di', setO_ds', rSlX, rListX, seqO_l, seqO_t, rTupX, gTupX, gCons, gNil, gSub, atI_0, atI_1, atI_2, atI_3, tDNewK, Nat.reduceSub, upd_same, upd_upd, Nat.reduceLT, HO.lst.injEq, HO.tup.injEq, HO.dK.injEq, HO.ins.injEq, Option.map_some, Option.isSome_some, Int.reduceEq, Int.reduceLT, Int.reduceLE, Nat.reduceAdd, List.isEmpty_nil, List.isEmpty_cons, ne_eq, not_false_eq_true, tDGs, sDPs, rIsB, rIsntB, tMeth, tMake, tDGet, sDPut, tFld, sFld, tDisp, tPairs, tNever, decide_true, decide_false, truV_bl, clsV_ty, V.ty.injEq, exists_eq', exists_eq, Bool.not_true, Bool.not_false, Bool.not_not, rLen, rListOf, rTupOf, rAny, rAll, rIsI, tTru, iRng1, iRng2, iList, tYes, cSt, List.drop_succ_cons, List.drop_zero, cxOf_K, cxC_K,  tBM, tBM0, rAppend, tSl, rSlL, tNoPart, tPart, rIxL, rIxT, rCat, List.cons.injEq, rEq_ii, rNe_ii, rEq_bb, rNe_bb, tSeq, exists_and_left, if_false, if_true, reduceIte, Bool.false_eq_true, tIfS, tAnd, tOr, tNot, tTest, tOp, tUn, tVar, tC, rI, rI0, rU, tRet, tRetN, tAsg, gName, tNext, tAndV, tOrV, tNotV, tIf, tCall, tCons, tNil, tCB, tDrop, tLst, tTup, tChain, L2.start, List.map_cons, List.map_nil, List.length_cons, List.length_nil, List.replicate, List.cons_append, List.nil_append, List.getElem?_cons_zero, List.getElem?_cons_succ, List.set_cons_zero, List.set_cons_succ, Option.some.injEq, exists_eq_left', exists_eq_left, V.int.injEq, V.bl.injEq, V.ref.injEq, V.str.injEq, exists_const, and_true, true_and, reduceCtorEq, false_and, exists_false, or_false, false_or, and_assoc, List.append_nil, sg]
              refine ite2 (fun hw => ⟨xs, I.ea, pd, a, b, now, g.kp, z, rfl, ed, I.k0, I.k1, fun v h t a' b' H3 ed3 hv k3 => ?_⟩) (fun hw => ite2 (fun hw4 => ?_) (fun hw4 => ?_))
              · have I3 := I.keepD ed f1 f2 f3 k3
                obtain ⟨pv, rfl, epv⟩ := hv
                refine ⟨xs, I3.ea, by rw [sizeLine_eq]; omega, ?_⟩
                generalize zA : upd H3 pa _ = H4
                have eA := (congrFun zA.symm pa).trans upd_same
                have kA : Keep [pa] H3 H4 := by rw [← zA]; exact Keep.refl.upd (.inl (.head _))
                have hsA : ∀ b ∈ [pa], NoT H3 b := noT1 (.of_lst I3.ea)
                have N4' := I3.near.keep kA hsA (by simp; exact ne_of I3.near.ins I3.ea (by intro z; cases z)) (by simp; exact ne_of I3.near.dic I3.ea (by intro z; cases z))
                have B4' := I3.besd.keep kA hsA (by simp; exact ne_of I3.besd.ins I3.ea (by intro z; cases z)) (by simp; exact ne_of I3.besd.dic I3.ea (by intro z; cases z))
                have epv4 := kA _ _ epv (by simp; exact ne_of epv I3.ea (by intro z; cases z))
                have ex4 := N4'.ins
                have al := atI_last xs (V.ref pv)
                simp (maxSteps := 1000000) only [tFor_eq, tComp_eq, rRngs, rListR, HO.rng.injEq, tDKeys, rSortL, rSortK, ixN_10, ixN_20, ixN_21, ixN_30, ixN_31, ixN_32, ixN_40, ixN_41, ixN_42, ixN_43, ixN_50, ixN_51, ixN_52, ixN_53, ixN_54, rNe_nn, rEq_nn, rNe_in, rEq_in, rNe_ni, rEq_ni, gSeqX, rLeS, rEq_ss, rNe_ss, rStr1, rAllX, rAnyX, rListD, iStr, rSumX, tBL, tBL0, rExtend, rPopAt, rPop, rReverse, rClear, rIsIX, tyX_n, tyX_b, tyX_i, tyX_s, tyX_r, tyO_l, tyO_t, tyO_d, V.ty.injEq, kT_Noin, kT_Nobo, kT_Nost, kT_Noli, kT_Notu, kT_Nodi, kT_boin, kT_bobo, kT_bost, kT_boli, kT_botu, kT_bodi, kT_inin, kT_inbo, kT_inst, kT_inli, kT_intu, kT_indi, kT_stin, kT_stbo, kT_stst, kT_stli, kT_sttu, kT_stdi, kT_liin, kT_libo, kT_list, kT_lili, kT_litu, kT_lidi, kT_tuin, kT_tubo, kT_tust, kT_tuli, kT_tutu, kT_tudi, kT_diin, kT_dibo, kT_dist, kT_dili, kT_ditu, kT_didi, rGet, getO_l, getO_t, getO_di, getO_ds, rLenX, lenX_r, lenX_s', lenO_l, lenO_t, lenO_d, Option.bind_some, tTruX, truX_n, truX_b, truX_i, truX_r, truO_l, truO_t, truO_d, rInX, rNotInX, inO_l', inO_t', inO_di, inO_ds, rSetX, setO_l, setO_di', setO_ds', rSlX, rListX, seqO_l, seqO_t, rTupX, gTupX, gCons, gNil, gSub, atI_0, atI_1, atI_2, atI_3, tDNewK, Nat.reduceSub, upd_same, upd_upd, Nat.reduceLT, HO.lst.injEq, HO.tup.injEq, HO.dK.injEq, HO.ins.injEq, Option.map_some, Option.isSome_some, Int.reduceEq, Int.reduceLT, Int.reduceLE, Nat.reduceAdd, List.isEmpty_nil, List.isEmpty_cons, ne_eq, not_false_eq_true, tDGs, sDPs, rIsB, rIsntB, tMeth, tMake, tDGet, sDPut, tFld, sFld, tDisp, tPairs, tNever, decide_true, decide_false, truV_bl, clsV_ty, V.ty.injEq, exists_eq', exists_eq, Bool.not_true, Bool.not_false, Bool.not_not, rLen, rListOf, rTupOf, rAny, rAll, rIsI, tTru, iRng1, iRng2, iList, tYes, cSt, List.drop_succ_cons, List.drop_zero, cxOf_K, cxC_K,  tBM, tBM0, rAppend, tSl, rSlL, tNoPart, tPart, rIxL, rIxT, rCat, List.cons.injEq, rEq_ii, rNe_ii, rEq_bb, rNe_bb, tSeq, exists_and_left, if_false, if_true, reduceIte, Bool.false_eq_true, tIfS, tAnd, tOr, tNot, tTest, tOp, tUn, tVar, tC, rI, rI0, rU, tRet, tRetN, tAsg, gName, tNext, tAndV, tOrV, tNotV, tIf, tCall, tCons, tNil, tCB, tDrop, tLst, tTup, tChain, L2.start, List.map_cons, List.map_nil, List.length_cons, List.length_nil, List.replicate, List.cons_append, List.nil_append, List.getElem?_cons_zero, List.getElem?_cons_succ, List.set_cons_zero, List.set_cons_succ, Option.some.injEq, exists_eq_left', exists_eq_left, V.int.injEq, V.bl.injEq, V.ref.injEq, V.str.injEq, exists_const, and_true, true_and, reduceCtorEq, false_and, exists_false, or_false, false_or, and_assoc, List.append_nil, ex4, T_Near.cl, T_Near.no "keep" (by decide), T_Near.no "answers" (by decide), fs_Near_keep, fs_Near_answers, fn_Near___init__, fn_Near_put, fn_Near_is_fresh, fn_Near_find, fn_Near_thin, fl_Near, fp_Near_keep, fp_Near_answers, fq_Near_0, fq_Near_1, al, epv4]
                refine ⟨g.x, g.dx, g.pg, g.kp, t, z, h, kvs, m, rfl, N4', by omega, fun kvs' H5 O5 hl5 k5 => ?_⟩
                have hs5 : ∀ b ∈ [g.pg], NoT H4 b := noT1 (.of_dK N4'.dic)
                have dd : ∀ {b : Addr} {l : List V}, H4 b = some (.lst l) → b ∉ [g.pg] := fun {b l} e => by
                  rw [List.mem_singleton]
                  exact ne_of e N4'.dic (by intro z; cases z)
                have B5 := B4'.keep k5 hs5 (by simp; exact ne_of B4'.ins N4'.dic (by intro z; cases z)) (by simp; exact Ne.symm I.npq)
                have en4 := kA _ _ I3.en (by simp; exact Ne.symm I.nan)
                have ec4 := kA _ _ I3.ec (by simp; exact Ne.symm I.nac)
                have ed4 := kA _ _ ed3 (by simp; exact f2)
                have r4 : Paired (RwV H4) (xs ++ [V.ref pv]) (rs ++ [(z, h, t)]) := paired_append (Paired.mapP I3.rows fun _ _ w => w.keep kA hsA) (.cons ⟨pv, rfl, epv4⟩ .nil)
                simp (maxSteps := 1000000) only [tFor_eq, tComp_eq, rRngs, rListR, HO.rng.injEq, tDKeys, rSortL, rSortK, ixN_10, ixN_20, ixN_21, ixN_30, ixN_31, ixN_32, ixN_40, ixN_41, ixN_42, ixN_43, ixN_50, ixN_51, ixN_52, ixN_53, ixN_54, rNe_nn, rEq_nn, rNe_in, rEq_in, rNe_ni, rEq_ni, gSeqX, rLeS, rEq_ss, rNe_ss, rStr1, rAllX, rAnyX, rListD, iStr, rSumX, tBL, tBL0, rExtend, rPopAt, rPop, rReverse, rClear, rIsIX, tyX_n, tyX_b, tyX_i, tyX_s, tyX_r, tyO_l, tyO_t, tyO_d, V.ty.injEq, kT_Noin, kT_Nobo, kT_Nost, kT_Noli, kT_Notu, kT_Nodi, kT_boin, kT_bobo, kT_bost, kT_boli, kT_botu, kT_bodi, kT_inin, kT_inbo, kT_inst, kT_inli, kT_intu, kT_indi, kT_stin, kT_stbo, kT_stst, kT_stli, kT_sttu, kT_stdi, kT_liin, kT_libo, kT_list, kT_lili, kT_litu, kT_lidi, kT_tuin, kT_tubo, kT_tust, kT_tuli, kT_tutu, kT_tudi, kT_diin, kT_dibo, kT_dist, kT_dili, kT_ditu, kT_didi, rGet, getO_l, getO_t, getO_di, getO_ds, rLenX, lenX_r, lenX_s', lenO_l, lenO_t, lenO_d, Option.bind_some, tTruX, truX_n, truX_b, truX_i, truX_r, truO_l, truO_t, truO_d, rInX, rNotInX, inO_l', inO_t', inO_di, inO_ds, rSetX, setO_l, setO_di', setO_ds', rSlX, rListX, seqO_l, seqO_t, rTupX, gTupX, gCons, gNil, gSub, atI_0, atI_1, atI_2, atI_3, tDNewK, Nat.reduceSub, upd_same, upd_upd, Nat.reduceLT, HO.lst.injEq, HO.tup.injEq, HO.dK.injEq, HO.ins.injEq, Option.map_some, Option.isSome_some, Int.reduceEq, Int.reduceLT, Int.reduceLE, Nat.reduceAdd, List.isEmpty_nil, List.isEmpty_cons, ne_eq, not_false_eq_true, tDGs, sDPs, rIsB, rIsntB, tMeth, tMake, tDGet, sDPut, tFld, sFld, tDisp, tPairs, tNever, decide_true, decide_false, truV_bl, clsV_ty, V.ty.injEq, exists_eq', exists_eq, Bool.not_true, Bool.not_false, Bool.not_not, rLen, rListOf, rTupOf, rAny, rAll, rIsI, tTru, iRng1, iRng2, iList, tYes, cSt, List.drop_succ_cons, List.drop_zero, cxOf_K, cxC_K,  tBM, tBM0, rAppend, tSl, rSlL, tNoPart, tPart, rIxL, rIxT, rCat, List.cons.injEq, rEq_ii, rNe_ii, rEq_bb, rNe_bb, tSeq, exists_and_left, if_false, if_true, reduceIte, Bool.false_eq_true, tIfS, tAnd, tOr, tNot, tTest, tOp, tUn, tVar, tC, rI, rI0, rU, tRet, tRetN, tAsg, gName, tNext, tAndV, tOrV, tNotV, tIf, tCall, tCons, tNil, tCB, tDrop, tLst, tTup, tChain, L2.start, List.map_cons, List.map_nil, List.length_cons, List.length_nil, List.replicate, List.cons_append, List.nil_append, List.getElem?_cons_zero, List.getElem?_cons_succ, List.set_cons_zero, List.set_cons_succ, Option.some.injEq, exists_eq_left', exists_eq_left, V.int.injEq, V.bl.injEq, V.ref.injEq, V.str.injEq, exists_const, and_true, true_and, reduceCtorEq, false_and, exists_false, or_false, false_or, and_assoc, List.append_nil]
                refine hR4 _ _ ⟨pa, pd, now, _, _, _, _, _, _, rfl, ⟨kvs', kvs2, _, _, _, O5, B5, k5 _ _ en4 (dd en4), k5 _ _ eA (dd eA), k5 _ _ ec4 (dd ec4), Paired.mapP r4 fun _ _ w => w.keep k5 hs5, by simp; omega, by omega, mm_put I.mm z h t, fun r hr => ?_, I.nxy, I.npq, I.nan, I.nac, I.k0, I.k1⟩, ⟨a', b', k5 _ _ ed4 (dd ed4)⟩, f1, f2, f3⟩
                rcases List.mem_append.mp hr with w | w
                · exact I.nam r w
                · rw [List.mem_singleton] at w
                  rw [w]
                  exact hz
              · refine ⟨⟨_, SqL.of I.en⟩, comp_list (xs := N4.map V.str) (by rw [sizeLine_eq]; decide) (fun D i acc H' => acc = ((N4.take i).filter (isB rs)).map V.str ∧ H' = upd H2 D (.lst acc)) (fun D hD => ⟨rfl, rfl⟩) ?_ ?_ ?_⟩
                · rintro D j acc H' hD hj ⟨rfl, rfl⟩
                  refine ⟨upd_same, (Same.upd_new hD).seq (SqL.of I.en), ?_⟩
                  rw [List.length_map]
                  have := List.length_filter_le (isB rs) (N4.take j)
                  rw [List.length_take] at this
                  omega
                · rintro D j zv acc H' hD hzv ⟨rfl, rfl⟩
                  rw [List.getElem?_map] at hzv
                  obtain ⟨y, hy, rfl⟩ := Option.map_eq_some_iff.mp hzv
                  have etk : N4.take (j + 1) = N4.take j ++ [y] := by rw [List.take_succ, hy]; rfl
                  have sD := Same.upd_new (o := .lst (((N4.take j).filter (isB rs)).map V.str)) hD
                  simp (maxSteps := 1000000) only [tFor_eq, tComp_eq, rRngs, rListR, HO.rng.injEq, tDKeys, rSortL, rSortK, ixN_10, ixN_20, ixN_21, ixN_30, ixN_31, ixN_32, ixN_40, ixN_41, ixN_42, ixN_43, ixN_50, ixN_51, ixN_52, ixN_53, ixN_54, rNe_nn, rEq_nn, rNe_in, rEq_in, rNe_ni, rEq_ni, gSeqX, rLeS, rEq_ss, rNe_ss, rStr1, rAllX, rAnyX, rListD, iStr, rSumX, tBL, tBL0, rExtend, rPopAt, rPop, rReverse, rClear, rIsIX, tyX_n, tyX_b, tyX_i, tyX_s, tyX_r, tyO_l, tyO_t, tyO_d, V.ty.injEq, kT_Noin, kT_Nobo, kT_Nost, kT_Noli, kT_Notu, kT_Nodi, kT_boin, kT_bobo, kT_bost, kT_boli, kT_botu, kT_bodi, kT_inin, kT_inbo, kT_inst, kT_inli, kT_intu, kT_indi, kT_stin, kT_stbo, kT_stst, kT_stli, kT_sttu, kT_stdi, kT_liin, kT_libo, kT_list, kT_lili, kT_litu, kT_lidi, kT_tuin, kT_tubo, kT_tust, kT_tuli, kT_tutu, kT_tudi, kT_diin, kT_dibo, kT_dist, kT_dili, kT_ditu, kT_didi, rGet, getO_l, getO_t, getO_di, getO_ds, rLenX, lenX_r, lenX_s', lenO_l, lenO_t, lenO_d, Option.bind_some, tTruX, truX_n, truX_b, truX_i, truX_r, truO_l, truO_t, truO_d, rInX, rNotInX, inO_l', inO_t', inO_di, inO_ds, rSetX, setO_l, setO_di', setO_ds', rSlX, rListX, seqO_l, seqO_t, rTupX, gTupX, gCons, gNil, gSub, atI_0, atI_1, atI_2, atI_3, tDNewK, Nat.reduceSub, upd_same, upd_upd, Nat.reduceLT, HO.lst.injEq, HO.tup.injEq, HO.dK.injEq, HO.ins.injEq, Option.map_some, Option.isSome_some, Int.reduceEq, Int.reduceLT, Int.reduceLE, Nat.reduceAdd, List.isEmpty_nil, List.isEmpty_cons, ne_eq, not_false_eq_true, tDGs, sDPs, rIsB, rIsntB, tMeth, tMake, tDGet, sDPut, tFld, sFld, tDisp, tPairs, tNever, decide_true, decide_false, truV_bl, clsV_ty, V.ty.injEq, exists_eq', exists_eq, Bool.not_true, Bool.not_false, Bool.not_not, rLen, rListOf, rTupOf, rAny, rAll, rIsI, tTru, iRng1, iRng2, iList, tYes, cSt, List.drop_succ_cons, List.drop_zero, cxOf_K, cxC_K,  tBM, tBM0, rAppend, tSl, rSlL, tNoPart, tPart, rIxL, rIxT, rCat, List.cons.injEq, rEq_ii, rNe_ii, rEq_bb, rNe_bb, tSeq, exists_and_left, if_false, if_true, reduceIte, Bool.false_eq_true, tIfS, tAnd, tOr, tNot, tTest, tOp, tUn, tVar, tC, rI, rI0, rU, tRet, tRetN, tAsg, gName, tNext, tAndV, tOrV, tNotV, tIf, tCall, tCons, tNil, tCB, tDrop, tLst, tTup, tChain, L2.start, List.map_cons, List.map_nil, List.length_cons, List.length_nil, List.replicate, List.cons_append, List.nil_append, List.getElem?_cons_zero, List.getElem?_cons_succ, List.set_cons_zero, List.set_cons_succ, Option.some.injEq, exists_eq_left', exists_eq_left, V.int.injEq, V.bl.injEq, V.ref.injEq, V.str.injEq, exists_const, and_true, true_and, reduceCtorEq, false_and, exists_false, or_false, false_or, and_assoc, List.append_nil, List.map_cons, List.map_nil, Option.join_some]
                  refine ⟨pa, xs, rs, y, rfl, sD _ _ I.ea, rows_same sD I.rows, by omega, fun v hv => ?_⟩
                  dsimp only
                  cases em : best rs y with
                  | none =>
                    rw [em] at hv
                    have hv : v = .non := hv
                    subst hv
                    simp (maxSteps := 1000000) only [tFor_eq, tComp_eq, rRngs, rListR, HO.rng.injEq, tDKeys, rSortL, rSortK, ixN_10, ixN_20, ixN_21, ixN_30, ixN_31, ixN_32, ixN_40, ixN_41, ixN_42, ixN_43, ixN_50, ixN_51, ixN_52, ixN_53, ixN_54, rNe_nn, rEq_nn, rNe_in, rEq_in, rNe_ni, rEq_ni, gSeqX, rLeS, rEq_ss, rNe_ss, rStr1, rAllX, rAnyX, rListD, iStr, rSumX, tBL, tBL0, rExtend, rPopAt, rPop, rReverse, rClear, rIsIX, tyX_n, tyX_b, tyX_i, tyX_s, tyX_r, tyO_l, tyO_t, tyO_d, V.ty.injEq, kT_Noin, kT_Nobo, kT_Nost, kT_Noli, kT_Notu, kT_Nodi, kT_boin, kT_bobo, kT_bost, kT_boli, kT_botu, kT_bodi, kT_inin, kT_inbo, kT_inst, kT_inli, kT_intu, kT_indi, kT_stin, kT_stbo, kT_stst, kT_stli, kT_sttu, kT_stdi, kT_liin, kT_libo, kT_list, kT_lili, kT_litu, kT_lidi, kT_tuin, kT_tubo, kT_tust, kT_tuli, kT_tutu, kT_tudi, kT_diin, kT_dibo, kT_dist, kT_dili, kT_ditu, kT_didi, rGet, getO_l, getO_t, getO_di, getO_ds, rLenX, lenX_r, lenX_s', lenO_l, lenO_t, lenO_d, Option.bind_some, tTruX, truX_n, truX_b, truX_i, truX_r, truO_l, truO_t, truO_d, rInX, rNotInX, inO_l', inO_t', inO_di, inO_ds, rSetX, setO_l, setO_di', setO_ds', rSlX, rListX, seqO_l, seqO_t, rTupX, gTupX, gCons, gNil, gSub, atI_0, atI_1, atI_2, atI_3, tDNewK, Nat.reduceSub, upd_same, upd_upd, Nat.reduceLT, HO.lst.injEq, HO.tup.injEq, HO.dK.injEq, HO.ins.injEq, Option.map_some, Option.isSome_some, Int.reduceEq, Int.reduceLT, Int.reduceLE, Nat.reduceAdd, List.isEmpty_nil, List.isEmpty_cons, ne_eq, not_false_eq_true, tDGs, sDPs, rIsB, rIsntB, tMeth, tMake, tDGet, sDPut, tFld, sFld, tDisp, tPairs, tNever, decide_true, decide_false, truV_bl, clsV_ty, V.ty.injEq, exists_eq', exists_eq, Bool.not_true, Bool.not_false, Bool.not_not, rLen, rListOf, rTupOf, rAny, rAll, rIsI, tTru, iRng1, iRng2, iList, tYes, cSt, List.drop_succ_cons, List.drop_zero, cxOf_K, cxC_K,  tBM, tBM0, rAppend, tSl, rSlL, tNoPart, tPart, rIxL, rIxT, rCat, List.cons.injEq, rEq_ii, rNe_ii, rEq_bb, rNe_bb, tSeq, exists_and_left, if_false, if_true, reduceIte, Bool.false_eq_true, tIfS, tAnd, tOr, tNot, tTest, tOp, tUn, tVar, tC, rI, rI0, rU, tRet, tRetN, tAsg, gName, tNext, tAndV, tOrV, tNotV, tIf, tCall, tCons, tNil, tCB, tDrop, tLst, tTup, tChain, L2.start, List.map_cons, List.map_nil, List.length_cons, List.length_nil, List.replicate, List.cons_append, List.nil_append, List.getElem?_cons_zero, List.getElem?_cons_succ, List.set_cons_zero, List.set_cons_succ, Option.some.injEq, exists_eq_left', exists_eq_left, V.int.injEq, V.bl.injEq, V.ref.injEq, V.str.injEq, exists_const, and_true, true_and, reduceCtorEq, false_and, exists_false, or_false, false_or, and_assoc, List.append_nil]
                    rw [etk, List.filter_append]
                    simp [isB, em]
                  | some rr =>
                    rw [em] at hv
                    obtain ⟨p2, rfl, e2⟩ := hv
                    simp (maxSteps := 1000000) only [tFor_eq, tComp_eq, rRngs, rListR, HO.rng.injEq, tDKeys, rSortL, rSortK, ixN_10, ixN_20, ixN_21, ixN_30, ixN_31, ixN_32, ixN_40, ixN_41, ixN_42, ixN_43, ixN_50, ixN_51, ixN_52, ixN_53, ixN_54, rNe_nn, rEq_nn, rNe_in, rEq_in, rNe_ni, rEq_ni, gSeqX, rLeS, rEq_ss, rNe_ss, rStr1, rAllX, rAnyX, rListD, iStr, rSumX, tBL, tBL0, rExtend, rPopAt, rPop, rReverse, rClear, rIsIX, tyX_n, tyX_b, tyX_i, tyX_s, tyX_r, tyO_l, tyO_t, tyO_d, V.ty.injEq, kT_Noin, kT_Nobo, kT_Nost, kT_Noli, kT_Notu, kT_Nodi, kT_boin, kT_bobo, kT_bost, kT_boli, kT_botu, kT_bodi, kT_inin, kT_inbo, kT_inst, kT_inli, kT_intu, kT_indi, kT_stin, kT_stbo, kT_stst, kT_stli, kT_sttu, kT_stdi, kT_liin, kT_libo, kT_list, kT_lili, kT_litu, kT_lidi, kT_tuin, kT_tubo, kT_tust, kT_tuli, kT_tutu, kT_tudi, kT_diin, kT_dibo, kT_dist, kT_dili, kT_ditu, kT_didi, rGet, getO_l, getO_t, getO_di, getO_ds, rLenX, lenX_r, lenX_s', lenO_l, lenO_t, lenO_d, Option.bind_some, tTruX, truX_n, truX_b, truX_i, truX_r, truO_l, truO_t, truO_d, rInX, rNotInX, inO_l', inO_t', inO_di, inO_ds, rSetX, setO_l, setO_di', setO_ds', rSlX, rListX, seqO_l, seqO_t, rTupX, gTupX, gCons, gNil, gSub, atI_0, atI_1, atI_2, atI_3, tDNewK, Nat.reduceSub, upd_same, upd_upd, Nat.reduceLT, HO.lst.injEq, HO.tup.injEq, HO.dK.injEq, HO.ins.injEq, Option.map_some, Option.isSome_some, Int.reduceEq, Int.reduceLT, Int.reduceLE, Nat.reduceAdd, List.isEmpty_nil, List.isEmpty_cons, ne_eq, not_false_eq_true, tDGs, sDPs, rIsB, rIsntB, tMeth, tMake, tDGet, sDPut, tFld, sFld, tDisp, tPairs, tNever, decide_true, decide_false, truV_bl, clsV_ty, V.ty.injEq, exists_eq', exists_eq, Bool.not_true, Bool.not_false, Bool.not_not, rLen, rListOf, rTupOf, rAny, rAll, rIsI, tTru, iRng1, iRng2, iList, tYes, cSt, List.drop_succ_cons, List.drop_zero, cxOf_K, cxC_K,  tBM, tBM0, rAppend, tSl, rSlL, tNoPart, tPart, rIxL, rIxT, rCat, List.cons.injEq, rEq_ii, rNe_ii, rEq_bb, rNe_bb, tSeq, exists_and_left, if_false, if_true, reduceIte, Bool.false_eq_true, tIfS, tAnd, tOr, tNot, tTest, tOp, tUn, tVar, tC, rI, rI0, rU, tRet, tRetN, tAsg, gName, tNext, tAndV, tOrV, tNotV, tIf, tCall, tCons, tNil, tCB, tDrop, tLst, tTup, tChain, L2.start, List.map_cons, List.map_nil, List.length_cons, List.length_nil, List.replicate, List.cons_append, List.nil_append, List.getElem?_cons_zero, List.getElem?_cons_succ, List.set_cons_zero, List.set_cons_succ, Option.some.injEq, exists_eq_left', exists_eq_left, V.int.injEq, V.bl.injEq, V.ref.injEq, V.str.injEq, exists_const, and_true, true_and, reduceCtorEq, false_and, exists_false, or_false, false_or, and_assoc, List.append_nil]
                    rw [etk, List.filter_append, List.map_append]
                    simp [isB, em]
                · rintro D acc H' hD ⟨rfl, rfl⟩
                  rw [List.length_map, List.take_length]
                  generalize zD : upd H2 D _ = HD
                  obtain ⟨sD, eD⟩ := new_same zD hD
                  have I1 := I.same sD
                  have hg4 := List.length_filter_le (isB rs) N4
                  have h4 : N4.length = 4 := rfl
                  refine ⟨D, rfl, ⟨_, SqL.of eD⟩, comp_list (xs := (N4.filter (isB rs)).map V.str) (by rw [sizeLine_eq, List.length_map]; omega) (fun D2 i acc H' => acc = (((N4.filter (isB rs)).take i).filter (frB rs now g.kp)).map V.str ∧ H' = upd HD D2 (.lst acc)) (fun D2 hD2 => ⟨rfl, rfl⟩) ?_ ?_ ?_⟩
                  · rintro D2 j acc H' hD2 hj ⟨rfl, rfl⟩
                    refine ⟨upd_same, (Same.upd_new hD2).seq (SqL.of eD), ?_⟩
                    rw [List.length_map]
                    have := List.length_filter_le (frB rs now g.kp) ((N4.filter (isB rs)).take j)
                    rw [List.length_take] at this
                    omega
                  · rintro D2 j zv acc H' hD2 hzv ⟨rfl, rfl⟩
                    rw [List.getElem?_map] at hzv
                    obtain ⟨y, hy, rfl⟩ := Option.map_eq_some_iff.mp hzv
                    have etk : (N4.filter (isB rs)).take (j + 1) = (N4.filter (isB rs)).take j ++ [y] := by rw [List.take_succ, hy]; rfl
                    have hyb : isB rs y = true := (List.mem_filter.mp (List.mem_of_getElem? hy)).2
                    have s2 := Same.upd_new (o := .lst ((((N4.filter (isB rs)).take j).filter (frB rs now g.kp)).map V.str)) hD2
                    simp (maxSteps := 1000000) only [tFor_eq, tComp_eq, rRngs, rListR, HO.rng.injEq, tDKeys, rSortL, rSortK, ixN_10, ixN_20, ixN_21, ixN_30, ixN_31, ixN_32, ixN_40, ixN_41, ixN_42, ixN_43, ixN_50, ixN_51, ixN_52, ixN_53, ixN_54, rNe_nn, rEq_nn, rNe_in, rEq_in, rNe_ni, rEq_ni, gSeqX, rLeS, rEq_ss, rNe_ss, rStr1, rAllX, rAnyX, rListD, iStr, rSumX, tBL, tBL0, rExtend, rPopAt, rPop, rReverse, rClear, rIsIX, tyX_n, tyX_b, tyX_i, tyX_s, tyX_r, tyO_l, tyO_t, tyO_d, V.ty.injEq, kT_Noin, kT_Nobo, kT_Nost, kT_Noli, kT_Notu, kT_Nodi, kT_boin, kT_bobo, kT_bost, kT_boli, kT_botu, kT_bodi, kT_inin, kT_inbo, kT_inst, kT_inli, kT_intu, kT_indi, kT_stin, kT_stbo, kT_stst, kT_stli, kT_sttu, kT_stdi, kT_liin, kT_libo, kT_list, kT_lili, kT_litu, kT_lidi, kT_tuin, kT_tubo, kT_tust, kT_tuli, kT_tutu, kT_tudi, kT_diin, kT_dibo, kT_dist, kT_dili, kT_ditu, kT_didi, rGet, getO_l, getO_t, getO_di, getO_ds, rLenX, lenX_r, lenX_s', lenO_l, lenO_t, lenO_d, Option.bind_some, tTruX, truX_n, truX_b, truX_i, truX_r, truO_l, truO_t, truO_d, rInX, rNotInX, inO_l', inO_t', inO_di, inO_ds, rSetX, setO_l, setO_di', setO_ds', rSlX, rListX, seqO_l, seqO_t, rTupX, gTupX, gCons, gNil, gSub, atI_0, atI_1, atI_2, atI_3, tDNewK, Nat.reduceSub, upd_same, upd_upd, Nat.reduceLT, HO.lst.injEq, HO.tup.injEq, HO.dK.injEq, HO.ins.injEq, Option.map_some, Option.isSome_some, Int.reduceEq, Int.reduceLT, Int.reduceLE, Nat.reduceAdd, List.isEmpty_nil, List.isEmpty_cons, ne_eq, not_false_eq_true, tDGs, sDPs, rIsB, rIsntB, tMeth, tMake, tDGet, sDPut, tFld, sFld, tDisp, tPairs, tNever, decide_true, decide_false, truV_bl, clsV_ty, V.ty.injEq, exists_eq', exists_eq, Bool.not_true, Bool.not_false, Bool.not_not, rLen, rListOf, rTupOf, rAny, rAll, rIsI, tTru, iRng1, iRng2, iList, tYes, cSt, List.drop_succ_cons, List.drop_zero, cxOf_K, cxC_K,  tBM, tBM0, rAppend, tSl, rSlL, tNoPart, tPart, rIxL, rIxT, rCat, List.cons.injEq, rEq_ii, rNe_ii, rEq_bb, rNe_bb, tSeq, exists_and_left, if_false, if_true, reduceIte, Bool.false_eq_true, tIfS, tAnd, tOr, tNot, tTest, tOp, tUn, tVar, tC, rI, rI0, rU, tRet, tRetN, tAsg, gName, tNext, tAndV, tOrV, tNotV, tIf, tCall, tCons, tNil, tCB, tDrop, tLst, tTup, tChain, L2.start, List.map_cons, List.map_nil, List.length_cons, List.length_nil, List.replicate, List.cons_append, List.nil_append, List.getElem?_cons_zero, List.getElem?_cons_succ, List.set_cons_zero, List.set_cons_succ, Option.some.injEq, exists_eq_left', exists_eq_left, V.int.injEq, V.bl.injEq, V.ref.injEq, V.str.injEq, exists_const, and_true, true_and, reduceCtorEq, false_and, exists_false, or_false, false_or, and_assoc, List.append_nil, List.map_cons, List.map_nil, Option.join_some]
                    refine ⟨pa, xs, rs, y, rfl, s2 _ _ I1.ea, rows_same s2 I1.rows, by omega, fun v hv => ?_⟩
                    dsimp only
                    cases em : best rs y with
                    | none =>
                      unfold isB at hyb
                      rw [em] at hyb
                      cases hyb
                    | some rr =>
                      rw [em] at hv
                      obtain ⟨p2, rfl, e2⟩ := hv
                      simp (maxSteps := 1000000) only [tFor_eq, tComp_eq, rRngs, rListR, HO.rng.injEq, tDKeys, rSortL, rSortK, ixN_10, ixN_20, ixN_21, ixN_30, ixN_31, ixN_32, ixN_40, ixN_41, ixN_42, ixN_43, ixN_50, ixN_51, ixN_52, ixN_53, ixN_54, rNe_nn, rEq_nn, rNe_in, rEq_in, rNe_ni, rEq_ni, gSeqX, rLeS, rEq_ss, rNe_ss, rStr1, rAllX, rAnyX, rListD, iStr, rSumX, tBL, tBL0, rExtend, rPopAt, rPop, rReverse, rClear, rIsIX, tyX_n, tyX_b, tyX_i, tyX_s, tyX_r, tyO_l, tyO_t, tyO_d, V.ty.injEq, kT_Noin, kT_Nobo, kT_Nost, kT_Noli, kT_Notu, kT_Nodi, kT_boin, kT_bobo, kT_bost, kT_boli, kT_botu, kT_bodi, kT_inin, kT_inbo, kT_inst, kT_inli, kT_intu, kT_indi, kT_stin, kT_stbo, kT_stst, kT_stli, kT_sttu, kT_stdi, kT_liin, kT_libo, kT_list, kT_lili, kT_litu, kT_lidi, kT_tuin, kT_tubo, kT_tust, kT_tuli, kT_tutu, kT_tudi, kT_diin, kT_dibo, kT_dist, kT_dili, kT_ditu, kT_didi, rGet, getO_l, getO_t, getO_di, getO_ds, rLenX, lenX_r, lenX_s', lenO_l, lenO_t, lenO_d, Option.bind_some, tTruX, truX_n, truX_b, truX_i, truX_r, truO_l, truO_t, truO_d, rInX, rNotInX, inO_l', inO_t', inO_di, inO_ds, rSetX, setO_l, setO_di', setO_ds', rSlX, rListX, seqO_l, seqO_t, rTupX, gTupX, gCons, gNil, gSub, atI_0, atI_1, atI_2, atI_3, tDNewK, Nat.reduceSub, upd_same, upd_upd, Nat.reduceLT, HO.lst.injEq, HO.tup.injEq, HO.dK.injEq, HO.ins.injEq, Option.map_some, Option.isSome_some, Int.reduceEq, Int.reduceLT, Int.reduceLE, Nat.reduceAdd, List.isEmpty_nil, List.isEmpty_cons, ne_eq, not_false_eq_true, tDGs, sDPs, rIsB, rIsntB, tMeth, tMake, tDGet, sDPut, tFld, sFld, tDisp, tPairs, tNever, decide_true, decide_false, truV_bl, clsV_ty, V.ty.injEq, exists_eq', exists_eq, Bool.not_true, Bool.not_false, Bool.not_not, rLen, rListOf, rTupOf, rAny, rAll, rIsI, tTru, iRng1, iRng2, iList, tYes, cSt, List.drop_succ_cons, List.drop_zero, cxOf_K, cxC_K,  tBM, tBM0, rAppend, tSl, rSlL, tNoPart, tPart, rIxL, rIxT, rCat, List.cons.injEq, rEq_ii, rNe_ii, rEq_bb, rNe_bb, tSeq, exists_and_left, if_false, if_true, reduceIte, Bool.false_eq_true, tIfS, tAnd, tOr, tNot, tTest, tOp, tUn, tVar, tC, rI, rI0, rU, tRet, tRetN, tAsg, gName, tNext, tAndV, tOrV, tNotV, tIf, tCall, tCons, tNil, tCB, tDrop, tLst, tTup, tChain, L2.start, List.map_cons, List.map_nil, List.length_cons, List.length_nil, List.replicate, List.cons_append, List.nil_append, List.getElem?_cons_zero, List.getElem?_cons_succ, List.set_cons_zero, List.set_cons_succ, Option.some.injEq, exists_eq_left', exists_eq_left, V.int.injEq, V.bl.injEq, V.ref.injEq, V.str.injEq, exists_const, and_true, true_and, reduceCtorEq, false_and, exists_false, or_false, false_or, and_assoc, List.append_nil, e2]
                      refine ite2 (fun hc => ?_) (fun hc => ?_)
                      · rw [etk, List.filter_append, List.map_append]
                        have : frB rs now g.kp y = true := by unfold frB; rw [em]; exact hc
                        simp [this, upd_upd]
                      · rw [etk, List.filter_append, List.map_append]
                        have : frB rs now g.kp y = false := by unfold frB; rw [em]; exact Bool.eq_false_iff.mpr hc
                        simp [this]
                  · rintro D2 acc H' hD2 ⟨rfl, rfl⟩
                    rw [List.length_map, List.take_length]
                    have eG : (N4.filter (isB rs)).filter (frB rs now g.kp) = good rs now g.kp := rfl
                    rw [eG]
                    generalize z2 : upd HD D2 _ = HE
                    obtain ⟨s2, e2⟩ := new_same z2 hD2
                    have I2 := I1.same s2
                    have ex2 := I2.near.ins
                    simp (maxSteps := 1000000) only [tFor_eq, tComp_eq, rRngs, rListR, HO.rng.injEq, tDKeys, rSortL, rSortK, ixN_10, ixN_20, ixN_21, ixN_30, ixN_31, ixN_32, ixN_40, ixN_41, ixN_42, ixN_43, ixN_50, ixN_51, ixN_52, ixN_53, ixN_54, rNe_nn, rEq_nn, rNe_in, rEq_in, rNe_ni, rEq_ni, gSeqX, rLeS, rEq_ss, rNe_ss, rStr1, rAllX, rAnyX, rListD, iStr, rSumX, tBL, tBL0, rExtend, rPopAt, rPop, rReverse, rClear, rIsIX, tyX_n, tyX_b, tyX_i, tyX_s, tyX_r, tyO_l, tyO_t, tyO_d, V.ty.injEq, kT_Noin, kT_Nobo, kT_Nost, kT_Noli, kT_Notu, kT_Nodi, kT_boin, kT_bobo, kT_bost, kT_boli, kT_botu, kT_bodi, kT_inin, kT_inbo, kT_inst, kT_inli, kT_intu, kT_indi, kT_stin, kT_stbo, kT_stst, kT_stli, kT_sttu, kT_stdi, kT_liin, kT_libo, kT_list, kT_lili, kT_litu, kT_lidi, kT_tuin, kT_tubo, kT_tust, kT_tuli, kT_tutu, kT_tudi, kT_diin, kT_dibo, kT_dist, kT_dili, kT_ditu, kT_didi, rGet, getO_l, getO_t, getO_di, getO_ds, rLenX, lenX_r, lenX_s', lenO_l, lenO_t, lenO_d, Option.bind_some, tTruX, truX_n, truX_b, truX_i, truX_r, truO_l, truO_t, truO_d, rInX, rNotInX, inO_l', inO_t', inO_di, inO_ds, rSetX, setO_l, setO_di', setO_ds', rSlX, rListX, seqO_l, seqO_t, rTupX, gTupX, gCons, gNil, gSub, atI_0, atI_1, atI_2, atI_3, tDNewK, Nat.reduceSub, upd_same, upd_upd, Nat.reduceLT, HO.lst.injEq, HO.tup.injEq, HO.dK.injEq, HO.ins.injEq, Option.map_some, Option.isSome_some, Int.reduceEq, Int.reduceLT, Int.reduceLE, Nat.reduceAdd, List.isEmpty_nil, List.isEmpty_cons, ne_eq, not_false_eq_true, tDGs, sDPs, rIsB, rIsntB, tMeth, tMake, tDGet, sDPut, tFld, sFld, tDisp, tPairs, tNever, decide_true, decide_false, truV_bl, clsV_ty, V.ty.injEq, exists_eq', exists_eq, Bool.not_true, Bool.not_false, Bool.not_not, rLen, rListOf, rTupOf, rAny, rAll, rIsI, tTru, iRng1, iRng2, iList, tYes, cSt, List.drop_succ_cons, List.drop_zero, cxOf_K, cxC_K,  tBM, tBM0, rAppend, tSl, rSlL, tNoPart, tPart, rIxL, rIxT, rCat, List.cons.injEq, rEq_ii, rNe_ii, rEq_bb, rNe_bb, tSeq, exists_and_left, if_false, if_true, reduceIte, Bool.false_eq_true, tIfS, tAnd, tOr, tNot, tTest, tOp, tUn, tVar, tC, rI, rI0, rU, tRet, tRetN, tAsg, gName, tNext, tAndV, tOrV, tNotV, tIf, tCall, tCons, tNil, tCB, tDrop, tLst, tTup, tChain, L2.start, List.map_cons, List.map_nil, List.length_cons, List.length_nil, List.replicate, List.cons_append, List.nil_append, List.getElem?_cons_zero, List.getElem?_cons_succ, List.set_cons_zero, List.set_cons_succ, Option.some.injEq, exists_eq_left', exists_eq_left, V.int.injEq, V.bl.injEq, V.ref.injEq, V.str.injEq, exists_const, and_true, true_and, reduceCtorEq, false_and, exists_false, or_false, false_or, and_assoc, List.append_nil, ex2, T_Near.cl, T_Near.no "keep" (by decide), T_Near.no "answers" (by decide), fs_Near_keep, fs_Near_answers, fn_Near___init__, fn_Near_put, fn_Near_is_fresh, fn_Near_find, fn_Near_thin, fl_Near, fp_Near_keep, fp_Near_answers, fq_Near_0, fq_Near_1]
                    refine ⟨g.x, g.dx, g.pg, g.kp, now, kvs, m, rfl, I2.near, by omega, fun kvs' H5 O5 hl5 k5 => ?_⟩
                    have hs5 : ∀ b ∈ [g.pg], NoT HE b := noT1 (.of_dK I2.near.dic)
                    have dd : ∀ {b : Addr} {l : List V}, HE b = some (.lst l) → b ∉ [g.pg] := fun {b l} e => by
                      rw [List.mem_singleton]
                      exact ne_of e I2.near.dic (by intro z; cases z)
                    have B5 := I2.besd.keep k5 hs5 (by simp; exact ne_of I2.besd.ins I2.near.dic (by intro z; cases z)) (by simp; exact Ne.symm I.npq)
                    have hcount : kvs'.length = (good rs now g.kp).length := O5.count good_nd (thin_good I.mm I.nam)
                    have e25 := k5 _ _ e2 (dd e2)
                    have ea5 := k5 _ _ I2.ea (dd I2.ea)
                    have en5 := k5 _ _ I2.en (dd I2.en)
                    have ec5 := k5 _ _ I2.ec (dd I2.ec)
                    have edE := s2 _ _ (sD _ _ ed)
                    have ed5 := k5 _ _ edE (dd edE)
                    have rows5 : Paired (RwV H5) xs rs := Paired.mapP I2.rows fun _ _ w => w.keep k5 hs5
                    have hlr := rows5.length
                    have hci : (kvs'.length : Int) = ((good rs now g.kp).length : Int) := by rw [hcount]
                    simp (maxSteps := 1000000) only [tFor_eq, tComp_eq, rRngs, rListR, HO.rng.injEq, tDKeys, rSortL, rSortK, ixN_10, ixN_20, ixN_21, ixN_30, ixN_31, ixN_32, ixN_40, ixN_41, ixN_42, ixN_43, ixN_50, ixN_51, ixN_52, ixN_53, ixN_54, rNe_nn, rEq_nn, rNe_in, rEq_in, rNe_ni, rEq_ni, gSeqX, rLeS, rEq_ss, rNe_ss, rStr1, rAllX, rAnyX, rListD, iStr, rSumX, tBL, tBL0, rExtend, rPopAt, rPop, rReverse, rClear, rIsIX, tyX_n, tyX_b, tyX_i, tyX_s, tyX_r, tyO_l, tyO_t, tyO_d, V.ty.injEq, kT_Noin, kT_Nobo, kT_Nost, kT_Noli, kT_Notu, kT_Nodi, kT_boin, kT_bobo, kT_bost, kT_boli, kT_botu, kT_bodi, kT_inin, kT_inbo, kT_inst, kT_inli, kT_intu, kT_indi, kT_stin, kT_stbo, kT_stst, kT_stli, kT_sttu, kT_stdi, kT_liin, kT_libo, kT_list, kT_lili, kT_litu, kT_lidi, kT_tuin, kT_tubo, kT_tust, kT_tuli, kT_tutu, kT_tudi, kT_diin, kT_dibo, kT_dist, kT_dili, kT_ditu, kT_didi, rGet, getO_l, getO_t, getO_di, getO_ds, rLenX, lenX_r, lenX_s', lenO_l, lenO_t, lenO_d, Option.bind_some, tTruX, truX_n, truX_b, truX_i, truX_r, truO_l, truO_t, truO_d, rInX, rNotInX, inO_l', inO_t', inO_di, inO_ds, rSetX, setO_l, setO_di', setO_ds', rSlX, rListX, seqO_l, seqO_t, rTupX, gTupX, gCons, gNil, gSub, atI_0, atI_1, atI_2, atI_3, tDNewK, Nat.reduceSub, upd_same, upd_upd, Nat.reduceLT, HO.lst.injEq, HO.tup.injEq, HO.dK.injEq, HO.ins.injEq, Option.map_some, Option.isSome_some, Int.reduceEq, Int.reduceLT, Int.reduceLE, Nat.reduceAdd, List.isEmpty_nil, List.isEmpty_cons, ne_eq, not_false_eq_true, tDGs, sDPs, rIsB, rIsntB, tMeth, tMake, tDGet, sDPut, tFld, sFld, tDisp, tPairs, tNever, decide_true, decide_false, truV_bl, clsV_ty, V.ty.injEq, exists_eq', exists_eq, Bool.not_true, Bool.not_false, Bool.not_not, rLen, rListOf, rTupOf, rAny, rAll, rIsI, tTru, iRng1, iRng2, iList, tYes, cSt, List.drop_succ_cons, List.drop_zero, cxOf_K, cxC_K,  tBM, tBM0, rAppend, tSl, rSlL, tNoPart, tPart, rIxL, rIxT, rCat, List.cons.injEq, rEq_ii, rNe_ii, rEq_bb, rNe_bb, tSeq, exists_and_left, if_false, if_true, reduceIte, Bool.false_eq_true, tIfS, tAnd, tOr, tNot, tTest, tOp, tUn, tVar, tC, rI, rI0, rU, tRet, tRetN, tAsg, gName, tNext, tAndV, tOrV, tNotV, tIf, tCall, tCons, tNil, tCB, tDrop, tLst, tTup, tChain, L2.start, List.map_cons, List.map_nil, List.length_cons, List.length_nil, List.replicate, List.cons_append, List.nil_append, List.getElem?_cons_zero, List.getElem?_cons_succ, List.set_cons_zero, List.set_cons_succ, Option.some.injEq, exists_eq_left', exists_eq_left, V.int.injEq, V.bl.injEq, V.ref.injEq, V.str.injEq, exists_const, and_true, true_and, reduceCtorEq, false_and, exists_false, or_false, false_or, and_assoc, List.append_nil, e25, ea5, List.length_map, hci]
                    have hpaH5 : ∀ {b : Addr}, H5 b = none → HE b = none := fun {b} h => by
                      by_cases e : b = g.pg
                      · rw [e, O5.dic] at h; cases h
                      · cases w : HE b with
                        | none => rfl
                        | some o => rw [k5 _ _ w (by simp; exact e)] at h; cases h
                    refine ⟨⟨_, SqL.of ea5⟩, comp_list (xs := xs) (by rw [sizeLine_eq]; omega) (fun D3 i acc H' => H' = upd H5 D3 (.lst acc) ∧ Paired (RwV H5) acc ((rs.take i).filter fun r => decide (r.1 ∈ good rs now g.kp)) ∧ acc.length ≤ i) (fun D3 hD3 => ⟨rfl, .nil, Nat.le_refl _⟩) ?_ ?_ ?_⟩
                    · rintro D3 j acc H' hD3 hj ⟨rfl, hp, hl⟩
                      exact ⟨upd_same, (Same.upd_new hD3).seq (SqL.of ea5), hl⟩
                    · rintro D3 j rv acc H' hD3 hrv ⟨rfl, hp, hl⟩
                      obtain ⟨rr, hrr, p, rfl, ep⟩ := paired_get rows5 hrv
                      have etk : rs.take (j + 1) = rs.take j ++ [rr] := by rw [List.take_succ, hrr]; rfl
                      have s3 := Same.upd_new (o := .lst acc) hD3
                      have ep3 := s3 _ _ ep
                      have e23 := s3 _ _ e25
                      have ins := @in_strs rr.1 (good rs now g.kp)
                      rw [inO_l'] at ins
                      simp (maxSteps := 1000000) only [tFor_eq, tComp_eq, rRngs, rListR, HO.rng.injEq, tDKeys, rSortL, rSortK, ixN_10, ixN_20, ixN_21, ixN_30, ixN_31, ixN_32, ixN_40, ixN_41, ixN_42, ixN_43, ixN_50, ixN_51, ixN_52, ixN_53, ixN_54, rNe_nn, rEq_nn, rNe_in, rEq_in, rNe_ni, rEq_ni, gSeqX, rLeS, rEq_ss, rNe_ss, rStr1, rAllX, rAnyX, rListD, iStr, rSumX, tBL, tBL0, rExtend, rPopAt, rPop, rReverse, rClear, rIsIX, tyX_n, tyX_b, tyX_i, tyX_s, tyX_r, tyO_l, tyO_t, tyO_d, V.ty.injEq, kT_Noin, kT_Nobo, kT_Nost, kT_Noli, kT_Notu, kT_Nodi, kT_boin, kT_bobo, kT_bost, kT_boli, kT_botu, kT_bodi, kT_inin, kT_inbo, kT_inst, kT_inli, kT_intu, kT_indi, kT_stin, kT_stbo, kT_stst, kT_stli, kT_sttu, kT_stdi, kT_liin, kT_libo, kT_list, kT_lili, kT_litu, kT_lidi, kT_tuin, kT_tubo, kT_tust, kT_tuli, kT_tutu, kT_tudi, kT_diin, kT_dibo, kT_dist, kT_dili, kT_ditu, kT_didi, rGet, getO_l, getO_t, getO_di, getO_ds, rLenX, lenX_r, lenX_s', lenO_l, lenO_t, lenO_d, Option.bind_some, tTruX, truX_n, truX_b, truX_i, truX_r, truO_l, truO_t, truO_d, rInX, rNotInX, inO_l', inO_t', inO_di, inO_ds, rSetX, setO_l, setO_di', setO_ds', rSlX, rListX, seqO_l, seqO_t, rTupX, gTupX, gCons, gNil, gSub, atI_0, atI_1, atI_2, atI_3, tDNewK, Nat.reduceSub, upd_same, upd_upd, Nat.reduceLT, HO.lst.injEq, HO.tup.injEq, HO.dK.injEq, HO.ins.injEq, Option.map_some, Option.isSome_some, Int.reduceEq, Int.reduceLT, Int.reduceLE, Nat.reduceAdd, List.isEmpty_nil, List.isEmpty_cons, ne_eq, not_false_eq_true, tDGs, sDPs, rIsB, rIsntB, tMeth, tMake, tDGet, sDPut, tFld, sFld, tDisp, tPairs, tNever, decide_true, decide_false, truV_bl, clsV_ty, V.ty.injEq, exists_eq', exists_eq, Bool.not_true, Bool.not_false, Bool.not_not, rLen, rListOf, rTupOf, rAny, rAll, rIsI, tTru, iRng1, iRng2, iList, tYes, cSt, List.drop_succ_cons, List.drop_zero, cxOf_K, cxC_K,  tBM, tBM0, rAppend, tSl, rSlL, tNoPart, tPart, rIxL, rIxT, rCat, List.cons.injEq, rEq_ii, rNe_ii, rEq_bb, rNe_bb, tSeq, exists_and_left, if_false, if_true, reduceIte, Bool.false_eq_true, tIfS, tAnd, tOr, tNot, tTest, tOp, tUn, tVar, tC, rI, rI0, rU, tRet, tRetN, tAsg, gName, tNext, tAndV, tOrV, tNotV, tIf, tCall, tCons, tNil, tCB, tDrop, tLst, tTup, tChain, L2.start, List.map_cons, List.map_nil, List.length_cons, List.length_nil, List.replicate, List.cons_append, List.nil_append, List.getElem?_cons_zero, List.getElem?_cons_succ, List.set_cons_zero, List.set_cons_succ, Option.some.injEq, exists_eq_left', exists_eq_left, V.int.injEq, V.bl.injEq, V.ref.injEq, V.str.injEq, exists_const, and_true, true_and, reduceCtorEq, false_and, exists_false, or_false, false_or, and_assoc, List.append_nil, List.map_cons, List.map_nil, Option.join_some, ep3, e23, ins]
                      refine ite2 (fun hc => ?_) (fun hc => ?_)
                      · refine ⟨?_, by rw [List.length_append, List.length_singleton]; omega⟩
                        rw [etk, List.filter_append]
                        refine paired_append hp ?_
                        rw [List.filter_cons_of_pos (p := fun r : Rw => decide (r.1 ∈ good rs now g.kp)) hc]
                        exact .cons ⟨p, rfl, ep⟩ .nil
                      · refine ⟨?_, by omega⟩
                        rw [etk, List.filter_append, List.filter_cons_of_neg (p := fun r : Rw => decide (r.1 ∈ good rs now g.kp)) hc]
                        simpa using hp
                    · rintro D3 acc H' hD3 ⟨rfl, hp, hl⟩
                      rw [List.take_of_length_le (by omega)] at hp
                      generalize z3 : upd H5 D3 _ = H6
                      obtain ⟨s3, e3⟩ := new_same z3 hD3
                      exact hR4 _ _ ⟨D3, pd, now, _, _, _, _, _, _, rfl, ⟨kvs', kvs2, _, acc, _, O5.same s3, B5.same s3, s3 _ _ en5, e3, s3 _ _ ec5, rows_same s3 hp, by omega, by omega, mm_thin I.mm I.nam, fun r hr => I.nam r (List.mem_filter.mp hr).1, I.nxy, I.npq, Ne.symm (ne_of_none en5 hD3), Ne.symm (ne_of_none ec5 hD3), I.k0, I.k1⟩, ⟨a, b, s3 _ _ ed5⟩, f1, ne_of_none ed5 hD3, f3⟩
              · have Iu : Iw C g pa kvs kvs2 m xs rs (i + 1) H2 := ⟨I.near, I.besd, I.en, I.ea, I.ec, I.rows, by omega, by omega, I.mm, I.nam, I.nxy, I.npq, I.nan, I.nac, I.k0, I.k1⟩
                exact hR4 _ _ ⟨pa, pd, now, _, _, _, _, _, _, rfl, ⟨kvs, kvs2, m, xs, rs, Iu⟩, ⟨a, b, ed⟩, f1, f2, f3⟩
            case key4 =>
              rintro σ H3 ⟨pa, pd, now, v8, v10, v11, v12, v13, v14, rfl, J⟩
              simp (maxSteps := 1000000) only [tFor_eq, tComp_eq, rRngs, rListR, HO.rng.injEq, tDKeys, rSortL, rSortK, ixN_10, ixN_20, ixN_21, ixN_30, ixN_31, ixN_32, ixN_40, ixN_41, ixN_42, ixN_43, ixN_50, ixN_51, ixN_52, ixN_53, ixN_54, rNe_nn, rEq_nn, rNe_in, rEq_in, rNe_ni, rEq_ni, gSeqX, rLeS, rEq_ss, rNe_ss, rStr1, rAllX, rAnyX, rListD, iStr, rSumX, tBL, tBL0, rExtend, rPopAt, rPop, rReverse, rClear, rIsIX, tyX_n, tyX_b, tyX_i, tyX_s, tyX_r, tyO_l, tyO_t, tyO_d, V.ty.injEq, kT_Noin, kT_Nobo, kT_Nost, kT_Noli, kT_Notu, kT_Nodi, kT_boin, kT_bobo, kT_bost, kT_boli, kT_botu, kT_bodi, kT_inin, kT_inbo, kT_inst, kT_inli, kT_intu, kT_indi, kT_stin, kT_stbo, kT_stst, kT_stli, kT_sttu, kT_stdi, kT_liin, kT_libo, kT_list, kT_lili, kT_litu, kT_lidi, kT_tuin, kT_tubo, kT_tust, kT_tuli, kT_tutu, kT_tudi, kT_diin, kT_dibo, kT_dist, kT_dili, kT_ditu, kT_didi, rGet, getO_l, getO_t, getO_di, getO_ds, rLenX, lenX_r, lenX_s', lenO_l, lenO_t, lenO_d, Option.bind_some, tTruX, truX_n, truX_b, truX_i, truX_r, truO_l, truO_t, truO_d, rInX, rNotInX, inO_l', inO_t', inO_di, inO_ds, rSetX, setO_l, setO_di', setO_ds', rSlX, rListX, seqO_l, seqO_t, rTupX, gTupX, gCons, gNil, gSub, atI_0, atI_1, atI_2, atI_3, tDNewK, Nat.reduceSub, upd_same, upd_upd, Nat.reduceLT, HO.lst.injEq, HO.tup.injEq, HO.dK.injEq, HO.ins.injEq, Option.map_some, Option.isSome_some, Int.reduceEq, Int.reduceLT, Int.reduceLE, Nat.reduceAdd, List.isEmpty_nil, List.isEmpty_cons, ne_eq, not_false_eq_true, tDGs, sDPs, rIsB, rIsntB, tMeth, tMake, tDGet, sDPut, tFld, sFld, tDisp, tPairs, tNever, decide_true, decide_false, truV_bl, clsV_ty, V.ty.injEq, exists_eq', exists_eq, Bool.not_true, Bool.not_false, Bool.not_not, rLen, rListOf, rTupOf, rAny, rAll, rIsI, tTru, iRng1, iRng2, iList, tYes, cSt, List.drop_succ_cons, List.drop_zero, cxOf_K, cxC_K,  tBM, tBM0, rAppend, tSl, rSlL, tNoPart, tPart, rIxL, rIxT, rCat, List.cons.injEq, rEq_ii, rNe_ii, rEq_bb, rNe_bb, tSeq, exists_and_left, if_false, if_true, reduceIte, Bool.false_eq_true, tIfS, tAnd, tOr, tNot, tTest, tOp, tUn, tVar, tC, rI, rI0, rU, tRet, tRetN, tAsg, gName, tNext, tAndV, tOrV, tNotV, tIf, tCall, tCons, tNil, tCB, tDrop, tLst, tTup, tChain, L2.start, List.map_cons, List.map_nil, List.length_cons, List.length_nil, List.replicate, List.cons_append, List.nil_append, List.getElem?_cons_zero, List.getElem?_cons_succ, List.set_cons_zero, List.set_cons_succ, Option.some.injEq, exists_eq_left', exists_eq_left, V.int.injEq, V.bl.injEq, V.ref.injEq, V.str.injEq, exists_const, and_true, true_and, reduceCtorEq, false_and, exists_false, or_false, false_or, and_assoc, List.append_nil, sg]
              refine nx_ok J (by decide) (by decide) fun r1 H4 _ _ J4 k4 => nx_ok J4 (by decide) (by decide) fun r2 H5 _ _ J5 k5 => ⟨r2, rfl, by decide, ?_⟩
              intro p6 n6
              generalize z6 : upd H5 p6 _ = H6
              obtain ⟨s6, e6⟩ := new_same z6 n6
              have np6 : p6 ≠ pd := fun w => by
                obtain ⟨_, ⟨a', b', e'⟩, _⟩ := J5
                rw [w, e'] at n6; cases n6
              refine nx_ok (J5.same s6) (by decide) (by decide) fun r3 H7 h3 h3' J7 k7 => ?_
              obtain ⟨wv, hwv, ewv⟩ := atI_in (xs := [V.int 0, V.int r1, V.int (0 - r2)]) (k := r3) h3 (by simp only [List.length_cons, List.length_nil]; omega)
              obtain ⟨bk, rfl⟩ : ∃ bk : Int, wv = .int bk := by
                simp only [List.mem_cons, List.not_mem_nil, or_false] at hwv
                rcases hwv with rfl | rfl | rfl <;> exact ⟨_, rfl⟩
              refine ⟨_, k7 _ _ e6 (by simp; exact np6), _, ewv, _, rfl, nx_ok J7 (by decide) (by decide) fun r4 H8 h4 h4' J8 k8 => ?_⟩
              obtain ⟨Z8, _⟩ := J8
              obtain ⟨kvs, kvs2, m, xs, rs, I⟩ := id Z8
              refine ⟨r4, rfl, ⟨by decide, by decide⟩, _, I.en, ?_⟩
              have ecut : cutV (N4.map V.str) none (some (r4 / 4)) = (N4.take (r4 / 4).toNat).map V.str := by rw [cutV_take _ (by omega), List.map_take]
              rw [ecut]
              intro p9 n9
              generalize z9 : upd H8 p9 _ = H9
              obtain ⟨s9, e9⟩ := new_same z9 n9
              refine ⟨by decide, ?_⟩
              intro p10 n10
              generalize z10 : upd H9 p10 _ = H10
              obtain ⟨s10, e10⟩ := new_same z10 n10
              obtain ⟨sv, hsv, esv⟩ := atI_in (xs := [V.ref g.pn, V.ref p9]) (k := r / 9 % 2) (by omega) (by simp only [List.length_cons, List.length_nil]; omega)
              have I10 := (I.same s9).same s10
              have hlen := I.len
              obtain ⟨pq, zs, rfl, epq, hzs⟩ : ∃ (pq : Addr) (zs : List Str), sv = .ref pq ∧ H10 pq = some (.lst (zs.map V.str)) ∧ zs.length ≤ 4 := by
                simp only [List.mem_cons, List.not_mem_nil, or_false] at hsv
                rcases hsv with rfl | rfl
                · exact ⟨_, N4, rfl, I10.en, Nat.le_refl _⟩
                · exact ⟨_, _, rfl, s10 _ _ e9, by rw [List.length_take]; have : N4.length = 4 := rfl; omega⟩
              refine ⟨⟨by decide, by decide⟩, _, esv, g.x, g.dx, g.pg, pa, pq, g.kp, _, kvs, m, xs, rs, zs, rfl, I10.near, I10.ea, I10.rows, by omega, epq, by omega, I10.mm, fun H11 s11 => ?_⟩
              simp (maxSteps := 1000000) only [tFor_eq, tComp_eq, rRngs, rListR, HO.rng.injEq, tDKeys, rSortL, rSortK, ixN_10, ixN_20, ixN_21, ixN_30, ixN_31, ixN_32, ixN_40, ixN_41, ixN_42, ixN_43, ixN_50, ixN_51, ixN_52, ixN_53, ixN_54, rNe_nn, rEq_nn, rNe_in, rEq_in, rNe_ni, rEq_ni, gSeqX, rLeS, rEq_ss, rNe_ss, rStr1, rAllX, rAnyX, rListD, iStr, rSumX, tBL, tBL0, rExtend, rPopAt, rPop, rReverse, rClear, rIsIX, tyX_n, tyX_b, tyX_i, tyX_s, tyX_r, tyO_l, tyO_t, tyO_d, V.ty.injEq, kT_Noin, kT_Nobo, kT_Nost, kT_Noli, kT_Notu, kT_Nodi, kT_boin, kT_bobo, kT_bost, kT_boli, kT_botu, kT_bodi, kT_inin, kT_inbo, kT_inst, kT_inli, kT_intu, kT_indi, kT_stin, kT_stbo, kT_stst, kT_stli, kT_sttu, kT_stdi, kT_liin, kT_libo, kT_list, kT_lili, kT_litu, kT_lidi, kT_tuin, kT_tubo, kT_tust, kT_tuli, kT_tutu, kT_tudi, kT_diin, kT_dibo, kT_dist, kT_dili, kT_ditu, kT_didi, rGet, getO_l, getO_t, getO_di, getO_ds, rLenX, lenX_r, lenX_s', lenO_l, lenO_t, lenO_d, Option.bind_some, tTruX, truX_n, truX_b, truX_i, truX_r, truO_l, truO_t, truO_d, rInX, rNotInX, inO_l', inO_t', inO_di, inO_ds, rSetX, setO_l, setO_di', setO_ds', rSlX, rListX, seqO_l, seqO_t, rTupX, gTupX, gCons, gNil, gSub, atI_0, atI_1, atI_2, atI_3, tDNewK, Nat.reduceSub, upd_same, upd_upd, Nat.reduceLT, HO.lst.injEq, HO.tup.injEq, HO.dK.injEq, HO.ins.injEq, Option.map_some, Option.isSome_some, Int.reduceEq, Int.reduceLT, Int.reduceLE, Nat.reduceAdd, List.isEmpty_nil, List.isEmpty_cons, ne_eq, not_false_eq_true, tDGs, sDPs, rIsB, rIsntB, tMeth, tMake, tDGet, sDPut, tFld, sFld, tDisp, tPairs, tNever, decide_true, decide_false, truV_bl, clsV_ty, V.ty.injEq, exists_eq', exists_eq, Bool.not_true, Bool.not_false, Bool.not_not, rLen, rListOf, rTupOf, rAny, rAll, rIsI, tTru, iRng1, iRng2, iList, tYes, cSt, List.drop_succ_cons, List.drop_zero, cxOf_K, cxC_K,  tBM, tBM0, rAppend, tSl, rSlL, tNoPart, tPart, rIxL, rIxT, rCat, List.cons.injEq, rEq_ii, rNe_ii, rEq_bb, rNe_bb, tSeq, exists_and_left, if_false, if_true, reduceIte, Bool.false_eq_true, tIfS, tAnd, tOr, tNot, tTest, tOp, tUn, tVar, tC, rI, rI0, rU, tRet, tRetN, tAsg, gName, tNext, tAndV, tOrV, tNotV, tIf, tCall, tCons, tNil, tCB, tDrop, tLst, tTup, tChain, L2.start, List.map_cons, List.map_nil, List.length_cons, List.length_nil, List.replicate, List.cons_append, List.nil_append, List.getElem?_cons_zero, List.getElem?_cons_succ, List.set_cons_zero, List.set_cons_succ, Option.some.injEq, exists_eq_left', exists_eq_left, V.int.injEq, V.bl.injEq, V.ref.injEq, V.str.injEq, exists_const, and_true, true_and, reduceCtorEq, false_and, exists_false, or_false, false_or, and_assoc, List.append_nil]
              exact ⟨pa, now, _, _, _, _, _, _, _, rfl, kvs, kvs2, m, xs, rs, I10.same s11⟩
        · rintro σ H' ⟨pa, now, v8, v9, v10, v11, v12, v13, v14, rfl, kvs, kvs2, m, xs, rs, I⟩
          have hlen := I.len
          have hcl : (cs.map V.int).length = cs.length := List.length_map ..
          simp (maxSteps := 1000000) only [tFor_eq, tComp_eq, rRngs, rListR, HO.rng.injEq, tDKeys, rSortL, rSortK, ixN_10, ixN_20, ixN_21, ixN_30, ixN_31, ixN_32, ixN_40, ixN_41, ixN_42, ixN_43, ixN_50, ixN_51, ixN_52, ixN_53, ixN_54, rNe_nn, rEq_nn, rNe_in, rEq_in, rNe_ni, rEq_ni, gSeqX, rLeS, rEq_ss, rNe_ss, rStr1, rAllX, rAnyX, rListD, iStr, rSumX, tBL, tBL0, rExtend, rPopAt, rPop, rReverse, rClear, rIsIX, tyX_n, tyX_b, tyX_i, tyX_s, tyX_r, tyO_l, tyO_t, tyO_d, V.ty.injEq, kT_Noin, kT_Nobo, kT_Nost, kT_Noli, kT_Notu, kT_Nodi, kT_boin, kT_bobo, kT_bost, kT_boli, kT_botu, kT_bodi, kT_inin, kT_inbo, kT_inst, kT_inli, kT_intu, kT_indi, kT_stin, kT_stbo, kT_stst, kT_stli, kT_sttu, kT_stdi, kT_liin, kT_libo, kT_list, kT_lili, kT_litu, kT_lidi, kT_tuin, kT_tubo, kT_tust, kT_tuli, kT_tutu, kT_tudi, kT_diin, kT_dibo, kT_dist, kT_dili, kT_ditu, kT_didi, rGet, getO_l, getO_t, getO_di, getO_ds, rLenX, lenX_r, lenX_s', lenO_l, lenO_t, lenO_d, Option.bind_some, tTruX, truX_n, truX_b, truX_i, truX_r, truO_l, truO_t, truO_d, rInX, rNotInX, inO_l', inO_t', inO_di, inO_ds, rSetX, setO_l, setO_di', setO_ds', rSlX, rListX, seqO_l, seqO_t, rTupX, gTupX, gCons, gNil, gSub, atI_0, atI_1, atI_2, atI_3, tDNewK, Nat.reduceSub, upd_same, upd_upd, Nat.reduceLT, HO.lst.injEq, HO.tup.injEq, HO.dK.injEq, HO.ins.injEq, Option.map_some, Option.isSome_some, Int.reduceEq, Int.reduceLT, Int.reduceLE, Nat.reduceAdd, List.isEmpty_nil, List.isEmpty_cons, ne_eq, not_false_eq_true, tDGs, sDPs, rIsB, rIsntB, tMeth, tMake, tDGet, sDPut, tFld, sFld, tDisp, tPairs, tNever, decide_true, decide_false, truV_bl, clsV_ty, V.ty.injEq, exists_eq', exists_eq, Bool.not_true, Bool.not_false, Bool.not_not, rLen, rListOf, rTupOf, rAny, rAll, rIsI, tTru, iRng1, iRng2, iList, tYes, cSt, List.drop_succ_cons, List.drop_zero, cxOf_K, cxC_K,  tBM, tBM0, rAppend, tSl, rSlL, tNoPart, tPart, rIxL, rIxT, rCat, List.cons.injEq, rEq_ii, rNe_ii, rEq_bb, rNe_bb, tSeq, exists_and_left, if_false, if_true, reduceIte, Bool.false_eq_true, tIfS, tAnd, tOr, tNot, tTest, tOp, tUn, tVar, tC, rI, rI0, rU, tRet, tRetN, tAsg, gName, tNext, tAndV, tOrV, tNotV, tIf, tCall, tCons, tNil, tCB, tDrop, tLst, tTup, tChain, L2.start, List.map_cons, List.map_nil, List.length_cons, List.length_nil, List.replicate, List.cons_append, List.nil_append, List.getElem?_cons_zero, List.getElem?_cons_succ, List.set_cons_zero, List.set_cons_succ, Option.some.injEq, exists_eq_left', exists_eq_left, V.int.injEq, V.bl.injEq, V.ref.injEq, V.str.injEq, exists_const, and_true, true_and, reduceCtorEq, false_and, exists_false, or_false, false_or, and_assoc, List.append_nil, sg]
          refine ⟨g.x, g.dx, g.pg, pa, g.pn, g.kp, now, kvs, m, xs, rs, N4, rfl, I.near, I.ea, I.rows, by omega, I.en, by decide, I.mm, fun H4 s4 => ?_⟩
          have I4 := I.same s4
          have ey4 := I4.besd.ins
          have ex4 := I4.near.ins
          simp (maxSteps := 1000000) only [tFor_eq, tComp_eq, rRngs, rListR, HO.rng.injEq, tDKeys, rSortL, rSortK, ixN_10, ixN_20, ixN_21, ixN_30, ixN_31, ixN_32, ixN_40, ixN_41, ixN_42, ixN_43, ixN_50, ixN_51, ixN_52, ixN_53, ixN_54, rNe_nn, rEq_nn, rNe_in, rEq_in, rNe_ni, rEq_ni, gSeqX, rLeS, rEq_ss, rNe_ss, rStr1, rAllX, rAnyX, rListD, iStr, rSumX, tBL, tBL0, rExtend, rPopAt, rPop, rReverse, rClear, rIsIX, tyX_n, tyX_b, tyX_i, tyX_s, tyX_r, tyO_l, tyO_t, tyO_d, V.ty.injEq, kT_Noin, kT_Nobo, kT_Nost, kT_Noli, kT_Notu, kT_Nodi, kT_boin, kT_bobo, kT_bost, kT_boli, kT_botu, kT_bodi, kT_inin, kT_inbo, kT_inst, kT_inli, kT_intu, kT_indi, kT_stin, kT_stbo, kT_stst, kT_stli, kT_sttu, kT_stdi, kT_liin, kT_libo, kT_list, kT_lili, kT_litu, kT_lidi, kT_tuin, kT_tubo, kT_tust, kT_tuli, kT_tutu, kT_tudi, kT_diin, kT_dibo, kT_dist, kT_dili, kT_ditu, kT_didi, rGet, getO_l, getO_t, getO_di, getO_ds, rLenX, lenX_r, lenX_s', lenO_l, lenO_t, lenO_d, Option.bind_some, tTruX, truX_n, truX_b, truX_i, truX_r, truO_l, truO_t, truO_d, rInX, rNotInX, inO_l', inO_t', inO_di, inO_ds, rSetX, setO_l, setO_di', setO_ds', rSlX, rListX, seqO_l, seqO_t, rTupX, gTupX, gCons, gNil, gSub, atI_0, atI_1, atI_2, atI_3, tDNewK, Nat.reduceSub, upd_same, upd_upd, Nat.reduceLT, HO.lst.injEq, HO.tup.injEq, HO.dK.injEq, HO.ins.injEq, Option.map_some, Option.isSome_some, Int.reduceEq, Int.reduceLT, Int.reduceLE, Nat.reduceAdd, List.isEmpty_nil, List.isEmpty_cons, ne_eq, not_false_eq_true, tDGs, sDPs, rIsB, rIsntB, tMeth, tMake, tDGet, sDPut, tFld, sFld, tDisp, tPairs, tNever, decide_true, decide_false, truV_bl, clsV_ty, V.ty.injEq, exists_eq', exists_eq, Bool.not_true, Bool.not_false, Bool.not_not, rLen, rListOf, rTupOf, rAny, rAll, rIsI, tTru, iRng1, iRng2, iList, tYes, cSt, List.drop_succ_cons, List.drop_zero, cxOf_K, cxC_K,  tBM, tBM0, rAppend, tSl, rSlL, tNoPart, tPart, rIxL, rIxT, rCat, List.cons.injEq, rEq_ii, rNe_ii, rEq_bb, rNe_bb, tSeq, exists_and_left, if_false, if_true, reduceIte, Bool.false_eq_true, tIfS, tAnd, tOr, tNot, tTest, tOp, tUn, tVar, tC, rI, rI0, rU, tRet, tRetN, tAsg, gName, tNext, tAndV, tOrV, tNotV, tIf, tCall, tCons, tNil, tCB, tDrop, tLst, tTup, tChain, L2.start, List.map_cons, List.map_nil, List.length_cons, List.length_nil, List.replicate, List.cons_append, List.nil_append, List.getElem?_cons_zero, List.getElem?_cons_succ, List.set_cons_zero, List.set_cons_succ, Option.some.injEq, exists_eq_left', exists_eq_left, V.int.injEq, V.bl.injEq, V.ref.injEq, V.str.injEq, exists_const, and_true, true_and, reduceCtorEq, false_and, exists_false, or_false, false_or, and_assoc, List.append_nil, ey4, T_Near.cl, T_Near.no "keep" (by decide), T_Near.no "answers" (by decide), fs_Near_keep, fs_Near_answers, fn_Near___init__, fn_Near_put, fn_Near_is_fresh, fn_Near_find, fn_Near_thin, fl_Near, fp_Near_keep, fp_Near_answers, fq_Near_0, fq_Near_1]
          refine ⟨⟨by decide, by decide, by decide⟩, g.y, g.dy, g.qg, g.kp + 1, _, _, kvs2, mB, rfl, I4.besd, ?_⟩
          have f1 : fnd mB (g.kp + 1) (Str.ofString "ab") (10 ^ Int.toNat 32 + g.kp + 1) = some 11 := by
            have h1 : mB (Str.ofString "ab") = some (some 11, 10 ^ 32) := by
              unfold mB newM
              exact if_pos ⟨rfl, rfl⟩
            unfold fnd
            rw [h1]
            show (if (10 : Int) ^ 32 + g.kp + 1 - 10 ^ 32 ≤ g.kp + 1 then some (11 : Int) else none) = _
            rw [if_pos (by omega)]
          have f2 : fnd mB (g.kp + 1) (Str.ofString "a") 0 = none := by
            have h1 : mB (Str.ofString "a") = none := by
              unfold mB newM
              exact if_neg (fun w => absurd w.1 (by decide))
            unfold fnd
            rw [h1]
          have f3 : fnd m g.kp (Str.ofString "never") now = none := by
            have h1 : m (Str.ofString "never") = none := by
              rw [I.mm, best_no fun r hr e => absurd (e ▸ I.nam r hr) (by decide)]
              rfl
            unfold fnd
            rw [h1]
          rw [f1]
          show rNe (.int 11) (.int 11) H4 _
          simp (maxSteps := 1000000) only [tFor_eq, tComp_eq, rRngs, rListR, HO.rng.injEq, tDKeys, rSortL, rSortK, ixN_10, ixN_20, ixN_21, ixN_30, ixN_31, ixN_32, ixN_40, ixN_41, ixN_42, ixN_43, ixN_50, ixN_51, ixN_52, ixN_53, ixN_54, rNe_nn, rEq_nn, rNe_in, rEq_in, rNe_ni, rEq_ni, gSeqX, rLeS, rEq_ss, rNe_ss, rStr1, rAllX, rAnyX, rListD, iStr, rSumX, tBL, tBL0, rExtend, rPopAt, rPop, rReverse, rClear, rIsIX, tyX_n, tyX_b, tyX_i, tyX_s, tyX_r, tyO_l, tyO_t, tyO_d, V.ty.injEq, kT_Noin, kT_Nobo, kT_Nost, kT_Noli, kT_Notu, kT_Nodi, kT_boin, kT_bobo, kT_bost, kT_boli, kT_botu, kT_bodi, kT_inin, kT_inbo, kT_inst, kT_inli, kT_intu, kT_indi, kT_stin, kT_stbo, kT_stst, kT_stli, kT_sttu, kT_stdi, kT_liin, kT_libo, kT_list, kT_lili, kT_litu, kT_lidi, kT_tuin, kT_tubo, kT_tust, kT_tuli, kT_tutu, kT_tudi, kT_diin, kT_dibo, kT_dist, kT_dili, kT_ditu, kT_didi, rGet, getO_l, getO_t, getO_di, getO_ds, rLenX, lenX_r, lenX_s', lenO_l, lenO_t, lenO_d, Option.bind_some, tTruX, truX_n, truX_b, truX_i, truX_r, truO_l, truO_t, truO_d, rInX, rNotInX, inO_l', inO_t', inO_di, inO_ds, rSetX, setO_l, setO_di', setO_ds', rSlX, rListX, seqO_l, seqO_t, rTupX, gTupX, gCons, gNil, gSub, atI_0, atI_1, atI_2, atI_3, tDNewK, Nat.reduceSub, upd_same, upd_upd, Nat.reduceLT, HO.lst.injEq, HO.tup.injEq, HO.dK.injEq, HO.ins.injEq, Option.map_some, Option.isSome_some, Int.reduceEq, Int.reduceLT, Int.reduceLE, Nat.reduceAdd, List.isEmpty_nil, List.isEmpty_cons, ne_eq, not_false_eq_true, tDGs, sDPs, rIsB, rIsntB, tMeth, tMake, tDGet, sDPut, tFld, sFld, tDisp, tPairs, tNever, decide_true, decide_false, truV_bl, clsV_ty, V.ty.injEq, exists_eq', exists_eq, Bool.not_true, Bool.not_false, Bool.not_not, rLen, rListOf, rTupOf, rAny, rAll, rIsI, tTru, iRng1, iRng2, iList, tYes, cSt, List.drop_succ_cons, List.drop_zero, cxOf_K, cxC_K,  tBM, tBM0, rAppend, tSl, rSlL, tNoPart, tPart, rIxL, rIxT, rCat, List.cons.injEq, rEq_ii, rNe_ii, rEq_bb, rNe_bb, tSeq, exists_and_left, if_false, if_true, reduceIte, Bool.false_eq_true, tIfS, tAnd, tOr, tNot, tTest, tOp, tUn, tVar, tC, rI, rI0, rU, tRet, tRetN, tAsg, gName, tNext, tAndV, tOrV, tNotV, tIf, tCall, tCons, tNil, tCB, tDrop, tLst, tTup, tChain, L2.start, List.map_cons, List.map_nil, List.length_cons, List.length_nil, List.replicate, List.cons_append, List.nil_append, List.getElem?_cons_zero, List.getElem?_cons_succ, List.set_cons_zero, List.set_cons_succ, Option.some.injEq, exists_eq_left', exists_eq_left, V.int.injEq, V.bl.injEq, V.ref.injEq, V.str.injEq, exists_const, and_true, true_and, reduceCtorEq, false_and, exists_false, or_false, false_or, and_assoc, List.append_nil, ey4, T_Near.cl, T_Near.no "keep" (by decide), T_Near.no "answers" (by decide), fs_Near_keep, fs_Near_answers, fn_Near___init__, fn_Near_put, fn_Near_is_fresh, fn_Near_find, fn_Near_thin, fl_Near, fp_Near_keep, fp_Near_answers, fq_Near_0, fq_Near_1]
          refine ⟨g.y, g.dy, g.qg, g.kp + 1, _, _, kvs2, mB, rfl, I4.besd, ?_⟩
          rw [f2]
          show (if (!decide (V.non = V.non)) = true then _ else _)
          simp (maxSteps := 1000000) only [tFor_eq, tComp_eq, rRngs, rListR, HO.rng.injEq, tDKeys, rSortL, rSortK, ixN_10, ixN_20, ixN_21, ixN_30, ixN_31, ixN_32, ixN_40, ixN_41, ixN_42, ixN_43, ixN_50, ixN_51, ixN_52, ixN_53, ixN_54, rNe_nn, rEq_nn, rNe_in, rEq_in, rNe_ni, rEq_ni, gSeqX, rLeS, rEq_ss, rNe_ss, rStr1, rAllX, rAnyX, rListD, iStr, rSumX, tBL, tBL0, rExtend, rPopAt, rPop, rReverse, rClear, rIsIX, tyX_n, tyX_b, tyX_i, tyX_s, tyX_r, tyO_l, tyO_t, tyO_d, V.ty.injEq, kT_Noin, kT_Nobo, kT_Nost, kT_Noli, kT_Notu, kT_Nodi, kT_boin, kT_bobo, kT_bost, kT_boli, kT_botu, kT_bodi, kT_inin, kT_inbo, kT_inst, kT_inli, kT_intu, kT_indi, kT_stin, kT_stbo, kT_stst, kT_stli, kT_sttu, kT_stdi, kT_liin, kT_libo, kT_list, kT_lili, kT_litu, kT_lidi, kT_tuin, kT_tubo, kT_tust, kT_tuli, kT_tutu, kT_tudi, kT_diin, kT_dibo, kT_dist, kT_dili, kT_ditu, kT_didi, rGet, getO_l, getO_t, getO_di, getO_ds, rLenX, lenX_r, lenX_s', lenO_l, lenO_t, lenO_d, Option.bind_some, tTruX, truX_n, truX_b, truX_i, truX_r, truO_l, truO_t, truO_d, rInX, rNotInX, inO_l', inO_t', inO_di, inO_ds, rSetX, setO_l, setO_di', setO_ds', rSlX, rListX, seqO_l, seqO_t, rTupX, gTupX, gCons, gNil, gSub, atI_0, atI_1, atI_2, atI_3, tDNewK, Nat.reduceSub, upd_same, upd_upd, Nat.reduceLT, HO.lst.injEq, HO.tup.injEq, HO.dK.injEq, HO.ins.injEq, Option.map_some, Option.isSome_some, Int.reduceEq, Int.reduceLT, Int.reduceLE, Nat.reduceAdd, List.isEmpty_nil, List.isEmpty_cons, ne_eq, not_false_eq_true, tDGs, sDPs, rIsB, rIsntB, tMeth, tMake, tDGet, sDPut, tFld, sFld, tDisp, tPairs, tNever, decide_true, decide_false, truV_bl, clsV_ty, V.ty.injEq, exists_eq', exists_eq, Bool.not_true, Bool.not_false, Bool.not_not, rLen, rListOf, rTupOf, rAny, rAll, rIsI, tTru, iRng1, iRng2, iList, tYes, cSt, List.drop_succ_cons, List.drop_zero, cxOf_K, cxC_K,  tBM, tBM0, rAppend, tSl, rSlL, tNoPart, tPart, rIxL, rIxT, rCat, List.cons.injEq, rEq_ii, rNe_ii, rEq_bb, rNe_bb, tSeq, exists_and_left, if_false, if_true, reduceIte, Bool.false_eq_true, tIfS, tAnd, tOr, tNot, tTest, tOp, tUn, tVar, tC, rI, rI0, rU, tRet, tRetN, tAsg, gName, tNext, tAndV, tOrV, tNotV, tIf, tCall, tCons, tNil, tCB, tDrop, tLst, tTup, tChain, L2.start, List.map_cons, List.map_nil, List.length_cons, List.length_nil, List.replicate, List.cons_append, List.nil_append, List.getElem?_cons_zero, List.getElem?_cons_succ, List.set_cons_zero, List.set_cons_succ, Option.some.injEq, exists_eq_left', exists_eq_left, V.int.injEq, V.bl.injEq, V.ref.injEq, V.str.injEq, exists_const, and_true, true_and, reduceCtorEq, false_and, exists_false, or_false, false_or, and_assoc, List.append_nil, ex4, T_Near.cl, T_Near.no "keep" (by decide), T_Near.no "answers" (by decide), fs_Near_keep, fs_Near_answers, fn_Near___init__, fn_Near_put, fn_Near_is_fresh, fn_Near_find, fn_Near_thin, fl_Near, fp_Near_keep, fp_Near_answers, fq_Near_0, fq_Near_1]
          refine ⟨g.x, g.dx, g.pg, g.kp, _, _, kvs, m, rfl, I4.near, ?_⟩
          rw [f3]
          show Q (V.bl (decide (V.non = V.non))) H4
          rw [decide_eq_true rfl]
          exact q _
end
end K57
namespace K57
open PySem L2
section
variable {P : Program} {w : World} {K : PySem.W.Frag} {mg : Str → Option Value} {C : Addr}
theorem mk_Near {h : Heap} (X : K.In h) (G : h.Ns mainGlobals mg) {C f0 f1 f2 f3 f4 : Addr} {od0 an0 od1 an1 od2 an2 od3 an3 od4 an4 : Option Addr} {sl0 sl1 sl2 sl3 sl4 : Array (Option Value)} {oc0 kV0 dc0 pm0 cd0 ct0 oc1 kV1 dc1 pm1 cd1 ct1 oc2 kV2 dc2 pm2 cd2 ct2 oc3 kV3 dc3 pm3 cd3 ct3 oc4 kV4 dc4 pm4 cd4 ct4 : Value}
    (aC : PySem.W.nsIn K mainGlobals "Near" = some (some (.ref C))) (pg : PySem.W.plainGet K C Str.empty = true) (hd : PySem.W.hasDictIn K C = true) (po : PySem.W.plainOver K C = true) (sa : PySem.W.findIn K (.ref C) "__setattr__" = some (some (.builtin "object.__setattr__")))
    (n0 : PySem.W.findIn K (.ref C) "keep" = some none) (n1 : PySem.W.findIn K (.ref C) "answers" = some none) (mk : PySem.W.makesIn K C = true) (kc : PySem.W.keepIn K (.ref C) = true)
    (a0 : PySem.W.findIn K (.ref C) "__init__" = some (some (.ref f0))) (i0 : PySem.W.isFn K (.ref f0) = true) (l0 : K.lookup f0 = some ⟨oc0, od0, .func (PySem.W.fnOf "__init__" "Near.__init__" (defArgs s_Near___init__) (defBody s_Near___init__) (defScope s_Near___init__) .none kV0 dc0 pm0 an0 cd0 ct0), sl0⟩) (c0 : PySem.W.codeIn K cd0 "Near.__init__" = true) (k0 : PySem.W.keepIn K (.ref f0) = true)
    (a1 : PySem.W.findIn K (.ref C) "put" = some (some (.ref f1))) (i1 : PySem.W.isFn K (.ref f1) = true) (l1 : K.lookup f1 = some ⟨oc1, od1, .func (PySem.W.fnOf "put" "Near.put" (defArgs s_Near_put) (defBody s_Near_put) (defScope s_Near_put) .none kV1 dc1 pm1 an1 cd1 ct1), sl1⟩) (c1 : PySem.W.codeIn K cd1 "Near.put" = true) (k1 : PySem.W.keepIn K (.ref f1) = true)
    (a2 : PySem.W.findIn K (.ref C) "is_fresh" = some (some (.ref f2))) (i2 : PySem.W.isFn K (.ref f2) = true) (l2 : K.lookup f2 = some ⟨oc2, od2, .func (PySem.W.fnOf "is_fresh" "Near.is_fresh" (defArgs s_Near_is_fresh) (defBody s_Near_is_fresh) (defScope s_Near_is_fresh) .none kV2 dc2 pm2 an2 cd2 ct2), sl2⟩) (c2 : PySem.W.codeIn K cd2 "Near.is_fresh" = true) (k2 : PySem.W.keepIn K (.ref f2) = true)
    (a3 : PySem.W.findIn K (.ref C) "find" = some (some (.ref f3))) (i3 : PySem.W.isFn K (.ref f3) = true) (l3 : K.lookup f3 = some ⟨oc3, od3, .func (PySem.W.fnOf "find" "Near.find" (defArgs s_Near_find) (defBody s_Near_find) (defScope s_Near_find) .none kV3 dc3 pm3 an3 cd3 ct3), sl3⟩) (c3 : PySem.W.codeIn K cd3 "Near.find" = true) (k3 : PySem.W.keepIn K (.ref f3) = true)
    (a4 : PySem.W.findIn K (.ref C) "thin" = some (some (.ref f4))) (i4 : PySem.W.isFn K (.ref f4) = true) (l4 : K.lookup f4 = some ⟨oc4, od4, .func (PySem.W.fnOf "thin" "Near.thin" (defArgs s_Near_thin) (defBody s_Near_thin) (defScope s_Near_thin) .none kV4 dc4 pm4 an4 cd4 ct4), sl4⟩) (c4 : PySem.W.codeIn K cd4 "Near.thin" = true) (k4 : PySem.W.keepIn K (.ref f4) = true)
    : ∃ C, ClsD K mg "Near" C at_Near ∧ DefI K C "Near.__init__" s_Near___init__ ∧ DefM K C "put" "Near.put" s_Near_put ∧ DefM K C "is_fresh" "Near.is_fresh" s_Near_is_fresh ∧ DefM K C "find" "Near.find" s_Near_find ∧ DefM K C "thin" "Near.thin" s_Near_thin := by
  refine ⟨C, ⟨PySem.W.mg_of X G aC, ⟨pg, hd, po, sa⟩, fun f hf => ?_⟩, defI_mk a0 i0 l0 c0 k0 mk kc, defM_mk a1 i1 l1 c1 k1, defM_mk a2 i2 l2 c2 k2, defM_mk a3 i3 l3 c3 k3, defM_mk a4 i4 l4 c4 k4⟩
  simp only [List.mem_cons, List.not_mem_nil, or_false] at hf
  rcases hf with rfl | rfl
  · exact n0
  · exact n1
theorem last {fa : Addr} (E1 : DefI K C "Near.__init__" s_Near___init__) (E2 : DefM K C "put" "Near.put" s_Near_put) (E3 : DefM K C "is_fresh" "Near.is_fresh" s_Near_is_fresh) (E4 : DefM K C "find" "Near.find" s_Near_find) (E5 : DefM K C "thin" "Near.thin" s_Near_thin)
    (D1 : Def K mg "_law_draw" s__law_draw) (D2 : Def K mg "_law_next" s__law_next) (D3 : Def K mg "_law_best" s__law_best) (D4 : Def K mg "_law_due" s__law_due) (D5 : Def K mg "_law_forty" s__law_forty) (D6 : Def K mg "_law_found" s__law_found) (D7 : Def K mg "_law_answer" s__law_answer) (DE : Def K mg "law" s_law)
    (T : ClsD K mg "Near" C at_Near) (hb : Blt mg) (hsum : mg "sum" = none) (hmg : mg "law" = some (.ref fa)) :
    ∃ fd : FuncData, (∀ (s : Shared) (u : Value), BindsTo s fd ⟨[u], []⟩ [("_law_script", u)]) ∧ ∀ base : Heap, K.In base → base.Ns mainGlobals mg → FnOk P w K mg base CX0 4 fa fd ["_law_script"] (sp_law K) := by
  obtain ⟨f, fd, hm, F⟩ := DE
  have e := hmg.symm.trans hm
  cases e
  refine ⟨fd, ?_, fun base _ _ => ?_⟩
  · obtain ⟨oc, od, kV, doc, pm, an, cdv, ct, osl, rfl, lk, hcd⟩ := F.ex
    exact fun s u => .of_eq rfl
  · have fr : OwnM P w K mg base 1 C "is_fresh" ["self", "name", "turn"] (sp_fresh C) := own_fresh E3 hb T
    have fi : OwnM P w K mg base 2 C "find" ["self", "name", "turn"] (sp_find C) := own_find E4 hb T fr
    have th : OwnM P w K mg base 2 C "thin" ["self", "turn"] (sp_thin C) := own_thin E5 hb T fr
    exact law_fn F hb hsum T (own_ninit E1 T) (own_nput E2 hb T) fi th (own_draw D1) (own_next D2) (own_best D3) (own_found D6 hb T fi (own_due D4 (own_best D3))) (own_answer D7 hb (own_next D2)) (own_forty D5 hb T (own_ninit E1 T) (own_nput E2 hb T) fi th)
end
end K57
open PySem PySem.W PyProof.Rows
set_option maxHeartbeats 0 in
theorem PySem.Challenge.cw_roadnet_k57_answers_kept_near_holds : PySem.Challenge.rw_roadnet_k57_answers_kept_near.Holds := by
  w_on; o_law; k_head; (case hw => w_witness2)
  k_fill
  refine L2.walk_ofK (l := PySem.Challenge.rw_roadnet_k57_answers_kept_near) (n := 63) (k := 4) (x := "_law_script") (CX := L2.CX0) (sp := K57.sp_law) rfl (by decide) rfl ⟨rfl, by decide, by decide⟩ (fun w h Y => PySem.W.kIn_of Y) ?F (fun _ _ a ns hl _ hS => ⟨a, ns, rfl, hS, hl, fun _ => rfl⟩) fun _ _ _ _ z => z
  case F =>
    intro w mg fa h KX G hmg
    have D__law_draw : L2.Def (L2.KOf KX) mg "_law_draw" K57.s__law_draw := by
      dsimp only [L2.KOf]
      refine' L2.def_mk KX G ?a ?l ?c ?k
      (case a => k_is); (case l => k_is); (case c => k_is); (case k => k_is)
    have D__law_next : L2.Def (L2.KOf KX) mg "_law_next" K57.s__law_next := by
      dsimp only [L2.KOf]
      refine' L2.def_mk KX G ?a ?l ?c ?k
      (case a => k_is); (case l => k_is); (case c => k_is); (case k => k_is)
    have D__law_best : L2.Def (L2.KOf KX) mg "_law_best" K57.s__law_best := by
      dsimp only [L2.KOf]
      refine' L2.def_mk KX G ?a ?l ?c ?k
      (case a => k_is); (case l => k_is); (case c => k_is); (case k => k_is)
    have D__law_due : L2.Def (L2.KOf KX) mg "_law_due" K57.s__law_due := by
      dsimp only [L2.KOf]
      refine' L2.def_mk KX G ?a ?l ?c ?k
      (case a => k_is); (case l => k_is); (case c => k_is); (case k => k_is)
    have D__law_forty : L2.Def (L2.KOf KX) mg "_law_forty" K57.s__law_forty := by
      dsimp only [L2.KOf]
      refine' L2.def_mk KX G ?a ?l ?c ?k
      (case a => k_is); (case l => k_is); (case c => k_is); (case k => k_is)
    have D__law_found : L2.Def (L2.KOf KX) mg "_law_found" K57.s__law_found := by
      dsimp only [L2.KOf]
      refine' L2.def_mk KX G ?a ?l ?c ?k
      (case a => k_is); (case l => k_is); (case c => k_is); (case k => k_is)
    have D__law_answer : L2.Def (L2.KOf KX) mg "_law_answer" K57.s__law_answer := by
      dsimp only [L2.KOf]
      refine' L2.def_mk KX G ?a ?l ?c ?k
      (case a => k_is); (case l => k_is); (case c => k_is); (case k => k_is)
    have D_law : L2.Def (L2.KOf KX) mg "law" K57.s_law := by
      dsimp only [L2.KOf]
      refine' L2.def_mk KX G ?a ?l ?c ?k
      (case a => k_is); (case l => k_is); (case c => k_is); (case k => k_is)
    have Z_Near : ∃ C, L2.ClsD (L2.KOf KX) mg "Near" C K57.at_Near ∧ L2.DefI (L2.KOf KX) C "Near.__init__" K57.s_Near___init__ ∧ L2.DefM (L2.KOf KX) C "put" "Near.put" K57.s_Near_put ∧ L2.DefM (L2.KOf KX) C "is_fresh" "Near.is_fresh" K57.s_Near_is_fresh ∧ L2.DefM (L2.KOf KX) C "find" "Near.find" K57.s_Near_find ∧ L2.DefM (L2.KOf KX) C "thin" "Near.thin" K57.s_Near_thin := by
      dsimp only [L2.KOf]
      refine' K57.mk_Near KX G ?aC ?pg ?hd ?po ?sa ?n0 ?n1 ?mk ?kc ?a0 ?i0 ?l0 ?c0 ?k0 ?a1 ?i1 ?l1 ?c1 ?k1 ?a2 ?i2 ?l2 ?c2 ?k2 ?a3 ?i3 ?l3 ?c3 ?k3 ?a4 ?i4 ?l4 ?c4 ?k4
      (case aC => k_is)
      (case pg => k_is)
      (case hd => k_is)
      (case po => k_is)
      (case sa => k_is)
      (case n0 => k_is)
      (case n1 => k_is)
      (case mk => k_is)
      (case kc => k_is)
      (case a0 => k_is)
      (case i0 => k_is)
      (case l0 => k_is)
      (case c0 => k_is)
      (case k0 => k_is)
      (case a1 => k_is)
      (case i1 => k_is)
      (case l1 => k_is)
      (case c1 => k_is)
      (case k1 => k_is)
      (case a2 => k_is)
      (case i2 => k_is)
      (case l2 => k_is)
      (case c2 => k_is)
      (case k2 => k_is)
      (case a3 => k_is)
      (case i3 => k_is)
      (case l3 => k_is)
      (case c3 => k_is)
      (case k3 => k_is)
      (case a4 => k_is)
      (case i4 => k_is)
      (case l4 => k_is)
      (case c4 => k_is)
      (case k4 => k_is)
    obtain ⟨C_Near, T_Near, DI_Near, DM_Near_put, DM_Near_is_fresh, DM_Near_find, DM_Near_thin⟩ := Z_Near
    have hb : L2.Blt mg := by
      refine' L2.blt_mk (K := L2.KOf KX) KX G ?b1 ?b2 ?b3 ?b4 ?b5 ?b6 ?b7 ?b8 ?b9 ?b10 ?b11 ?b12 ?b13
      all_goals (dsimp only [L2.KOf]; k_is)
    have hsum : mg "sum" = none := by
      have z : PySem.W.nsIn (L2.KOf KX) mainGlobals "sum" = some none := by
        dsimp only [L2.KOf]
        k_is
      exact PySem.W.mg_none_of KX G z
    exact K57.last DI_Near DM_Near_put DM_Near_is_fresh DM_Near_find DM_Near_thin D__law_draw D__law_next D__law_best D__law_due D__law_forty D__law_found D__law_answer D_law T_Near hb hsum hmg
#print axioms PySem.Challenge.cw_roadnet_k57_answers_kept_near_holds
